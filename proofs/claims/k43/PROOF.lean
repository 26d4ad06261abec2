import PyProof.Rows.All
import Wide.All
import OpenK.AllK
import Wide.FinOn
import Lean
import PyProof.EqAt
import PyProof.EqKinds
import PyProof.TupleCall
import KE.BitLaws
import KE.KRevIter
import PyProof.P3In
import PySem.Challenge.RW_canonwheel_k43_all_partners
set_option Elab.async false
set_option compiler.extract_closed false
set_option genSizeOf false
set_option genSizeOfSpec false
set_option bootstrap.genMatcherCode false
set_option linter.all false
set_option maxRecDepth 100000
namespace Au
theorem h1 (h:True:=by first|exact .inl rfl|exact .inr rfl|assumption):True:=h
theorem h2 (h:True:=by decide):True:=h
theorem h3 (h:True:=by first|exact nobehind _ (by decide) (by decide)|rfl):True:=h
theorem h4 (h:True:=by intro _; rfl):True:=h
theorem h5 (h:True:=by rfl):True:=h
theorem h6 (h:True:=by first|exact Or.inl rfl|exact Or.inr (Or.inl rfl)|exact Or.inr (Or.inr rfl)):True:=h
theorem h7 (h:True:=by intro _ _ z; cases z):True:=h
theorem h8 (h:True:=by intro _ _; rfl):True:=h
theorem h9 (h:True:=by with_unfolding_all rfl):True:=h
end Au
namespace L2
open PySem PySem.Spec PyProof.Rows
noncomputable abbrev Key:=Sum Int Str
noncomputable def keyIs:Key->Value->Bool
 | .inl k,v=>Value.isInt k v
 | .inr x,v=>Value.isStrOf x v
noncomputable def keyH (w:World):Key->Int
 | .inl k=>hashInt k
 | .inr x=>hashStr w x
theorem keyIs_shape:∀ {k:Key} {v:Value},keyIs k v=true->(∃ i t,k=Sum.inl i/\v=Value.int i t)\/(∃ x t,k=Sum.inr x/\v=Value.str x t)
 | .inl i,v,h=>by
  obtain⟨t,e⟩:=Value.isInt_shape (k:=i) (v:=v) h
  exact .inl ⟨i,t,rfl,e⟩
 | .inr x,v,h=>by
  obtain⟨t,e⟩:=Value.isStrOf_shape (x:=x) (v:=v) h
  exact .inr ⟨x,t,rfl,e⟩
theorem keyIs_int (i:Int)(t:Tok):keyIs (.inl i) (.int i t)=true:=by simp[keyIs,Value.isInt]
theorem keyIs_str (x:Str)(t:Tok):keyIs (.inr x) (.str x t)=true:=by simp[keyIs,Value.isStrOf]
theorem key_ll (a b:Int):decide ((Sum.inl a:Key)=Sum.inl b)=(a == b):=by
 by_cases e:a=b
 ·subst e; simp
 ·have h:¬ (Sum.inl a:Key)=Sum.inl b:=fun q=>e (Sum.inl.inj q)
  rw[decide_eq_false h]
  exact(beq_eq_false_iff_ne.mpr e).symm
theorem key_rr (a b:Str):decide ((Sum.inr a:Key)=Sum.inr b)=decide (a=b):=by
 by_cases e:a=b
 ·subst e; simp
 ·have h:¬ (Sum.inr a:Key)=Sum.inr b:=fun q=>e (Sum.inr.inj q)
  rw[decide_eq_false h,decide_eq_false e]
theorem key_lr (a:Int)(b:Str):decide ((Sum.inl a:Key)=Sum.inr b)=false:=decide_eq_false (fun q=>nomatch q)
theorem key_rl (a:Str)(b:Int):decide ((Sum.inr a:Key)=Sum.inl b)=false:=decide_eq_false (fun q=>nomatch q)
noncomputable def mixKind (prog:Program)(w:World):PySem.KeyKind prog w Key where
 is:=keyIs
 hash:=keyH w
 inj:=fun v a b ha hb=>by
  rcases keyIs_shape ha with ⟨i,t,rfl,rfl⟩|⟨x,t,rfl,rfl⟩
  ·rcases keyIs_shape hb with ⟨j,u,rfl,e⟩|⟨y,u,rfl,e⟩
   ·injection e with e1 _; rw[e1]
   ·exact nomatch e
  ·rcases keyIs_shape hb with ⟨j,u,rfl,e⟩|⟨y,u,rfl,e⟩
   ·exact nomatch e
   ·injection e with e1 _; rw[e1]
 byValue:=fun k v h=>by
  rcases keyIs_shape h with ⟨i,t,rfl,rfl⟩|⟨x,t,rfl,rfl⟩ <;>rfl
 pyHash:=fun hv h=>by
  rcases keyIs_shape hv with ⟨i,t,rfl,rfl⟩|⟨x,t,rfl,rfl⟩
  ·exact wpAny_pyHash_int h
  ·exact wpAny_pyHash_str h
 eqBool:=fun hu hv h=>by
  rcases keyIs_shape hu with ⟨i,t,rfl,rfl⟩|⟨x,t,rfl,rfl⟩
  ·rcases keyIs_shape hv with ⟨j,u,rfl,rfl⟩|⟨y,u,rfl,rfl⟩
   ·rw[key_ll] at h; exact wpAny_eqBool_int h
   ·rw[key_lr] at h; exact SeqAt.EqAt.int_str i t y u _ _ _ _ h
  ·rcases keyIs_shape hv with ⟨j,u,rfl,rfl⟩|⟨y,u,rfl,rfl⟩
   ·rw[key_rl] at h; exact SeqAt.EqAt.str_int x t j u _ _ _ _ h
   ·rw[key_rr] at h; exact wpAny_eqBool_str h
 «strs»:=fun k x t v h=>by
  rcases keyIs_shape h with ⟨i,u,rfl,e⟩|⟨y,u,rfl,e⟩
  ·exact nomatch e
  ·injection e with e1 _
   subst e1
   cases v <;>rfl
theorem mixKind_int (prog:Program)(w:World)(i:Int)(t:Tok):(mixKind prog w).is (.inl i) (.int i t)=true:=keyIs_int i t
theorem mixKind_str (prog:Program)(w:World)(x:Str)(t:Tok):(mixKind prog w).is (.inr x) (.str x t)=true:=keyIs_str x t
inductive V where
 | non|bl (b:Bool)|int (i:Int)|str (x:Str)|byt (b:Array UInt8)|flt (b:UInt64)|ref (a:Addr)|ty (n:String)
 deriving DecidableEq
noncomputable def RelV:V->Value->Prop
 | .non,u=>u=Value.none
 | .bl b,u=>u=Value.bool b
 | .int i,u=>∃ t,u=Value.int i t
 | .str x,u=>∃ t,u=Value.str x t
 | .byt b,u=>∃ t,u=Value.bytes b t
 | .flt b,u=>∃ t,u=Value.float b t
 | .ref a,u=>u=Value.ref a
 | .ty n,u=>u=Value.type n
noncomputable abbrev Vals:List V->List Value->Prop:=Paired RelV
theorem Vals.length {xs:List V}{us:List Value}(r:Vals xs us):xs.length=us.length:=Paired.length r
theorem Vals.get:∀ {xs:List V} {us:List Value} {i:Nat} {x:V},Vals xs us->xs[i]?=some x->∃ u,us[i]?=some u/\RelV x u
 | _,_,_,_,.nil,e=>by simp at e
 | _,_,0,_,.cons r _,e=>by simp at e; subst e; exact⟨_,rfl,r⟩
 | _,_,i+1,x,.cons _ t,e=>by
  obtain⟨u,h1,h2⟩:=Vals.get (i:=i) (x:=x) t (by simpa using e)
  exact⟨u,by simpa using h1,h2⟩
theorem Vals.set {x:V}{u:Value}(r:RelV x u):∀ {xs:List V} {us:List Value} (i:Nat),Vals xs us->Vals (xs.set i x) (us.set i u)
 | _,_,_,.nil=>.nil
 | _,_,0,.cons _ t=>.cons r t
 | _,_,i+1,.cons q t=>.cons q (Vals.set r i t)
theorem Vals.append {xs ys:List V}{us ws:List Value}(q:Vals xs us)(s:Vals ys ws):Vals (xs++ys) (us++ws):=by
 induction q with
 | nil=>exact s
 | cons r t ih=>exact .cons r ih
theorem Vals.take:∀ {xs:List V} {us:List Value} (n:Nat),Vals xs us->Vals (xs.take n) (us.take n)
 | _,_,0,_=>.nil
 | _,_,_+1,.nil=>.nil
 | _,_,n+1,.cons r t=>.cons r (Vals.take n t)
theorem Vals.drop:∀ {xs:List V} {us:List Value} (n:Nat),Vals xs us->Vals (xs.drop n) (us.drop n)
 | _,_,0,r=>r
 | _,_,_+1,.nil=>.nil
 | _,_,n+1,.cons _ t=>Vals.drop n t
noncomputable def RelO:Option V->Option Value->Prop
 | some v,some u=>RelV v u
 | none,none=>True
 | _,_=>False
noncomputable def KV {κ:Type}:List (κ × V)->List (κ × Value)->Prop:=Paired fun (p:κ × V) (q:κ × Value)=>p.1=q.1/\RelV p.2 q.2
noncomputable def kV:Key->V
 | .inl i=>.int i
 | .inr x=>.str x
inductive HO where
  | lst (xs:List V)
  | tup (xs:List V)
  | dK (kvs:List (Key × V))|dT (kvs:List (List Key × V))
  | set (S:Int->Bool) (n:Nat)
  | ins (C dx:Addr) (fs:List (Str × V))
  | own (x:Addr)
  | xd (fs:List (Str × V))
  | met (f x:Addr)
  | rng (lo hi:Int)
  | frz (o:Obj) (u:HO)
  | tbl (ps:Array Value)
  | ext (φ:Heap->Prop)
noncomputable abbrev Hp:=Addr->Option HO
noncomputable def upd (H:Hp)(a:Addr)(o:HO):Hp:=fun b=>if b=a then some o else H b
theorem upd_same {H:Hp}{a:Addr}{o:HO}:upd H a o a=some o:=by unfold upd; rw[if_pos rfl]
theorem upd_ne {H:Hp}{a b:Addr}{o:HO}(h:b≠a):upd H a o b=H b:=by unfold upd; rw[if_neg h]
theorem upd_upd {H:Hp}{a:Addr}{o u:HO}:upd (upd H a o) a u=upd H a u:=by
 funext b; unfold upd; split <;>rfl
theorem ne_of {H:Hp}{a b:Addr}{o u:HO}(h:H a=some o)(h':H b=some u)(d:o≠u):a≠b:=by
 intro e; subst e; rw[h] at h'; exact d (Option.some.inj h')
theorem ne_of_none {H:Hp}{a b:Addr}{o:HO}(h:H a=some o)(h':H b=none):a≠b:=by
 intro e; subst e; rw[h] at h'; cases h'
section
variable (P:Program)(w:World)
noncomputable def ObjOk (H:Hp)(h:Heap)(a:Addr):HO->Prop
 | .lst xs=>xs.length<=sizeLine/\∃ (its:List Value) (n:Nat),Vals xs its/\h.get? a=some { cls:=.type "list",data:=.seq its.toArray n }
 | .tup xs=>xs.length<=sizeLine/\∃ its:List Value,Vals xs its/\IsTup h a its.toArray
 | .dK kvs=>kvs.length<=sizeLine/\(a == sysModules)=false/\∃ vs,KV kvs vs/\h.DictOf (mixKind P w) a vs
 | .dT kvs=>kvs.length<=sizeLine/\(a == sysModules)=false/\∃ xs:List (List Key × Addr × Value),
   Paired (fun (p:List Key × V) (q:List Key × Addr × Value)=>p.1=q.1/\H q.2.1=some (.tup (p.1.map kV))/\RelV p.2 q.2.2) kvs xs /\
   ∃ o es ep,h.get? a=some o/\o.ExactDict/\o.data=.dict es ep/\es.toList=xs.map (entryOfKey (tupleKind (mixKind P w)))/\(xs.map (·.1)).Nodup
 | .set S n=>h.SetOf (intKind P w) a S n
 | .ins C dx fs=>H dx=some (.own a)/\fs.length<=1000/\dx≠a/\h.get? a=some (PySem.W.instObj C dx) /\
   ∃ mA,h.Ns1 dx mA/\(∀ f,RelO (fs.lookup f) (mA f))/\PySem.Within mA (fs.map (·.1))
 | .own _=>∃ o,h.get? a=some o
 | .xd fs=>∃ mA,h.Ns1 a mA/\∀ f,RelO (fs.lookup f) (mA f)
 | .rng lo hi=>∃ t u v,h.get? a=some { cls:=.type "range",data:=.fields #[.int lo t,.int hi u,.int 1 v] }
 | .frz o u=>h.get? a=some o/\ObjOk H h a u
 | .tbl ps=>h.get? a=some { cls:=.none,data:=.fields ps }
 | .met f x=>h.get? a=some (PySem.W.methodObj (.ref f) (.ref x))
 | .ext φ=>φ h/\(∃ o,h.get? a=some o)/\∀ h1 h2:Heap,φ h1->(∀ o,h1.get? a=some o->h2.get? a=some o)->φ h2
noncomputable def HOk (H:Hp)(h:Heap):Prop:=∀ a o,H a=some o->ObjOk P w H h a o
end
section
variable {P:Program}{w:World}{H H':Hp}{h h':Heap}{a:Addr}{o:HO}
theorem ObjOk.lt (x:ObjOk P w H h a o):a<h.objs.size:=by
 cases o with
 | lst xs=>obtain⟨_,_,_,_,e⟩:=x; exact Heap.lt_size e
 | tup xs=>obtain⟨_,_,_,p⟩:=x; exact p.lt
 | dK kvs=>obtain⟨_,_,_,_,o,_,_,e,_⟩:=x; exact Heap.lt_size e
 | dT kvs=>obtain⟨_,_,_,_,o,_,_,e,_⟩:=x; exact Heap.lt_size e
 | set S n=>obtain⟨o,_,_,_,e,_⟩:=x; exact Heap.lt_size e
 | ins C dx fs=>obtain⟨_,_,_,e,_⟩:=x; exact Heap.lt_size e
 | own y=>obtain⟨_,e⟩:=x; exact Heap.lt_size e
 | xd fs=>obtain⟨_,⟨_,_,_,e,_⟩,_⟩:=x; exact Heap.lt_size e
 | rng lo hi=>obtain⟨_,_,_,e⟩:=x; exact Heap.lt_size e
 | frz ob u=>obtain⟨e,_⟩:=x; exact Heap.lt_size e
 | tbl ps=>exact Heap.lt_size (show h.get? a=some _ from x)
 | met f y=>exact Heap.lt_size (show h.get? a=some _ from x)
 | ext φ=>obtain⟨_,⟨_,e⟩,_⟩:=x; exact Heap.lt_size e
theorem Paired.mapP {α β:Type}{F G:α->β->Prop}{l₁:List α}{l₂:List β}(q:Paired F l₁ l₂)(f:∀ a b,F a b->G a b):Paired G l₁ l₂:=by
 induction q with
 | nil=>exact .nil
 | cons r t ih=>exact .cons (f _ _ r) ih
theorem ObjOk.stay (x:ObjOk P w H h a o)(k:∀ b u,(b=a\/H b=some (.own a))->h.get? b=some u->h'.get? b=some u)
  (ho:∀ b,H b=some (.own a)->H' b=some (.own a)) (ht:∀ b xs,H b=some (.tup xs)->H' b=some (.tup xs)):ObjOk P w H' h' a o:=by
 induction o with
 | lst xs=>obtain⟨z,its,n,r,e⟩:=x; exact⟨z,its,n,r,k _ _ (.inl rfl) e⟩
 | tup xs=>obtain⟨z,its,r,ob,e,c⟩:=x; exact⟨z,its,r,ob,k _ _ (.inl rfl) e,c⟩
 | dK kvs=>obtain⟨z,y,vs,r,ob,es,ep,e,c⟩:=x; exact⟨z,y,vs,r,ob,es,ep,k _ _ (.inl rfl) e,c⟩
 | dT kvs =>
  obtain⟨z,y,xs,r,ob,es,ep,e,c⟩:=x
  exact⟨z,y,xs,Paired.mapP r fun p q z=>⟨z.1,ht _ _ z.2.1,z.2.2⟩,ob,es,ep,k _ _ (.inl rfl) e,c⟩
 | set S n=>obtain⟨ob,es,ep,t,e,c⟩:=x; exact⟨ob,es,ep,t,k _ _ (.inl rfl) e,c⟩
 | ins C dx fs =>
  obtain⟨d,z,ne,e,mA,⟨od,es,ep,e2,c⟩,r⟩:=x
  exact⟨ho _ d,z,ne,k _ _ (.inl rfl) e,mA,⟨od,es,ep,k _ _ (.inr d) e2,c⟩,r⟩
 | own y=>obtain⟨ob,e⟩:=x; exact⟨ob,k _ _ (.inl rfl) e⟩
 | xd fs=>obtain⟨mA,⟨od,es,ep,e,c⟩,r⟩:=x; exact⟨mA,⟨od,es,ep,k _ _ (.inl rfl) e,c⟩,r⟩
 | rng lo hi=>obtain⟨t,u,v,e⟩:=x; exact⟨t,u,v,k _ _ (.inl rfl) e⟩
 | frz ob u ih=>obtain⟨e,q⟩:=x; exact⟨k _ _ (.inl rfl) e,ih q⟩
 | tbl ps =>
  have e:h.get? a=some { cls:=.none,data:=.fields ps }:=x
  show h'.get? a=some { cls:=.none,data:=.fields ps }
  exact k a _ (.inl rfl) e
 | met f y =>
  have e:h.get? a=some (PySem.W.methodObj (.ref f) (.ref y)):=x
  show h'.get? a=some (PySem.W.methodObj (.ref f) (.ref y))
  exact k a _ (.inl rfl) e
 | ext φ=>obtain⟨p,⟨o,e⟩,st⟩:=x; exact⟨st _ _ p fun o q=>k _ _ (.inl rfl) q,⟨o,k _ _ (.inl rfl) e⟩,st⟩
theorem HOk.lt (x:HOk P w H h)(e:H a=some o):a<h.objs.size:=(x a o e).lt
theorem HOk.fresh (x:HOk P w H h)(e:h.objs.size<=a):H a=none:=by
 cases q:H a with
 | none=>rfl
 | some u=>exact absurd (Nat.lt_of_lt_of_le (x.lt q) e) (Nat.lt_irrefl _)
theorem HOk.kept (x:HOk P w H h)(k:∀ b u,h.get? b=some u->h'.get? b=some u):HOk P w H h':=fun a o e =>
 (x a o e).stay (fun b u _ q=>k b u q) (fun _ q=>q) fun _ _ q=>q
theorem HOk.laid (x:HOk P w H h)(k:∀ b u,h.get? b=some u->h'.get? b=some u)(hp:h.objs.size<=a)(new:ObjOk P w (upd H a o) h' a o):HOk P w (upd H a o) h':=fun b u e=>by
 have hn:=x.fresh hp
 by_cases hb:b=a
 ·subst hb; rw[upd_same] at e; cases e; exact new
 ·rw[upd_ne hb] at e
  exact(x b u e).stay (fun c v _ q=>k c v q) (fun c q=>by rw[upd_ne (ne_of_none q hn)]; exact q) fun c xs q=>by rw[upd_ne (ne_of_none q hn)]; exact q
end
noncomputable def Rd (H:Hp)(a:Addr)(u:HO):Prop:=H a=some u\/∃ o,H a=some (.frz o u)
theorem Rd.ok {P:Program}{w:World}{H:Hp}{h:Heap}{a:Addr}{u:HO}(r:Rd H a u)(x:HOk P w H h):ObjOk P w H h a u:=by
 rcases r with r|⟨o,r⟩
 ·exact x a u r
 ·obtain⟨_,q⟩:=x a _ r
  exact q
noncomputable def Mut:Option HO->Prop
 | some (.lst _)=>True
 | some (.dK _)=>True
 | some (.dT _)=>True
 | some (.set _ _)=>True
 | some (.ins _ _ _)=>True
 | some (.ext _)=>True
 | _=>False
section
variable {P:Program}{w:World}{H:Hp}{h h':Heap}{x e:Addr}{o':HO}
theorem HOk.write (ok:HOk P w H h)(mu:Mut (H x))(he:e=x\/H e=some (.own x))(k:∀ b u,b≠e->h.get? b=some u->h'.get? b=some u)(heo:∃ u,h'.get? e=some u)
  (new:ObjOk P w (upd H x o') h' x o'):HOk P w (upd H x o') h':=fun b u q=>by
 have nown:∀ c y,H c=some (.own y)->c≠x:=fun c y r z=>by subst z; rw[r] at mu; exact mu
 have ntup:∀ c xs,H c=some (.tup xs)->c≠x:=fun c xs r z=>by subst z; rw[r] at mu; exact mu
 by_cases hb:b=x
 ·subst hb; rw[upd_same] at q; cases q; exact new
 ·rw[upd_ne hb] at q
  by_cases hbe:b=e
  ·have q':H b=some (.own x):=by
    rcases he with z|z
    ·exact absurd (hbe.trans z) hb
    ·rw[hbe]; exact z
   rw[q] at q'; cases q'
   obtain⟨v,hv⟩:=heo
   exact⟨v,by rw[hbe]; exact hv⟩
  ·refine(ok b u q).stay (fun c v hc r=>k c v ?_ r) (fun c r=>by rw[upd_ne (nown c b r)]; exact r) fun c xs r=>by rw[upd_ne (ntup c xs r)]; exact r
   rcases hc with rfl|hc
   ·exact hbe
   ·rintro rfl
    rcases he with z|z
    ·exact nown c b hc z
    ·rw[hc] at z; cases z; exact hb rfl
end
structure Un (fs ex:List Addr)(H H':Hp)(h h':Heap):Prop where
 keep:∀ b o,h.get? b=some o->H b=none->b∉fs->b∉ex->h'.get? b=some o
 slot:∀ b o,h.get? b=some o->H b=none->b∈fs->b∉ex->∃ sl,h'.get? b=some { o with slots:=sl }
 free:∀ b o,h.get? b=some o->H b=none->b∉ex->H' b=none
 there:∀ b o,h.get? b=some o->b∉ex->∃ o',h'.get? b=some o'
 tups:∀ b xs,H b=some (.tup xs)->H' b=some (.tup xs)
 frzs:∀ b o u,H b=some (.frz o u)->H' b=some (.frz o u)
 tbls:∀ b ps,H b=some (.tbl ps)->∃ more,H' b=some (.tbl (ps++more))
section
variable {fs fs' ex ex':List Addr}{H H1 H2:Hp}{h h1 h2 h':Heap}{a x e:Addr}{o:HO}
theorem Un.any (u:Un fs ex H H1 h h1){b:Addr}{ob:Obj}(q:h.get? b=some ob)(n:H b=none)(hx:b∉ex):∃ sl,h1.get? b=some { ob with slots:=sl }:=by
 by_cases hb:b∈fs
 ·exact u.slot b ob q n hb hx
 ·exact⟨ob.slots,u.keep b ob q n hb hx⟩
theorem Un.kept (k:∀ b u,h.get? b=some u->h'.get? b=some u):Un fs ex H H h h' :=
 ⟨fun b ob q _ _ _=>k b ob q,fun b ob q _ _ _=>⟨ob.slots,k b ob q⟩,fun _ _ _ n _=>n,fun b ob q _=>⟨ob,k b ob q⟩,fun _ _ q=>q,fun _ _ _ q=>q,fun _ ps q=>⟨#[],by rw[q]; simp⟩⟩
theorem Un.refl:Un fs ex H H h h:=Un.kept fun _ _ q=>q
theorem Un.laid (k:∀ b u,h.get? b=some u->h'.get? b=some u)(hp:h.objs.size<=a)(hn:H a=none):Un fs ex H (upd H a o) h h' where
 keep:=fun b u q _ _ _=>k b u q
 slot:=fun b u q _ _ _=>⟨u.slots,k b u q⟩
 free:=fun b u q n _=>by rw[upd_ne (Nat.ne_of_lt (Nat.lt_of_lt_of_le (Heap.lt_size q) hp))]; exact n
 there:=fun b u q _=>⟨u,k b u q⟩
 tups:=fun b xs q=>by rw[upd_ne (ne_of_none q hn)]; exact q
 frzs:=fun b u xs q=>by rw[upd_ne (ne_of_none q hn)]; exact q
 tbls:=fun b ps q=>⟨#[],by rw[upd_ne (ne_of_none q hn),q]; simp⟩
theorem Un.write (mu:Mut (H x))(he:e=x\/H e=some (.own x))(k:∀ b u,b≠e->h.get? b=some u->h'.get? b=some u)(heo:∃ u,h'.get? e=some u):Un fs ex H (upd H x o) h h':=by
 have hx:∀ b,H b=none->b≠x:=fun b n z=>by subst z; rw[n] at mu; exact mu
 have hb:∀ b,H b=none->b≠e:=fun b n z=>by
  subst z
  rcases he with r|r
  ·exact hx b n r
  ·rw[n] at r; cases r
 have hm:∀ b u,H b=some u->¬ Mut (some u)->b≠x:=fun b u q nm z=>by subst z; rw[q] at mu; exact nm mu
 refine⟨fun b u q n _ _=>k b u (hb b n) q,fun b u q n _ _=>⟨u.slots,k b u (hb b n) q⟩,fun b u q n _=>by rw[upd_ne (hx b n)]; exact n,fun b u q _=>?_,
  fun b xs q=>by rw[upd_ne (hm b _ q fun z=>z)]; exact q,fun b u xs q=>by rw[upd_ne (hm b _ q fun z=>z)]; exact q,fun b ps q=>⟨#[],by rw[upd_ne (hm b _ q fun z=>z),q]; simp⟩⟩
 by_cases hbe:b=e
 ·subst hbe; exact heo
 ·exact⟨u,k b u hbe q⟩
end
noncomputable def trk (h:Heap)(H:Hp):List Addr:=(List.range h.objs.size).filter fun a=>(H a).isSome
noncomputable def hidT (h:Heap)(H:Hp):Heap:=PySem.W.hideAll h (trk h H)
theorem hidT_size (h:Heap)(H:Hp):(hidT h H).objs.size=h.objs.size:=PySem.W.hideAll_size _ _
theorem hidT_get {h:Heap}{H:Hp}{b:Addr}{o:Obj}(e:h.get? b=some o)(n:H b=none):(hidT h H).get? b=some o :=
 PySem.W.hideAll_get _ e fun hm=>by
  have q:(H b).isSome=true:=(List.mem_filter.mp hm).2
  rw[n] at q; simp at q
theorem of_hidT {h:Heap}{H:Hp}{b:Addr}{o:Obj}(e:(hidT h H).get? b=some o):h.get? b=some o/\H b=none:=by
 have e':h.get? b=some o:=PySem.W.of_hideAll (trk h H) e
 refine⟨e',?_⟩
 cases q:H b with
 | none=>rfl
 | some x =>
  have hm:b∈trk h H:=List.mem_filter.mpr ⟨List.mem_range.mpr (Heap.lt_size e'),by simp[q]⟩
  have z:(hidT h H).get? b=none:=PySem.W.hideAll_none (trk h H) hm
  rw[z] at e; cases e
noncomputable def allNews (g h:Heap)(L:Addr):List (Addr × Obj):=(List.range h.objs.size).filterMap fun a=>if a=L\/(g.get? a).isSome=true then none else (h.get? a).map fun o=>(a,o)
noncomputable def rest (g h:Heap)(L d:Addr):List (Addr × Obj):=(allNews g h L).filter fun p=>decide (p.1≠d)
structure Mod (K:PySem.W.Frag)(mg:Str->Option Value)(base:Heap):Prop where
 kin:K.In base
 glob:base.Ns mainGlobals mg
 blt:∃ mb,base.Ns builtinsNs mb/\∀ x:Str,x≠"__name__"->mb x=bootBuiltins x
 nolimit:base.NoLimit
/-- the context: a def's body (or a comprehension's block) running. base: fixed through the whole law; s₀,H₀: the entry; outer: the frames whose slots others may change (a def's callers); stack: all frames that run;
   ex: iterators that were made ahead of the entry and are walked here (a comprehension's); fn: the names whose cells were made at the entry (a def: all; a comprehension's block: its own); calm: not within an except suite; pn: pins that every state bears; xe: what is wanted of an exception that leaves the code -/
structure Cx where
 prog:Program
 w:World
 K:PySem.W.Frag
 mg:Str->Option Value
 base:Heap
 A:Around
 N:List Str
 s₀:Shared
 H₀:Hp
 env:Env
 outer:List Env
 stack:List Env
 ex:List Addr
 fn:Str->Bool
 calm:Bool
 pn:List (Addr × Obj)
 xe:Value->Shared->Prop
noncomputable def frs (l:List Env):List Addr:=l.filterMap (·.frame)
noncomputable abbrev Cx.fs (X:Cx):List Addr:=frs X.outer
noncomputable def Vis (sc:Scope)(x:Str):Prop:=sc.names.lookup x=some .local\/sc.names.lookup x=some .cell\/sc.names.lookup x=some .free
noncomputable def Loc (sc:Scope)(x:Str):Prop:=sc.names.lookup x=some .local\/sc.names.lookup x=some .cell
noncomputable def Look (env:Env)(h:Heap)(m:Str->Option Value)(x:Str)(u:Value):Prop :=
 (env.kindOf x=some .local/\m x=some u)\/((env.kindOf x=some .cell\/env.kindOf x=some .free)/\∃ c,env.cells.lookup x=some c/\h.IsCell c (some u))
structure Cx.Ok (X:Cx):Prop where
 mod:Mod X.K X.mg X.base
 kind:X.env.scope.kind=.function
 glob:X.env.globals=mainGlobals
 blt:X.env.builtins=builtinsNs
 above:X.s₀.heap.objs.size<=X.env.locals
 inj:∀ x y c,X.env.cells.lookup x=some c->X.env.cells.lookup y=some c->x=y
 has:∀ x,(X.env.kindOf x=some .cell\/X.env.kindOf x=some .free)->∃ c,X.env.cells.lookup x=some c
 cab:∀ x c,X.fn x=true->X.env.cells.lookup x=some c->X.s₀.heap.objs.size<=c
 hd:X.calm=true->X.A.handled=none
 frames:X.A.frames=some X.stack
 stk:X.stack=X.outer\/(X.stack=X.env::X.outer/\X.env.frame=some X.env.locals)
 exf:∀ b∈X.ex,b≠X.env.locals/\∀ x c,X.env.cells.lookup x=some c->c≠b
 bs:∀ b o,X.base.get? b=some o->X.s₀.heap.get? b=some o/\X.H₀ b=none
 bsz:X.base.objs.size<=X.s₀.heap.objs.size
 noex:∀ b o,X.base.get? b=some o->b∉X.ex
 exfs:∀ b∈X.ex,b∉X.fs
 funs:X.s₀.heap.FunFrames X.base X.outer
 frf:∀ b∈X.fs,X.H₀ b=none
structure Inv (X:Cx)(pins:List (Addr × Obj))(σ:List (Option V))(H:Hp)(s:Shared):Prop where
 ok:X.Ok
 os:s.os=X.s₀.os
 bare:AllBare s.gens
 base:Un X.fs X.ex X.H₀ H X.s₀.heap s.heap
 loc:∃ m,s.heap.Ns X.env.locals m/\∀ (i:Nat) (x:Str) (v:V),X.N[i]?=some x->σ[i]?=some (some v)->Vis X.env.scope x->∃ u,RelV v u/\Look X.env s.heap m x u
 cell:∀ x c,X.env.cells.lookup x=some c->∃ v,s.heap.IsCell c v
 free:H X.env.locals=none
 freeC:∀ x c,X.env.cells.lookup x=some c->H c=none
 pin:∀ p∈X.pn++pins,s.heap.get? p.1=some p.2/\H p.1=none/\p.1≠X.env.locals/\p.1∉X.fs/\∀ v,p.2.data≠.cell v
 hok:HOk X.prog X.w H s.heap
 len:σ.length=X.N.length
section
variable {X:Cx}{pins:List (Addr × Obj)}{σ:List (Option V)}{H H':Hp}{s:Shared}{h':Heap}
theorem Cx.Ok.nofr (ok:X.Ok){b:Addr}{o:Obj}(e:X.base.get? b=some o):b∉X.fs:=fun hb=>by
 have:=(ok.funs.mem hb).1
 rw[e] at this; cases this
theorem Inv.bs (I:Inv X pins σ H s):∀ b o,X.base.get? b=some o->s.heap.get? b=some o/\H b=none:=fun b o e =>
 ⟨I.base.keep b o (I.ok.bs b o e).1 (I.ok.bs b o e).2 (I.ok.nofr e) (I.ok.noex b o e),I.base.free b o (I.ok.bs b o e).1 (I.ok.bs b o e).2 (I.ok.noex b o e)⟩
theorem Inv.bk (I:Inv X pins σ H s):∀ b o,X.base.get? b=some o->s.heap.get? b=some o:=fun b o e=>(I.bs b o e).1
theorem Inv.mod (I:Inv X pins σ H s):Mod X.K X.mg X.base:=I.ok.mod
theorem Inv.kIn (I:Inv X pins σ H s):X.K.In s.heap:=I.ok.mod.kin.keeps I.bk
theorem Inv.lt (I:Inv X pins σ H s):X.env.locals<s.heap.objs.size:=let ⟨_,hn,_⟩:=I.loc; hn.lt
theorem Inv.sz (I:Inv X pins σ H s):X.s₀.heap.objs.size<=s.heap.objs.size:=Nat.le_trans I.ok.above (Nat.le_of_lt I.lt)
theorem Inv.nofs (I:Inv X pins σ H s){a:Addr}(h:s.heap.objs.size<=a):a∉X.fs:=fun hb=>by
 obtain⟨_,o,ho,_⟩:=I.ok.funs.mem hb
 exact absurd (Nat.lt_of_lt_of_le (Heap.lt_size ho) (Nat.le_trans I.sz h)) (Nat.lt_irrefl _)
theorem Inv.cne (I:Inv X pins σ H s):∀ x c,X.env.cells.lookup x=some c->c≠X.env.locals:=fun x c e z=>by
 obtain⟨v,o,ho,hd⟩:=I.cell x c e
 obtain⟨m,⟨o',es,ep,ho',hd',_⟩,_⟩:=I.loc
 rw[z,ho'] at ho; cases ho; rw[hd'] at hd; cases hd
theorem Inv.funs (I:Inv X pins σ H s):s.heap.FunFrames X.base X.outer:=by
 have all:∀ (l:List Env),(∀ b∈frs l,b∈X.fs)->X.s₀.heap.FunFrames X.base l->s.heap.FunFrames X.base l:=by
  intro l
  induction l with
  | nil=>intro _ _; trivial
  | cons env r ih =>
   intro hs hl
   obtain⟨hk,⟨L,o,hf,hn,ho,hd⟩,hr⟩:=hl
   have hL:L∈X.fs:=hs L (by unfold frs; rw[List.filterMap_cons,hf]; exact List.mem_cons_self)
   obtain⟨sl,e⟩:=I.base.slot L o ho (I.ok.frf L hL) hL fun z=>I.ok.exfs L z hL
   exact⟨hk,⟨L,_,hf,hn,e,hd⟩,ih (fun b hb=>hs b (by unfold frs; rw[List.filterMap_cons,hf]; exact List.mem_cons_of_mem _ hb)) hr⟩
 exact all X.outer (fun _ hb=>hb) I.ok.funs
theorem Inv.stack (I:Inv X pins σ H s):s.heap.FunFrames X.base X.stack:=by
 rcases I.ok.stk with e|⟨e,hf⟩
 ·rw[e]; exact I.funs
 ·rw[e]
  obtain⟨m,hn,_⟩:=I.loc
  refine .cons (by rw[I.ok.kind]; decide) hf hn ?_ I.funs
  exact Heap.get?_none_of_le (Nat.le_trans I.ok.bsz I.ok.above)
theorem Inv.stkSub (I:Inv X pins σ H s):∀ b∈frs X.stack,b∈X.env.locals::X.fs:=fun b hb=>by
 rcases I.ok.stk with e|⟨e,hf⟩
 ·rw[e] at hb; exact List.mem_cons_of_mem _ hb
 ·rw[e] at hb
  unfold frs at hb
  rw[List.filterMap_cons,hf] at hb
  exact hb
theorem Inv.stkFree (I:Inv X pins σ H s):∀ b∈frs X.stack,H b=none:=fun b hb=>by
 rcases List.mem_cons.mp (I.stkSub b hb) with e|hb
 ·rw[e]; exact I.free
 ·obtain⟨_,o,ho,_⟩:=I.ok.funs.mem hb
  exact I.base.free b o ho (I.ok.frf b hb) fun z=>I.ok.exfs b z hb
theorem Inv.step {g':Array GenState}{t':Nat}{d':Drawn}{ch:List Addr}(I:Inv X pins σ H s)
  (hch:∀ b∈ch,(b∈X.ex\/X.s₀.heap.objs.size<=b)/\b≠X.env.locals/\(∀ x c,X.env.cells.lookup x=some c->c≠b)/\∀ p∈X.pn++pins,p.1≠b)
  (keep:∀ b o,b≠X.env.locals->b∉X.fs->b∉ch->s.heap.get? b=some o->H b=none->h'.get? b=some o)
  (slot:∀ b o,b≠X.env.locals->b∈X.fs->b∉ch->s.heap.get? b=some o->H b=none->∃ sl,h'.get? b=some { o with slots:=sl }) (free:∀ b o,b∉ch->s.heap.get? b=some o->H b=none->H' b=none)
  (there:∀ b o,b∉ch->s.heap.get? b=some o->∃ o',h'.get? b=some o')
  (tups:∀ b xs,H b=some (.tup xs)->H' b=some (.tup xs)) (frzs:∀ b o u,H b=some (.frz o u)->H' b=some (.frz o u)) (tbls:∀ b ps,H b=some (.tbl ps)->∃ more,H' b=some (.tbl (ps++more)))
  (ns:∀ m,s.heap.Ns X.env.locals m->h'.Ns X.env.locals m) (hok:HOk X.prog X.w H' h') (hg:AllBare g') :
  Inv X pins σ H' { s with heap:=h',gens:=g',drawn:=d',toks:=t' }:=by
 have neL:∀ b o,X.s₀.heap.get? b=some o->b≠X.env.locals:=fun b o e=>Nat.ne_of_lt (Nat.lt_of_lt_of_le (Heap.lt_size e) I.ok.above)
 have neC:∀ b o,X.s₀.heap.get? b=some o->b∉X.ex->b∉ch:=fun b o e hx hb=>by
  rcases (hch b hb).1 with z|z
  ·exact hx z
  ·exact absurd (Nat.lt_of_lt_of_le (Heap.lt_size e) z) (Nat.lt_irrefl _)
 have cellK:∀ x c,X.env.cells.lookup x=some c->∀ v,s.heap.IsCell c v->h'.IsCell c v:=fun x c e v ⟨o,ho,hd⟩=>by
  have nch:c∉ch:=fun z=>(hch c z).2.2.1 x c e rfl
  by_cases hc:c∈X.fs
  ·obtain⟨sl,q⟩:=slot c o (I.cne x c e) hc nch ho (I.freeC x c e)
   exact⟨_,q,hd⟩
  ·exact⟨o,keep c o (I.cne x c e) hc nch ho (I.freeC x c e),hd⟩
 refine⟨I.ok,I.os,hg,⟨fun b o e n hb hx=>?_,fun b o e n hb hx=>?_,fun b o e n hx=>?_,fun b o e hx=>?_,fun b xs e=>tups b xs (I.base.tups b xs e),fun b o xs e=>frzs b o xs (I.base.frzs b o xs e),fun b ps e=>?_⟩,?_,fun x c e=>?_,?_,fun x c e=>?_,fun p hp=>?_,hok,I.len⟩
 ·exact keep b o (neL b o e) hb (neC b o e hx) (I.base.keep b o e n hb hx) (I.base.free b o e n hx)
 ·obtain⟨sl,e1⟩:=I.base.slot b o e n hb hx
  obtain⟨sl',e2⟩:=slot b _ (neL b o e) hb (neC b o e hx) e1 (I.base.free b o e n hx)
  exact⟨sl',e2⟩
 ·obtain⟨o',e1⟩:=I.base.there b o e hx
  exact free b o' (neC b o e hx) e1 (I.base.free b o e n hx)
 ·obtain⟨o',e1⟩:=I.base.there b o e hx
  exact there b o' (neC b o e hx) e1
 ·obtain⟨m1,e1⟩:=I.base.tbls b ps e
  obtain⟨m2,e2⟩:=tbls b _ e1
  exact⟨m1++m2,by rw[e2,Array.append_assoc]⟩
 ·obtain⟨m,hn,hl⟩:=I.loc
  refine⟨m,ns m hn,fun i x v e1 e2 e3=>?_⟩
  obtain⟨u,r,l⟩:=hl i x v e1 e2 e3
  refine⟨u,r,?_⟩
  rcases l with l|⟨k,c,e,z⟩
  ·exact .inl l
  ·exact .inr ⟨k,c,e,cellK x c e _ z⟩
 ·obtain⟨v,z⟩:=I.cell x c e
  exact⟨v,cellK x c e v z⟩
 ·obtain⟨m,⟨o,_,_,ho,_⟩,_⟩:=I.loc
  exact free _ o (fun z=>(hch _ z).2.1 rfl) ho I.free
 ·obtain⟨v,o,ho,hd⟩:=I.cell x c e
  exact free c o (fun z=>(hch c z).2.2.1 x c e rfl) ho (I.freeC x c e)
 ·obtain⟨e,n,ne,nf,d⟩:=I.pin p hp
  have nch:p.1∉ch:=fun z=>(hch p.1 z).2.2.2 p hp rfl
  exact⟨keep p.1 p.2 ne nf nch e n,free p.1 p.2 nch e n,ne,nf,d⟩
theorem Inv.un {t':Nat}(I:Inv X pins σ H s)(u:Un X.fs [] H H' s.heap h')(hok:HOk X.prog X.w H' h'):Inv X pins σ H' { s with heap:=h',toks:=t' }:=by
 obtain⟨m,⟨o,es,ep,ho,r⟩,_⟩:=id I.loc
 obtain⟨sl,hL⟩:=u.any ho I.free (by simp)
 exact I.step (g':=s.gens) (d':=s.drawn) (ch:=[]) (fun _ z=>nomatch z) (fun b o _ hb _ e n=>u.keep b o e n hb (by simp)) (fun b o _ hb _ e n=>u.slot b o e n hb (by simp)) (fun b o _ e n=>u.free b o e n (by simp)) (fun b o _ e=>u.there b o e (by simp)) u.tups u.frzs u.tbls (fun m' hm=>by
  obtain⟨o',es',ep',ho',r'⟩:=hm
  rw[ho] at ho'; cases ho'
  exact⟨_,es',ep',hL,r'⟩) hok I.bare
theorem Inv.call {g':Array GenState}{t':Nat}{d':Drawn}{ch:List Addr}(I:Inv X pins σ H s)(u:Un (frs X.stack) ch H H' s.heap h')(hok:HOk X.prog X.w H' h')(hg:AllBare g')
  (hch:∀ b∈ch,(b∈X.ex\/X.s₀.heap.objs.size<=b)/\b≠X.env.locals/\(∀ x c,X.env.cells.lookup x=some c->c≠b)/\∀ p∈X.pn++pins,p.1≠b) :
  Inv X pins σ H' { s with heap:=h',gens:=g',drawn:=d',toks:=t' }:=by
 obtain⟨m,⟨o,es,ep,ho,r⟩,_⟩:=id I.loc
 obtain⟨sl,hL⟩:=u.any ho I.free fun z=>(hch _ z).2.1 rfl
 exact I.step (ch:=ch) hch (fun b o hL hb hc e n=>u.keep b o e n (fun z=>(List.mem_cons.mp (I.stkSub b z)).elim hL hb) hc) (fun b o _ _ hc e n=>u.any e n hc) (fun b o hc e n=>u.free b o e n hc) (fun b o hc e=>u.there b o e hc) u.tups u.frzs u.tbls (fun m' hm=>by
  obtain⟨o',es',ep',ho',r'⟩:=hm
  rw[ho] at ho'; cases ho'
  exact⟨_,es',ep',hL,r'⟩) hok hg
theorem Inv.turned {t':Nat}{it:Addr}(I:Inv X pins σ H s)(k:∀ b o,b≠it->s.heap.get? b=some o->h'.get? b=some o)(hn:H it=none)(hL:it≠X.env.locals)
  (h1:it∈X.ex\/X.s₀.heap.objs.size<=it) (h2:∀ x c,X.env.cells.lookup x=some c->c≠it) (h3:∀ p∈X.pn++pins,p.1≠it):Inv X pins σ H { s with heap:=h',toks:=t' }:=by
 have nit:∀ b u,H b=some u->b≠it:=fun b u e z=>by rw[z,hn] at e; cases e
 refine I.step (g':=s.gens) (d':=s.drawn) (ch:=[it]) (fun b hb=>?_) (fun b o _ _ hc e _=>k b o (fun z=>hc (by simp[z])) e) (fun b o _ _ hc e _=>⟨o.slots,k b o (fun z=>hc (by simp[z])) e⟩) (fun _ _ _ _ n=>n)
  (fun b o hc e=>⟨o,k b o (fun z=>hc (by simp[z])) e⟩) (fun _ _ e=>e) (fun _ _ _ e=>e) (fun b ps e=>⟨#[],by rw[e]; simp⟩) (fun m hm=>?_) (fun b u e=>?_) I.bare
 ·have e:b=it:=by simpa using hb
  subst e
  exact⟨h1,hL,h2,h3⟩
 ·obtain⟨o,es,ep,ho,r⟩:=hm
  exact⟨o,es,ep,k _ o (Ne.symm hL) ho,r⟩
 ·refine(I.hok b u e).stay (fun c v hc q=>k c v ?_ q) (fun _ q=>q) fun _ _ q=>q
  rcases hc with z|z
  ·rw[z]; exact nit b u e
  ·exact nit c _ z
theorem Inv.tok (I:Inv X pins σ H s)(t:Nat):Inv X pins σ H { s with toks:=t }:=I.un (h':=s.heap) (t':=t) Un.refl I.hok
theorem Inv.kept {t':Nat}(I:Inv X pins σ H s)(k:∀ b u,s.heap.get? b=some u->h'.get? b=some u):Inv X pins σ H { s with heap:=h',toks:=t' }:=I.un (Un.kept k) (I.hok.kept k)
theorem Inv.laid {a:Addr}{o:HO}{t':Nat}(I:Inv X pins σ H s)(k:∀ b u,s.heap.get? b=some u->h'.get? b=some u)(hp:s.heap.objs.size<=a)(new:ObjOk X.prog X.w (upd H a o) h' a o) :
  Inv X pins σ (upd H a o) { s with heap:=h',toks:=t' }:=I.un (Un.laid k hp (I.hok.fresh hp)) (I.hok.laid k hp new)
theorem Inv.write {x e:Addr}{o:HO}{t':Nat}(I:Inv X pins σ H s)(mu:Mut (H x))(he:e=x\/H e=some (.own x))(k:∀ b u,b≠e->s.heap.get? b=some u->h'.get? b=some u)(heo:∃ u,h'.get? e=some u)
  (new:ObjOk X.prog X.w (upd H x o) h' x o):Inv X pins σ (upd H x o) { s with heap:=h',toks:=t' }:=I.un (Un.write mu he k heo) (I.hok.write mu he k heo new)
theorem Inv.pins_of {pins':List (Addr × Obj)}(I:Inv X pins σ H s)(h:∀ p∈pins',s.heap.get? p.1=some p.2/\H p.1=none/\p.1≠X.env.locals/\p.1∉X.fs/\∀ v,p.2.data≠.cell v):Inv X pins' σ H s :=
 ⟨I.ok,I.os,I.bare,I.base,I.loc,I.cell,I.free,I.freeC,fun p hp=>(List.mem_append.mp hp).elim (fun z=>I.pin p (List.mem_append_left _ z)) (h p),I.hok,I.len⟩
theorem nodup_ix {N:List Str}(hN:N.Nodup){i j:Nat}{x:Str}(a:N[i]?=some x)(b:N[j]?=some x):i=j:=by
 obtain⟨h1,e1⟩:=List.getElem?_eq_some_iff.mp a
 obtain⟨h2,e2⟩:=List.getElem?_eq_some_iff.mp b
 exact(List.getElem_inj hN).mp (e1.trans e2.symm)
theorem store_ok2 {M:Model}{A:Around}{E:Value->Shared->Prop}{i:Nat}{x:Str}{v:V}{u:Value}{Q:Unit->Shared->Prop}(I:Inv X pins σ H s)(hN:X.N.Nodup)(hi:X.N[i]?=some x)(hx:Loc X.env.scope x)(r:RelV v u)
  (h:∀ s',Inv X pins (σ.set i (some v)) H s'->(∃ a,Heap.SameBut a s.heap s'.heap/\(a=X.env.locals\/X.env.cells.lookup x=some a))->Q () s') (hf:autoParam (X.fn x=true\/X.env.scope.names.lookup x=some .local) Au.h1._auto_1):wpAny M A (storeName X.env x u) Q E s:=by
 obtain⟨m,hn,hl⟩:=id I.loc
 have hcls:(X.env.scope.kind == .class || (X.env.scope.kind == .module&&X.env.locals != X.env.globals))=false:=by rw[I.ok.kind]; rfl
 have hiσ:i<σ.length:=by rw[I.len]; exact(List.getElem?_eq_some_iff.mp hi).1
 have cne:=I.cne
 have tracked:∀ {a:Addr} {h':Heap},(∃ o,s.heap.get? a=some o/\H a=none)->Heap.SameBut a s.heap h'->HOk X.prog X.w H h':=fun {a h'} ha hs b ob e=>by
  obtain⟨_,_,hfree⟩:=ha
  refine(I.hok b ob e).stay (fun c w' hc q=>(hs.2 c ?_).trans q) (fun _ q=>q) fun _ _ q=>q
  rintro rfl
  rcases hc with rfl|hc
  ·rw[hfree] at e; cases e
  ·rw[hfree] at hc; cases hc
 rcases hx with hk|hk
 ·refine wpAny_storeName_local hk hn (fun h' hn' hs=>?_) hcls
  obtain⟨oL,_,_,hoL,_⟩:=id hn
  refine h _ ⟨I.ok,I.os,I.bare,⟨fun b o e n hb hx=>?_,fun b o e n hb hx=>?_,I.base.free,fun b o e hx=>?_,I.base.tups,I.base.frzs,I.base.tbls⟩,⟨_,hn',fun j y v' e1 e2 e3=>?_⟩,fun y c e=>?_,I.free,I.freeC,fun p hp=>?_,tracked ⟨oL,hoL,I.free⟩ hs,by simpa using I.len⟩ ⟨_,hs,.inl rfl⟩
  ·exact(hs.2 b (Nat.ne_of_lt (Nat.lt_of_lt_of_le (Heap.lt_size e) I.ok.above))).trans (I.base.keep b o e n hb hx)
  ·obtain⟨sl,e1⟩:=I.base.slot b o e n hb hx
   exact⟨sl,(hs.2 b (Nat.ne_of_lt (Nat.lt_of_lt_of_le (Heap.lt_size e) I.ok.above))).trans e1⟩
  ·obtain⟨o',e1⟩:=I.base.there b o e hx
   exact⟨o',(hs.2 b (Nat.ne_of_lt (Nat.lt_of_lt_of_le (Heap.lt_size e) I.ok.above))).trans e1⟩
  ·by_cases hj:j=i
   ·subst hj
    rw[hi] at e1; cases e1
    rw[List.getElem?_set_self hiσ] at e2
    cases e2
    exact⟨u,r,.inl ⟨hk,by simp⟩⟩
   ·rw[List.getElem?_set_ne (Ne.symm hj)] at e2
    obtain⟨u',r',q⟩:=hl j y v' e1 e2 e3
    refine⟨u',r',?_⟩
    rcases q with ⟨k,e⟩|⟨k,c,e,z⟩
    ·refine .inl ⟨k,?_⟩
     have:y≠x:=fun e=>hj (nodup_ix hN e1 (e▸hi))
     simp[this,e]
    ·exact .inr ⟨k,c,e,z.sameBut hs (cne y c e)⟩
  ·obtain⟨w',z⟩:=I.cell y c e
   exact⟨w',z.sameBut hs (cne y c e)⟩
  ·obtain⟨e,n,ne,nf,d⟩:=I.pin p hp
   exact⟨(hs.2 p.1 ne).trans e,n,ne,nf,d⟩
 ·have hfn:X.fn x=true:=by
   rcases hf with z|z
   ·exact z
   ·rw[z] at hk; cases hk
  obtain⟨c,hc⟩:=I.ok.has x (.inl hk)
  obtain⟨w',z⟩:=I.cell x c hc
  refine wpAny_storeName_cell I.ok.kind hk hc z (fun h' hc' hs=>?_)
  obtain⟨oc,hoc,hocd⟩:=id z
  refine h { s with heap:=h' } ⟨I.ok,I.os,I.bare,⟨fun b o e n hb hx=>?_,fun b o e n hb hx=>?_,I.base.free,fun b o e hx=>?_,I.base.tups,I.base.frzs,I.base.tbls⟩,⟨m,hn.sameBut hs (Ne.symm (cne x c hc)),fun j y v' e1 e2 e3=>?_⟩,fun y c' e=>?_,I.free,I.freeC,fun p hp=>?_,tracked ⟨oc,hoc,I.freeC x c hc⟩ hs,by simpa using I.len⟩ ⟨c,hs,.inr hc⟩
  ·exact(hs.2 b (Nat.ne_of_lt (Nat.lt_of_lt_of_le (Heap.lt_size e) (I.ok.cab x c hfn hc)))).trans (I.base.keep b o e n hb hx)
  ·obtain⟨sl,e1⟩:=I.base.slot b o e n hb hx
   exact⟨sl,(hs.2 b (Nat.ne_of_lt (Nat.lt_of_lt_of_le (Heap.lt_size e) (I.ok.cab x c hfn hc)))).trans e1⟩
  ·obtain⟨o',e1⟩:=I.base.there b o e hx
   exact⟨o',(hs.2 b (Nat.ne_of_lt (Nat.lt_of_lt_of_le (Heap.lt_size e) (I.ok.cab x c hfn hc)))).trans e1⟩
  ·by_cases hj:j=i
   ·subst hj
    rw[hi] at e1; cases e1
    rw[List.getElem?_set_self hiσ] at e2
    cases e2
    exact⟨u,r,.inr ⟨.inl hk,c,hc,hc'⟩⟩
   ·rw[List.getElem?_set_ne (Ne.symm hj)] at e2
    obtain⟨u',r',q⟩:=hl j y v' e1 e2 e3
    refine⟨u',r',?_⟩
    rcases q with q|⟨k,c',e,z'⟩
    ·exact .inl q
    ·refine .inr ⟨k,c',e,z'.sameBut hs ?_⟩
     rintro rfl
     exact hj (nodup_ix hN e1 (I.ok.inj _ _ _ e hc▸hi))
  ·by_cases hcc:c'=c
   ·subst hcc; exact⟨_,hc'⟩
   ·obtain⟨w2,z2⟩:=I.cell y c' e
    exact⟨w2,z2.sameBut hs hcc⟩
  ·obtain⟨e,n,ne,nf,d⟩:=I.pin p hp
   refine⟨(hs.2 p.1 ?_).trans e,n,ne,nf,d⟩
   intro q
   rw[q,hoc] at e
   have q':oc=p.2:=Option.some.inj e
   exact d w' (by rw[<- q']; exact hocd)
theorem store_ok {M:Model}{A:Around}{E:Value->Shared->Prop}{i:Nat}{x:Str}{v:V}{u:Value}{Q:Unit->Shared->Prop}(I:Inv X pins σ H s)(hN:X.N.Nodup)(hi:X.N[i]?=some x)(hx:Loc X.env.scope x)(r:RelV v u)
  (h:∀ s',Inv X pins (σ.set i (some v)) H s'->Q () s') (hf:autoParam (X.fn x=true\/X.env.scope.names.lookup x=some .local) Au.h1._auto_1):wpAny M A (storeName X.env x u) Q E s :=
 store_ok2 I hN hi hx r (fun s' I' _=>h s' I') hf
theorem Inv.call' {s':Shared}{ch:List Addr}(I:Inv X pins σ H s)(ho:s'.os=s.os)(u:Un (frs X.stack) ch H H' s.heap s'.heap)(hok:HOk X.prog X.w H' s'.heap)(hg:AllBare s'.gens)
  (hch:∀ b∈ch,(b∈X.ex\/X.s₀.heap.objs.size<=b)/\b≠X.env.locals/\(∀ x c,X.env.cells.lookup x=some c->c≠b)/\∀ p∈X.pn++pins,p.1≠b):Inv X pins σ H' s':=by
 obtain⟨h',g',d',t',o'⟩:=s'
 have e:o'=s.os:=ho
 subst e
 exact I.call (g':=g') (t':=t') (d':=d') u hok hg hch
end
noncomputable abbrev XK:=Value->Option Addr->Hp->Prop
noncomputable abbrev St:=List (Option V)
noncomputable abbrev VK:=V->Hp->Prop
noncomputable abbrev TE:=St->Hp->VK->Prop
noncomputable abbrev TT:=St->Hp->(Bool->Hp->Prop)->Prop
noncomputable abbrev TA:=St->Hp->(List V->Hp->Prop)->Prop
structure Ends where
 nx:St->Hp->Prop
 rt:VK
 bk:St->Hp->Prop:=fun _ _=>False
 ct:St->Hp->Prop:=fun _ _=>False
noncomputable abbrev TS:=Ends->St->Hp->Prop
noncomputable def EP (X:Cx)(pins:List (Addr × Obj))(σ:St)(Q:VK)(u:Value)(s':Shared):Prop:=∃ v H',Inv X pins σ H' s'/\RelV v u/\Q v H'
noncomputable def TP (X:Cx)(pins:List (Addr × Obj))(σ:St)(Q:Bool->Hp->Prop)(b:Bool)(s':Shared):Prop:=∃ H',Inv X pins σ H' s'/\Q b H'
noncomputable def AP (X:Cx)(pins:List (Addr × Obj))(σ:St)(Q:List V->Hp->Prop)(us:List Value)(s':Shared):Prop:=∃ vs H',Inv X pins σ H' s'/\Vals vs us/\Q vs H'
noncomputable def SP (X:Cx)(pins:List (Addr × Obj))(D:Ends)(f:Flow)(s':Shared):Prop :=
 match f with
 | .next=>∃ σ' H',Inv X pins σ' H' s'/\D.nx σ' H'
 | .brk=>∃ σ' H',Inv X pins σ' H' s'/\D.bk σ' H'
 | .cont=>∃ σ' H',Inv X pins σ' H' s'/\D.ct σ' H'
 | .ret u=>∃ v σ' H',Inv X pins σ' H' s'/\RelV v u/\D.rt v H'
noncomputable def PE (X:Cx)(e:Expr)(t:TE):Prop :=
 ∀ (pins:List (Addr × Obj)) (s:Shared) (σ:St) (H:Hp) (Q:VK),Inv X pins σ H s->t σ H Q->wpAny (model X.prog X.w) X.A (eval e X.env) (EP X pins σ Q) X.xe s
noncomputable def PT (X:Cx)(e:Expr)(t:TT):Prop :=
 ∀ (pins:List (Addr × Obj)) (s:Shared) (σ:St) (H:Hp) (Q:Bool->Hp->Prop),Inv X pins σ H s->t σ H Q->wpAny (model X.prog X.w) X.A (isTrue e X.env (eval e X.env)) (TP X pins σ Q) X.xe s
noncomputable def PW (X:Cx)(e:Expr)(t:TT):Prop :=
 ∀ (whole:Sem Value) (pins:List (Addr × Obj)) (s:Shared) (σ:St) (H:Hp) (Q:Bool->Hp->Prop),Inv X pins σ H s->t σ H Q->wpAny (model X.prog X.w) X.A (isTrue e X.env whole) (TP X pins σ Q) X.xe s
theorem PW.pt {X:Cx}{e:Expr}{t:TT}(h:PW X e t):PT X e t:=h _
noncomputable def PA (X:Cx)(es:List Expr)(t:TA):Prop :=
 ∀ (pos:Pos) (pins:List (Addr × Obj)) (s:Shared) (σ:St) (H:Hp) (Q:List V->Hp->Prop),Inv X pins σ H s->t σ H Q->wpAny (model X.prog X.w) X.A (spliced (backTo pos (starEach es X.env))) (AP X pins σ Q) X.xe s
noncomputable def PS (X:Cx)(st:Stmt)(t:TS):Prop :=
 ∀ (pins:List (Addr × Obj)) (s:Shared) (σ:St) (H:Hp) (D:Ends),Inv X pins σ H s->t D σ H->wpAny (model X.prog X.w) X.A (exec st X.env) (SP X pins D) X.xe s
noncomputable def PSs (X:Cx)(st:List Stmt)(t:TS):Prop :=
 ∀ (pins:List (Addr × Obj)) (s:Shared) (σ:St) (H:Hp) (D:Ends),Inv X pins σ H s->t D σ H->wpAny (model X.prog X.w) X.A (execs st X.env) (SP X pins D) X.xe s
theorem thn {α:Type}{t:Sem α}{Q Q':α->Shared->Prop}{M:Model}{A:Around}{E:Value->Shared->Prop}{s:Shared}(h:wpAny M A t Q E s)(hQ:∀ a s,Q a s->Q' a s):wpAny M A t Q' E s:=wpAny_mono h hQ fun _ _ x=>x
section
variable {X:Cx}
noncomputable def tVar (i:Nat):TE:=fun σ H Q=>∃ v,σ[i]?=some (some v)/\Q v H
noncomputable def tC (v:V):TE:=fun _ H Q=>Q v H
theorem pe_var {i:Nat}{x:Str}{pos:Pos}(hN:X.N[i]?=some x)(hv:Vis X.env.scope x)(hd:autoParam ((x == ("__debug__":Str))=false) Au.h2._auto_1)(hcd:autoParam ((x == ("__classdict__":Str))=false) Au.h2._auto_1):PE X (.Name x pos) (tVar i):=by
 intro pins s σ H Q I h
 obtain⟨v,e,h⟩:=h
 obtain⟨m,hn,hl⟩:=I.loc
 obtain⟨u,r,l⟩:=hl i x v hN e hv
 have fin:EP X pins σ Q u s:=⟨v,H,I,r,h⟩
 rcases l with ⟨hk,hm⟩|⟨hk,c,hc,hcell⟩
 ·exact wpAny_Name (wpAny_loadName_local I.ok.kind hk hn hm fin) hd
 ·rcases hk with hk|hk
  ·exact wpAny_Name (wpAny_loadName_cell I.ok.kind hk hc hcell fin) hd
  ·exact wpAny_Name (wpAny_loadName_free I.ok.kind hk hc hcell fin hcd) hd
theorem pe_int {i j pos}:PE X (.Constant (.int i) j pos) (tC (.int i)):=fun _ _ _ H _ I h=>wpAny_Constant_int ⟨.int i,H,I.tok _,⟨_,rfl⟩,h⟩
theorem pe_bl {b j pos}:PE X (.Constant (.bool b) j pos) (tC (.bl b)):=fun _ _ _ H _ I h=>Constant_bool ⟨.bl b,H,I,rfl,h⟩
theorem pe_non {j pos}:PE X (.Constant .none j pos) (tC .non):=fun _ _ _ H _ I h=>Constant_none ⟨.non,H,I,rfl,h⟩
theorem pe_str {x j pos}:PE X (.Constant (.str x) j pos) (tC (.str x)):=fun _ _ _ H _ I h=>Calls.Constant_str ⟨.str x,H,I.tok _,⟨_,rfl⟩,h⟩
noncomputable def Gl (X:Cx)(x:Str):Prop:=X.env.kindOf x=some .globalImplicit
theorem ld_glob {E:Value->Shared->Prop}{pins:List (Addr × Obj)}{s:Shared}{σ:St}{H:Hp}{x:Str}{u:Value}{pos:Pos}{Q:Value->Shared->Prop}(I:Inv X pins σ H s)(hg:Gl X x)(hm:X.mg x=some u)(h:Q u s)
  (hd:autoParam ((x == ("__debug__":Str))=false) Au.h2._auto_1):wpAny (model X.prog X.w) X.A (eval (.Name x pos) X.env) Q E s :=
 Calls.Name_function_global I.ok.kind hg (Calls.loadGlobal_global (by rw[I.ok.glob]; exact I.mod.glob.keeps I.bk) hm h) hd
theorem ld_blt {E:Value->Shared->Prop}{pins:List (Addr × Obj)}{s:Shared}{σ:St}{H:Hp}{x:Str}{u:Value}{pos:Pos}{Q:Value->Shared->Prop}(I:Inv X pins σ H s)(hg:Gl X x)(hm:X.mg x=none)(hv:bootBuiltins x=some u)(h:Q u s)
  (hn:autoParam (x≠"__name__") Au.h2._auto_1) (hd:autoParam ((x == ("__debug__":Str))=false) Au.h2._auto_1):wpAny (model X.prog X.w) X.A (eval (.Name x pos) X.env) Q E s:=by
 obtain⟨mb,h1,h2⟩:=I.mod.blt
 exact Calls.Name_function_global I.ok.kind hg (Calls.loadGlobal_builtin (by rw[I.ok.glob]; exact I.mod.glob.keeps I.bk) hm (by rw[I.ok.blt]; exact h1.keeps I.bk) ((h2 x hn).trans hv) h) hd
theorem pe_glob {x:Str}{v:V}{u:Value}{pos:Pos}(hg:Gl X x)(hm:X.mg x=some u)(r:RelV v u)(hd:autoParam ((x == ("__debug__":Str))=false) Au.h2._auto_1):PE X (.Name x pos) (tC v) :=
 fun _ _ _ H _ I h=>ld_glob I hg hm ⟨v,H,I,r,h⟩ hd
theorem pe_bltn {x:Str}{v:V}{u:Value}{pos:Pos}(hg:Gl X x)(hm:X.mg x=none)(hv:bootBuiltins x=some u)(r:RelV v u)(hn:autoParam (x≠"__name__") Au.h2._auto_1)(hd:autoParam ((x == ("__debug__":Str))=false) Au.h2._auto_1):PE X (.Name x pos) (tC v) :=
 fun _ _ _ H _ I h=>ld_blt I hg hm hv ⟨v,H,I,r,h⟩ hn hd
variable {a b:Expr}{ta tb:TE}{pos:Pos}
noncomputable def PC (X:Cx)(op:CmpOp)(a b:Expr)(t:TE):Prop :=
 ∀ (pins:List (Addr × Obj)) (s:Shared) (σ:St) (H:Hp) (Q:VK),Inv X pins σ H s->t σ H Q ->
  wpAny (model X.prog X.w) X.A (eval a X.env) (fun v s₁=>wpAny (model X.prog X.w) X.A (eval b X.env) (fun u s₂=>wpAny (model X.prog X.w) X.A (compareOp op v u) (EP X pins σ Q) X.xe s₂) X.xe s₁) X.xe s
theorem nobehind (b:Expr){op:CmpOp}(h:op≠.In)(h2:op≠.NotIn):behindInMarks op b=false:=by
 have e1:(op == CmpOp.In)=false:=by cases op <;>first|rfl|exact absurd rfl h
 have e2:(op == CmpOp.NotIn)=false:=by cases op <;>first|rfl|exact absurd rfl h2
 cases b <;>simp[behindInMarks,e1,e2]
noncomputable def tNotN (ta:TE):TE:=fun σ H Q=>ta σ H fun x H1=>Q (.bl (!decide (x=.non))) H1
theorem RelV.none_iff {x:V}{v:Value}(r:RelV x v):(v == Value.none)=decide (x=.non):=by
 cases x with
 | non=>cases r; rfl
 | bl _=>cases r; rfl
 | int _=>obtain⟨t,rfl⟩:=r; rfl
 | str _=>obtain⟨t,rfl⟩:=r; rfl
 | byt _=>obtain⟨t,rfl⟩:=r; rfl
 | flt _=>obtain⟨t,rfl⟩:=r; rfl
 | ref _=>cases r; rfl
 | ty _=>cases r; rfl
theorem pc_notN {j pos'}(ha:PE X a ta):PC X .IsNot a (.Constant .none j pos') (tNotN ta):=by
 intro pins s σ H Q I h
 refine thn (ha pins s σ H _ I h) fun v s1 ⟨x,H1,I1,r1,q1⟩=>?_
 exact Constant_none (isnot_none_gen ⟨.bl _,H1,I1,by rw[r1.none_iff]; rfl,q1⟩)
noncomputable def tB (t:TE):TT:=fun σ H Q=>t σ H fun x H1=>∃ c,x=.bl c/\Q c H1
theorem pt_cmp {op:CmpOp}{t:TE}(h:PC X op a b t)(h1:autoParam (behindInMarks op b=false) Au.h3._auto_1):PT X (.Compare a [op] [b] pos) (tB t):=by
 intro pins s σ H Q I hw
 refine wpAny_isTrue_Compare1 (thn (h pins s σ H _ I hw) fun v s1 h1=>thn h1 fun u s2 h2=>thn h2 fun c s3 ⟨x,H1,I1,r1,q1⟩=>?_) h1
 obtain⟨d,rfl,q⟩:=q1
 cases r1
 exact wpAny_truthy_bool ⟨H1,I1,q⟩
theorem pt_val {e:Expr}{t:TE}(h:PE X e t)(he:autoParam (∀ whole,isTrue e X.env whole=(do let v <- whole; standAt e.pos; holding [v] (truthy v))) Au.h4._auto_1):PT X e (tB t):=by
 intro pins s σ H Q I hw
 refine isTrue_plain (thn (h pins s σ H _ I hw) fun v s1 ⟨x,H1,I1,r1,q1⟩=>?_) (he _)
 obtain⟨d,rfl,q⟩:=q1
 cases r1
 exact wpAny_truthy_bool ⟨H1,I1,q⟩
variable {tA tB':TT}{rest:List Expr}
noncomputable def tOr (t u:TT):TT:=fun σ H Q=>t σ H fun c H1=>if c=true then Q true H1 else u σ H1 Q
noncomputable def tNot (t:TT):TT:=fun σ H Q=>t σ H fun c H1=>Q (!c) H1
theorem pw_and1 (ha:PT X a tA):PW X (.BoolOp .And [a] pos) tA:=by
 intro wh pins s σ H Q I h
 refine isTrue_and (thn (ha pins s σ H Q I h) fun c s1 e=>?_)
 cases c with
 | true=>exact isTrue_and_nil e
 | false=>exact e
theorem pw_or1 (ha:PT X a tA):PW X (.BoolOp .Or [a] pos) tA:=by
 intro wh pins s σ H Q I h
 refine isTrue_or (thn (ha pins s σ H Q I h) fun c s1 e=>?_)
 cases c with
 | false=>exact isTrue_or_nil e
 | true=>exact e
theorem pw_or (ha:PT X a tA)(hb:PW X (.BoolOp .Or (b::rest) pos) tB'):PW X (.BoolOp .Or (a::b::rest) pos) (tOr tA tB'):=by
 intro wh pins s σ H Q I h
 refine isTrue_or (thn (ha pins s σ H _ I h) fun c s1 ⟨H1,I1,q1⟩=>?_)
 cases c with
 | true=>exact⟨H1,I1,q1⟩
 | false=>exact hb wh pins s1 σ H1 Q I1 q1
theorem pt_not (ha:PT X a tA):PT X (.UnaryOp .Not a pos) (tNot tA):=by
 intro pins s σ H Q I h
 exact isTrue_not (ha pins s σ H (fun c H1=>Q (!c) H1) I h)
noncomputable def tAndV (ta tb:TE):TE:=fun σ H Q=>ta σ H fun x H1=>∃ c,x=.bl c/\if c=true then tb σ H1 Q else Q (.bl false) H1
noncomputable def tNotV (ta:TE):TE:=fun σ H Q=>ta σ H fun x H1=>∃ c,x=.bl c/\Q (.bl (!c)) H1
theorem pe_one {op}{t:TE}(h:PE X a t):PE X (.BoolOp op [a] pos) t:=fun pins s σ H Q I hw=>BoolOp_one (h pins s σ H Q I hw)
theorem pe_and (ha:PE X a ta)(hb:PE X (.BoolOp .And (b::rest) pos) tb):PE X (.BoolOp .And (a::b::rest) pos) (tAndV ta tb):=by
 intro pins s σ H Q I h
 refine BoolOp_and (thn (ha pins s σ H _ I h) fun v s1 ⟨x,H1,I1,r1,q1⟩=>?_)
 obtain⟨c,rfl,q1⟩:=q1
 cases r1
 refine wpAny_truthy_bool ?_
 cases c with
 | true=>exact hb pins s1 σ H1 Q I1 q1
 | false=>exact⟨.bl false,H1,I1,rfl,q1⟩
theorem pe_not (ha:PE X a ta):PE X (.UnaryOp .Not a pos) (tNotV ta):=by
 intro pins s σ H Q I h
 refine UnaryOp_ (thn (ha pins s σ H _ I h) fun v s1 ⟨x,H1,I1,r1,q1⟩=>?_)
 obtain⟨c,rfl,q1⟩:=q1
 cases r1
 exact not_of (wpAny_truthy_bool ⟨.bl (!c),H1,I1,rfl,q1⟩)
end
noncomputable def SqL (K:PySem.W.Frag)(H:Hp)(a:Addr)(xs:List V):Prop :=
 Rd H a (.lst xs) \/
  ∃ (o:Obj) (its:Array Value) (n:Nat),K.lookup a=some o/\o.cls=.type "list"/\o.dict=none/\o.data=.seq its n/\its.size<=sizeLine/\Vals xs its.toList
noncomputable def SqT (K:PySem.W.Frag)(H:Hp)(a:Addr)(xs:List V):Prop :=
 Rd H a (.tup xs) \/
  ∃ (o:Obj) (its:Array Value) (n:Nat),K.lookup a=some o/\o.cls=.type "tuple"/\o.data=.seq its n/\its.size<=sizeLine/\Vals xs its.toList
noncomputable def absV:Value->Option V
 | .none=>some .non
 | .bool b=>some (.bl b)
 | .int i _=>some (.int i)
 | .str x _=>some (.str x)
 | .bytes b _=>some (.byt b)
 | .float b _=>some (.flt b)
 | .ref a=>some (.ref a)
 | .type n=>some (.ty n)
 | _=>none
theorem RelV.abs {x:V}{u:Value}(r:RelV x u):absV u=some x:=by
 cases x with
 | non=>cases r; rfl
 | bl _=>cases r; rfl
 | int _=>obtain⟨t,rfl⟩:=r; rfl
 | str _=>obtain⟨t,rfl⟩:=r; rfl
 | byt _=>obtain⟨t,rfl⟩:=r; rfl
 | flt _=>obtain⟨t,rfl⟩:=r; rfl
 | ref _=>cases r; rfl
 | ty _=>cases r; rfl
theorem RelV.inj {x y:V}{u:Value}(r:RelV x u)(q:RelV y u):x=y:=Option.some.inj (r.abs.symm.trans q.abs)
theorem Vals.inj {xs ys:List V}{us:List Value}(q:Vals xs us)(p:Vals ys us):xs=ys:=by
 induction q generalizing ys with
 | nil=>cases p; rfl
 | cons r t ih =>
  cases p with
  | cons r' t'=>rw[r.inj r',ih t']
section
variable {X:Cx}{pins:List (Addr × Obj)}{σ:St}{H:Hp}{s:Shared}{a:Addr}{xs ys:List V}
theorem SqL.of {K:PySem.W.Frag}(h:H a=some (.lst xs)):SqL K H a xs:=.inl (.inl h)
theorem Inv.list (I:Inv X pins σ H s)(h:SqL X.K H a xs):∃ its:List Value,Vals xs its/\PlainL s.heap a its.toArray/\xs.length<=sizeLine:=by
 rcases h with h|⟨o,its,n,hk,hc,hd,hs,hz,r⟩
 ·obtain⟨z,its,n,r,e⟩:=h.ok I.hok
  exact⟨its,r,⟨_,n,e,rfl,rfl,rfl⟩,z⟩
 ·refine⟨its.toList,r,⟨o,n,I.kIn a o hk,hc,hd,by simpa using hs⟩,?_⟩
  have e:=r.length
  simp only[Array.length_toList] at e
  omega
theorem Inv.tuple (I:Inv X pins σ H s)(h:SqT X.K H a xs):∃ its:List Value,Vals xs its/\IsTup s.heap a its.toArray/\xs.length<=sizeLine:=by
 rcases h with h|⟨o,its,n,hk,hc,hs,hz,r⟩
 ·obtain⟨z,its,r,p⟩:=h.ok I.hok
  exact⟨its,r,p,z⟩
 ·refine⟨its.toList,r,⟨o,I.kIn a o hk,hc,n,by simpa using hs⟩,?_⟩
  have e:=r.length
  simp only[Array.length_toList] at e
  omega
theorem Inv.list_inj (I:Inv X pins σ H s)(h:SqL X.K H a xs)(h':SqL X.K H a ys):xs=ys:=by
 obtain⟨its,r,⟨o,n,e,_,_,d⟩,_⟩:=I.list h
 obtain⟨its',r',⟨o',n',e',_,_,d'⟩,_⟩:=I.list h'
 rw[e] at e'; cases e'
 rw[d] at d'
 injection d' with d1 _
 have:its=its':=by simpa using congrArg Array.toList d1
 subst this
 exact r.inj r'
end
noncomputable abbrev Cx.wish (X:Cx)(E:Value->Shared->Prop):Cx:={ X with xe:=E }
noncomputable abbrev Cx.nox (X:Cx):Cx:=X.wish fun _ _=>False
theorem Cx.Ok.wish {X:Cx}(ok:X.Ok)(E:Value->Shared->Prop):(X.wish E).Ok :=
 ⟨ok.mod,ok.kind,ok.glob,ok.blt,ok.above,ok.inj,ok.has,ok.cab,ok.hd,ok.frames,ok.stk,ok.exf,ok.bs,ok.bsz,ok.noex,ok.exfs,ok.funs,ok.frf⟩
theorem Cx.Ok.unwish {X:Cx}{E:Value->Shared->Prop}(ok:(X.wish E).Ok):X.Ok :=
 ⟨ok.mod,ok.kind,ok.glob,ok.blt,ok.above,ok.inj,ok.has,ok.cab,ok.hd,ok.frames,ok.stk,ok.exf,ok.bs,ok.bsz,ok.noex,ok.exfs,ok.funs,ok.frf⟩
section
variable {X:Cx}{pins:List (Addr × Obj)}{σ:St}{H:Hp}{s:Shared}{E:Value->Shared->Prop}
theorem Inv.wish (I:Inv X pins σ H s)(E:Value->Shared->Prop):Inv (X.wish E) pins σ H s:=⟨I.ok.wish E,I.os,I.bare,I.base,I.loc,I.cell,I.free,I.freeC,I.pin,I.hok,I.len⟩
theorem Inv.unwish (I:Inv (X.wish E) pins σ H s):Inv X pins σ H s:=⟨I.ok.unwish,I.os,I.bare,I.base,I.loc,I.cell,I.free,I.freeC,I.pin,I.hok,I.len⟩
theorem SP.unwish {D:Ends}{f:Flow}{s':Shared}(h:SP (X.wish E) pins D f s'):SP X pins D f s':=by
 cases f with
 | next=>obtain⟨σ',H',I,q⟩:=h; exact⟨σ',H',I.unwish,q⟩
 | brk=>obtain⟨σ',H',I,q⟩:=h; exact⟨σ',H',I.unwish,q⟩
 | cont=>obtain⟨σ',H',I,q⟩:=h; exact⟨σ',H',I.unwish,q⟩
 | ret u=>obtain⟨v,σ',H',I,r,q⟩:=h; exact⟨v,σ',H',I.unwish,r,q⟩
theorem PE.nox {e:Expr}{t:TE}(h:PE X.nox e t):PE X e t:=fun pins s σ H Q I hw =>
 wpAny_mono (h pins s σ H Q (I.wish _) hw) (fun _ _ ⟨v,H',I',r,q⟩=>⟨v,H',I'.unwish,r,q⟩) fun _ _ z=>False.elim z
theorem PT.nox {e:Expr}{t:TT}(h:PT X.nox e t):PT X e t:=fun pins s σ H Q I hw =>
 wpAny_mono (h pins s σ H Q (I.wish _) hw) (fun _ _ ⟨H',I',q⟩=>⟨H',I'.unwish,q⟩) fun _ _ z=>False.elim z
theorem PSs.nox {st:List Stmt}{t:TS}(h:PSs X.nox st t):PSs X st t:=fun pins s σ H D I hw =>
 wpAny_mono (h pins s σ H D (I.wish _) hw) (fun _ _ q=>q.unwish) fun _ _ z=>False.elim z
end
section
variable {X:Cx}{st:Stmt}{rest:List Stmt}{t u:TS}{e:Expr}{te:TE}{pos:Pos}
noncomputable def tNext:TS:=fun D σ H=>D.nx σ H
noncomputable def tSeq (t u:TS):TS:=fun D σ H=>t { D with nx:=u D } σ H
theorem pss_nil:PSs X [] tNext:=fun _ _ σ H _ I h=>wpAny_execs_nil ⟨σ,H,I,h⟩
theorem pss_cons (h1:PS X st t)(h2:PSs X rest u):PSs X (st::rest) (tSeq t u):=by
 intro pins s σ H D I h
 refine wpAny_execs_cons (thn (h1 pins s σ H { D with nx:=u D } I h) fun f s1 q=>?_)
 cases f with
 | next =>
  obtain⟨σ',H',I',q⟩:=q
  exact h2 pins s1 σ' H' D I' q
 | ret v=>exact q
 | brk=>exact q
 | cont=>exact q
theorem pss_one (h1:PS X st t):PSs X [st] t:=by
 intro pins s σ H D I h
 refine wpAny_execs_cons (thn (h1 pins s σ H D I h) fun f s1 q=>?_)
 cases f with
 | next=>exact wpAny_execs_nil q
 | ret v=>exact q
 | brk=>exact q
 | cont=>exact q
theorem Inv.quiet {pins:List (Addr × Obj)}{σ:St}{H:Hp}{s:Shared}(I:Inv X pins σ H s):interactive X.env=false:=by simp[interactive,I.ok.kind]
noncomputable def tDrop (te:TE):TS:=fun D σ H=>te σ H fun _ H1=>D.nx σ H1
theorem ps_expr (he:PE X e te)(hs:autoParam (swapsWith e none pos.line X.env=pure false) Au.h5._auto_1):PS X (.Expr e pos) (tDrop te):=by
 intro pins s σ H D I h
 exact wpAny_Expr_any (thn (he pins s σ H _ I h) fun v s1 ⟨x,H1,I1,r1,q1⟩=>⟨σ,H1,I1,q1⟩) I.quiet hs
noncomputable def tRet (te:TE):TS:=fun D σ H=>te σ H D.rt
theorem ps_ret (he:PE X e te):PS X (.Return (some e) pos) (tRet te):=by
 intro pins s σ H D I h
 exact wpAny_Return_some (thn (he pins s σ H _ I h) fun v s1 ⟨x,H1,I1,r1,q1⟩=>⟨x,σ,H1,I1,r1,q1⟩)
noncomputable def tIfS (c:TT)(t u:TS):TS:=fun D σ H=>c σ H fun b H1=>if b=true then t D σ H1 else u D σ H1
theorem ps_if {c:Expr}{a b:List Stmt}{tc:TT}(hc:PT X c tc)(ha:PSs X a t)(hb:PSs X b u):PS X (.If c a b pos) (tIfS tc t u):=by
 intro pins s σ H D I h
 refine wpAny_If (thn (hc pins s σ H _ I h) fun d s1 ⟨H1,I1,q1⟩=>?_)
 cases d with
 | true=>exact ha pins s1 σ H1 D I1 q1
 | false=>exact hb pins s1 σ H1 D I1 q1
end
noncomputable abbrev TG:=V->St->Hp->(St->Hp->Prop)->Prop
noncomputable abbrev TGs:=List V->St->Hp->(St->Hp->Prop)->Prop
noncomputable def PG (X:Cx)(target:Expr)(t:TG):Prop :=
 ∀ (pins:List (Addr × Obj)) (s:Shared) (σ:St) (H:Hp) (v:V) (u:Value) (Q:St->Hp->Prop),Inv X pins σ H s->RelV v u->t v σ H Q ->
  wpAny (model X.prog X.w) X.A (assign target X.env u) (fun _ s'=>∃ σ' H',Inv X pins σ' H' s'/\Q σ' H') X.xe s
noncomputable def PGs (X:Cx)(ts:List Expr)(t:TGs):Prop :=
 ∀ (pins:List (Addr × Obj)) (s:Shared) (σ:St) (H:Hp) (vs:List V) (us:List Value) (Q:St->Hp->Prop),Inv X pins σ H s->Vals vs us->t vs σ H Q ->
  wpAny (model X.prog X.w) X.A (assignInOrder ((assignEach ts X.env).map (·.2)) us) (fun _ s'=>∃ σ' H',Inv X pins σ' H' s'/\Q σ' H') X.xe s
noncomputable abbrev TSet:=V->V->V->Hp->(Hp->Prop)->Prop
noncomputable def PSet (X:Cx)(t:TSet):Prop :=
 ∀ (pins:List (Addr × Obj)) (s:Shared) (σ:St) (H:Hp) (o i v:V) (ov iv u:Value) (Q:Hp->Prop),Inv X pins σ H s->RelV o ov->RelV i iv->RelV v u->t o i v H Q ->
  wpAny (model X.prog X.w) X.A (setItem ov iv u) (fun _ s'=>∃ H',Inv X pins σ H' s'/\Q H') X.xe s
section
variable {X:Cx}{pos:Pos}
noncomputable def gName (i:Nat):TG:=fun v σ H Q=>Q (σ.set i (some v)) H
theorem pg_name {i:Nat}{x:Str}(hN:X.N.Nodup)(hi:X.N[i]?=some x)(hx:Loc X.env.scope x)(hf:autoParam (X.fn x=true\/X.env.scope.names.lookup x=some .local) Au.h1._auto_1):PG X (.Name x pos) (gName i):=by
 intro pins s σ H v u Q I r h
 exact wpAny_assign_Name (store_ok I hN hi hx r (fun s' I'=>⟨_,H,I',h⟩) hf)
noncomputable def gNil:TGs:=fun vs σ H Q=>vs=[]/\Q σ H
noncomputable def gCons (t:TG)(u:TGs):TGs:=fun vs σ H Q=>∃ v r,vs=v::r/\t v σ H fun σ' H'=>u r σ' H' Q
theorem pgs_nil:PGs X [] gNil:=by
 intro pins s σ H vs us Q I r h
 obtain⟨e,h⟩:=h
 subst e
 cases r
 exact assignInOrder_nil ⟨σ,H,I,h⟩
theorem pgs_cons {e:Expr}{es:List Expr}{t:TG}{u:TGs}(h1:PG X e t)(h2:PGs X es u)
  (hs:autoParam ((assignEach (e::es) X.env).map (·.2)=assign e X.env::(assignEach es X.env).map (·.2)) Au.h5._auto_1):PGs X (e::es) (gCons t u):=by
 intro pins s σ H vs us Q I r h
 obtain⟨v,vr,e1,h⟩:=h
 subst e1
 cases r with
 | cons r rr =>
  rw[hs]
  refine assignInOrder_cons (thn (h1 pins s σ H _ _ _ I r h) fun _ s1 ⟨σ1,H1,I1,q1⟩=>?_)
  exact h2 pins s1 σ1 H1 _ _ Q I1 rr q1
noncomputable def gTup (K:PySem.W.Frag)(n:Nat)(t:TGs):TG:=fun v σ H Q=>∃ a xs,v=.ref a/\SqT K H a xs/\xs.length=n/\t xs σ H Q
theorem pg_tup {es:List Expr}{k:Nat}{t:TGs}{n:Nat}(hc:X.calm=true)(h:PGs X es t)
  (hn:autoParam ((assignEach es X.env).length=n) Au.h5._auto_1) (hst:autoParam ((assignEach es X.env).findIdx? (·.1)=none) Au.h5._auto_1):PG X (.Tuple es k pos) (gTup X.K n t):=by
 intro pins s σ H v u Q I r hw
 obtain⟨a,xs,e1,hq,hl,hw⟩:=hw
 subst e1
 cases r
 obtain⟨its,rv,ht,hz⟩:=I.tuple hq
 refine assign_Tuple_tuple (I.ok.hd hc) ht (by simp[hn,<- hl,rv.length]) hst fun h' hx=>?_
 have I1:Inv X pins σ H { s with heap:=h' }:=I.kept (t':=s.toks) fun b o e=>hx b o (Nat.ne_of_lt (Heap.lt_size e)) e
 exact h pins _ σ H xs _ Q I1 (by simpa using rv) hw
noncomputable def gSub (to ti:TE)(t:TSet):TG:=fun v σ H Q=>to σ H fun o H1=>ti σ H1 fun i H2=>t o i v H2 fun H3=>Q σ H3
theorem pg_sub {o i:Expr}{to ti:TE}{t:TSet}(ho:PE X o to)(hi:PE X i ti)(hs:PSet X t)
  (ha:autoParam (∀ v,assign (.Subscript o i pos) X.env v=(do
   let ov <- holding [v] (eval o X.env)
   let iv <- holding [v,ov] (eval i X.env)
   standAt pos
   holding [v,ov,iv] (setItem ov iv v)
   release [v,ov,iv] [])) Au.h4._auto_1):PG X (.Subscript o i pos) (gSub to ti t):=by
 intro pins s σ H v u Q I r h
 rw[ha]
 refine wpAny_bind (wpAny_holding (thn (ho pins s σ H _ I h) fun ov s1 ⟨x,H1,I1,r1,q1⟩=>?_))
 refine wpAny_bind (wpAny_holding (thn (hi pins s1 σ H1 _ I1 q1) fun iv s2 ⟨y,H2,I2,r2,q2⟩=>?_))
 refine wpAny_bind (wpAny_standAt (wpAny_bind (wpAny_holding (thn (hs pins s2 σ H2 x y v ov iv u _ I2 r1 r2 r q2) fun _ s3 ⟨H3,I3,q3⟩=>?_))))
 exact wpAny_release ⟨σ,H3,I3,q3⟩
noncomputable def tAsg (te:TE)(g:TG):TS:=fun D σ H=>te σ H fun x H1=>g x σ H1 D.nx
theorem ps_asg {tg e:Expr}{te:TE}{g:TG}(he:PE X e te)(hg:PG X tg g)(hs:autoParam (swapsWithSole [tg] e pos.line X.env=pure false) Au.h5._auto_1)(hw:autoParam (swappedStores [tg] e X.env=pure none) Au.h5._auto_1)
  (h1:autoParam ((assignEach [tg] X.env).map (·.2)=[assign tg X.env]) Au.h5._auto_1):PS X (.Assign [tg] e pos) (tAsg te g):=by
 intro pins s σ H D I h
 refine wpAny_Assign_stores (thn (he pins s σ H _ I h) fun v s1 ⟨x,H1,I1,r1,q1⟩=>?_) hs hw
 rw[h1]
 exact thn (hg pins s1 σ H1 x v _ I1 r1 q1) fun _ s2 q=>q
theorem ps_set {i:Nat}{x:Str}{e:Expr}{te:TE}{pos':Pos}(hN:X.N.Nodup)(hi:X.N[i]?=some x)(hx:Loc X.env.scope x)(he:PE X e te)(hs:autoParam (swapsWith e (some (.Name x pos')) pos.line X.env=pure false) Au.h5._auto_1)(hf:autoParam (X.fn x=true\/X.env.scope.names.lookup x=some .local) Au.h1._auto_1) :
  PS X (.Assign [.Name x pos'] e pos) (tAsg te (gName i)):=by
 intro pins s σ H D I h
 refine wpAny_Assign_Name (thn (he pins s σ H _ I h) fun v s1 ⟨y,H1,I1,r1,q1⟩=>?_) hs
 exact store_ok I1 hN hi hx r1 (fun s2 I2=>⟨_,H1,I2,q1⟩) hf
noncomputable def tPar (i j:Nat)(ta:TA):TS:=fun D σ H=>ta σ H fun vs H1=>∃ v w,vs=[v,w]/\D.nx ((σ.set i (some v)).set j (some w)) H1
theorem ps_par {i j:Nat}{x y:Str}{a b:Expr}{ta:TA}{px py pt:Pos}{kt k2 pt2}(hc:X.calm=true)(hN:X.N.Nodup)(hi:X.N[i]?=some x)(hj:X.N[j]?=some y)(hij:i≠j)
  (hx:X.env.scope.names.lookup x=some .local) (hy:X.env.scope.names.lookup y=some .local) (ha:PA X [a,b] ta)
  (hw:swappedStores [.Tuple [.Name x px,.Name y py] kt pt] (.Tuple [a,b] k2 pt2) X.env=pure (some [x,y]))
  (hs:autoParam (swapsWithSole [.Tuple [.Name x px,.Name y py] kt pt] (.Tuple [a,b] k2 pt2) pos.line X.env=pure false) Au.h5._auto_1) :
  PS X (.Assign [.Tuple [.Name x px,.Name y py] kt pt] (.Tuple [a,b] k2 pt2) pos) (tPar i j ta):=by
 intro pins s σ H D I h
 rw[exec_Assign_arm]
 refine wpAny_bind (wpAny_standAt ?_)
 rw[hs]
 refine wpAny_bind (wpAny_pure ?_)
 rw[if_neg (by decide)]
 refine wpAny_bind (Tuple_ (thn (ha _ pins s σ H _ I h) fun us s1 ⟨vs,H1,I1,r1,q1⟩=>?_))
 obtain⟨v,w,e1,q1⟩:=q1
 subst e1
 obtain⟨u1,u2,rfl,rv,rw'⟩:∃ u1 u2,us=[u1,u2]/\RelV v u1/\RelV w u2:=by
  cases r1 with
  | cons p q =>
   cases q with
   | cons p' q' =>
    cases q'
    exact⟨_,_,rfl,p,p'⟩
 refine wpAny_newObj_type ?_ (by show 2<=sizeLine; decide)
 have I2:Inv X pins σ H1 { s1 with heap:=s1.heap.push { cls:=.type "tuple",data:=.seq [u1,u2].toArray } }:=I1.kept (t':=s1.toks) fun b o e=>Heap.get?_push_of_some _ e
 rw[hw]
 refine wpAny_bind (wpAny_pure ?_)
 show wpAny (model X.prog X.w) X.A (do rule "assign.swapped-stores"; let items <- unpackItems (.ref s1.heap.objs.size) 2 none; assignInOrder [fun v=>bindName X.env y v,fun v=>bindName X.env x v] items.reverse; pure Flow.next) _ _ _
 refine wpAny_bind (wpAny_rule (wpAny_bind (unpackItems_tuple (items:=#[u1,u2]) (I.ok.hd hc) (IsTup.new s1.heap _) fun h' hx'=>?_)))
 have I3:=I2.kept (h':=h') (t':=s1.toks) fun b o e=>hx' b o (Nat.ne_of_lt (Heap.lt_size e)) e
 show wpAny _ _ (assignInOrder [fun v=>bindName X.env y v,fun v=>bindName X.env x v] [u2,u1] >>= fun _=>pure Flow.next) _ _ _
 refine wpAny_bind (assignInOrder_cons (wpAny_bindName (store_ok I3 hN hj (.inl hy) rw' (fun s2 I4=>?_) (.inr hy))))
 refine assignInOrder_cons (wpAny_bindName (store_ok I4 hN hi (.inl hx) rv (fun s3 I5=>assignInOrder_nil (wpAny_pure ?_)) (.inr hx)))
 rw[List.set_comm _ _ (Ne.symm hij)] at I5
 exact⟨_,H1,I5,q1⟩
end
section
variable {X:Cx}{pos:Pos}
noncomputable def tWhile (c:TT)(tb:TS):TS:=fun D σ H=>∃ W:Nat->St->Hp->Prop,(∃ m,W m σ H)/\∀ m σ H,W m σ H ->
 c σ H fun b H1=>if b=true then ∃ N:St->Hp->Prop,(∀ σ' H',N σ' H'->∃ m',m'<m/\W m' σ' H')/\tb { D with nx:=N,ct:=N,bk:=D.nx } σ H1 else D.nx σ H1
theorem ps_while {c:Expr}{body:List Stmt}{tc:TT}{tb:TS}(hp:PassesOwn (model X.prog X.w) X.A X.env X.xe)(hc:PT X c tc)(hb:PSs X body tb):PS X (.While c body [] pos) (tWhile tc tb):=by
 intro pins s σ H D I h
 obtain⟨W,⟨m0,w0⟩,turn⟩:=h
 refine wpAny_While (codeAny_whileLoop (fun n s'=>∃ σ' H',Inv X pins σ' H' s'/\W n σ' H') ?_ m0 ⟨σ,H,I,w0⟩)
 rintro n s1 ⟨σ1,H1,I1,w1⟩
 refine wpAny_passesOwn hp (thn (hc pins s1 σ1 H1 _ I1 (turn n σ1 H1 w1)) fun b s2 ⟨H2,I2,q2⟩=>?_)
 cases b with
 | true =>
  obtain⟨N,hN,q2⟩:=q2
  rw[if_pos rfl]
  refine wpAny_passesOwn hp (thn (hb pins s2 σ1 H2 _ I2 q2) fun f s3 q3=>?_)
  cases f with
  | next =>
   obtain⟨σ3,H3,I3,n3⟩:=q3
   obtain⟨m',hm,w3⟩:=hN σ3 H3 n3
   exact⟨m',hm,σ3,H3,I3,w3⟩
  | cont =>
   obtain⟨σ3,H3,I3,n3⟩:=q3
   obtain⟨m',hm,w3⟩:=hN σ3 H3 n3
   exact⟨m',hm,σ3,H3,I3,w3⟩
  | brk=>exact q3
  | ret v=>exact q3
 | false =>
  rw[if_neg Bool.false_ne_true]
  exact wpAny_execs_nil ⟨σ1,H2,I2,q2⟩
end
structure It where
 go:Nat->Hp->Prop
 yld:Nat->Hp->V->Hp->Prop
 stop:Nat->Hp->Prop
noncomputable def FpOk (X:Cx)(pins:List (Addr × Obj))(H:Hp)(b:Addr):Prop :=
 H b=none/\b≠X.env.locals/\b∉X.fs/\(b∈X.ex\/X.s₀.heap.objs.size<=b)/\(∀ x c,X.env.cells.lookup x=some c->c≠b)/\∀ p∈X.pn++pins,p.1≠b
theorem Inv.fpOk {X:Cx}{pins:List (Addr × Obj)}{σ:St}{H H':Hp}{s:Shared}{b:Addr}(I:Inv X pins σ H s)(hb:s.heap.objs.size<=b)(hn:H' b=none):FpOk X pins H' b:=by
 refine⟨hn,Nat.ne_of_gt (Nat.lt_of_lt_of_le I.lt hb),I.nofs hb,.inr (Nat.le_trans I.sz hb),fun x c e z=>?_,fun p hp z=>?_⟩
 ·obtain⟨v,q⟩:=I.cell x c e
  exact absurd (Nat.lt_of_lt_of_le q.lt (by rw[z]; exact hb)) (Nat.lt_irrefl _)
 ·exact absurd (Nat.lt_of_lt_of_le (Heap.lt_size (I.pin p hp).1) (by rw[z]; exact hb)) (Nat.lt_irrefl _)
structure Turn (P:Program)(w:World)(K:PySem.W.Frag)(tg:Expr)(J:It)(fp:List Addr)(it:Addr)(tn:Nat->Heap->Prop):Prop where
 mem:it∈fp
 obj:∀ i h,tn i h->∀ b∈fp,∃ o,h.get? b=some o/\∀ v,o.data≠.cell v
 keep:∀ i h h',tn i h->(∀ b∈fp,∀ o,h.get? b=some o->h'.get? b=some o)->tn i h'
 item:∀ (X:Cx),X.prog=P->X.w=w->X.K=K->X.calm=true->∀ (i:Nat) (pins:List (Addr × Obj)) (s:Shared) (σ:St) (H:Hp) (E:Value->Shared->Prop),Inv X pins σ H s->(∀ b∈fp,FpOk X pins H b)->tn i s.heap->J.go i H ->
  wpAny (model P w) X.A (pyNext (.ref it)) (fun r s1=>∃ u,r=some u /\
   wpAny (model P w) X.A (letOwnedTupleGo tg (.ref it) u) (fun _ s2=>∃ x H',Inv X pins σ H' s2/\RelV x u/\J.yld i H x H'/\tn (i+1) s2.heap/\∀ b∈fp,H' b=none) E s1) E s
 done:∀ (X:Cx),X.prog=P->X.w=w->X.K=K->X.calm=true->∀ (i:Nat) (pins:List (Addr × Obj)) (s:Shared) (σ:St) (H:Hp) (E:Value->Shared->Prop),Inv X pins σ H s->(∀ b∈fp,FpOk X pins H b)->tn i s.heap->J.stop i H ->
  wpAny (model P w) X.A (pyNext (.ref it)) (fun r s1=>r=none/\Inv X pins σ H s1) E s
 self:∀ (A:Around) (i:Nat) (s:Shared) (Q:Value->Shared->Prop) (E:Value->Shared->Prop),tn i s.heap->Q (.ref it) s->wpAny (model P w) A (pyIter (.ref it)) Q E s
noncomputable abbrev TI:=St->Hp->(It->Hp->Prop)->Prop
noncomputable def PIE (X:Cx)(pins:List (Addr × Obj))(σ:St)(tg:Expr)(R:It->Hp->Prop)(itv:Value)(s2:Shared):Prop :=
 ∃ (it:Addr) (fp:List Addr) (tn:Nat->Heap->Prop) (J:It) (H':Hp),itv=.ref it/\Inv X pins σ H' s2/\Turn X.prog X.w X.K tg J fp it tn/\tn 0 s2.heap/\(∀ b∈fp,FpOk X pins H' b)/\R J H'
noncomputable def PI (X:Cx)(tg iter:Expr)(wi:TI):Prop :=
 ∀ (pins:List (Addr × Obj)) (s:Shared) (σ:St) (H:Hp) (R:It->Hp->Prop),Inv X pins σ H s->wi σ H R ->
  wpAny (model X.prog X.w) X.A (eval iter X.env) (fun v s1=>wpAny (model X.prog X.w) X.A (pyIter v) (PIE X pins σ tg R) X.xe s1) X.xe s
theorem go_of {M:Model}{A:Around}{E:Value->Shared->Prop}{s:Shared}{tg:Expr}{it:Addr}{u:Value}{o:Obj}{n:String}{vs:Array Value}{Q:Unit->Shared->Prop}(ho:s.heap.get? it=some o)(hc:o.cls=.type n)(hd:o.data=.fields vs)
    (hn:["enumerate","zip","dict_itemiterator","dict_reverseitemiterator","odict_iterator","itertools.zip_longest","itertools.pairwise"].contains n=false) (hQ:Q () s):wpAny M A (letOwnedTupleGo tg (.ref it) u) Q E s:=by
  unfold letOwnedTupleGo
  cases tg <;>first
    | exact wpAny_pure hQ
    | (cases u <;>first
        | exact wpAny_pure hQ
        | (refine wpAny_bind (wpAny_load ho ?_)
           rw[hc,hd]
           show wpAny M A (if (["enumerate","zip","dict_itemiterator","dict_reverseitemiterator","odict_iterator","itertools.zip_longest","itertools.pairwise"].contains n&&vs[0]? == some (rawInt _))=true then _ else _) Q E s
           rw[if_neg (by intro h; rw[hn,Bool.false_and] at h; cases h)]
           exact wpAny_pure hQ))
noncomputable def Itl (K:PySem.W.Frag)(a:Addr):It :=
 ⟨fun i H=>∃ xs x,SqL K H a xs/\xs[i]?=some x,fun i H x H'=>H'=H/\∀ xs,SqL K H a xs->xs[i]?=some x,fun i H=>∃ xs,SqL K H a xs/\xs.length<=i⟩
noncomputable def Itr (lo:Int)(n:Nat):It:=⟨fun i _=>i<n,fun i H x H'=>H'=H/\x=.int (lo+i),fun i _=>n<=i⟩
theorem turn_list {P:Program}{w:World}{K:PySem.W.Frag}{tg:Expr}(a it:Addr):Turn P w K tg (Itl K a) [it] it (fun i h=>h.IsListIter it a i) where
 mem:=by simp
 obj:=fun i h st b hb=>by
  have e:b=it:=by simpa using hb
  subst e
  obtain⟨o,e,c,d⟩:=st
  exact⟨o,e,fun v z=>by rw[d] at z; cases z⟩
 keep:=fun i h h' st k=>st.at fun o e=>k it (by simp) o e
 item:=by
  intro X hP hw hK hc i pins s σ H E I hf st hg
  subst hP hw hK
  obtain⟨xs,x,hq,hx⟩:=hg
  obtain⟨its,rv,p,hz⟩:=I.list hq
  obtain⟨u,hu,ru⟩:=rv.get hx
  obtain⟨f0,f1,f2,f3,f4,f5⟩:=hf it (by simp)
  refine wpAny_pyNext_list_item st p.isList (x:=u) (by simpa using hu) fun h' st' sb=>?_
  have I1:Inv X pins σ H { s with heap:=h' }:=I.turned (t':=s.toks) (fun b o hb e=>(sb.2 b hb).trans e) f0 f1 f3 f4 f5
  obtain⟨o,e,c,d⟩:=id st'
  exact⟨u,rfl,go_of (s:={ s with heap:=h' }) e c d (by decide) ⟨x,H,I1,ru,⟨rfl,fun ys hy=>by rw[I.list_inj hy hq]; exact hx⟩,st',fun b hb=>(hf b hb).1⟩⟩
 done:=by
  intro X hP hw hK hc i pins s σ H E I hf st hg
  subst hP hw hK
  obtain⟨xs,hq,hx⟩:=hg
  obtain⟨its,rv,p,hz⟩:=I.list hq
  obtain⟨f0,f1,f2,f3,f4,f5⟩:=hf it (by simp)
  have hl:=rv.length
  exact wpAny_pyNext_list_end (I.ok.hd hc) st p.isList (by simp; omega) fun h' eb=>⟨rfl,I.turned (t':=s.toks) (fun b o hb e=>eb b o hb e) f0 f1 f3 f4 f5⟩
 self:=fun _ _ _ _ _ st h=>wpAny_pyIter_listiter st h
theorem turn_range {P:Program}{w:World}{K:PySem.W.Frag}{tg:Expr}(it:Addr)(lo:Int)(n:Nat):Turn P w K tg (Itr lo n) [it] it (fun i h=>IsRangeIter h it (lo+(i:Nat)*1) ((n:Int)-(i:Nat)) 1) where
 mem:=by simp
 obj:=fun i h st b hb=>by
  have e:b=it:=by simpa using hb
  subst e
  exact⟨_,st,fun v z=>by
   have z':Data.fields _=Data.cell v:=z
   cases z'⟩
 keep:=fun i h h' st k=>k it (by simp) _ st
 item:=by
  intro X hP hw hK hc i pins s σ H E I hf st hg
  subst hP hw hK
  obtain⟨f0,f1,f2,f3,f4,f5⟩:=hf it (by simp)
  have W:=Walks.range (prog:=X.prog) (w:=X.w) (I.ok.hd hc) it lo 1 n
  refine W.item i s _ _ hg st fun v h' tk hv st' kk=>?_
  obtain⟨t,rfl⟩:=hv
  have I1:Inv X pins σ H { s with heap:=h',toks:=tk }:=I.turned (fun b o hb e=>kk b o (by simpa using hb) e) f0 f1 f3 f4 f5
  refine⟨_,rfl,go_of (s:={ s with heap:=h',toks:=tk }) (n:="range_iterator") st' rfl rfl (by decide) ⟨.int (lo+i),H,I1,⟨t,?_⟩,⟨rfl,rfl⟩,st',fun b hb=>(hf b hb).1⟩⟩
  rw[Int.mul_one]
 done:=by
  intro X hP hw hK hc i pins s σ H E I hf st hg
  subst hP hw hK
  obtain⟨f0,f1,f2,f3,f4,f5⟩:=hf it (by simp)
  exact wpAny_pyNext_range_end (I.ok.hd hc) st (by have:n<=i:=hg; omega) fun h' eb=>⟨rfl,I.turned (t':=s.toks) (fun b o hb e=>eb b o hb e) f0 f1 f3 f4 f5⟩
 self:=fun _ _ _ _ _ st h=>wpAny_pyIter_rangeiter st h
section
variable {X:Cx}{tg:Expr}
noncomputable def iList (K:PySem.W.Frag)(tl:TE):TI:=fun σ H R=>tl σ H fun x H1=>∃ a,x=.ref a/\(∃ xs,SqL K H1 a xs)/\R (Itl K a) H1
theorem pi_list {l:Expr}{tl:TE}(hl:PE X l tl):PI X tg l (iList X.K tl):=by
 intro pins s σ H R I h
 refine thn (hl pins s σ H _ I h) fun v s1 ⟨x,H1,I1,r1,q1⟩=>?_
 obtain⟨a,e,⟨xs,hq⟩,q⟩:=q1
 subst e
 cases r1
 obtain⟨its,rv,p,hz⟩:=I1.list hq
 refine wpAny_pyIter_list p.isList ?_
 refine⟨s1.heap.objs.size,[s1.heap.objs.size],_,_,H1,rfl,I1.kept (t':=s1.toks) fun b o e=>Heap.get?_push_of_some _ e,turn_list a _,⟨_,Heap.get?_push_size _ rfl,rfl,rfl⟩,fun b hb=>?_,q⟩
 have e:b=s1.heap.objs.size:=by simpa using hb
 subst e
 exact I1.fpOk (Nat.le_refl _) (I1.hok.fresh (Nat.le_refl _))
theorem range_it {pins:List (Addr × Obj)}{σ:St}{H:Hp}{s:Shared}{R:It->Hp->Prop}{E:Value->Shared->Prop}{lo hi:Int}{t u v:Tok}{tk:Nat}(I:Inv X pins σ H s)(h1:-(2 ^ 62)<=lo)(h2:lo<2 ^ 62)(h3:-(2 ^ 62)<=hi)(h4:hi<2 ^ 62)
  (q:R (Itr lo (hi-lo).toNat) H):wpAny (model X.prog X.w) X.A (pyIter (.ref s.heap.objs.size)) (PIE X pins σ tg R) E { s with heap:=s.heap.push { cls:=.type "range",data:=.fields #[.int lo t,.int hi u,.int 1 v] },toks:=tk }:=by
 refine wpAny_pyIter_range (IsRange.new ..) (small_one h1 h2 h3 h4) ?_
 have I1:Inv X pins σ H { s with heap:=s.heap.push { cls:=.type "range",data:=.fields #[.int lo t,.int hi u,.int 1 v] },toks:=tk }:=I.kept fun b o e=>Heap.get?_push_of_some _ e
 refine⟨(s.heap.push { cls:=.type "range",data:=.fields #[.int lo t,.int hi u,.int 1 v] }).objs.size,[(s.heap.push { cls:=.type "range",data:=.fields #[.int lo t,.int hi u,.int 1 v] }).objs.size],_,_,H,rfl,
  I1.kept (t':=tk) fun b o e=>Heap.get?_push_of_some _ e,turn_range _ lo (hi-lo).toNat,?_,fun b hb=>?_,q⟩
 ·have e1:lo+((0:Nat):Int)*1=lo:=by simp
  have e2:(((hi-lo).toNat:Nat):Int)-((0:Nat):Int)=Builtin.Range.rangeSize lo hi 1:=by rw[rangeSize_one]; split <;>omega
  show IsRangeIter _ _ (lo+((0:Nat):Int)*1) ((((hi-lo).toNat:Nat):Int)-((0:Nat):Int)) 1
  rw[e1,e2]
  exact Heap.get?_push_size _ rfl
 ·have e:b=(s.heap.push { cls:=.type "range",data:=.fields #[.int lo t,.int hi u,.int 1 v] }).objs.size:=by simpa using hb
  subst e
  exact I1.fpOk (Nat.le_refl _) (I1.hok.fresh (Nat.le_refl _))
noncomputable def iRng1 (ta:TA):TI:=fun σ H R=>ta σ H fun vs H1=>∃ j:Int,vs=[.int j]/\-(2 ^ 62)<=j/\j<2 ^ 62/\R (Itr 0 j.toNat) H1
noncomputable def iRng2 (ta:TA):TI:=fun σ H R=>ta σ H fun vs H1=>∃ i j:Int,vs=[.int i,.int j]/\(-(2 ^ 62)<=i/\i<2 ^ 62/\-(2 ^ 62)<=j/\j<2 ^ 62)/\R (Itr i (j-i).toNat) H1
theorem pi_range1 {a:Expr}{ta:TA}{p pos:Pos}(hg:Gl X "range")(hm:X.mg "range"=none)(ha:PA X [a] ta)(hs:autoParam (starEach [a] X.env=[(false,eval a X.env)]) Au.h5._auto_1):PI X tg (.Call (.Name "range" p) [a] [] pos) (iRng1 ta):=by
 intro pins s σ H R I h
 refine Call_ (ld_blt I hg hm boot_range (PyProof.Rows.callWith_type1 (thn (ha pos pins s σ H _ I h) fun us s1 ⟨vs,H1,I1,r1,q1⟩=>?_) hs rfl))
 obtain⟨j,e,q1,q2,q⟩:=q1
 subst e
 cases r1 with
 | cons r rr =>
  cases rr
  obtain⟨t,rfl⟩:=r
  exact call_range_1 (range_it I1 (by omega) (by omega) q1 q2 (by simpa using q))
theorem pi_range2 {a b:Expr}{ta:TA}{p pos:Pos}(hg:Gl X "range")(hm:X.mg "range"=none)(ha:PA X [a,b] ta)(hs:autoParam (starEach [a,b] X.env=[(false,eval a X.env),(false,eval b X.env)]) Au.h5._auto_1)(hs2:autoParam (starEach [b] X.env=[(false,eval b X.env)]) Au.h5._auto_1) :
  PI X tg (.Call (.Name "range" p) [a,b] [] pos) (iRng2 ta):=by
 intro pins s σ H R I h
 refine Call_ (ld_blt I hg hm boot_range (PyProof.Rows.callWith_type1 (thn (ha pos pins s σ H _ I h) fun us s1 ⟨vs,H1,I1,r1,q1⟩=>?_) (by rw[hs,hs2]) (by rw[hs2]; rfl)))
 obtain⟨i,j,e,⟨q1,q2,q3,q4⟩,q⟩:=q1
 subst e
 cases r1 with
 | cons r rr =>
  cases rr with
  | cons r' rr =>
   cases rr
   obtain⟨t,rfl⟩:=r
   obtain⟨t',rfl⟩:=r'
   exact call_range_2 (range_it I1 q1 q2 q3 q4 q)
noncomputable def tFor (wi:TI)(g:TG)(tb:TS):TS:=fun D σ H=>wi σ H fun J H1=>∃ W:Nat->Nat->St->Hp->Prop,(∃ m,W 0 m σ H1)/\∀ i m σ H,W i m σ H ->
 (J.stop i H/\D.nx σ H)\/(J.go i H/\∃ N:St->Hp->Prop,(∀ σ' H',N σ' H'->∃ m',m'<m/\W (i+1) m' σ' H')/\∀ x H',J.yld i H x H'->g x σ H' fun σ2 H2=>tb { D with nx:=N,ct:=N,bk:=D.nx } σ2 H2)
noncomputable def pinsAt (fp:List Addr)(h:Heap):List (Addr × Obj):=fp.filterMap fun b=>(h.get? b).map fun o=>(b,o)
theorem mem_pinsAt {fp:List Addr}{h:Heap}{b:Addr}{o:Obj}(hb:b∈fp)(e:h.get? b=some o):(b,o)∈pinsAt fp h:=List.mem_filterMap.mpr ⟨b,hb,by rw[e]; rfl⟩
theorem of_pinsAt {fp:List Addr}{h:Heap}{p:Addr × Obj}(hp:p∈pinsAt fp h):p.1∈fp/\h.get? p.1=some p.2:=by
 obtain⟨b,hb,e⟩:=List.mem_filterMap.mp hp
 cases q:h.get? b with
 | none=>rw[q] at e; cases e
 | some o =>
  rw[q] at e
  have e':(b,o)=p:=Option.some.inj e
  subst e'
  exact⟨hb,q⟩
theorem Inv.pinned {pins:List (Addr × Obj)}{σ:St}{H:Hp}{s:Shared}{fp:List Addr}(I:Inv X pins σ H s)(hf:∀ b∈fp,FpOk X pins H b)(ho:∀ b∈fp,∃ o,s.heap.get? b=some o/\∀ v,o.data≠.cell v):Inv X (pins++pinsAt fp s.heap) σ H s :=
 I.pins_of fun p hp=>(List.mem_append.mp hp).elim (fun z=>I.pin p (List.mem_append_right _ z)) fun z=>by
  obtain⟨hb,e⟩:=of_pinsAt z
  obtain⟨f0,f1,f2,_⟩:=hf p.1 hb
  obtain⟨o,e',d⟩:=ho p.1 hb
  rw[e] at e'; cases e'
  exact⟨e,f0,f1,f2,d⟩
theorem Inv.unpinned {pins pl:List (Addr × Obj)}{σ:St}{H:Hp}{s:Shared}(I:Inv X (pins++pl) σ H s):Inv X pins σ H s:=I.pins_of fun p hp=>I.pin p (List.mem_append_right _ (List.mem_append_left _ hp))
theorem ps_for {iter:Expr}{body:List Stmt}{wi:TI}{g:TG}{tb:TS}{pos:Pos}(hp:PassesOwn (model X.prog X.w) X.A X.env X.xe)(hc:X.calm=true)(hi:PI X tg iter wi)(hg:PG X tg g)(hb:PSs X body tb)
  (hs:autoParam (∀ x,foldedSetIterable iter X.env x=pure x) Au.h4._auto_1):PS X (.For tg iter body [] pos) (tFor wi g tb):=by
 intro pins s σ H D I h
 refine wpAny_For (thn (hi pins s σ H _ I h) fun v s1 h1=>thn h1 fun itv s2 h2=>?_) hs
 obtain⟨it,fp,tn,J,H2,e,I2,T,st2,f2,W,⟨m0,w0⟩,turn⟩:=h2
 subst e
 have stat:∀ {H':Hp},(∀ b∈fp,H' b=none)->∀ b∈fp,FpOk X pins H' b:=fun hn b hb=>⟨hn b hb,(f2 b hb).2⟩
 refine codeAny_forLoop_any (fun n s'=>∃ i σ' H',Inv X pins σ' H' s'/\tn i s'.heap/\(∀ b∈fp,H' b=none)/\W i n σ' H') ?_ m0 ⟨0,σ,H2,I2,st2,fun b hb=>(f2 b hb).1,w0⟩
 rintro n s3 ⟨i,σ3,H3,I3,st3,fr3,w3⟩
 rcases turn i n σ3 H3 w3 with ⟨stop,qn⟩|⟨go,N,hN,step⟩
 ·refine wpAny_passesOwn hp (thn (T.done X rfl rfl rfl hc i pins s3 σ3 H3 X.xe I3 (stat fr3) st3 stop) fun r s4 ⟨hr,I4⟩=>?_)
  subst hr
  exact wpAny_execs_nil ⟨σ3,H3,I4,qn⟩
 ·refine wpAny_passesOwn hp (thn (T.item X rfl rfl rfl hc i pins s3 σ3 H3 X.xe I3 (stat fr3) st3 go) fun r s4 ⟨u,hr,h4⟩=>?_)
  subst hr
  refine wpAny_passesOwn hp (thn h4 fun _ s5 ⟨x,H5,I5,r5,y5,st5,fr5⟩=>?_)
  have I5':=I5.pinned (stat fr5) (T.obj _ _ st5)
  refine wpAny_passesOwn hp (thn (hg _ s5 σ3 H5 x u _ I5' r5 (step x H5 y5)) fun _ s6 ⟨σ6,H6,I6,q6⟩=>?_)
  refine wpAny_passesOwn hp (thn (hb _ s6 σ6 H6 _ I6 q6) fun f s7 q7=>?_)
  have again:∀ {σ7:St} {H7:Hp},Inv X (pins++pinsAt fp s5.heap) σ7 H7 s7->N σ7 H7->∃ m,m<n/\∃ i σ' H',Inv X pins σ' H' s7/\tn i s7.heap/\(∀ b∈fp,H' b=none)/\W i m σ' H':=fun {σ7 H7} I7 n7=>by
   obtain⟨m',hm,w7⟩:=hN σ7 H7 n7
   refine⟨m',hm,i+1,σ7,H7,I7.unpinned,T.keep _ _ _ st5 fun b hb o e=>(I7.pin (b,o) (List.mem_append_right _ (List.mem_append_right _ (mem_pinsAt hb e)))).1,fun b hb=>?_,w7⟩
   obtain⟨o,e,d⟩:=T.obj _ _ st5 b hb
   exact(I7.pin (b,o) (List.mem_append_right _ (List.mem_append_right _ (mem_pinsAt hb e)))).2.1
  cases f with
  | next=>obtain⟨σ7,H7,I7,n7⟩:=q7; exact again I7 n7
  | cont=>obtain⟨σ7,H7,I7,n7⟩:=q7; exact again I7 n7
  | brk=>obtain⟨σ7,H7,I7,q7⟩:=q7; exact⟨σ7,H7,I7.unpinned,q7⟩
  | ret v=>obtain⟨x7,σ7,H7,I7,r7,q7⟩:=q7; exact⟨x7,σ7,H7,I7.unpinned,r7,q7⟩
end
theorem for_list {K:PySem.W.Frag}{a:Addr}{xs:List V}{g:TG}{tb:TS}{D:Ends}{σ:St}{H:Hp}(Pv:Nat->St->Hp->Prop)(h0:Pv 0 σ H)(hl:∀ i σ H,i<=xs.length->Pv i σ H->SqL K H a xs)
  (hs:∀ i x σ H,xs[i]?=some x->Pv i σ H->g x σ H fun σ2 H2=>tb { D with nx:=Pv (i+1),ct:=Pv (i+1),bk:=D.nx } σ2 H2) (hd:∀ σ H,Pv xs.length σ H->D.nx σ H) :
  ∃ W:Nat->Nat->St->Hp->Prop,(∃ m,W 0 m σ H)/\∀ i m σ H,W i m σ H ->
   ((Itl K a).stop i H/\D.nx σ H)\/((Itl K a).go i H/\∃ N:St->Hp->Prop,(∀ σ' H',N σ' H'->∃ m',m'<m/\W (i+1) m' σ' H')/\∀ x H',(Itl K a).yld i H x H'->g x σ H' fun σ2 H2=>tb { D with nx:=N,ct:=N,bk:=D.nx } σ2 H2):=by
 refine⟨fun i m σ H=>m=xs.length-i/\i<=xs.length/\Pv i σ H,⟨xs.length,by simp,Nat.zero_le _,h0⟩,?_⟩
 rintro i m σ H ⟨rfl,hi,p⟩
 have q:=hl i σ H hi p
 by_cases hlt:i<xs.length
 ·refine .inr ⟨⟨xs,xs[i],q,by simp[hlt]⟩,Pv (i+1),fun σ' H' p'=>⟨xs.length-(i+1),by omega,rfl,hlt,p'⟩,fun x H' y=>?_⟩
  obtain⟨e,y⟩:=y
  subst e
  exact hs i x σ _ (y xs q) p
 ·have e:i=xs.length:=by omega
  subst e
  exact .inl ⟨⟨xs,q,Nat.le_refl _⟩,hd σ H p⟩
noncomputable abbrev R2:=V->V->Hp->VK->Prop
noncomputable def OpR (X:Cx)(f:Value->Value->Sem Value)(r:R2):Prop :=
 ∀ (pins:List (Addr × Obj)) (s:Shared) (σ:St) (H:Hp) (x y:V) (v u:Value) (Q:VK),Inv X pins σ H s->RelV x v->RelV y u->r x y H Q ->
  wpAny (model X.prog X.w) X.A (f v u) (EP X pins σ Q) X.xe s
noncomputable def UnR (X:Cx)(f:Value->Sem Value)(r:V->Hp->VK->Prop):Prop :=
 ∀ (pins:List (Addr × Obj)) (s:Shared) (σ:St) (H:Hp) (x:V) (v:Value) (Q:VK),Inv X pins σ H s->RelV x v->r x H Q ->
  wpAny (model X.prog X.w) X.A (f v) (EP X pins σ Q) X.xe s
noncomputable def CallR (X:Cx)(f:Value)(r:List V->Hp->VK->Prop):Prop :=
 ∀ (pins:List (Addr × Obj)) (s:Shared) (σ:St) (H:Hp) (xs:List V) (us:List Value) (Q:VK),Inv X pins σ H s->Vals xs us->r xs H Q ->
  wpAny (model X.prog X.w) X.A (call f us) (EP X pins σ Q) X.xe s
noncomputable def tOp (r:R2)(ta tb:TE):TE:=fun σ H Q=>ta σ H fun x H1=>tb σ H1 fun y H2=>r x y H2 Q
noncomputable def tUn (r:V->Hp->VK->Prop)(ta:TE):TE:=fun σ H Q=>ta σ H fun x H1=>r x H1 Q
noncomputable def rI (C:Int->Int->Prop)(g:Int->Int->V):R2:=fun x y H Q=>∃ i j,x=.int i/\y=.int j/\C i j/\Q (g i j) H
noncomputable def rI0 (g:Int->Int->V):R2:=fun x y H Q=>∃ i j,x=.int i/\y=.int j/\Q (g i j) H
noncomputable def rU (g:Int->V):V->Hp->VK->Prop:=fun x H Q=>∃ i,x=.int i/\Q (g i) H
section
variable {X:Cx}{a b c:Expr}{ta tb tc:TE}{pos:Pos}
theorem binT (ha:PE X a ta)(hb:PE X b tb){pins:List (Addr × Obj)}{s:Shared}{σ:St}{H:Hp}{R:V->V->Hp->Prop}(I:Inv X pins σ H s)
  (h:ta σ H fun x H1=>tb σ H1 fun y H2=>R x y H2) {Q:Value->Shared->Prop} {f:Value->Value->Sem Value}
  (hf:∀ v u s2 x y H2,Inv X pins σ H2 s2->RelV x v->RelV y u->R x y H2->wpAny (model X.prog X.w) X.A (f v u) Q X.xe s2) :
  wpAny (model X.prog X.w) X.A (eval a X.env) (fun v s₁=>wpAny (model X.prog X.w) X.A (eval b X.env) (fun u s₂=>wpAny (model X.prog X.w) X.A (f v u) Q X.xe s₂) X.xe s₁) X.xe s:=by
 refine thn (ha pins s σ H _ I h) fun v s1 ⟨x,H1,I1,r1,q1⟩=>?_
 refine thn (hb pins s1 σ H1 _ I1 q1) fun u s2 ⟨y,H2,I2,r2,q2⟩=>?_
 exact hf v u s2 x y H2 I2 r1 r2 q2
theorem pe_op {op:Operator}{r:R2}(ho:OpR X (binaryOp op) r)(ha:PE X a ta)(hb:PE X b tb):PE X (.BinOp a op b pos) (tOp r ta tb):=by
 intro pins s σ H Q I h
 exact wpAny_BinOp (binT ha hb I h fun v u s2 x y H2 I2 rx ry q=>ho pins s2 σ H2 x y v u Q I2 rx ry q)
theorem pe_un {op:UnaryOp}{r:V->Hp->VK->Prop}(ho:UnR X (unaryOp op) r)(ha:PE X a ta):PE X (.UnaryOp op a pos) (tUn r ta):=by
 intro pins s σ H Q I h
 exact UnaryOp_ (thn (ha pins s σ H _ I h) fun v s1 ⟨x,H1,I1,r1,q1⟩=>ho pins s1 σ H1 x v Q I1 r1 q1)
theorem opI {f:Value->Value->Sem Value}{C:Int->Int->Prop}{g:Int->Int->Int}
  (rule:∀ (i j:Int) (t u:Tok) (s:Shared) (Q:Value->Shared->Prop) (E:Value->Shared->Prop),C i j->Q (.int (g i j) s.toks) { s with toks:=s.toks+1 }->wpAny (model X.prog X.w) X.A (f (.int i t) (.int j u)) Q E s) :
  OpR X f (rI C fun i j=>.int (g i j)):=by
 intro pins s σ H x y v u Q I rx ry h
 obtain⟨i,j,rfl,rfl,hc,q⟩:=h
 obtain⟨t,rfl⟩:=rx
 obtain⟨t',rfl⟩:=ry
 exact rule i j t t' s _ _ hc ⟨.int (g i j),H,I.tok _,⟨_,rfl⟩,q⟩
theorem opI0 {f:Value->Value->Sem Value}{g:Int->Int->Int}
  (rule:∀ (i j:Int) (t u:Tok) (s:Shared) (Q:Value->Shared->Prop) (E:Value->Shared->Prop),Q (.int (g i j) s.toks) { s with toks:=s.toks+1 }->wpAny (model X.prog X.w) X.A (f (.int i t) (.int j u)) Q E s) :
  OpR X f (rI0 fun i j=>.int (g i j)):=by
 intro pins s σ H x y v u Q I rx ry h
 obtain⟨i,j,rfl,rfl,q⟩:=h
 obtain⟨t,rfl⟩:=rx
 obtain⟨t',rfl⟩:=ry
 exact rule i j t t' s _ _ ⟨.int (g i j),H,I.tok _,⟨_,rfl⟩,q⟩
theorem opB0 {f:Value->Value->Sem Value}{g:Int->Int->Bool}
  (rule:∀ (i j:Int) (t u:Tok) (s:Shared) (Q:Value->Shared->Prop) (E:Value->Shared->Prop),Q (.bool (g i j)) s->wpAny (model X.prog X.w) X.A (f (.int i t) (.int j u)) Q E s) :
  OpR X f (rI0 fun i j=>.bl (g i j)):=by
 intro pins s σ H x y v u Q I rx ry h
 obtain⟨i,j,rfl,rfl,q⟩:=h
 obtain⟨t,rfl⟩:=rx
 obtain⟨t',rfl⟩:=ry
 exact rule i j t t' s _ _ ⟨.bl (g i j),H,I,rfl,q⟩
noncomputable def CMul (i j:Int):Prop:=(-(2 ^ 64)<i/\i<2 ^ 64)\/(-(2 ^ 64)<j/\j<2 ^ 64)
theorem CMul.ok {i j:Int}(h:CMul i j):IntMulOk i j:=by
 rcases h with ⟨h1,h2⟩|⟨h1,h2⟩
 ·exact .of_left (intBits_le_64 h1 h2)
 ·exact .of_right (intBits_le_64 h1 h2)
theorem two_pow_nn (k:Nat):(0:Int)<=2 ^ k:=by
 rw[two_pow_cast]
 exact Int.natCast_nonneg _
theorem op_add:OpR X (binaryOp .Add) (rI0 fun i j=>.int (i+j)):=opI0 fun _ _ _ _ _ _ _ q=>add_int q
theorem op_sub:OpR X (binaryOp .Sub) (rI0 fun i j=>.int (i-j)):=opI0 fun _ _ _ _ _ _ _ q=>sub_int q
theorem op_mod:OpR X (binaryOp .Mod) (rI (fun _ j=>0<j) fun i j=>.int (i%j)):=opI fun i j _ _ _ _ _ hc q=>by
 have h1:(0:Int)<j:=hc
 exact mod_int' (by omega) (by rw[Int.fmod_eq_emod_of_nonneg i (by omega)]; exact q)
theorem op_shr:OpR X (binaryOp .RShift) (rI (fun _ j=>0<=j) fun i j=>.int (i/2 ^ j.toNat)):=opI fun i j _ _ _ _ _ hc q =>
 rshift_int hc (by rw[Int.fdiv_eq_ediv_of_nonneg i (two_pow_nn _)]; exact q)
theorem unI {f:Value->Sem Value}{g:Int->Int}
  (rule:∀ (i:Int) (t:Tok) (s:Shared) (Q:Value->Shared->Prop) (E:Value->Shared->Prop),Q (.int (g i) s.toks) { s with toks:=s.toks+1 }->wpAny (model X.prog X.w) X.A (f (.int i t)) Q E s) :
  UnR X f (rU fun i=>.int (g i)):=by
 intro pins s σ H x v Q I rx h
 obtain⟨i,rfl,q⟩:=h
 obtain⟨t,rfl⟩:=rx
 exact rule i t s _ _ ⟨.int (g i),H,I.tok _,⟨_,rfl⟩,q⟩
theorem un_neg:UnR X (unaryOp .USub) (rU fun i=>.int (-i)):=unI fun _ _ _ _ _ q=>neg_int q
end
noncomputable def scal:V->V->Bool
 | .non,.non=>true | .non,.int _=>true | .int _,.non=>true | .non,.bl _=>true | .bl _,.non=>true | .non,.str _=>true | .str _,.non=>true
 | .int _,.int _=>true | .bl _,.bl _=>true | .str _,.str _=>true | .byt _,.byt _=>true
 | .int _,.str _=>true | .str _,.int _=>true | .bl _,.str _=>true | .str _,.bl _=>true
 | _,_=>false
noncomputable def rEq:R2:=fun x y H Q=>scal x y=true/\Q (.bl (decide (x=y))) H
theorem dec_int {i j:Int}:decide (V.int i=V.int j)=(i == j):=by
 rw[Bool.eq_iff_iff]
 simp
theorem dec_bl {i j:Bool}:decide (V.bl i=V.bl j)=(i == j):=by
 rw[Bool.eq_iff_iff]
 simp
theorem dec_str {i j:Str}:decide (V.str i=V.str j)=(i == j):=by
 rw[Bool.eq_iff_iff]
 simp
theorem dec_byt {i j:Array UInt8}:decide (V.byt i=V.byt j)=(i.toList == j.toList):=by
 rw[Bool.eq_iff_iff]
 cases i
 cases j
 simp
section
variable {X:Cx}{a b c:Expr}{ta tb tc:TE}{pos:Pos}
theorem fin_bl {pins:List (Addr × Obj)}{σ:St}{H:Hp}{s:Shared}{Q:VK}{k k':Bool}(I:Inv X pins σ H s)(q:Q (.bl k) H)(e:k=k'):EP X pins σ Q (.bool k') s:=by
 subst e
 exact⟨.bl k,H,I,rfl,q⟩
theorem op_eq:OpR X (compareOp .Eq) rEq:=by
 intro pins s σ H x y v u Q I rx ry h
 obtain⟨hs,q⟩:=h
 cases x with
 | non =>
  cases rx
  cases y with
  | non=>cases ry; exact PySem.EqNone.eq_none_none (fin_bl I q (by simp))
  | bl j=>cases ry; exact PySem.EqNone.eq_none_bool (fin_bl I q (by simp))
  | int j=>obtain⟨t',rfl⟩:=ry; exact PySem.EqNone.eq_none_int (fin_bl I q (by simp))
  | str j=>obtain⟨t',rfl⟩:=ry; exact PySem.EqNone.eq_none_str (fin_bl I q (by simp))
  | _=>exact absurd (show false=true from hs) Bool.false_ne_true
 | bl i =>
  cases rx
  cases y with
  | non=>cases ry; exact PySem.EqNone.eq_bool_none (fin_bl I q (by simp))
  | bl j=>cases ry; exact eq_bool (fin_bl I q dec_bl)
  | str j=>obtain⟨t',rfl⟩:=ry; exact PySem.EqMixed.eq_bool_str (fin_bl I q (by simp))
  | _=>exact absurd (show false=true from hs) Bool.false_ne_true
 | int i =>
  obtain⟨t,rfl⟩:=rx
  cases y with
  | non=>cases ry; exact PySem.EqNone.eq_int_none (fin_bl I q (by simp))
  | int j=>obtain⟨t',rfl⟩:=ry; exact eq_int (fin_bl I q dec_int)
  | str j=>obtain⟨t',rfl⟩:=ry; exact PySem.EqMixed.eq_int_str (fin_bl I q (by simp))
  | _=>exact absurd (show false=true from hs) Bool.false_ne_true
 | str i =>
  obtain⟨t,rfl⟩:=rx
  cases y with
  | non=>cases ry; exact PySem.EqNone.eq_str_none (fin_bl I q (by simp))
  | bl j=>cases ry; exact PySem.EqMixed.eq_str_bool (fin_bl I q (by simp))
  | int j=>obtain⟨t',rfl⟩:=ry; exact PySem.EqMixed.eq_str_int (fin_bl I q (by simp))
  | str j=>obtain⟨t',rfl⟩:=ry; exact eq_str (fin_bl I q dec_str)
  | _=>exact absurd (show false=true from hs) Bool.false_ne_true
 | byt i =>
  obtain⟨t,rfl⟩:=rx
  cases y with
  | byt j=>obtain⟨t',rfl⟩:=ry; exact PySem.W.eq_bytes (fin_bl I q dec_byt)
  | _=>exact absurd (show false=true from hs) Bool.false_ne_true
 | _=>cases y <;>exact absurd (show false=true from hs) Bool.false_ne_true
theorem op_lt:OpR X (compareOp .Lt) (rI0 fun i j=>.bl (decide (i<j))):=opB0 fun _ _ _ _ _ _ _ q=>lt_int q
theorem op_le:OpR X (compareOp .LtE) (rI0 fun i j=>.bl (decide (i<=j))):=opB0 fun _ _ _ _ _ _ _ q=>le_int q
theorem op_gt:OpR X (compareOp .Gt) (rI0 fun i j=>.bl (decide (j<i))):=opB0 fun _ _ _ _ _ _ _ q=>gt_int q
theorem op_ge:OpR X (compareOp .GtE) (rI0 fun i j=>.bl (decide (j<=i))):=opB0 fun _ _ _ _ _ _ _ q=>ge_int q
theorem OpR.or {f:Value->Value->Sem Value}{r r':R2}(h:OpR X f r)(h':OpR X f r'):OpR X f (fun x y H Q=>r x y H Q\/r' x y H Q):=by
 intro pins s σ H x y v u Q I rx ry q
 rcases q with q|q
 ·exact h pins s σ H x y v u Q I rx ry q
 ·exact h' pins s σ H x y v u Q I rx ry q
theorem nomark (b:Expr){op:CmpOp}(h:autoParam (op≠.In) Au.h2._auto_1)(h2:autoParam (op≠.NotIn) Au.h2._auto_1):behindInMarks op b=false:=by
 have e1:(op == CmpOp.In)=false:=by cases op <;>first|rfl|exact absurd rfl h
 have e2:(op == CmpOp.NotIn)=false:=by cases op <;>first|rfl|exact absurd rfl h2
 cases b <;>simp[behindInMarks,e1,e2]
theorem pe_cmpR {op:CmpOp}{r:R2}(ho:OpR X (compareOp op) r)(ha:PE X a ta)(hb:PE X b tb)(hm:behindInMarks op b=false):PE X (.Compare a [op] [b] pos) (tOp r ta tb):=by
 intro pins s σ H Q I h
 exact wpAny_Compare1 (binT ha hb I h fun v u s2 x y H2 I2 rx ry q=>ho pins s2 σ H2 x y v u Q I2 rx ry q) hm
noncomputable def tTest (t:TE):TT:=fun σ H Q=>t σ H fun x H'=>∃ k,x=.bl k/\Q k H'
theorem pt_cmpR {op:CmpOp}{r:R2}(ho:OpR X (compareOp op) r)(ha:PE X a ta)(hb:PE X b tb)(hm:behindInMarks op b=false):PT X (.Compare a [op] [b] pos) (tTest (tOp r ta tb)):=by
 intro pins s σ H Q I h
 refine wpAny_isTrue_Compare1 (thn (ha pins s σ H _ I h) fun v s1 ⟨x,H1,I1,r1,q1⟩=>thn (hb pins s1 σ H1 _ I1 q1) fun u s2 ⟨y,H2,I2,r2,q2⟩ =>
  thn (ho pins s2 σ H2 x y v u _ I2 r1 r2 q2) fun c s3 ⟨z,H3,I3,r3,k,e,q3⟩=>?_) hm
 subst e
 cases r3
 exact wpAny_truthy_bool ⟨H3,I3,q3⟩
theorem line63:(sizeLine:Nat)<2 ^ 63:=by rw[sizeLine_eq]; decide
theorem vals1 {x:V}{us:List Value}(r:Vals [x] us):∃ u,us=[u]/\RelV x u:=by
 cases r with
 | cons r1 r2=>cases r2; exact⟨_,rfl,r1⟩
theorem vals2 {x y:V}{us:List Value}(r:Vals [x,y] us):∃ u w',us=[u,w']/\RelV x u/\RelV y w':=by
 cases r with
 | cons r1 r2 =>
  cases r2 with
  | cons r3 r4=>cases r4; exact⟨_,_,rfl,r1,r3⟩
theorem call_max2 (hc:X.calm=true):CallR X (.builtin "max") (fun xs H Q=>∃ i j,xs=[.int i,.int j]/\Q (.int (if j > i then j else i)) H):=by
 intro pins s σ H xs us Q I r h
 obtain⟨i,j,rfl,q⟩:=h
 obtain⟨u,w',rfl,⟨t,rfl⟩,⟨t',rfl⟩⟩:=vals2 r
 refine max_two_ints (I.ok.hd hc) fun h' tk k=>⟨_,H,I.kept k,?_,q⟩
 by_cases hj:j > i
 ·rw[if_pos hj,if_pos hj]; exact⟨_,rfl⟩
 ·rw[if_neg hj,if_neg hj]; exact⟨_,rfl⟩
end
structure ObjM (h:Heap)(x dx C:Addr)(mA:Str->Option Value):Prop where
 obj:h.get? x=some (PySem.W.instObj C dx)
 ns:h.Ns1 dx mA
 ne:dx≠x
theorem lookIn_ns {h:Heap}{dx:Addr}{mA:Str->Option Value}(n:h.Ns1 dx mA):∃ od,h.get? dx=some od/\∀ name,PySem.W.lookIn name od=some (mA name):=by
 obtain⟨o,es,ep,ho,hd,hk,_,hm⟩:=n
 refine⟨o,ho,fun name=>?_⟩
 have e:=hm name
 unfold nsFind findBy at e
 rw[<- Array.find?_toList] at e
 unfold PySem.W.lookIn
 rw[hd]
 dsimp only
 split
 ·rename_i y q
  rw[q] at e
  exact congrArg some e
 ·rename_i q
  rw[q] at e
  have a:es.toList.any (·.refKey)=false:=by
   rw[List.any_eq_false]
   intro y hy
   obtain⟨z,t,hkey⟩:=hk y (Array.mem_toList_iff.mp hy)
   simp[DictEntry.refKey,hkey]
  have a':¬ es.toList.any (·.refKey)=true:=by rw[a]; exact Bool.false_ne_true
  rw[if_neg a']
  exact congrArg some e
theorem ObjM.look {h:Heap}{x dx C:Addr}{mA:Str->Option Value}(I:ObjM h x dx C mA):∃ od,PySem.W.InstAt h x (PySem.W.instObj C dx) C (some od)/\∀ name,PySem.W.lookIn name od=some (mA name) :=
 let ⟨od,ho,hl⟩:=lookIn_ns I.ns
 ⟨od,⟨I.obj,rfl,rfl,ho⟩,hl⟩
section
variable {prog:Program}{w:World}{A:Around}{E:Value->Shared->Prop}{s:Shared}{K:PySem.W.Frag}{x dx C f:Addr}{mA:Str->Option Value}{name:Str}{v:Value}
theorem get_map {expr:Bool}{Q:Value->Shared->Prop}(X:K.In s.heap)(I:ObjM s.heap x dx C mA)(hg:PySem.W.plainGet K C name=true)(hh:PySem.W.hasDictIn K C=true)
  (ha:PySem.W.findIn K (.ref C) name=some none) (hv:mA name=some v) (hv':PySem.W.handedIn v=true) (h:Q v { s with toks:=s.toks+1 }) :
  wpAny (model prog w) A (getAttr (.ref x) name expr) Q E s:=by
 obtain⟨od,J,hl⟩:=I.look
 exact PySem.W.get_value X J (PySem.W.plainGet_of hg).1 (PySem.W.findObj_own hh ha rfl (by rw[hl,hv])) hv' h
theorem get_meth {pl:Sem Bool}{Q:Value × List Value->Shared->Prop}(X:K.In s.heap)(I:ObjM s.heap x dx C mA)(hg:PySem.W.plainGet K C name=true)
  (hf:PySem.W.findIn K (.ref C) name=some (some (.ref f))) (ht:PySem.W.isFn K (.ref f)=true) (hv:mA name=none) (h:Q (.ref f,[.ref x]) s) :
  wpAny (model prog w) A (getMethod (.ref x) name pl) Q E s:=by
 obtain⟨od,J,hl⟩:=I.look
 exact PySem.W.method_fn X J (PySem.W.plainGet_of hg).1 (PySem.W.plainGet_of hg).2 hf (beq_iff_eq.mp ht) (by show (PySem.W.lookIn name od).map (·.isSome)=some false; rw[hl,hv]; rfl) h
theorem set_map {ns:List Str}{Q:Unit->Shared->Prop}(X:K.In s.heap)(I:ObjM s.heap x dx C mA)
  (hs:PySem.W.findIn K (.ref C) "__setattr__"=some (some (.builtin "object.__setattr__"))) (hp:PySem.W.plainOver K C=true) (ht:PySem.W.takerIn K C name=some none) (hh:PySem.W.hasDictIn K C=true)
  (hw:PySem.Within mA ns) (hsz:ns.length<=sizeLine)
  (h:∀ h',ObjM h' x dx C (fun y=>if y=name then some v else mA y)->Heap.SameBut dx s.heap h'->Q () { s with heap:=h',toks:=s.toks+2 }) :
  wpAny (model prog w) A (setAttr (.ref x) name v) Q E s:=by
 obtain⟨od,J,hl⟩:=I.look
 refine PySem.W.set_plain X J hs (PySem.W.osa_open (s:={ s with toks:=s.toks+1 }) (r:=none) X J hp ht fun b=>?_)
 obtain⟨cd,hc,hd'⟩:=PySem.W.any_some hh
 have hx:s.heap.get? x=some ⟨.ref C,some dx,.plain,#[]⟩:=I.obj
 refine wpAny_bind (wpAny_pure (wpAny_bind (wpAny_bind (wpAny_loadPart hx (wpAny_bind (PySem.W.Looks.here (s:={ s with toks:=s.toks+1 }) (PySem.W.looks_clsIn X hc) ?_))))))
 rw[hd']
 refine wpAny_pure (a:=some dx) (wpAny_bind (wpAny_pure (wpAny_bind ?_)))
 refine wpAny_nsSet1 (s:={ s with toks:=s.toks+1 }) I.ns fun h' hn2 hs2=>?_
 obtain⟨oD,esD,epD,hoD,hdD,hcD⟩:=hn2.count (PySem.Within.cons name v hw)
 refine wpAny_bind (wpAny_lookBehind hoD (by rw[hdD]; exact pastItsLine_dict (Nat.le_trans hcD (by rw[List.length_cons]; omega))) ?_)
 exact wpAny_pure (h _ ⟨(hs2.2 _ (Ne.symm I.ne)).trans I.obj,hn2,I.ne⟩ hs2)
theorem make_map {R:Result->Shared->Prop}{vs:List Value}{kw:List (Str × Value)}(X:K.In s.heap)(hm:PySem.W.makesIn K C=true)
  (hi:PySem.W.findIn K (.ref C) "__init__"=some (some (.ref f))) (hf:PySem.W.typeIn K (.ref f)=some (.type "function"))
  (h:codeAny (model prog w) (A.under (.builtin "type.__call__" ⟨.ref C::vs,kw⟩)) (.call (.ref f) ⟨.ref (s.heap.objs.size+1)::vs,kw⟩) (PySem.W.InitBack (s.heap.objs.size+1) R)
   { s with heap:=(s.heap.push PySem.W.emptyDict).push (PySem.W.instObj C s.heap.objs.size) }) :
  codeAny (model prog w) A (.call (.ref C) ⟨vs,kw⟩) R s:=by
 obtain⟨hh,g,d,t,os⟩:=s
 exact PySem.W.make_core (PySem.W.makes_of X hm) (PySem.W.looks_findIn X hi) (fun self=>PySem.W.bind_fn X self hf) (.inl rfl) h
end
noncomputable def putF (f:Str)(v:V):List (Str × V)->List (Str × V)
 | []=>[(f,v)]
 | (g,x)::r=>if g=f then (g,v)::r else (g,x)::putF f v r
theorem lookup_putF (f g:Str)(v:V):∀ fs:List (Str × V),(putF f v fs).lookup g=if g=f then some v else fs.lookup g
 | []=>by
  show List.lookup g [(f,v)]=_
  by_cases h:g=f
  ·have hb:(g == f)=true:=beq_iff_eq.mpr h
   simp only[List.lookup,hb,if_pos h]
  ·have hb:(g == f)=false:=beq_eq_false_iff_ne.mpr h
   simp only[List.lookup,hb,if_neg h]
 | (k,x)::r=>by
  have ih:=lookup_putF f g v r
  rw[show putF f v ((k,x)::r)=(if k=f then (k,v)::r else (k,x)::putF f v r) from rfl]
  by_cases hk:k=f
  ·rw[if_pos hk]
   by_cases h:g=k
   ·have hb:(g == k)=true:=beq_iff_eq.mpr h
    simp only[List.lookup,hb,if_pos (h.trans hk)]
   ·have hb:(g == k)=false:=beq_eq_false_iff_ne.mpr h
    simp only[List.lookup,hb,if_neg (fun e:g=f=>h (e.trans hk.symm))]
  ·rw[if_neg hk]
   by_cases h:g=k
   ·have hb:(g == k)=true:=beq_iff_eq.mpr h
    simp only[List.lookup,hb,if_neg (fun e:g=f=>hk (h.symm.trans e))]
   ·have hb:(g == k)=false:=beq_eq_false_iff_ne.mpr h
    simp only[List.lookup,hb]
    exact ih
theorem keys_putF (f:Str)(v:V):∀ fs:List (Str × V),f∈(putF f v fs).map (·.1)/\∀ g,g∈fs.map (·.1)->g∈(putF f v fs).map (·.1)
 | []=>⟨by simp[putF],fun g h=>by simp at h⟩
 | (k,x)::r=>by
  obtain⟨i1,i2⟩:=keys_putF f v r
  rw[show putF f v ((k,x)::r)=(if k=f then (k,v)::r else (k,x)::putF f v r) from rfl]
  by_cases hk:k=f
  ·rw[if_pos hk]
   subst hk
   exact⟨by simp,fun g h=>by simpa using h⟩
  ·rw[if_neg hk]
   refine⟨?_,fun g h=>?_⟩
   ·rw[List.map_cons]
    exact List.mem_cons_of_mem _ i1
   ·rw[List.map_cons] at h ⊢
    rcases List.mem_cons.mp h with e|e
    ·exact List.mem_cons.mpr (.inl e)
    ·exact List.mem_cons_of_mem _ (i2 g e)
theorem length_putF (f:Str)(v:V):∀ fs:List (Str × V),(putF f v fs).length<=fs.length+1
 | []=>by simp[putF]
 | (k,x)::r=>by
  have ih:=length_putF f v r
  rw[show putF f v ((k,x)::r)=(if k=f then (k,v)::r else (k,x)::putF f v r) from rfl]
  by_cases hk:k=f
  ·rw[if_pos hk,List.length_cons,List.length_cons]; omega
  ·rw[if_neg hk,List.length_cons,List.length_cons]; omega
theorem RelO.some_of {v:V}{o:Option Value}(r:RelO (some v) o):∃ u,o=some u/\RelV v u:=by
 cases o with
 | none=>exact(show False from r).elim
 | some u=>exact⟨u,rfl,r⟩
theorem RelO.none_of {o:Option Value}(r:RelO none o):o=none:=by
 cases o with
 | none=>rfl
 | some u=>exact(show False from r).elim
theorem handed_of {v:V}{u:Value}(r:RelV v u):PySem.W.handedIn u=true:=by
 cases v with
 | non=>cases (show u=Value.none from r); rfl
 | bl b=>cases (show u=Value.bool b from r); rfl
 | int i=>obtain⟨t,e⟩:=(show ∃ t,u=Value.int i t from r); cases e; rfl
 | str x=>obtain⟨t,e⟩:=(show ∃ t,u=Value.str x t from r); cases e; rfl
 | byt b=>obtain⟨t,e⟩:=(show ∃ t,u=Value.bytes b t from r); cases e; rfl
 | flt b=>obtain⟨t,e⟩:=(show ∃ t,u=Value.float b t from r); cases e; rfl
 | ref a=>cases (show u=Value.ref a from r); rfl
 | ty n=>cases (show u=Value.type n from r); rfl
section
variable {P:Program}{w:World}{H H':Hp}{h h':Heap}{a C dx:Addr}{fs fs':List (Str × V)}
theorem ins_get (hok:HOk P w H h)(e:H a=some (.ins C dx fs)):∃ mA,ObjM h a dx C mA/\(∀ f,RelO (fs.lookup f) (mA f))/\PySem.Within mA (fs.map (·.1))/\fs.length<=1000/\H dx=some (.own a):=by
 obtain⟨d,z,ne,ob,mA,n,r,q⟩:=(show ObjOk P w H h a (.ins C dx fs) from hok a _ e)
 exact⟨mA,⟨ob,n,ne⟩,r,q,z,d⟩
end
structure Cls (K:PySem.W.Frag)(C:Addr):Prop where
 pg:PySem.W.plainGet K C Str.empty=true
 hd:PySem.W.hasDictIn K C=true
 po:PySem.W.plainOver K C=true
 sa:PySem.W.findIn K (.ref C) "__setattr__"=some (some (.builtin "object.__setattr__"))
theorem Cls.get {K:PySem.W.Frag}{C:Addr}(c:Cls K C)(f:Str):PySem.W.plainGet K C f=true:=c.pg
noncomputable def NoAttr (K:PySem.W.Frag)(C:Addr)(f:Str):Prop:=PySem.W.findIn K (.ref C) f=some none
theorem NoAttr.taker {K:PySem.W.Frag}{C:Addr}{f:Str}(n:NoAttr K C f):PySem.W.takerIn K C f=some none:=by
 unfold PySem.W.takerIn
 rw[show PySem.W.findIn K (.ref C) f=some none from n]
 rfl
structure Con (K:PySem.W.Frag)(C:Addr)(f:Str)(v:V)(u:Value):Prop where
 at_:PySem.W.findIn K (.ref C) f=some (some u)
 rel:RelV v u
 get:PySem.W.specialIn K u "__get__"=some none
 cp:PySem.W.copiedNames.contains f=false
structure Meth (K:PySem.W.Frag)(C:Addr)(m:Str)(f:Addr):Prop where
 at_:PySem.W.findIn K (.ref C) m=some (some (.ref f))
 fn:PySem.W.isFn K (.ref f)=true
 kp:PySem.W.keepIn K (.ref f)=true
section
variable {X:Cx}{pins:List (Addr × Obj)}{σ:St}{H:Hp}{s:Shared}{a C dx:Addr}{fs:List (Str × V)}{f:Str}{v:V}{A:Around}{E:Value->Shared->Prop}
theorem getattr_ok {b:Bool}{Q:Value->Shared->Prop}(I:Inv X pins σ H s)(e:H a=some (.ins C dx fs))(c:Cls X.K C)(n:NoAttr X.K C f)(l:fs.lookup f=some v)
  (h:∀ u s',Inv X pins σ H s'->RelV v u->Q u s'):wpAny (model X.prog X.w) A (getAttr (.ref a) f b) Q E s:=by
 obtain⟨mA,O,r,_,_,_⟩:=ins_get I.hok e
 obtain⟨u,hu,ru⟩:=RelO.some_of (v:=v) (o:=mA f) (by rw[<- l]; exact r f)
 exact get_map I.kIn O (c.get f) c.hd n hu (handed_of ru) (h u _ (I.tok _) ru)
theorem getmeth_ok {m:Str}{g:Addr}{pl:Sem Bool}{Q:Value × List Value->Shared->Prop}(I:Inv X pins σ H s)(e:H a=some (.ins C dx fs))(c:Cls X.K C)(k:Meth X.K C m g)(l:fs.lookup m=none)
  (h:Q (.ref g,[.ref a]) s):wpAny (model X.prog X.w) A (getMethod (.ref a) m pl) Q E s:=by
 obtain⟨mA,O,r,_,_,_⟩:=ins_get I.hok e
 have hn:mA m=none:=RelO.none_of (by rw[<- l]; exact r m)
 exact get_meth I.kIn O (c.get m) k.at_ k.fn hn h
theorem setattr_ok {y:V}{u:Value}{Q:Unit->Shared->Prop}(I:Inv X pins σ H s)(e:H a=some (.ins C dx fs))(c:Cls X.K C)(n:NoAttr X.K C f)(hl:fs.length<1000)(ry:RelV y u)
  (h:∀ s',Inv X pins σ (upd H a (.ins C dx (putF f y fs))) s'->Q () s'):wpAny (model X.prog X.w) A (setAttr (.ref a) f u) Q E s:=by
 obtain⟨mA,O,r,wi,_,ho⟩:=ins_get I.hok e
 have hz:(fs.map (·.1)).length<=sizeLine:=by rw[List.length_map,sizeLine_eq]; omega
 refine set_map I.kIn O c.sa c.po n.taker c.hd wi hz fun h' O' sb=>h _ ?_
 have hd:∃ o,h'.get? dx=some o:=let ⟨o,_,_,e',_⟩:=O'.ns; ⟨o,e'⟩
 refine I.write (x:=a) (e:=dx) (by rw[e]; exact True.intro) (.inr ho) (fun b q hb z=>(sb.2 b hb).trans z) hd ?_
 refine⟨by rw[upd_ne O.ne]; exact ho,?_,O.ne,O'.obj,_,O'.ns,fun g=>?_,fun g hg=>?_⟩
 ·have:=length_putF f y fs; omega
 ·show RelO ((putF f y fs).lookup g) (if g=f then some u else mA g)
  rw[lookup_putF]
  by_cases q:g=f
  ·rw[if_pos q,if_pos q]; exact ry
  ·rw[if_neg q,if_neg q]; exact r g
 ·by_cases q:g=f
  ·rw[q]; exact(keys_putF f y fs).1
  ·refine(keys_putF f y fs).2 g (wi g fun z=>hg ?_)
   show (if g=f then some u else mA g)=none
   rw[if_neg q]; exact z
theorem Inv.made (I:Inv X pins σ H s):Inv X pins σ (upd (upd H s.heap.objs.size (.own (s.heap.objs.size+1))) (s.heap.objs.size+1) (.ins C s.heap.objs.size []))
  { s with heap:=(s.heap.push PySem.W.emptyDict).push (PySem.W.instObj C s.heap.objs.size) }:=by
 have e1:(s.heap.push PySem.W.emptyDict).get? s.heap.objs.size=some PySem.W.emptyDict:=Heap.get?_push_size s.heap rfl
 have e2:((s.heap.push PySem.W.emptyDict).push (PySem.W.instObj C s.heap.objs.size)).get? (s.heap.objs.size+1)=some (PySem.W.instObj C s.heap.objs.size):=by
  have:=Heap.get?_push_size (s.heap.push PySem.W.emptyDict) (o:=PySem.W.instObj C s.heap.objs.size) rfl
  rwa [Heap.size_push] at this
 have e3:(s.heap.push PySem.W.emptyDict).Ns s.heap.objs.size (fun _=>none):=⟨PySem.W.emptyDict,#[],_,e1,rfl,(fun e he=>absurd he (by simp)),fun _=>rfl⟩
 have I1:=I.laid (a:=s.heap.objs.size) (o:=.own (s.heap.objs.size+1)) (h':=s.heap.push PySem.W.emptyDict) (t':=s.toks) (fun b u q=>Heap.get?_push_of_some _ q) (Nat.le_refl _) ⟨_,e1⟩
 refine I1.laid (a:=s.heap.objs.size+1) (o:=.ins C s.heap.objs.size []) (t':=s.toks) (fun b u q=>Heap.get?_push_of_some _ q) (Nat.le_of_eq (Heap.size_push _ _)) ?_
 have ne:s.heap.objs.size≠s.heap.objs.size+1:=Nat.ne_of_lt (Nat.lt_succ_self _)
 refine⟨by rw[upd_ne ne,upd_same],Nat.zero_le _,ne,e2,fun _=>none,(Heap.Ns1.of_empty e3).at fun o q=>Heap.get?_push_of_some _ q,fun _=>True.intro,fun y hy=>absurd rfl hy⟩
theorem attr_of {prog:Program}{w:World}{env:Env}{e:Expr}{f:Str}{pos:Pos}{s:Shared}{Q:Value->Shared->Prop}(hb:attributeBase e f env (eval e env)=eval e env)
  (h:wpAny (model prog w) A (eval e env) (fun o s₁=>wpAny (model prog w) A (getAttr o f true) Q E s₁) E s):wpAny (model prog w) A (eval (.Attribute e f pos) env) Q E s :=
 Attribute_any_ h (by rw[arm_eval_Attribute,hb])
end
noncomputable def tFld (K:PySem.W.Frag)(ta:TE)(f:Str):TE:=fun σ H Q=>ta σ H fun x H1=>∃ a C dx fs v,x=.ref a/\H1 a=some (.ins C dx fs)/\Cls K C/\NoAttr K C f/\fs.lookup f=some v/\Q v H1
noncomputable def sFld (K:PySem.W.Frag)(ta tv:TE)(f:Str):TS:=fun D σ H=>tv σ H fun y H1=>ta σ H1 fun x H2=>∃ a C dx fs,x=.ref a/\H2 a=some (.ins C dx fs)/\Cls K C/\NoAttr K C f/\fs.length<1000 /\
 D.nx σ (upd H2 a (.ins C dx (putF f y fs)))
noncomputable def InOp (X:Cx)(op:Operator)(rd:V->V->Hp->VK->Prop):Prop :=
 ∀ (pins:List (Addr × Obj)) (s:Shared) (σ:St) (H:Hp) (x y:V) (u v:Value) (Q:VK),Inv X pins σ H s->RelV x u->RelV y v->rd x y H Q->wpAny (model X.prog X.w) X.A (inplaceOp op u v) (EP X pins σ Q) X.xe s
noncomputable def sFldAug (K:PySem.W.Frag)(ta tv:TE)(rd:V->V->Hp->VK->Prop)(f:Str):TS:=fun D σ H=>ta σ H fun x H1=>∃ a C dx fs v,x=.ref a/\H1 a=some (.ins C dx fs)/\Cls K C/\NoAttr K C f/\fs.lookup f=some v /\
 tv σ H1 fun y H2=>rd v y H2 fun z H3=>∃ dx' fs',H3 a=some (.ins C dx' fs')/\fs'.length<1000/\D.nx σ (upd H3 a (.ins C dx' (putF f z fs')))
section
variable {X:Cx}{o e value:Expr}{f:Str}{pos pos' tpos:Pos}{ta tv:TE}
theorem pe_fld (he:PE X e ta)(hb:attributeBase e f X.env (eval e X.env)=eval e X.env):PE X (.Attribute e f pos) (tFld X.K ta f):=by
 intro pins s σ H Q I h
 refine attr_of hb (thn (he pins s σ H _ I h) fun u s1 ⟨x,H1,I1,rx,a,C,dx,fs,v,ex,ea,c,n,l,q⟩=>?_)
 subst ex
 obtain rfl:u=Value.ref a:=rx
 exact getattr_ok I1 ea c n l fun u' s2 I2 ru=>⟨v,H1,I2,ru,q⟩
theorem ps_fld (ha:PE X o ta)(hv:PE X value tv)(hs:swapsWith value (some (.Attribute o f pos')) pos.line X.env=pure false):PS X (.Assign [.Attribute o f pos'] value pos) (sFld X.K ta tv f):=by
 intro pins s σ H D I h
 refine plainObj_wpAny_Assign_Attribute (thn (hv pins s σ H _ I h) fun u s1 ⟨y,H1,I1,ry,q⟩=>thn (ha pins s1 σ H1 _ I1 q) fun ov s2 ⟨x,H2,I2,rx,a,C,dx,fs,ex,ea,c,n,l,q2⟩=>?_) hs
 subst ex
 obtain rfl:ov=Value.ref a:=rx
 exact setattr_ok I2 ea c n l ry fun s3 I3=>⟨σ,_,I3,q2⟩
theorem ps_fldaug {op:Operator}{rd:V->V->Hp->VK->Prop}(ha:PE X o ta)(hv:PE X value tv)(hop:InOp X op rd):PS X (.AugAssign (.Attribute o f tpos) op value pos) (sFldAug X.K ta tv rd f):=by
 intro pins s σ H D I h
 refine wpAny_AugAssign_AttributeAny (thn (ha pins s σ H _ I h) fun ov s1 ⟨x,H1,I1,rx,a,C,dx,fs,v,ex,ea,c,n,l,q⟩=>?_)
 subst ex
 obtain rfl:ov=Value.ref a:=rx
 refine getattr_ok I1 ea c n l fun u s2 I2 ru=>thn (hv pins s2 σ H1 _ I2 q) fun w3 s3 ⟨y,H2,I3,ry,q3⟩=>thn (hop pins s3 σ H2 v y u w3 _ I3 ru ry q3) fun w4 s4 ⟨z,H3,I4,rz,dx',fs',ea',l',q4⟩=>?_
 exact setattr_ok I4 ea' c n l' rz fun s5 I5=>⟨σ,_,I5,q4⟩
noncomputable def rAdd:V->V->Hp->VK->Prop:=fun x y H Q=>∃ i j,x=.int i/\y=.int j/\Q (.int (i+j)) H
theorem in_add:InOp X .Add rAdd:=by
 rintro pins s σ H x y u v Q I rx ry ⟨i,j,rfl,rfl,q⟩
 obtain⟨t,rfl⟩:=(show ∃ t,u=Value.int i t from rx)
 obtain⟨t',rfl⟩:=(show ∃ t',v=Value.int j t' from ry)
 exact PyProof.Rows.iadd_int ⟨.int (i+j),H,I.tok _,⟨_,rfl⟩,q⟩
end
section
variable {X:Cx}{pins:List (Addr × Obj)}{σ:St}{H:Hp}{s:Shared}{A:Around}{E:Value->Shared->Prop}{Q:Value->Shared->Prop}{c:Value}{b:Bool}
inductive TyOf (K:PySem.W.Frag)(H:Hp):V->Value->Prop where
 | non:TyOf K H .non (.type "NoneType")
 | bl (x:Bool):TyOf K H (.bl x) (.type "bool")
 | int (i:Int):TyOf K H (.int i) (.type "int")
 | str (x:Str):TyOf K H (.str x) (.type "str")
 | flt (x:UInt64):TyOf K H (.flt x) (.type "float")
 | lst {a:Addr} {xs:List V} (e:H a=some (.lst xs)):TyOf K H (.ref a) (.type "list")
 | frz {a:Addr} {o:Obj} {xs:List V} (e:H a=some (.frz o (.lst xs))):TyOf K H (.ref a) (.type "list")
 | tup {a:Addr} {xs:List V} (e:H a=some (.tup xs)):TyOf K H (.ref a) (.type "tuple")
 | dK {a:Addr} {kvs:List (Key × V)} (e:H a=some (.dK kvs)):TyOf K H (.ref a) (.type "dict")
 | dT {a:Addr} {kvs:List (List Key × V)} (e:H a=some (.dT kvs)):TyOf K H (.ref a) (.type "dict")
 | ins {a C dx:Addr} {fs:List (Str × V)} (e:H a=some (.ins C dx fs)) (cl:Cls K C) (ha:PySem.W.findIn K (.ref C) "__class__"=some (some (.builtin "object.__class__")))
   (hn:PySem.W.specialIn K (.builtin "object.__class__") "__get__"=some (some (.builtin "getset_descriptor.__get__"))) (htk:PySem.W.takesIn K (.builtin "object.__class__")=some true)
   (hm:PySem.W.mroIn K C (.type "object")=some true):TyOf K H (.ref a) (.ref C)
end
structure Room (k:Nat)(A:Around):Prop where
 hd:A.handled=none
 dp:A.depth+3*k+5<recursionLimit
 un:A.units+16*k+200<cLine
theorem Room.mono {j k:Nat}{A:Around}(r:Room k A)(h:j<=k):Room j A:=⟨r.hd,by have:=r.dp; omega,by have:=r.un; omega⟩
theorem Room.deeper {k:Nat}{A:Around}(r:Room (k+1) A)(env:Env):Room k (A.deeper env) :=
 ⟨r.hd,by have:=r.dp; show A.depth+1+3*k+5<_; omega,by have:=r.un; show A.units+3+16*k+200<_; omega⟩
theorem make_depth {A:Around}{C:Addr}{us:List Value}{kw:List (Str × Value)}:(A.under (.builtin "type.__call__" ⟨.ref C::us,kw⟩)).depth=A.depth+1:=by
 first|rfl|simp[Around.under,Code.weight,Code.isCreation,Code.isGuard,Code.isCaller,Code.frames,Code.isFrame,guardIds]
theorem make_units {A:Around}{C:Addr}{us:List Value}{kw:List (Str × Value)}:(A.under (.builtin "type.__call__" ⟨.ref C::us,kw⟩)).units=A.units+1:=by
 first|rfl|simp[Around.under,Code.cUnits,Code.frames,Code.isFrame]
theorem Room.make {k:Nat}{A:Around}(r:Room (k+1) A)(C:Addr)(us:List Value)(kw:List (Str × Value)):Room k (A.under (.builtin "type.__call__" ⟨.ref C::us,kw⟩)) :=
 ⟨r.hd,by have:=r.dp; rw[make_depth]; omega,by have:=r.un; rw[make_units]; omega⟩
theorem Room.depth {k:Nat}{A:Around}(r:Room k A):A.depth<recursionLimit:=by have:=r.dp; omega
theorem Room.units {k:Nat}{A:Around}(r:Room k A):A.units+64<cLine:=by have:=r.un; omega
noncomputable def tNil:TA:=fun _ H Q=>Q [] H
noncomputable def tCons (ta:TE)(tr:TA):TA:=fun σ H Q=>ta σ H fun x H1=>tr σ H1 fun xs H2=>Q (x::xs) H2
section
variable {X:Cx}{e:Expr}{es:List Expr}{te:TE}{t:TA}{pos:Pos}
theorem pa_nil:PA X [] tNil:=fun _ _ _ _ H Q I h=>Calls.spliced_nil ⟨[],H,I,.nil,h⟩
theorem pa_cons (ha:PE X e te)(hr:PA X es t)(hs:autoParam (starEach (e::es) X.env=(false,eval e X.env)::starEach es X.env) Au.h5._auto_1):PA X (e::es) (tCons te t):=by
 intro pos pins s σ H Q I h
 rw[hs]
 show wpAny _ _ (spliced ((false,eval e X.env)::backTo pos (starEach es X.env))) _ _ s
 refine Calls.spliced_cons (thn (ha pins s σ H _ I h) fun u s1 ⟨x,H1,I1,r1,q1⟩=>?_)
 exact thn (hr pos pins s1 σ H1 _ I1 q1) fun us s2 ⟨xs,H2,I2,r2,q2⟩=>⟨x::xs,H2,I2,.cons r1 r2,q2⟩
noncomputable def tTup (t:TA):TE:=fun σ H Q=>t σ H fun xs H1=>xs.length<=sizeLine/\∀ p,H1 p=none->Q (.ref p) (upd H1 p (.tup xs))
noncomputable def tLst (t:TA):TE:=fun σ H Q=>t σ H fun xs H1=>xs.length<=sizeLine/\∀ p,H1 p=none->Q (.ref p) (upd H1 p (.lst xs))
theorem pe_tup {x1}(h:PA X es t):PE X (.Tuple es x1 pos) (tTup t):=by
 intro pins s σ H Q I hq
 refine wpAny_Tuple_spliced (thn (h pos pins s σ H _ I hq) fun us s1 ⟨xs,H1,I1,r,z,q⟩=>⟨by rw[<- r.length]; exact z,?_⟩)
 have hf:H1 s1.heap.objs.size=none:=I1.hok.fresh (Nat.le_refl _)
 refine⟨.ref s1.heap.objs.size,upd H1 s1.heap.objs.size (.tup xs),I1.laid (t':=s1.toks) (fun b u e=>Heap.get?_push_of_some _ e) (Nat.le_refl _) ?_,rfl,q _ hf⟩
 exact⟨z,us,r,⟨_,Heap.get?_push_size _ rfl,rfl,_,rfl⟩⟩
theorem pe_lst (h:PA X es t):PE X (.List es pos) (tLst t):=by
 intro pins s σ H Q I hq
 refine wpAny_List_spliced (thn (h pos pins s σ H _ I hq) fun us s1 ⟨xs,H1,I1,r,z,q⟩=>⟨by rw[<- r.length]; exact z,?_⟩)
 have hf:H1 s1.heap.objs.size=none:=I1.hok.fresh (Nat.le_refl _)
 refine⟨.ref s1.heap.objs.size,upd H1 s1.heap.objs.size (.lst xs),I1.laid (t':=s1.toks) (fun b u e=>Heap.get?_push_of_some _ e) (Nat.le_refl _) ?_,rfl,q _ hf⟩
 exact⟨z,us,0,r,Heap.get?_push_size _ rfl⟩
end
noncomputable abbrev Sp:=List V->Hp->VK->XK->Prop
noncomputable abbrev CXT:=List Env->Hp->Shared->XK->Value->Shared->Prop
structure Env0 (P:Program)(w:World)(K:PySem.W.Frag)(mg:Str->Option Value)(base:Heap)(A:Around)(outer:List Env)(s:Shared)(H:Hp):Prop where
 frames:A.frames=some outer
 mod:Mod K mg base
 bs:∀ b o,base.get? b=some o->s.heap.get? b=some o/\H b=none
 bsz:base.objs.size<=s.heap.objs.size
 funs:s.heap.FunFrames base outer
 frf:∀ b∈frs outer,H b=none
 hok:HOk P w H s.heap
 bare:AllBare s.gens
noncomputable def CE (outer:List Env)(P:Program)(w:World)(H:Hp)(s:Shared)(Q:VK)(u:Value)(s':Shared):Prop :=
 ∃ v H',s'.os=s.os/\AllBare s'.gens/\Un (frs outer) [] H H' s.heap s'.heap/\HOk P w H' s'.heap/\RelV v u/\Q v H'
noncomputable def CR (CX:CXT)(outer:List Env)(P:Program)(w:World)(H:Hp)(s:Shared)(Q:VK)(E:XK)(r:Result)(s':Shared):Prop :=
 match r with
 | .ok (.ret u)=>CE outer P w H s Q u s'
 | .ok _=>False
 | .error e=>CX outer H s E e s'
structure FnOk (P:Program)(w:World)(K:PySem.W.Frag)(mg:Str->Option Value)(base:Heap)(CX:CXT)(k:Nat)(f:Addr)(fd:FuncData)(ps:List Str)(sp:Sp):Prop where
 len:∀ vs H Q E,sp vs H Q E->vs.length=ps.length
 run:∀ (A:Around) (outer:List Env) (s:Shared) (H:Hp) (args:Args) (us:List Value) (vs:List V) (Q:VK) (E:XK),Room k A->Env0 P w K mg base A outer s H->BindsTo s fd args (ps.zip us)->Vals vs us->sp vs H Q E ->
  codeAny (model P w) A (.call (.ref f) args) (CR CX outer P w H s Q E) s
theorem FnOk.mono {P:Program}{w:World}{K:PySem.W.Frag}{mg:Str->Option Value}{base:Heap}{CX:CXT}{j k:Nat}{f:Addr}{fd:FuncData}{ps:List Str}{sp:Sp}(F:FnOk P w K mg base CX j f fd ps sp)(h:j<=k) :
  FnOk P w K mg base CX k f fd ps sp:=⟨F.len,fun A outer s H args us vs Q E hr=>F.run A outer s H args us vs Q E (hr.mono h)⟩
theorem Env0.make {P:Program}{w:World}{K:PySem.W.Frag}{mg:Str->Option Value}{base:Heap}{A:Around}{outer:List Env}{s:Shared}{H:Hp}(e:Env0 P w K mg base A outer s H)(C:Addr)(us:List Value)(kw:List (Str × Value)) :
  Env0 P w K mg base (A.under (.builtin "type.__call__" ⟨.ref C::us,kw⟩)) outer s H:=⟨by first|exact e.frames|(simpa[Around.under,Code.envs,Code.isFrame,pushEnvs] using e.frames),e.mod,e.bs,e.bsz,e.funs,e.frf,e.hok,e.bare⟩
section
variable {X:Cx}{pins:List (Addr × Obj)}{σ:St}{H:Hp}{s s':Shared}
theorem Inv.env0 (I:Inv X pins σ H s):Env0 X.prog X.w X.K X.mg X.base X.A X.stack s H :=
 ⟨I.ok.frames,I.ok.mod,I.bs,Nat.le_trans I.ok.bsz I.sz,I.stack,I.stkFree,I.hok,I.bare⟩
theorem Inv.after {Q:VK}{u:Value}(I:Inv X pins σ H s)(h:CE X.stack X.prog X.w H s Q u s'):EP X pins σ Q u s':=by
 obtain⟨v,H',os,bare,un,hok,r,q⟩:=h
 obtain⟨hh,g,d,t,os'⟩:=s'
 obtain rfl:os'=s.os:=os
 exact⟨v,H',I.call (h':=hh) (g':=g) (d':=d) (t':=t) (ch:=[]) un hok bare (fun b z=>absurd z (by simp)),r,q⟩
end
noncomputable def tMeth (C:Addr)(m:Str)(sp:Sp)(dvs:List V)(E:XK)(ta:TE)(t:TA):TE:=fun σ H Q=>ta σ H fun x H1=>∃ a dx fs,x=.ref a/\H1 a=some (.ins C dx fs)/\fs.lookup m=none /\
 t σ H1 fun vs H2=>sp (x::(vs++dvs)) H2 Q E
noncomputable def tMake (C:Addr)(sp:Sp)(dvs:List V)(E:XK)(t:TA):TE:=fun σ H Q=>t σ H fun vs H1=>∀ x dx,H1 x=none->H1 dx=none->dx≠x ->
 sp (.ref x::(vs++dvs)) (upd (upd H1 dx (.own x)) x (.ins C dx [])) (fun v H2=>v=.non/\Q (.ref x) H2) E
noncomputable def Binds (K:PySem.W.Frag)(fd:FuncData)(ps:List Str)(ds:List Value):Prop :=
 ∀ (s:Shared) (us:List Value),K.In s.heap->(us++ds).length=ps.length->BindsTo s fd ⟨us,[]⟩ (ps.zip (us++ds))
theorem Binds.all {K:PySem.W.Frag}{fd:FuncData}{ps:List Str}(h:∀ us:List Value,us.length=ps.length->bindArgs fd ⟨us,[]⟩=pure (ps.zip us)):Binds K fd ps []:=fun s us _ hl=>by
 rw[List.append_nil] at hl ⊢
 exact .of_eq (h us hl)
noncomputable def Passes (CX:CXT)(X:Cx)(E:XK):Prop:=∀ (pins:List (Addr × Obj)) (σ:St) (H:Hp) (s:Shared) (e:Value) (s':Shared),Inv X pins σ H s->CX X.stack H s E e s'->X.xe e s'
section
variable {X:Cx}{CX:CXT}{k:Nat}{f C:Addr}{fd:FuncData}{ps:List Str}{sp:Sp}{dvs:List V}{ds:List Value}{E:XK}{x m:Str}{p pos apos:Pos}{e o:Expr}{es:List Expr}{ta:TE}{t:TA}
theorem run_fn {pins:List (Addr × Obj)}{σ:St}{H:Hp}{s:Shared}{Q:VK}{us:List Value}{vs:List V}(F:FnOk X.prog X.w X.K X.mg X.base CX k f fd ps sp)(hr:Room k X.A)(hb:Binds X.K fd ps ds)(hd:Vals dvs ds)(hx:Passes CX X E)
  (I:Inv X pins σ H s) (r:Vals vs us) (h:sp (vs++dvs) H Q E):wpAny (model X.prog X.w) X.A (call (.ref f) us) (EP X pins σ Q) X.xe s:=by
 have r2:Vals (vs++dvs) (us++ds):=r.append hd
 have hl:(us++ds).length=ps.length:=by rw[<- r2.length]; exact F.len _ _ _ _ h
 refine wpAny_call (codeAny_mono (F.run X.A X.stack s H ⟨us,[]⟩ (us++ds) (vs++dvs) Q E hr I.env0 (hb s us I.kIn hl) r2 h) fun r s' hq=>?_)
 cases r with
 | error e=>exact hx pins σ H s e s' I hq
 | ok fl =>
  cases fl with
  | ret u=>exact I.after hq
  | next=>exact False.elim hq
  | brk=>exact False.elim hq
  | cont=>exact False.elim hq
theorem pe_meth {pl:Sem Bool}(he:PE X o ta)(c:Cls X.K C)(hm:Meth X.K C m f)(F:FnOk X.prog X.w X.K X.mg X.base CX k f fd ps sp)(hr:Room k X.A)(hb:Binds X.K fd ps ds)(hd:Vals dvs ds)(hx:Passes CX X E)(ha:PA X (e::es) t)
  (hst:autoParam (starEach (e::es) X.env=(false,eval e X.env)::starEach es X.env) Au.h5._auto_1) (hpl:autoParam ((backTo pos (starEach es X.env)).any (·.1)=false) Au.h5._auto_1)
  (ht:autoParam (eval (.Call (.Attribute o m apos) (e::es) [] pos) X.env=(do
   let ov <- eval o X.env
   standAt apos.atName
   let (f,first) <- holding [ov] (getMethod ov m pl)
   callWith pos f first (backTo pos (starEach (e::es) X.env)) (backToKw pos (keywordEach [] X.env)))) Au.h5._auto_1) :
  PE X (.Call (.Attribute o m apos) (e::es) [] pos) (tMeth C m sp dvs E ta t):=by
 intro pins s σ H Q I h
 refine PySem.W.methodCall_KW (pl:=pl) (thn (he pins s σ H _ I h) fun u s1 ⟨x,H1,I1,rx,a,dx,fs,ex,ea,l,q⟩=>?_) ht
 subst ex
 obtain rfl:u=Value.ref a:=rx
 refine getmeth_ok I1 ea c hm l ?_
 refine PySem.W.callWith_K (first:=[.ref a]) (h₀:=X.base) I.ok.mod.kin hm.kp (thn (ha pos pins s1 σ H1 _ I1 q) fun us s2 ⟨vs,H2,I2,r,q2⟩=>⟨I2.kIn,?_⟩) hst hpl
 exact run_fn (us:=.ref a::us) (vs:=.ref a::vs) F hr hb hd hx I2 (.cons rfl r) q2
theorem pe_meth0 {pl:Sem Bool}(he:PE X o ta)(c:Cls X.K C)(hm:Meth X.K C m f)(F:FnOk X.prog X.w X.K X.mg X.base CX k f fd ps sp)(hr:Room k X.A)(hb:Binds X.K fd ps ds)(hd:Vals dvs ds)(hx:Passes CX X E)
  (ht:autoParam (eval (.Call (.Attribute o m apos) [] [] pos) X.env=(do
   let ov <- eval o X.env
   standAt apos.atName
   let (f,first) <- holding [ov] (getMethod ov m pl)
   callWith pos f first (backTo pos (starEach [] X.env)) (backToKw pos (keywordEach [] X.env)))) Au.h5._auto_1) :
  PE X (.Call (.Attribute o m apos) [] [] pos) (tMeth C m sp dvs E ta tNil):=by
 intro pins s σ H Q I h
 refine PySem.W.methodCall_KW (pl:=pl) (thn (he pins s σ H _ I h) fun u s1 ⟨x,H1,I1,rx,a,dx,fs,ex,ea,l,q⟩=>?_) ht
 subst ex
 obtain rfl:u=Value.ref a:=rx
 refine getmeth_ok I1 ea c hm l ?_
 exact PySem.W.callWith_K0 (first:=[.ref a]) I1.kIn hm.kp (run_fn (us:=[.ref a]) (vs:=[.ref a]) F hr hb hd hx I1 (.cons rfl .nil) q)
structure Mk (K:PySem.W.Frag)(C f:Addr):Prop where
 makes:PySem.W.makesIn K C=true
 init:PySem.W.findIn K (.ref C) "__init__"=some (some (.ref f))
 fn:PySem.W.isFn K (.ref f)=true
 kp:PySem.W.keepIn K (.ref C)=true
theorem run_make {pins:List (Addr × Obj)}{σ:St}{H:Hp}{s:Shared}{Q:VK}{us:List Value}{vs:List V}(M:Mk X.K C f)(F:FnOk X.prog X.w X.K X.mg X.base CX k f fd ps sp)(hr:Room (k+1) X.A)(hb:Binds X.K fd ps ds)(hd:Vals dvs ds)
  (hx:Passes CX X E) (I:Inv X pins σ H s) (r:Vals vs us)
  (h:∀ x dx,H x=none->H dx=none->dx≠x->sp (.ref x::(vs++dvs)) (upd (upd H dx (.own x)) x (.ins C dx [])) (fun v H2=>v=.non/\Q (.ref x) H2) E) :
  wpAny (model X.prog X.w) X.A (call (.ref C) us) (EP X pins σ Q) X.xe s:=by
 have hq:=h (s.heap.objs.size+1) s.heap.objs.size (I.hok.fresh (Nat.le_succ _)) (I.hok.fresh (Nat.le_refl _)) (Nat.ne_of_lt (Nat.lt_succ_self _))
 have I2:=Inv.made (C:=C) I
 have r2:Vals (V.ref (s.heap.objs.size+1)::(vs++dvs)) (Value.ref (s.heap.objs.size+1)::(us++ds)):=.cons rfl (r.append hd)
 have hl:(Value.ref (s.heap.objs.size+1)::us++ds).length=ps.length:=by
  have e:=r2.length
  rw[F.len _ _ _ _ hq] at e
  exact e.symm
 refine wpAny_call (make_map (f:=f) I.kIn M.makes M.init (beq_iff_eq.mp M.fn) (codeAny_mono (F.run _ X.stack _ _ ⟨Value.ref (s.heap.objs.size+1)::us,[]⟩ (Value.ref (s.heap.objs.size+1)::(us++ds)) _ _ E (hr.make C us [])
  (I2.env0.make C us []) (hb _ (Value.ref (s.heap.objs.size+1)::us) I2.kIn hl) r2 hq) fun r s' hq'=>?_))
 cases r with
 | error e=>exact hx pins σ _ _ e s' I2 hq'
 | ok fl =>
  cases fl with
  | ret u =>
   obtain⟨v,H',I3,rv,ev,q3⟩:=I2.after hq'
   subst ev
   exact⟨rv,⟨V.ref (s.heap.objs.size+1),H',I3,rfl,q3⟩⟩
  | next=>exact False.elim hq'
  | brk=>exact False.elim hq'
  | cont=>exact False.elim hq'
theorem pe_make (M:Mk X.K C f)(F:FnOk X.prog X.w X.K X.mg X.base CX k f fd ps sp)(hr:Room (k+1) X.A)(hg:Gl X x)(hm:X.mg x=some (.ref C))(hb:Binds X.K fd ps ds)(hd:Vals dvs ds)(hx:Passes CX X E)
  (ha:PA X (e::es) t) (hdb:autoParam ((x == ("__debug__":Str))=false) Au.h2._auto_1) (he:autoParam (starEach (e::es) X.env=(false,eval e X.env)::starEach es X.env) Au.h5._auto_1) (hpl:autoParam ((backTo pos (starEach es X.env)).any (·.1)=false) Au.h5._auto_1) :
  PE X (.Call (.Name x p) (e::es) [] pos) (tMake C sp dvs E t):=by
 intro pins s σ H Q I h
 refine wpAny_Call_Name_kw (ld_glob I hg hm ?_ hdb)
 refine PySem.W.callWith_K (h₀:=X.base) I.ok.mod.kin M.kp (thn (ha pos pins s σ H _ I h) fun us s1 ⟨vs,H1,I1,r,q⟩=>⟨I1.kIn,?_⟩) he hpl
 exact run_make M F hr hb hd hx I1 r q
end
section
variable {X:Cx}{CX:CXT}{k:Nat}{f C:Addr}{fd:FuncData}{ps ks:List Str}{sp:Sp}{E:XK}{x m:Str}{p pos apos kpos:Pos}{e o:Expr}{es:List Expr}{kws:List Keyword}{te ta:TE}{t tk:TA}{nm:Option Str}
structure KBinds (K:PySem.W.Frag)(fd:FuncData)(ps ks:List Str)(g:List Value->List Value->List Value)(gV:List V->List V->List V):Prop where
 to:∀ (s:Shared) (us ws:List Value),K.In s.heap->(g us ws).length=ps.length->BindsTo s fd ⟨us,ks.zip ws⟩ (ps.zip (g us ws))
 rel:∀ {vs:List V} {us:List Value} {zs:List V} {ws:List Value},Vals vs us->Vals zs ws->Vals (gV vs zs) (g us ws)
variable {g:List Value->List Value->List Value}{gV:List V->List V->List V}
end
structure FnScope (N P:List Str)(sc:Scope):Prop where
 kind:sc.kind=.function
 co:sc.isCoroutine=false
 gen:sc.isGenerator=false
 nd:N.Nodup
 pre:N.take P.length=P
 par:∀ x∈P,sc.names.lookup x=some .local\/sc.names.lookup x=some .cell
 nofree:∀ y∈sc.names,y.2≠.free
theorem bindL_out {kindOf:Str->Option NameKind}{x:Str}:∀ {binds:List (Str × Value)} {m:Str->Option Value},(∀ v,(x,v)∉binds)->bindL kindOf binds m x=m x
 | [],_,_=>rfl
 | (n,v)::r,m,h=>by
  unfold bindL
  rw[bindL_out fun w hw=>h w (List.mem_cons_of_mem _ hw)]
  split
  ·have:x≠n:=by rintro rfl; exact h v List.mem_cons_self
   simp[this]
  ·rfl
theorem bindC_out {kindOf:Str->Option NameKind}{x:Str}:∀ {binds:List (Str × Value)} {m:Str->Option Value},(∀ v,(x,v)∉binds)->bindC kindOf binds m x=m x
 | [],_,_=>rfl
 | (n,v)::r,m,h=>by
  unfold bindC
  rw[bindC_out fun w hw=>h w (List.mem_cons_of_mem _ hw)]
  split
  ·rfl
  ·have:x≠n:=by rintro rfl; exact h v List.mem_cons_self
   simp[this]
theorem bindL_get {kindOf:Str->Option NameKind}{x:Str}{v:Value}:∀ {P:List Str} {vs:List Value} {i:Nat} {m:Str->Option Value},P.Nodup->P[i]?=some x->vs[i]?=some v->kindOf x=some .local ->
  bindL kindOf (P.zip vs) m x=some v
 | [],_,_,_,_,h,_,_=>by simp at h
 | _::_,[],_,_,_,_,h,_=>by simp at h
 | p::P,w::vs,0,m,nd,h1,h2,hk=>by
  simp at h1 h2; subst h1; subst h2
  show bindL kindOf ((p,w)::P.zip vs) m p=_
  unfold bindL
  rw[bindL_out fun v hv=>(List.nodup_cons.mp nd).1 (List.of_mem_zip hv).1,if_pos hk]
  simp
 | p::P,w::vs,i+1,m,nd,h1,h2,hk=>by
  show bindL kindOf ((p,w)::P.zip vs) m x=_
  unfold bindL
  exact bindL_get (i:=i) (List.nodup_cons.mp nd).2 (by simpa using h1) (by simpa using h2) hk
theorem bindC_get {kindOf:Str->Option NameKind}{x:Str}{v:Value}:∀ {P:List Str} {vs:List Value} {i:Nat} {m:Str->Option Value},P.Nodup->P[i]?=some x->vs[i]?=some v->kindOf x≠some .local ->
  bindC kindOf (P.zip vs) m x=some v
 | [],_,_,_,_,h,_,_=>by simp at h
 | _::_,[],_,_,_,_,h,_=>by simp at h
 | p::P,w::vs,0,m,nd,h1,h2,hk=>by
  simp at h1 h2; subst h1; subst h2
  show bindC kindOf ((p,w)::P.zip vs) m p=_
  unfold bindC
  rw[bindC_out fun v hv=>(List.nodup_cons.mp nd).1 (List.of_mem_zip hv).1,if_neg hk]
  simp
 | p::P,w::vs,i+1,m,nd,h1,h2,hk=>by
  show bindC kindOf ((p,w)::P.zip vs) m x=_
  unfold bindC
  exact bindC_get (i:=i) (List.nodup_cons.mp nd).2 (by simpa using h1) (by simpa using h2) hk
noncomputable def start (N:List Str)(vs:List V):St:=vs.map some++List.replicate (N.length-vs.length) none
noncomputable def cxOf (CX:CXT)(P:Program)(w:World)(K:PySem.W.Frag)(mg:Str->Option Value)(base:Heap)(N:List Str)(qual:Str)(scope:Scope)(f:Addr)(cd:Value)(A:Around)(outer:List Env)(s:Shared)(H:Hp)(E:XK):Cx where
 prog:=P
 w:=w
 K:=K
 mg:=mg
 base:=base
 A:=A.deeper (envOfC qual scope s.heap.objs.size f cd)
 N:=N
 s₀:=s
 H₀:=H
 env:=envOfC qual scope s.heap.objs.size f cd
 outer:=outer
 stack:=envOfC qual scope s.heap.objs.size f cd::outer
 ex:=[]
 calm:=true
 fn:=fun _=>true
 pn:=[]
 xe:=fun e s'=>wpAny (model P w) (A.deeper (envOfC qual scope s.heap.objs.size f cd)) (leaving (envOfC qual scope s.heap.objs.size f cd) e) (fun _ s''=>CX outer H s E e s'') (fun e' s''=>CX outer H s E e' s'') s'
theorem cell_has {sc:Scope}{n:Nat}{x:Str}(h:sc.names.lookup x=some .cell):∃ c,(cellsFrom n sc.names []).lookup x=some c:=by
 have q:=PySem.W.cellsFrom_some sc.names n [] (.inl h)
 exact Option.isSome_iff_exists.mp q
theorem inv_start {CX:CXT}{P:Program}{w:World}{K:PySem.W.Frag}{mg:Str->Option Value}{base:Heap}{N ps:List Str}{qual:Str}{scope:Scope}{f:Addr}{cd:Value}{A:Around}{outer:List Env}{s s1:Shared}{H:Hp}{E:XK}{us:List Value}{vs:List V}
  (S:FnScope N ps scope) (hd:A.handled=none) (e0:Env0 P w K mg base A outer s H) (hl:vs.length=ps.length) (r:Vals vs us)
  (x:InCallC s s.heap.objs.size (bindL (envOfC qual scope s.heap.objs.size f cd).kindOf (ps.zip us) fun _=>none) (cellsFrom (s.heap.objs.size+1) scope.names []) (bindC (envOfC qual scope s.heap.objs.size f cd).kindOf (ps.zip us) fun _=>none) s1) :
  Inv (cxOf CX P w K mg base N qual scope f cd A outer s H E) [] (start N vs) H s1:=by
 have hpl:ps.length<=N.length:=by have:=congrArg List.length S.pre; rw[List.length_take] at this; omega
 obtain⟨h1,tk,rfl,hk⟩:=x.done
 have noA:∀ b:Addr,b∉(cxOf CX P w K mg base N qual scope f cd A outer s H E).ex:=fun b z=>absurd (show b∈([]:List Addr) from z) (by simp)
 refine⟨⟨e0.mod,S.kind,rfl,rfl,Nat.le_refl _,fun y z c h1 h2=>?_,fun y hy=>?_,fun y c _ h=>?_,fun _=>hd,Around.frames_deeper e0.frames,.inr ⟨rfl,rfl⟩,fun b z=>absurd z (noA b),e0.bs,e0.bsz,fun b _ _=>noA b,fun b z=>absurd z (noA b),e0.funs,e0.frf⟩,
  rfl,e0.bare,Un.kept hk,⟨_,x.toInCall.ns,fun i y v h1 h2 h3=>?_⟩,fun y c h=>⟨_,x.cell y c h⟩,e0.hok.fresh (Nat.le_refl _),fun y c h=>?_,fun p hp=>absurd (show p∈([]:List (Addr × Obj)) from hp) (by simp),e0.hok.kept hk,?_⟩
 ·exact name_of_addr x.apart (PySem.mem_of_lookup h1) (PySem.mem_of_lookup h2)
 ·have hy:scope.names.lookup y=some .cell\/scope.names.lookup y=some .free:=hy
  rcases hy with hy|hy
  ·exact cell_has hy
  ·exact absurd rfl (S.nofree _ (PySem.mem_of_lookup hy))
 ·exact Nat.le_of_lt (x.above y c (PySem.mem_of_lookup h))
 ·have hi:i<vs.length:=by
   unfold start at h2
   by_cases hi:i<vs.length
   ·exact hi
   ·rw[List.getElem?_append_right (by simpa using hi)] at h2
    rw[List.getElem?_replicate] at h2
    split at h2 <;>cases h2
  have ha:vs[i]?=some v:=by
   unfold start at h2
   rw[List.getElem?_append_left (by simpa using hi),List.getElem?_map] at h2
   cases e:vs[i]? with
   | none=>rw[e] at h2; cases h2
   | some a=>rw[e] at h2; cases h2; rfl
  obtain⟨u,hu,rv⟩:=r.get ha
  have hp:ps[i]?=some y:=by
   rw[<- S.pre,List.getElem?_take_of_lt (by omega)]; exact h1
  have ndP:ps.Nodup:=by rw[<- S.pre]; exact S.nd.sublist (List.take_sublist _ _)
  refine⟨u,rv,?_⟩
  rcases S.par y (List.mem_of_getElem? hp) with k|k
  ·exact .inl ⟨k,bindL_get ndP hp hu k⟩
  ·obtain⟨c,e⟩:=cell_has (n:=s.heap.objs.size+1) k
   refine .inr ⟨.inl k,c,e,?_⟩
   have q:=x.cell y c e
   rw[bindC_get ndP hp hu (by show scope.names.lookup y≠_; rw[k]; decide)] at q
   exact q
 ·exact e0.hok.fresh (Nat.le_of_lt (x.above y c (PySem.mem_of_lookup h)))
 ·unfold start
  show _=N.length
  rw[List.length_append,List.length_map,List.length_replicate]
  omega
theorem fn_of {CX:CXT}{P:Program}{w:World}{K:PySem.W.Frag}{mg:Str->Option Value}{base:Heap}{k:Nat}{f:Addr}{name qual:Str}{params:Arguments}{body:List Stmt}{scope:Scope}{dV kV doc pm cdv ct oc:Value}{an od:Option Addr}
  {osl:Array (Option Value)} {N ps:List Str} {sp:Sp} (lk:K.lookup f=some ⟨oc,od,.func (PySem.W.fnOf name qual params body scope dV kV doc pm an cdv ct),osl⟩) (hcd:PySem.W.codeIn K cdv qual=true) (S:FnScope N ps scope)
  (len:∀ vs H Q E,sp vs H Q E->vs.length=ps.length)
  (hbody:∀ (A:Around) (outer:List Env) (s:Shared) (H:Hp) (vs:List V) (Q:VK) (E:XK),Room k (A.deeper (envOfC qual scope s.heap.objs.size f cdv))->sp vs H Q E ->
   ∃ t,PSs (cxOf CX P w K mg base N qual scope f cdv A outer s H E) body t/\t { nx:=fun _ H'=>Q .non H',rt:=Q } (start N vs) H) :
  FnOk P w K mg base CX (k+1) f (PySem.W.fnOf name qual params body scope dV kV doc pm an cdv ct) ps sp:=by
 refine⟨len,fun A outer s H args us vs Q E hr e0 hb r hsp=>?_⟩
 have hl:=len _ _ _ _ hsp
 have KX:K.In s.heap:=e0.mod.kin.keeps fun b o e=>(e0.bs b o e).1
 have lim:s.heap.NoLimit:=e0.mod.nolimit.keeps fun b o e=>(e0.bs b o e).1
 have hkind:∀ y∈ps.zip us,scope.names.lookup y.1=some .local\/(scope.names.lookup y.1=some .cell/\((cellsFrom (s.heap.objs.size+1) scope.names []).lookup y.1).isSome=true):=fun ⟨n,v⟩ hy=>by
  rcases S.par n (List.of_mem_zip hy).1 with q|q
  ·exact .inl q
  ·exact .inr ⟨q,PySem.W.cellsFrom_some _ _ _ (.inl q)⟩
 refine codeAny_call_function hr.depth (KX _ _ lk) rfl S.co S.gen rfl (PySem.W.codeRec_of KX hcd) (hb _ _ _ _ ?_)
 refine wpAny_newFunctionEnv_cells S.kind hkind fun env he s1 x=>?_
 subst he
 refine⟨lim.keeps x.toInCall.keep,codeAny_func ?_⟩
 obtain⟨t,ht,hq⟩:=hbody A outer s H vs Q E (hr.deeper _) hsp
 have I:Inv (cxOf CX P w K mg base N qual scope f cdv A outer s H E) [] (start N vs) H s1:=inv_start S hr.hd e0 hl r x
 refine wpAny_mono (ht [] s1 (start N vs) H _ I hq) (fun fl s' hs=>?_) fun e s' hs=>hs
 have fin:∀ {σ':St} {H':Hp} {v:V} {u:Value},Inv (cxOf CX P w K mg base N qual scope f cdv A outer s H E) [] σ' H' s'->RelV v u->Q v H'->CE outer P w H s Q u s' :=
  fun {σ' H' v u} J rv q=>⟨v,H',J.os,J.bare,J.base,J.hok,rv,q⟩
 cases fl with
 | ret u =>
  obtain⟨v,σ',H',J,rv,q⟩:=hs
  exact fin J rv q
 | next =>
  obtain⟨σ',H',J,q⟩:=hs
  exact fin (v:=V.non) (u:=Value.none) J rfl q
 | brk =>
  obtain⟨_,_,_,q⟩:=hs
  exact False.elim q
 | cont =>
  obtain⟨_,_,_,q⟩:=hs
  exact False.elim q
section
variable {X:Cx}{x:Str}{p pos:Pos}{e:Expr}{es:List Expr}{t:TA}{id T:String}{r:List V->Hp->VK->Prop}
noncomputable def tCB (r:List V->Hp->VK->Prop)(t:TA):TE:=fun σ H Q=>t σ H fun vs H1=>r vs H1 Q
theorem pe_callB (hc:CallR X (.builtin id) r)(hg:Gl X x)(hm:X.mg x=none)(hv:bootBuiltins x=some (.builtin id))(ha:PA X (e::es) t)(hn:autoParam (x≠"__name__") Au.h2._auto_1)(hdb:autoParam ((x == ("__debug__":Str))=false) Au.h2._auto_1)
  (he:autoParam (starEach (e::es) X.env=(false,eval e X.env)::starEach es X.env) Au.h5._auto_1) (hpl:autoParam ((backTo pos (starEach es X.env)).any (·.1)=false) Au.h5._auto_1):PE X (.Call (.Name x p) (e::es) [] pos) (tCB r t):=by
 intro pins s σ H Q I h
 refine wpAny_Call_Name_kw (ld_blt I hg hm hv ?_ hn hdb)
 exact PyProof.Rows.callWith_builtin1 (thn (ha pos pins s σ H _ I h) fun us s1 ⟨vs,H1,I1,r1,q1⟩=>hc pins s1 σ H1 vs us Q I1 r1 q1) he hpl
theorem pe_callTy (hc:CallR X (.type T) r)(hg:Gl X x)(hm:X.mg x=none)(hv:bootBuiltins x=some (.type T))(ha:PA X (e::es) t)(hn:autoParam (x≠"__name__") Au.h2._auto_1)(hdb:autoParam ((x == ("__debug__":Str))=false) Au.h2._auto_1)
  (he:autoParam (starEach (e::es) X.env=(false,eval e X.env)::starEach es X.env) Au.h5._auto_1) (hpl:autoParam ((backTo pos (starEach es X.env)).any (·.1)=false) Au.h5._auto_1):PE X (.Call (.Name x p) (e::es) [] pos) (tCB r t):=by
 intro pins s σ H Q I h
 refine wpAny_Call_Name_kw (ld_blt I hg hm hv ?_ hn hdb)
 exact PyProof.Rows.callWith_type1 (thn (ha pos pins s σ H _ I h) fun us s1 ⟨vs,H1,I1,r1,q1⟩=>hc pins s1 σ H1 vs us Q I1 r1 q1) he hpl
end
end L2
namespace HT
open PySem PyProof.Rows
noncomputable def lexLt:List Int->List Int->Bool
 | [],[]=>false
 | [],_::_=>true
 | _::_,[]=>false
 | x::xs,y::ys=>if x=y then lexLt xs ys else decide (x<y)
theorem eqAt_int (A:Around)(s:Shared)(a:Int)(t:Tok)(c:Int)(u:Tok):∃ e,SeqAt.EqAt A s (.int a t) (.int c u) e/\(e=true ↔ a=c) :=
 ⟨(a == c),SeqAt.EqAt.int_int a t c u,by simp⟩
theorem rcLt_int (A:Around)(s:Shared)(a:Int)(t:Tok)(c:Int)(u:Tok)(prog:Program)(w:World)(E:Value->Shared->Prop)(Q:Value->Shared->Prop)(h:Q (.bool (decide (a<c))) s) :
  wpAny (model prog w) A (richCompare .Lt (.int a t) (.int c u)) Q E s :=
 (PyProof.Rows.lt_int h:wpAny (model prog w) A (compareOp .Lt (.int a t) (.int c u)) Q E s)
section
open PySem.SeqAt
open PySem.AutoSeq1 (wpAny_loadPart')
open PySem.MeetsSeq PySem.MeetsSeq2 PySem.MeetsSeq3
end
section
variable {prog:Program}{w:World}{A:Around}{E:Value->Shared->Prop}{s:Shared}
noncomputable def sIx (n d:Nat):Option Int->Nat
 | none=>d
 | some v=>if v<0 then (v+(n:Int)).toNat else min v.toNat n
end
end HT
namespace L2
open PySem PySem.Spec PyProof.Rows
noncomputable abbrev TO:=St->Hp->(Option Int->Hp->Prop)->Prop
noncomputable def PO (X:Cx)(e:Option Expr)(t:TO):Prop :=
 ∀ (pins:List (Addr × Obj)) (s:Shared) (σ:St) (H:Hp) (Q:Option Int->Hp->Prop),Inv X pins σ H s->t σ H Q ->
  wpAny (model X.prog X.w) X.A (evalPart e X.env) (fun u s'=>∃ o H',Inv X pins σ H' s'/\IsPart u o/\Q o H') X.xe s
noncomputable def tNoPart:TO:=fun _ H Q=>Q none H
noncomputable def tPart (t:TE):TO:=fun σ H Q=>t σ H fun x H1=>∃ i,x=.int i/\Q (some i) H1
theorem intsAre_of {ns:List Int}:∀ {us:List Value},Vals (ns.map V.int) us->IntsAre us ns:=by
 induction ns with
 | nil=>intro us r; rw[List.map_nil] at r; cases r; exact .nil
 | cons n ns ih =>
  intro us r
  rw[List.map_cons] at r
  cases r with
  | cons r1 r2 =>
   obtain⟨t,e⟩:=r1
   subst e
   exact .cons n t (ih r2)
section
variable {X:Cx}{e:Expr}{te:TE}{lo hi:Option Expr}{tl th:TO}{pos p2:Pos}
theorem po_none:PO X none tNoPart:=by
 intro pins s σ H Q I h
 rw[evalPart_none]
 exact wpAny_pure ⟨none,H,I,.none,h⟩
theorem po_some (h:PE X e te):PO X (some e) (tPart te):=by
 intro pins s σ H Q I hw
 rw[evalPart_some]
 refine thn (h pins s σ H _ I hw) fun u s1 ⟨x,H1,I1,r1,q1⟩=>?_
 obtain⟨i,rfl,q⟩:=q1
 obtain⟨t,rfl⟩:=r1
 exact⟨some i,H1,I1,.int i t,q⟩
noncomputable def SlR (X:Cx)(r:V->Option Int->Option Int->Hp->VK->Prop):Prop :=
 ∀ (pins:List (Addr × Obj)) (s:Shared) (σ:St) (H:Hp) (x:V) (v vl vu:Value) (lo hi:Option Int) (sl:Addr) (Q:VK),Inv X pins σ H s->RelV x v->s.heap.IsSliceOf sl vl vu .none->IsPart vl lo->IsPart vu hi->r x lo hi H Q ->
  ∃ T id,typeLookup (.type T) "__getitem__"=pure (some (.builtin id))/\s.TypeIs v T/\wpAny (model X.prog X.w) X.A (getItem v (.ref sl)) (EP X pins σ Q) X.xe s
noncomputable def tSl (r:V->Option Int->Option Int->Hp->VK->Prop)(te:TE)(tl th:TO):TE:=fun σ H Q=>te σ H fun x H1=>tl σ H1 fun l H2=>th σ H2 fun u H3=>r x l u H3 Q
theorem pe_slice {r:V->Option Int->Option Int->Hp->VK->Prop}(hr:SlR X r)(he:PE X e te)(hl:PO X lo tl)(hu:PO X hi th):PE X (.Subscript e (.Slice lo hi none p2) pos) (tSl r te tl th):=by
 intro pins s σ H Q I h
 refine Subscript_ (thn (he pins s σ H _ I h) fun v s1 ⟨x,H1,I1,r1,q1⟩=>?_)
 refine wpAny_Slice (thn (hl pins s1 σ H1 _ I1 q1) fun vl s2 ⟨l,H2,I2,pl,q2⟩=>thn (hu pins s2 σ H2 _ I2 q2) fun vu s3 ⟨u,H3,I3,pu,q3⟩=>?_)
 rw[evalPart_none]
 refine wpAny_pure ?_
 have I4:Inv X pins σ H3 { s3 with heap:=s3.heap.push { cls:=.type "slice",data:=.fields #[vl,vu,.none] } }:=I3.kept (t':=s3.toks) fun b ob q=>Heap.get?_push_of_some _ q
 obtain⟨T,id,hT,ht,hg⟩:=hr pins { s3 with heap:=s3.heap.push { cls:=.type "slice",data:=.fields #[vl,vu,.none] } } σ H3 x v vl vu l u s3.heap.objs.size Q I4 r1 (Heap.IsSliceOf.new ..) pl pu q3
 show wpAny (model X.prog X.w) X.A (subscriptTail e (.Slice lo hi none p2) v (.ref s3.heap.objs.size)) (EP X pins σ Q) X.xe { s3 with heap:=s3.heap.push { cls:=.type "slice",data:=.fields #[vl,vu,.none] } }
 exact tail_any (ops:=[.ref s3.heap.objs.size,v]) ht hT hg (by with_unfolding_all rfl)
noncomputable def cutV (xs:List V)(lo hi:Option Int):List V:=(xs.drop (HT.sIx xs.length 0 lo)).take (HT.sIx xs.length xs.length hi-HT.sIx xs.length 0 lo)
theorem cutV_length (xs:List V)(lo hi:Option Int):(cutV xs lo hi).length<=xs.length:=by
 unfold cutV
 rw[List.length_take,List.length_drop]
 omega
end
noncomputable def ixN (n:Nat)(i:Int):Option Nat:=if 0<=i then (if i<n then some i.toNat else none) else if -(n:Int)<=i then some (i+n).toNat else none
noncomputable def atI {α:Type}(xs:List α)(i:Int):Option α:=(ixN xs.length i).bind fun j=>xs[j]?
theorem ixN_seq {n:Nat}{i:Int}{j:Nat}(h:ixN n i=some j):seqIndex? i n=some j/\j<n/\-(n:Int)<=i/\i<n:=by
 unfold ixN at h
 by_cases h0:0<=i
 ·rw[if_pos h0] at h
  by_cases h1:i<n
  ·rw[if_pos h1] at h
   have e:i.toNat=j:=Option.some.inj h
   exact⟨by rw[seqIndex_of h0 h1,e],by omega,by omega,h1⟩
  ·rw[if_neg h1] at h; cases h
 ·rw[if_neg h0] at h
  by_cases h1:-(n:Int)<=i
  ·rw[if_pos h1] at h
   have e:(i+n).toNat=j:=Option.some.inj h
   exact⟨by rw[seqIndex_neg (by omega) h1,e],by omega,h1,by omega⟩
  ·rw[if_neg h1] at h; cases h
theorem atI_get {α:Type}{xs:List α}{i:Int}{v:α}(h:atI xs i=some v):∃ j,seqIndex? i xs.length=some j/\xs[j]?=some v/\j<xs.length/\-(xs.length:Int)<=i/\i<xs.length:=by
 unfold atI at h
 cases e:ixN xs.length i with
 | none=>rw[e] at h; cases h
 | some j =>
  rw[e] at h
  obtain⟨h1,h2,h3,h4⟩:=ixN_seq e
  exact⟨j,h1,h,h2,h3,h4⟩
theorem atI_nat {α:Type}{xs:List α}{j:Nat}{v:α}(h:xs[j]?=some v):atI xs (j:Int)=some v:=by
 have hj:j<xs.length:=(List.getElem?_eq_some_iff.mp h).1
 have e:ixN xs.length (j:Int)=some j:=by
  unfold ixN
  rw[if_pos (by omega),if_pos (by omega)]; simp
 unfold atI; rw[e]; exact h
noncomputable def PlainIx (b:Expr):Prop:=∀ o i,subscripted b false o i=operate [o,i] (getItem o i)
noncomputable def IxR (X:Cx)(r:R2):Prop :=
 ∀ (value slice:Expr) (pins:List (Addr × Obj)) (s:Shared) (σ:St) (H:Hp) (x y:V) (v u:Value) (Q:VK),Inv X pins σ H s->RelV x v->RelV y u->r x y H Q ->
  subscripted slice false v u=operate [v,u] (getItem v u)->wpAny (model X.prog X.w) X.A (subscriptTail value slice v u) (EP X pins σ Q) X.xe s
noncomputable def MtR (X:Cx)(id:String)(r:V->List V->Hp->VK->Prop):Prop :=
 ∀ (pins:List (Addr × Obj)) (s:Shared) (σ:St) (H:Hp) (x:V) (xs:List V) (v:Value) (us:List Value) (Q:VK),Inv X pins σ H s->RelV x v->Vals xs us->r x xs H Q ->
  wpAny (model X.prog X.w) X.A (call (.builtin id) (v::us)) (EP X pins σ Q) X.xe s
section
variable {X:Cx}{a b:Expr}{ta tb:TE}{pos:Pos}
theorem IxR.or {r r':R2}(h:IxR X r)(h':IxR X r'):IxR X (fun x y H Q=>r x y H Q\/r' x y H Q):=by
 intro value slice pins s σ H x y v u Q I rx ry q hs
 rcases q with q|q
 ·exact h value slice pins s σ H x y v u Q I rx ry q hs
 ·exact h' value slice pins s σ H x y v u Q I rx ry q hs
theorem pe_ix {r:R2}(hr:IxR X r)(ha:PE X a ta)(hb:PE X b tb)(hs:PlainIx b):PE X (.Subscript a b pos) (tOp r ta tb):=by
 intro pins s σ H Q I h
 exact Subscript_ (binT ha hb I h fun v u s2 x y H2 I2 rx ry q=>hr a b pins s2 σ H2 x y v u Q I2 rx ry q (hs _ _))
noncomputable def rIxL (K:PySem.W.Frag):R2:=fun x y H Q=>∃ p xs i v,x=.ref p/\y=.int i/\SqL K H p xs/\atI xs i=some v/\Q v H
noncomputable def rIxT (K:PySem.W.Frag):R2:=fun x y H Q=>∃ p xs i v,x=.ref p/\y=.int i/\SqT K H p xs/\atI xs i=some v/\Q v H
theorem ix_list:IxR X (rIxL X.K):=by
 intro value slice pins s σ H x y v u Q I rx ry h hs
 obtain⟨p,xs,i,z,rfl,rfl,hq,he,q⟩:=h
 cases rx
 obtain⟨t,rfl⟩:=ry
 obtain⟨its,r,pl,hz⟩:=I.list hq
 obtain⟨j,h1,h2,h3,h4,h5⟩:=atI_get he
 obtain⟨w,ew,rw'⟩:=r.get h2
 have hl:=r.length
 have hn:=line63
 have fin:EP X pins σ Q w s:=⟨z,H,I,rw',q⟩
 by_cases h0:0<=i
 ·have hj:i.toNat=j:=by
   rw[seqIndex_of h0 h5] at h1
   exact Option.some.inj h1
  exact item_listR pl.isList h0 (by omega) (by rw[hj]; simpa using ew) fin hs
 ·have hj:(i+(its.toArray.size:Int)).toNat=j:=by
   rw[seqIndex_neg (by omega) h4] at h1
   rw[List.size_toArray,<- hl]
   exact Option.some.inj h1
  exact subscriptTail_builtinR (x:=w) pl.isList.typeIs slot_list_getitem.lookup
   (wpAny_getItem_list_neg (Q:=fun r s'=>r=w/\EP X pins σ Q r s') pl.isList (by omega) (by rw[List.size_toArray] <;>omega) (by omega) (by rw[hj]; simpa using ew) ⟨rfl,fin⟩) hs
theorem ix_tup:IxR X (rIxT X.K):=by
 intro value slice pins s σ H x y v u Q I rx ry h hs
 obtain⟨p,xs,i,z,rfl,rfl,hq,he,q⟩:=h
 cases rx
 obtain⟨t,rfl⟩:=ry
 obtain⟨its,r,pl,hz⟩:=I.tuple hq
 obtain⟨j,h1,h2,h3,h4,h5⟩:=atI_get he
 obtain⟨w,ew,rw'⟩:=r.get h2
 have hl:=r.length
 have hn:=line63
 have fin:EP X pins σ Q w s:=⟨z,H,I,rw',q⟩
 exact subscriptTail_builtinR (x:=w) pl.typeIs slot_tuple_getitem.lookup
  (getItem_tuple (j:=j) (Q:=fun r s'=>r=w/\EP X pins σ Q r s') pl (by omega) (by omega) (by rw[List.size_toArray,<- hl]; exact h1) (by simpa using ew) ⟨rfl,fin⟩) hs
theorem mapSeq_set (its:List Value)(n j:Nat)(u:Value):Obj.mapSeq (·.setIfInBounds j u) { cls:=.type "list",data:=.seq its.toArray n }={ cls:=.type "list",data:=.seq (its.set j u).toArray n }:=by
 simp[Obj.mapSeq]
theorem Inv.lst {pins:List (Addr × Obj)}{σ:St}{H:Hp}{s:Shared}{p:Addr}{xs:List V}(I:Inv X pins σ H s)(h:H p=some (.lst xs)) :
  ∃ (its:List Value) (n:Nat),Vals xs its/\s.heap.get? p=some { cls:=.type "list",data:=.seq its.toArray n }/\xs.length<=sizeLine:=by
 obtain⟨z,its,n,r,e⟩:=I.hok p _ h
 exact⟨its,n,r,e,z⟩
theorem Inv.lstUpd {pins:List (Addr × Obj)}{σ:St}{H:Hp}{s:Shared}{p:Addr}{xs ys:List V}{its its':List Value}{n n':Nat}{f:Obj->Obj}(I:Inv X pins σ H s)(h:H p=some (.lst xs))
  (ho:s.heap.get? p=some { cls:=.type "list",data:=.seq its.toArray n }) (hf:f { cls:=.type "list",data:=.seq its.toArray n }={ cls:=.type "list",data:=.seq its'.toArray n' }) (r:Vals ys its') (hz:ys.length<=sizeLine) (t:Nat) :
  Inv X pins σ (upd H p (.lst ys)) { s with heap:=s.heap.update p f,toks:=t }:=by
 have e:(s.heap.update p f).get? p=some { cls:=.type "list",data:=.seq its'.toArray n' }:=by
  rw[Heap.get?_update_self f ho (by rw[hf] <;>rfl),hf]
 refine I.write (x:=p) (e:=p) (by rw[h]; trivial) (.inl rfl) (fun b u hb q=>(Heap.get?_update_other _ _ (Ne.symm hb)).trans q) ⟨_,e⟩ ?_
 exact⟨hz,its',n',r,e⟩
noncomputable def rSetL:V->V->V->Hp->(Hp->Prop)->Prop:=fun o i v H Q=>∃ p xs k j,o=.ref p/\i=.int k/\H p=some (.lst xs)/\ixN xs.length k=some j/\Q (upd H p (.lst (xs.set j v)))
theorem set_list:PSet X rSetL:=by
 intro pins s σ H o i v ov iv u Q I ro ri rv h
 obtain⟨p,xs,k,j,rfl,rfl,hp,hj,q⟩:=h
 cases ro
 obtain⟨t,rfl⟩:=ri
 obtain⟨its,n,r,ho,hz⟩:=I.lst hp
 obtain⟨h1,h2,h3,h4⟩:=ixN_seq hj
 have hl:=r.length
 have hn:=line63
 have I':Inv X pins σ (upd H p (.lst (xs.set j v))) { s with heap:=s.heap.update p (Obj.mapSeq (·.setIfInBounds j u)) } :=
  I.lstUpd hp ho (mapSeq_set its n j u) (r.set rv j) (by rw[List.length_set]; exact hz) s.toks
 by_cases h0:0<=k
 ·have hk:k.toNat=j:=by
   rw[seqIndex_of h0 h4] at h1
   exact Option.some.inj h1
  exact PySem.W.ki_setAt ho h0 (by omega) (by rw[List.size_toArray,<- hl]; exact h4) (by rw[hk]; exact⟨_,I',q⟩)
 ·have hk:(k+(its.toArray.size:Int)).toNat=j:=by
   rw[seqIndex_neg (by omega) h3] at h1
   rw[List.size_toArray,<- hl]
   exact Option.some.inj h1
  exact PySem.W.ki_setBack ho (by omega) (by rw[List.size_toArray,<- hl]; exact h3) (by omega) (by rw[hk]; exact⟨_,I',q⟩)
theorem slice_bounds (lo hi:Option Int)(n:Nat):(sliceBounds lo hi none n).1=((HT.sIx n 0 lo:Nat):Int)/\(sliceBounds lo hi none n).2.1=((HT.sIx n n hi:Nat):Int)/\(sliceBounds lo hi none n).2.2=1:=by
 refine⟨?_,?_,rfl⟩
 ·cases lo with
  | none=>simp[sliceBounds,HT.sIx]
  | some i =>
   simp only[sliceBounds,HT.sIx,Option.getD_none,show (1:Int) > 0 by decide,if_true]
   by_cases h:i<0
   ·simp only[h,if_true] <;>omega
   ·simp only[h,if_false] <;>omega
 ·cases hi with
  | none=>simp[sliceBounds,HT.sIx]
  | some i =>
   simp only[sliceBounds,HT.sIx,Option.getD_none,show (1:Int) > 0 by decide,if_true]
   by_cases h:i<0
   ·simp only[h,if_true] <;>omega
   ·simp only[h,if_false] <;>omega
theorem slicePick_cut (its:List Value)(lo hi:Option Int):slicePick its.toArray lo hi none=((its.drop (HT.sIx its.length 0 lo)).take (HT.sIx its.length its.length hi-HT.sIx its.length 0 lo)).toArray:=by
 obtain⟨h1,h2,h3⟩:=slice_bounds lo hi its.toArray.size
 unfold slicePick
 rw[h1,h2,h3]
 simp only[sliceRange_one,pick_run,List.size_toArray] <;>rfl
noncomputable def rSlL (K:PySem.W.Frag):V->Option Int->Option Int->Hp->VK->Prop:=fun x lo hi H Q=>∃ a xs,x=.ref a/\SqL K H a xs/\∀ p,H p=none->Q (.ref p) (upd H p (.lst (cutV xs lo hi)))
theorem sl_list:SlR X (rSlL X.K):=by
 intro pins s σ H x v vl vu lo hi sl Q I rx hs pl pu h
 obtain⟨a,xs,rfl,hx,q⟩:=h
 cases rx
 obtain⟨its,r,ht,hz⟩:=I.list hx
 have hlen:=r.length
 refine⟨"list",_,slot_list_getitem.lookup,ht.isList.typeIs,?_⟩
 refine wpAny_getItem_list_slice ht.isList hs pl pu .none (by simp) ?_ (by rw[List.size_toArray] <;>omega)
 rw[slicePick_cut,<- hlen]
 refine⟨.ref s.heap.objs.size,_,I.laid (t':=s.toks) (o:=.lst (cutV xs lo hi)) (fun b ob q=>Heap.get?_push_of_some _ q) (Nat.le_refl _) ?_,rfl,q _ (I.hok.fresh (Nat.le_refl _))⟩
 exact⟨Nat.le_trans (cutV_length xs lo hi) hz,_,0,(r.drop (HT.sIx xs.length 0 lo)).take (HT.sIx xs.length xs.length hi-HT.sIx xs.length 0 lo),Heap.get?_push_size _ rfl⟩
noncomputable def flatV:V->Bool
 | .non=>true
 | .bl _=>true
 | .int _=>true
 | .str _=>true
 | _=>false
noncomputable def eqV:V->V->Bool
 | .non,.non=>true
 | .bl a,.bl b=>a == b
 | .bl a,.int b=>(if a then 1 else 0) == b
 | .int a,.bl b=>a == (if b then 1 else 0)
 | .int a,.int b=>a == b
 | .str a,.str b=>a == b
 | _,_=>false
theorem eqAt_V {A:Around}{s:Shared}{y x:V}{u v:Value}(ry:RelV y u)(rx:RelV x v)(fy:flatV y=true)(fx:flatV x=true):SeqAt.EqAt A s u v (eqV y x):=by
 cases y with
 | non =>
  cases ry
  cases x with
  | non=>cases rx; exact SeqAt.EqAt.same _
  | bl b=>cases rx; exact SeqAt.EqAt.none_bool b
  | int b=>obtain⟨t,rfl⟩:=rx; exact SeqAt.EqAt.none_int b t
  | str b=>obtain⟨t,rfl⟩:=rx; exact SeqAt.EqAt.none_str b t
  | _=>exact absurd (show false=true from fx) Bool.false_ne_true
 | bl a =>
  cases ry
  cases x with
  | non=>cases rx; exact SeqAt.EqAt.bool_none a
  | bl b=>cases rx; exact SeqAt.EqAt.bool_bool a b
  | int b=>obtain⟨t,rfl⟩:=rx; exact SeqAt.EqAt.bool_int a b t
  | str b=>obtain⟨t,rfl⟩:=rx; exact SeqAt.EqAt.bool_str a b t
  | _=>exact absurd (show false=true from fx) Bool.false_ne_true
 | int a =>
  obtain⟨t',rfl⟩:=ry
  cases x with
  | non=>cases rx; exact SeqAt.EqAt.int_none a t'
  | bl b=>cases rx; exact SeqAt.EqAt.int_bool a t' b
  | int b=>obtain⟨t,rfl⟩:=rx; exact SeqAt.EqAt.int_int a t' b t
  | str b=>obtain⟨t,rfl⟩:=rx; exact SeqAt.EqAt.int_str a t' b t
  | _=>exact absurd (show false=true from fx) Bool.false_ne_true
 | str a =>
  obtain⟨t',rfl⟩:=ry
  cases x with
  | non=>cases rx; exact SeqAt.EqAt.str_none a t'
  | bl b=>cases rx; exact SeqAt.EqAt.str_bool a t' b
  | int b=>obtain⟨t,rfl⟩:=rx; exact SeqAt.EqAt.str_int a t' b t
  | str b=>obtain⟨t,rfl⟩:=rx; exact SeqAt.EqAt.str_str a t' b t
  | _=>exact absurd (show false=true from fx) Bool.false_ne_true
 | _=>exact absurd (show false=true from fy) Bool.false_ne_true
noncomputable def eqU (x:V)(u:Value):Bool:=match u with
 | .none=>eqV .non x
 | .bool b=>eqV (.bl b) x
 | .int i _=>eqV (.int i) x
 | .str z _=>eqV (.str z) x
 | _=>false
theorem eqU_of {x y:V}{u:Value}(r:RelV y u)(f:flatV y=true):eqU x u=eqV y x:=by
 cases y with
 | non=>cases r; rfl
 | bl b=>cases r; rfl
 | int i=>obtain⟨t,rfl⟩:=r; rfl
 | str z=>obtain⟨t,rfl⟩:=r; rfl
 | _=>exact absurd (show false=true from f) Bool.false_ne_true
theorem any_eqU {x:V}:∀ {xs:List V} {us:List Value},Vals xs us->xs.all flatV=true->us.any (eqU x)=xs.any fun y=>eqV y x
 | _,_,.nil,_=>rfl
 | y::xs,u::us,.cons r t,f=>by
  rw[List.all_cons,Bool.and_eq_true] at f
  rw[List.any_cons,List.any_cons,eqU_of r f.1,any_eqU t f.2]
theorem mem_eqAt {A:Around}{s:Shared}{x:V}{v:Value}(rx:RelV x v)(fx:flatV x=true):∀ {xs:List V} {us:List Value},Vals xs us->xs.all flatV=true->∀ u∈us,SeqAt.EqAt A s u v (eqU x u)
 | _,_,.nil,_=>fun u hu=>by cases hu
 | y::xs,u::us,.cons r t,f=>fun u' hu=>by
  rw[List.all_cons,Bool.and_eq_true] at f
  rcases List.mem_cons.mp hu with rfl|hu
  ·rw[eqU_of r f.1]; exact eqAt_V r rx f.1 fx
  ·exact mem_eqAt rx fx t f.2 u' hu
noncomputable def inV (x:V)(xs:List V):Bool:=xs.any fun y=>eqV y x
noncomputable def rIn (K:PySem.W.Frag)(neg:Bool):R2:=fun x y H Q=>∃ p xs,y=.ref p/\(SqL K H p xs\/SqT K H p xs)/\flatV x=true/\xs.all flatV=true/\Q (.bl (if neg then !inV x xs else inV x xs)) H
theorem op_notIn_seq:OpR X (compareOp .NotIn) (rIn X.K true):=by
 intro pins s σ H x y v u Q I rx ry h
 obtain⟨p,xs,rfl,hq,fx,fs,q⟩:=h
 cases ry
 rcases hq with hq|hq
 ·obtain⟨its,r,pl,hz⟩:=I.list hq
  refine SeqAt.notIn_listAt (eqU x) pl.isList (fun w hw=>mem_eqAt rx fx r fs w (by simpa using hw)) ⟨.bl _,H,I,rfl,?_⟩
  rw[show its.toArray.any (eqU x)=its.any (eqU x) by simp,any_eqU r fs]
  exact q
 ·obtain⟨its,r,pl,hz⟩:=I.tuple hq
  refine SeqAt.notIn_tupleAt (eqU x) pl (fun w hw=>mem_eqAt rx fx r fs w (by simpa using hw)) ⟨.bl _,H,I,rfl,?_⟩
  rw[show its.toArray.any (eqU x)=its.any (eqU x) by simp,any_eqU r fs]
  exact q
theorem call_len_seq:CallR X (.builtin "len") (fun xs H Q=>∃ p ys,xs=[.ref p]/\(SqL X.K H p ys\/SqT X.K H p ys)/\Q (.int ys.length) H):=by
 intro pins s σ H xs us Q I r h
 obtain⟨p,ys,rfl,hq,q⟩:=h
 obtain⟨u,rfl,rx⟩:=vals1 r
 cases rx
 have hn:=line63
 rcases hq with hq|hq
 ·obtain⟨its,r',pl,hz⟩:=I.list hq
  have hlen:=r'.length
  exact Calls.call_len_list pl.isList (by simp only[List.size_toArray] <;>omega) ⟨.int ys.length,H,I.tok _,⟨s.toks+1,by rw[List.size_toArray,hlen]⟩,q⟩
 ·obtain⟨its,r',pl,hz⟩:=I.tuple hq
  have hlen:=r'.length
  exact len_tuple pl (by simp only[List.size_toArray] <;>omega) ⟨.int ys.length,H,I.tok _,⟨s.toks+1,by rw[List.size_toArray,hlen]⟩,q⟩
theorem call_list_of:CallR X (.type "list") (fun xs H Q=>∃ p ys,xs=[.ref p]/\(SqL X.K H p ys\/SqT X.K H p ys)/\∀ l,H l=none->Q (.ref l) (upd H l (.lst ys))):=by
 intro pins s σ H xs us Q I r h
 obtain⟨p,ys,rfl,hq,q⟩:=h
 obtain⟨u,rfl,rx⟩:=vals1 r
 cases rx
 have fin:∀ (its:List Value),Vals ys its->ys.length<=sizeLine->∀ (h':Heap) (c':Nat),(∀ b o',s.heap.get? b=some o'->h'.get? b=some o') ->
   h'.get? s.heap.objs.size=some { cls:=.type "list",dict:=none,data:=.seq its.toArray c',slots:=#[] }->EP X pins σ Q (.ref s.heap.objs.size) { s with heap:=h' }:=fun its r' hz h' c' kp e =>
  ⟨.ref s.heap.objs.size,_,I.laid (t':=s.toks) kp (Nat.le_refl _) (show ObjOk X.prog X.w _ h' _ (.lst ys) from ⟨hz,its,c',r',e⟩),rfl,q _ (I.hok.fresh (Nat.le_refl _))⟩
 rcases hq with hq|hq
 ·obtain⟨its,r',pl,hz⟩:=I.list hq
  have hlen:=r'.length
  obtain⟨o,ho,hc,n,hd⟩:=pl.isList
  exact call_list_seq p (.inl rfl) ho hc hd (fun h' c' kp e=>fin its r' hz h' c' kp e) (by simp only[List.size_toArray] <;>omega)
 ·obtain⟨its,r',pl,hz⟩:=I.tuple hq
  have hlen:=r'.length
  obtain⟨o,ho,hc,n,hd⟩:=pl
  exact call_list_seq p (.inr rfl) ho hc hd (fun h' c' kp e=>fin its r' hz h' c' kp e) (by simp only[List.size_toArray] <;>omega)
noncomputable def tyV (K:PySem.W.Frag)(T:String)(x:V)(H:Hp):Prop:=match x with
 | .str _=>T="str"
 | .int _=>T="int"
 | .ref p=>(T="list"/\∃ xs,SqL K H p xs)\/(T="tuple"/\∃ o,K.lookup p=some o/\o.cls=.type "tuple"/\o.dict=none) \/
   (T="dict"/\((∃ kvs,H p=some (.dK kvs))\/∃ kvs,H p=some (.dT kvs)))\/(T="set"/\∃ S n,H p=some (.set S n))
 | _=>False
theorem tyV_is {pins:List (Addr × Obj)}{σ:St}{H:Hp}{s:Shared}{T:String}{x:V}{v:Value}(I:Inv X pins σ H s)(r:RelV x v)(ty:tyV X.K T x H) :
  s.TypeIs v T/\∀ a,v=.ref a->∃ ob,s.heap.get? a=some ob/\ob.dict=none:=by
 cases x with
 | str z =>
  obtain⟨t,rfl⟩:=r
  cases (show T="str" from ty)
  exact⟨typeIs_str s z t,fun _ e=>nomatch e⟩
 | int i =>
  obtain⟨t,rfl⟩:=r
  cases (show T="int" from ty)
  exact⟨typeIs_int s i t,fun _ e=>nomatch e⟩
 | ref p =>
  cases r
  rcases ty with ⟨rfl,xs,hq⟩|⟨rfl,o,hk,hc,hd⟩|⟨rfl,hk⟩|⟨rfl,S,n,hk⟩
  ·obtain⟨its,_,pl,_⟩:=I.list hq
   refine⟨pl.isList.typeIs,fun a e=>?_⟩
   cases e
   obtain⟨o,n,e,c,hd,_⟩:=pl
   exact⟨o,e,hd⟩
  ·refine⟨⟨o,I.kIn p o hk,hc⟩,fun a e=>?_⟩
   cases e
   exact⟨o,I.kIn _ o hk,hd⟩
  ·have z:∃ o,s.heap.get? p=some o/\o.ExactDict:=by
    rcases hk with ⟨kvs,hk⟩|⟨kvs,hk⟩
    ·obtain⟨_,_,_,_,o,_,_,e,ex,_⟩:=I.hok p _ hk
     exact⟨o,e,ex⟩
    ·obtain⟨_,_,_,_,o,_,_,e,ex,_⟩:=I.hok p _ hk
     exact⟨o,e,ex⟩
   obtain⟨o,e,ex⟩:=z
   refine⟨⟨o,e,ex.1⟩,fun a e2=>?_⟩
   cases e2
   exact⟨o,e,ex.2.1⟩
  ·obtain⟨o,_,_,_,e,ex,_⟩:=I.hok p _ hk
   refine⟨⟨o,e,ex.1⟩,fun a e2=>?_⟩
   cases e2
   exact⟨o,e,ex.2.1⟩
 | _=>exact False.elim ty
noncomputable def tBM0 (K:PySem.W.Frag)(T:String)(r:V->List V->Hp->VK->Prop)(to:TE):TE:=fun σ H Q=>to σ H fun x H1=>tyV K T x H1/\r x [] H1 Q
noncomputable def tBM (K:PySem.W.Frag)(T:String)(r:V->List V->Hp->VK->Prop)(to:TE)(t:TA):TE:=fun σ H Q=>to σ H fun x H1=>tyV K T x H1/\t σ H1 fun xs H2=>r x xs H2 Q
variable {o e:Expr}{es:List Expr}{to:TE}{t:TA}{name:Str}{apos cpos:Pos}{T id:String}{r:V->List V->Hp->VK->Prop}
theorem pe_bm0 (pa:PlainAttrs T)(slot:Slot T name id)(hty:typeOf (.builtin id)=pure (.type "method_descriptor"))(hm:MtR X id r)(ho:PE X o to)
  (hbase:autoParam (attributeBase o name X.env (eval o X.env)=eval o X.env) Au.h5._auto_1) (hline:autoParam ((apos.endLine == cpos.line)=true) Au.h5._auto_1):PE X (.Call (.Attribute o name apos) [] [] cpos) (tBM0 X.K T r to):=by
 intro pins s σ H Q I h
 refine wpAny_Call_method0_late hbase hline (thn (ho pins s σ H _ I h) fun v s1 ⟨x,H1,I1,r1,ty,q1⟩=>?_)
 obtain⟨h1,h2⟩:=tyV_is I1 r1 ty
 exact⟨T,id,pa,slot,hty,h1,h2,Calls.callWith_builtin rfl (PySem.evalArgs_none (hm pins s1 σ H1 x [] v [] Q I1 r1 .nil q1))⟩
theorem pe_bm (pa:PlainAttrs T)(slot:Slot T name id)(hty:typeOf (.builtin id)=pure (.type "method_descriptor"))(hm:MtR X id r)(ho:PE X o to)(ha:PA X (e::es) t)
  (hbase:autoParam (attributeBase o name X.env (eval o X.env)=eval o X.env) Au.h5._auto_1)
  (hfew:autoParam (((backTo cpos (starEach (e::es) X.env)).all (fun x=>!x.1)&&(backToKw cpos (keywordEach [] X.env)).all (fun x=>x.1.isSome)
   && decide ((e::es).length+([]:List Keyword).length+(if ([]:List Keyword).isEmpty then 0 else 1)<30))=true) Au.h5._auto_1)
  (hline:autoParam ((apos.endLine == cpos.line)=true) Au.h5._auto_1) (hs:autoParam (starEach (e::es) X.env=(false,eval e X.env)::starEach es X.env) Au.h5._auto_1) (hplain:autoParam ((backTo cpos (starEach es X.env)).any (·.1)=false) Au.h5._auto_1) :
  PE X (.Call (.Attribute o name apos) (e::es) [] cpos) (tBM X.K T r to t):=by
 intro pins s σ H Q I h
 refine wpAny_Call_method_late hbase hfew hline rfl (thn (ho pins s σ H _ I h) fun v s1 ⟨x,H1,I1,r1,ty,q1⟩=>?_)
 obtain⟨h1,h2⟩:=tyV_is I1 r1 ty
 refine⟨T,id,pa,slot,hty,h1,h2,?_⟩
 have hA:=ha cpos pins s1 σ H1 _ I1 q1
 rw[hs] at hA ⊢
 refine Calls.callWith_builtin (by show (false || (backTo cpos (starEach es X.env)).any (·.1))=false; rw[hplain] <;>rfl) (Calls.evalArgs_plain ?_)
 exact thn hA fun us s2 ⟨vs,H2,I2,r2,q2⟩=>hm pins s2 σ H2 x vs v us Q I2 r1 r2 q2
end
noncomputable def MtM (X:Cx)(id:String)(r:V->List V->Hp->VK->Prop):Prop :=
 ∀ (pins:List (Addr × Obj)) (s:Shared) (σ:St) (H:Hp) (x:V) (xs:List V) (v:Value) (us:List Value) (Q:VK),Inv X pins σ H s->RelV x v->Vals xs us->r x xs H Q ->
  wpAny (model X.prog X.w) X.A (call (.builtin id) (v::us)) (EP X pins σ Q) X.xe s
theorem Vals.one {x:V}{us:List Value}(r:Vals [x] us):∃ u,us=[u]/\RelV x u:=by
 cases r with
 | cons r1 r2=>cases r2; exact⟨_,rfl,r1⟩
theorem Vals.zero:∀ {us:List Value},Vals [] us->us=[]
 | _,.nil=>rfl
theorem Vals.dropLast {xs:List V}{us:List Value}(h:Vals xs us):Vals xs.dropLast us.dropLast:=by
 induction h with
 | nil=>exact .nil
 | cons r t ih =>
  cases t with
  | nil=>exact .nil
  | cons q t'=>exact .cons r ih
theorem Vals.rep {xs:List V}{us:List Value}(h:Vals xs us):∀ k:Nat,Vals (List.replicate k xs).flatten (List.replicate k us).flatten
 | 0=>.nil
 | k+1=>by
  rw[List.replicate_succ,List.replicate_succ,List.flatten_cons,List.flatten_cons]
  exact Vals.append h (Vals.rep h k)
theorem erase_last {α:Type}(l:List α):l.eraseIdx (l.length-1)=l.dropLast:=by
 induction l with
 | nil=>rfl
 | cons a r ih =>
  cases r with
  | nil=>rfl
  | cons b r =>
   have e:(a::b::r).length-1=((b::r).length-1)+1:=by
    have h1:(a::b::r).length=r.length+2:=rfl
    have h2:(b::r).length=r.length+1:=rfl
    omega
   rw[e,List.eraseIdx_cons_succ,ih]
   all_goals rfl
theorem foldl_rep (its:List Value):∀ (k:Nat) (acc:List Value),
  List.foldl (fun x1 x2=>x1++x2) acc.toArray (List.replicate k its.toArray)=(acc++(List.replicate k its).flatten).toArray
 | 0,acc=>by simp
 | k+1,acc=>by
  have e:acc.toArray++its.toArray=(acc++its).toArray:=by simp
  have e2:(acc++its)++(List.replicate k its).flatten=acc++(List.replicate (k+1) its).flatten:=by
   rw[List.replicate_succ,List.flatten_cons,List.append_assoc]
  rw[<- e2,<- foldl_rep its k (acc++its),<- e,List.replicate_succ,List.foldl_cons]
section
variable {X:Cx}{pins:List (Addr × Obj)}{σ:St}{H:Hp}{s:Shared}{l b:Addr}{xs ys zs:List V}
theorem Inv.lset {its its':List Value}{n:Nat}{f:Array Value->Array Value}{t':Nat}(I:Inv X pins σ H s)(hH:H l=some (.lst xs))
  (e:s.heap.get? l=some { cls:=.type "list",data:=.seq its.toArray n }) (hf:f its.toArray=its'.toArray) (hv:Vals ys its') (hz:ys.length<=sizeLine) :
  Inv X pins σ (upd H l (.lst ys)) { s with heap:=s.heap.update l (Obj.mapSeq f),toks:=t' }:=by
 have q:=PySem.IsL.update e f
 rw[hf] at q
 refine I.write (x:=l) (e:=l) (by rw[hH]; exact trivial) (.inl rfl) (fun b' u hb hu=>(Heap.get?_update_other s.heap (Obj.mapSeq f) (Ne.symm hb)).trans hu) ⟨_,q⟩ ?_
 exact⟨hz,its',_,hv,q⟩
theorem Inv.lnew {its:List Value}{t':Nat}(I:Inv X pins σ H s)(hv:Vals ys its)(hz:ys.length<=sizeLine) :
  Inv X pins σ (upd H s.heap.objs.size (.lst ys)) { s with heap:=s.heap.push { cls:=.type "list",data:=.seq its.toArray },toks:=t' } :=
 I.laid (fun _ _ q=>Heap.get?_push_of_some _ q) (Nat.le_refl _) ⟨hz,its,0,hv,Heap.get?_push_size _ rfl⟩
theorem Inv.fresh (I:Inv X pins σ H s):H s.heap.objs.size=none:=I.hok.fresh (Nat.le_refl _)
theorem Inv.lstM (I:Inv X pins σ H s)(hH:H l=some (.lst xs)):xs.length<=sizeLine/\∃ (its:List Value) (n:Nat),Vals xs its/\xs.length=its.length/\s.heap.get? l=some { cls:=.type "list",data:=.seq its.toArray n }:=by
 obtain⟨z,its,n,r,e⟩:=I.hok l _ hH
 exact⟨z,its,n,r,r.length,e⟩
theorem notLongL {n:Nat}(h:n<=sizeLine):Builtin.List.listTooLong n=false:=by
 unfold Builtin.List.listTooLong
 exact decide_eq_false (by omega)
end
section
variable {X:Cx}
noncomputable def rAppend:V->List V->Hp->VK->Prop:=fun x vs H Q=>∃ l xs y,x=.ref l/\vs=[y]/\H l=some (.lst xs)/\xs.length<sizeLine/\Q .non (upd H l (.lst (xs++[y])))
theorem mt_append:MtM X "list.append" rAppend:=by
 intro pins s σ H x vs v us Q I rx rv h
 obtain⟨l,xs,y,rfl,rfl,hH,hz,q⟩:=h
 cases rx
 obtain⟨u,rfl,ru⟩:=rv.one
 obtain⟨z,its,n,r,hl,e⟩:=I.lstM hH
 refine call_meets F.slot_list_append ⟨_,e,rfl⟩ F.entry_list_append (F.args_list_append_2 _ _) (PySem.list_append l its.toArray n u (by rw[List.size_toArray]; omega)) ⟨e,?_⟩
 refine⟨.non,_,I.lset (its':=its++[u]) hH e (by simp) (r.append (.cons ru .nil)) ?_,rfl,q⟩
 rw[List.length_append,List.length_singleton]
 omega
noncomputable def rExtend:V->List V->Hp->VK->Prop:=fun x vs H Q=>∃ l b xs zs,x=.ref l/\vs=[.ref b]/\H l=some (.lst xs)/\H b=some (.lst zs)/\xs.length+zs.length<=sizeLine/\Q .non (upd H l (.lst (xs++zs)))
theorem mt_extend:MtM X "list.extend" rExtend:=by
 intro pins s σ H x vs v us Q I rx rv h
 obtain⟨l,b,xs,zs,rfl,rfl,hH,hB,hz,q⟩:=h
 cases rx
 obtain⟨u,rfl,ru⟩:=rv.one
 cases ru
 obtain⟨z,its,n,r,hl,e⟩:=I.lstM hH
 obtain⟨z2,its2,n2,r2,hl2,e2⟩:=I.lstM hB
 have hsz:its.toArray.size+its2.toArray.size<=sizeLine:=by rw[List.size_toArray,List.size_toArray]; omega
 have hlong:¬ (!its.toArray.isEmpty&&Builtin.List.listTooLong (its.toArray.size+its2.toArray.size))=true:=by
  rw[notLongL hsz,Bool.and_false]
  exact Bool.false_ne_true
 refine call_meets F.slot_list_extend ⟨_,e,rfl⟩ F.entry_list_extend (F.args_list_extend_2 _ _)
  (AutoSeq1.list_extend_list_list_0 l its.toArray n b its2.toArray n2 hlong (by rw[List.size_toArray]; omega) (by omega)) ⟨e,e2,?_⟩
 refine⟨.non,_,I.lset (its':=its++its2) hH e (by simp) (r.append r2) ?_,rfl,q⟩
 rw[List.length_append]
 omega
noncomputable def rPop:V->List V->Hp->VK->Prop:=fun x vs H Q=>∃ l xs y,x=.ref l/\vs=[]/\H l=some (.lst xs)/\xs[xs.length-1]?=some y/\Q y (upd H l (.lst xs.dropLast))
theorem mt_pop:MtM X "list.pop" rPop:=by
 intro pins s σ H x vs v us Q I rx rv h
 obtain⟨l,xs,y,rfl,rfl,hH,hy,q⟩:=h
 cases rx
 have hus:=rv.zero
 subst hus
 obtain⟨z,its,n,r,hl,e⟩:=I.lstM hH
 obtain⟨u,hu,ru⟩:=r.get hy
 have hy':its.toArray[its.toArray.size-1]?=some u:=by
  show its.toArray[its.length-1]?=some u
  rw[<- Array.getElem?_toList,<- hl]
  exact hu
 refine call_meets F.slot_list_pop ⟨_,e,rfl⟩ F.entry_list_pop (F.args_list_pop_1 _) (MeetsSeq.list_pop_last l its.toArray n u hy' (by rw[List.size_toArray]; omega)) ⟨e,?_⟩
 refine⟨y,_,I.lset (its':=its.dropLast) hH e ?_ r.dropLast ?_,ru,q⟩
 ·show its.toArray.eraseIdxIfInBounds (its.toArray.size-1)=its.dropLast.toArray
  rw[List.size_toArray,List.eraseIdxIfInBounds_toArray,erase_last]
 ·rw[List.length_dropLast]
  omega
theorem len_rep {α:Type}(xs:List α)(k:Nat):(List.replicate k xs).flatten.length=k*xs.length:=by
 induction k with
 | zero=>simp
 | succ k ih=>rw[List.replicate_succ,List.flatten_cons,List.length_append,ih,Nat.succ_mul,Nat.add_comm]
end
section
variable {prog:Program}{w:World}{A:Around}{E:Value->Shared->Prop}{s:Shared}
end
section
variable {X:Cx}
end
end L2
namespace Att
open PySem PySem.W PySem.Calls PyProof.Rows
theorem ints_of_wellAll {P:Params}{h:Heap}:∀ (ns:List Int) (vs:List Value),WellAll P h vs (ns.map WData.int)->IntsAre vs ns:=by
 intro ns
 induction ns with
 | nil =>
  intro vs w
  rw[List.map_nil] at w
  cases w
  exact .nil
 | cons n ns ih =>
  intro vs w
  rw[List.map_cons] at w
  cases w with
  | cons a b =>
   cases a
   exact .cons _ _ (ih _ b)
theorem script_of {l:OpenLaw}{n:Nat}(hn:l.most=some n){P:Params}{h:Heap}{args:List WData}{vals:List Value}
  (hpre:l.row.toRowW.claim.pre args=true) (hwl:WellAll P h vals args) :
  ∃ a vs ns,vals=[Value.ref a]/\args=[WData.list (ns.map WData.int)]/\h.get? a=some { cls:=.type "list",data:=.seq vs.toArray }/\IntsAre vs ns/\ns.length<=n:=by
 have hsh:WShape.hasAll [] args [.list .int]=true:=(pre_splitW hpre).1
 have hc:l.pre.holds [] { args:=args }=true:=(pre_splitW hpre).2
 obtain⟨d,r,rfl,h1,h2⟩:=hasAllW_cons hsh
 obtain rfl:=hasAllW_nil h2
 obtain⟨xs,rfl,h3⟩:=hasW_list h1
 obtain⟨ns,rfl⟩:=items_int h3
 have hlen:ns.length<=n:=by
  unfold OpenLaw.pre at hc
  have h4:(WTm.not (.lt (.lit (.int (n:Int))) (.len (.arg 0)))).holds [] { args:=[.list (ns.map .int)] }=true:=by
   have h4:=(holds_andW hc).1
   rw[hn] at h4
   exact h4
  have h5:=condW_of h4 (w_not (w_lt w_lit (w_len_list (w_arg rfl))))
  rw[List.length_map] at h5
  refine Nat.le_of_not_lt fun q=>?_
  have q':(n:Int)<((ns.length:Nat):Int):=by omega
  first
   | (rw[decide_eq_true q'] at h5; exact absurd h5 (by decide))
   | (simp at h5; omega)
 cases hwl with
 | cons w1 w2 =>
  cases w2
  cases w1 with
  | list ho hall=>exact⟨_,_,ns,rfl,rfl,ho,ints_of_wellAll ns _ hall,hlen⟩
theorem post_true (l:OpenLaw)(args:List WData):l.row.toRowW.claim.post args (.bool true) args=true :=
 postW_of (r:=l.row.toRowW) (X:=(true == true))
  (show WShape.has [] (.bool true) .bool=true by first|rfl|decide|simp[WShape.has,WShape.arms,WShape.armsAll])
  (show (WTm.eq .res (.lit (.bool true))).value [] { args:=args,res:=some (.bool true),after:=args }=some (.bool (true == true)) from w_eq_bool (w_res rfl) w_lit) rfl
section
variable {prog:Program}{w:World}{A:Around}{E:Value->Shared->Prop}{s:Shared}{K:Frag}
noncomputable def ledger (h:Heap)(L d:Addr):List (Addr × Obj):=(List.range h.objs.size).filterMap fun a=>if a=L\/a=d then none else (h.get? a).map fun o=>(a,o)
end
end Att
namespace L2
open PySem PySem.Spec PyProof.Rows
theorem vals_ints:∀ {vs:List Value} {ns:List Int},IntsAre vs ns->Vals (ns.map V.int) vs
 | _,_,.nil=>.nil
 | _,_,.cons n t h=>.cons ⟨t,rfl⟩ (vals_ints h)
noncomputable def Only (H:Hp):Prop:=∀ b,H b=none\/∃ o xs,H b=some (.frz o (.lst xs))
theorem law_call {P:Program}{w:World}{K:PySem.W.Frag}{mg mb:Str->Option Value}{CX:CXT}{k:Nat}{fa a:Addr}{fd:FuncData}{x:Str}{sp:Sp}{s₁:Shared}{vs:List Value}{ns:List Int}
  (KX:K.In s₁.heap) (hns:s₁.heap.Ns mainGlobals mg) (hb:s₁.heap.Ns builtinsNs mb) (hbb:∀ x:Str,x≠"__name__"->mb x=bootBuiltins x) (hlim:s₁.heap.NoLimit) (hg:s₁.gens=#[])
  (ha:s₁.heap.get? a=some { cls:=.type "list",data:=.seq vs.toArray }) (hi:IntsAre vs ns) (hl:ns.length<=sizeLine) (hr:Room k callerA)
  (F:∀ base:Heap,K.In base->base.Ns mainGlobals mg->FnOk P w K mg base CX k fa fd [x] sp) (hbind:∀ (s:Shared) (u:Value),BindsTo s fd ⟨[u],[]⟩ [(x,u)])
  (hsp:∀ H:Hp,Only H->SqL K H a (ns.map V.int)->sp [.ref a] H (fun v _=>v=.bl true) fun _ _ _=>False)
  (hCX:∀ H e s',CX [] H s₁ (fun _ _ _=>False) e s'->False) :
  codeAny (model P w) callerA (.call (.ref fa) ⟨[.ref a],[]⟩) (fun r s'=>r=.ok (.ret (.bool true))/\OldK s₁.heap s'.heap/\s'.os=s₁.os/\AllBare s'.gens) s₁:=by
 have rv:=vals_ints hi
 have lenV:=hi.length
 have core:∀ H:Hp,Only H->SqL K H a (ns.map V.int)->HOk P w H s₁.heap->(∀ b,H b≠none->b=a)->(H a≠none->K.lookup a=none) ->
   codeAny (model P w) callerA (.call (.ref fa) ⟨[.ref a],[]⟩) (fun r s'=>r=.ok (.ret (.bool true))/\OldK s₁.heap s'.heap/\s'.os=s₁.os/\AllBare s'.gens) s₁:=by
  intro H hO hS hok hA hK
  have base_of:∀ {b:Addr} {o:Obj},s₁.heap.get? b=some o->H b=none->(hidT s₁.heap H).get? b=some o:=fun e n=>hidT_get e n
  have noA:∀ {b:Addr} {o:Obj} {es:Array DictEntry} {ep:Nat},s₁.heap.get? b=some o->o.data=.dict es ep->H b=none:=fun {b o es ep} e d=>by
   cases q:H b with
   | none=>rfl
   | some u =>
    have e':b=a:=hA b (by rw[q]; simp)
    subst e'
    rw[ha] at e; cases e
    have d':Data.seq vs.toArray _=Data.dict es ep:=d
    cases d'
  have nsK:∀ {b:Addr} {m:Str->Option Value},s₁.heap.Ns b m->(hidT s₁.heap H).Ns b m:=fun {b m} ⟨o,es,ep,e,d,r⟩=>⟨o,es,ep,base_of e (noA e d),d,r⟩
  have hKb:K.In (hidT s₁.heap H):=fun b o e=>base_of (KX b o e) (by
   cases q:H b with
   | none=>rfl
   | some u =>
    have e':b=a:=hA b (by rw[q]; simp)
    subst e'
    rw[hK (by rw[q]; simp)] at e; cases e)
  have hM:Mod K mg (hidT s₁.heap H):=⟨hKb,nsK hns,⟨mb,nsK hb,hbb⟩,let ⟨mc,h1,h2⟩:=hlim; ⟨mc,nsK h1,h2⟩⟩
  have e0:Env0 P w K mg (hidT s₁.heap H) callerA [] s₁ H:=⟨rfl,hM,fun b o e=>of_hidT e,Nat.le_of_eq (hidT_size _ _),trivial,fun b hb=>absurd (show b∈([]:List Addr) from hb) (by simp),hok,.of_eq hg⟩
  refine codeAny_mono ((F _ hKb (nsK hns)).run callerA [] s₁ H ⟨[.ref a],[]⟩ [.ref a] [.ref a] _ _ hr e0 (hbind s₁ (.ref a)) (.cons rfl .nil) (hsp H hO hS)) fun r s' h=>?_
  cases r with
  | error e=>exact(hCX H e s' h).elim
  | ok fl =>
   cases fl with
   | next=>exact False.elim h
   | brk=>exact False.elim h
   | cont=>exact False.elim h
   | ret u =>
    obtain⟨v,H',os,bare,un,hok',r',q⟩:=h
    have q':v=.bl true:=q
    subst q'
    obtain rfl:u=Value.bool true:=r'
    refine⟨rfl,OldK.of_keep fun b o e=>?_,os,bare⟩
    cases q:H b with
    | none=>exact un.keep b o e q (by intro z; exact absurd (show b∈([]:List Addr) from z) (by simp)) (by simp)
    | some u =>
     rcases hO b with z|⟨ob,xs,z⟩
     ·rw[q] at z; cases z
     ·have z2:=un.frzs b ob _ z
      obtain⟨e1,_⟩:=hok b _ z
      obtain⟨e2,_⟩:=hok' b _ z2
      rw[e] at e1; cases e1
      exact e2
 cases hk:K.lookup a with
 | some o =>
  have e:=KX a o hk
  rw[ha] at e
  cases e
  refine core (fun _=>none) (fun _=>.inl rfl) (.inr ⟨_,vs.toArray,_,hk,rfl,rfl,rfl,by rw[List.size_toArray,lenV]; exact hl,by simpa using rv⟩) (fun b u z=>by have z':(none:Option HO)=some u:=z; cases z') (fun b z=>absurd rfl z) fun z=>absurd rfl z
 | none =>
  refine core (fun b=>if b=a then some (.frz { cls:=.type "list",data:=.seq vs.toArray } (.lst (ns.map V.int))) else none) (fun b=>?_) (.inl (.inr ⟨{ cls:=.type "list",data:=.seq vs.toArray },if_pos rfl⟩)) (fun b u z=>?_) (fun b z=>?_) fun _=>hk
  ·by_cases hb:b=a
   ·exact .inr ⟨_,_,if_pos hb⟩
   ·exact .inl (if_neg hb)
  ·by_cases hb:b=a
   ·have z':=(if_pos hb).symm.trans z
    cases z'
    subst hb
    exact⟨ha,by rw[List.length_map]; exact hl,vs,_,rv,ha⟩
   ·have z':=(if_neg hb).symm.trans z
    cases z'
  ·by_cases hb:b=a
   ·exact hb
   ·exact absurd (if_neg hb) z
noncomputable def inClass (s:Stmt)(j:Nat):Stmt:=match s with
 | .ClassDef _ _ _ body _ _ _ _ _ _ _=>body.getD j (.Pass ⟨0,0,0,0⟩)
 | _=>.Pass ⟨0,0,0,0⟩
noncomputable def defArgs (s:Stmt):Arguments:=match s with
 | .FunctionDef _ a _ _ _ _ _ _ _ _=>a
 | _=>{ posonlyargs:=[],args:=[],vararg:=none,kwonlyargs:=[],kw_defaults:=[],kwarg:=none,defaults:=[] }
noncomputable def defBody (s:Stmt):List Stmt:=match s with
 | .FunctionDef _ _ b _ _ _ _ _ _ _=>b
 | _=>[]
noncomputable def defScope (s:Stmt):Scope:=match s with
 | .FunctionDef _ _ _ _ _ _ sc _ _ _=>sc
 | _=>{ kind:=.function,names:=[],isGenerator:=false,isCoroutine:=false }
noncomputable abbrev CX0:CXT:=fun _ _ _ _ _ _=>False
noncomputable abbrev E0:XK:=fun _ _ _=>False
structure Fun (K:PySem.W.Frag)(x qual:Str)(st:Stmt)(f:Addr)(fd:FuncData):Prop where
 ex:∃ (oc:Value) (od:Option Addr) (kV doc pm:Value) (an:Option Addr) (cdv ct:Value) (osl:Array (Option Value)),
  fd=PySem.W.fnOf x qual (defArgs st) (defBody st) (defScope st) .none kV doc pm an cdv ct/\K.lookup f=some ⟨oc,od,.func fd,osl⟩/\PySem.W.codeIn K cdv qual=true
 kp:PySem.W.keepIn K (.ref f)=true
section
variable {P:Program}{w:World}{K:PySem.W.Frag}{mg:Str->Option Value}{base:Heap}
theorem Fun.ok {x qual:Str}{st:Stmt}{f:Addr}{fd:FuncData}{N ps:List Str}{k:Nat}{sp:Sp}(F:Fun K x qual st f fd)(S:FnScope N ps (defScope st))(len:∀ vs H Q E,sp vs H Q E->vs.length=ps.length)
  (hbody:∀ (cdv:Value) (A:Around) (outer:List Env) (s:Shared) (H:Hp) (vs:List V) (Q:VK) (E:XK),Room k (A.deeper (envOfC qual (defScope st) s.heap.objs.size f cdv))->sp vs H Q E ->
   ∃ t,PSs (cxOf CX0 P w K mg base N qual (defScope st) f cdv A outer s H E).nox (defBody st) t/\t { nx:=fun _ H'=>Q .non H',rt:=Q } (start N vs) H):FnOk P w K mg base CX0 (k+1) f fd ps sp:=by
 obtain⟨oc,od,kV,doc,pm,an,cdv,ct,osl,rfl,lk,hcd⟩:=F.ex
 refine fn_of lk hcd S len fun A outer s H vs Q E hr hsp=>?_
 obtain⟨t,h,q⟩:=hbody cdv A outer s H vs Q E hr hsp
 exact⟨t,h.nox,q⟩
end
section
variable {X:Cx}
theorem pv (i:Nat){x:Str}{pos:Pos}(hN:autoParam (X.N[i]?=some x) Au.h5._auto_1)(hv:autoParam (Vis X.env.scope x) Au.h6._auto_1)(hd:autoParam ((x == ("__debug__":Str))=false) Au.h2._auto_1)
  (hcd:autoParam ((x == ("__classdict__":Str))=false) Au.h2._auto_1):PE X (.Name x pos) (tVar i):=pe_var hN hv hd hcd
end
theorem iteF {A B:Prop}(h:B):if false=true then A else B:=by
 rw[if_neg Bool.false_ne_true]
 exact h
theorem iteT {A B:Prop}(h:A):if true=true then A else B:=by
 rw[if_pos rfl]
 exact h
noncomputable def Same (H H':Hp):Prop:=∀ b o,H b=some o->H' b=some o
theorem Same.refl (H:Hp):Same H H:=fun _ _ h=>h
theorem Same.trans {H H1 H2:Hp}(a:Same H H1)(b:Same H1 H2):Same H H2:=fun c o h=>b c o (a c o h)
theorem Same.free {H H':Hp}(e:Same H H'){l:Addr}(h:H' l=Option.none):H l=Option.none:=by
 cases q:H l with
 | none=>rfl
 | some o =>
  rw[e l o q] at h
  cases h
section
variable {κ:Type}[DecidableEq κ]
noncomputable def valV (kvs:List (κ × V))(k:κ):Option V:=(kvs.find? fun kv=>decide (kv.1=k)).map (·.2)
noncomputable def putK (kvs:List (κ × V))(k:κ)(v:V):List (κ × V) :=
 if (kvs.any fun kv=>decide (kv.1=k))=true then kvs.map (fun kv=>if kv.1=k then (kv.1,v) else kv) else kvs++[(k,v)]
theorem valV_pos {p:κ × V}{r:List (κ × V)}{k:κ}(e:p.1=k):valV (p::r) k=some p.2:=by simp[valV,List.find?_cons,e]
theorem valV_neg {p:κ × V}{r:List (κ × V)}{k:κ}(e:¬ p.1=k):valV (p::r) k=valV r k:=by simp[valV,List.find?_cons,e]
theorem valV_any (k:κ):∀ kvs:List (κ × V),(kvs.any fun kv=>decide (kv.1=k))=(valV kvs k).isSome
 | []=>rfl
 | p::r=>by
  rw[List.any_cons]
  by_cases e:p.1=k
  ·simp only[valV_pos e,decide_eq_true e,Bool.true_or,Option.isSome_some]
  ·rw[valV_neg e,decide_eq_false e,Bool.false_or]; exact valV_any k r
theorem length_putK (kvs:List (κ × V))(k:κ)(v:V):(putK kvs k v).length<=kvs.length+1:=by
 unfold putK
 split
 ·rw[List.length_map]; omega
 ·rw[List.length_append,List.length_cons,List.length_nil]; omega
theorem RelO.isSome_eq {o:Option V}{u:Option Value}(r:RelO o u):o.isSome=u.isSome:=by
 cases o with
 | none=>cases u with
  | none=>rfl
  | some _=>exact(show False from r).elim
 | some _=>cases u with
  | none=>exact(show False from r).elim
  | some _=>rfl
theorem RelO.getD {o:Option V}{u:Option Value}{d:V}{d':Value}(r:RelO o u)(rd:RelV d d'):RelV (o.getD d) (u.getD d'):=by
 cases o with
 | none=>cases u with
  | none=>exact rd
  | some _=>exact(show False from r).elim
 | some _=>cases u with
  | none=>exact(show False from r).elim
  | some _=>exact r
theorem KV.val {kvs:List (κ × V)}{vs:List (κ × Value)}(r:KV kvs vs)(k:κ):RelO (valV kvs k) (valueAt vs k):=by
 unfold KV at r
 induction r with
 | nil=>exact True.intro
 | @cons p q ps qs h t ih =>
  obtain⟨h1,h2⟩:=h
  by_cases e:p.1=k
  ·have e':q.1=k:=h1.symm.trans e
   have b:valueAt (q::qs) k=some q.2:=by simp[valueAt,List.find?_cons,e']
   rw[valV_pos e,b]; exact h2
  ·have e':¬ q.1=k:=fun z=>e (h1.trans z)
   have b:valueAt (q::qs) k=valueAt qs k:=by simp[valueAt,List.find?_cons,e']
   rw[valV_neg e,b]; exact ih
theorem KV.any {kvs:List (κ × V)}{vs:List (κ × Value)}(r:KV kvs vs)(k:κ):(kvs.any fun kv=>decide (kv.1=k))=vs.any fun kv=>decide (kv.1=k):=by
 unfold KV at r
 induction r with
 | nil=>rfl
 | cons h t ih=>rw[List.any_cons,List.any_cons,ih,h.1]
theorem KV.repl {kvs:List (κ × V)}{vs:List (κ × Value)}(r:KV kvs vs)(k:κ){y:V}{u:Value}(ry:RelV y u) :
  KV (kvs.map fun kv=>if kv.1=k then (kv.1,y) else kv) (vs.map fun kv=>if kv.1=k then (kv.1,u) else kv):=by
 unfold KV at r ⊢
 induction r with
 | nil=>exact .nil
 | @cons p q ps qs h t ih =>
  rw[List.map_cons,List.map_cons]
  refine .cons ?_ ih
  obtain⟨h1,h2⟩:=h
  by_cases e:p.1=k
  ·rw[if_pos e,if_pos (h1.symm.trans e)]; exact⟨h1,ry⟩
  ·rw[if_neg e,if_neg (fun z=>e (h1.trans z))]; exact⟨h1,h2⟩
theorem KV.put {kvs:List (κ × V)}{vs:List (κ × Value)}(r:KV kvs vs)(k:κ){y:V}{u:Value}(ry:RelV y u):KV (putK kvs k y) (stored vs k u):=by
 unfold putK stored
 rw[r.any k]
 by_cases e:(vs.any fun kv=>decide (kv.1=k))=true
 ·rw[if_pos e,if_pos e]; exact r.repl k ry
 ·rw[if_neg e,if_neg e]; exact Paired.snoc r ⟨rfl,ry⟩
theorem KV.length {kvs:List (κ × V)}{vs:List (κ × Value)}(r:KV kvs vs):kvs.length=vs.length:=Paired.length r
end
theorem kV_is {P:Program}{w:World}{k:Key}{u:Value}(r:RelV (kV k) u):(mixKind P w).is k u=true:=by
 cases k with
 | inl i=>obtain⟨t,e⟩:=(show ∃ t,u=Value.int i t from r); subst e; exact mixKind_int P w i t
 | inr x=>obtain⟨t,e⟩:=(show ∃ t,u=Value.str x t from r); subst e; exact mixKind_str P w x t
theorem items_are {P:Program}{w:World}:∀ {ks:List Key} {us:List Value},Vals (ks.map kV) us->ItemsAre (mixKind P w) ks us
 | [],_,r=>by rw[List.map_nil] at r; cases r; exact .nil
 | k::ks,_,r=>by
  rw[List.map_cons] at r
  cases r with
  | cons h t=>exact .cons (kV_is h) (items_are t)
noncomputable abbrev KT (H:Hp):List (List Key × V)->List (List Key × Addr × Value)->Prop:=Paired fun p q=>p.1=q.1/\H q.2.1=some (.tup (p.1.map kV))/\RelV p.2 q.2.2
theorem KT.val {H:Hp}{kvs:List (List Key × V)}{xs:List (List Key × Addr × Value)}(r:KT H kvs xs)(k:List Key):RelO (valV kvs k) ((atKey xs k).map (·.2)):=by
 induction r with
 | nil=>exact True.intro
 | @cons p q ps qs h t ih =>
  obtain⟨h1,_,h2⟩:=h
  by_cases e:p.1=k
  ·have e':q.1=k:=h1.symm.trans e
   have b:atKey (q::qs) k=some q.2:=by simp[atKey,List.find?_cons,e']
   rw[valV_pos e,b]; exact h2
  ·have e':¬ q.1=k:=fun z=>e (h1.trans z)
   have b:atKey (q::qs) k=atKey qs k:=by simp[atKey,List.find?_cons,e']
   rw[valV_neg e,b]; exact ih
theorem KT.repl {H:Hp}{kvs:List (List Key × V)}{xs:List (List Key × Addr × Value)}(r:KT H kvs xs)(k:List Key){y:V}{u:Value}(ry:RelV y u) :
  KT H (kvs.map fun kv=>if kv.1=k then (kv.1,y) else kv) (xs.map (putAt k u)):=by
 induction r with
 | nil=>exact .nil
 | @cons p q ps qs h t ih =>
  rw[List.map_cons,List.map_cons]
  refine .cons ?_ ih
  obtain⟨h1,h2,h3⟩:=h
  unfold putAt
  by_cases e:p.1=k
  ·rw[if_pos e,if_pos (h1.symm.trans e)]; exact⟨h1,h2,ry⟩
  ·rw[if_neg e,if_neg (fun z=>e (h1.trans z))]; exact⟨h1,h2,h3⟩
theorem KT.put {H:Hp}{kvs:List (List Key × V)}{xs:List (List Key × Addr × Value)}(r:KT H kvs xs)(k:List Key){b:Addr}{y:V}{u:Value}(hb:H b=some (.tup (k.map kV)))(ry:RelV y u) :
  KT H (putK kvs k y) (storedH xs k b u):=by
 have e:(kvs.any fun kv=>decide (kv.1=k))=(atKey xs k).isSome:=by
  rw[valV_any,(r.val k).isSome_eq,Option.isSome_map]
 unfold putK storedH
 rw[e]
 by_cases q:(atKey xs k).isSome=true
 ·rw[if_pos q,if_pos q]; exact r.repl k ry
 ·rw[if_neg q,if_neg q]; exact Paired.snoc r ⟨rfl,hb,ry⟩
theorem KT.keeps {H H':Hp}{kvs:List (List Key × V)}{xs:List (List Key × Addr × Value)}(r:KT H kvs xs)(ht:∀ b ys,H b=some (.tup ys)->H' b=some (.tup ys)):KT H' kvs xs :=
 Paired.mapP r fun _ _ z=>⟨z.1,ht _ _ z.2.1,z.2.2⟩
section
variable {P:Program}{w:World}{H:Hp}{h:Heap}{a:Addr}
theorem rd_of {u:HO}(ok:HOk P w H h)(e:Rd H a u):ObjOk P w H h a u:=e.ok ok
theorem dk_rd {kvs:List (Key × V)}(ok:HOk P w H h)(e:Rd H a (.dK kvs)):kvs.length<=sizeLine/\(a == sysModules)=false/\∃ vs,KV kvs vs/\h.DictOf (mixKind P w) a vs :=
 show ObjOk P w H h a (.dK kvs) from rd_of ok e
theorem dk_of {kvs:List (Key × V)}(ok:HOk P w H h)(e:H a=some (.dK kvs)):kvs.length<=sizeLine/\(a == sysModules)=false/\∃ vs,KV kvs vs/\h.DictOf (mixKind P w) a vs:=dk_rd ok (.inl e)
theorem key_of {ks:List Key}(ok:HOk P w H h)(e:H a=some (.tup (ks.map kV))):(tupleKind (mixKind P w)).is h ks a:=by
 obtain⟨_,its,r,o,h1,h2,n,h3⟩:=(show ObjOk P w H h a (.tup (ks.map kV)) from ok a _ e)
 exact⟨o,its.toArray,n,h1,h2,h3,by simpa using items_are r⟩
theorem dt_rd {kvs:List (List Key × V)}(ok:HOk P w H h)(e:Rd H a (.dT kvs)):kvs.length<=sizeLine/\(a == sysModules)=false /\
  ∃ xs,KT H kvs xs/\h.DictOfH (tupleKind (mixKind P w)) a xs:=by
 obtain⟨z,y,xs,r,o,es,ep,h1,h2,h3,h4,h5⟩:=(show ObjOk P w H h a (.dT kvs) from rd_of ok e)
 refine⟨z,y,xs,r,o,es,ep,h1,h2,h3,h4,fun x hx=>?_,h5⟩
 have all:∀ {l:List (List Key × V)} {m:List (List Key × Addr × Value)},KT H l m->∀ x∈m,(tupleKind (mixKind P w)).is h x.1 x.2.1:=by
  intro l m q
  induction q with
  | nil=>intro x hx; exact nomatch hx
  | @cons p q ps qs hq t ih =>
   intro x hx
   rcases List.mem_cons.mp hx with e|hx
   ·subst e
    exact key_of ok (by rw[<- hq.1]; exact hq.2.1)
   ·exact ih x hx
 exact all r x hx
theorem dt_of {kvs:List (List Key × V)}(ok:HOk P w H h)(e:H a=some (.dT kvs)):kvs.length<=sizeLine/\(a == sysModules)=false /\
  ∃ xs,KT H kvs xs/\h.DictOfH (tupleKind (mixKind P w)) a xs:=dt_rd ok (.inl e)
end
noncomputable def DGet (H:Hp)(a:Addr)(y:V)(r:Option V):Prop :=
 (∃ kvs k,Rd H a (.dK kvs)/\y=kV k/\r=valV kvs k)\/∃ kvs k b,Rd H a (.dT kvs)/\y=.ref b/\H b=some (.tup (k.map kV))/\r=valV kvs k
noncomputable def DPut (H:Hp)(a:Addr)(y v:V)(H':Hp):Prop :=
 (∃ kvs k,H a=some (.dK kvs)/\y=kV k/\kvs.length<sizeLine/\H'=upd H a (.dK (putK kvs k v))) \/
 ∃ kvs k b,H a=some (.dT kvs)/\y=.ref b/\H b=some (.tup (k.map kV))/\kvs.length<sizeLine/\H'=upd H a (.dT (putK kvs k v))
section
variable {X:Cx}{pins:List (Addr × Obj)}{σ:St}{H:Hp}{s:Shared}{a:Addr}{y v:V}{u r:Value}{o:Option V}{A:Around}{E:Value->Shared->Prop}
theorem Inv.big (I:Inv X pins σ H s):sysModules<s.heap.objs.size:=by
 have h:mainGlobals<s.heap.objs.size:=(I.mod.glob.keeps I.bk).lt
 exact Nat.lt_trans (by decide) h
theorem d_in {Q:Value->Shared->Prop}(hu:A.units+1<cLine)(I:Inv X pins σ H s)(g:DGet H a y o)(ry:RelV y u)(h:∀ s',Inv X pins σ H s'->Q (.bool o.isSome) s') :
  wpAny (model X.prog X.w) A (compareOp .In u (.ref a)) Q E s:=by
 rcases g with ⟨kvs,k,e,ey,l⟩|⟨kvs,k,b,e,ey,eb,l⟩
 ·subst ey
  obtain⟨z,hd,vs,rel,dd⟩:=dk_rd I.hok e
  refine wpAny_in_of (kV_is ry) hd dd.mapOf ?_
  rw[<- (rel.val k).isSome_eq,<- l]
  exact h _ (I.tok _)
 ·subst ey
  cases (show u=Value.ref b from ry)
  obtain⟨z,hd,xs,rel,dd⟩:=dt_rd I.hok e
  refine wpAny_in_heap (tupleKind_room_in1 hu) (key_of I.hok eb) hd dd ?_
  have q:=(rel.val k).isSome_eq
  rw[Option.isSome_map] at q
  rw[<- q,<- l]
  exact h _ (I.tok _)
theorem d_notIn {Q:Value->Shared->Prop}(hu:A.units+1<cLine)(I:Inv X pins σ H s)(g:DGet H a y o)(ry:RelV y u)(h:∀ s',Inv X pins σ H s'->Q (.bool (!o.isSome)) s') :
  wpAny (model X.prog X.w) A (compareOp .NotIn u (.ref a)) Q E s:=by
 rcases g with ⟨kvs,k,e,ey,l⟩|⟨kvs,k,b,e,ey,eb,l⟩
 ·subst ey
  obtain⟨z,hd,vs,rel,dd⟩:=dk_rd I.hok e
  refine wpAny_notIn_of (kV_is ry) hd dd.mapOf ?_
  rw[<- (rel.val k).isSome_eq,<- l]
  exact h _ (I.tok _)
 ·subst ey
  cases (show u=Value.ref b from ry)
  obtain⟨z,hd,xs,rel,dd⟩:=dt_rd I.hok e
  refine wpAny_notIn_heap (tupleKind_room_in1 hu) (key_of I.hok eb) hd dd ?_
  have q:=(rel.val k).isSome_eq
  rw[Option.isSome_map] at q
  rw[<- q,<- l]
  exact h _ (I.tok _)
theorem d_write {h':Heap}{t':Nat}{ob:HO}(I:Inv X pins σ H s)(mu:Mut (H a))(hs:Heap.SameBut a s.heap h')(he:∃ q,h'.get? a=some q)(new:ObjOk X.prog X.w (upd H a ob) h' a ob) :
  Inv X pins σ (upd H a ob) { s with heap:=h',toks:=t' } :=
 I.write (x:=a) (e:=a) mu (.inl rfl) (fun b q hb z=>(hs.2 b hb).trans z) he new
theorem dk_new {P:Program}{w:World}{H':Hp}{h':Heap}{kvs:List (Key × V)}{vs:List (Key × Value)}(z:kvs.length<=sizeLine)(hd:(a == sysModules)=false)(rel:KV kvs vs)(dd:h'.DictOf (mixKind P w) a vs) :
  ObjOk P w H' h' a (.dK kvs):=⟨z,hd,vs,rel,dd⟩
theorem d_setItem {H':Hp}{Q:Unit->Shared->Prop}(hu:A.units+1<cLine)(I:Inv X pins σ H s)(g:DPut H a y v H')(ry:RelV y u)(rv:RelV v r)(h:∀ s',Inv X pins σ H' s'->Q () s') :
  wpAny (model X.prog X.w) A (setItem (.ref a) u r) Q E s:=by
 rcases g with ⟨kvs,k,e,ey,l,eH⟩|⟨kvs,k,b,e,ey,eb,l,eH⟩
 ·subst ey eH
  obtain⟨z,hd,vs,rel,dd⟩:=dk_of I.hok e
  have hz:vs.length<=sizeLine:=by rw[<- rel.length]; exact z
  have hl:(putK kvs k v).length<=sizeLine:=by have:=length_putK kvs k v; omega
  refine wpAny_setItem_pairs (hsz:=hz) (kV_is ry) dd fun h' dd' hs=>h _ ?_
  have he:∃ q,h'.get? a=some q:=let ⟨q,_,_,hq,_⟩:=dd'; ⟨q,hq⟩
  exact d_write I (by rw[e]; exact True.intro) hs he (dk_new hl hd (rel.put k rv) dd')
 ·subst ey eH
  cases (show u=Value.ref b from ry)
  obtain⟨z,hd,xs,rel,dd⟩:=dt_of I.hok e
  have hz:xs.length<=sizeLine:=by rw[<- Paired.length rel]; exact z
  have hl:(putK kvs k v).length<=sizeLine:=by have:=length_putK kvs k v; omega
  refine wpAny_setItem_heap (hsz:=hz) (tupleKind_room_in1 hu) (key_of I.hok eb) dd fun h' dd' hs=>h _ ?_
  obtain⟨q,es,ep,hq,h2,h3,h4,_,h5⟩:=dd'
  refine d_write I (by rw[e]; exact True.intro) hs ⟨q,hq⟩ ⟨hl,hd,_,(rel.put k eb rv).keeps fun c ys ec=>?_,q,es,ep,hq,h2,h3,h4,h5⟩
  rw[upd_ne (ne_of ec e (fun z=>nomatch z))]
  exact ec
end
section
variable {X:Cx}{pins:List (Addr × Obj)}{σ:St}{H:Hp}{s:Shared}{a:Addr}{kvs:List (Key × V)}{k:Key}{u:Value}{A:Around}{E:Value->Shared->Prop}
theorem d_len {Q:Value->Shared->Prop}(I:Inv X pins σ H s)(e:Rd H a (.dK kvs))(h:∀ t s',Inv X pins σ H s'->Q (.int kvs.length t) s'):wpAny (model X.prog X.w) A (call (.builtin "len") [.ref a]) Q E s:=by
 obtain⟨z,hd,vs,rel,dd⟩:=dk_rd I.hok e
 refine call_len_dict hd dd (by rw[<- rel.length]; rw[sizeLine_eq] at z; omega) ?_
 rw[<- rel.length]
 exact h _ _ (I.tok _)
end
noncomputable def sDPut (td ty tv:TE):TS:=fun D σ H=>tv σ H fun v H1=>td σ H1 fun x H2=>ty σ H2 fun y H3=>∃ a H4,x=.ref a/\DPut H3 a y v H4/\D.nx σ H4
section
variable {X:Cx}{o i e value:Expr}{pos pos' tpos:Pos}{td ty tv:TE}
theorem ps_dput (hu:X.A.units+1<cLine)(ho:PE X o td)(hi:PE X i ty)(hv:PE X value tv)(hs:swapsWith value (some (.Subscript o i pos')) pos.line X.env=pure false) :
  PS X (.Assign [.Subscript o i pos'] value pos) (sDPut td ty tv):=by
 intro pins s σ H D I h
 refine wpAny_Assign_Subscript (thn (hv pins s σ H _ I h) fun r s1 ⟨v,H1,I1,rv,q1⟩=>thn (ho pins s1 σ H1 _ I1 q1) fun u s2 ⟨x,H2,I2,rx,q2⟩=>thn (hi pins s2 σ H2 _ I2 q2) fun iv s3 ⟨y,H3,I3,ry,a,H4,ex,g,q3⟩=>?_) hs
 subst ex
 obtain rfl:u=Value.ref a:=rx
 exact d_setItem hu I3 g ry rv fun s4 I4=>⟨σ,H4,I4,q3⟩
end
theorem dk_empty {P:Program}{w:World}{H:Hp}(h:Heap)(hb:sysModules<h.objs.size):ObjOk P w H (h.push { cls:=.type "dict",data:=.dict #[] }) h.objs.size (.dK []) :=
 ⟨Nat.zero_le _,beq_eq_false_iff_ne.mpr (Ne.symm (Nat.ne_of_lt hb)),[],.nil,Heap.DictOf.new h⟩
noncomputable def tDNewK:TE:=fun _ H Q=>∀ p,H p=none->Q (.ref p) (upd H p (.dK []))
section
variable {X:Cx}{pos:Pos}
theorem pe_dnewK:PE X (.Dict [] [] pos) tDNewK:=fun pins s σ H Q I h =>
 wpAny_Dict_empty ⟨.ref s.heap.objs.size,_,I.laid (a:=s.heap.objs.size) (o:=.dK []) (t':=s.toks) (fun _ _ q=>Heap.get?_push_of_some _ q) (Nat.le_refl _) (dk_empty s.heap I.big),rfl,h _ (I.hok.fresh (Nat.le_refl _))⟩
end
structure M1 (X:Cx)(o:Expr)(m:Str)(apos:Pos)(e:Expr)(cpos:Pos):Prop where
 base:attributeBase o m X.env (eval o X.env)=eval o X.env
 few:((backTo cpos (starEach [e] X.env)).all (fun x=>!x.1)&&(backToKw cpos (keywordEach [] X.env)).all (fun x=>x.1.isSome)
  && decide (([e]:List Expr).length+([]:List Keyword).length+(if ([]:List Keyword).isEmpty then 0 else 1)<30))=true
 line:(apos.endLine == cpos.line)=true
 trees:backTo cpos (starEach [e] X.env)=[(false,eval e X.env)]
structure M2 (X:Cx)(o:Expr)(m:Str)(apos:Pos)(e f:Expr)(cpos:Pos):Prop where
 base:attributeBase o m X.env (eval o X.env)=eval o X.env
 few:((backTo cpos (starEach [e,f] X.env)).all (fun x=>!x.1)&&(backToKw cpos (keywordEach [] X.env)).all (fun x=>x.1.isSome)
  && decide (([e,f]:List Expr).length+([]:List Keyword).length+(if ([]:List Keyword).isEmpty then 0 else 1)<30))=true
 line:(apos.endLine == cpos.line)=true
 trees:backTo cpos (starEach [e,f] X.env)=[(false,eval e X.env),(false,eval f X.env)]
noncomputable def IsD (H:Hp)(a:Addr):Prop:=(∃ kvs,Rd H a (.dK kvs))\/∃ kvs,Rd H a (.dT kvs)
theorem isD_at {X:Cx}{pins:List (Addr × Obj)}{σ:St}{H:Hp}{s:Shared}{a:Addr}(I:Inv X pins σ H s)(d:IsD H a) :
  s.TypeIs (.ref a) "dict"/\(∀ b,Value.ref a=.ref b->∃ ob,s.heap.get? b=some ob/\ob.dict=none)/\(a == sysModules)=false:=by
 rcases d with ⟨kvs,e⟩|⟨kvs,e⟩
 ·obtain⟨_,hd,vs,_,dd⟩:=dk_rd I.hok e
  refine⟨dd.typeIs,fun b q=>?_,hd⟩
  cases q
  obtain⟨ob,_,_,h1,h2,_⟩:=dd
  exact⟨ob,h1,h2.2.1⟩
 ·obtain⟨_,hd,xs,_,dd⟩:=dt_rd I.hok e
  refine⟨dd.typeIs,fun b q=>?_,hd⟩
  cases q
  obtain⟨ob,_,_,h1,h2,_⟩:=dd
  exact⟨ob,h1,h2.2.1⟩
section
variable {X:Cx}{pins:List (Addr × Obj)}{σ:St}{H:Hp}{s:Shared}{a:Addr}{y d:V}{u r:Value}{o:Option V}{A:Around}{E:Value->Shared->Prop}
end
section
variable {X:Cx}{o e f:Expr}{apos cpos:Pos}{td ty tx:TE}
end
section
variable {X:Cx}{pins:List (Addr × Obj)}{σ:St}{H:Hp}{s:Shared}{a:Addr}{kvs:List (Key × V)}{A:Around}{E:Value->Shared->Prop}
end
section
variable {X:Cx}{pins:List (Addr × Obj)}{σ:St}{H:Hp}{s:Shared}{a:Addr}{y:V}{u:Value}{A:Around}{E:Value->Shared->Prop}
end
end L2
namespace Dv
inductive D where
 | non
 | bl (b:Bool)
 | int (i:Int)
  | str (x:List Nat)
 | lst (ds:List D)
 | tup (ds:List D)
  | exn (c:String)
  | raw (a:Nat)
  | tab (rows:List (List Int))
  | dct (ks:List Int) (ds:List D)
  | ins (ns:List String) (ds:List D)
noncomputable def scal:D->Bool
 | .lst _=>false
 | .tup _=>false
 | .exn _=>false
 | .raw _=>false
 | .tab _=>false
 | .dct _ _=>false
 | .ins _ _=>false
 | _=>true
noncomputable def noTy:D->Bool
 | .exn _=>true
 | .raw _=>true
 | .tab _=>true
 | .ins _ _=>true
 | _=>false
noncomputable def flatL:List D->Bool
 | []=>true
 | d::r=>scal d&&flatL r
noncomputable def clipS (x:List Nat):List Nat:=x.map (·%1114112)
mutual
noncomputable def eqD:D->D->Option Bool
 | .non,.non=>some true
 | .bl a,.bl b=>some (a == b)
 | .int a,.int b=>some (decide (a=b))
 | .str a,.str b=>some (decide (clipS a=clipS b))
 | .lst a,.lst b=>eqDL a b
 | .tup a,.tup b=>eqDL a b
 | _,_=>none
noncomputable def eqDL:List D->List D->Option Bool
 | [],[]=>some true
 | [],_::_=>some false
 | _::_,[]=>some false
 | a::x,b::y =>
  match eqD a b,eqDL x y with
  | some p,some q=>some (p&&q)
  | _,_=>none
end
mutual
noncomputable def depthD:D->Nat
 | .lst ds=>depthL ds+1
 | .tup ds=>depthL ds+1
 | .exn _=>100
 | .raw _=>100
 | .tab _=>100
 | .dct _ _=>100
 | .ins _ _=>100
 | _=>0
noncomputable def depthL:List D->Nat
 | []=>0
 | d::r=>max (depthD d) (depthL r)
end
noncomputable def intsOf:List D->Option (List Int)
 | []=>some []
 | .int i::r=>(intsOf r).map (i::·)
 | _::_=>none
noncomputable def bits (a:Int):Nat:=if a=0 then 0 else a.natAbs.log2+1
noncomputable def mulOk (i j:Int):Bool:=decide (bits i<=64) || decide (bits j<=64) || (decide (bits i<=1048576)&&decide (bits j<=1048576))
noncomputable def divOk (j:Int):Bool:=decide (0<j)&&decide (j.natAbs.log2<9000)
noncomputable def ins (i:Int):List Int->List Int
 | []=>[i]
 | j::r=>if i<=j then i::j::r else j::ins i r
noncomputable def isort:List Int->List Int
 | []=>[]
 | i::r=>ins i (isort r)
inductive R where
 | ok (d:D) (fr:Bool)
 | exc (c:String)
 | bad
inductive RL where
 | ok (ds:List D) (fr:Bool)
 | exc (c:String)
 | bad
noncomputable abbrev R.bind (r:R)(k:D->Bool->R):R:=match r with
 | .ok d fr=>k d fr
 | .exc c=>.exc c
 | .bad=>.bad
noncomputable abbrev RL.bind (r:RL)(k:List D->Bool->R):R:=match r with
 | .ok d fr=>k d fr
 | .exc c=>.exc c
 | .bad=>.bad
noncomputable abbrev R.bindL (r:R)(k:D->Bool->RL):RL:=match r with
 | .ok d fr=>k d fr
 | .exc c=>.exc c
 | .bad=>.bad
noncomputable abbrev RL.bindL (r:RL)(k:List D->Bool->RL):RL:=match r with
 | .ok d fr=>k d fr
 | .exc c=>.exc c
 | .bad=>.bad
noncomputable abbrev Env:=List (Option D)
noncomputable abbrev EE:=Env->R
noncomputable abbrev EL:=Env->RL
inductive Op where
 | add|sub|mul|mod|fdiv|pow|shr|band
inductive Cm where
 | lt|le|gt|ge|eq|ne|isin|notin|isT|isNotT
noncomputable def mx:Nat:=100000
noncomputable def opD:Op->D->D->R
 | .add,.int i,.int j=>.ok (.int (i+j)) true
 | .add,.lst a,.lst b=>if a.length+b.length<=mx then .ok (.lst (a++b)) (flatL a&&flatL b) else .bad
 | .sub,.int i,.int j=>.ok (.int (i-j)) true
 | .mul,.int i,.int j=>if mulOk i j then .ok (.int (i*j)) true else .bad
 | .mul,.lst a,.int j=>if decide (-100000<=j)&&decide (j<=mx)&&decide (a.length*j.toNat<=mx) then .ok (.lst (List.replicate j.toNat a).flatten) (flatL a) else .bad
 | .mod,.int i,.int j=>if decide (0<j) then .ok (.int (i%j)) true else .bad
 | .fdiv,.int i,.int j=>if divOk j then .ok (.int (i/j)) true else .bad
 | .pow,.int i,.int j=>if decide (0<=j)&&decide (j<=1000)&&decide (i.natAbs<1000000) then .ok (.int (i ^ j.toNat)) true else .bad
 | .band,.int i,.int j=>if decide (j=1) then .ok (.int (i%2)) true else .bad
 | .shr,.int i,.int j=>if decide (0<=j) then .ok (.int (i/2 ^ j.toNat)) true else .bad
 | _,_,_=>.bad
theorem opD_ai (i j:Int):opD .add (.int i) (.int j)=.ok (.int (i+j)) true:=rfl
theorem opD_al (a b:List D):opD .add (.lst a) (.lst b)=if a.length+b.length<=mx then .ok (.lst (a++b)) (flatL a&&flatL b) else .bad:=rfl
theorem opD_su (i j:Int):opD .sub (.int i) (.int j)=.ok (.int (i-j)) true:=rfl
theorem opD_mi (i j:Int):opD .mul (.int i) (.int j)=if mulOk i j then .ok (.int (i*j)) true else .bad:=rfl
theorem opD_ml (a:List D)(j:Int):opD .mul (.lst a) (.int j)=if decide (-100000<=j)&&decide (j<=mx)&&decide (a.length*j.toNat<=mx) then .ok (.lst (List.replicate j.toNat a).flatten) (flatL a) else .bad:=rfl
theorem opD_mo (i j:Int):opD .mod (.int i) (.int j)=if decide (0<j) then .ok (.int (i%j)) true else .bad:=rfl
theorem opD_fd (i j:Int):opD .fdiv (.int i) (.int j)=if divOk j then .ok (.int (i/j)) true else .bad:=rfl
theorem opD_po (i j:Int):opD .pow (.int i) (.int j)=if decide (0<=j)&&decide (j<=1000)&&decide (i.natAbs<1000000) then .ok (.int (i ^ j.toNat)) true else .bad:=rfl
theorem opD_ba (i j:Int):opD .band (.int i) (.int j)=if decide (j=1) then .ok (.int (i%2)) true else .bad:=rfl
theorem opD_sh (i j:Int):opD .shr (.int i) (.int j)=if decide (0<=j) then .ok (.int (i/2 ^ j.toNat)) true else .bad:=rfl
noncomputable def inD (i:Int):List D->Option Bool
 | []=>some false
 | .int j::r=>(inD i r).map (decide (j=i) || ·)
 | _::_=>none
noncomputable def optB:Option Bool->R
 | some b=>.ok (.bl b) true
 | none=>.bad
noncomputable def cmD:Cm->D->D->R
 | .eq,a,b=>if decide (depthD a<=9)&&decide (depthD b<=9) then optB (eqD a b) else .bad
 | .ne,a,b=>if decide (depthD a<=9)&&decide (depthD b<=9) then optB ((eqD a b).map (!·)) else .bad
 | .lt,.int i,.int j=>.ok (.bl (decide (i<j))) true
 | .le,.int i,.int j=>.ok (.bl (decide (i<=j))) true
 | .gt,.int i,.int j=>.ok (.bl (decide (j<i))) true
 | .ge,.int i,.int j=>.ok (.bl (decide (j<=i))) true
 | .isin,.int i,.lst b=>optB (inD i b)
 | .notin,.int i,.lst b=>optB ((inD i b).map (!·))
 | .isT,.bl a,.bl true=>.ok (.bl a) true
 | .isNotT,.bl a,.bl true=>.ok (.bl (!a)) true
 | _,_,_=>.bad
theorem cmD_eq (a b:D):cmD .eq a b=if decide (depthD a<=9)&&decide (depthD b<=9) then optB (eqD a b) else .bad:=rfl
theorem cmD_ne (a b:D):cmD .ne a b=if decide (depthD a<=9)&&decide (depthD b<=9) then optB ((eqD a b).map (!·)) else .bad:=rfl
theorem cmD_lt (i j:Int):cmD .lt (.int i) (.int j)=.ok (.bl (decide (i<j))) true:=rfl
theorem cmD_le (i j:Int):cmD .le (.int i) (.int j)=.ok (.bl (decide (i<=j))) true:=rfl
theorem cmD_gt (i j:Int):cmD .gt (.int i) (.int j)=.ok (.bl (decide (j<i))) true:=rfl
theorem cmD_ge (i j:Int):cmD .ge (.int i) (.int j)=.ok (.bl (decide (j<=i))) true:=rfl
theorem cmD_in (i:Int)(b:List D):cmD .isin (.int i) (.lst b)=optB (inD i b):=rfl
theorem cmD_ni (i:Int)(b:List D):cmD .notin (.int i) (.lst b)=optB ((inD i b).map (!·)):=rfl
theorem cmD_it (a:Bool):cmD .isT (.bl a) (.bl true)=.ok (.bl a) true:=rfl
theorem cmD_nt (a:Bool):cmD .isNotT (.bl a) (.bl true)=.ok (.bl (!a)) true:=rfl
noncomputable def eVar (i:Nat):EE:=fun ρ=>match ρ[i]? with
 | some (some d)=>.ok d (scal d)
 | _=>.bad
noncomputable def eInt (i:Int):EE:=fun _=>.ok (.int i) true
noncomputable def eBl (b:Bool):EE:=fun _=>.ok (.bl b) true
noncomputable def eOp (o:Op)(a b:EE):EE:=fun ρ=>(a ρ).bind fun x _=>(b ρ).bind fun y _=>opD o x y
noncomputable def eCm (o:Cm)(a b:EE):EE:=fun ρ=>(a ρ).bind fun x _=>(b ρ).bind fun y _=>cmD o x y
noncomputable def eNeg (a:EE):EE:=fun ρ=>(a ρ).bind fun x _=>match x with
 | .int i=>.ok (.int (-i)) true
 | _=>.bad
noncomputable def eAnd (a b:EE):EE:=fun ρ=>(a ρ).bind fun x _=>match x with
 | .bl true=>b ρ
 | .bl false=>.ok (.bl false) true
 | _=>.bad
noncomputable def eOr (a b:EE):EE:=fun ρ=>(a ρ).bind fun x _=>match x with
 | .bl true=>.ok (.bl true) true
 | .bl false=>b ρ
 | _=>.bad
noncomputable def eNot (a:EE):EE:=fun ρ=>(a ρ).bind fun x _=>match x with
 | .bl b=>.ok (.bl (!b)) true
 | _=>.bad
noncomputable def lNil:EL:=fun _=>.ok [] true
noncomputable def lCons (a:EE)(r:EL):EL:=fun ρ=>(a ρ).bindL fun d f=>(r ρ).bindL fun ds g=>.ok (d::ds) (f&&g)
noncomputable def eLst (a:EL):EE:=fun ρ=>(a ρ).bind fun ds f=>.ok (.lst ds) f
noncomputable def eTup (a:EL):EE:=fun ρ=>(a ρ).bind fun ds f=>.ok (.tup ds) f
noncomputable def at? (ds:List D)(i:Int):Option D:=if 0<=i then ds[i.toNat]? else if -(ds.length:Int)<=i then ds[(i+ds.length).toNat]? else none
noncomputable def ixD (a i:D)(f:Bool):R:=match a,i with
 | .lst ds,.int k=>match at? ds k with
  | some d=>.ok d (f || scal d)
  | none=>.bad
 | .tup ds,.int k=>match at? ds k with
  | some d=>.ok d (f || scal d)
  | none=>.bad
 | _,_=>.bad
noncomputable def eIx (a i:EE):EE:=fun ρ=>(a ρ).bind fun x f=>(i ρ).bind fun y _=>ixD x y f
noncomputable def eCall (F:List D->R)(a:EL):EE:=fun ρ=>(a ρ).bind fun ds _=>F ds
noncomputable def eB1 (F:D->Bool->R)(a:EE):EE:=fun ρ=>(a ρ).bind F
noncomputable def lenD:D->Bool->R
 | .lst ds,_=>.ok (.int ds.length) true
 | .tup ds,_=>.ok (.int ds.length) true
 | _,_=>.bad
noncomputable def sortedD:D->Bool->R
 | .lst ds,_=>match intsOf ds with
  | some ns=>if ns.length<64 then .ok (.lst ((isort ns).map .int)) true else .bad
  | none=>.bad
 | _,_=>.bad
noncomputable def listD:D->Bool->R
 | .lst ds,f=>.ok (.lst ds) (f || flatL ds)
 | .tup ds,f=>.ok (.lst ds) (f || flatL ds)
 | _,_=>.bad
noncomputable def cutI (n:Nat)(dflt:Nat):Option Int->Nat
 | none=>dflt
 | some i=>if i<0 then (i+(n:Int)).toNat else min i.toNat n
noncomputable def cutL {α:Type}(ds:List α)(lo hi:Option Int):List α:=(ds.drop (cutI ds.length 0 lo)).take (cutI ds.length ds.length hi-cutI ds.length 0 lo)
noncomputable def sliceD (a:D)(f:Bool)(lo hi:Option Int):R:=match a with
 | .lst ds=>.ok (.lst (cutL ds lo hi)) (f || flatL (cutL ds lo hi))
 | _=>.bad
noncomputable def ePart (p:Option EE)(ρ:Env)(k:Option Int->R):R:=match p with
 | none=>k none
 | some e=>(e ρ).bind fun d _=>match d with
  | .int i=>k (some i)
  | _=>.bad
noncomputable def eSlice (a:EE)(lo hi:Option EE):EE:=fun ρ=>(a ρ).bind fun x f=>ePart lo ρ fun i=>ePart hi ρ fun j=>sliceD x f i j
noncomputable def eB2 (F:D->D->R)(a b:EE):EE:=fun ρ=>(a ρ).bind fun x _=>(b ρ).bind fun y _=>F x y
noncomputable def max2D:D->D->R
 | .int i,.int j=>.ok (.int (if j > i then j else i)) true
 | _,_=>.bad
noncomputable def isListD:D->Bool->R
 | .exn _,_=>.bad
 | .ins _ _,_=>.bad
 | .raw _,_=>.bad
 | .tab _,_=>.bad
 | .lst _,_=>.ok (.bl true) true
 | _,_=>.ok (.bl false) true
noncomputable def isIntD:D->Bool->R
 | .exn _,_=>.bad
 | .ins _ _,_=>.bad
 | .raw _,_=>.bad
 | .tab _,_=>.bad
 | .int _,_=>.ok (.bl true) true
 | .bl _,_=>.ok (.bl true) true
 | _,_=>.ok (.bl false) true
noncomputable def isBoolD:D->Bool->R
 | .exn _,_=>.bad
 | .ins _ _,_=>.bad
 | .raw _,_=>.bad
 | .tab _,_=>.bad
 | .bl _,_=>.ok (.bl true) true
 | _,_=>.ok (.bl false) true
noncomputable def subX (c k:String):Bool:=c == k || k == "WheelError" || k == "ValueError"
inductive RI where
 | ok (ds:List D) (fr:Bool)
 | exc (c:String)
 | bad
noncomputable abbrev EI:=Env->RI
noncomputable def rangeL (lo:Int):Nat->List D
 | 0=>[]
 | n+1=>.int lo::rangeL (lo+1) n
noncomputable def iSeq (a:EE):EI:=fun ρ=>match a ρ with
 | .ok (.lst ds) f=>.ok ds f
 | .exc c=>.exc c
 | _=>.bad
noncomputable def rngOk (i:Int):Bool:=decide (-1000000<=i)&&decide (i<=1000000)
noncomputable def iRange (a:EE):EI:=fun ρ=>match a ρ with
 | .ok (.int j) _=>if rngOk j then .ok (rangeL 0 j.toNat) true else .bad
 | .exc c=>.exc c
 | _=>.bad
noncomputable def iRange2 (a b:EE):EI:=fun ρ=>match a ρ with
 | .ok (.int i) _=>match b ρ with
  | .ok (.int j) _=>if rngOk i&&rngOk j then .ok (rangeL i (j-i).toNat) true else .bad
  | .exc c=>.exc c
  | _=>.bad
 | .exc c=>.exc c
 | _=>.bad
noncomputable def iZip (a b:EE):EI:=fun ρ=>match a ρ with
 | .ok (.lst xs) _=>match b ρ with
  | .ok (.lst ys) _=>.ok (List.zipWith (fun x y=>.tup [x,y]) xs ys) true
  | .exc c=>.exc c
  | _=>.bad
 | .exc c=>.exc c
 | _=>.bad
noncomputable def compGo (elt:EE)(cond:EE)(free:Env):List D->RL
 | []=>.ok [] true
 | d::r=>match cond (some d::free) with
  | .ok (.bl true) _=>match elt (some d::free) with
   | .ok x f=>match compGo elt cond free r with
    | .ok xs g=>.ok (x::xs) (f&&g)
    | _=>.bad
   | _=>.bad
  | .ok (.bl false) _=>compGo elt cond free r
  | _=>.bad
noncomputable def pick (ρ:Env)(is:List Nat):Env:=is.map fun i=>(ρ[i]?).getD none
noncomputable def eComp (elt cond:EE)(is:List Nat)(it:EI):EE:=fun ρ=>match it ρ with
 | .ok ds _=>if ds.length<=mx then match compGo elt cond (pick ρ is) ds with
   | .ok xs f=>.ok (.lst xs) f
   | _=>.bad
  else .bad
 | .exc c=>.exc c
 | .bad=>.bad
inductive Sl where
 | no
 | sh (d:D)
 | ow (d:D)
  | dp (d:D)
  | jk (n m:Nat)
noncomputable abbrev St:=List Sl
noncomputable def Sl.get:Sl->Option D
 | .no=>none
 | .sh d=>some d
 | .ow d=>some d
 | .dp d=>some d
 | .jk _ _=>none
noncomputable def Sl.shared:Sl->Option D
 | .sh d=>some d
 | _=>none
noncomputable def Sl.give:Sl->Sl
 | .ow d=>.sh d
 | .dp d=>.sh d
 | s=>s
noncomputable def all (st:St):Env:=st.map Sl.get
noncomputable def open_ (st:St):Env:=st.map Sl.shared
noncomputable def give (is:List Nat)(st:St):St:=is.foldl (fun st i=>st.set i ((st[i]?.getD .no).give)) st
inductive Out where
 | nx (st:St)
 | ret (d:D) (nw:Bool)
 | brk (st:St)
 | cont (st:St)
 | exc (c:String) (st:St)
 | bad
noncomputable abbrev SS:=St->Out
noncomputable abbrev Out.bind (o:Out)(k:St->Out):Out:=match o with
 | .nx st=>k st
 | o=>o
noncomputable def sNil:SS:=fun st=>.nx st
noncomputable def sCons (a r:SS):SS:=fun st=>(a st).bind r
noncomputable def keepD (d:D)(f:Bool):Option Sl:=match d with
 | .lst ds=>if f&&flatL ds then some (.ow d) else none
 | .tup _=>none
 | .exn _=>none
 | .raw _=>none
 | .tab _=>none
 | .ins _ _=>none
 | .dct ks ds=>if f&&ks.isEmpty&&ds.isEmpty then some (.ow d) else none
 | _=>some (.sh d)
noncomputable def sSet (i:Nat)(e:EE):SS:=fun st=>match e (all st) with
 | .ok d f=>match keepD d f with
  | some s=>.nx (st.set i s)
  | none=>.bad
 | .exc c=>.exc c st
 | .bad=>.bad
noncomputable def sSetG (is:List Nat)(i:Nat)(e:EE):SS:=fun st=>match e (open_ (give is st)) with
 | .ok d _=>.nx ((give is st).set i (.sh d))
 | .exc c=>.exc c st
 | .bad=>.bad
noncomputable def sExpr (e:EE):SS:=fun st=>match e (all st) with
 | .ok _ _=>.nx st
 | .exc c=>.exc c st
 | .bad=>.bad
noncomputable def sRet (e:EE):SS:=fun st=>match e (all st) with
 | .ok d f=>.ret d f
 | .exc c=>.exc c st
 | .bad=>.bad
noncomputable def sRetO (i:Nat):SS:=fun st=>match st[i]? with
 | some (.ow (.lst ds))=>.ret (.lst ds) (flatL ds)
 | some (.ow (.dct ks ds))=>.ret (.dct ks ds) false
 | some (.dp d)=>.ret d true
 | some (.sh d)=>.ret d (scal d)
 | _=>.bad
noncomputable def sIf (c:EE)(a b:SS):SS:=fun st=>match c (all st) with
 | .ok (.bl true) _=>a st
 | .ok (.bl false) _=>b st
 | .exc c=>.exc c st
 | _=>.bad
noncomputable def sRaise (c:String):SS:=fun st=>.exc c st
noncomputable def sApp (i:Nat)(e:EE):SS:=fun st=>match st[i]? with
 | some (.ow (.lst ds))=>match e (all st) with
  | .ok d _=>if scal d&&decide (ds.length<mx) then .nx (st.set i (.ow (.lst (ds++[d])))) else .bad
  | .exc c=>.exc c st
  | .bad=>.bad
 | _=>.bad
noncomputable def sPut (i:Nat)(k e:EE):SS:=fun st=>match st[i]? with
 | some (.ow (.lst ds))=>match e (all st) with
  | .ok d _=>match k (all st) with
   | .ok (.int j) _=>if scal d&&decide (0<=j)&&decide (j<ds.length) then .nx (st.set i (.ow (.lst (ds.set j.toNat d)))) else .bad
   | .exc c=>.exc c st
   | _=>.bad
  | .exc c=>.exc c st
  | .bad=>.bad
 | _=>.bad
noncomputable def forGo (x:Nat)(body:SS):List D->SS
 | [],st=>.nx st
 | d::r,st=>match body (st.set x (.sh d)) with
  | .nx st'=>forGo x body r st'
  | .cont st'=>forGo x body r st'
  | .brk st'=>.nx st'
  | o=>o
noncomputable def sFor (is:List Nat)(x:Nat)(it:EI)(body:SS):SS:=fun st=>match it (open_ (give is st)) with
 | .ok ds _=>forGo x body ds (give is st)
 | .exc c=>.exc c st
 | .bad=>.bad
noncomputable def setAll:List Nat->List D->St->St
 | i::is,d::ds,st=>setAll is ds (st.set i (.sh d))
 | _,_,st=>st
noncomputable def sUnpack (is:List Nat)(xs:List Nat)(e:EE):SS:=fun st=>match e (open_ (give is st)) with
 | .ok (.tup ds) _=>if ds.length=xs.length then .nx (setAll xs ds (give is st)) else .bad
 | .exc c=>.exc c st
 | _=>.bad
noncomputable def sPar (is:List Nat)(x y:Nat)(a b:EE):SS:=fun st=>match a (open_ (give is st)) with
 | .ok d _=>match b (open_ (give is st)) with
  | .ok d' _=>.nx (((give is st).set x (.sh d)).set y (.sh d'))
  | .exc c=>.exc c st
  | .bad=>.bad
 | .exc c=>.exc c st
 | .bad=>.bad
noncomputable def forGoT (tgt:D->St->Option St)(body:SS):List D->SS
 | [],st=>.nx st
 | d::r,st=>match tgt d st with
  | none=>.bad
  | some st1=>match body st1 with
   | .nx st'=>forGoT tgt body r st'
   | .cont st'=>forGoT tgt body r st'
   | .brk st'=>.nx st'
   | o=>o
noncomputable def sForT (is:List Nat)(tgt:D->St->Option St)(it:EI)(body:SS):SS:=fun st=>match it (open_ (give is st)) with
 | .ok ds _=>forGoT tgt body ds (give is st)
 | .exc c=>.exc c st
 | .bad=>.bad
noncomputable def tupTo (xs:List Nat)(d:D)(s:St):Option St:=match d with
 | .tup ds=>if ds.length=xs.length then some (setAll xs ds s) else none
 | _=>none
noncomputable def fn (n:Nat)(body:SS)(ds:List D):R:=match body (ds.map .sh++List.replicate (n-ds.length) .no) with
 | .nx _=>.ok .non true
 | .ret d f=>.ok d f
 | .exc c _=>.exc c
 | _=>.bad
end Dv
namespace Sd
open PySem PySem.Spec PyProof.Rows L2
open Dv (D R RL EE EL EI RI)
noncomputable abbrev St:=L2.St
noncomputable def SqX (K:PySem.W.Frag)(H:Hp)(a:Addr)(xs:List V):Prop :=
 Rd H a (.lst xs)\/∃ (its:List Value) (n:Nat),K.lookup a=some { cls:=.type "list",data:=.seq its.toArray n }/\xs.length<=sizeLine/\Vals xs its
theorem SqX.seq {K:PySem.W.Frag}{H:Hp}{a:Addr}{xs:List V}(h:SqX K H a xs):SqL K H a xs:=by
 rcases h with h|⟨its,n,e,z,r⟩
 ·exact .inl h
 ·refine .inr ⟨_,its.toArray,n,e,rfl,rfl,rfl,?_,by simpa using r⟩
  rw[List.size_toArray,<- r.length]; exact z
theorem SqX.of {K:PySem.W.Frag}{H:Hp}{a:Addr}{xs:List V}(h:H a=some (.lst xs)):SqX K H a xs:=.inl (.inl h)
theorem Rd.same {H H':Hp}{a:Addr}{o:HO}(e:Same H H')(h:Rd H a o):Rd H' a o:=by
 rcases h with h|⟨u,h⟩
 ·exact .inl (e _ _ h)
 ·exact .inr ⟨u,e _ _ h⟩
theorem SqX.same {K:PySem.W.Frag}{H H':Hp}{a:Addr}{xs:List V}(e:Same H H')(h:SqX K H a xs):SqX K H' a xs:=by
 rcases h with h|h
 ·exact .inl (Rd.same e h)
 ·exact .inr h
theorem Inv.listX {X:Cx}{pins:List (Addr × Obj)}{σ:St}{H:Hp}{s:Shared}{a:Addr}{xs:List V}(I:Inv X pins σ H s)(h:SqX X.K H a xs) :
  ∃ (its:List Value) (n:Nat),Vals xs its/\s.heap.get? a=some { cls:=.type "list",data:=.seq its.toArray n }/\xs.length<=sizeLine:=by
 rcases h with h|⟨its,n,e,z,r⟩
 ·obtain⟨z,its,n,r,e⟩:=h.ok I.hok
  exact⟨its,n,r,e,z⟩
 ·exact⟨its,n,r,I.kIn a _ e,z⟩
noncomputable def ExcOf (a C:Addr):Heap->Prop:=fun h=>∃ o vs,h.get? a=some o/\o.cls=.ref C/\o.data=.fields vs
noncomputable def Tbr (H:Hp):List Addr->List (List Int)->Prop
 | [],[]=>True
 | b::bs,r::rs=>Rd H b (.lst (r.map V.int))/\Tbr H bs rs
 | _,_=>False
theorem Tbr.same {H H':Hp}(e:∀ {b:Addr} {o:HO},Rd H b o->Rd H' b o):∀ {bs:List Addr} {rows:List (List Int)},Tbr H bs rows->Tbr H' bs rows
 | [],[],_=>True.intro
 | b::bs,r::rs,h=>⟨e h.1,Tbr.same e h.2⟩
 | [],_::_,h=>h.elim
 | _::_,[],h=>h.elim
mutual
noncomputable def Rp (K:PySem.W.Frag)(H:Hp):D->V->Prop
 | .non,v=>v=.non
 | .bl b,v=>v=.bl b
 | .int i,v=>v=.int i
 | .str x,v=>v=.str ⟨(Dv.clipS x).toArray⟩
 | .lst ds,v=>∃ a vs,v=.ref a/\SqX K H a vs/\RpL K H ds vs
 | .tup ds,v=>∃ a vs,v=.ref a/\Rd H a (.tup vs)/\RpL K H ds vs
 | .exn c,v=>∃ a C,v=.ref a/\PySem.W.nsIn K mainGlobals (Str.ofString c)=some (some (.ref C))/\H a=some (.ext (ExcOf a C))
 | .raw a,v=>v=.ref a
 | .tab rows,v=>∃ t bs,v=.ref t/\Rd H t (.lst (bs.map V.ref))/\t∉bs/\bs.Nodup/\Tbr H bs rows
 | .dct ks ds,v=>∃ a vs,v=.ref a/\ks.length=ds.length/\Rd H a (.dK ((ks.map Sum.inl).zip vs))/\RpL K H ds vs
 | .ins ns ds,v=>∃ a C dx fs vs,v=.ref a/\H a=some (.ins C dx fs)/\Cls K C/\ns.length=ds.length/\(∀ n u,(n,u)∈ns.zip vs->NoAttr K C (Str.ofString n)/\fs.lookup (Str.ofString n)=some u)/\RpL K H ds vs
noncomputable def RpL (K:PySem.W.Frag)(H:Hp):List D->List V->Prop
 | [],vs=>vs=[]
 | d::r,vs=>∃ v ws,vs=v::ws/\Rp K H d v/\RpL K H r ws
end
mutual
theorem Rp.same {K:PySem.W.Frag}{H H':Hp}(e:Same H H'):∀ {d:D} {v:V},Rp K H d v->Rp K H' d v
 | .non,_,h=>by unfold Rp at h ⊢; exact h
 | .bl _,_,h=>by unfold Rp at h ⊢; exact h
 | .int _,_,h=>by unfold Rp at h ⊢; exact h
 | .str _,_,h=>by unfold Rp at h ⊢; exact h
 | .raw _,_,h=>by unfold Rp at h ⊢; exact h
 | .tab _,v,h=>by
  unfold Rp at h ⊢
  obtain⟨t,bs,h1,h2,h3,h4,h5⟩:=h
  exact⟨t,bs,h1,Rd.same e h2,h3,h4,h5.same fun q=>Rd.same e q⟩
 | .lst ds,v,h=>by
  unfold Rp at h ⊢
  obtain⟨a,vs,h1,h2,h3⟩:=h
  exact⟨a,vs,h1,h2.same e,RpL.same e h3⟩
 | .tup ds,v,h=>by
  unfold Rp at h ⊢
  obtain⟨a,vs,h1,h2,h3⟩:=h
  exact⟨a,vs,h1,Rd.same e h2,RpL.same e h3⟩
 | .exn c,v,h=>by
  unfold Rp at h ⊢
  obtain⟨a,C,h1,h2,h3⟩:=h
  exact⟨a,C,h1,h2,e _ _ h3⟩
 | .dct ks ds,v,h=>by
  unfold Rp at h ⊢
  obtain⟨a,vs,h1,h2,h3,h4⟩:=h
  exact⟨a,vs,h1,h2,Rd.same e h3,RpL.same e h4⟩
 | .ins ns ds,v,h=>by
  unfold Rp at h ⊢
  obtain⟨a,C,dx,fs,vs,h1,h2,h3,h4,h5,h6⟩:=h
  exact⟨a,C,dx,fs,vs,h1,e _ _ h2,h3,h4,h5,RpL.same e h6⟩
theorem RpL.same {K:PySem.W.Frag}{H H':Hp}(e:Same H H'):∀ {ds:List D} {vs:List V},RpL K H ds vs->RpL K H' ds vs
 | [],_,h=>by unfold RpL at h ⊢; exact h
 | d::r,vs,h=>by
  unfold RpL at h ⊢
  obtain⟨v,ws,h1,h2,h3⟩:=h
  exact⟨v,ws,h1,Rp.same e h2,RpL.same e h3⟩
end
theorem RpL.length {K:PySem.W.Frag}{H:Hp}:∀ {ds:List D} {vs:List V},RpL K H ds vs->vs.length=ds.length
 | [],_,h=>by unfold RpL at h; subst h; rfl
 | d::r,vs,h=>by
  unfold RpL at h
  obtain⟨v,ws,rfl,_,h3⟩:=h
  rw[List.length_cons,List.length_cons,RpL.length h3]
theorem Rp.scal {K K':PySem.W.Frag}{H H':Hp}{d:D}{v:V}(f:Dv.scal d=true)(h:Rp K H d v):Rp K' H' d v:=by
 cases d with
 | lst ds=>exact absurd f (by simp[Dv.scal])
 | tup ds=>exact absurd f (by simp[Dv.scal])
 | exn c=>exact absurd f (by simp[Dv.scal])
 | raw c=>exact absurd f (by simp[Dv.scal])
 | tab c=>exact absurd f (by simp[Dv.scal])
 | dct ks ds=>exact absurd f (by simp[Dv.scal])
 | ins ks ds=>exact absurd f (by simp[Dv.scal])
 | _=>unfold Rp at h ⊢; exact h
theorem RpL.flat {K K':PySem.W.Frag}{H H':Hp}:∀ {ds:List D} {vs:List V},Dv.flatL ds=true->RpL K H ds vs->RpL K' H' ds vs
 | [],_,_,h=>by unfold RpL at h ⊢; exact h
 | d::r,vs,f,h=>by
  unfold Dv.flatL at f
  rw[Bool.and_eq_true] at f
  unfold RpL at h ⊢
  obtain⟨v,ws,h1,h2,h3⟩:=h
  exact⟨v,ws,h1,h2.scal f.1,RpL.flat f.2 h3⟩
theorem RpL.append {K:PySem.W.Frag}{H:Hp}:∀ {ds es:List D} {vs ws:List V},RpL K H ds vs->RpL K H es ws->RpL K H (ds++es) (vs++ws)
 | [],_,_,_,h,g=>by unfold RpL at h; subst h; exact g
 | d::r,es,vs,ws,h,g=>by
  unfold RpL at h
  obtain⟨v,vs',rfl,h2,h3⟩:=h
  rw[List.cons_append,List.cons_append]
  unfold RpL
  exact⟨v,_,rfl,h2,RpL.append h3 g⟩
theorem RpL.get {K:PySem.W.Frag}{H:Hp}:∀ {ds:List D} {vs:List V} {i:Nat} {d:D},RpL K H ds vs->ds[i]?=some d->∃ v,vs[i]?=some v/\Rp K H d v
 | [],_,_,_,_,e=>by simp at e
 | x::r,vs,0,d,h,e=>by
  unfold RpL at h
  obtain⟨v,ws,rfl,h2,_⟩:=h
  simp at e; subst e
  exact⟨v,rfl,h2⟩
 | x::r,vs,i+1,d,h,e=>by
  unfold RpL at h
  obtain⟨v,ws,rfl,_,h3⟩:=h
  obtain⟨u,h4,h5⟩:=RpL.get (i:=i) (d:=d) h3 (by simpa using e)
  exact⟨u,by simpa using h4,h5⟩
theorem RpL.cons {K:PySem.W.Frag}{H:Hp}{d:D}{v:V}{ds:List D}{vs:List V}(h:Rp K H d v)(g:RpL K H ds vs):RpL K H (d::ds) (v::vs):=by
 unfold RpL; exact⟨v,vs,rfl,h,g⟩
theorem RpL.nil {K:PySem.W.Frag}{H:Hp}:RpL K H [] []:=by unfold RpL; rfl
theorem RpL.set {K:PySem.W.Frag}{H:Hp}{d:D}{v:V}(g:Rp K H d v):∀ {ds:List D} {vs:List V} (i:Nat),RpL K H ds vs->RpL K H (ds.set i d) (vs.set i v)
 | [],_,i,h=>by unfold RpL at h; subst h; exact .nil
 | x::r,vs,0,h=>by
  unfold RpL at h
  obtain⟨u,ws,rfl,_,h3⟩:=h
  exact .cons g h3
 | x::r,vs,i+1,h=>by
  unfold RpL at h
  obtain⟨u,ws,rfl,h2,h3⟩:=h
  exact .cons h2 (RpL.set g i h3)
theorem RpL.ints {K:PySem.W.Frag}{H:Hp}:∀ {ds:List D} {vs:List V} {ns:List Int},Dv.intsOf ds=some ns->RpL K H ds vs->vs=ns.map V.int
 | [],vs,ns,e,h=>by
  simp[Dv.intsOf] at e; subst e
  unfold RpL at h; exact h
 | d::r,vs,ns,e,h=>by
  unfold RpL at h
  obtain⟨v,ws,rfl,h2,h3⟩:=h
  cases d with
  | int i =>
   simp only[Dv.intsOf,Option.map_eq_some_iff] at e
   obtain⟨ms,e1,rfl⟩:=e
   unfold Rp at h2
   subst h2
   rw[RpL.ints e1 h3,List.map_cons]
  | _=>simp[Dv.intsOf] at e
theorem RpL.ofInts {K:PySem.W.Frag}{H:Hp}:∀ (ns:List Int),RpL K H (ns.map .int) (ns.map V.int)
 | []=>.nil
 | n::r=>.cons (by unfold Rp; rfl) (RpL.ofInts r)
structure Ext (Hv H Hv' H':Hp):Prop where
 hh:Same H H'
 vv:Same Hv Hv'
 vh:Same Hv' H'
 new:∀ b o,Hv' b=some o->Hv b=none->H b=none
 all:∀ b,H b=none->Hv' b=H' b
 nf:∀ b o u,H b=none->H' b≠some (.frz o u)
theorem Ext.refl {Hv H:Hp}(e:Same Hv H):Ext Hv H Hv H:=⟨.refl _,.refl _,e,fun b o h n=>(by rw[n] at h; cases h),fun b h=>(by rw[h]; exact e.free h),fun b o u h=>by rw[h]; intro z; cases z⟩
theorem Ext.trans {Hv H Hv1 H1 Hv2 H2:Hp}(a:Ext Hv H Hv1 H1)(b:Ext Hv1 H1 Hv2 H2):Ext Hv H Hv2 H2 :=
 ⟨a.hh.trans b.hh,a.vv.trans b.vv,b.vh,fun c o h n=>(by
  cases q:Hv1 c with
  | some u=>exact a.new c u q n
  | none=>exact a.hh.free (b.new c o h q)),fun c h=>by
  cases q:H1 c with
  | none=>exact b.all c q
  | some o=>rw[b.hh c o q]; exact b.vv c o ((a.all c h).trans q),fun c o u h=>by
  cases q:H1 c with
  | none=>exact b.nf c o u q
  | some w=>rw[b.hh c w q,<- q]; exact a.nf c o u h⟩
theorem same_upd {H:Hp}{p:Addr}(h:H p=none)(o:HO):Same H (upd H p o):=fun b u q=>by rw[upd_ne (ne_of_none q h)]; exact q
theorem Ext.new1 {Hv H:Hp}(e:Same Hv H){p:Addr}(h:H p=none)(o:HO)(ho:autoParam (∀ a u,o≠.frz a u) Au.h7._auto_1):Ext Hv H (upd Hv p o) (upd H p o):=by
 refine⟨same_upd h o,same_upd (e.free h) o,fun b u q=>?_,fun b u q n=>?_,fun b q=>?_,fun b a u q=>?_⟩
 ·by_cases hb:b=p
  ·subst hb; rw[upd_same] at q ⊢; exact q
  ·rw[upd_ne hb] at q ⊢; exact e _ _ q
 ·by_cases hb:b=p
  ·subst hb; exact h
  ·rw[upd_ne hb,n] at q; cases q
 ·by_cases hb:b=p
  ·subst hb; rw[upd_same,upd_same]
  ·rw[upd_ne hb,upd_ne hb,q]; exact e.free q
 ·by_cases hb:b=p
  ·subst hb; rw[upd_same]; exact fun z=>ho a u (Option.some.inj z)
  ·rw[upd_ne hb,q]; intro z; cases z
noncomputable def Hnew (H H':Hp):Hp:=fun b=>match H b with
 | none=>H' b
 | some _=>none
theorem Hnew.mono {H H1 H2 H3:Hp}(a:Same H H1)(c:Same H2 H3):Same (Hnew H1 H2) (Hnew H H3):=fun b o h=>by
 unfold Hnew at h ⊢
 cases q:H b with
 | some u=>rw[a b u q] at h; cases h
 | none =>
  cases q1:H1 b with
  | some u=>rw[q1] at h; cases h
  | none=>rw[q1] at h; exact c b o h
theorem Ext.news {Hv H Hv' H':Hp}(x:Ext Hv H Hv' H'):Same (Hnew H H') Hv':=fun b o h=>by
 unfold Hnew at h
 cases q:H b with
 | some u=>rw[q] at h; cases h
 | none=>rw[q] at h; rw[x.all b q]; exact h
theorem Hnew.sub {H H':Hp}:Same (Hnew H H') H':=fun b o h=>by
 unfold Hnew at h
 cases q:H b with
 | some u=>rw[q] at h; cases h
 | none=>rw[q] at h; exact h
mutual
theorem Rp.frag {K:PySem.W.Frag}{H:Hp}:∀ {d:D} {v:V},Rp [] H d v->Rp K H d v
 | .non,_,h=>by unfold Rp at h ⊢; exact h
 | .bl _,_,h=>by unfold Rp at h ⊢; exact h
 | .int _,_,h=>by unfold Rp at h ⊢; exact h
 | .str _,_,h=>by unfold Rp at h ⊢; exact h
 | .raw _,_,h=>by unfold Rp at h ⊢; exact h
 | .tab _,_,h=>by unfold Rp at h ⊢; exact h
 | .lst ds,v,h=>by
  unfold Rp at h ⊢
  obtain⟨a,vs,h1,h2,h3⟩:=h
  refine⟨a,vs,h1,?_,RpL.frag h3⟩
  rcases h2 with h2|⟨its,n,e,_⟩
  ·exact .inl h2
  ·simp at e
 | .tup ds,v,h=>by
  unfold Rp at h ⊢
  obtain⟨a,vs,h1,h2,h3⟩:=h
  exact⟨a,vs,h1,h2,RpL.frag h3⟩
 | .exn c,v,h=>by
  unfold Rp at h
  obtain⟨a,C,h1,h2,h3⟩:=h
  simp[PySem.W.nsIn] at h2
 | .dct ks ds,v,h=>by
  unfold Rp at h ⊢
  obtain⟨a,vs,h1,h2,h3,h4⟩:=h
  exact⟨a,vs,h1,h2,h3,RpL.frag h4⟩
 | .ins ns ds,v,h=>by
  unfold Rp at h
  obtain⟨a,C,dx,fs,vs,h1,h2,h3,h4,h5,h6⟩:=h
  exact absurd h3.sa (by simp[PySem.W.findIn])
theorem RpL.frag {K:PySem.W.Frag}{H:Hp}:∀ {ds:List D} {vs:List V},RpL [] H ds vs->RpL K H ds vs
 | [],_,h=>by unfold RpL at h ⊢; exact h
 | d::r,vs,h=>by
  unfold RpL at h ⊢
  obtain⟨v,ws,h1,h2,h3⟩:=h
  exact⟨v,ws,h1,Rp.frag h2,RpL.frag h3⟩
end
theorem Hnew.at {H:Hp}{p:Addr}(h:H p=none)(o:HO):Hnew H (upd H p o) p=some o:=by
 unfold Hnew; rw[h]; exact upd_same
noncomputable def Ok (K:PySem.W.Frag)(Hv H:Hp)(W:XK)(cls:String->Value)(r:R)(Q:VK):Prop:=match r with
 | .ok d fr=>∀ v Hv' H',Ext Hv H Hv' H'->Rp K Hv' d v->(fr=true->Rp [] (Hnew H H') d v)->Q v H'
 | .exc c=>∀ Hv' H',Ext Hv H Hv' H'->W (cls c) none H'
 | .bad=>False
noncomputable def OkL (K:PySem.W.Frag)(Hv H:Hp)(W:XK)(cls:String->Value)(r:RL)(Q:List V->Hp->Prop):Prop:=match r with
 | .ok ds fr=>∀ vs Hv' H',Ext Hv H Hv' H'->RpL K Hv' ds vs->(fr=true->RpL [] (Hnew H H') ds vs)->Q vs H'
 | .exc c=>∀ Hv' H',Ext Hv H Hv' H'->W (cls c) none H'
 | .bad=>False
noncomputable def EnvR (K:PySem.W.Frag)(Hv:Hp)(ρ:Dv.Env)(σ:St):Prop:=∀ (i:Nat) (d:D),ρ[i]?=some (some d)->∃ v,σ[i]?=some (some v)/\Rp K Hv d v
theorem EnvR.same {K:PySem.W.Frag}{Hv Hv':Hp}{ρ:Dv.Env}{σ:St}(e:Same Hv Hv')(h:EnvR K Hv ρ σ):EnvR K Hv' ρ σ:=fun i d q =>
 let ⟨v,h1,h2⟩:=h i d q; ⟨v,h1,h2.same e⟩
structure Ctx where
 X:Cx
 W:St->XK
 cls:String->Value
 CX:CXT
 un:X.A.units+64<cLine
 own:PassesOwn (model X.prog X.w) X.A X.env X.xe
 pass:∀ (pins:List (Addr × Obj)) (σ:St) (H:Hp) (s:Shared) (e:Value) (s':Shared),Inv X pins σ H s->CX X.stack H s (W σ) e s'->X.xe e s'
 cxF:∀ (outer:List PySem.Env) (H:Hp) (s:Shared) (e:Value) (s':Shared),CX outer H s (fun _ _ _=>False) e s'->False
noncomputable def Tak (C:Ctx)(t:TE)(f:EE):Prop:=∀ σ H Hv ρ Q,EnvR C.X.K Hv ρ σ->Same Hv H->Ok C.X.K Hv H (C.W σ) C.cls (f ρ) Q->t σ H Q
noncomputable def TakL (C:Ctx)(t:TA)(f:EL):Prop:=∀ σ H Hv ρ Q,EnvR C.X.K Hv ρ σ->Same Hv H->OkL C.X.K Hv H (C.W σ) C.cls (f ρ) Q->t σ H Q
noncomputable def SE (C:Ctx)(e:Expr)(f:EE):Prop:=∃ t:TE,PE C.X e t/\Tak C t f
noncomputable def SL (C:Ctx)(es:List Expr)(f:EL):Prop:=∃ t:TA,PA C.X es t/\TakL C t f/\∀ ρ ds fr,f ρ=.ok ds fr->ds.length=es.length
noncomputable def SC (C:Ctx)(e:Expr)(f:EE):Prop :=
 ∃ t:TT,PT C.X e t/\∀ σ H Hv ρ Q,EnvR C.X.K Hv ρ σ->Same Hv H->Ok C.X.K Hv H (C.W σ) C.cls (f ρ) (fun v H'=>∃ b,v=.bl b/\Q b H')->t σ H Q
theorem Ok.later {K:PySem.W.Frag}{Hv H Hv1 H1:Hp}{W:XK}{cls:String->Value}{r:R}{Q:VK}(x:Ext Hv H Hv1 H1)(h:Ok K Hv H W cls r Q):Ok K Hv1 H1 W cls r Q:=by
 cases r with
 | ok d fr=>exact fun v Hv' H' y r n=>h v Hv' H' (x.trans y) r fun z=>(n z).same (Hnew.mono x.hh (.refl _))
 | exc c=>exact fun Hv' H' y=>h Hv' H' (x.trans y)
 | bad=>exact h
theorem Ok.now {K:PySem.W.Frag}{Hv H:Hp}{W:XK}{cls:String->Value}{d:D}{fr:Bool}{Q:VK}{v:V}(h:Ok K Hv H W cls (.ok d fr) Q)(e:Same Hv H)(r:Rp K Hv d v)(z:Dv.scal d=true):Q v H :=
 h v Hv H (.refl e) r fun _=>r.scal z
theorem Ok.at {K:PySem.W.Frag}{Hv H Hv1 H1:Hp}{W:XK}{cls:String->Value}{d:D}{fr:Bool}{Q:VK}{v:V}(h:Ok K Hv H W cls (.ok d fr) Q)(x:Ext Hv H Hv1 H1)(r:Rp K Hv1 d v)(z:Dv.scal d=true):Q v H1 :=
 h v Hv1 H1 x r fun _=>r.scal z
theorem Ok.newL {K:PySem.W.Frag}{Hv H Hv1 H1:Hp}{W:XK}{cls:String->Value}{ds:List D}{fr:Bool}{Q:VK}{vs:List V}(h:Ok K Hv H W cls (.ok (.lst ds) fr) Q)(x:Ext Hv H Hv1 H1)(r:RpL K Hv1 ds vs)
  (n:fr=true->RpL [] (Hnew H H1) ds vs) (p:Addr) (hp:H1 p=none):Q (.ref p) (upd H1 p (.lst vs)):=by
 have y:=Ext.new1 x.vh hp (.lst vs)
 refine h _ _ _ (x.trans y) ?_ fun z=>?_
 ·unfold Rp
  exact⟨p,vs,rfl,SqX.of upd_same,r.same y.vv⟩
 ·unfold Rp
  have hH:H p=none:=x.hh.free hp
  refine⟨p,vs,rfl,SqX.of (by unfold Hnew; rw[hH]; exact upd_same),(n z).same (Hnew.mono (.refl _) y.hh)⟩
theorem Ok.newT {K:PySem.W.Frag}{Hv H Hv1 H1:Hp}{W:XK}{cls:String->Value}{ds:List D}{fr:Bool}{Q:VK}{vs:List V}(h:Ok K Hv H W cls (.ok (.tup ds) fr) Q)(x:Ext Hv H Hv1 H1)(r:RpL K Hv1 ds vs)
  (n:fr=true->RpL [] (Hnew H H1) ds vs) (p:Addr) (hp:H1 p=none):Q (.ref p) (upd H1 p (.tup vs)):=by
 have y:=Ext.new1 x.vh hp (.tup vs)
 refine h _ _ _ (x.trans y) ?_ fun z=>?_
 ·unfold Rp
  exact⟨p,vs,rfl,.inl upd_same,r.same y.vv⟩
 ·unfold Rp
  have hH:H p=none:=x.hh.free hp
  refine⟨p,vs,rfl,.inl (by unfold Hnew; rw[hH]; exact upd_same),(n z).same (Hnew.mono (.refl _) y.hh)⟩
section
variable {C:Ctx}{a b c:Expr}{es:List Expr}{f g h:EE}{fl:EL}{ta tb tc:TE}{tl:TA}{pos:Pos}
theorem Tak.step (qa:Tak C ta f){σ:St}{H Hv Hv1 H1:Hp}{ρ:Dv.Env}{Q T:VK}{k:D->Bool->R}(e:EnvR C.X.K Hv ρ σ)(x:Ext Hv H Hv1 H1)(q:Ok C.X.K Hv H (C.W σ) C.cls ((f ρ).bind k) Q)
  (next:∀ v d fr Hv2 H2,f ρ=.ok d fr->Ext Hv H Hv2 H2->Ext Hv1 H1 Hv2 H2->Rp C.X.K Hv2 d v->(fr=true->Rp [] (Hnew H H2) d v)->Ok C.X.K Hv H (C.W σ) C.cls (k d fr) Q->T v H2):ta σ H1 T:=by
 refine qa σ H1 Hv1 ρ _ (e.same x.vv) x.vh ?_
 cases hf:f ρ with
 | bad=>rw[hf] at q; exact q
 | exc c=>rw[hf] at q; exact fun Hv' H' y=>q Hv' H' (x.trans y)
 | ok d fr =>
  rw[hf] at q
  exact fun v Hv2 H2 y r n=>next v d fr Hv2 H2 hf (x.trans y) y r (fun z=>(n z).same (Hnew.mono x.hh (.refl _))) q
theorem TakL.step (qa:TakL C tl fl){σ:St}{H Hv Hv1 H1:Hp}{ρ:Dv.Env}{Q:VK}{T:List V->Hp->Prop}{k:List D->Bool->R}(e:EnvR C.X.K Hv ρ σ)(x:Ext Hv H Hv1 H1)(q:Ok C.X.K Hv H (C.W σ) C.cls ((fl ρ).bind k) Q)
  (next:∀ vs ds fr Hv2 H2,fl ρ=.ok ds fr->Ext Hv H Hv2 H2->Ext Hv1 H1 Hv2 H2->RpL C.X.K Hv2 ds vs->(fr=true->RpL [] (Hnew H H2) ds vs)->Ok C.X.K Hv H (C.W σ) C.cls (k ds fr) Q->T vs H2):tl σ H1 T:=by
 refine qa σ H1 Hv1 ρ _ (e.same x.vv) x.vh ?_
 cases hf:fl ρ with
 | bad=>rw[hf] at q; exact q
 | exc c=>rw[hf] at q; exact fun Hv' H' y=>q Hv' H' (x.trans y)
 | ok d fr =>
  rw[hf] at q
  exact fun v Hv2 H2 y r n=>next v d fr Hv2 H2 hf (x.trans y) y r (fun z=>(n z).same (Hnew.mono x.hh (.refl _))) q
theorem se_var (i:Nat){x:Str}(hN:autoParam (C.X.N[i]?=some x) Au.h5._auto_1)(hv:autoParam (Vis C.X.env.scope x) Au.h6._auto_1)(hd:autoParam ((x == ("__debug__":Str))=false) Au.h2._auto_1)
  (hcd:autoParam ((x == ("__classdict__":Str))=false) Au.h2._auto_1):SE C (.Name x pos) (Dv.eVar i):=by
 refine⟨tVar i,pe_var hN hv hd hcd,fun σ H Hv ρ Q e s q=>?_⟩
 unfold Dv.eVar at q
 cases r:ρ[i]? with
 | none=>rw[r] at q; exact q.elim
 | some o =>
  cases o with
  | none=>rw[r] at q; exact q.elim
  | some d =>
   rw[r] at q
   obtain⟨v,h1,h2⟩:=e i d r
   exact⟨v,h1,q v Hv H (.refl s) h2 fun z=>h2.scal z⟩
theorem se_int {i:Int}{j:Nat}:SE C (.Constant (.int i) j pos) (Dv.eInt i) :=
 ⟨_,pe_int,fun _ _ _ _ _ _ s q=>q.now (v:=.int i) s (by unfold Rp; rfl) rfl⟩
theorem se_bl {i:Bool}{j:Nat}:SE C (.Constant (.bool i) j pos) (Dv.eBl i) :=
 ⟨_,pe_bl,fun _ _ _ _ _ _ s q=>q.now (v:=.bl i) s (by unfold Rp; rfl) rfl⟩
noncomputable def OpS (C:Ctx)(op:Value->Value->Sem Value)(F:D->D->R):Prop :=
 ∃ r:R2,OpR C.X op r/\∀ x y d d' H Hv H1 Hv1 W Q,Ext Hv H Hv1 H1->Rp C.X.K Hv1 d x->Rp C.X.K Hv1 d' y->Ok C.X.K Hv H W C.cls (F d d') Q->r x y H1 Q
theorem tak_op2 {op:Value->Value->Sem Value}{F:D->D->R}{r:R2}(hr:∀ x y d d' H Hv H1 Hv1 W Q,Ext Hv H Hv1 H1->Rp C.X.K Hv1 d x->Rp C.X.K Hv1 d' y->Ok C.X.K Hv H W C.cls (F d d') Q->r x y H1 Q)
  (qa:Tak C ta f) (qb:Tak C tb g):Tak C (tOp r ta tb) (fun ρ=>(f ρ).bind fun x _=>(g ρ).bind fun y _=>F x y):=fun σ H Hv ρ Q e s q =>
 qa.step e (.refl s) q fun v d fr Hv1 H1 _ x1 _ rp1 _ q1=>qb.step e x1 q1 fun v2 d2 fr2 Hv2 H2 _ x2 y2 rp2 _ q2 =>
  hr v v2 d d2 H Hv H2 Hv2 _ Q x2 (rp1.same y2.vv) rp2 q2
theorem se_op2 {op:Operator}{F:D->D->R}(o:OpS C (binaryOp op) F)(ha:SE C a f)(hb:SE C b g):SE C (.BinOp a op b pos) (fun ρ=>(f ρ).bind fun x _=>(g ρ).bind fun y _=>F x y):=by
 obtain⟨r,ho,hr⟩:=o
 obtain⟨ta,pa,qa⟩:=ha
 obtain⟨tb,pb,qb⟩:=hb
 exact⟨_,pe_op ho pa pb,tak_op2 (op:=binaryOp op) hr qa qb⟩
theorem se_cm2 {op:CmpOp}{F:D->D->R}(o:OpS C (compareOp op) F)(ha:SE C a f)(hb:SE C b g)(hm:behindInMarks op b=false):SE C (.Compare a [op] [b] pos) (fun ρ=>(f ρ).bind fun x _=>(g ρ).bind fun y _=>F x y):=by
 obtain⟨r,ho,hr⟩:=o
 obtain⟨ta,pa,qa⟩:=ha
 obtain⟨tb,pb,qb⟩:=hb
 exact⟨_,pe_cmpR ho pa pb hm,tak_op2 (op:=compareOp op) hr qa qb⟩
theorem sc_cm2 {op:CmpOp}{F:D->D->R}(o:OpS C (compareOp op) F)(ha:SE C a f)(hb:SE C b g)(hm:behindInMarks op b=false):SC C (.Compare a [op] [b] pos) (fun ρ=>(f ρ).bind fun x _=>(g ρ).bind fun y _=>F x y):=by
 obtain⟨r,ho,hr⟩:=o
 obtain⟨ta,pa,qa⟩:=ha
 obtain⟨tb,pb,qb⟩:=hb
 exact⟨_,pt_cmpR ho pa pb hm,fun σ H Hv ρ Q e s q=>tak_op2 (op:=compareOp op) hr qa qb σ H Hv ρ _ e s q⟩
theorem sc_val (ha:SE C a f)(he:autoParam (∀ whole,isTrue a C.X.env whole=(do let v <- whole; standAt a.pos; holding [v] (truthy v))) Au.h4._auto_1):SC C a f:=by
 obtain⟨t,p,q⟩:=ha
 exact⟨_,pt_val p he,fun σ H Hv ρ Q e s w=>q σ H Hv ρ _ e s w⟩
noncomputable def SW (C:Ctx)(e:Expr)(f:EE):Prop :=
 ∃ t:TT,PW C.X e t/\∀ σ H Hv ρ Q,EnvR C.X.K Hv ρ σ->Same Hv H->Ok C.X.K Hv H (C.W σ) C.cls (f ρ) (fun v H'=>∃ b,v=.bl b/\Q b H')->t σ H Q
noncomputable def TakC (C:Ctx)(t:TT)(f:EE):Prop:=∀ σ H Hv ρ Q,EnvR C.X.K Hv ρ σ->Same Hv H->Ok C.X.K Hv H (C.W σ) C.cls (f ρ) (fun v H'=>∃ b,v=.bl b/\Q b H')->t σ H Q
theorem TakC.step {tt:TT}(qa:TakC C tt f){σ:St}{H Hv Hv1 H1:Hp}{ρ:Dv.Env}{Q:VK}{T:Bool->Hp->Prop}{k:D->Bool->R}(e:EnvR C.X.K Hv ρ σ)(x:Ext Hv H Hv1 H1)(q:Ok C.X.K Hv H (C.W σ) C.cls ((f ρ).bind k) Q)
  (nb:∀ d fr,f ρ=.ok d fr->(∀ b,d≠.bl b)->k d fr=.bad)
  (next:∀ b fr Hv2 H2,f ρ=.ok (.bl b) fr->Ext Hv H Hv2 H2->Ext Hv1 H1 Hv2 H2->Ok C.X.K Hv H (C.W σ) C.cls (k (.bl b) fr) Q->T b H2):tt σ H1 T:=by
 refine qa σ H1 Hv1 ρ _ (e.same x.vv) x.vh ?_
 cases hf:f ρ with
 | bad=>rw[hf] at q; exact q
 | exc c=>rw[hf] at q; exact fun Hv' H' y=>q Hv' H' (x.trans y)
 | ok d fr =>
  intro v Hv2 H2 y r n
  cases d with
  | bl b =>
   unfold Rp at r
   rw[hf] at q
   exact⟨b,r,next b fr Hv2 H2 hf (x.trans y) y q⟩
  | _ =>
   have z:=nb _ _ hf (by intro b z; cases z)
   rw[hf] at q
   have q':Ok C.X.K Hv H (C.W σ) C.cls (k _ fr) Q:=q
   rw[z] at q'
   exact q'.elim
theorem sw_one (op:BoolOp)(ha:SC C a f):SW C (.BoolOp op [a] pos) f:=by
 obtain⟨t,p,q⟩:=ha
 cases op with
 | And=>exact⟨t,pw_and1 p,q⟩
 | Or=>exact⟨t,pw_or1 p,q⟩
theorem sw_or {rest:List Expr}(ha:SC C a f)(hb:SW C (.BoolOp .Or (b::rest) pos) g):SW C (.BoolOp .Or (a::b::rest) pos) (Dv.eOr f g):=by
 obtain⟨t,p,q⟩:=ha
 obtain⟨u,p2,q2⟩:=hb
 refine⟨_,pw_or p p2,fun σ H Hv ρ Q e s w=>?_⟩
 refine TakC.step q e (.refl s) w (fun d fr _ nb=>by cases d <;>first|rfl|exact absurd rfl (nb _)) fun b fr Hv2 H2 hf x y w2=>?_
 cases b with
 | false=>exact iteF (q2 σ H2 Hv2 ρ _ (e.same x.vv) x.vh (Ok.later x (show Ok _ _ _ _ _ (g ρ) _ from w2)))
 | true =>
  obtain⟨b,e1,q3⟩:=(show Ok C.X.K Hv H (C.W σ) C.cls (.ok (.bl true) true) (fun v H'=>∃ b,v=.bl b/\Q b H') from w2).at (v:=.bl true) x (by unfold Rp; rfl) rfl
  cases e1
  exact iteT q3
theorem sc_w (h:SW C a f):SC C a f:=let ⟨t,p,q⟩:=h; ⟨t,p.pt,q⟩
theorem sc_not (ha:SC C a f):SC C (.UnaryOp .Not a pos) (Dv.eNot f):=by
 obtain⟨t,p,q⟩:=ha
 refine⟨_,pt_not p,fun σ H Hv ρ Q e s w=>?_⟩
 refine TakC.step q e (.refl s) w (fun d fr _ nb=>by cases d <;>first|rfl|exact absurd rfl (nb _)) fun b fr Hv2 H2 hf x y w2=>?_
 obtain⟨b',e1,q3⟩:=(show Ok C.X.K Hv H (C.W σ) C.cls (.ok (.bl (!b)) true) (fun v H'=>∃ b,v=.bl b/\Q b H') from w2).at (v:=.bl (!b)) x (by unfold Rp; rfl) rfl
 cases e1
 exact q3
theorem se_one {op:BoolOp}(ha:SE C a f):SE C (.BoolOp op [a] pos) f:=let ⟨t,p,q⟩:=ha; ⟨t,pe_one p,q⟩
theorem se_and {rest:List Expr}(ha:SE C a f)(hb:SE C (.BoolOp .And (b::rest) pos) g):SE C (.BoolOp .And (a::b::rest) pos) (Dv.eAnd f g):=by
 obtain⟨t,p,q⟩:=ha
 obtain⟨u,p2,q2⟩:=hb
 refine⟨_,pe_and p p2,fun σ H Hv ρ Q e s w=>?_⟩
 refine Tak.step q e (.refl s) w fun v d fr Hv2 H2 hf x y rp n w2=>?_
 cases d with
 | bl c =>
  unfold Rp at rp
  refine⟨c,rp,?_⟩
  cases c with
  | true=>exact iteT (q2 σ H2 Hv2 ρ _ (e.same x.vv) x.vh (Ok.later x (show Ok _ _ _ _ _ (g ρ) _ from w2)))
  | false=>exact iteF ((show Ok C.X.K Hv H (C.W σ) C.cls (.ok (.bl false) true) Q from w2).at (v:=.bl false) x (by unfold Rp; rfl) rfl)
 | _=>exact(show False from w2).elim
theorem se_not (ha:SE C a f):SE C (.UnaryOp .Not a pos) (Dv.eNot f):=by
 obtain⟨t,p,q⟩:=ha
 refine⟨_,pe_not p,fun σ H Hv ρ Q e s w=>?_⟩
 refine Tak.step q e (.refl s) w fun v d fr Hv2 H2 hf x y rp n w2=>?_
 cases d with
 | bl c =>
  unfold Rp at rp
  exact⟨c,rp,(show Ok C.X.K Hv H (C.W σ) C.cls (.ok (.bl (!c)) true) Q from w2).at (v:=.bl (!c)) x (by unfold Rp; rfl) rfl⟩
 | _=>exact(show False from w2).elim
theorem se_neg (ha:SE C a f):SE C (.UnaryOp .USub a pos) (Dv.eNeg f):=by
 obtain⟨t,p,q⟩:=ha
 refine⟨_,pe_un un_neg p,fun σ H Hv ρ Q e s w=>?_⟩
 refine Tak.step q e (.refl s) w fun v d fr Hv2 H2 hf x y rp n w2=>?_
 cases d with
 | int i =>
  unfold Rp at rp
  exact⟨i,rp,(show Ok C.X.K Hv H (C.W σ) C.cls (.ok (.int (-i)) true) Q from w2).at (v:=.int (-i)) x (by unfold Rp; rfl) rfl⟩
 | _=>exact(show False from w2).elim
theorem sl_nil:SL C [] Dv.lNil:=⟨_,pa_nil,fun σ H Hv ρ Q e s q=>q [] Hv H (.refl s) .nil fun _=>.nil,fun ρ ds fr h=>by cases h; rfl⟩
theorem sl_cons (ha:SE C a f)(hr:SL C es fl)(hs:autoParam (starEach (a::es) C.X.env=(false,eval a C.X.env)::starEach es C.X.env) Au.h5._auto_1):SL C (a::es) (Dv.lCons f fl):=by
 obtain⟨t,p,q⟩:=ha
 obtain⟨u,p2,q2,l2⟩:=hr
 refine⟨_,pa_cons p p2 hs,fun σ H Hv ρ Q e s w=>?_,fun ρ ds fr h=>?_⟩
 rotate_left
 ·unfold Dv.lCons at h
  cases hf:f ρ with
  | bad=>rw[hf] at h; cases h
  | exc c=>rw[hf] at h; cases h
  | ok d f1 =>
   cases hg:fl ρ with
   | bad=>rw[hf,hg] at h; cases h
   | exc c=>rw[hf,hg] at h; cases h
   | ok d2 f2 =>
    rw[hf,hg] at h
    cases h
    rw[List.length_cons,List.length_cons,l2 ρ d2 f2 hg]
 unfold Dv.lCons at w
 refine q σ H Hv ρ _ e s ?_
 cases hf:f ρ with
 | bad=>rw[hf] at w; exact w
 | exc c=>rw[hf] at w; exact w
 | ok d fr =>
  rw[hf] at w
  intro v Hv1 H1 x1 r1 n1
  refine q2 σ H1 Hv1 ρ _ (e.same x1.vv) x1.vh ?_
  cases hg:fl ρ with
  | bad=>rw[hg] at w; exact w
  | exc c=>rw[hg] at w; exact fun Hv' H' y=>w Hv' H' (x1.trans y)
  | ok ds fr2 =>
   rw[hg] at w
   intro vs Hv2 H2 x2 r2 n2
   refine w (v::vs) Hv2 H2 (x1.trans x2) (.cons (r1.same x2.vv) r2) fun z=>?_
   have z':fr=true/\fr2=true:=by simpa using z
   exact .cons ((n1 z'.1).same (Hnew.mono (.refl _) x2.hh)) ((n2 z'.2).same (Hnew.mono x1.hh (.refl _)))
theorem mx_line {n:Nat}(h:n<=Dv.mx):n<=sizeLine:=by
 unfold Dv.mx at h; rw[sizeLine_eq]; omega
theorem se_lst (h:SL C es fl)(hz:autoParam (es.length<=Dv.mx) Au.h2._auto_1):SE C (.List es pos) (Dv.eLst fl):=by
 obtain⟨t,p,q,hn⟩:=h
 refine⟨_,pe_lst p,fun σ H Hv ρ Q e s w=>?_⟩
 refine TakL.step q e (.refl s) w fun vs ds fr Hv2 H2 hf x y rp n w2=>⟨?_,fun p hp=>?_⟩
 ·rw[rp.length,hn ρ ds fr hf]; exact mx_line hz
 ·exact Ok.newL w2 x rp n p hp
theorem se_tup {k}(h:SL C es fl)(hz:autoParam (es.length<=Dv.mx) Au.h2._auto_1):SE C (.Tuple es k pos) (Dv.eTup fl):=by
 obtain⟨t,p,q,hn⟩:=h
 refine⟨_,pe_tup p,fun σ H Hv ρ Q e s w=>?_⟩
 refine TakL.step q e (.refl s) w fun vs ds fr Hv2 H2 hf x y rp n w2=>⟨?_,fun p hp=>?_⟩
 ·rw[rp.length,hn ρ ds fr hf]; exact mx_line hz
 ·exact Ok.newT w2 x rp n p hp
end
section
variable {C:Ctx}{a b c:Expr}{es:List Expr}{f g h:EE}{fl:EL}{pos:Pos}
theorem opI_s {op:Value->Value->Sem Value}{K:Int->Int->Prop}{G:Int->Int->V}{F:D->D->R}(o:OpR C.X op (rI K G))
  (hF:∀ d d',(∃ i j x,d=.int i/\d'=.int j/\K i j/\F d d'=.ok x true/\Dv.scal x=true/\∀ K' H',Rp K' H' x (G i j))\/F d d'=.bad):OpS C op F:=by
 refine⟨_,o,fun x y d d' H Hv H1 Hv1 W Q e rx ry q=>?_⟩
 rcases hF d d' with ⟨i,j,z,rfl,rfl,hk,hz,hs,hr⟩|hb
 ·unfold Rp at rx ry
  rw[hz] at q
  exact⟨i,j,rx,ry,hk,q.at e (hr _ _) hs⟩
 ·rw[hb] at q; exact q.elim
theorem opI0_s {op:Value->Value->Sem Value}{G:Int->Int->V}{F:D->D->R}(o:OpR C.X op (rI0 G))
  (hF:∀ d d',(∃ i j x,d=.int i/\d'=.int j/\F d d'=.ok x true/\Dv.scal x=true/\∀ K' H',Rp K' H' x (G i j))\/F d d'=.bad):OpS C op F:=by
 refine⟨_,o,fun x y d d' H Hv H1 Hv1 W Q e rx ry q=>?_⟩
 rcases hF d d' with ⟨i,j,z,rfl,rfl,hz,hs,hr⟩|hb
 ·unfold Rp at rx ry
  rw[hz] at q
  exact⟨i,j,rx,ry,q.at e (hr _ _) hs⟩
 ·rw[hb] at q; exact q.elim
theorem rp_int {K:PySem.W.Frag}{H:Hp}{i:Int}:Rp K H (.int i) (.int i):=by unfold Rp; rfl
theorem rp_bl {K:PySem.W.Frag}{H:Hp}{i:Bool}:Rp K H (.bl i) (.bl i):=by unfold Rp; rfl
theorem rp_non {K:PySem.W.Frag}{H:Hp}:Rp K H .non .non:=by unfold Rp; rfl
theorem os_sub:OpS C (binaryOp .Sub) (Dv.opD .sub):=opI0_s op_sub fun d d'=>by
 cases d <;>first
  | exact .inr rfl
  | (cases d' <;>first
   | exact .inr rfl
   | exact .inl ⟨_,_,_,rfl,rfl,rfl,rfl,fun _ _=>rp_int⟩)
theorem os_mod:OpS C (binaryOp .Mod) (Dv.opD .mod):=opI_s op_mod fun d d'=>by
 cases d with
 | int i =>
  cases d' with
  | int j =>
   by_cases h:0<j
   ·exact .inl ⟨i,j,.int (i%j),rfl,rfl,h,by simp[Dv.opD_ai,Dv.opD_al,Dv.opD_su,Dv.opD_mi,Dv.opD_ml,Dv.opD_mo,Dv.opD_fd,Dv.opD_po,Dv.opD_ba,Dv.opD_sh,h],rfl,fun _ _=>rp_int⟩
   ·exact .inr (by simp[Dv.opD_ai,Dv.opD_al,Dv.opD_su,Dv.opD_mi,Dv.opD_ml,Dv.opD_mo,Dv.opD_fd,Dv.opD_po,Dv.opD_ba,Dv.opD_sh,h])
  | _=>exact .inr rfl
 | _=>exact .inr rfl
theorem fdiv_any:OpR C.X (binaryOp .FloorDiv) (rI (fun _ j=>0<j/\j.natAbs.log2<9000) fun i j=>.int (i/j)):=opI fun i j _ _ _ _ _ hc q=>by
 have h1:(0:Int)<j:=hc.1
 exact floordiv_int (by omega) (by rw[Int.fdiv_eq_ediv_of_nonneg i (by omega)]; exact q) (.inl (PyProof.noPylong_of_log2 hc.2))
theorem os_fdiv:OpS C (binaryOp .FloorDiv) (Dv.opD .fdiv):=opI_s fdiv_any fun d d'=>by
 cases d with
 | int i =>
  cases d' with
  | int j =>
   by_cases h:Dv.divOk j=true
   ·refine .inl ⟨i,j,.int (i/j),rfl,rfl,?_,by simp[Dv.opD_ai,Dv.opD_al,Dv.opD_su,Dv.opD_mi,Dv.opD_ml,Dv.opD_mo,Dv.opD_fd,Dv.opD_po,Dv.opD_ba,Dv.opD_sh,h],rfl,fun _ _=>rp_int⟩
    unfold Dv.divOk at h
    simpa using h
   ·exact .inr (by simp[Dv.opD_ai,Dv.opD_al,Dv.opD_su,Dv.opD_mi,Dv.opD_ml,Dv.opD_mo,Dv.opD_fd,Dv.opD_po,Dv.opD_ba,Dv.opD_sh,h])
  | _=>exact .inr rfl
 | _=>exact .inr rfl
theorem os_shr:OpS C (binaryOp .RShift) (Dv.opD .shr):=opI_s op_shr fun d d'=>by
 cases d with
 | int i =>
  cases d' with
  | int j =>
   by_cases h:0<=j
   ·exact .inl ⟨i,j,.int (i/2 ^ j.toNat),rfl,rfl,h,by simp[Dv.opD_ai,Dv.opD_al,Dv.opD_su,Dv.opD_mi,Dv.opD_ml,Dv.opD_mo,Dv.opD_fd,Dv.opD_po,Dv.opD_ba,Dv.opD_sh,h],rfl,fun _ _=>rp_int⟩
   ·exact .inr (by simp[Dv.opD_ai,Dv.opD_al,Dv.opD_su,Dv.opD_mi,Dv.opD_ml,Dv.opD_mo,Dv.opD_fd,Dv.opD_po,Dv.opD_ba,Dv.opD_sh,h])
  | _=>exact .inr rfl
 | _=>exact .inr rfl
noncomputable def rCatX (K:PySem.W.Frag):R2:=fun x y H Q=>∃ l b xs zs,x=.ref l/\y=.ref b/\SqX K H l xs/\SqX K H b zs/\xs.length+zs.length<=sizeLine/\∀ p,H p=none->Q (.ref p) (upd H p (.lst (xs++zs)))
theorem op_catX {X:Cx}:OpR X (binaryOp .Add) (rCatX X.K):=by
 intro pins s σ H x y v u Q I rx ry h
 obtain⟨l,b,xs,zs,rfl,rfl,hH,hB,hz,q⟩:=h
 cases rx
 cases ry
 obtain⟨its,n,r,e,z⟩:=Inv.listX I hH
 obtain⟨its2,n2,r2,e2,z2⟩:=Inv.listX I hB
 have hl:=r.length
 have hl2:=r2.length
 refine PySem.P.add_list e e2 ?_ (by rw[List.size_toArray,List.size_toArray]; omega)
 have ea:its.toArray++its2.toArray=(its++its2).toArray:=by simp
 rw[ea]
 exact⟨.ref _,_,I.lnew (t':=s.toks) (r.append r2) (by rw[List.length_append]; omega),rfl,q _ I.fresh⟩
theorem os_add:OpS C (binaryOp .Add) (Dv.opD .add):=by
 refine⟨_,OpR.or op_add op_catX,fun x y d d' H Hv H1 Hv1 W Q e rx ry q=>?_⟩
 cases d with
 | int i =>
  cases d' with
  | int j =>
   unfold Rp at rx ry
   exact .inl ⟨i,j,rx,ry,(show Ok _ _ _ _ _ (.ok (.int (i+j)) true) Q from q).at e rp_int rfl⟩
  | _=>exact(show False from q).elim
 | lst xs =>
  cases d' with
  | lst ys =>
   unfold Rp at rx ry
   obtain⟨l,vs,rfl,h1,h2⟩:=rx
   obtain⟨m,ws,rfl,h3,h4⟩:=ry
   by_cases hz:xs.length+ys.length<=Dv.mx
   ·have q':Ok C.X.K Hv H W C.cls (.ok (.lst (xs++ys)) (Dv.flatL xs&&Dv.flatL ys)) Q:=by simpa[Dv.opD_ai,Dv.opD_al,Dv.opD_su,Dv.opD_mi,Dv.opD_ml,Dv.opD_mo,Dv.opD_fd,Dv.opD_po,Dv.opD_ba,Dv.opD_sh,hz] using q
    refine .inr ⟨l,m,vs,ws,rfl,rfl,h1.same e.vh,h3.same e.vh,?_,fun p hp=>Ok.newL q' e (h2.append h4) (fun z=>?_) p hp⟩
    ·rw[h2.length,h4.length]; exact mx_line hz
    ·rw[Bool.and_eq_true] at z
     exact(h2.flat z.1).append (h4.flat z.2)
   ·have q':False:=by simpa[Dv.opD_ai,Dv.opD_al,Dv.opD_su,Dv.opD_mi,Dv.opD_ml,Dv.opD_mo,Dv.opD_fd,Dv.opD_po,Dv.opD_ba,Dv.opD_sh,hz,Ok] using q
    exact q'.elim
  | _=>exact(show False from q).elim
 | _=>exact(show False from q).elim
theorem bits_eq (i:Int):Builtin.Int.intBits i=Dv.bits i:=by
 unfold Builtin.Int.intBits Dv.bits
 by_cases h:i=0
 ·simp[h]
 ·simp[h]
theorem mul_any:OpR C.X (binaryOp .Mult) (rI (fun i j=>Dv.mulOk i j=true) fun i j=>.int (i*j)):=opI fun i j _ _ _ _ _ hc q=>by
 refine mul_int q ?_
 unfold Dv.mulOk at hc
 simp only[Bool.or_eq_true,Bool.and_eq_true,decide_eq_true_eq,<- bits_eq] at hc
 rcases hc with (hc|hc)|hc
 ·exact .of_left hc
 ·exact .of_right hc
 ·exact .of_bits (by simpa using hc.1) (by simpa using hc.2)
noncomputable def rRepX (K:PySem.W.Frag):R2:=fun x y H Q=>∃ l k xs,x=.ref l/\y=.int k/\SqX K H l xs/\-(2 ^ 63)<=k/\k<2 ^ 63/\xs.length*k.toNat<=sizeLine /\
 ∀ p,H p=none->Q (.ref p) (upd H p (.lst (List.replicate k.toNat xs).flatten))
theorem op_repX {X:Cx}:OpR X (binaryOp .Mult) (rRepX X.K):=by
 intro pins s σ H x y v u Q I rx ry h
 obtain⟨l,k,xs,rfl,rfl,hH,h1,h2,hz,q⟩:=h
 cases rx
 obtain⟨t,rfl⟩:=ry
 obtain⟨its,n,r,e,z⟩:=Inv.listX I hH
 have hl:=r.length
 have hlen:its.toArray.size*k.toNat<=sizeLine:=by rw[List.size_toArray,<- hl]; exact hz
 have hcap:¬ its.toArray.size*k.toNat > (2 ^ 63-1)/8:=by
  have:(sizeLine:Nat)<=(2 ^ 63-1)/8:=by decide
  omega
 have hfit:¬ (!Builtin.List.listFitsIndex k)=true:=by
  rw[fitsIndex_both h1 h2]
  exact Bool.false_ne_true
 have hlong:¬ Builtin.List.listTooLong (its.toArray.size*k.toNat)=true:=by
  rw[notLongL hlen]
  exact Bool.false_ne_true
 have hnew:List.foldl (fun x1 x2=>x1++x2) #[] (List.replicate (if its.toArray.isEmpty=true then 0 else k.toNat) its.toArray)=(List.replicate k.toNat its).flatten.toArray:=by
  have f0:∀ m:Nat,List.foldl (fun x1 x2=>x1++x2) #[] (List.replicate m its.toArray)=(List.replicate m its).flatten.toArray:=fun m=>by
   have:=foldl_rep its m []
   rw[List.nil_append] at this
   exact this
  rw[f0]
  cases its with
  | nil=>simp
  | cons a r'=>rw[if_neg (by simp)]
 refine wpAny_binaryOp_repeat_ref (T:="list") (U:="int") (by decide) ⟨_,e,rfl⟩ (fun s'=>typeIs_int s' k t) noFill_list_mul F.fills_int_mul F.slot_int_rmul repeat_list F.slot_int_index.lookup
  (call_meets F.slot_int_rmul (typeIs_int s k t) F.entry_int_rmul (F.args_int_rmul_2 _ _) (int___rmul___int_list k t l its.toArray n)
   ⟨e,rfl,⟨_,e,rfl⟩,call_meets F.slot_list_mul ⟨_,e,rfl⟩ F.entry_list_mul (F.args_list_mul_2 _ _) (AutoListH.list___mul___list_int_3 l its.toArray n k t hfit hcap hlong) ⟨e,?_⟩⟩)
 rw[hnew]
 exact⟨.ref _,_,I.lnew (t':=s.toks) (r.rep k.toNat) (by rw[len_rep,Nat.mul_comm]; exact hz),rfl,q _ I.fresh⟩
theorem RpL.rep {K:PySem.W.Frag}{H:Hp}{ds:List D}{vs:List V}(h:RpL K H ds vs):∀ k:Nat,RpL K H (List.replicate k ds).flatten (List.replicate k vs).flatten
 | 0=>.nil
 | k+1=>by
  rw[List.replicate_succ,List.replicate_succ,List.flatten_cons,List.flatten_cons]
  exact h.append (RpL.rep h k)
theorem os_mul:OpS C (binaryOp .Mult) (Dv.opD .mul):=by
 refine⟨_,OpR.or mul_any op_repX,fun x y d d' H Hv H1 Hv1 W Q e rx ry q=>?_⟩
 cases d with
 | int i =>
  cases d' with
  | int j =>
   unfold Rp at rx ry
   by_cases h:Dv.mulOk i j=true
   ·have q':Ok C.X.K Hv H W C.cls (.ok (.int (i*j)) true) Q:=by simpa[Dv.opD_ai,Dv.opD_al,Dv.opD_su,Dv.opD_mi,Dv.opD_ml,Dv.opD_mo,Dv.opD_fd,Dv.opD_po,Dv.opD_ba,Dv.opD_sh,h] using q
    exact .inl ⟨i,j,rx,ry,h,q'.at e rp_int rfl⟩
   ·have q':False:=by simpa[Dv.opD_ai,Dv.opD_al,Dv.opD_su,Dv.opD_mi,Dv.opD_ml,Dv.opD_mo,Dv.opD_fd,Dv.opD_po,Dv.opD_ba,Dv.opD_sh,h,Ok] using q
    exact q'.elim
  | _=>exact(show False from q).elim
 | lst xs =>
  cases d' with
  | int j =>
   unfold Rp at rx ry
   obtain⟨l,vs,rfl,h1,h2⟩:=rx
   subst ry
   by_cases hz:(decide (-100000<=j)&&decide (j<=Dv.mx)&&decide (xs.length*j.toNat<=Dv.mx))=true
   ·have q':Ok C.X.K Hv H W C.cls (.ok (.lst (List.replicate j.toNat xs).flatten) (Dv.flatL xs)) Q:=by
     simp only[Dv.opD_ai,Dv.opD_al,Dv.opD_su,Dv.opD_mi,Dv.opD_ml,Dv.opD_mo,Dv.opD_fd,Dv.opD_po,Dv.opD_ba,Dv.opD_sh,hz,if_true] at q; exact q
    simp only[Bool.and_eq_true,decide_eq_true_eq] at hz
    have hj:j<=100000:=hz.1.2
    have hj0:-100000<=j:=hz.1.1
    refine .inr ⟨l,j,vs,rfl,rfl,h1.same e.vh,by omega,by omega,?_,fun p hp=>Ok.newL q' e (h2.rep _) (fun z=>?_) p hp⟩
    ·rw[h2.length]; exact mx_line hz.2
    ·exact(h2.flat z).rep _
   ·simp only[Dv.opD_ai,Dv.opD_al,Dv.opD_su,Dv.opD_mi,Dv.opD_ml,Dv.opD_mo,Dv.opD_fd,Dv.opD_po,Dv.opD_ba,Dv.opD_sh,hz] at q
    exact(show False from q).elim
  | _=>exact(show False from q).elim
 | _=>exact(show False from q).elim
theorem os_lt:OpS C (compareOp .Lt) (Dv.cmD .lt):=opI0_s op_lt fun d d'=>by
 cases d <;>first
  | exact .inr rfl
  | (cases d' <;>first|exact .inr rfl|exact .inl ⟨_,_,_,rfl,rfl,rfl,rfl,fun _ _=>rp_bl⟩)
theorem os_le:OpS C (compareOp .LtE) (Dv.cmD .le):=opI0_s op_le fun d d'=>by
 cases d <;>first
  | exact .inr rfl
  | (cases d' <;>first|exact .inr rfl|exact .inl ⟨_,_,_,rfl,rfl,rfl,rfl,fun _ _=>rp_bl⟩)
theorem os_gt:OpS C (compareOp .Gt) (Dv.cmD .gt):=opI0_s op_gt fun d d'=>by
 cases d <;>first
  | exact .inr rfl
  | (cases d' <;>first|exact .inr rfl|exact .inl ⟨_,_,_,rfl,rfl,rfl,rfl,fun _ _=>rp_bl⟩)
theorem os_ge:OpS C (compareOp .GtE) (Dv.cmD .ge):=opI0_s op_ge fun d d'=>by
 cases d <;>first
  | exact .inr rfl
  | (cases d' <;>first|exact .inr rfl|exact .inl ⟨_,_,_,rfl,rfl,rfl,rfl,fun _ _=>rp_bl⟩)
mutual
noncomputable def pd:D->PyData
 | .non=>.none
 | .bl b=>.bool b
 | .int i=>.int i
 | .str x=>.str ⟨(Dv.clipS x).toArray⟩
 | .lst ds=>.list (pdL ds)
 | .tup ds=>.tuple (pdL ds)
 | .exn _=>.none
 | .raw _=>.none
 | .tab _=>.none
 | .dct _ _=>.none
 | .ins _ _=>.none
noncomputable def pdL:List D->List PyData
 | []=>[]
 | d::r=>pd d::pdL r
end
mutual
theorem pd_lay:∀ d:D,(pd d).canLay0=true
 | .non=>by simp[pd,PyData.canLay0]
 | .bl _=>by simp[pd,PyData.canLay0]
 | .int _=>by simp[pd,PyData.canLay0]
 | .str x=>by
  have:∀ n:Nat,n%1114112<1114112:=fun n=>Nat.mod_lt _ (by decide)
  simp[pd,PyData.canLay0,PyData.strOk,Dv.clipS,this]
 | .lst ds=>by simp[pd,PyData.canLay0,pdL_lay ds]
 | .tup ds=>by simp[pd,PyData.canLay0,pdL_lay ds]
 | .exn _=>by simp[pd,PyData.canLay0]
 | .raw _=>by simp[pd,PyData.canLay0]
 | .tab _=>by simp[pd,PyData.canLay0]
 | .dct _ _=>by simp[pd,PyData.canLay0]
 | .ins _ _=>by simp[pd,PyData.canLay0]
theorem pdL_lay:∀ ds:List D,PyData.canLayAll0 (pdL ds)=true
 | []=>by simp[pdL,PyData.canLayAll0]
 | d::r=>by simp[pdL,PyData.canLayAll0,pd_lay d,pdL_lay r]
end
mutual
theorem pd_depth:∀ d:D,(pd d).depth<=Dv.depthD d
 | .non=>by simp[pd,PyData.depth,Dv.depthD]
 | .bl _=>by simp[pd,PyData.depth,Dv.depthD]
 | .int _=>by simp[pd,PyData.depth,Dv.depthD]
 | .str _=>by simp[pd,PyData.depth,Dv.depthD]
 | .lst ds=>by have:=pdL_depth ds; simp[pd,PyData.depth,Dv.depthD]; omega
 | .tup ds=>by have:=pdL_depth ds; simp[pd,PyData.depth,Dv.depthD]; omega
 | .exn _=>by simp[pd,PyData.depth,Dv.depthD]
 | .raw _=>by simp[pd,PyData.depth,Dv.depthD]
 | .tab _=>by simp[pd,PyData.depth,Dv.depthD]
 | .dct _ _=>by simp[pd,PyData.depth,Dv.depthD]
 | .ins _ _=>by simp[pd,PyData.depth,Dv.depthD]
theorem pdL_depth:∀ ds:List D,PyData.depthAll (pdL ds)<=Dv.depthL ds
 | []=>by simp[pdL,PyData.depthAll,Dv.depthL]
 | d::r=>by have:=pd_depth d; have:=pdL_depth r; simp[pdL,PyData.depthAll,Dv.depthL]; omega
end
mutual
theorem eqv_of:∀ (a b:D) (r:Bool),Dv.eqD a b=some r->PyData.eqv (pd a) (pd b)=r
 | .non,b,r,h=>by
  cases b with
  | non=>cases (show some true=some r from h); simp[pd,PyData.eqv]
  | _=>exact(nomatch (show (none:Option Bool)=some r from h))
 | .bl p,b,r,h=>by
  cases b with
  | bl q=>cases (show some (p == q)=some r from h); simp[pd,PyData.eqv]
  | _=>exact(nomatch (show (none:Option Bool)=some r from h))
 | .int p,b,r,h=>by
  cases b with
  | int q=>cases (show some (decide (p=q))=some r from h); simp[pd,PyData.eqv,Bool.beq_eq_decide_eq]
  | _=>exact(nomatch (show (none:Option Bool)=some r from h))
 | .str p,b,r,h=>by
  cases b with
  | str q=>cases (show some (decide (Dv.clipS p=Dv.clipS q))=some r from h); simp[pd,PyData.eqv,Bool.beq_eq_decide_eq]
  | _=>exact(nomatch (show (none:Option Bool)=some r from h))
 | .lst xs,b,r,h=>by
  cases b with
  | lst ys =>
   have h:Dv.eqDL xs ys=some r:=h
   simp only[pd,PyData.eqv]
   exact eqvL_of _ _ _ h
  | _=>exact(nomatch (show (none:Option Bool)=some r from h))
 | .tup xs,b,r,h=>by
  cases b with
  | tup ys =>
   have h:Dv.eqDL xs ys=some r:=h
   simp only[pd,PyData.eqv]
   exact eqvL_of _ _ _ h
  | _=>exact(nomatch (show (none:Option Bool)=some r from h))
 | .exn _,b,r,h=>by cases b <;>exact(nomatch (show (none:Option Bool)=some r from h))
 | .raw _,b,r,h=>by cases b <;>exact(nomatch (show (none:Option Bool)=some r from h))
 | .tab _,b,r,h=>by cases b <;>exact(nomatch (show (none:Option Bool)=some r from h))
 | .dct _ _,b,r,h=>by cases b <;>exact(nomatch (show (none:Option Bool)=some r from h))
theorem eqvL_of:∀ (a b:List D) (r:Bool),Dv.eqDL a b=some r->PyData.eqvAll (pdL a) (pdL b)=r
 | [],[],r,h=>by simp[Dv.eqDL] at h; subst h; simp[pdL,PyData.eqvAll]
 | [],_::_,r,h=>by simp[Dv.eqDL] at h; subst h; simp[pdL,PyData.eqvAll]
 | _::_,[],r,h=>by simp[Dv.eqDL] at h; subst h; simp[pdL,PyData.eqvAll]
 | x::xs,y::ys,r,h=>by
  simp only[Dv.eqDL] at h
  cases h1:Dv.eqD x y with
  | none=>rw[h1] at h; cases h
  | some p =>
   cases h2:Dv.eqDL xs ys with
   | none=>rw[h1,h2] at h; cases h
   | some q =>
    rw[h1,h2] at h
    cases h
    simp only[pdL,PyData.eqvAll,eqv_of x y p h1,eqvL_of xs ys q h2]
end
mutual
theorem reads_of {X:Cx}{pins:List (Addr × Obj)}{σ:St}{H:Hp}{s:Shared}(I:Inv X pins σ H s):∀ (d:D) (v:V) (u:Value),Rp X.K H d v->RelV v u->Dv.depthD d<=9->∃ as,Reads s.heap u (pd d) as
 | .non,v,u,h,r,_=>by unfold Rp at h; subst h; cases r; unfold pd; exact⟨_,.none⟩
 | .bl b,v,u,h,r,_=>by unfold Rp at h; subst h; cases r; unfold pd; exact⟨_,.bool b⟩
 | .int i,v,u,h,r,_=>by unfold Rp at h; subst h; obtain⟨t,rfl⟩:=r; unfold pd; exact⟨_,.int i t⟩
 | .str x,v,u,h,r,_=>by unfold Rp at h; subst h; obtain⟨t,rfl⟩:=r; unfold pd; exact⟨_,.str _ t⟩
 | .exn _,v,u,h,r,hd=>by unfold Dv.depthD at hd; omega
 | .raw _,v,u,h,r,hd=>by unfold Dv.depthD at hd; omega
 | .tab _,v,u,h,r,hd=>by unfold Dv.depthD at hd; omega
 | .dct _ _,v,u,h,r,hd=>by unfold Dv.depthD at hd; omega
 | .lst ds,v,u,h,r,hd=>by
  unfold Rp at h
  unfold Dv.depthD at hd
  obtain⟨a,vs,rfl,h1,h2⟩:=h
  cases r
  obtain⟨its,n,rv,e,_⟩:=Inv.listX I h1
  obtain⟨as,ra⟩:=readsL_of I ds vs its h2 rv (by omega)
  unfold pd
  exact⟨_,.list e rfl rfl (by simpa using ra)⟩
 | .tup ds,v,u,h,r,hd'=>by
  unfold Rp at h
  unfold Dv.depthD at hd'
  obtain⟨a,vs,rfl,h1,h2⟩:=h
  cases r
  obtain⟨_,its,rv,o,e,hc,n,hd⟩:=h1.ok I.hok
  obtain⟨as,ra⟩:=readsL_of I ds vs its h2 rv (by omega)
  unfold pd
  exact⟨_,.tuple e hc hd (by simpa using ra)⟩
theorem readsL_of {X:Cx}{pins:List (Addr × Obj)}{σ:St}{H:Hp}{s:Shared}(I:Inv X pins σ H s):∀ (ds:List D) (vs:List V) (us:List Value),RpL X.K H ds vs->Vals vs us->Dv.depthL ds<=9->∃ as,ReadsAll s.heap us (pdL ds) as
 | [],vs,us,h,r,_=>by unfold RpL at h; subst h; cases r; unfold pdL; exact⟨_,.nil⟩
 | d::ds,vs,us,h,r,hd=>by
  unfold RpL at h
  unfold Dv.depthL at hd
  obtain⟨v,ws,rfl,h1,h2⟩:=h
  cases r with
  | cons r1 r2 =>
   obtain⟨as,ra⟩:=reads_of I d v _ h1 r1 (by omega)
   obtain⟨bs,rb⟩:=readsL_of I ds ws _ h2 r2 (by omega)
   unfold pdL
   exact⟨_,.cons ra rb⟩
end
noncomputable def rEqD (K:PySem.W.Frag)(neg:Bool):R2:=fun x y H Q=>∃ d d' b,Rp K H d x/\Rp K H d' y/\Dv.depthD d<=9/\Dv.depthD d'<=9/\Dv.eqD d d'=some b/\Q (.bl (if neg then !b else b)) H
theorem op_eqD (hu:C.X.A.units+64<cLine):OpR C.X (compareOp .Eq) (rEqD C.X.K false):=by
 intro pins s σ H x y v u Q I rx ry h
 obtain⟨d,d',b,h1,h2,z1,z2,e,q⟩:=h
 obtain⟨as,ra⟩:=reads_of I d x v h1 rx z1
 obtain⟨bs,rb⟩:=reads_of I d' y u h2 ry z2
 refine SeqAt.compareEq_reads ra rb (pd_lay d) (pd_lay d') ?_ ⟨.bl b,H,I,?_,q⟩
 ·have:=pd_depth d
  have:=pd_depth d'
  have:=Nat.min_le_left (pd d).depth (pd d').depth
  omega
 ·rw[eqv_of _ _ _ e]; rfl
theorem op_neD (hu:C.X.A.units+64<cLine):OpR C.X (compareOp .NotEq) (rEqD C.X.K true):=by
 intro pins s σ H x y v u Q I rx ry h
 obtain⟨d,d',b,h1,h2,z1,z2,e,q⟩:=h
 obtain⟨as,ra⟩:=reads_of I d x v h1 rx z1
 obtain⟨bs,rb⟩:=reads_of I d' y u h2 ry z2
 refine SeqAt.compareNe_reads ra rb (pd_lay d) (pd_lay d') ?_ ⟨.bl (!b),H,I,?_,q⟩
 ·have:=pd_depth d
  have:=pd_depth d'
  have:=Nat.min_le_left (pd d).depth (pd d').depth
  omega
 ·rw[eqv_of _ _ _ e]; rfl
theorem os_eq:OpS C (compareOp .Eq) (Dv.cmD .eq):=by
 refine⟨_,op_eqD C.un,fun x y d d' H Hv H1 Hv1 W Q e rx ry q=>?_⟩
 simp only[Dv.cmD_eq,Dv.cmD_ne,Dv.cmD_lt,Dv.cmD_le,Dv.cmD_gt,Dv.cmD_ge,Dv.cmD_in,Dv.cmD_ni,Dv.cmD_it,Dv.cmD_nt] at q
 by_cases hz:(decide (Dv.depthD d<=9)&&decide (Dv.depthD d'<=9))=true
 ·rw[if_pos hz] at q
  simp only[Bool.and_eq_true,decide_eq_true_eq] at hz
  cases he:Dv.eqD d d' with
  | none=>rw[he] at q; exact(show False from q).elim
  | some b =>
   rw[he] at q
   exact⟨d,d',b,rx.same e.vh,ry.same e.vh,hz.1,hz.2,he,Ok.at (d:=.bl b) (fr:=true) q e rp_bl rfl⟩
 ·rw[if_neg hz] at q; exact(show False from q).elim
theorem os_ne:OpS C (compareOp .NotEq) (Dv.cmD .ne):=by
 refine⟨_,op_neD C.un,fun x y d d' H Hv H1 Hv1 W Q e rx ry q=>?_⟩
 simp only[Dv.cmD_eq,Dv.cmD_ne,Dv.cmD_lt,Dv.cmD_le,Dv.cmD_gt,Dv.cmD_ge,Dv.cmD_in,Dv.cmD_ni,Dv.cmD_it,Dv.cmD_nt] at q
 by_cases hz:(decide (Dv.depthD d<=9)&&decide (Dv.depthD d'<=9))=true
 ·rw[if_pos hz] at q
  simp only[Bool.and_eq_true,decide_eq_true_eq] at hz
  cases he:Dv.eqD d d' with
  | none=>rw[he] at q; exact(show False from q).elim
  | some b =>
   rw[he] at q
   exact⟨d,d',b,rx.same e.vh,ry.same e.vh,hz.1,hz.2,he,Ok.at (d:=.bl (!b)) (fr:=true) q e rp_bl rfl⟩
 ·rw[if_neg hz] at q; exact(show False from q).elim
theorem in_ints:∀ (i:Int) (ds:List D) (vs:List V) (b:Bool) {K:PySem.W.Frag} {H:Hp},Dv.inD i ds=some b->RpL K H ds vs->vs.all flatV=true/\inV (.int i) vs=b
 | i,[],vs,b,K,H,h,r=>by
  unfold RpL at r; subst r
  simp[Dv.inD] at h; subst h
  exact⟨rfl,rfl⟩
 | i,d::ds,vs,b,K,H,h,r=>by
  unfold RpL at r
  obtain⟨v,ws,rfl,h1,h2⟩:=r
  cases d with
  | int j =>
   simp only[Dv.inD,Option.map_eq_some_iff] at h
   obtain⟨c,hc,rfl⟩:=h
   obtain⟨z1,z2⟩:=in_ints i ds ws c hc h2
   unfold Rp at h1
   subst h1
   refine⟨by simp[flatV,z1],?_⟩
   have:inV (.int i) (.int j::ws)=(eqV (.int j) (.int i) || inV (.int i) ws):=rfl
   rw[this,z2]
   show ((j == i) || c)=(decide (j=i) || c)
   rw[Bool.beq_eq_decide_eq]
  | _=>simp[Dv.inD] at h
theorem os_notin:OpS C (compareOp .NotIn) (Dv.cmD .notin):=by
 refine⟨_,op_notIn_seq,fun x y d d' H Hv H1 Hv1 W Q e rx ry q=>?_⟩
 cases d with
 | int i =>
  cases d' with
  | lst ds =>
   simp only[Dv.cmD_eq,Dv.cmD_ne,Dv.cmD_lt,Dv.cmD_le,Dv.cmD_gt,Dv.cmD_ge,Dv.cmD_in,Dv.cmD_ni,Dv.cmD_it,Dv.cmD_nt] at q
   cases hi:Dv.inD i ds with
   | none=>rw[hi] at q; exact(show False from q).elim
   | some b =>
    rw[hi] at q
    unfold Rp at rx ry
    subst rx
    obtain⟨l,vs,rfl,h1,h2⟩:=ry
    obtain⟨z1,z2⟩:=in_ints i ds vs b hi h2
    refine⟨l,vs,rfl,.inl (h1.same e.vh).seq,rfl,z1,?_⟩
    rw[z2]
    exact Ok.at (d:=.bl (!b)) (fr:=true) q e rp_bl rfl
  | _=>exact(show False from q).elim
 | _=>exact(show False from q).elim
theorem at_atI {ds:List D}{vs:List V}{K:PySem.W.Frag}{H:Hp}{i:Int}{d:D}(r:RpL K H ds vs)(h:Dv.at? ds i=some d):∃ v,atI vs i=some v/\Rp K H d v:=by
 unfold Dv.at? at h
 unfold atI ixN
 have hl:=r.length
 by_cases h0:0<=i
 ·rw[if_pos h0] at h
  obtain⟨v,h1,h2⟩:=r.get h
  have hlt:i.toNat<vs.length:=(List.getElem?_eq_some_iff.mp h1).1
  refine⟨v,?_,h2⟩
  rw[if_pos h0,if_pos (by omega)]
  exact h1
 ·rw[if_neg h0] at h
  by_cases h1:-(ds.length:Int)<=i
  ·rw[if_pos h1] at h
   obtain⟨v,h2,h3⟩:=r.get h
   refine⟨v,?_,h3⟩
   rw[if_neg h0,if_pos (by omega)]
   rw[hl]
   exact h2
  ·rw[if_neg h1] at h; cases h
theorem item_of {K:PySem.W.Frag}{H Hv H2 Hv2:Hp}{ds:List D}{v:V}{fr:Bool}{k:Int}{d:D}(x:Ext Hv H Hv2 H2)(hk:Dv.at? ds k=some d) :
  (Rp K Hv2 (.lst ds) v->(fr=true->Rp [] (Hnew H H2) (.lst ds) v)->∃ l vs u,v=.ref l/\SqX K H2 l vs/\atI vs k=some u/\Rp K Hv2 d u/\((fr || Dv.scal d)=true->Rp [] (Hnew H H2) d u)) /\
  (Rp K Hv2 (.tup ds) v->(fr=true->Rp [] (Hnew H H2) (.tup ds) v)->∃ l vs u,v=.ref l/\Rd H2 l (.tup vs)/\atI vs k=some u/\Rp K Hv2 d u/\((fr || Dv.scal d)=true->Rp [] (Hnew H H2) d u)):=by
 constructor
 ·intro rp n
  cases fr with
  | true =>
   have rn:=n rfl
   unfold Rp at rn
   obtain⟨l,vs,rfl,h1,h2⟩:=rn
   obtain⟨u,h3,h4⟩:=at_atI h2 hk
   refine⟨l,vs,u,rfl,?_,h3,(Rp.frag h4).same x.news,fun _=>h4⟩
   rcases h1 with h1|⟨its,n,e,_⟩
   ·exact .inl (Rd.same Hnew.sub h1)
   ·simp at e
  | false =>
   unfold Rp at rp
   obtain⟨l,vs,rfl,h1,h2⟩:=rp
   obtain⟨u,h3,h4⟩:=at_atI h2 hk
   exact⟨l,vs,u,rfl,h1.same x.vh,h3,h4,fun z=>h4.scal (by simpa using z)⟩
 ·intro rp n
  cases fr with
  | true =>
   have rn:=n rfl
   unfold Rp at rn
   obtain⟨l,vs,rfl,h1,h2⟩:=rn
   obtain⟨u,h3,h4⟩:=at_atI h2 hk
   exact⟨l,vs,u,rfl,Rd.same Hnew.sub h1,h3,(Rp.frag h4).same x.news,fun _=>h4⟩
  | false =>
   unfold Rp at rp
   obtain⟨l,vs,rfl,h1,h2⟩:=rp
   obtain⟨u,h3,h4⟩:=at_atI h2 hk
   exact⟨l,vs,u,rfl,Rd.same x.vh h1,h3,h4,fun z=>h4.scal (by simpa using z)⟩
theorem se_ix (ha:SE C a f)(hb:SE C b g)(hs:autoParam (PlainIx b) Au.h8._auto_1):SE C (.Subscript a b pos) (Dv.eIx f g):=by
 obtain⟨ta,pa,qa⟩:=ha
 obtain⟨tb,pb,qb⟩:=hb
 refine⟨_,pe_ix (ix_list.or ix_tup) pa pb hs,fun σ H Hv ρ Q e s w=>?_⟩
 refine qa.step e (.refl s) w fun v d fr Hv1 H1 _ x1 _ rp1 n1 q1=>qb.step e x1 q1 fun v2 d2 fr2 Hv2 H2 _ x2 y2 rp2 _ q2=>?_
 have rp:=rp1.same y2.vv
 have rn:fr=true->Rp [] (Hnew H H2) d v:=fun z=>(n1 z).same (Hnew.mono (.refl _) y2.hh)
 cases d2 with
 | int k =>
  unfold Rp at rp2
  cases d with
  | lst ds =>
   have q3:Ok C.X.K Hv H (C.W σ) C.cls (match Dv.at? ds k with|some d=>.ok d (fr || Dv.scal d)|none=>.bad) Q:=q2
   cases hk:Dv.at? ds k with
   | none=>rw[hk] at q3; exact(show False from q3).elim
   | some d =>
    rw[hk] at q3
    obtain⟨l,vs,u,e1,h1,h2,h3,h4⟩:=(item_of (fr:=fr) x2 hk).1 rp rn
    exact .inl ⟨l,vs,k,u,e1,rp2,h1.seq,h2,q3 u Hv2 H2 x2 h3 h4⟩
  | tup ds =>
   have q3:Ok C.X.K Hv H (C.W σ) C.cls (match Dv.at? ds k with|some d=>.ok d (fr || Dv.scal d)|none=>.bad) Q:=q2
   cases hk:Dv.at? ds k with
   | none=>rw[hk] at q3; exact(show False from q3).elim
   | some d =>
    rw[hk] at q3
    obtain⟨l,vs,u,e1,h1,h2,h3,h4⟩:=(item_of (fr:=fr) x2 hk).2 rp rn
    exact .inr ⟨l,vs,k,u,e1,rp2,.inl h1,h2,q3 u Hv2 H2 x2 h3 h4⟩
  | _=>exact(show False from q2).elim
 | _=>cases d <;>exact(show False from q2).elim
noncomputable def C1S (C:Ctx)(fv:Value)(F:D->Bool->R):Prop :=
 ∃ r,CallR C.X fv r/\∀ x d fr H Hv H1 Hv1 W Q,Ext Hv H Hv1 H1->Rp C.X.K Hv1 d x->(fr=true->Rp [] (Hnew H H1) d x)->Ok C.X.K Hv H W C.cls (F d fr) Q->r [x] H1 Q
theorem se_b1 {x:Str}{p:Pos}{id:String}{F:D->Bool->R}(o:C1S C (.builtin id) F)(hg:Gl C.X x)(hm:C.X.mg x=none)(hv:bootBuiltins x=some (.builtin id))(ha:SE C a f)
  (hn:autoParam (x≠"__name__") Au.h2._auto_1) (hdb:autoParam ((x == ("__debug__":Str))=false) Au.h2._auto_1) (he:autoParam (starEach [a] C.X.env=[(false,eval a C.X.env)]) Au.h5._auto_1):SE C (.Call (.Name x p) [a] [] pos) (Dv.eB1 F f):=by
 obtain⟨r,ho,hr⟩:=o
 obtain⟨t,pa,qa⟩:=ha
 refine⟨_,pe_callB ho hg hm hv (pa_cons pa pa_nil he) hn hdb he rfl,fun σ H Hv ρ Q e s w=>?_⟩
 exact qa.step e (.refl s) w fun v d fr Hv1 H1 _ x1 _ rp1 n1 q1=>hr v d fr H Hv H1 Hv1 _ Q x1 rp1 n1 q1
theorem se_t1 {x:Str}{p:Pos}{id:String}{F:D->Bool->R}(o:C1S C (.type id) F)(hg:Gl C.X x)(hm:C.X.mg x=none)(hv:bootBuiltins x=some (.type id))(ha:SE C a f)
  (hn:autoParam (x≠"__name__") Au.h2._auto_1) (hdb:autoParam ((x == ("__debug__":Str))=false) Au.h2._auto_1) (he:autoParam (starEach [a] C.X.env=[(false,eval a C.X.env)]) Au.h5._auto_1):SE C (.Call (.Name x p) [a] [] pos) (Dv.eB1 F f):=by
 obtain⟨r,ho,hr⟩:=o
 obtain⟨t,pa,qa⟩:=ha
 refine⟨_,pe_callTy ho hg hm hv (pa_cons pa pa_nil he) hn hdb he rfl,fun σ H Hv ρ Q e s w=>?_⟩
 exact qa.step e (.refl s) w fun v d fr Hv1 H1 _ x1 _ rp1 n1 q1=>hr v d fr H Hv H1 Hv1 _ Q x1 rp1 n1 q1
theorem c1_len:C1S C (.builtin "len") Dv.lenD:=by
 refine⟨_,call_len_seq,fun x d fr H Hv H1 Hv1 W Q e rx n q=>?_⟩
 cases d with
 | lst ds =>
  unfold Rp at rx
  obtain⟨l,vs,rfl,h1,h2⟩:=rx
  refine⟨l,vs,rfl,.inl (h1.same e.vh).seq,?_⟩
  rw[h2.length]
  exact Ok.at (d:=.int ds.length) (fr:=true) q e rp_int rfl
 | tup ds =>
  unfold Rp at rx
  obtain⟨l,vs,rfl,h1,h2⟩:=rx
  refine⟨l,vs,rfl,.inr (.inl (Rd.same e.vh h1)),?_⟩
  rw[h2.length]
  exact Ok.at (d:=.int ds.length) (fr:=true) q e rp_int rfl
 | _=>exact(show False from q).elim
theorem c1_list:C1S C (.type "list") Dv.listD:=by
 refine⟨_,call_list_of,fun x d fr H Hv H1 Hv1 W Q e rx n q=>?_⟩
 cases d with
 | lst ds =>
  cases fr with
  | true =>
   have rn:=n rfl
   unfold Rp at rn
   obtain⟨l,vs,rfl,h1,h2⟩:=rn
   have h1':SqX C.X.K H1 l vs:=by
    rcases h1 with h1|⟨its,n,e,_⟩
    ·exact .inl (Rd.same Hnew.sub h1)
    ·simp at e
   exact⟨l,vs,rfl,.inl h1'.seq,fun p hp=>Ok.newL q e ((RpL.frag h2).same e.news) (fun _=>h2) p hp⟩
  | false =>
   unfold Rp at rx
   obtain⟨l,vs,rfl,h1,h2⟩:=rx
   exact⟨l,vs,rfl,.inl (h1.same e.vh).seq,fun p hp=>Ok.newL q e h2 (fun z=>h2.flat (by simpa using z)) p hp⟩
 | tup ds =>
  cases fr with
  | true =>
   have rn:=n rfl
   unfold Rp at rn
   obtain⟨l,vs,rfl,h1,h2⟩:=rn
   exact⟨l,vs,rfl,.inr (.inl (Rd.same Hnew.sub h1)),fun p hp=>Ok.newL q e ((RpL.frag h2).same e.news) (fun _=>h2) p hp⟩
  | false =>
   unfold Rp at rx
   obtain⟨l,vs,rfl,h1,h2⟩:=rx
   exact⟨l,vs,rfl,.inr (.inl (Rd.same e.vh h1)),fun p hp=>Ok.newL q e h2 (fun z=>h2.flat (by simpa using z)) p hp⟩
 | _=>exact(show False from q).elim
theorem ins_perm (i:Int):∀ l:List Int,(Dv.ins i l).Perm (i::l)
 | []=>.refl _
 | j::r=>by
  unfold Dv.ins
  split
  ·exact .refl _
  ·exact((ins_perm i r).cons j).trans (.swap i j r)
theorem isort_perm:∀ l:List Int,(Dv.isort l).Perm l
 | []=>.refl _
 | i::r=>(ins_perm i _).trans ((isort_perm r).cons i)
theorem ins_sorted (i:Int):∀ l:List Int,l.Pairwise (·<=·)->(Dv.ins i l).Pairwise (·<=·)
 | [],_=>by simp[Dv.ins]
 | j::r,h=>by
  unfold Dv.ins
  split
  ·rename_i hij
   refine List.pairwise_cons.mpr ⟨fun x hx=>?_,h⟩
   rcases List.mem_cons.mp hx with rfl|hx
   ·exact hij
   ·exact Int.le_trans hij ((List.pairwise_cons.mp h).1 x hx)
  ·rename_i hij
   refine List.pairwise_cons.mpr ⟨fun x hx=>?_,ins_sorted i r (List.pairwise_cons.mp h).2⟩
   rcases List.mem_cons.mp ((ins_perm i r).mem_iff.mp hx) with rfl|hx
   ·omega
   ·exact(List.pairwise_cons.mp h).1 x hx
theorem isort_sorted:∀ l:List Int,(Dv.isort l).Pairwise (·<=·)
 | []=>.nil
 | i::r=>ins_sorted i _ (isort_sorted r)
theorem sorted_uniq:∀ {a b:List Int},a.Perm b->a.Pairwise (·<=·)->b.Pairwise (·<=·)->a=b
 | [],b,p,_,_=>by simpa using p.symm.eq_nil
 | x::a,[],p,_,_=>absurd p.eq_nil (by simp)
 | x::a,y::b,p,ha,hb=>by
  have h1:=List.pairwise_cons.mp ha
  have h2:=List.pairwise_cons.mp hb
  have e:x=y:=by
   have hx:x∈y::b:=p.mem_iff.mp List.mem_cons_self
   have hy:y∈x::a:=p.mem_iff.mpr List.mem_cons_self
   rcases List.mem_cons.mp hx with e|hx
   ·exact e
   rcases List.mem_cons.mp hy with e|hy
   ·exact e.symm
   exact Int.le_antisymm (h1.1 y hy) (h2.1 x hx)
  subst e
  rw[sorted_uniq ((List.perm_cons x).mp p) h1.2 h2.2]
theorem vals_of_ints {vs:List Value}{ns:List Int}(h:IntsAre vs ns):Vals (ns.map V.int) vs:=by
 induction h with
 | nil=>exact .nil
 | cons n t _ ih=>exact .cons ⟨t,rfl⟩ ih
theorem call_sorted {X:Cx}:CallR X (.builtin "sorted") (fun xs H Q=>∃ p ns,xs=[.ref p]/\SqX X.K H p (ns.map V.int)/\ns.length<64/\∀ l,H l=none->Q (.ref l) (upd H l (.lst ((Dv.isort ns).map V.int)))):=by
 intro pins s σ H xs us Q I r h
 obtain⟨p,ns,rfl,hq,h64,q⟩:=h
 obtain⟨u,rfl,rx⟩:=vals1 r
 cases rx
 obtain⟨its,n,rv,e,z⟩:=Inv.listX I hq
 have hi:=intsAre_of rv
 have hl:=rv.length
 rw[List.length_map] at hl
 refine sorted_ints (ns:=ns) ⟨_,e,rfl,n,rfl⟩ hi (by omega) fun out ns' a1 a2 a3=>?_
 have e1:ns'=Dv.isort ns:=sorted_uniq (a2.trans (isort_perm ns).symm) a3 (isort_sorted ns)
 subst e1
 obtain⟨ep,hat⟩:=sortedAll_at s.heap its out
 have hf:H (s.heap.objs.size+1)=none:=I.hok.fresh (Nat.le_succ _)
 refine⟨.ref (s.heap.objs.size+1),_,I.laid (t':=s.toks) (o:=.lst ((Dv.isort ns).map V.int)) (fun b u q=>sortedAll_old q) (Nat.le_succ _) ?_,rfl,q _ hf⟩
 refine⟨?_,out.toList,ep,vals_of_ints a1,by simpa[seqObj] using hat⟩
 rw[List.length_map,(isort_perm ns).length_eq]
 rw[sizeLine_eq]; omega
theorem c1_sorted:C1S C (.builtin "sorted") Dv.sortedD:=by
 refine⟨_,call_sorted,fun x d fr H Hv H1 Hv1 W Q e rx n q=>?_⟩
 cases d with
 | lst ds =>
  simp only[Dv.sortedD] at q
  cases hi:Dv.intsOf ds with
  | none=>rw[hi] at q; exact(show False from q).elim
  | some ns =>
   rw[hi] at q
   by_cases h64:ns.length<64
   ·simp only[h64,if_true] at q
    unfold Rp at rx
    obtain⟨l,vs,rfl,h1,h2⟩:=rx
    have e1:=RpL.ints hi h2
    subst e1
    exact⟨l,ns,rfl,h1.same e.vh,h64,fun p hp=>Ok.newL q e (RpL.ofInts _) (fun _=>RpL.ofInts _) p hp⟩
   ·simp only[h64,if_false] at q
    exact(show False from q).elim
 | _=>exact(show False from q).elim
end
open Dv (D R RL EE EL EI RI Sl Out SS)
noncomputable def Nd (K:PySem.W.Frag)(Hc:Hp):D->HO->Prop
 | .lst ds,o=>∃ vs,o=.lst vs/\RpL K Hc ds vs
 | .dct ks ds,o=>∃ vs,o=.dK ((ks.map Sum.inl).zip vs)/\ks.length=ds.length/\RpL K Hc ds vs
 | _,_=>False
theorem Nd.same {K:PySem.W.Frag}{H H':Hp}{d:D}{o:HO}(e:Same H H')(h:Nd K H d o):Nd K H' d o:=by
 cases d with
 | lst ds=>obtain⟨vs,h1,h2⟩:=h; exact⟨vs,h1,h2.same e⟩
 | dct ks ds=>obtain⟨vs,h1,h2,h3⟩:=h; exact⟨vs,h1,h2,h3.same e⟩
 | _=>exact(show False from h).elim
theorem Nd.rp {K:PySem.W.Frag}{H:Hp}{d:D}{o:HO}{a:Addr}(h:Nd K H d o)(ha:H a=some o):Rp K H d (.ref a):=by
 cases d with
 | lst ds=>obtain⟨vs,rfl,h2⟩:=h; unfold Rp; exact⟨a,vs,rfl,SqX.of ha,h2⟩
 | dct ks ds=>obtain⟨vs,rfl,h2,h3⟩:=h; unfold Rp; exact⟨a,vs,rfl,h2,.inl ha,h3⟩
 | _=>exact(show False from h).elim
noncomputable def Jk (R:Hp)(n m:Nat)(v:V):Prop:=∃ t vs,v=.ref t/\(R t=some (.lst vs)\/R t=some (.tup vs))/\vs.length=n/\∀ x∈vs,∃ b ws,x=.ref b/\b≠t/\R b=some (.lst ws)/\ws.length<=m
structure RelC (K:PySem.W.Frag)(Hv₀ H₀ Hc:Hp)(O:Nat->Hp)(st:Dv.St)(σ:St)(H:Hp):Prop where
 h0:Same H₀ H
 vc:Same Hv₀ Hc
 ch:Same Hc H
 new:∀ b o,Hc b=some o->Hv₀ b=none->H₀ b=none
 nf:∀ b o u,H₀ b=none->H b≠some (.frz o u)
 len:st.length=σ.length
 sh:∀ (i:Nat) (d:D),st[i]?=some (Sl.sh d)->∃ v,σ[i]?=some (some v)/\Rp K Hc d v
 ow:∀ (i:Nat) (d:D),st[i]?=some (Sl.ow d)->∃ (a:Addr) (o:HO),σ[i]?=some (some (V.ref a))/\O i a=some o/\Nd K Hc d o
 dp:∀ (i:Nat) (d:D),st[i]?=some (Sl.dp d)->∃ v,σ[i]?=some (some v)/\Rp [] (O i) d v
 jk:∀ (i n m:Nat),st[i]?=some (Sl.jk n m)->∃ v,σ[i]?=some (some v)/\Jk (O i) n m v
 oh:∀ (i:Nat) (b:Addr) (o:HO),O i b=some o->H b=some o/\Hc b=none/\H₀ b=none
 one:∀ (i j:Nat) (b:Addr) (o o':HO),O i b=some o->O j b=some o'->i=j
noncomputable def Rel (K:PySem.W.Frag)(Hv₀ H₀:Hp)(st:Dv.St)(σ:St)(H:Hp):Prop:=∃ Hc O,RelC K Hv₀ H₀ Hc O st σ H
section
variable {K:PySem.W.Frag}{Hv₀ H₀ Hc:Hp}{O:Nat->Hp}{st:Dv.St}{σ:St}{H:Hp}
theorem RelC.less {Hv1:Hp}(r:RelC K Hc H₀ Hv1 O st σ H)(vc:Same Hv₀ Hc)(new:∀ b o,Hc b=some o->Hv₀ b=none->H₀ b=none):RelC K Hv₀ H₀ Hv1 O st σ H :=
 ⟨r.h0,vc.trans r.vc,r.ch,fun b o h n=>(by
  cases q:Hc b with
  | some u=>exact new b u q n
  | none=>exact r.new b o h q),r.nf,r.len,r.sh,r.ow,r.dp,r.jk,r.oh,r.one⟩
noncomputable def Held (O:Nat->Hp)(b:Addr):Prop:=∃ (i:Nat) (o:HO),O i b=some o
open Classical in
noncomputable def Hall (Hc:Hp)(O:Nat->Hp)(H:Hp):Hp:=fun b=>if Held O b then H b else Hc b
theorem RelC.cAll (r:RelC K Hv₀ H₀ Hc O st σ H):Same Hc (Hall Hc O H):=fun b o h=>by
 unfold Hall
 by_cases q:Held O b
 ·obtain⟨i,u,h1⟩:=q
  rw[(r.oh i b u h1).2.1] at h; cases h
 ·rw[if_neg q]; exact h
theorem RelC.oAll (r:RelC K Hv₀ H₀ Hc O st σ H)(i:Nat):Same (O i) (Hall Hc O H):=fun b o h=>by
 unfold Hall
 rw[if_pos ⟨i,o,h⟩]
 exact(r.oh i b o h).1
theorem RelC.allH (r:RelC K Hv₀ H₀ Hc O st σ H):Same (Hall Hc O H) H:=fun b o h=>by
 unfold Hall at h
 by_cases q:Held O b
 ·rw[if_pos q] at h; exact h
 ·rw[if_neg q] at h; exact r.ch b o h
theorem RelC.allNew (r:RelC K Hv₀ H₀ Hc O st σ H):∀ b o,Hall Hc O H b=some o->Hv₀ b=none->H₀ b=none:=fun b o h n=>by
 unfold Hall at h
 by_cases q:Held O b
 ·obtain⟨i,u,h1⟩:=q
  exact(r.oh i b u h1).2.2
 ·rw[if_neg q] at h; exact r.new b o h n
theorem get_all {i:Nat}{d:D}(h:(Dv.all st)[i]?=some (some d)):st[i]?=some (.sh d)\/st[i]?=some (.ow d)\/st[i]?=some (.dp d):=by
 unfold Dv.all at h
 rw[List.getElem?_map] at h
 cases q:st[i]? with
 | none=>rw[q] at h; cases h
 | some s =>
  rw[q] at h
  cases s with
  | no=>cases h
  | sh x=>cases h; exact .inl rfl
  | ow x=>cases h; exact .inr (.inl rfl)
  | dp x=>cases h; exact .inr (.inr rfl)
  | jk n m=>cases h
theorem get_open {i:Nat}{d:D}(h:(Dv.open_ st)[i]?=some (some d)):st[i]?=some (.sh d):=by
 unfold Dv.open_ at h
 rw[List.getElem?_map] at h
 cases q:st[i]? with
 | none=>rw[q] at h; cases h
 | some s =>
  rw[q] at h
  cases s with
  | sh x=>cases h; rfl
  | _=>cases h
theorem RelC.envAll (r:RelC K Hv₀ H₀ Hc O st σ H):EnvR K (Hall Hc O H) (Dv.all st) σ:=fun i d h=>by
 rcases get_all h with h|h|h
 ·obtain⟨v,h1,h2⟩:=r.sh i d h
  exact⟨v,h1,h2.same r.cAll⟩
 ·obtain⟨a,o,h1,h2,h3⟩:=r.ow i d h
  exact⟨_,h1,(h3.same r.cAll).rp (r.oAll i a o h2)⟩
 ·obtain⟨v,h1,h2⟩:=r.dp i d h
  exact⟨v,h1,Rp.frag (h2.same (r.oAll i))⟩
theorem RelC.envOpen (r:RelC K Hv₀ H₀ Hc O st σ H):EnvR K Hc (Dv.open_ st) σ:=fun i d h=>r.sh i d (get_open h)
theorem RelC.grow {H':Hp}(r:RelC K Hv₀ H₀ Hc O st σ H)(hh:Same H H')(nf:∀ b o u,H b=none->H' b≠some (.frz o u)):RelC K Hv₀ H₀ Hc O st σ H' :=
 ⟨r.h0.trans hh,r.vc,r.ch.trans hh,r.new,fun b o u h=>(by
  cases q:H b with
  | none=>exact nf b o u q
  | some w=>rw[hh b w q,<- q]; exact r.nf b o u h),r.len,r.sh,r.ow,r.dp,r.jk,fun i b o h=>⟨hh _ _ (r.oh i b o h).1,(r.oh i b o h).2⟩,r.one⟩
theorem RelC.growC {Hc' H':Hp}(r:RelC K Hv₀ H₀ Hc O st σ H)(x:Ext Hc H Hc' H'):RelC K Hv₀ H₀ Hc' O st σ H':=by
 have g:=r.grow x.hh x.nf
 refine⟨g.h0,r.vc.trans x.vv,x.vh,fun b o h n=>?_,g.nf,g.len,fun i d h=>?_,fun i d h=>?_,r.dp,r.jk,fun i b o h=>?_,g.one⟩
 ·cases q:Hc b with
  | some u=>exact r.new b u q n
  | none=>exact r.h0.free (x.new b o h q)
 ·obtain⟨v,h1,h2⟩:=r.sh i d h
  exact⟨v,h1,h2.same x.vv⟩
 ·obtain⟨a,o,h1,h2,h3⟩:=r.ow i d h
  exact⟨a,o,h1,h2,h3.same x.vv⟩
 ·obtain⟨h1,h2,h3⟩:=r.oh i b o h
  refine⟨x.hh _ _ h1,?_,h3⟩
  cases q:Hc' b with
  | none=>rfl
  | some u =>
   have:=x.new b u q h2
   rw[this] at h1; cases h1
theorem set_get {α:Type}{l:List α}{i j:Nat}{x y:α}(h:(l.set i x)[j]?=some y):(j=i/\y=x/\i<l.length)\/(j≠i/\l[j]?=some y):=by
 by_cases e:j=i
 ·subst e
  by_cases hl:j<l.length
  ·rw[List.getElem?_set_self hl] at h
   exact .inl ⟨rfl,(Option.some.inj h).symm,hl⟩
  ·rw[List.getElem?_eq_none (by rw[List.length_set]; omega)] at h
   cases h
 ·rw[List.getElem?_set_ne (Ne.symm e)] at h
  exact .inr ⟨e,h⟩
theorem RelC.setAny {i:Nat}{s:Sl}{v:Option V}{H':Hp}{O':Nat->Hp}(r:RelC K Hv₀ H₀ Hc O st σ H)(h0:Same H₀ H')(ch:Same Hc H')(nf:∀ b o u,H₀ b=none->H' b≠some (.frz o u))(hO:∀ j,j≠i->O' j=O j)
  (sh:∀ d,s=.sh d->∃ w,v=some w/\Rp K Hc d w) (ow:∀ d,s=.ow d->∃ a o,v=some (.ref a)/\O' i a=some o/\Nd K Hc d o) (dp:∀ d,s=.dp d->∃ w,v=some w/\Rp [] (O' i) d w) (jk:∀ n m,s=.jk n m->∃ w,v=some w/\Jk (O' i) n m w)
  (oh:∀ j b o,O' j b=some o->H' b=some o/\Hc b=none/\H₀ b=none) (one:∀ j b o o',O' i b=some o->j≠i->O j b≠some o'):RelC K Hv₀ H₀ Hc O' (st.set i s) (σ.set i v) H':=by
 have at_:∀ {j:Nat},j=i->i<st.length->(σ.set i v)[j]?=some v:=fun {j} e hl=>by subst e; exact List.getElem?_set_self (by rw[<- r.len]; exact hl)
 have no:∀ {j:Nat},j≠i->(σ.set i v)[j]?=σ[j]?:=fun hj=>List.getElem?_set_ne (Ne.symm hj)
 refine⟨h0,r.vc,ch,r.new,nf,by rw[List.length_set,List.length_set]; exact r.len,fun j x h=>?_,fun j x h=>?_,fun j x h=>?_,fun j n m h=>?_,oh,fun j k b o o' h1 h2=>?_⟩
 ·rcases set_get h with ⟨e,e2,hl⟩|⟨hj,h⟩
  ·obtain⟨w,e3,rp⟩:=sh x e2.symm
   exact⟨w,by rw[at_ e hl,e3],rp⟩
  ·obtain⟨u,h1,h2⟩:=r.sh j x h
   exact⟨u,by rw[no hj]; exact h1,h2⟩
 ·rcases set_get h with ⟨e,e2,hl⟩|⟨hj,h⟩
  ·obtain⟨a,o,e3,e4,rp⟩:=ow x e2.symm
   exact⟨a,o,by rw[at_ e hl,e3],by rw[e]; exact e4,rp⟩
  ·obtain⟨a,o,h1,h2,h3⟩:=r.ow j x h
   exact⟨a,o,by rw[no hj]; exact h1,by rw[hO j hj]; exact h2,h3⟩
 ·rcases set_get h with ⟨e,e2,hl⟩|⟨hj,h⟩
  ·obtain⟨w,e3,rp⟩:=dp x e2.symm
   exact⟨w,by rw[at_ e hl,e3],by rw[e]; exact rp⟩
  ·obtain⟨u,h1,h2⟩:=r.dp j x h
   exact⟨u,by rw[no hj]; exact h1,by rw[hO j hj]; exact h2⟩
 ·rcases set_get h with ⟨e,e2,hl⟩|⟨hj,h⟩
  ·obtain⟨w,e3,rp⟩:=jk n m e2.symm
   exact⟨w,by rw[at_ e hl,e3],by rw[e]; exact rp⟩
  ·obtain⟨u,h1,h2⟩:=r.jk j n m h
   exact⟨u,by rw[no hj]; exact h1,by rw[hO j hj]; exact h2⟩
 ·by_cases e1:j=i
  ·by_cases e2:k=i
   ·rw[e1,e2]
   ·rw[e1] at h1; rw[hO k e2] at h2; exact absurd h2 (one k b o o' h1 e2)
  ·by_cases e2:k=i
   ·rw[e2] at h2; rw[hO j e1] at h1; exact absurd h1 (one j b o' o h2 e1)
   ·rw[hO j e1] at h1; rw[hO k e2] at h2; exact r.one j k b o o' h1 h2
theorem RelC.setSh {i:Nat}{d:D}{v:V}(r:RelC K Hv₀ H₀ Hc O st σ H)(rp:Rp K Hc d v):RelC K Hv₀ H₀ Hc O (st.set i (.sh d)) (σ.set i (some v)) H :=
 r.setAny r.h0 r.ch r.nf (fun _ _=>rfl) (fun x e=>by cases e; exact⟨v,rfl,rp⟩) (fun x e=>nomatch e) (fun x e=>nomatch e) (fun n m e=>nomatch e) r.oh fun j b o o' h hj h2=>hj (r.one j i b o' o h2 h)
theorem RelC.setNo {i:Nat}{v:Option V}(r:RelC K Hv₀ H₀ Hc O st σ H):RelC K Hv₀ H₀ Hc O (st.set i .no) (σ.set i v) H :=
 r.setAny r.h0 r.ch r.nf (fun _ _=>rfl) (fun x e=>nomatch e) (fun x e=>nomatch e) (fun x e=>nomatch e) (fun n m e=>nomatch e) r.oh fun j b o o' h hj h2=>hj (r.one j i b o' o h2 h)
noncomputable def putO (O:Nat->Hp)(i:Nat)(R:Hp):Nat->Hp:=fun j=>if j=i then R else O j
theorem putO_same {R:Hp}{i:Nat}:putO O i R i=R:=if_pos rfl
theorem putO_ne {R:Hp}{i j:Nat}(h:j≠i):putO O i R j=O j:=if_neg h
noncomputable def only (a:Addr)(o:HO):Hp:=fun b=>if b=a then some o else none
theorem only_same {a:Addr}{o:HO}:only a o a=some o:=if_pos rfl
theorem only_of {a b:Addr}{o u:HO}(h:only a o b=some u):b=a/\u=o:=by
 unfold only at h
 by_cases e:b=a
 ·rw[if_pos e] at h; exact⟨e,(Option.some.inj h).symm⟩
 ·rw[if_neg e] at h; cases h
theorem RelC.setOw {i:Nat}{d:D}{o:HO}{a:Addr}(r:RelC K Hv₀ H₀ Hc O st σ H)(ha:H a=some o)(hc:Hc a=none)(h0:H₀ a=none)(no:∀ j,j≠i->O j a=none)
  (nd:Nd K Hc d o):RelC K Hv₀ H₀ Hc (putO O i (only a o)) (st.set i (.ow d)) (σ.set i (some (.ref a))) H :=
 r.setAny r.h0 r.ch r.nf (fun j hj=>putO_ne hj) (fun x e=>nomatch e) (fun x e=>by cases e; exact⟨a,o,rfl,by rw[putO_same]; exact only_same,nd⟩) (fun x e=>nomatch e) (fun n m e=>nomatch e)
  (fun j b u h=>by
   by_cases hj:j=i
   ·rw[hj,putO_same] at h
    obtain⟨rfl,rfl⟩:=only_of h
    exact⟨ha,hc,h0⟩
   ·rw[putO_ne hj] at h; exact r.oh j b u h)
  fun j b u u' h hj h2=>by
   rw[putO_same] at h
   obtain⟨rfl,rfl⟩:=only_of h
   rw[no j hj] at h2; cases h2
theorem RelC.setDp {i:Nat}{d:D}{v:V}{R:Hp}(r:RelC K Hv₀ H₀ Hc O st σ H)(hR:∀ b o,R b=some o->H b=some o/\Hc b=none/\H₀ b=none/\∀ j,j≠i->O j b=none)
  (rp:Rp [] R d v):RelC K Hv₀ H₀ Hc (putO O i R) (st.set i (.dp d)) (σ.set i (some v)) H :=
 r.setAny r.h0 r.ch r.nf (fun j hj=>putO_ne hj) (fun x e=>nomatch e) (fun x e=>nomatch e) (fun x e=>by cases e; exact⟨v,rfl,by rw[putO_same]; exact rp⟩) (fun n m e=>nomatch e)
  (fun j b u h=>by
   by_cases hj:j=i
   ·rw[hj,putO_same] at h
    exact⟨(hR b u h).1,(hR b u h).2.1,(hR b u h).2.2.1⟩
   ·rw[putO_ne hj] at h; exact r.oh j b u h)
  fun j b u u' h hj h2=>by
   rw[putO_same] at h
   rw[(hR b u h).2.2.2 j hj] at h2; cases h2
theorem set_id {α:Type}{l:List α}{i:Nat}{x:α}(h:l[i]?=some x):l.set i x=l:=by
 refine List.ext_getElem? fun j=>?_
 by_cases hj:j=i
 ·subst hj; rw[List.getElem?_set_self (List.getElem?_eq_some_iff.mp h).1,h]
 ·rw[List.getElem?_set_ne (Ne.symm hj)]
theorem RelC.putAny {i:Nat}{s:Sl}{v:V}{a:Addr}{u o:HO}(r:RelC K Hv₀ H₀ Hc O st σ H)(hσ:σ[i]?=some (some v))(ha:O i a=some u)(ho:∀ q w,o≠.frz q w)
  (ow:∀ d,s=.ow d->v=.ref a/\Nd K Hc d o) (jk:∀ n m,s=.jk n m->Jk (upd (O i) a o) n m v) (hs:∀ d,s≠.sh d/\s≠.dp d) :
  RelC K Hv₀ H₀ Hc (putO O i (upd (O i) a o)) (st.set i s) σ (upd H a o):=by
 obtain⟨h1,h2,h3⟩:=r.oh i a u ha
 have hset:σ.set i (some v)=σ:=set_id hσ
 have key:=r.setAny (i:=i) (s:=s) (v:=some v) (H':=upd H a o) (O':=putO O i (upd (O i) a o)) (fun b w h=>by rw[upd_ne (ne_of_none h h3)]; exact r.h0 b w h) (fun b w h=>by rw[upd_ne (ne_of_none h h2)]; exact r.ch b w h)
  (fun b q w h=>by
   by_cases hb:b=a
   ·subst hb; rw[upd_same]; exact fun z=>ho q w (Option.some.inj z)
   ·rw[upd_ne hb]; exact r.nf b q w h)
  (fun j hj=>putO_ne hj) (fun d e=>absurd e (hs d).1) (fun d e=>⟨a,o,by rw[(ow d e).1],by rw[putO_same,upd_same],(ow d e).2⟩) (fun d e=>absurd e (hs d).2) (fun n m e=>⟨v,rfl,by rw[putO_same]; exact jk n m e⟩)
  (fun j b w h=>by
   by_cases hj:j=i
   ·rw[hj,putO_same] at h
    by_cases hb:b=a
    ·subst hb; rw[upd_same] at h ⊢; exact⟨h,h2,h3⟩
    ·rw[upd_ne hb] at h ⊢; exact r.oh i b w h
   ·rw[putO_ne hj] at h
    have hb:b≠a:=fun z=>hj (r.one j i b w u h (by rw[z]; exact ha))
    rw[upd_ne hb]; exact r.oh j b w h)
  fun j b w w' h hj h4=>by
   rw[putO_same] at h
   by_cases hb:b=a
   ·exact hj (r.one j i b w' u h4 (by rw[hb]; exact ha))
   ·rw[upd_ne hb] at h; exact hj (r.one j i b w' w h4 h)
 rw[hset] at key
 exact key
theorem RelC.put {i:Nat}{d:D}{ds:List D}{ws:List V}{a:Addr}(r:RelC K Hv₀ H₀ Hc O st σ H)(hi:st[i]?=some (.ow d))(hσ:σ[i]?=some (some (.ref a)))(rp:RpL K Hc ds ws) :
  ∃ O',RelC K Hv₀ H₀ Hc O' (st.set i (.ow (.lst ds))) σ (upd H a (.lst ws)):=by
 obtain⟨a',o,h1,h2,h3⟩:=r.ow i d hi
 rw[hσ] at h1
 cases h1
 exact⟨_,r.putAny hσ h2 (by intro _ _ z; cases z) (fun x e=>by cases e; exact⟨rfl,ws,rfl,rp⟩) (fun n m e=>nomatch e) fun x=>⟨nofun,nofun⟩⟩
theorem RelC.putDct {i:Nat}{d:D}{ks:List Int}{ds:List D}{ws:List V}{a:Addr}(r:RelC K Hv₀ H₀ Hc O st σ H)(hi:st[i]?=some (.ow d))(hσ:σ[i]?=some (some (.ref a)))(hl:ks.length=ds.length)(rp:RpL K Hc ds ws) :
  ∃ O',RelC K Hv₀ H₀ Hc O' (st.set i (.ow (.dct ks ds))) σ (upd H a (.dK ((ks.map Sum.inl).zip ws))):=by
 obtain⟨a',o,h1,h2,h3⟩:=r.ow i d hi
 rw[hσ] at h1
 cases h1
 exact⟨_,r.putAny hσ h2 (by intro _ _ z; cases z) (fun x e=>by cases e; exact⟨rfl,ws,rfl,hl,rp⟩) (fun n m e=>nomatch e) fun x=>⟨nofun,nofun⟩⟩
noncomputable def joinH (A B:Hp):Hp:=fun b=>match A b with
 | some o=>some o
 | none=>B b
theorem joinH_l {A B:Hp}:Same A (joinH A B):=fun b o h=>by unfold joinH; rw[h]
theorem joinH_r {A B:Hp}(d:∀ b o,B b=some o->A b=none):Same B (joinH A B):=fun b o h=>by unfold joinH; rw[d b o h]; exact h
theorem joinH_of {A B:Hp}{b:Addr}{o:HO}(h:joinH A B b=some o):A b=some o\/(A b=none/\B b=some o):=by
 unfold joinH at h
 cases q:A b with
 | some u=>rw[q] at h; exact .inl h
 | none=>rw[q] at h; exact .inr ⟨rfl,h⟩
theorem RelC.give1 {i:Nat}(r:RelC K Hv₀ H₀ Hc O st σ H):∃ Hc' O',Same Hc Hc'/\RelC K Hv₀ H₀ Hc' O' (st.set i ((st[i]?.getD .no).give)) σ H:=by
 cases hi:st[i]? with
 | none =>
  refine⟨Hc,O,.refl _,?_⟩
  rw[List.set_eq_of_length_le (by have:=List.getElem?_eq_none_iff.mp hi; omega)]
  exact r
 | some s =>
  have hs:st.set i s=st:=set_id hi
  have key:∀ (d:D) (v:V),σ[i]?=some (some v)->Rp K (joinH Hc (O i)) d v->∃ Hc' O',Same Hc Hc'/\RelC K Hv₀ H₀ Hc' O' (st.set i (.sh d)) σ H:=fun d v hσ rp=>by
   have sm:Same Hc (joinH Hc (O i)):=joinH_l
   have hset:σ.set i (some v)=σ:=set_id hσ
   have r1:RelC K Hv₀ H₀ (joinH Hc (O i)) (putO O i fun _=>none) (st.set i .no) σ H:=by
    refine⟨r.h0,r.vc.trans sm,fun b o h=>?_,fun b o h n=>?_,r.nf,by rw[List.length_set]; exact r.len,fun j x h=>?_,fun j x h=>?_,fun j x h=>?_,fun j n m h=>?_,fun j b o h=>?_,fun j k b o o' h1 h2=>?_⟩
    ·rcases joinH_of h with h|⟨_,h⟩
     ·exact r.ch b o h
     ·exact(r.oh i b o h).1
    ·rcases joinH_of h with h|⟨_,h⟩
     ·exact r.new b o h n
     ·exact(r.oh i b o h).2.2
    ·rcases set_get h with ⟨_,e,_⟩|⟨hj,h⟩
     ·cases e
     ·obtain⟨u,h1,h2⟩:=r.sh j x h
      exact⟨u,h1,h2.same sm⟩
    ·rcases set_get h with ⟨_,e,_⟩|⟨hj,h⟩
     ·cases e
     ·obtain⟨a,o,h1,h2,h3⟩:=r.ow j x h
      exact⟨a,o,h1,by rw[putO_ne hj]; exact h2,h3.same sm⟩
    ·rcases set_get h with ⟨_,e,_⟩|⟨hj,h⟩
     ·cases e
     ·obtain⟨u,h1,h2⟩:=r.dp j x h
      exact⟨u,h1,by rw[putO_ne hj]; exact h2⟩
    ·rcases set_get h with ⟨_,e,_⟩|⟨hj,h⟩
     ·cases e
     ·obtain⟨u,h1,h2⟩:=r.jk j n m h
      exact⟨u,h1,by rw[putO_ne hj]; exact h2⟩
    ·by_cases hj:j=i
     ·rw[hj,putO_same] at h; cases h
     ·rw[putO_ne hj] at h
      obtain⟨h1,h2,h3⟩:=r.oh j b o h
      refine⟨h1,?_,h3⟩
      cases q:joinH Hc (O i) b with
      | none=>rfl
      | some u =>
       rcases joinH_of q with q|⟨_,q⟩
       ·rw[h2] at q; cases q
       ·exact absurd (r.one j i b o u h q) hj
    ·by_cases hj:j=i
     ·rw[hj,putO_same] at h1; cases h1
     ·by_cases hk:k=i
      ·rw[hk,putO_same] at h2; cases h2
      ·rw[putO_ne hj] at h1; rw[putO_ne hk] at h2; exact r.one j k b o o' h1 h2
   have r2:=r1.setSh (i:=i) rp
   rw[hset,List.set_set] at r2
   exact⟨_,_,sm,r2⟩
  cases s with
  | no=>exact⟨Hc,O,.refl _,by show RelC K Hv₀ H₀ Hc O (st.set i .no) σ H; rw[hs]; exact r⟩
  | sh d=>exact⟨Hc,O,.refl _,by show RelC K Hv₀ H₀ Hc O (st.set i (.sh d)) σ H; rw[hs]; exact r⟩
  | jk n m=>exact⟨Hc,O,.refl _,by show RelC K Hv₀ H₀ Hc O (st.set i (.jk n m)) σ H; rw[hs]; exact r⟩
  | ow d =>
   obtain⟨a,o,h1,h2,h3⟩:=r.ow i d hi
   exact key d _ h1 ((h3.same joinH_l).rp (joinH_r (fun b o h=>(r.oh i b o h).2.1) a o h2))
  | dp d =>
   obtain⟨v,h1,h2⟩:=r.dp i d hi
   exact key d v h1 (Rp.frag (h2.same (joinH_r fun b o h=>(r.oh i b o h).2.1)))
theorem RelC.give:∀ (is:List Nat) {st:Dv.St} {Hc:Hp} {O:Nat->Hp},RelC K Hv₀ H₀ Hc O st σ H->∃ Hc' O',Same Hc Hc'/\RelC K Hv₀ H₀ Hc' O' (Dv.give is st) σ H
 | [],st,Hc,O,r=>⟨Hc,O,.refl _,r⟩
 | i::is,st,Hc,O,r=>by
  obtain⟨Hc1,O1,s1,r1⟩:=r.give1 (i:=i)
  obtain⟨Hc2,O2,s2,r2⟩:=RelC.give is r1
  exact⟨Hc2,O2,s1.trans s2,r2⟩
end
noncomputable def OkS (C:Ctx)(Hv₀ H₀:Hp)(E:Ends)(o:Out):Prop:=match o with
 | .nx st=>∀ σ' H',Rel C.X.K Hv₀ H₀ st σ' H'->E.nx σ' H'
 | .ret d nw=>∀ v Hv' H',Ext Hv₀ H₀ Hv' H'->Rp C.X.K Hv' d v->(nw=true->Rp [] (Hnew H₀ H') d v)->E.rt v H'
 | .brk st=>∀ σ' H',Rel C.X.K Hv₀ H₀ st σ' H'->E.bk σ' H'
 | .cont st=>∀ σ' H',Rel C.X.K Hv₀ H₀ st σ' H'->E.ct σ' H'
 | .exc c st=>∀ σ' H',Rel C.X.K Hv₀ H₀ st σ' H'->C.W σ' (C.cls c) none H'
 | .bad=>False
noncomputable def TakS (C:Ctx)(t:TS)(f:SS):Prop:=∀ Hv₀ H₀ E σ H st,Rel C.X.K Hv₀ H₀ st σ H->OkS C Hv₀ H₀ E (f st)->t E σ H
noncomputable def SSt (C:Ctx)(s:Stmt)(f:SS):Prop:=∃ t:TS,PS C.X s t/\TakS C t f
noncomputable def SSs (C:Ctx)(ss:List Stmt)(f:SS):Prop:=∃ t:TS,PSs C.X ss t/\TakS C t f
section
variable {C:Ctx}{a b c:Expr}{e:Expr}{f g h:EE}{F G:SS}{s:Stmt}{ss:List Stmt}{pos pos':Pos}{E:Ends}
theorem ss_nil:SSs C [] Dv.sNil:=⟨_,pss_nil,fun Hv₀ H₀ E σ H st r q=>q σ H r⟩
theorem ss_cons (h1:SSt C s F)(h2:SSs C ss G):SSs C (s::ss) (Dv.sCons F G):=by
 obtain⟨t,p,q⟩:=h1
 obtain⟨u,p2,q2⟩:=h2
 refine⟨_,pss_cons p p2,fun Hv₀ H₀ E σ H st r w=>?_⟩
 refine q Hv₀ H₀ { E with nx:=u E } σ H st r ?_
 have w':OkS C Hv₀ H₀ E ((F st).bind G):=w
 cases hf:F st with
 | nx st'=>rw[hf] at w'; exact fun σ' H' r'=>q2 Hv₀ H₀ E σ' H' st' r' w'
 | ret d nw=>rw[hf] at w'; exact w'
 | brk st=>rw[hf] at w'; exact w'
 | cont st=>rw[hf] at w'; exact w'
 | exc c st=>rw[hf] at w'; exact w'
 | bad=>rw[hf] at w'; exact w'
theorem ss_one (h1:SSt C s F):SSs C [s] F:=by
 obtain⟨t,p,q⟩:=h1
 exact⟨t,pss_one p,q⟩
theorem Tak.all {t:TE}(q:Tak C t f){Hv₀ H₀ Hc H:Hp}{O:Nat->Hp}{σ:St}{st:Dv.St}(r:RelC C.X.K Hv₀ H₀ Hc O st σ H){T:VK}
  (hx:∀ c,f (Dv.all st)=.exc c->∀ H',RelC C.X.K Hv₀ H₀ Hc O st σ H'->C.W σ (C.cls c) none H') (hb:f (Dv.all st)≠.bad)
  (ok:∀ d fr v Hv' H',f (Dv.all st)=.ok d fr->Ext (Hall Hc O H) H Hv' H'->RelC C.X.K Hv₀ H₀ Hc O st σ H'->Rp C.X.K Hv' d v->(fr=true->Rp [] (Hnew H H') d v)->T v H'):t σ H T:=by
 refine q σ H (Hall Hc O H) (Dv.all st) T r.envAll r.allH ?_
 cases hf:f (Dv.all st) with
 | bad=>exact absurd hf hb
 | exc c=>exact fun Hv' H' x=>hx c hf H' (r.grow x.hh x.nf)
 | ok d fr=>exact fun v Hv' H' x rp n=>ok d fr v Hv' H' hf x (r.grow x.hh x.nf) rp n
theorem Tak.open {t:TE}(q:Tak C t f){Hv₀ H₀ Hc H:Hp}{O:Nat->Hp}{σ:St}{st:Dv.St}(r:RelC C.X.K Hv₀ H₀ Hc O st σ H){T:VK}
  (hx:∀ c,f (Dv.open_ st)=.exc c->∀ Hc' H',Ext Hc H Hc' H'->C.W σ (C.cls c) none H') (hb:f (Dv.open_ st)≠.bad)
  (ok:∀ d fr v Hc' H',f (Dv.open_ st)=.ok d fr->Ext Hc H Hc' H'->RelC C.X.K Hv₀ H₀ Hc' O st σ H'->Rp C.X.K Hc' d v->T v H'):t σ H T:=by
 refine q σ H Hc (Dv.open_ st) T r.envOpen r.ch ?_
 cases hf:f (Dv.open_ st) with
 | bad=>exact absurd hf hb
 | exc c=>exact fun Hv' H' x=>hx c hf Hv' H' x
 | ok d fr=>exact fun v Hv' H' x rp n=>ok d fr v Hv' H' hf x (r.growC x) rp
theorem st_expr (he:SE C e f)(hs:autoParam (swapsWith e none pos.line C.X.env=pure false) Au.h5._auto_1):SSt C (.Expr e pos) (Dv.sExpr f):=by
 obtain⟨t,p,q⟩:=he
 refine⟨_,ps_expr p hs,fun Hv₀ H₀ E σ H st ⟨Hc,O,r⟩ w=>?_⟩
 unfold Dv.sExpr at w
 refine q.all r (fun c hf H' r'=>?_) (fun hf=>?_) fun d fr v Hv' H' hf x r' rp n=>?_
 ·rw[hf] at w; exact w σ H' ⟨Hc,O,r'⟩
 ·rw[hf] at w; exact w
 ·rw[hf] at w; exact w σ H' ⟨Hc,O,r'⟩
theorem RelC.ret {Hv₀ H₀ Hc H Hv' H':Hp}{O:Nat->Hp}{σ:St}{st:Dv.St}{K:PySem.W.Frag}(r:RelC K Hv₀ H₀ Hc O st σ H)(x:Ext (Hall Hc O H) H Hv' H'):∃ Hv2,Ext Hv₀ H₀ Hv2 H'/\Same Hv' Hv2:=by
 have key:∀ b o,Hv' b=some o->Hv₀ b=none->H₀ b=none:=fun b o h n=>by
  cases q:Hall Hc O H b with
  | some u=>exact r.allNew b u q n
  | none=>exact r.h0.free (x.new b o h q)
 refine⟨fun b=>match H₀ b with|none=>H' b|some _=>Hv' b,⟨r.h0.trans x.hh,fun b o h=>?_,fun b o h=>?_,fun b o h n=>?_,fun b h=>?_,fun b o u h=>?_⟩,fun b o h=>?_⟩
 ·have h2:Hv' b=some o:=x.vv _ _ (r.cAll _ _ (r.vc b o h))
  show (match H₀ b with|none=>H' b|some _=>Hv' b)=some o
  cases H₀ b with
  | none=>exact x.vh b o h2
  | some _=>exact h2
 ·have h':(match H₀ b with|none=>H' b|some _=>Hv' b)=some o:=h
  cases q:H₀ b with
  | none=>rw[q] at h'; exact h'
  | some _=>rw[q] at h'; exact x.vh b o h'
 ·have h':(match H₀ b with|none=>H' b|some _=>Hv' b)=some o:=h
  cases q:H₀ b with
  | none=>rfl
  | some u =>
   rw[q] at h'
   have:=key b o h' n
   rw[q] at this; cases this
 ·show (match H₀ b with|none=>H' b|some _=>Hv' b)=H' b
  rw[h]
 ·exact(r.grow x.hh x.nf).nf b o u h
 ·show (match H₀ b with|none=>H' b|some _=>Hv' b)=some o
  cases H₀ b with
  | none=>exact x.vh b o h
  | some _=>exact h
theorem st_ret (he:SE C e f):SSt C (.Return (some e) pos) (Dv.sRet f):=by
 obtain⟨t,p,q⟩:=he
 refine⟨_,ps_ret p,fun Hv₀ H₀ E σ H st ⟨Hc,O,r⟩ w=>?_⟩
 unfold Dv.sRet at w
 refine q.all r (fun c hf H' r'=>?_) (fun hf=>?_) fun d fr v Hv' H' hf x r' rp n=>?_
 ·rw[hf] at w; exact w σ H' ⟨Hc,O,r'⟩
 ·rw[hf] at w; exact w
 ·rw[hf] at w
  obtain⟨Hv2,x2,s2⟩:=r.ret x
  exact w v Hv2 H' x2 (rp.same s2) fun z=>(n z).same (Hnew.mono r.h0 (.refl _))
theorem st_retO (i:Nat){x:Str}(hN:autoParam (C.X.N[i]?=some x) Au.h5._auto_1)(hv:autoParam (Vis C.X.env.scope x) Au.h6._auto_1)(hd:autoParam ((x == ("__debug__":Str))=false) Au.h2._auto_1)
  (hcd:autoParam ((x == ("__classdict__":Str))=false) Au.h2._auto_1):SSt C (.Return (some (.Name x pos')) pos) (Dv.sRetO i):=by
 refine⟨_,ps_ret (pe_var hN hv hd hcd),fun Hv₀ H₀ E σ H st ⟨Hc,O,r⟩ w=>?_⟩
 unfold Dv.sRetO at w
 obtain⟨Hv2,x2,s2⟩:=r.ret (.refl r.allH)
 cases hi:st[i]? with
 | none=>rw[hi] at w; exact(show False from w).elim
 | some s =>
  rw[hi] at w
  cases s with
  | no=>exact(show False from w).elim
  | sh d =>
   obtain⟨v,h1,h2⟩:=r.sh i d hi
   exact⟨v,h1,w v Hv2 H x2 ((h2.same r.cAll).same s2) fun z=>h2.scal z⟩
  | jk n m=>exact(show False from w).elim
  | dp d =>
   obtain⟨v,h1,h2⟩:=r.dp i d hi
   exact⟨v,h1,w v Hv2 H x2 ((Rp.frag (h2.same (r.oAll i))).same s2) fun _=>h2.same fun b o h=>by
    unfold Hnew
    rw[(r.oh i b o h).2.2]
    exact(r.oh i b o h).1⟩
  | ow d =>
   obtain⟨a,o,h1,h2,h3⟩:=r.ow i d hi
   have rp:Rp C.X.K Hv2 d (.ref a):=by
    obtain⟨v,h6,h7⟩:=r.envAll i d (by unfold Dv.all; rw[List.getElem?_map,hi]; rfl)
    rw[h1] at h6
    cases h6
    exact h7.same s2
   cases d with
   | lst ds =>
    refine⟨_,h1,w (.ref a) Hv2 H x2 rp fun z=>?_⟩
    obtain⟨vs,rfl,h5⟩:=h3
    unfold Rp
    refine⟨a,vs,rfl,SqX.of ?_,h5.flat z⟩
    unfold Hnew
    rw[(r.oh i a _ h2).2.2]
    exact(r.oh i a _ h2).1
   | dct ks ds=>exact⟨_,h1,w (.ref a) Hv2 H x2 rp fun z=>nomatch z⟩
   | _=>exact(show False from h3).elim
theorem st_if {pa pb:List Stmt}(hc:SC C c f)(ha:SSs C pa F)(hb:SSs C pb G):SSt C (.If c pa pb pos) (Dv.sIf f F G):=by
 obtain⟨tc,pc,qc⟩:=hc
 obtain⟨t,p,q⟩:=ha
 obtain⟨u,p2,q2⟩:=hb
 refine⟨_,ps_if pc p p2,fun Hv₀ H₀ E σ H st ⟨Hc,O,r⟩ w=>?_⟩
 unfold Dv.sIf at w
 refine qc σ H (Hall Hc O H) (Dv.all st) _ r.envAll r.allH ?_
 cases hf:f (Dv.all st) with
 | bad=>rw[hf] at w; exact w
 | exc c=>rw[hf] at w; exact fun Hv' H' x=>w σ H' ⟨Hc,O,r.grow x.hh x.nf⟩
 | ok d fr =>
  rw[hf] at w
  intro v Hv' H' x rp n
  cases d with
  | bl b =>
   unfold Rp at rp
   refine⟨b,rp,?_⟩
   cases b with
   | true=>exact iteT (q Hv₀ H₀ E σ H' st ⟨Hc,O,r.grow x.hh x.nf⟩ w)
   | false=>exact iteF (q2 Hv₀ H₀ E σ H' st ⟨Hc,O,r.grow x.hh x.nf⟩ w)
  | _=>exact(show False from w).elim
theorem sSet_ok {t:TE}(q:Tak C t f)(i:Nat){Hv₀ H₀ H:Hp}{σ:St}{st:Dv.St}(r:Rel C.X.K Hv₀ H₀ st σ H)(w:OkS C Hv₀ H₀ E (Dv.sSet i f st)):t σ H fun v H'=>E.nx (σ.set i (some v)) H':=by
 obtain⟨Hc,O,r⟩:=r
 unfold Dv.sSet at w
 refine q.all r (fun c hf H' r'=>?_) (fun hf=>?_) fun d fr v Hv' H' hf x r' rp n=>?_
 ·rw[hf] at w; exact w σ H' ⟨Hc,O,r'⟩
 ·rw[hf] at w; exact w
 ·rw[hf] at w
  cases d with
  | lst ds =>
   simp only[Dv.keepD] at w
   by_cases z:(fr&&Dv.flatL ds)=true
   ·simp only[z,if_true] at w
    rw[Bool.and_eq_true] at z
    have rn:=n z.1
    unfold Rp at rn
    obtain⟨a,vs,rfl,h1,h2⟩:=rn
    have h1':Hnew H H' a=some (.lst vs):=by
     rcases h1 with (h1|⟨o,h1⟩)|⟨its,m,e,_⟩
     ·exact h1
     ·exfalso
      have hn:H a=none:=by
       unfold Hnew at h1
       cases q:H a with
       | none=>rfl
       | some u=>rw[q] at h1; cases h1
      exact x.nf a o _ hn (Hnew.sub a _ h1)
     ·simp at e
    have hn:H a=none:=by
     unfold Hnew at h1'
     cases q:H a with
     | none=>rfl
     | some u=>rw[q] at h1'; cases h1'
    refine w _ H' ⟨Hc,_,r'.setOw (Hnew.sub a _ h1') (r.ch.free hn) (r.h0.free hn) (fun j _=>?_) ⟨vs,rfl,h2.flat z.2⟩⟩
    cases q:O j a with
    | none=>rfl
    | some u=>have:=(r.oh j a u q).1; rw[hn] at this; cases this
   ·simp only[z] at w
    exact(show False from w).elim
  | tup ds=>exact(show False from w).elim
  | exn c=>exact(show False from w).elim
  | raw _=>exact(show False from w).elim
  | ins _ _=>exact(show False from w).elim
  | tab _=>exact(show False from w).elim
  | dct ks ds =>
   simp only[Dv.keepD] at w
   by_cases z:(fr&&ks.isEmpty&&ds.isEmpty)=true
   ·simp only[z,if_true] at w
    simp only[Bool.and_eq_true,List.isEmpty_iff] at z
    obtain⟨⟨z1,z2⟩,z3⟩:=z
    subst z2 z3
    have rn:=n z1
    unfold Rp at rn
    obtain⟨a,vs,rfl,_,h1,h2⟩:=rn
    unfold RpL at h2
    subst h2
    have h1':Hnew H H' a=some (.dK []):=by
     rcases h1 with h1|⟨o,h1⟩
     ·exact h1
     ·exfalso
      have hn:H a=none:=by
       unfold Hnew at h1
       cases q:H a with
       | none=>rfl
       | some u=>rw[q] at h1; cases h1
      exact x.nf a o _ hn (Hnew.sub a _ h1)
    have hn:H a=none:=by
     unfold Hnew at h1'
     cases q:H a with
     | none=>rfl
     | some u=>rw[q] at h1'; cases h1'
    refine w _ H' ⟨Hc,_,r'.setOw (Hnew.sub a _ h1') (r.ch.free hn) (r.h0.free hn) (fun j _=>?_) ⟨[],rfl,rfl,.nil⟩⟩
    cases q:O j a with
    | none=>rfl
    | some u=>have:=(r.oh j a u q).1; rw[hn] at this; cases this
   ·simp only[z] at w
    exact(show False from w).elim
  | _=>exact w _ H' ⟨Hc,O,r'.setSh (Rp.scal rfl rp)⟩
theorem st_set {i:Nat}{x:Str}(he:SE C e f)(hN:C.X.N.Nodup)(hi:C.X.N[i]?=some x)(hx:Loc C.X.env.scope x)(hs:autoParam (swapsWith e (some (.Name x pos')) pos.line C.X.env=pure false) Au.h5._auto_1)
  (hf:autoParam (C.X.fn x=true\/C.X.env.scope.names.lookup x=some .local) Au.h1._auto_1):SSt C (.Assign [.Name x pos'] e pos) (Dv.sSet i f):=by
 obtain⟨t,p,q⟩:=he
 exact⟨_,ps_set hN hi hx p hs hf,fun Hv₀ H₀ E σ H st r w=>sSet_ok q i r w⟩
theorem sSetG_ok {t:TE}(q:Tak C t f)(is:List Nat)(i:Nat){Hv₀ H₀ H:Hp}{σ:St}{st:Dv.St}(r:Rel C.X.K Hv₀ H₀ st σ H)(w:OkS C Hv₀ H₀ E (Dv.sSetG is i f st)):t σ H fun v H'=>E.nx (σ.set i (some v)) H':=by
 obtain⟨Hc0,O0,r0⟩:=r
 obtain⟨Hc,O,_,r⟩:=r0.give is
 unfold Dv.sSetG at w
 refine q.open r (fun c hf Hc' H' x=>?_) (fun hf=>?_) fun d fr v Hc' H' hf x r' rp=>?_
 ·rw[hf] at w; exact w σ H' ⟨Hc0,O0,r0.grow x.hh x.nf⟩
 ·rw[hf] at w; exact w
 ·rw[hf] at w
  exact w _ H' ⟨Hc',O,r'.setSh rp⟩
theorem st_setG (is:List Nat){i:Nat}{x:Str}(he:SE C e f)(hN:C.X.N.Nodup)(hi:C.X.N[i]?=some x)(hx:Loc C.X.env.scope x)(hs:autoParam (swapsWith e (some (.Name x pos')) pos.line C.X.env=pure false) Au.h5._auto_1)
  (hf:autoParam (C.X.fn x=true\/C.X.env.scope.names.lookup x=some .local) Au.h1._auto_1):SSt C (.Assign [.Name x pos'] e pos) (Dv.sSetG is i f):=by
 obtain⟨t,p,q⟩:=he
 exact⟨_,ps_set hN hi hx p hs hf,fun Hv₀ H₀ E σ H st r w=>sSetG_ok q is i r w⟩
theorem RelC.own {Hv₀ H₀ Hc H:Hp}{O:Nat->Hp}{σ:St}{st:Dv.St}{K:PySem.W.Frag}{i:Nat}{ds:List D}(r:RelC K Hv₀ H₀ Hc O st σ H)(hi:st[i]?=some (.ow (.lst ds))) :
  ∃ a vs,σ[i]?=some (some (.ref a))/\H a=some (.lst vs)/\RpL K Hc ds vs:=by
 obtain⟨a,o,h1,h2,vs,rfl,h3⟩:=r.ow i _ hi
 exact⟨a,vs,h1,(r.oh i a _ h2).1,h3⟩
theorem st_app {i:Nat}{x:Str}{apos cpos:Pos}{px:Pos}(he:SE C e f)(hN:autoParam (C.X.N[i]?=some x) Au.h5._auto_1)(hv:autoParam (Vis C.X.env.scope x) Au.h6._auto_1)
    (hd:autoParam ((x == ("__debug__":Str))=false) Au.h2._auto_1) (hcd:autoParam ((x == ("__classdict__":Str))=false) Au.h2._auto_1) (hst:autoParam (starEach [e] C.X.env=[(false,eval e C.X.env)]) Au.h5._auto_1)
    (hbase:autoParam (attributeBase (.Name x px) "append" C.X.env (eval (.Name x px) C.X.env)=eval (.Name x px) C.X.env) Au.h5._auto_1)
    (hfew:autoParam (((backTo cpos (starEach [e] C.X.env)).all (fun x=>!x.1)&&(backToKw cpos (keywordEach [] C.X.env)).all (fun x=>x.1.isSome)
      && decide ([e].length+([]:List Keyword).length+(if ([]:List Keyword).isEmpty then 0 else 1)<30))=true) Au.h5._auto_1)
    (hline:autoParam ((apos.endLine == cpos.line)=true) Au.h5._auto_1)
    (hs:autoParam (swapsWith (.Call (.Attribute (.Name x px) "append" apos) [e] [] cpos) none pos.line C.X.env=pure false) Au.h5._auto_1) :
    SSt C (.Expr (.Call (.Attribute (.Name x px) "append" apos) [e] [] cpos) pos) (Dv.sApp i f):=by
  obtain⟨t,p,q⟩:=he
  refine⟨_,ps_expr (pe_bm PySem.F.plainAttrs_list PySem.F.slot_list_append PySem.F.type_list_append mt_append (pe_var hN hv hd hcd) (pa_cons p pa_nil hst) hbase hfew hline hst rfl) hs,fun Hv₀ H₀ E σ H st ⟨Hc,O,r⟩ w=>?_⟩
  unfold Dv.sApp at w
  cases hi:st[i]? with
  | none=>rw[hi] at w; exact(show False from w).elim
  | some s =>
    rw[hi] at w
    cases s with
    | no=>exact(show False from w).elim
    | sh d=>exact(show False from w).elim
    | dp d=>exact(show False from w).elim
    | jk n m=>exact(show False from w).elim
    | ow d0 =>
     cases d0 with
     | lst ds =>
      obtain⟨a,vs,h1,h2,h5⟩:=r.own hi
      refine⟨_,h1,.inl ⟨rfl,vs,SqL.of h2⟩,?_⟩
      refine q.all r (fun c hf H' r'=>?_) (fun hf=>?_) fun d fr v Hv' H' hf x r' rp n=>?_
      · simp only[hf] at w; exact w σ H' ⟨Hc,O,r'⟩
      · simp only[hf] at w; exact w
      · simp only[hf] at w
        by_cases z:(Dv.scal d&&decide (ds.length<Dv.mx))=true
        · simp only[z,if_true] at w
          rw[Bool.and_eq_true,decide_eq_true_eq] at z
          obtain⟨O',r2⟩:=r'.put hi h1 (h5.append (.cons (rp.scal z.1) .nil))
          refine⟨a,vs,v,rfl,rfl,x.hh _ _ h2,?_,w σ _ ⟨Hc,O',r2⟩⟩
          have:=h5.length
          have:=mx_line (Nat.le_of_lt z.2)
          have e1:(100000:Nat)<sizeLine:=by rw[sizeLine_eq]; decide
          have e2:ds.length<100000:=z.2
          omega
        · simp only[z] at w
          exact(show False from w).elim
     | _=>exact(show False from w).elim
end
section
variable {C:Ctx}{a b c e o k:Expr}{f g h:EE}{fl:EL}{F G:SS}{s:Stmt}{ss:List Stmt}{pos pos':Pos}{E:Ends}
noncomputable def Wlk (K:PySem.W.Frag)(J:It)(Hv:Hp)(ds:List D):Prop :=
 ∀ (i:Nat) (H:Hp),Same Hv H->(∀ d,ds[i]?=some d->J.go i H/\∀ x H',J.yld i H x H'->∃ Hv',Ext Hv H Hv' H'/\Rp K Hv' d x)/\(i=ds.length->J.stop i H)
noncomputable def OkI (K:PySem.W.Frag)(Hv H:Hp)(W:XK)(cls:String->Value)(r:RI)(T:It->Hp->Prop):Prop:=match r with
 | .ok ds _=>∀ J Hv' H',Ext Hv H Hv' H'->Wlk K J Hv' ds->T J H'
 | .exc c=>∀ Hv' H',Ext Hv H Hv' H'->W (cls c) none H'
 | .bad=>False
noncomputable def SI (C:Ctx)(tg it:Expr)(f:EI):Prop :=
 ∃ wi:TI,PI C.X tg it wi/\∀ σ H Hv ρ T,EnvR C.X.K Hv ρ σ->Same Hv H->OkI C.X.K Hv H (C.W σ) C.cls (f ρ) T->wi σ H T
theorem si_list {tg:Expr}(he:SE C e f):SI C tg e (Dv.iSeq f):=by
 obtain⟨t,p,q⟩:=he
 refine⟨_,pi_list p,fun σ H Hv ρ T er s w=>?_⟩
 refine q σ H Hv ρ _ er s ?_
 unfold Dv.iSeq at w
 cases hf:f ρ with
 | bad=>rw[hf] at w; exact w
 | exc c=>rw[hf] at w; exact w
 | ok d fr =>
  rw[hf] at w
  intro v Hv' H' x rp n
  cases d with
  | lst ds =>
   unfold Rp at rp
   obtain⟨l,vs,rfl,h1,h2⟩:=rp
   refine⟨l,rfl,⟨vs,(h1.same x.vh).seq⟩,w _ Hv' H' x fun i H2 s2=>⟨fun d hd=>?_,fun hi=>?_⟩⟩
   ·obtain⟨u,h3,h4⟩:=h2.get hd
    refine⟨⟨vs,u,(h1.same s2).seq,h3⟩,fun x H3 ⟨e1,hy⟩=>?_⟩
    subst e1
    have:=hy vs (h1.same s2).seq
    rw[h3] at this
    cases this
    exact⟨Hv',.refl s2,h4⟩
   ·exact⟨vs,(h1.same s2).seq,by rw[h2.length,hi]; exact Nat.le_refl _⟩
  | _=>exact(show False from w).elim
theorem range_get (lo:Int):∀ (n i:Nat) (d:D),(Dv.rangeL lo n)[i]?=some d->i<n/\d=.int (lo+i):=by
 intro n
 induction n generalizing lo with
 | zero=>intro i d h; simp[Dv.rangeL] at h
 | succ n ih =>
  intro i d h
  cases i with
  | zero=>simp[Dv.rangeL] at h; subst h; exact⟨by omega,by simp⟩
  | succ i =>
   simp only[Dv.rangeL,List.getElem?_cons_succ] at h
   obtain⟨h1,h2⟩:=ih (lo+1) i d h
   exact⟨by omega,by rw[h2]; congr 1; omega⟩
theorem range_len (lo:Int):∀ n:Nat,(Dv.rangeL lo n).length=n:=by
 intro n
 induction n generalizing lo with
 | zero=>rfl
 | succ n ih=>simp[Dv.rangeL,ih]
theorem wlk_range {K:PySem.W.Frag}{Hv:Hp}(lo:Int)(n:Nat):Wlk K (Itr lo n) Hv (Dv.rangeL lo n):=fun i H s=>⟨fun d hd=>by
  obtain⟨h1,rfl⟩:=range_get lo n i d hd
  refine⟨h1,fun x H' ⟨e1,e2⟩=>?_⟩
  subst e1 e2
  exact⟨Hv,.refl s,rp_int⟩,fun hi=>by rw[range_len] at hi; subst hi; exact Nat.le_refl _⟩
theorem rng62 {j:Int}(h:Dv.rngOk j=true):-(2 ^ 62)<=j/\j<2 ^ 62:=by
 unfold Dv.rngOk at h
 simp only[Bool.and_eq_true,decide_eq_true_eq] at h
 omega
theorem si_range {tg:Expr}{p:Pos}(hg:Gl C.X "range")(hm:C.X.mg "range"=none)(he:SE C e f)(hs:autoParam (starEach [e] C.X.env=[(false,eval e C.X.env)]) Au.h5._auto_1) :
  SI C tg (.Call (.Name "range" p) [e] [] pos) (Dv.iRange f):=by
 obtain⟨t,pe,q⟩:=he
 refine⟨_,pi_range1 hg hm (pa_cons pe pa_nil hs) hs,fun σ H Hv ρ T er s w=>?_⟩
 refine q σ H Hv ρ _ er s ?_
 unfold Dv.iRange at w
 cases hf:f ρ with
 | bad=>rw[hf] at w; exact w
 | exc c=>rw[hf] at w; exact w
 | ok d fr =>
  rw[hf] at w
  intro v Hv' H' x rp n
  cases d with
  | int j =>
   unfold Rp at rp
   subst rp
   by_cases hr:Dv.rngOk j=true
   ·simp only[hr,if_true] at w
    obtain⟨h1,h2⟩:=rng62 hr
    exact⟨j,rfl,h1,h2,w _ Hv' H' x (wlk_range 0 j.toNat)⟩
   ·simp only[hr] at w
    exact(show False from w).elim
  | _=>exact(show False from w).elim
theorem si_range2 {tg:Expr}{p:Pos}(hg:Gl C.X "range")(hm:C.X.mg "range"=none)(he:SE C e f)(hb:SE C b g)(hs:autoParam (starEach [e,b] C.X.env=[(false,eval e C.X.env),(false,eval b C.X.env)]) Au.h5._auto_1)
  (hs2:autoParam (starEach [b] C.X.env=[(false,eval b C.X.env)]) Au.h5._auto_1):SI C tg (.Call (.Name "range" p) [e,b] [] pos) (Dv.iRange2 f g):=by
 obtain⟨t,pe,q⟩:=he
 obtain⟨t2,pe2,q2⟩:=hb
 refine⟨_,pi_range2 hg hm (pa_cons pe (pa_cons pe2 pa_nil hs2) (by rw[hs,hs2])) hs hs2,fun σ H Hv ρ T er s w=>?_⟩
 refine q σ H Hv ρ _ er s ?_
 unfold Dv.iRange2 at w
 cases hf:f ρ with
 | bad=>rw[hf] at w; exact w
 | exc c=>rw[hf] at w; exact w
 | ok d fr =>
  rw[hf] at w
  intro v Hv' H' x rp n
  cases d with
  | int i =>
   unfold Rp at rp
   subst rp
   refine q2 σ H' Hv' ρ _ (er.same x.vv) x.vh ?_
   cases hg':g ρ with
   | bad=>simp only[hg'] at w; exact w
   | exc c=>simp only[hg'] at w; exact fun Hv2 H2 y=>w Hv2 H2 (x.trans y)
   | ok d2 fr2 =>
    simp only[hg'] at w
    intro v2 Hv2 H2 y rp2 n2
    cases d2 with
    | int j =>
     unfold Rp at rp2
     subst rp2
     by_cases hr:(Dv.rngOk i&&Dv.rngOk j)=true
     ·simp only[hr,if_true] at w
      rw[Bool.and_eq_true] at hr
      obtain⟨h1,h2⟩:=rng62 hr.1
      obtain⟨h3,h4⟩:=rng62 hr.2
      exact⟨i,j,rfl,⟨h1,h2,h3,h4⟩,w _ Hv2 H2 (x.trans y) (wlk_range i _)⟩
     ·simp only[hr] at w
      exact(show False from w).elim
    | _=>exact(show False from w).elim
  | _=>exact(show False from w).elim
noncomputable def SG (C:Ctx)(tg:Expr)(st:D->Dv.St->Option Dv.St):Prop :=
 ∃ g:TG,PG C.X tg g/\∀ Hv₀ H₀ Hc O H σ s s' d v T,RelC C.X.K Hv₀ H₀ Hc O s σ H->Rp C.X.K Hc d v->st d s=some s'->(∀ σ' ,RelC C.X.K Hv₀ H₀ Hc O s' σ' H->T σ' H)->g v σ H T
theorem sg_name {i:Nat}{x:Str}(hN:C.X.N.Nodup)(hi:C.X.N[i]?=some x)(hx:Loc C.X.env.scope x)(hf:autoParam (C.X.fn x=true\/C.X.env.scope.names.lookup x=some .local) Au.h1._auto_1) :
  SG C (.Name x pos) (fun d s=>some (s.set i (.sh d))):=by
 refine⟨_,pg_name hN hi hx hf,fun Hv₀ H₀ Hc O H σ s s' d v T r rp e h=>?_⟩
 cases e
 exact h _ (r.setSh rp)
theorem RelC.self {K:PySem.W.Frag}{Hv₀ H₀ Hc H:Hp}{O:Nat->Hp}{st:Dv.St}{σ:St}(r:RelC K Hv₀ H₀ Hc O st σ H):RelC K Hc H₀ Hc O st σ H :=
 ⟨r.h0,.refl _,r.ch,fun b o h n=>(by rw[n] at h; cases h),r.nf,r.len,r.sh,r.ow,r.dp,r.jk,r.oh,r.one⟩
theorem OkS.less {Hv₀ Hc H₀:Hp}{o:Out}(h:OkS C Hv₀ H₀ E o)(vc:Same Hv₀ Hc)(new:∀ b o,Hc b=some o->Hv₀ b=none->H₀ b=none):OkS C Hc H₀ E o:=by
 have rl:∀ {st σ H},Rel C.X.K Hc H₀ st σ H->Rel C.X.K Hv₀ H₀ st σ H:=fun ⟨Hd,O,r⟩=>⟨Hd,O,r.less vc new⟩
 cases o with
 | nx st=>exact fun σ H r=>h σ H (rl r)
 | ret d nw =>
  refine fun v Hv' H' x rp n=>h v Hv' H' ⟨x.hh,vc.trans x.vv,x.vh,fun b o q m=>?_,x.all,x.nf⟩ rp n
  cases z:Hc b with
  | some u=>exact new b u z m
  | none=>exact x.new b o q z
 | brk st=>exact fun σ H r=>h σ H (rl r)
 | cont st=>exact fun σ H r=>h σ H (rl r)
 | exc c st=>exact fun σ H r=>h σ H (rl r)
 | bad=>exact h
theorem for_ok {tgt:D->Dv.St->Option Dv.St}{g:TG}{tb:TS}{J:It}{ds:List D}{Hc H₀ H:Hp}{σ:St}{st:Dv.St}
  (qg:∀ Hv₀ H₀ Hc O H σ s s' d v T,RelC C.X.K Hv₀ H₀ Hc O s σ H->Rp C.X.K Hc d v->tgt d s=some s'->(∀ σ' ,RelC C.X.K Hv₀ H₀ Hc O s' σ' H->T σ' H)->g v σ H T)
  (qb:TakS C tb F) (wl:Wlk C.X.K J Hc ds) (r:Rel C.X.K Hc H₀ st σ H) (w:OkS C Hc H₀ E (Dv.forGoT tgt F ds st)) :
  ∃ W:Nat->Nat->St->Hp->Prop,(∃ m,W 0 m σ H)/\∀ i m σ H,W i m σ H ->
   (J.stop i H/\E.nx σ H)\/(J.go i H/\∃ N:St->Hp->Prop,(∀ σ' H',N σ' H'->∃ m',m'<m/\W (i+1) m' σ' H')/\∀ x H',J.yld i H x H'->g x σ H' fun σ2 H2=>tb { E with nx:=N,ct:=N,bk:=E.nx } σ2 H2):=by
 refine⟨fun i m σ H=>m=ds.length-i/\i<=ds.length/\∃ st,Rel C.X.K Hc H₀ st σ H/\OkS C Hc H₀ E (Dv.forGoT tgt F (ds.drop i) st),⟨_,rfl,Nat.zero_le _,st,r,w⟩,?_⟩
 rintro i m σ H ⟨rfl,hi,st,⟨Hd,O,r⟩,w⟩
 obtain⟨w1,w2⟩:=wl i H (r.vc.trans r.ch)
 by_cases hlt:i<ds.length
 ·have hd:ds[i]?=some ds[i]:=by simp[hlt]
  have e1:ds.drop i=ds[i]::ds.drop (i+1):=List.drop_eq_getElem_cons hlt
  rw[e1] at w
  generalize ds[i]=d at hd e1 w
  obtain⟨go,yl⟩:=w1 d hd
  refine .inr ⟨go,fun σ' H'=>∃ st,Rel C.X.K Hc H₀ st σ' H'/\OkS C Hc H₀ E (Dv.forGoT tgt F (ds.drop (i+1)) st),fun σ' H' h=>⟨ds.length-(i+1),by omega,rfl,hlt,h⟩,fun x H' hy=>?_⟩
  obtain⟨Hv',x1,rp⟩:=yl x H' hy
  unfold Dv.forGoT at w
  cases ht:tgt d st with
  | none=>simp only[ht] at w; exact(show False from w).elim
  | some st1 =>
   simp only[ht] at w
   have x2:Ext Hd H (fun b=>match H b with|none=>H' b|some _=>Hd b) H':=by
    refine⟨x1.hh,fun b o q=>?_,fun b o q=>?_,fun b o q n=>?_,fun b q=>?_,x1.nf⟩
    ·show (match H b with|none=>H' b|some _=>Hd b)=some o
     cases z:H b with
     | none=>rw[r.ch b o q] at z; cases z
     | some _=>exact q
    ·have q':(match H b with|none=>H' b|some _=>Hd b)=some o:=q
     cases z:H b with
     | none=>rw[z] at q'; exact q'
     | some u=>rw[z] at q'; exact x1.hh _ _ (r.ch b o q')
    ·have q':(match H b with|none=>H' b|some _=>Hd b)=some o:=q
     cases z:H b with
     | none=>rfl
     | some u=>rw[z] at q'; rw[n] at q'; cases q'
    ·show (match H b with|none=>H' b|some _=>Hd b)=H' b
     rw[q]
   have r2:=r.growC x2
   have sub:Same Hv' (fun b=>match H b with|none=>H' b|some _=>Hd b):=fun b o q=>by
    show (match H b with|none=>H' b|some _=>Hd b)=some o
    cases z:H b with
    | none=>exact x1.vh b o q
    | some u =>
     cases z2:Hc b with
     | none=>have:=x1.new b o q z2; rw[z] at this; cases this
     | some u' =>
      have h1:=x1.vv b u' z2
      rw[q] at h1
      cases h1
      exact r.vc b o z2
   refine qg Hc H₀ _ _ H' σ st st1 d x _ r2 (rp.same sub) ht fun σ2 r3=>?_
   refine qb Hc H₀ _ σ2 H' st1 ⟨_,_,r3⟩ ?_
   cases hb:F st1 with
   | nx st'=>simp only[hb] at w; exact fun σ' H' r'=>⟨st',r',w⟩
   | cont st'=>simp only[hb] at w; exact fun σ' H' r'=>⟨st',r',w⟩
   | brk st'=>simp only[hb] at w; exact w
   | ret d nw=>simp only[hb] at w; exact w
   | exc c st'=>simp only[hb] at w; exact w
   | bad=>simp only[hb] at w; exact w
 ·have e:i=ds.length:=by omega
  refine .inl ⟨w2 e,?_⟩
  rw[e,List.drop_length] at w
  exact w σ H ⟨Hd,O,r⟩
theorem st_forT (is:List Nat){tg it:Expr}{body:List Stmt}{tgt:D->Dv.St->Option Dv.St}{fi:EI}(hi:SI C tg it fi)(hg:SG C tg tgt)(hb:SSs C body F)(hcalm:autoParam (C.X.calm=true) Au.h5._auto_1)
  (hs:autoParam (∀ x,foldedSetIterable it C.X.env x=pure x) Au.h4._auto_1):SSt C (.For tg it body [] pos) (Dv.sForT is tgt fi F):=by
 obtain⟨wi,pi,qi⟩:=hi
 obtain⟨g,pg,qg⟩:=hg
 obtain⟨tb,pb,qb⟩:=hb
 refine⟨_,ps_for C.own hcalm pi pg pb hs,fun Hv₀ H₀ E σ H st ⟨Hc0,O0,r0⟩ w=>?_⟩
 obtain⟨Hc,O,_,r⟩:=r0.give is
 unfold Dv.sForT at w
 refine qi σ H Hc (Dv.open_ (Dv.give is st)) _ r.envOpen r.ch ?_
 cases hf:fi (Dv.open_ (Dv.give is st)) with
 | bad=>simp only[hf] at w; exact w
 | exc c=>simp only[hf] at w; exact fun Hv' H' x=>w σ H' ⟨Hc0,O0,r0.grow x.hh x.nf⟩
 | ok ds fr =>
  simp only[hf] at w
  intro J Hc' H' x wl
  have r1:=r.growC x
  exact for_ok qg qb wl ⟨Hc',O,r1.self⟩ (w.less r1.vc r1.new)
theorem forGo_T (x:Nat)(body:SS):∀ (ds:List D) (st:Dv.St),Dv.forGoT (fun d s=>some (s.set x (.sh d))) body ds st=Dv.forGo x body ds st
 | [],st=>rfl
 | d::r,st=>by
  unfold Dv.forGoT Dv.forGo
  cases h:body (st.set x (.sh d)) with
  | nx st'=>simp only[h]; exact forGo_T x body r st'
  | cont st'=>simp only[h]; exact forGo_T x body r st'
  | _=>simp only[h]
theorem st_for (is:List Nat){i:Nat}{x:Str}{it:Expr}{body:List Stmt}{fi:EI}(hi:SI C (.Name x pos') it fi)(hb:SSs C body F)(hN:C.X.N.Nodup)(hn:C.X.N[i]?=some x)(hx:Loc C.X.env.scope x)
  (hf:autoParam (C.X.fn x=true\/C.X.env.scope.names.lookup x=some .local) Au.h1._auto_1) (hs:autoParam (∀ x,foldedSetIterable it C.X.env x=pure x) Au.h4._auto_1) (hcalm:autoParam (C.X.calm=true) Au.h5._auto_1) :
  SSt C (.For (.Name x pos') it body [] pos) (Dv.sFor is i fi F):=by
 obtain⟨t,p,q⟩:=st_forT (pos:=pos) is hi (sg_name (pos:=pos') hN hn hx hf) hb hcalm hs
 refine⟨t,p,fun Hv₀ H₀ E σ H st r w=>q Hv₀ H₀ E σ H st r ?_⟩
 unfold Dv.sForT
 unfold Dv.sFor at w
 cases hf:fi (Dv.open_ (Dv.give is st)) with
 | bad=>simp only[hf] at w ⊢; exact w
 | exc c=>simp only[hf] at w ⊢; exact w
 | ok ds fr=>simp only[hf] at w ⊢; rw[forGo_T]; exact w
noncomputable def spD (K:PySem.W.Frag)(cls:String->Value)(F:List D->R)(n:Nat):Sp:=fun vs H Q E=>∃ ds Hv,ds.length=n/\Same Hv H/\RpL K Hv ds vs/\Ok K Hv H E cls (F ds) Q
theorem spD_len {K:PySem.W.Frag}{cls:String->Value}{F:List D->R}{n:Nat}{vs:List V}{H:Hp}{Q:VK}{E:XK}(h:spD K cls F n vs H Q E):vs.length=n:=by
 obtain⟨ds,Hv,h1,_,h2,_⟩:=h
 rw[h2.length,h1]
theorem start_get {N:List Str}{vs:List V}{i:Nat}{v:V}(h:vs[i]?=some v):(L2.start N vs)[i]?=some (some v):=by
 have hl:i<vs.length:=(List.getElem?_eq_some_iff.mp h).1
 unfold L2.start
 rw[List.getElem?_append_left (by simpa using hl),List.getElem?_map,h]
 rfl
theorem rel_start {K:PySem.W.Frag}{Hv H:Hp}{ds:List D}{vs:List V}{N:List Str}(s:Same Hv H)(rp:RpL K Hv ds vs)(hN:ds.length<=N.length) :
  RelC K Hv H Hv (fun _ _=>none) (ds.map Sl.sh++List.replicate (N.length-ds.length) Sl.no) (L2.start N vs) H:=by
 have hl:=rp.length
 have get:∀ {i:Nat} {x:Sl},(ds.map Sl.sh++List.replicate (N.length-ds.length) Sl.no)[i]?=some x->(∃ d,x=.sh d/\ds[i]?=some d)\/x=.no:=fun {i x} h=>by
  by_cases hi:i<ds.length
  ·rw[List.getElem?_append_left (by simpa using hi),List.getElem?_map] at h
   cases q:ds[i]? with
   | none=>rw[q] at h; cases h
   | some d=>rw[q] at h; cases h; exact .inl ⟨d,rfl,rfl⟩
  ·rw[List.getElem?_append_right (by simpa using hi),List.getElem?_replicate] at h
   split at h
   ·cases h; exact .inr rfl
   ·cases h
 refine⟨.refl _,.refl _,s,fun b o h n=>(by rw[n] at h; cases h),fun b o u h=>(by rw[h]; intro z; cases z),?_,fun i d h=>?_,fun i d h=>?_,fun i d h=>?_,fun i n m h=>?_,(fun i b o h=>nomatch h),(fun i j b o o' h=>nomatch h)⟩
 ·unfold L2.start
  simp only[List.length_append,List.length_map,List.length_replicate]
  omega
 ·rcases get h with ⟨d',e,h2⟩|e
  ·cases e
   obtain⟨v,h3,h4⟩:=rp.get h2
   exact⟨v,start_get h3,h4⟩
  ·cases e
 ·rcases get h with ⟨d',e,_⟩|e <;>cases e
 ·rcases get h with ⟨d',e,_⟩|e <;>cases e
 ·rcases get h with ⟨d',e,_⟩|e <;>cases e
theorem fn_end {Hv H:Hp}{ds:List D}{Q:VK}{W:XK}{n:Nat}{body:SS}(hW:C.W=fun _=>W)(h:Ok C.X.K Hv H W C.cls (Dv.fn n body ds) Q) :
  OkS C Hv H { nx:=fun _ H'=>Q .non H',rt:=Q } (body (ds.map Sl.sh++List.replicate (n-ds.length) Sl.no)):=by
 unfold Dv.fn at h
 have ext:∀ {st σ' H'},Rel C.X.K Hv H st σ' H'->∃ Hv2,Ext Hv H Hv2 H':=fun {st σ' H'} ⟨Hc,O,r⟩=>by
  obtain⟨Hv2,x,_⟩:=r.ret (.refl r.allH)
  exact⟨Hv2,x⟩
 cases hb:body (ds.map Sl.sh++List.replicate (n-ds.length) Sl.no) with
 | nx st =>
  simp only[hb] at h
  intro σ' H' r
  obtain⟨Hv2,x⟩:=ext r
  exact h .non Hv2 H' x rp_non fun _=>rp_non
 | ret d nw=>simp only[hb] at h; exact fun v Hv' H' x rp nn=>h v Hv' H' x rp nn
 | brk st=>simp only[hb] at h; exact(show False from h).elim
 | cont st=>simp only[hb] at h; exact(show False from h).elim
 | exc c st =>
  simp only[hb] at h
  intro σ' H' r
  obtain⟨Hv2,x⟩:=ext r
  rw[hW]
  exact h Hv2 H' x
 | bad=>simp only[hb] at h; exact(show False from h).elim
end
structure CXok (P:Program)(w:World)(CX:CXT):Prop where
 no:∀ (outer:List PySem.Env) (H:Hp) (s:Shared) (e:Value) (s':Shared),CX outer H s (fun _ _ _=>False) e s'->False
 leave:∀ (K:PySem.W.Frag) (mg:Str->Option Value) (base:Heap) (N:List Str) (qual:Str) (scope:Scope) (f:Addr) (cd:Value) (A:Around) (outer:List PySem.Env) (s:Shared) (H:Hp) (E:XK)
  (pins:List (Addr × Obj)) (σ:St) (H1:Hp) (s1:Shared) (e:Value) (s':Shared),Inv (cxOf CX P w K mg base N qual scope f cd A outer s H E) pins σ H1 s1 ->
  CX (cxOf CX P w K mg base N qual scope f cd A outer s H E).stack H1 s1 E e s'->(cxOf CX P w K mg base N qual scope f cd A outer s H E).xe e s'
section
variable {P:Program}{w:World}{K:PySem.W.Frag}{mg:Str->Option Value}{base:Heap}{CX:CXT}
noncomputable def ctxOf {P:Program}{w:World}(hC:CXok P w CX)(cls:String->Value)(K:PySem.W.Frag)(mg:Str->Option Value)(base:Heap)(N:List Str)(qual:Str)(scope:Scope)(f:Addr)(cd:Value)(A:Around)(outer:List PySem.Env)(s:Shared)(H:Hp)(E:XK)
  {k:Nat} (hr:Room k (A.deeper (envOfC qual scope s.heap.objs.size f cd))):Ctx where
 X:=cxOf CX P w K mg base N qual scope f cd A outer s H E
 W:=fun _=>E
 cls:=cls
 CX:=CX
 un:=hr.units
 own:=PassesOwn.leaving
 pass:=fun pins σ H1 s1 e s' I h=>hC.leave K mg base N qual scope f cd A outer s H E pins σ H1 s1 e s' I h
 cxF:=hC.no
theorem fn_ok (hC:CXok P w CX)(cls:String->Value){x qual:Str}{st:Stmt}{f:Addr}{N ps:List Str}{k:Nat}{body:SS}(oc:Value)(od:Option Addr)(dV kV doc pm:Value)(an:Option Addr)(cdv ct:Value)(osl:Array (Option Value))
  (lk:K.lookup f=some ⟨oc,od,.func (PySem.W.fnOf x qual (defArgs st) (defBody st) (defScope st) dV kV doc pm an cdv ct),osl⟩) (hcd:PySem.W.codeIn K cdv qual=true) (S:FnScope N ps (defScope st))
  (hbody:∀ (A:Around) (outer:List PySem.Env) (s:Shared) (H:Hp) (E:XK) (hr:Room k (A.deeper (envOfC qual (defScope st) s.heap.objs.size f cdv))),
   SSs (ctxOf hC cls K mg base N qual (defScope st) f cdv A outer s H E hr) (defBody st) body) :
  FnOk P w K mg base CX (k+1) f (PySem.W.fnOf x qual (defArgs st) (defBody st) (defScope st) dV kV doc pm an cdv ct) ps (spD K cls (Dv.fn N.length body) ps.length):=by
 refine fn_of lk hcd S (fun vs H Q E h=>spD_len h) fun A outer s H vs Q E hr h=>?_
 obtain⟨ds,Hv,hl,sv,rp,ok⟩:=h
 obtain⟨t,p,q⟩:=hbody A outer s H E hr
 have hpl:ps.length<=N.length:=by
  have:=congrArg List.length S.pre
  rw[List.length_take] at this
  omega
 exact⟨t,p,q Hv H _ (L2.start N vs) H _ ⟨Hv,_,rel_start sv rp (by omega)⟩ (fn_end (C:=ctxOf hC cls K mg base N qual (defScope st) f cdv A outer s H E hr) rfl ok)⟩
end
section
variable {C:Ctx}{a b c e o:Expr}{es:List Expr}{f g h:EE}{fl:EL}{F G:SS}{pos pos':Pos}{E:Ends}
theorem pe_callW {X:Cx}{CX:CXT}{W:St->XK}{k:Nat}{fa:Addr}{fd:FuncData}{ps:List Str}{sp:Sp}{dvs:List V}{ds:List Value}{x:Str}{p:Pos}{t:TA}(Fn:FnOk X.prog X.w X.K X.mg X.base CX k fa fd ps sp)(hr:Room k X.A)(hg:Gl X x)(hm:X.mg x=some (.ref fa))(hk:PySem.W.keepIn X.K (.ref fa)=true)
  (hb:Binds X.K fd ps ds) (hd:Vals dvs ds) (hx:∀ (pins:List (Addr × Obj)) (σ:St) (H:Hp) (s:Shared) (e:Value) (s':Shared),Inv X pins σ H s->CX X.stack H s (W σ) e s'->X.xe e s')
  (ha:PA X (e::es) t) (hdb:(x == ("__debug__":Str))=false) (he:starEach (e::es) X.env=(false,eval e X.env)::starEach es X.env) (hpl:(backTo pos (starEach es X.env)).any (·.1)=false) :
  PE X (.Call (.Name x p) (e::es) [] pos) (fun σ H Q=>t σ H fun vs H1=>sp (vs++dvs) H1 Q (W σ)):=by
 intro pins s σ H Q I h
 refine wpAny_Call_Name_kw (ld_glob I hg hm ?_ hdb)
 refine PySem.W.callWith_K (h₀:=X.base) I.ok.mod.kin hk (thn (ha pos pins s σ H _ I h) fun us s1 ⟨vs,H1,I1,r,q⟩=>⟨I1.kIn,?_⟩) he hpl
 have r2:Vals (vs++dvs) (us++ds):=r.append hd
 have hl:(us++ds).length=ps.length:=by rw[<- r2.length]; exact Fn.len _ _ _ _ q
 refine wpAny_call (codeAny_mono (Fn.run X.A X.stack s1 H1 ⟨us,[]⟩ (us++ds) (vs++dvs) Q (W σ) hr I1.env0 (hb s1 us I1.kIn hl) r2 q) fun rr s' hq=>?_)
 cases rr with
 | error e=>exact hx pins σ H1 s1 e s' I1 hq
 | ok fl =>
  cases fl with
  | ret u=>exact I1.after hq
  | next=>exact False.elim hq
  | brk=>exact False.elim hq
  | cont=>exact False.elim hq
theorem se_call {k j:Nat}{fa:Addr}{fd:FuncData}{ps:List Str}{Fm:List D->R}{dds:List D}{dvs:List V}{dus:List Value}{x:Str}{p:Pos}(Fn:FnOk C.X.prog C.X.w C.X.K C.X.mg C.X.base C.CX j fa fd ps (spD C.X.K C.cls Fm ps.length))(hr:Room k C.X.A)(hj:j<=k)
  (hg:Gl C.X x) (hm:C.X.mg x=some (.ref fa)) (hk:PySem.W.keepIn C.X.K (.ref fa)=true) (hb:Binds C.X.K fd ps dus) (hd:Vals dvs dus) (hdd:∀ K H,RpL K H dds dvs) (ha:SL C (e::es) fl) (hlen:autoParam ((e::es).length+dds.length=ps.length) Au.h5._auto_1)
  (hdb:autoParam ((x == ("__debug__":Str))=false) Au.h2._auto_1) (he:autoParam (starEach (e::es) C.X.env=(false,eval e C.X.env)::starEach es C.X.env) Au.h5._auto_1) (hpl:autoParam ((backTo pos (starEach es C.X.env)).any (·.1)=false) Au.h5._auto_1) :
  SE C (.Call (.Name x p) (e::es) [] pos) (Dv.eCall (fun ds=>Fm (ds++dds)) fl):=by
 obtain⟨t,pa,qa,hl⟩:=ha
 refine⟨_,pe_callW (W:=C.W) (Fn.mono hj) hr hg hm hk hb hd C.pass pa hdb he hpl,fun σ H Hv ρ Q er s w=>?_⟩
 refine qa.step er (.refl s) w fun vs ds fr Hv1 H1 hf x1 _ rp _ w1=>?_
 refine⟨ds++dds,Hv1,?_,x1.vh,rp.append (hdd _ _),Ok.later x1 w1⟩
 rw[List.length_append,hl ρ ds fr hf]; exact hlen
noncomputable def compCx (X:Cx)(N:List Str)(scope:Scope)(cl:List (Str × Addr))(L:Addr)(s₀:Shared)(H₀:Hp)(ex:List Addr):Cx :=
 { X with N:=N,s₀:=s₀,H₀:=H₀,env:=compEnvC scope cl L X.env,outer:=X.stack,ex:=ex,fn:=fun _=>false,pn:=[],xe:=fun _ _=>False }
noncomputable def compCtx (C:Ctx)(N:List Str)(scope:Scope)(cl:List (Str × Addr))(L:Addr)(s₀:Shared)(H₀:Hp)(ex:List Addr):Ctx where
 X:=compCx C.X N scope cl L s₀ H₀ ex
 W:=fun _ _ _ _=>False
 cls:=C.cls
 CX:=C.CX
 un:=C.un
 own:=PassesOwn.never
 pass:=fun _ _ _ _ _ _ _ h=>C.cxF _ _ _ _ _ h
 cxF:=C.cxF
theorem closure_ok {env:PySem.Env}:∀ (names:List (Str × NameKind)) (acc:List (Str × Addr)),(∀ y∈names,y.2=.free->∃ c,env.cells.lookup y.1=some c) ->
  ∃ cl,(forIn names acc fun (x:Str × NameKind) (cs:List (Str × Addr))=>(if (x.2 == .free)=true then do let a <- cellOf env x.1; pure (ForInStep.yield ((x.1,a)::cs)) else pure (ForInStep.yield cs):Sem (ForInStep (List (Str × Addr)))))=pure cl /\
   (∀ x c,cl.lookup x=some c->acc.lookup x=some c\/env.cells.lookup x=some c)/\(∀ y∈names,y.2=.free->∃ c,cl.lookup y.1=some c)/\(∀ x c,acc.lookup x=some c->∃ c',cl.lookup x=some c')
 | [],acc,_=>⟨acc,rfl,fun _ _ h=>.inl h,(fun _ h=>nomatch h),fun x c h=>⟨c,h⟩⟩
 | (n,k)::r,acc,h=>by
  simp only[List.forIn_cons]
  by_cases hk:(k == NameKind.free)=true
  ·obtain⟨c,hc⟩:=h (n,k) List.mem_cons_self (by simpa using hk)
   obtain⟨cl,e,h1,h2,h3⟩:=closure_ok r ((n,c)::acc) fun y hy=>h y (List.mem_cons_of_mem _ hy)
   refine⟨cl,?_,fun x d hx=>?_,fun y hy hf=>?_,fun x d hx=>?_⟩
   ·simp only[hk,if_true]
    have e2:cellOf env n=pure c:=by unfold cellOf; rw[hc]
    rw[e2]
    exact e
   ·rcases h1 x d hx with q|q
    ·rw[List.lookup_cons] at q
     cases z:x == n with
     | true =>
      rw[z] at q
      have:x=n:=by simpa using z
      subst this
      cases q
      exact .inr hc
     | false=>rw[z] at q; exact .inl q
    ·exact .inr q
   ·rcases List.mem_cons.mp hy with rfl|hy
    ·exact h3 n c (by simp[List.lookup_cons])
    ·exact h2 y hy hf
   ·by_cases z:(x == n)=true
    ·exact h3 x c (by simp[List.lookup_cons,z])
    ·exact h3 x d (by rw[List.lookup_cons]; simp only[Bool.not_eq_true] at z; rw[z]; exact hx)
  ·obtain⟨cl,e,h1,h2,h3⟩:=closure_ok r acc fun y hy=>h y (List.mem_cons_of_mem _ hy)
   refine⟨cl,?_,h1,fun y hy hf=>?_,h3⟩
   ·simp only[hk]
    exact e
   ·rcases List.mem_cons.mp hy with rfl|hy
    ·exact absurd (by simpa using hf) hk
    ·exact h2 y hy hf
theorem closure_of {env:PySem.Env}{scope:Scope}(h:∀ y∈scope.names,y.2=.free->∃ c,env.cells.lookup y.1=some c) :
  ∃ cl,closureFor scope env=pure cl/\(∀ x c,cl.lookup x=some c->env.cells.lookup x=some c)/\∀ y∈scope.names,y.2=.free->∃ c,cl.lookup y.1=some c:=by
 obtain⟨cl,e,h1,h2,_⟩:=closure_ok scope.names [] h
 refine⟨cl,?_,fun x c hx=>?_,h2⟩
 ·unfold closureFor
  exact(congrArg (fun m:Sem (List (Str × Addr))=>m >>= fun s=>pure s) e).trans rfl
 ·rcases h1 x c hx with q|q
  ·simp at q
  ·exact q
end
theorem comp_turns {prog:Program}{w:World}{A:Around}{T:Result->Shared->Prop}{s:Shared}{elt target iter:Expr}{ifs:List Expr}{scope:Scope}{pos:Pos}{it acc:Value}{env:PySem.Env}(J:Nat->Shared->Prop)
  (turn:∀ n s,J n s->wpAny (model prog w) A (pyNext it) (fun r s1=>match r with
   | none=>T (.ok .next) s1
   | some v=>wpAny (model prog w) A (letOwnedTupleGo target it v) (fun _ s2=>wpAny (model prog w) A (assign target env v) (fun _ s3 =>
     wpAny (model prog w) A (forIn ifs true fun c r=>if r=true then do let ok <- isTrue c env (eval c env); pure (ForInStep.yield ok) else pure (ForInStep.yield r)) (fun ok s4 =>
      if ok=true then wpAny (model prog w) A (eval elt env) (fun x s5=>wpAny (model prog w) A (call (.builtin "list.append") [acc,x]) (fun _ s6=>∃ m,m<n/\J m s6) (fun _ _=>False) s5) (fun _ _=>False) s4
      else ∃ m,m<n/\J m s4) (fun _ _=>False) s3) (fun _ _=>False) s2) (fun _ _=>False) s1) (fun _ _=>False) s)
  (n:Nat) (h:J n s):codeAny (model prog w) A (.compLoop (.ListComp elt [⟨target,iter,ifs,0⟩] scope pos) 0 it acc env) T s:=by
 refine codeAny_loop rfl J (fun n s hJ=>?_) n h
 show wpAny _ A ((compTurn (.ListComp elt [⟨target,iter,ifs,0⟩] scope pos) 0 it acc env).onRaise (fun x=>do noteFrame x env; theTreesLotGoes x)) _ _ s
 refine wpAny_noted ?_
 rw[compTurn_list]
 refine wpAny_bind (wpAny_standAt (wpAny_bind (wpAny_mono (turn n s hJ) (fun r s1 h1=>?_) fun _ _ z=>z.elim)))
 cases r with
 | none=>exact wpAny_pure h1
 | some v =>
  refine wpAny_bind (wpAny_mono h1 (fun _ s2 h2=>wpAny_bind (wpAny_mono h2 (fun _ s3 h3=>wpAny_bind (wpAny_mono h3 (fun ok s4 h4=>?_) fun _ _ z=>z.elim)) fun _ _ z=>z.elim)) fun _ _ z=>z.elim)
  cases ok with
  | false=>exact wpAny_pure ⟨rfl,h4⟩
  | true =>
   refine wpAny_bind (wpAny_bind (wpAny_mono h4 (fun x s5 h5=>wpAny_bind (wpAny_mono h5 (fun _ s6 h6=>?_) fun _ _ z=>z.elim)) fun _ _ z=>z.elim))
   exact wpAny_pure (wpAny_pure ⟨rfl,h6⟩)
theorem relabel_free {env:PySem.Env}:∀ {names:List (Str × NameKind)} {x:Str},names.lookup x=some .free ->
  (names.map fun (n,k)=>if (k == NameKind.free&&env.scope.kind == .function&&env.kindOf n == some .cell) then (n,NameKind.cell) else (n,k)).lookup x=some .cell \/
  (names.map fun (n,k)=>if (k == NameKind.free&&env.scope.kind == .function&&env.kindOf n == some .cell) then (n,NameKind.cell) else (n,k)).lookup x=some .free
 | [],_,h=>by simp at h
 | (n,k)::r,x,h=>by
  have ih:=@relabel_free env r x
  simp only[List.map_cons]
  cases hx:x == n with
  | true =>
   simp only[List.lookup_cons,hx] at h
   cases h
   by_cases hc:(NameKind.free == NameKind.free&&env.scope.kind == .function&&env.kindOf n == some .cell)=true
   ·rw[if_pos hc]; left; simp[List.lookup_cons,hx]
   ·rw[if_neg hc]; right; simp[List.lookup_cons,hx]
  | false =>
   simp only[List.lookup_cons,hx] at h
   by_cases hc:(k == NameKind.free&&env.scope.kind == .function&&env.kindOf n == some .cell)=true
   ·rw[if_pos hc]; simp only[List.lookup_cons,hx]; exact ih h
   ·rw[if_neg hc]; simp only[List.lookup_cons,hx]; exact ih h
theorem of_relabel {env:PySem.Env}:∀ {names:List (Str × NameKind)} {x:Str} {kd:NameKind},(∀ y∈names,y.2≠.cell)->kd=.cell\/kd=.free ->
  (names.map fun (n,k)=>if (k == NameKind.free&&env.scope.kind == .function&&env.kindOf n == some .cell) then (n,NameKind.cell) else (n,k)).lookup x=some kd->(x,NameKind.free)∈names
 | [],_,_,_,_,h=>by simp at h
 | (n,k)::r,x,kd,nc,hk,h=>by
  have ih:=@of_relabel env r x kd (fun y hy=>nc y (List.mem_cons_of_mem _ hy)) hk
  simp only[List.map_cons] at h
  cases hx:x == n with
  | true =>
   have e:x=n:=by simpa using hx
   subst e
   by_cases hc:(k == NameKind.free&&env.scope.kind == .function&&env.kindOf x == some .cell)=true
   ·have:k=.free:=by
     simp only[Bool.and_eq_true,beq_iff_eq] at hc
     exact hc.1.1
    subst this
    exact List.mem_cons_self
   ·rw[if_neg hc] at h
    simp only[List.lookup_cons,hx] at h
    have e2:k=kd:=by simpa using h
    subst e2
    rcases hk with rfl|rfl
    ·exact absurd rfl (nc (x,.cell) List.mem_cons_self)
    ·exact List.mem_cons_self
  | false =>
   refine List.mem_cons_of_mem _ (ih ?_)
   by_cases hc:(k == NameKind.free&&env.scope.kind == .function&&env.kindOf n == some .cell)=true
   ·rw[if_pos hc] at h; simp only[List.lookup_cons,hx] at h; exact h
   ·rw[if_neg hc] at h; simp only[List.lookup_cons,hx] at h; exact h
structure CompNames (X:Cx)(scope:Scope)(x:Str)(fs:List Str)(is:List Nat):Prop where
 kind:scope.kind=.function
 cell:∀ y∈scope.names,y.2≠.cell
 names:∀ y∈scope.names,y.2=.local->scope.names.lookup y.1=some .local
 tgt:scope.names.lookup x=some .local
 nd:(x::fs).Nodup
 free:∀ y∈scope.names,y.2=.free->X.env.kindOf y.1=some .cell\/X.env.kindOf y.1=some .free
 fsf:∀ y∈fs,scope.names.lookup y=some .free
 len:is.length=fs.length
 at':∀ (j:Nat) (y:Str),fs[j]?=some y->∃ i,is[j]?=some i/\X.N[i]?=some y
theorem mem_lookup {α β:Type}[BEq α][LawfulBEq α]:∀ {l:List (α × β)} {x:α} {y:β},l.lookup x=some y->(x,y)∈l
 | [],_,_,h=>by simp at h
 | (a,b)::r,x,y,h=>by
  rw[List.lookup_cons] at h
  cases hx:x == a with
  | true =>
   rw[hx] at h
   have e:x=a:=by simpa using hx
   subst e
   cases h
   exact List.mem_cons_self
  | false=>rw[hx] at h; exact List.mem_cons_of_mem _ (mem_lookup h)
noncomputable def STs (C:Ctx)(ifs:List Expr)(f:EE):Prop :=
 ∃ t:TT,(∀ (pins:List (Addr × Obj)) (s:Shared) (σ:St) (H:Hp) (Q:Bool->Hp->Prop),Inv C.X pins σ H s->t σ H Q ->
  wpAny (model C.X.prog C.X.w) C.X.A (forIn ifs true fun c r=>if r=true then do let ok <- isTrue c C.X.env (eval c C.X.env); pure (ForInStep.yield ok) else pure (ForInStep.yield r)) (TP C.X pins σ Q) C.X.xe s)/\TakC C t f
theorem ts_nil {C:Ctx}:STs C [] (Dv.eBl true) :=
 ⟨fun _ H Q=>Q true H,fun pins s σ H Q I h=>wpAny_tests_nil ⟨H,I,h⟩,fun σ H Hv ρ Q e s q=>by
  obtain⟨b,e1,q⟩:=q.now (v:=.bl true) s rp_bl rfl
  cases e1
  exact q⟩
theorem ts_one {C:Ctx}{c:Expr}{f:EE}(h:SC C c f):STs C [c] f:=by
 obtain⟨t,p,q⟩:=h
 exact⟨t,fun pins s σ H Q I h=>wpAny_tests_one (p pins s σ H Q I h),q⟩
theorem hok_track {P:Program}{w:World}{H:Hp}{h:Heap}{a:Addr}{o:HO}(x:HOk P w H h)(hn:H a=none)(new:ObjOk P w (upd H a o) h a o):HOk P w (upd H a o) h:=fun b u e=>by
 by_cases hb:b=a
 ·subst hb; rw[upd_same] at e; cases e; exact new
 ·rw[upd_ne hb] at e
  exact(x b u e).stay (fun c v _ q=>q) (fun c q=>by rw[upd_ne (ne_of_none q hn)]; exact q) fun c xs q=>by rw[upd_ne (ne_of_none q hn)]; exact q
theorem hok_but {P:Program}{w:World}{H:Hp}{h h':Heap}{a:Addr}(x:HOk P w H h)(hn:H a=none)(k:∀ b o,b≠a->h.get? b=some o->h'.get? b=some o):HOk P w H h':=fun b u e=>by
 refine(x b u e).stay (fun c v hc q=>k c v ?_ q) (fun c q=>q) fun c xs q=>q
 rcases hc with rfl|hc
 ·exact ne_of_none e hn
 ·exact ne_of_none hc hn
section
variable {C:Ctx}
theorem pick_get {ρ:Dv.Env}{is:List Nat}{j:Nat}{d:D}(h:(Dv.pick ρ is)[j]?=some (some d)):∃ i,is[j]?=some i/\ρ[i]?=some (some d):=by
 unfold Dv.pick at h
 rw[List.getElem?_map] at h
 cases q:is[j]? with
 | none=>rw[q] at h; cases h
 | some i =>
  rw[q] at h
  have h':(ρ[i]?).getD none=some d:=Option.some.inj h
  refine⟨i,rfl,?_⟩
  cases z:ρ[i]? with
  | none=>rw[z] at h'; cases h'
  | some o=>rw[z] at h'; exact congrArg some h'
noncomputable def freeV (σ:St)(is:List Nat):St:=is.map fun i=>(σ[i]?).getD none
theorem freeV_get {σ:St}{is:List Nat}{j i:Nat}{v:V}(hi:is[j]?=some i)(h:σ[i]?=some (some v)):(freeV σ is)[j]?=some (some v):=by
 unfold freeV
 rw[List.getElem?_map,hi]
 show some ((σ[i]?).getD none)=_
 rw[h]
 rfl
theorem of_freeV {σ:St}{is:List Nat}{j:Nat}{v:V}(h:(freeV σ is)[j]?=some (some v)):∃ i,is[j]?=some i/\σ[i]?=some (some v):=by
 unfold freeV at h
 rw[List.getElem?_map] at h
 cases q:is[j]? with
 | none=>rw[q] at h; cases h
 | some i =>
  rw[q] at h
  have h':(σ[i]?).getD none=some v:=Option.some.inj h
  refine⟨i,rfl,?_⟩
  cases z:σ[i]? with
  | none=>rw[z] at h'; cases h'
  | some o=>rw[z] at h'; exact congrArg some h'
theorem env_comp {K:PySem.W.Frag}{Hv:Hp}{ρ:Dv.Env}{σ:St}{is:List Nat}{d:D}{v:V}(e:EnvR K Hv ρ σ)(r:Rp K Hv d v):EnvR K Hv (some d::Dv.pick ρ is) (some v::freeV σ is):=fun j x h=>by
 cases j with
 | zero=>cases h; exact⟨v,rfl,r⟩
 | succ j =>
  obtain⟨i,h1,h2⟩:=pick_get (show (Dv.pick ρ is)[j]?=some (some x) from h)
  obtain⟨u,h3,h4⟩:=e i x h2
  exact⟨u,freeV_get h1 h3,h4⟩
theorem comp_cxok {X:Cx}{pins:List (Addr × Obj)}{σ:St}{H1:Hp}{s2:Shared}{scope:Scope}{x:Str}{fs:List Str}{is:List Nat}{cl:List (Str × Addr)}{fp:List Addr}{L:Addr}(I:Inv X pins σ H1 s2)(S:CompNames X scope x fs is)
  (clsub:∀ x c,cl.lookup x=some c->X.env.cells.lookup x=some c) (clhas:∀ y∈scope.names,y.2=.free->∃ c,cl.lookup y.1=some c) (f2:∀ b∈fp,FpOk X pins H1 b) (fin:∀ b∈fp,b<s2.heap.objs.size) (hL:s2.heap.objs.size<=L) :
  (compCx X (x::fs) scope cl L s2 H1 fp).Ok:=by
 refine⟨I.ok.mod,S.kind,I.ok.glob,I.ok.blt,hL,fun y z c h1 h2=>I.ok.inj y z c (clsub y c h1) (clsub z c h2),fun y hy=>?_,fun y c h=>(by cases h),I.ok.hd,I.ok.frames,.inl rfl,fun b hb=>⟨?_,fun y c h=>?_⟩,I.bs,Nat.le_trans I.ok.bsz I.sz,fun b o e hb=>?_,fun b hb hf=>?_,I.stack,I.stkFree⟩
 ·have:(y,NameKind.free)∈scope.names:=by
   rcases hy with hy|hy
   ·exact of_relabel (env:=X.env) S.cell (.inl rfl) hy
   ·exact of_relabel (env:=X.env) S.cell (.inr rfl) hy
  exact clhas _ this rfl
 ·exact Nat.ne_of_lt (Nat.lt_of_lt_of_le (fin b hb) hL)
 ·exact(f2 b hb).2.2.2.2.1 y c (clsub y c h)
 ·obtain⟨_,_,_,h4,_⟩:=f2 b hb
  rcases h4 with h4|h4
  ·exact I.ok.noex b o e h4
  ·exact absurd (Heap.lt_size (I.ok.bs b o e).1) (Nat.not_lt.mpr h4)
 ·obtain⟨_,h2,h3,_⟩:=f2 b hb
  rcases List.mem_cons.mp (I.stkSub b hf) with e|e
  ·exact h2 e
  ·exact h3 e
theorem comp_inv {X:Cx}{pins:List (Addr × Obj)}{σ:St}{H1:Hp}{s2:Shared}{scope:Scope}{x:Str}{fs:List Str}{is:List Nat}{cl:List (Str × Addr)}{fp:List Addr}{L:Addr}{h1:Heap}{t1:Nat}{m:Str->Option Value}(I:Inv X pins σ H1 s2)(S:CompNames X scope x fs is)
  (clsub:∀ x c,cl.lookup x=some c->X.env.cells.lookup x=some c) (clhas:∀ y∈scope.names,y.2=.free->∃ c,cl.lookup y.1=some c) (f2:∀ b∈fp,FpOk X pins H1 b) (fin:∀ b∈fp,b<s2.heap.objs.size) (hL:s2.heap.objs.size<=L)
  (old:∀ b o,s2.heap.get? b=some o->h1.get? b=some o) (hn:h1.Ns L m):Inv (compCx X (x::fs) scope cl L s2 H1 fp) [] (none::freeV σ is) H1 { s2 with heap:=h1,toks:=t1 }:=by
 refine⟨comp_cxok I S clsub clhas f2 fin hL,rfl,I.bare,Un.kept old,⟨m,hn,fun i y v e1 e2 e3=>?_⟩,fun y c e=>?_,I.hok.fresh hL,fun y c e=>I.freeC y c (clsub y c e),fun p hp=>absurd (show p∈([]:List (Addr × Obj)) from hp) (by simp),I.hok.kept old,?_⟩
 ·cases i with
  | zero=>cases e2
  | succ j =>
   have e1':fs[j]?=some y:=e1
   obtain⟨i,h1',h2'⟩:=of_freeV (show (freeV σ is)[j]?=some (some v) from e2)
   obtain⟨i',h3,h4⟩:=S.at' j y e1'
   rw[h1'] at h3
   cases h3
   have hfr:=S.fsf y (List.mem_of_getElem? e1')
   have hk:=S.free (y,.free) (mem_lookup hfr) rfl
   obtain⟨mm,hm,hl⟩:=I.loc
   have vis:Vis X.env.scope y:=by
    rcases hk with k|k
    ·exact .inr (.inl k)
    ·exact .inr (.inr k)
   obtain⟨u,r,l⟩:=hl i y v h4 h2' vis
   refine⟨u,r,?_⟩
   rcases l with ⟨k,_⟩|⟨_,c,hc,hcell⟩
   ·have k:X.env.kindOf y=some .local:=k
    rcases hk with k' | k' <;>rw[k] at k' <;>cases k'
   ·obtain⟨c',hc'⟩:=clhas (y,.free) (mem_lookup hfr) rfl
    have:=clsub y c' hc'
    rw[hc] at this
    cases this
    obtain⟨oc,hoc,hod⟩:=hcell
    refine .inr ⟨?_,c,hc',oc,old c oc hoc,hod⟩
    exact relabel_free (env:=X.env) hfr
 ·obtain⟨v,oc,hoc,hod⟩:=I.cell y c (clsub y c e)
  exact⟨v,oc,old c oc hoc,hod⟩
 ·show (none::freeV σ is).length=(x::fs).length
  rw[List.length_cons,List.length_cons]
  unfold freeV
  rw[List.length_map,S.len]
end
theorem ext_merge {Hv1 H1 Hvn Hn Hv' H':Hp}(x:Ext Hv1 H1 Hvn Hn)(y:Ext Hv1 Hn Hv' H'):∃ Hvm,Ext Hvn Hn Hvm H'/\Same Hv' Hvm:=by
 refine⟨fun b=>match Hn b with|none=>H' b|some _=>Hvn b,⟨y.hh,fun b o q=>?_,fun b o q=>?_,fun b o q n=>?_,fun b q=>?_,y.nf⟩,fun b o q=>?_⟩
 ·show (match Hn b with|none=>H' b|some _=>Hvn b)=some o
  cases z:Hn b with
  | none=>rw[x.vh b o q] at z; cases z
  | some _=>exact q
 ·have q':(match Hn b with|none=>H' b|some _=>Hvn b)=some o:=q
  cases z:Hn b with
  | none=>rw[z] at q'; exact q'
  | some u=>rw[z] at q'; exact y.hh _ _ (x.vh b o q')
 ·have q':(match Hn b with|none=>H' b|some _=>Hvn b)=some o:=q
  cases z:Hn b with
  | none=>rfl
  | some u=>rw[z] at q'; rw[n] at q'; cases q'
 ·show (match Hn b with|none=>H' b|some _=>Hvn b)=H' b
  rw[q]
 ·show (match Hn b with|none=>H' b|some _=>Hvn b)=some o
  cases z:Hn b with
  | none=>exact y.vh b o q
  | some u =>
   cases z2:Hv1 b with
   | none=>have:=y.new b o q z2; rw[z] at this; cases this
   | some u' =>
    have h1:=y.vv b u' z2
    rw[q] at h1
    cases h1
    exact x.vv b o z2
section
variable {C:Ctx}{elt iter:Expr}{x:Str}{px pos:Pos}{ifs:List Expr}{scope:Scope}{fs:List Str}{is:List Nat}{fi:EI}{fe fc:EE}
structure CompAt (C:Ctx)(x:Str)(fs:List Str)(is:List Nat)(scope:Scope)(cl:List (Str × Addr))(L Da:Addr)(s2:Shared)(H1 Hv1:Hp)(fp:List Addr)(tn:Nat->Heap->Prop)(σ:St)(ds:List D)(i:Nat)(o:Option V)(vs:List V)(xs:List D)(f1:Bool)(Hn Hvn:Hp)(s:Shared):Prop where
 le:i<=ds.length
 inv:Inv (compCx C.X (x::fs) scope cl L s2 H1 fp) [] (o::freeV σ is) Hn s
 at_:tn i s.heap
 fpn:∀ b∈fp,Hn b=none
 obj:∃ (its:List Value) (ne:Nat),s.heap.get? Da=some { cls:=.type "list",data:=.seq its.toArray ne }/\Vals vs its
 dn:Hn Da=none
 few:vs.length<=i
 ext:Ext Hv1 H1 Hvn Hn
 rp:RpL C.X.K Hvn xs vs
 fr:f1=true->RpL [] (Hnew H1 Hn) xs vs
theorem comp_end {cl:List (Str × Addr)}{L Da:Addr}{s2:Shared}{H1:Hp}{fp:List Addr}{σ:St}{pins:List (Addr × Obj)}{its:List Value}{ne:Nat}{vs:List V}{Hn:Hp}{s1:Shared}{o:Option V}{h':Heap}
  (I2:Inv C.X pins σ H1 s2) (f2:∀ b∈fp,FpOk C.X pins H1 b) (eD:Da=s2.heap.objs.size) (eL:L=s2.heap.objs.size+1)
  (I:Inv (compCx C.X (x::fs) scope cl L s2 H1 fp) [] (o::freeV σ is) Hn s1) (obj:s1.heap.get? Da=some { cls:=.type "list",data:=.seq its.toArray ne }) (rv:Vals vs its) (dn:Hn Da=none) (few:vs.length<=sizeLine)
  (sb:∀ b,b≠L->h'.get? b=s1.heap.get? b):Inv C.X pins σ (upd Hn Da (.lst vs)) { s1 with heap:=h' }:=by
 have lt:∀ b o,s2.heap.get? b=some o->b≠Da/\b≠L:=fun b o e=>by
  have hlt:=Heap.lt_size e
  rw[eD,eL]
  exact⟨Nat.ne_of_lt hlt,Nat.ne_of_lt (Nat.lt_succ_of_lt hlt)⟩
 have hDL:Da≠L:=by rw[eD,eL]; exact Nat.ne_of_lt (Nat.lt_succ_self _)
 have kp:∀ b o,b≠L->s1.heap.get? b=some o->h'.get? b=some o:=fun b o hb e=>(sb b hb).trans e
 refine I2.call' (s':={ s1 with heap:=h' }) (ch:=fp) I.os ⟨fun b ob e n hb hx=>?_,fun b ob e n hb hx=>?_,fun b ob e n hx=>?_,fun b ob e hx=>?_,fun b us e=>?_,fun b ob u e=>?_,fun b ps e=>?_⟩ ?_ I.bare fun b hb=>⟨(f2 b hb).2.2.2.1,(f2 b hb).2.1,(f2 b hb).2.2.2.2.1,(f2 b hb).2.2.2.2.2⟩
 ·exact kp b ob (lt b ob e).2 (I.base.keep b ob e n hb hx)
 ·obtain⟨sl,h1⟩:=I.base.slot b ob e n hb hx
  exact⟨sl,kp b _ (lt b ob e).2 h1⟩
 ·rw[upd_ne (lt b ob e).1]; exact I.base.free b ob e n hx
 ·obtain⟨o',h1⟩:=I.base.there b ob e hx
  exact⟨o',kp b _ (lt b ob e).2 h1⟩
 ·have h1:=I.base.tups b us e
  rw[upd_ne (ne_of_none h1 dn)]; exact h1
 ·have h1:=I.base.frzs b ob u e
  rw[upd_ne (ne_of_none h1 dn)]; exact h1
 ·obtain⟨more,h1⟩:=I.base.tbls b ps e
  exact⟨more,by rw[upd_ne (ne_of_none h1 dn)]; exact h1⟩
 ·exact hok_track (hok_but I.hok I.free kp) dn ⟨few,its,ne,rv,kp Da _ hDL obj⟩
theorem compGo_cons {elt cond:EE}{free:Dv.Env}{d:D}{r:List D}{xs:List D}{f:Bool}(h:Dv.compGo elt cond free (d::r)=.ok xs f) :
  (∃ g x fx xs' f',cond (some d::free)=.ok (.bl true) g/\elt (some d::free)=.ok x fx/\Dv.compGo elt cond free r=.ok xs' f'/\xs=x::xs'/\f=(fx&&f')) \/
  (∃ g,cond (some d::free)=.ok (.bl false) g/\Dv.compGo elt cond free r=.ok xs f):=by
 unfold Dv.compGo at h
 cases hc:cond (some d::free) with
 | bad=>simp only[hc] at h; cases h
 | exc c=>simp only[hc] at h; cases h
 | ok b g =>
  cases b with
  | bl b =>
   cases b with
   | true =>
    simp only[hc] at h
    cases he:elt (some d::free) with
    | bad=>simp only[he] at h; cases h
    | exc c=>simp only[he] at h; cases h
    | ok x fx =>
     simp only[he] at h
     cases hr:Dv.compGo elt cond free r with
     | bad=>simp only[hr] at h; cases h
     | exc c=>simp only[hr] at h; cases h
     | ok xs' f' =>
      simp only[hr] at h
      cases h
      exact .inl ⟨g,x,fx,xs',f',rfl,rfl,rfl,rfl,rfl⟩
   | false=>simp only[hc] at h; exact .inr ⟨g,rfl,h⟩
  | _=>simp only[hc] at h; cases h
noncomputable def CompFin (C:Ctx)(pins:List (Addr × Obj))(σ:St)(Q:VK)(Da L:Addr)(s5:Shared):Prop :=
 (∃ m,s5.heap.Ns L m)/\L≠C.X.env.locals/\(∀ x c,C.X.env.cells.lookup x=some c->c≠L)/\C.X.s₀.heap.objs.size<=L/\(∀ p∈C.X.pn++pins,p.1≠L) /\
  ∃ H',H' L=none/\Q (.ref Da) H'/\∀ h',(∀ b,b≠L->h'.get? b=s5.heap.get? b)->Inv C.X pins σ H' { s5 with heap:=h' }
theorem comp_core {pins:List (Addr × Obj)}{s:Shared}{σ:St}{H Hv:Hp}{ρ:Dv.Env}{Q:VK}{use:Option (Value->Sem Unit)}{Q':Value->Shared->Prop}{pos':Pos}(hclm:C.X.calm=true)(S:CompNames C.X scope x fs is)(hi:SI C (.Name x px) iter fi)(he:∀ cl L s₀ H₀ ex,SE (compCtx C (x::fs) scope cl L s₀ H₀ ex) elt fe)(hc:∀ cl L s₀ H₀ ex,STs (compCtx C (x::fs) scope cl L s₀ H₀ ex) ifs fc)
  (hs:∀ v,foldedSetIterable iter C.X.env v=pure v) (I:Inv C.X pins σ H s) (er:EnvR C.X.K Hv ρ σ) (sv:Same Hv H) (ok:Ok C.X.K Hv H (C.W σ) C.cls (Dv.eComp fe fc is fi ρ) Q)
  (hfin:∀ Da L s5,CompFin C pins σ Q Da L s5->compPost (model C.X.prog C.X.w) C.X.A C.X.xe use Q' (.ref Da) L (.ok .next) s5) :
  wpAny (model C.X.prog C.X.w) C.X.A (comprehension (.ListComp elt [⟨.Name x px,iter,ifs,0⟩] scope pos) scope C.X.env pos' (newList []) false (eval iter C.X.env) use) Q' C.X.xe s:=by
 obtain⟨wi,pi,qi⟩:=hi
 obtain⟨cl,hcl,clsub,clhas⟩:=closure_of (env:=C.X.env) (scope:=scope) fun y hy hf=>I.ok.has y.1 (S.free y hy hf)
 have h0:wi σ H (fun J H1=>∃ Hv1 ds xs fr,Ext Hv H Hv1 H1/\Wlk C.X.K J Hv1 ds/\ds.length<=Dv.mx/\Dv.compGo fe fc (Dv.pick ρ is) ds=.ok xs fr/\Ok C.X.K Hv H (C.W σ) C.cls (.ok (.lst xs) fr) Q):=by
  refine qi σ H Hv ρ _ er sv ?_
  unfold Dv.eComp at ok
  cases hf:fi ρ with
  | bad=>simp only[hf] at ok; exact ok
  | exc c=>simp only[hf] at ok; exact ok
  | ok ds g =>
   simp only[hf] at ok
   by_cases hz:ds.length<=Dv.mx
   ·simp only[hz,if_true] at ok
    cases hgo:Dv.compGo fe fc (Dv.pick ρ is) ds with
    | bad=>simp only[hgo] at ok; exact(show False from ok).elim
    | exc c=>simp only[hgo] at ok; exact(show False from ok).elim
    | ok xs fr =>
     simp only[hgo] at ok
     exact fun J Hv1 H1 x1 wl=>⟨Hv1,ds,xs,fr,x1,wl,hz,hgo,ok⟩
   ·simp only[hz,if_false] at ok
    exact(show False from ok).elim
 refine wpAny_comprehension_free (use:=use) rfl hs hcl S.kind S.names (wpAny_mono (pi pins s σ H _ I h0) (fun v s1 h1=>wpAny_mono h1 (fun itv s2 h2=>?_) fun _ _ z=>z) fun _ _ z=>z)
 obtain⟨it,fp,tn,J,H1,rfl,I2,T,st2,f2,Hv1,ds,xs,fr,x1,wl,hz,hgo,okE⟩:=h2
 clear ok
 have fin:∀ b∈fp,b<s2.heap.objs.size:=fun b hb=>by
  obtain⟨o,e,_⟩:=T.obj 0 _ st2 b hb
  exact Heap.lt_size e
 refine wpAny_newObj_type (wpAny_newFunctionEnv S.cell (by intro y hy; simp at hy) (fun h1 hns hsb=>?_) S.kind)
 dsimp only at hns hsb ⊢
 generalize hH2:s2.heap.push { cls:=.type "list",dict:=none,data:=.seq ([]:List Value).toArray }=G2 at hns hsb ⊢
 have hL:G2.objs.size=s2.heap.objs.size+1:=by rw[<- hH2,Heap.size_push]
 generalize eL:G2.objs.size=L at hns hsb ⊢
 rw[eL] at hL
 have old:∀ b o,s2.heap.get? b=some o->h1.get? b=some o:=fun b o e=>by
  have hlt:=Heap.lt_size e
  exact hsb.extBut b o (by rw[hL]; exact Nat.ne_of_lt (Nat.lt_succ_of_lt hlt)) (Heap.get?_push_of_some _ (hH2▸Heap.get?_push_of_some _ e))
 have hacc:h1.get? s2.heap.objs.size=some { cls:=.type "list",data:=.seq ([]:List Value).toArray 0 }:=hsb.extBut _ _ (by rw[hL]; exact Nat.ne_of_lt (Nat.lt_succ_self _)) (Heap.get?_push_of_some _ (hH2▸Heap.get?_push_size _ rfl))
 generalize eD:s2.heap.objs.size=Da at hacc hL ⊢
 have hDfp:Da∉fp:=fun hb=>by
  have:=fin Da hb
  rw[eD] at this
  exact Nat.lt_irrefl _ this
 have hDL:Da≠L:=by rw[hL]; exact Nat.ne_of_lt (Nat.lt_succ_self _)
 have hsL:s2.heap.objs.size<=L:=by rw[hL,eD]; exact Nat.le_succ _
 have hsD:s2.heap.objs.size<=Da:=Nat.le_of_eq eD
 obtain⟨te,pe,qe⟩:=he cl L s2 H1 fp
 obtain⟨tt,pt,qt⟩:=hc cl L s2 H1 fp
 have hDfs:Da∉frs C.X.stack:=fun hb=>by
  obtain⟨_,ob,hob,_⟩:=I2.stack.mem hb
  have:=Heap.lt_size hob
  rw[eD] at this
  exact Nat.lt_irrefl _ this
 have hcalm:(compCx C.X (x::fs) scope cl L s2 H1 fp).calm=true:=hclm
 have start:CompAt C x fs is scope cl L Da s2 H1 Hv1 fp tn σ ds 0 none [] [] true H1 Hv1 { s2 with heap:=h1,toks:=s2.toks+([]:List (Str × Value)).length } :=
  ⟨Nat.zero_le _,comp_inv I2 S clsub clhas f2 fin hsL old hns,T.keep 0 _ _ st2 fun b hb o e=>old b o e,fun b hb=>(f2 b hb).1,⟨[],0,hacc,.nil⟩,I2.hok.fresh hsD,Nat.le_refl _,.refl x1.vh,.nil,fun _=>.nil⟩
 have loop:∀ (T0:Result->Shared->Prop) (s4:Shared),(∀ s',CompFin C pins σ Q Da L s'->T0 (.ok .next) s')->CompAt C x fs is scope cl L Da s2 H1 Hv1 fp tn σ ds 0 none [] [] true H1 Hv1 s4 ->
   codeAny (model C.X.prog C.X.w) C.X.A (.compLoop (.ListComp elt [⟨.Name x px,iter,ifs,0⟩] scope pos) 0 (.ref it) (.ref Da) (compEnvC scope cl L C.X.env)) T0 s4:=by
  intro T0 s4 hT hst
  refine comp_turns (fun n s=>∃ i o vs xs1 f1 xs2 fr2 Hn Hvn,n=ds.length-i/\CompAt C x fs is scope cl L Da s2 H1 Hv1 fp tn σ ds i o vs xs1 f1 Hn Hvn s/\Dv.compGo fe fc (Dv.pick ρ is) (ds.drop i)=.ok xs2 fr2/\xs=xs1++xs2/\fr=(f1&&fr2)) ?_ ds.length ⟨0,none,[],[],true,xs,fr,H1,Hv1,rfl,hst,hgo,rfl,by simp⟩
  rintro n s ⟨i,o,vs,xs1,f1,xs2,fr2,Hn,Hvn,rfl,A,hg2,hxs,hfr⟩
  obtain⟨its,ne,hob,rv⟩:=A.obj
  have I1:Inv (compCx C.X (x::fs) scope cl L s2 H1 fp) [(Da,{ cls:=.type "list",data:=.seq its.toArray ne })] (o::freeV σ is) Hn s:=A.inv.pins_of fun p hp=>by
   have e:p=(Da,({ cls:=.type "list",data:=.seq its.toArray ne }:Obj)):=by simpa using hp
   subst e
   exact⟨hob,A.dn,hDL,hDfs,fun v z=>by cases z⟩
  have hfp:∀ Hx:Hp,(∀ b∈fp,Hx b=none)->∀ b∈fp,FpOk (compCx C.X (x::fs) scope cl L s2 H1 fp) [(Da,{ cls:=.type "list",data:=.seq its.toArray ne })] Hx b:=fun Hx hx b hb=>by
   refine⟨hx b hb,?_,fun hf=>?_,.inl hb,fun y c e=>(f2 b hb).2.2.2.2.1 y c (clsub y c e),fun p hp=>?_⟩
   ·have:=fin b hb
    exact fun z=>by
     have z':b=L:=z
     rw[z'] at this
     exact absurd this (Nat.not_lt.mpr hsL)
   ·obtain⟨_,ob,hob',_⟩:=I2.stack.mem hf
    rcases List.mem_cons.mp (I2.stkSub b hf) with e|e
    ·exact(f2 b hb).2.1 e
    ·exact(f2 b hb).2.2.1 e
   ·have e:p=(Da,({ cls:=.type "list",data:=.seq its.toArray ne }:Obj)):=by simpa using (show p∈[]++[(Da,({ cls:=.type "list",data:=.seq its.toArray ne }:Obj))] from hp)
    subst e
    exact fun z=>hDfp (by rw[show Da=b from z]; exact hb)
  obtain⟨w1,w2⟩:=wl i Hn (A.ext.vv.trans A.ext.vh)
  by_cases hlt:i<ds.length
  ·have hd:ds[i]?=some ds[i]:=by simp[hlt]
   have e1:ds.drop i=ds[i]::ds.drop (i+1):=List.drop_eq_getElem_cons hlt
   rw[e1] at hg2
   generalize ds[i]=d at hd e1 hg2
   obtain⟨go,yl⟩:=w1 d hd
   refine wpAny_mono (T.item (compCx C.X (x::fs) scope cl L s2 H1 fp) rfl rfl rfl hcalm i _ s _ Hn (fun _ _=>False) I1 (hfp Hn A.fpn) A.at_ go) (fun r s5 h5=>?_) fun _ _ z=>z
   obtain⟨u,rfl,h5⟩:=h5
   refine wpAny_mono h5 (fun _ s6 h6=>?_) fun _ _ z=>z
   obtain⟨xv,H6,I6,ru,y6,tn6,fr6⟩:=h6
   obtain⟨Hv6,x6,rp6⟩:=yl xv H6 y6
   obtain⟨Hvm,xm,sm⟩:=ext_merge A.ext x6
   have I6p:=I6.pinned (fp:=fp) (hfp H6 fr6) (T.obj _ _ tn6)
   have dn6:H6 Da=none:=(I6.pin (Da,{ cls:=.type "list",data:=.seq its.toArray ne }) (List.mem_append_right _ (by simp))).2.1
   have hg:=pg_name (X:=compCx C.X (x::fs) scope cl L s2 H1 fp) (pos:=px) (i:=0) (x:=x) S.nd rfl (.inl (lookup_relabel_local S.tgt)) (.inr (lookup_relabel_local S.tgt))
   refine wpAny_mono (hg _ s6 _ H6 xv u (fun σ' H'=>σ'=some xv::freeV σ is/\H'=H6) I6p ru ⟨rfl,rfl⟩) (fun _ s7 h7=>?_) fun _ _ z=>z
   obtain⟨σ7,H7,I7,e7,e7'⟩:=h7
   subst e7 e7'
   have er7:EnvR C.X.K Hvm (some d::Dv.pick ρ is) (some xv::freeV σ is):=env_comp (er.same ((x1.vv.trans A.ext.vv).trans xm.vv)) (rp6.same sm)
   have back:∀ {s':Shared} {H':Hp} {σ':St},Inv (compCx C.X (x::fs) scope cl L s2 H1 fp) ([(Da,{ cls:=.type "list",data:=.seq its.toArray ne })]++pinsAt fp s6.heap) σ' H' s'->tn (i+1) s'.heap/\(∀ b∈fp,H' b=none)/\s'.heap.get? Da=some { cls:=.type "list",data:=.seq its.toArray ne }/\H' Da=none:=fun {s' H' σ'} I'=>by
    refine⟨T.keep _ _ _ tn6 fun b hb o e=>(I'.pin (b,o) (List.mem_append_right _ (List.mem_append_right _ (mem_pinsAt hb e)))).1,fun b hb=>?_,?_,?_⟩
    ·obtain⟨o,e,_⟩:=T.obj _ _ tn6 b hb
     exact(I'.pin (b,o) (List.mem_append_right _ (List.mem_append_right _ (mem_pinsAt hb e)))).2.1
    ·exact(I'.pin (Da,{ cls:=.type "list",data:=.seq its.toArray ne }) (List.mem_append_right _ (List.mem_append_left _ (by simp)))).1
    ·exact(I'.pin (Da,{ cls:=.type "list",data:=.seq its.toArray ne }) (List.mem_append_right _ (List.mem_append_left _ (by simp)))).2.1
   rcases compGo_cons hg2 with ⟨g,xd,fx,xs',f',hcond,helt,hrest,exs,ef⟩|⟨g,hcond,hrest⟩
   ·-- the item is taken
    refine wpAny_mono (pt _ s7 _ H7 (fun b H'=>b=true/\∃ Hvq,Ext Hvm H7 Hvq H') I7 (qt _ H7 Hvm (some d::Dv.pick ρ is) _ er7 xm.vh ?_)) (fun okb s8 h8=>?_) fun _ _ z=>z
    ·rw[hcond]
     intro v Hv' H' xx rpb _
     unfold Rp at rpb
     exact⟨true,rpb,rfl,Hv',xx⟩
    obtain⟨H8,I8,rfl,Hv8,x8⟩:=h8
    rw[if_pos rfl]
    refine wpAny_mono (pe _ s8 _ H8 (fun v H'=>∃ Hv',Ext Hv8 H8 Hv' H'/\Rp C.X.K Hv' xd v/\(fx=true->Rp [] (Hnew H8 H') xd v)) I8 (qe _ H8 Hv8 (some d::Dv.pick ρ is) _ (er7.same x8.vv) x8.vh ?_)) (fun uv s9 h9=>?_) fun _ _ z=>z
    ·show Ok C.X.K Hv8 H8 _ C.cls (fe (some d::Dv.pick ρ is)) _
     rw[helt]
     exact fun v Hv' H' xx rpb nn=>⟨Hv',xx,rpb,nn⟩
    obtain⟨v9,H9,I9,r9,Hv9,x9,rp9,n9⟩:=h9
    obtain⟨tn9,fpn9,ob9,dn9⟩:=back I9
    have hlen:=rv.length
    refine call_meets F.slot_list_append ⟨_,ob9,rfl⟩ F.entry_list_append (F.args_list_append_2 _ _) (PySem.list_append Da its.toArray ne uv (by rw[List.size_toArray]; have:=A.few; have:=mx_line hz; omega)) ⟨ob9,?_⟩
    refine⟨ds.length-(i+1),by omega,i+1,some xv,vs++[v9],xs1++[xd],f1&&fx,xs',f',H9,Hv9,rfl,⟨hlt,?_,?_,fpn9,?_,dn9,?_,?_,?_,?_⟩,hrest,by rw[hxs,exs]; simp,by rw[hfr,ef,Bool.and_assoc]⟩
    ·have I9':Inv (compCx C.X (x::fs) scope cl L s2 H1 fp) [] (some xv::freeV σ is) H9 s9:=I9.pins_of fun p hp=>absurd hp (by simp)
     exact I9'.turned (it:=Da) (fun b ob hb e=>(Heap.get?_update_other _ _ (Ne.symm hb)).trans e) dn9 hDL (.inr hsD) (fun y c e z=>by
      obtain⟨w',oc,hoc,_⟩:=I2.cell y c (clsub y c e)
      have:=Heap.lt_size hoc
      rw[z] at this
      exact absurd this (Nat.not_lt.mpr hsD)) (fun p hp=>absurd (show p∈([]:List (Addr × Obj)) from hp) (by simp))
    ·exact T.keep _ _ _ tn9 fun b hb ob e=>(Heap.get?_update_other _ _ (fun z=>hDfp (by rw[z]; exact hb))).trans e
    ·have q:=PySem.IsL.update ob9 (fun a=>a.push uv)
     exact⟨its++[uv],_,by simpa using q,rv.append (.cons r9 .nil)⟩
    ·rw[List.length_append,List.length_singleton]; have:=A.few; omega
    ·exact A.ext.trans (xm.trans (x8.trans x9))
    ·exact(A.rp.same ((xm.vv.trans x8.vv).trans x9.vv)).append (.cons rp9 .nil)
    ·intro z
     rw[Bool.and_eq_true] at z
     refine((A.fr z.1).same (Hnew.mono (.refl _) ((xm.hh.trans x8.hh).trans x9.hh))).append (.cons ((n9 z.2).same (Hnew.mono ((A.ext.hh.trans xm.hh).trans x8.hh) (.refl _))) .nil)
   ·-- the item is left out
    refine wpAny_mono (pt _ s7 _ H7 (fun b H'=>b=false/\∃ Hvq,Ext Hvm H7 Hvq H') I7 (qt _ H7 Hvm (some d::Dv.pick ρ is) _ er7 xm.vh ?_)) (fun okb s8 h8=>?_) fun _ _ z=>z
    ·rw[hcond]
     intro v Hv' H' xx rpb _
     unfold Rp at rpb
     exact⟨false,rpb,rfl,Hv',xx⟩
    obtain⟨H8,I8,rfl,Hv8,x8⟩:=h8
    rw[if_neg Bool.false_ne_true]
    obtain⟨tn8,fpn8,ob8,dn8⟩:=back I8
    refine⟨ds.length-(i+1),by omega,i+1,some xv,vs,xs1,f1,xs2,fr2,H8,Hv8,rfl,⟨hlt,I8.pins_of fun p hp=>absurd hp (by simp),tn8,fpn8,⟨its,ne,ob8,rv⟩,dn8,Nat.le_succ_of_le A.few,A.ext.trans (xm.trans x8),A.rp.same (xm.vv.trans x8.vv),fun z=>(A.fr z).same (Hnew.mono (.refl _) (xm.hh.trans x8.hh))⟩,hrest,hxs,hfr⟩
  ·have ei:i=ds.length:=Nat.le_antisymm A.le (by omega)
   refine wpAny_mono (T.done (compCx C.X (x::fs) scope cl L s2 H1 fp) rfl rfl rfl hcalm i _ s _ Hn (fun _ _=>False) I1 (hfp Hn A.fpn) A.at_ (w2 ei)) (fun r s5 h5=>?_) fun _ _ z=>z
   obtain⟨rfl,I5⟩:=h5
   refine hT s5 ?_
   obtain⟨m5,hn5,_⟩:=I5.loc
   rw[ei,List.drop_length] at hg2
   cases hg2
   rw[List.append_nil] at hxs
   rw[Bool.and_true] at hfr
   subst hxs hfr
   have ob5:=(I5.pin (Da,{ cls:=.type "list",data:=.seq its.toArray ne }) (List.mem_append_right _ (by simp))).1
   refine⟨⟨m5,hn5⟩,fun z=>absurd I2.lt (by rw[<- z]; exact Nat.not_lt.mpr hsL),fun y c e z=>?_,Nat.le_trans I2.sz hsL,fun p hp z=>?_,upd Hn Da (.lst vs),?_,?_,fun h' sb=>?_⟩
   ·obtain⟨w',oc,hoc,_⟩:=I2.cell y c e
    exact absurd (Heap.lt_size hoc) (by rw[z]; exact Nat.not_lt.mpr hsL)
   ·exact absurd (Heap.lt_size (I2.pin p hp).1) (by rw[z]; exact Nat.not_lt.mpr hsL)
   ·rw[upd_ne (Ne.symm hDL)]; exact A.inv.free
   ·exact Ok.newL okE (x1.trans A.ext) A.rp (fun z=>(A.fr z).same (Hnew.mono x1.hh (.refl _))) Da A.dn
   ·exact comp_end I2 f2 eD.symm (by rw[hL,eD]) (I5.pins_of fun p hp=>absurd hp (by simp)) ob5 rv A.dn (by have:=A.few; have:=A.le; have:=mx_line hz; omega) sb
 refine codeAny_compStart_list (loop _ _ (fun s' h=>hfin Da L s' h) start) ?_
 exact T.self _ 0 _ _ _ start.at_ (loop _ _ (fun s' h=>hfin Da L s' h) start)
theorem se_comp (S:CompNames C.X scope x fs is)(hi:SI C (.Name x px) iter fi)(he:∀ cl L s₀ H₀ ex,SE (compCtx C (x::fs) scope cl L s₀ H₀ ex) elt fe)(hc:∀ cl L s₀ H₀ ex,STs (compCtx C (x::fs) scope cl L s₀ H₀ ex) ifs fc)
  (hs:autoParam (∀ v,foldedSetIterable iter C.X.env v=pure v) Au.h4._auto_1) (hclm:autoParam (C.X.calm=true) Au.h5._auto_1):SE C (.ListComp elt [⟨.Name x px,iter,ifs,0⟩] scope pos) (Dv.eComp fe fc is fi):=by
 refine⟨fun σ H Q=>∃ Hv ρ,EnvR C.X.K Hv ρ σ/\Same Hv H/\Ok C.X.K Hv H (C.W σ) C.cls (Dv.eComp fe fc is fi ρ) Q,?_,fun σ H Hv ρ Q e s q=>⟨Hv,ρ,e,s,q⟩⟩
 intro pins s σ H Q I ⟨Hv,ρ,er,sv,ok⟩
 rw[eval_ListComp]
 refine comp_core (use:=none) hclm S hi he hc hs I er sv ok fun Da L s5 h=>?_
 obtain⟨⟨m,hn⟩,_,_,_,_,H',hL,q,iv⟩:=h
 exact⟨m,hn,fun h' sb=>⟨.ref Da,H',iv h' fun b hb=>sb.2 b hb,rfl,q⟩⟩
theorem ps_setComp {i:Nat}{y:Str}{py spos:Pos}(S:CompNames C.X scope x fs is)(hi:SI C (.Name x px) iter fi)(he:∀ cl L s₀ H₀ ex,SE (compCtx C (x::fs) scope cl L s₀ H₀ ex) elt fe)(hc:∀ cl L s₀ H₀ ex,STs (compCtx C (x::fs) scope cl L s₀ H₀ ex) ifs fc)
  (hN:C.X.N.Nodup) (hy:C.X.N[i]?=some y) (hl:C.X.env.scope.names.lookup y=some .local) (hsw:swapsWith (.ListComp elt [⟨.Name x px,iter,ifs,0⟩] scope pos) (some (.Name y py)) spos.line C.X.env=pure true) (hs:∀ v,foldedSetIterable iter C.X.env v=pure v) (hclm:C.X.calm=true) :
  PS C.X (.Assign [.Name y py] (.ListComp elt [⟨.Name x px,iter,ifs,0⟩] scope pos) spos) (fun E σ H=>∃ Hv ρ,EnvR C.X.K Hv ρ σ/\Same Hv H/\Ok C.X.K Hv H (C.W σ) C.cls (Dv.eComp fe fc is fi ρ) fun v H'=>E.nx (σ.set i (some v)) H'):=by
 intro pins s σ H E I ⟨Hv,ρ,er,sv,ok⟩
 rw[exec_Assign_Name_used _ _ _ _ hsw]
 refine wpAny_bind (wpAny_standAt (wpAny_bind ?_))
 show wpAny _ _ (do let _ <- comprehension (.ListComp elt [⟨.Name x px,iter,ifs,0⟩] scope pos) scope C.X.env _ (newList []) false (eval iter C.X.env) (some (assign (.Name y py) C.X.env))) _ _ s
 refine wpAny_bind (wpAny_mono (comp_core (use:=some (assign (.Name y py) C.X.env)) (Q':=fun _ s'=>∃ σ' H',Inv C.X pins σ' H' s'/\E.nx σ' H') hclm S hi he hc hs I er sv ok fun Da L s5 h=>?_) (fun _ s' hq=>wpAny_pure (wpAny_pure hq)) fun _ _ e=>e)
 obtain⟨⟨m,hn⟩,h1,h2,h3,h4,H',hL,q,iv⟩:=h
 have I5:Inv C.X pins σ H' s5:=iv s5.heap fun b _=>rfl
 show wpAny _ _ (assign (.Name y py) C.X.env (.ref Da)) _ _ s5
 refine wpAny_assign_Name (store_ok2 (v:=.ref Da) I5 hN hy (.inl hl) rfl (fun s6 I6 ⟨a,sb,ha⟩=>?_) (.inr hl))
 have hLa:L≠a:=by
  rcases ha with rfl|ha
  ·exact h1
  ·exact fun z=>h2 y a ha z.symm
 refine⟨m,hn.sameBut sb hLa,fun h' sb'=>⟨_,H',?_,q⟩⟩
 exact I6.turned (t':=s6.toks) (it:=L) (fun b o hb e=>(sb'.2 b hb).trans e) hL h1 (.inr h3) h2 h4
theorem st_setComp {i:Nat}{y:Str}{py spos:Pos}(S:CompNames C.X scope x fs is)(hi:SI C (.Name x px) iter fi)(he:∀ cl L s₀ H₀ ex,SE (compCtx C (x::fs) scope cl L s₀ H₀ ex) elt fe)(hc:∀ cl L s₀ H₀ ex,STs (compCtx C (x::fs) scope cl L s₀ H₀ ex) ifs fc)
  (hN:C.X.N.Nodup) (hy:C.X.N[i]?=some y) (hl:C.X.env.scope.names.lookup y=some .local) (hsw:autoParam (swapsWith (.ListComp elt [⟨.Name x px,iter,ifs,0⟩] scope pos) (some (.Name y py)) spos.line C.X.env=pure true) Au.h5._auto_1) (hs:autoParam (∀ v,foldedSetIterable iter C.X.env v=pure v) Au.h4._auto_1) (hclm:autoParam (C.X.calm=true) Au.h5._auto_1) :
  SSt C (.Assign [.Name y py] (.ListComp elt [⟨.Name x px,iter,ifs,0⟩] scope pos) spos) (Dv.sSet i (Dv.eComp fe fc is fi)) :=
 ⟨_,ps_setComp S hi he hc hN hy hl hsw hs hclm,fun Hv₀ H₀ E σ H st r w=>sSet_ok (f:=Dv.eComp fe fc is fi) (t:=fun σ H Q=>∃ Hv ρ,EnvR C.X.K Hv ρ σ/\Same Hv H/\Ok C.X.K Hv H (C.W σ) C.cls (Dv.eComp fe fc is fi ρ) Q) (fun σ H Hv ρ Q e s q=>⟨Hv,ρ,e,s,q⟩) i r w⟩
end
section
variable {C:Ctx}{a b c e o k:Expr}{es:List Expr}{f g h:EE}{fl:EL}{F G:SS}{pos pos':Pos}{E:Ends}
theorem cutI_eq (n d:Nat)(o:Option Int):Dv.cutI n d o=HT.sIx n d o:=by cases o <;>rfl
theorem RpL.drop {K:PySem.W.Frag}{H:Hp}:∀ {ds:List D} {vs:List V} (n:Nat),RpL K H ds vs->RpL K H (ds.drop n) (vs.drop n)
 | _,_,0,h=>h
 | [],_,n+1,h=>by unfold RpL at h; subst h; exact .nil
 | d::r,vs,n+1,h=>by
  unfold RpL at h
  obtain⟨v,ws,rfl,_,h3⟩:=h
  exact RpL.drop n h3
theorem RpL.take {K:PySem.W.Frag}{H:Hp}:∀ {ds:List D} {vs:List V} (n:Nat),RpL K H ds vs->RpL K H (ds.take n) (vs.take n)
 | _,_,0,_=>.nil
 | [],_,n+1,h=>by unfold RpL at h; subst h; exact .nil
 | d::r,vs,n+1,h=>by
  unfold RpL at h
  obtain⟨v,ws,rfl,h2,h3⟩:=h
  exact .cons h2 (RpL.take n h3)
theorem RpL.cut {K:PySem.W.Frag}{H:Hp}{ds:List D}{vs:List V}(h:RpL K H ds vs)(lo hi:Option Int):RpL K H (Dv.cutL ds lo hi) (cutV vs lo hi):=by
 unfold Dv.cutL cutV
 rw[h.length,cutI_eq,cutI_eq]
 exact(h.drop _).take _
noncomputable def SO (C:Ctx)(e:Option Expr)(f:Option EE):Prop :=
 ∃ t:TO,PO C.X e t/\∀ σ H Hv ρ (Q:VK) (T:Option Int->Hp->Prop) (k:Option Int->R) Hv1 H1,EnvR C.X.K Hv ρ σ->Ext Hv H Hv1 H1->Ok C.X.K Hv H (C.W σ) C.cls (Dv.ePart f ρ k) Q ->
  (∀ i Hv2 H2,Ext Hv H Hv2 H2->Ext Hv1 H1 Hv2 H2->Ok C.X.K Hv H (C.W σ) C.cls (k i) Q->T i H2)->t σ H1 T
theorem so_none:SO C none none:=⟨_,po_none,fun σ H Hv ρ Q T k Hv1 H1 e x q n=>n none Hv1 H1 x (.refl x.vh) q⟩
theorem so_some (he:SE C e f):SO C (some e) (some f):=by
 obtain⟨t,p,q⟩:=he
 refine⟨_,po_some p,fun σ H Hv ρ Q T k Hv1 H1 er x w n=>?_⟩
 refine Tak.step q er x w fun v d fr Hv2 H2 hf x2 y2 rp _ w2=>?_
 cases d with
 | int i =>
  unfold Rp at rp
  exact⟨i,rp,n (some i) Hv2 H2 x2 y2 w2⟩
 | _=>exact(show False from w2).elim
theorem se_slice {lo hi:Option Expr}{fl fh:Option EE}{p2:Pos}(he:SE C e f)(hl:SO C lo fl)(hh:SO C hi fh):SE C (.Subscript e (.Slice lo hi none p2) pos) (Dv.eSlice f fl fh):=by
 obtain⟨t,p,q⟩:=he
 obtain⟨tl,pl,ql⟩:=hl
 obtain⟨th,ph,qh⟩:=hh
 refine⟨_,pe_slice sl_list p pl ph,fun σ H Hv ρ Q er s w=>?_⟩
 refine Tak.step q er (.refl s) w fun v d fr Hv1 H1 _ x1 _ rp1 n1 w1=>?_
 refine ql σ H Hv ρ Q _ _ Hv1 H1 er x1 w1 fun i Hv2 H2 x2 y2 w2=>?_
 refine qh σ H Hv ρ Q _ _ Hv2 H2 er x2 w2 fun j Hv3 H3 x3 y3 w3=>?_
 have y13:=y2.trans y3
 cases d with
 | lst ds =>
  cases fr with
  | true =>
   have rn:=(n1 rfl).same (Hnew.mono (.refl _) y13.hh)
   unfold Rp at rn
   obtain⟨l,vs,rfl,h1,h2⟩:=rn
   have h1':SqX C.X.K H3 l vs:=by
    rcases h1 with h1|⟨its,n,e,_⟩
    ·exact .inl (Rd.same Hnew.sub h1)
    ·simp at e
   exact⟨l,vs,rfl,h1'.seq,fun p hp=>Ok.newL (fr:=true || Dv.flatL (Dv.cutL ds i j)) w3 x3 (((RpL.frag h2).same x3.news).cut i j) (fun _=>h2.cut i j) p hp⟩
  | false =>
   have rp:=rp1.same y13.vv
   unfold Rp at rp
   obtain⟨l,vs,rfl,h1,h2⟩:=rp
   exact⟨l,vs,rfl,(h1.same x3.vh).seq,fun p hp=>Ok.newL (fr:=false || Dv.flatL (Dv.cutL ds i j)) w3 x3 (h2.cut i j) (fun z=>(h2.cut i j).flat (by simpa using z)) p hp⟩
 | _=>exact(show False from w3).elim
noncomputable def C2S (C:Ctx)(fv:Value)(F:D->D->R):Prop :=
 ∃ r,CallR C.X fv r/\∀ x y d d' H Hv H1 Hv1 W Q,Ext Hv H Hv1 H1->Rp C.X.K Hv1 d x->Rp C.X.K Hv1 d' y->Ok C.X.K Hv H W C.cls (F d d') Q->r [x,y] H1 Q
theorem se_b2 {x:Str}{p:Pos}{id:String}{F:D->D->R}(hc:C2S C (.builtin id) F)(hg:Gl C.X x)(hm:C.X.mg x=none)(hv:bootBuiltins x=some (.builtin id))(ha:SE C a f)(hb:SE C b g)
  (hn:autoParam (x≠"__name__") Au.h2._auto_1) (hdb:autoParam ((x == ("__debug__":Str))=false) Au.h2._auto_1) (he:autoParam (starEach [a,b] C.X.env=(false,eval a C.X.env)::starEach [b] C.X.env) Au.h5._auto_1) (he2:autoParam (starEach [b] C.X.env=[(false,eval b C.X.env)]) Au.h5._auto_1):SE C (.Call (.Name x p) [a,b] [] pos) (Dv.eB2 F f g):=by
 obtain⟨r,ho,hr⟩:=hc
 obtain⟨t,pa,qa⟩:=ha
 obtain⟨u,pb,qb⟩:=hb
 refine⟨_,pe_callB ho hg hm hv (pa_cons pa (pa_cons pb pa_nil he2) he) hn hdb he (by rw[he2]; rfl),fun σ H Hv ρ Q e s w=>?_⟩
 exact qa.step e (.refl s) w fun v d fr Hv1 H1 _ x1 _ rp1 _ q1=>qb.step e x1 q1 fun v2 d2 fr2 Hv2 H2 _ x2 y2 rp2 _ q2=>hr v v2 d d2 H Hv H2 Hv2 _ Q x2 (rp1.same y2.vv) rp2 q2
theorem c2_max (hcl:C.X.calm=true):C2S C (.builtin "max") Dv.max2D:=by
 refine⟨_,call_max2 hcl,fun x y d d' H Hv H1 Hv1 W Q e rx ry q=>?_⟩
 cases d with
 | int i =>
  cases d' with
  | int j =>
   unfold Rp at rx ry
   subst rx ry
   exact⟨i,j,rfl,Ok.at (d:=.int (if j > i then j else i)) (fr:=true) q e rp_int rfl⟩
  | _=>exact(show False from q).elim
 | _=>exact(show False from q).elim
noncomputable def tyD:D->String
 | .non=>"NoneType"
 | .bl _=>"bool"
 | .int _=>"int"
 | .str _=>"str"
 | .lst _=>"list"
 | .tup _=>"tuple"
 | .exn _=>"BaseException"
 | .raw _=>"BaseException"
 | .tab _=>"BaseException"
 | .ins _ _=>"BaseException"
 | .dct _ _=>"dict"
theorem call_isi {X:Cx}:CallR X (.builtin "isinstance") (fun xs H Q=>∃ x d T b,xs=[x,.ty T]/\Rp X.K H d x/\Dv.noTy d=false/\PySem.W.kitOne X.K (.type (tyD d)) (.type T)=some b/\Q (.bl b) H):=by
 intro pins s σ H xs us Q I r h
 obtain⟨x,d,T,b,rfl,rp,hnx,hk,q⟩:=h
 obtain⟨u,w',rfl,ru,rw'⟩:=vals2 r
 have rw2:w'=Value.type T:=rw'
 subst rw2
 have fin:∀ tk,EP X pins σ Q (.bool b) { s with toks:=tk }:=fun tk=>⟨.bl b,H,I.tok tk,rfl,q⟩
 cases d with
 | non=>unfold Rp at rp; subst rp; cases ru; exact PySem.W.kia_one PySem.W.kitx_none I.kIn True.intro hk (fun z=>nomatch z) fin
 | bl y=>unfold Rp at rp; subst rp; cases ru; exact PySem.W.kia_one PySem.W.kitx_bool I.kIn True.intro hk (fun z=>nomatch z) fin
 | int i=>unfold Rp at rp; subst rp; obtain⟨t,rfl⟩:=ru; exact PySem.W.kia_one PySem.W.kitx_int I.kIn True.intro hk (fun z=>nomatch z) fin
 | str y=>unfold Rp at rp; subst rp; obtain⟨t,rfl⟩:=ru; exact PySem.W.kia_one PySem.W.kitx_str I.kIn True.intro hk (fun z=>nomatch z) fin
 | lst ds =>
  unfold Rp at rp
  obtain⟨l,vs,rfl,h1,h2⟩:=rp
  cases ru
  obtain⟨its,n,rv,e,_⟩:=Inv.listX I h1
  exact PySem.W.kia_one PySem.W.kitx_list I.kIn ⟨_,e,rfl⟩ hk (fun z=>nomatch z) fin
 | tup ds =>
  unfold Rp at rp
  obtain⟨l,vs,rfl,h1,h2⟩:=rp
  cases ru
  obtain⟨_,its,rv,ob,e,hc,n,hd⟩:=h1.ok I.hok
  exact PySem.W.kia_one PySem.W.kitx_tuple I.kIn ⟨ob,e,hc⟩ hk (fun z=>nomatch z) fin
 | exn c=>exact absurd hnx (by simp[Dv.noTy])
 | raw c=>exact absurd hnx (by simp[Dv.noTy])
 | ins c d=>exact absurd hnx (by simp[Dv.noTy])
 | tab c=>exact absurd hnx (by simp[Dv.noTy])
 | dct ks ds =>
  unfold Rp at rp
  obtain⟨l,vs,rfl,h0,h1,h2⟩:=rp
  cases ru
  exact PySem.W.kia_one PySem.W.kitx_dict I.kIn (isD_at I (.inl ⟨_,h1⟩)).1 hk (fun z=>nomatch z) fin
theorem se_isi {x:Str}{T:String}{p p2:Pos}{F:D->Bool->R}(β:D->Bool)(hF:∀ d fr,Dv.noTy d=false->F d fr=.ok (.bl (β d)) true)(hX:∀ d fr,Dv.noTy d=true->F d fr=.bad)(hβ:∀ K d,PySem.W.kitOne K (.type (tyD d)) (.type T)=some (β d))(hg:Gl C.X "isinstance")(hm:C.X.mg "isinstance"=none)(hgx:Gl C.X x)(hmx:C.X.mg x=none)
  (hvx:bootBuiltins x=some (.type T)) (ha:SE C a f) (hn:autoParam (x≠"__name__") Au.h2._auto_1) (hdb:autoParam ((x == ("__debug__":Str))=false) Au.h2._auto_1) (he:autoParam (starEach [a,.Name x p2] C.X.env=(false,eval a C.X.env)::starEach [.Name x p2] C.X.env) Au.h5._auto_1)
  (he2:autoParam (starEach [.Name x p2] C.X.env=[(false,eval (.Name x p2) C.X.env)]) Au.h5._auto_1):SE C (.Call (.Name "isinstance" p) [a,.Name x p2] [] pos) (Dv.eB1 F f):=by
 obtain⟨t,pa,qa⟩:=ha
 refine⟨_,pe_callB call_isi hg hm (by decide +kernel) (pa_cons pa (pa_cons (pe_bltn (v:=.ty T) hgx hmx hvx rfl hn hdb) pa_nil he2) he) (by decide) (by decide) he (by rw[he2]; rfl),fun σ H Hv ρ Q e s w=>?_⟩
 refine qa.step e (.refl s) w fun v d fr Hv1 H1 _ x1 _ rp1 _ q1=>?_
 by_cases hd:Dv.noTy d=true
 ·rw[hX d fr hd] at q1
  exact q1.elim
 ·have hd':Dv.noTy d=false:=by simpa using hd
  rw[hF d fr hd'] at q1
  exact⟨v,d,T,β d,rfl,rp1.same x1.vh,hd',hβ _ d,q1.at x1 rp_bl rfl⟩
noncomputable def bInt:D->Bool
 | .int _=>true
 | .bl _=>true
 | _=>false
noncomputable def bBool:D->Bool
 | .bl _=>true
 | _=>false
noncomputable def bList:D->Bool
 | .lst _=>true
 | _=>false
theorem kit_int (K:PySem.W.Frag)(d:D):PySem.W.kitOne K (.type (tyD d)) (.type "int")=some (bInt d):=by cases d <;>rfl
theorem kit_bool (K:PySem.W.Frag)(d:D):PySem.W.kitOne K (.type (tyD d)) (.type "bool")=some (bBool d):=by cases d <;>rfl
theorem kit_list (K:PySem.W.Frag)(d:D):PySem.W.kitOne K (.type (tyD d)) (.type "list")=some (bList d):=by cases d <;>rfl
theorem isIntD_eq (d:D)(fr:Bool)(h:Dv.noTy d=false):Dv.isIntD d fr=.ok (.bl (bInt d)) true:=by cases d <;>first|rfl|exact absurd h (by simp[Dv.noTy])
theorem isBoolD_eq (d:D)(fr:Bool)(h:Dv.noTy d=false):Dv.isBoolD d fr=.ok (.bl (bBool d)) true:=by cases d <;>first|rfl|exact absurd h (by simp[Dv.noTy])
theorem isListD_eq (d:D)(fr:Bool)(h:Dv.noTy d=false):Dv.isListD d fr=.ok (.bl (bList d)) true:=by cases d <;>first|rfl|exact absurd h (by simp[Dv.noTy])
theorem st_put {i:Nat}{x:Str}{px kpos:Pos}(he:SE C e f)(hk:SE C k g)(hN:autoParam (C.X.N[i]?=some x) Au.h5._auto_1)(hv:autoParam (Vis C.X.env.scope x) Au.h6._auto_1)
    (hd:autoParam ((x == ("__debug__":Str))=false) Au.h2._auto_1) (hcd:autoParam ((x == ("__classdict__":Str))=false) Au.h2._auto_1)
    (ha:autoParam (∀ v,assign (.Subscript (.Name x px) k kpos) C.X.env v=(do
      let ov <- holding [v] (eval (.Name x px) C.X.env)
      let iv <- holding [v,ov] (eval k C.X.env)
      standAt kpos
      holding [v,ov,iv] (setItem ov iv v)
      release [v,ov,iv] [])) Au.h4._auto_1)
    (hs:autoParam (swapsWithSole [.Subscript (.Name x px) k kpos] e pos.line C.X.env=pure false) Au.h5._auto_1) (hw:autoParam (swappedStores [.Subscript (.Name x px) k kpos] e C.X.env=pure none) Au.h5._auto_1)
    (h1:autoParam ((assignEach [.Subscript (.Name x px) k kpos] C.X.env).map (·.2)=[assign (.Subscript (.Name x px) k kpos) C.X.env]) Au.h5._auto_1):SSt C (.Assign [.Subscript (.Name x px) k kpos] e pos) (Dv.sPut i g f):=by
  obtain⟨t,p,q⟩:=he
  obtain⟨t2,p2,q2⟩:=hk
  refine⟨_,ps_asg p (pg_sub (pe_var hN hv hd hcd) p2 set_list ha) hs hw h1,fun Hv₀ H₀ E σ H st ⟨Hc,O,r⟩ w=>?_⟩
  unfold Dv.sPut at w
  cases hi:st[i]? with
  | none=>rw[hi] at w; exact(show False from w).elim
  | some s =>
    rw[hi] at w
    cases s with
    | no=>exact(show False from w).elim
    | sh d=>exact(show False from w).elim
    | dp d=>exact(show False from w).elim
    | jk n m=>exact(show False from w).elim
    | ow d0 =>
     cases d0 with
     | non=>exact(show False from w).elim
     | bl _=>exact(show False from w).elim
     | int _=>exact(show False from w).elim
     | str _=>exact(show False from w).elim
     | tup _=>exact(show False from w).elim
     | exn _=>exact(show False from w).elim
     | raw _=>exact(show False from w).elim
     | ins _ _=>exact(show False from w).elim
     | tab _=>exact(show False from w).elim
     | dct _ _=>exact(show False from w).elim
     | lst ds =>
      obtain⟨a,vs,h1,h2,h5⟩:=r.own hi
      refine q.all r (fun c hf H' r'=>?_) (fun hf=>?_) fun d fr v Hv' H' hf x r' rp n=>?_
      · simp only[hf] at w; exact w σ H' ⟨Hc,O,r'⟩
      · simp only[hf] at w; exact w
      · simp only[hf] at w
        refine⟨_,h1,?_⟩
        refine q2.all r' (fun c hg H2 r2=>?_) (fun hg=>?_) fun d2 fr2 v2 Hv2 H2 hg x2 r2 rp2 n2=>?_
        · simp only[hg] at w; exact w σ H2 ⟨Hc,O,r2⟩
        · simp only[hg] at w; exact w
        · simp only[hg] at w
          cases d2 with
          | int j =>
            unfold Rp at rp2
            by_cases z:(Dv.scal d&&decide (0<=j)&&decide (j<ds.length))=true
            · simp only[z,if_true] at w
              simp only[Bool.and_eq_true,decide_eq_true_eq] at z
              have hl:=h5.length
              obtain⟨O',r3⟩:=r2.put hi h1 (h5.set (rp.scal z.1.1) j.toNat)
              refine⟨a,vs,j,j.toNat,rfl,rp2,x2.hh _ _ (x.hh _ _ h2),?_,w σ _ ⟨Hc,O',r3⟩⟩
              unfold ixN
              rw[if_pos z.1.2,if_pos (by rw[hl]; exact z.2)]
            · simp only[z] at w
              exact(show False from w).elim
          | _=>exact(show False from w).elim
noncomputable def SGs (C:Ctx)(ts:List Expr)(xs:List Nat):Prop :=
 ∃ t:TGs,PGs C.X ts t/\∀ Hv₀ H₀ Hc O H σ s ds vs T,RelC C.X.K Hv₀ H₀ Hc O s σ H->RpL C.X.K Hc ds vs->ds.length=xs.length->(∀ σ',RelC C.X.K Hv₀ H₀ Hc O (Dv.setAll xs ds s) σ' H->T σ' H)->t vs σ H T
theorem gs_nil:SGs C [] []:=⟨_,pgs_nil,fun Hv₀ H₀ Hc O H σ s ds vs T r rp hl h=>by
 cases ds with
 | nil=>unfold RpL at rp; exact⟨rp,h σ r⟩
 | cons d ds=>cases hl⟩
theorem gs_cons {i:Nat}{x:Str}{ts:List Expr}{xs:List Nat}(hs:SGs C ts xs)(hN:C.X.N.Nodup)(hi:C.X.N[i]?=some x)(hx:Loc C.X.env.scope x)(hf:autoParam (C.X.fn x=true\/C.X.env.scope.names.lookup x=some .local) Au.h1._auto_1)
  (ha:autoParam ((assignEach (.Name x pos::ts) C.X.env).map (·.2)=assign (.Name x pos) C.X.env::(assignEach ts C.X.env).map (·.2)) Au.h5._auto_1):SGs C (.Name x pos::ts) (i::xs):=by
 obtain⟨t,p,q⟩:=hs
 refine⟨_,pgs_cons (pg_name hN hi hx hf) p ha,fun Hv₀ H₀ Hc O H σ s ds vs T r rp hl h=>?_⟩
 cases ds with
 | nil=>cases hl
 | cons d ds =>
  unfold RpL at rp
  obtain⟨v,ws,rfl,h1,h2⟩:=rp
  exact⟨v,ws,rfl,q Hv₀ H₀ Hc O H _ _ ds ws T (r.setSh h1) h2 (by simpa using hl) h⟩
theorem st_unpack (is:List Nat){ts:List Expr}{xs:List Nat}{kt:Nat}{tpos:Pos}(he:SE C e f)(hg:SGs C ts xs)(hl:ts.length=xs.length)(hn:autoParam ((assignEach ts C.X.env).length=ts.length) Au.h5._auto_1)(hst:autoParam ((assignEach ts C.X.env).findIdx? (·.1)=none) Au.h5._auto_1)
  (hs:autoParam (swapsWithSole [.Tuple ts kt tpos] e pos.line C.X.env=pure false) Au.h5._auto_1) (hw:autoParam (swappedStores [.Tuple ts kt tpos] e C.X.env=pure none) Au.h5._auto_1) (h1:autoParam ((assignEach [.Tuple ts kt tpos] C.X.env).map (·.2)=[assign (.Tuple ts kt tpos) C.X.env]) Au.h5._auto_1) (hcl:autoParam (C.X.calm=true) Au.h5._auto_1) :
  SSt C (.Assign [.Tuple ts kt tpos] e pos) (Dv.sUnpack is xs f):=by
 obtain⟨t,p,q⟩:=he
 obtain⟨g,pg,qg⟩:=hg
 refine⟨_,ps_asg p (pg_tup hcl pg hn hst) hs hw h1,fun Hv₀ H₀ E σ H st ⟨Hc0,O0,r0⟩ w=>?_⟩
 obtain⟨Hc,O,_,r⟩:=r0.give is
 unfold Dv.sUnpack at w
 refine q.open r (fun c hf Hc' H' x=>?_) (fun hf=>?_) fun d fr v Hc' H' hf x r' rp=>?_
 ·simp only[hf] at w; exact w σ H' ⟨Hc0,O0,r0.grow x.hh x.nf⟩
 ·simp only[hf] at w; exact w
 ·simp only[hf] at w
  cases d with
  | tup ds =>
   by_cases hz:ds.length=xs.length
   ·simp only[hz,if_true] at w
    unfold Rp at rp
    obtain⟨a,vs,rfl,h2,h3⟩:=rp
    exact⟨a,vs,rfl,.inl (Rd.same x.vh h2),by rw[h3.length,hz,hl],qg Hv₀ H₀ Hc' O H' σ _ ds vs _ r' h3 hz fun σ' r2=>w σ' H' ⟨Hc',O,r2⟩⟩
   ·simp only[hz,if_false] at w; exact(show False from w).elim
  | _=>exact(show False from w).elim
theorem st_par (is:List Nat){i j:Nat}{x y:Str}{px py pt:Pos}{kt k2:Nat}{pt2:Pos}(ha:SE C a f)(hb:SE C b g)(hN:C.X.N.Nodup)(hi:C.X.N[i]?=some x)(hj:C.X.N[j]?=some y)(hij:i≠j)
  (hx:C.X.env.scope.names.lookup x=some .local) (hy:C.X.env.scope.names.lookup y=some .local) (hw:autoParam (swappedStores [.Tuple [.Name x px,.Name y py] kt pt] (.Tuple [a,b] k2 pt2) C.X.env=pure (some [x,y])) Au.h5._auto_1)
  (hs:autoParam (swapsWithSole [.Tuple [.Name x px,.Name y py] kt pt] (.Tuple [a,b] k2 pt2) pos.line C.X.env=pure false) Au.h5._auto_1) (he:autoParam (starEach [a,b] C.X.env=(false,eval a C.X.env)::starEach [b] C.X.env) Au.h5._auto_1) (he2:autoParam (starEach [b] C.X.env=[(false,eval b C.X.env)]) Au.h5._auto_1) (hcl:autoParam (C.X.calm=true) Au.h5._auto_1) :
  SSt C (.Assign [.Tuple [.Name x px,.Name y py] kt pt] (.Tuple [a,b] k2 pt2) pos) (Dv.sPar is i j f g):=by
 obtain⟨t,p,q⟩:=ha
 obtain⟨u,p2,q2⟩:=hb
 refine⟨_,ps_par hcl hN hi hj hij hx hy (pa_cons p (pa_cons p2 pa_nil he2) he) hw hs,fun Hv₀ H₀ E σ H st ⟨Hc0,O0,r0⟩ w=>?_⟩
 obtain⟨Hc,O,_,r⟩:=r0.give is
 unfold Dv.sPar at w
 refine q.open r (fun c hf Hc' H' x=>?_) (fun hf=>?_) fun d fr v Hc' H' hf x r' rp=>?_
 ·simp only[hf] at w; exact w σ H' ⟨Hc0,O0,r0.grow x.hh x.nf⟩
 ·simp only[hf] at w; exact w
 ·simp only[hf] at w
  refine q2.open r' (fun c hg Hc2 H2 x2=>?_) (fun hg=>?_) fun d2 fr2 v2 Hc2 H2 hg x2 r2 rp2=>?_
  ·simp only[hg] at w
   have xx:=x.trans x2
   exact w σ H2 ⟨Hc0,O0,r0.grow xx.hh xx.nf⟩
  ·simp only[hg] at w; exact w
  ·simp only[hg] at w
   exact⟨v,v2,rfl,w _ H2 ⟨Hc2,O,(r2.setSh (rp.same x2.vv)).setSh rp2⟩⟩
end
noncomputable def ItZ (K:PySem.W.Frag)(l1 l2:Addr):It :=
  ⟨fun i H=>∃ (xs ys:List V) (x y:V),SqL K H l1 xs/\SqL K H l2 ys/\xs[i]?=some x/\ys[i]?=some y,
   fun i H v H'=>∃ p,H p=none/\v=.ref p/\∀ xs ys,SqL K H l1 xs->SqL K H l2 ys->∃ x y,xs[i]?=some x/\ys[i]?=some y/\H'=upd H p (.tup [x,y]),
   fun i H=>∃ xs ys,SqL K H l1 xs/\SqL K H l2 ys/\(xs.length<=i\/ys.length<=i)⟩
theorem Inv.but {X:Cx}{pins:List (Addr × Obj)}{σ:St}{H:Hp}{s:Shared}{ch:List Addr}{h':Heap}(I:Inv X pins σ H s)(hf:∀ b∈ch,FpOk X pins H b)(k:∀ b o,b∉ch->s.heap.get? b=some o->h'.get? b=some o):Inv X pins σ H { s with heap:=h' }:=by
 have nch:∀ b u,H b=some u->b∉ch:=fun b u e hb=>by rw[(hf b hb).1] at e; cases e
 refine I.step (g':=s.gens) (d':=s.drawn) (t':=s.toks) (ch:=ch) (fun b hb=>⟨(hf b hb).2.2.2.1,(hf b hb).2.1,(hf b hb).2.2.2.2.1,(hf b hb).2.2.2.2.2⟩) (fun b o _ _ hc e _=>k b o hc e) (fun b o _ _ hc e _=>⟨o.slots,k b o hc e⟩) (fun _ _ _ _ n=>n)
  (fun b o hc e=>⟨o,k b o hc e⟩) (fun _ _ e=>e) (fun _ _ _ e=>e) (fun b ps e=>⟨#[],by rw[e]; simp⟩) (fun m hm=>?_) (fun b u e=>?_) I.bare
 ·obtain⟨o,es,ep,ho,r⟩:=hm
  exact⟨o,es,ep,k _ _ (fun hb=>(hf _ hb).2.1 rfl) ho,r⟩
 ·refine(I.hok b u e).stay (fun c v hc q=>k c v ?_ q) (fun c q=>q) fun c xs q=>q
  rcases hc with rfl|hc
  ·exact nch _ u e
  ·exact nch _ _ hc
theorem turn_zip {P:Program}{w:World}{K:PySem.W.Frag}{es:List Expr}{kt:Nat}{tpos:Pos}{z TI TO i1 i2 l1 l2:Addr}(Dz:ZipApart z TI TO i1 i2 l1 l2) :
  Turn P w K (.Tuple es kt tpos) (ItZ K l1 l2) [z,TI,TO,i1,i2] z (fun i h=>IsZip h z TI TO .none/\IsPair h TI (.ref i1) (.ref i2)/\(∃ a b,IsPair h TO a b)/\h.IsListIter i1 l1 i/\h.IsListIter i2 l2 i) where
 mem:=by simp
 obj:=fun i h ⟨a1,a2,⟨_,_,a3⟩,⟨o4,e4,_,d4⟩,⟨o5,e5,_,d5⟩⟩ b hb=>by
  simp only[List.mem_cons,List.not_mem_nil,or_false] at hb
  rcases hb with rfl|rfl|rfl|rfl|rfl
  ·exact⟨_,a1,fun v q=>by cases q⟩
  ·exact⟨_,a2,fun v q=>by cases q⟩
  ·exact⟨_,a3,fun v q=>by cases q⟩
  ·exact⟨_,e4,fun v q=>by rw[d4] at q; cases q⟩
  ·exact⟨_,e5,fun v q=>by rw[d5] at q; cases q⟩
 keep:=fun i h h' ⟨a1,a2,⟨x,y,a3⟩,a4,a5⟩ k=>⟨k z (by simp) _ a1,k TI (by simp) _ a2,⟨x,y,k TO (by simp) _ a3⟩,a4.at fun o e=>k i1 (by simp) o e,a5.at fun o e=>k i2 (by simp) o e⟩
 item:=by
  intro X hP hw hK hc i pins s σ H E I hf ⟨a1,a2,⟨xa,xb,a3⟩,a4,a5⟩ hg
  subst hP hw hK
  obtain⟨xs,ys,x,y,hq1,hq2,hx,hy⟩:=hg
  obtain⟨its1,r1,p1,z1⟩:=I.list hq1
  obtain⟨its2,r2,p2,z2⟩:=I.list hq2
  obtain⟨u1,e1,ru1⟩:=r1.get hx
  obtain⟨u2,e2,ru2⟩:=r2.get hy
  refine wpAny_pyNext_zip_item Dz a1 a2 a3 a4 a5 p1.isList p2.isList (x:=u1) (y:=u2) (by simpa using e1) (by simpa using e2) fun h' b1 b2 b3 b4 b5 b6 kk=>?_
  refine⟨_,rfl,wpAny_letOwnedTupleGo_zip b1 fun h2 hz sb=>?_⟩
  have hf0:H s.heap.objs.size=none:=I.hok.fresh (Nat.le_refl _)
  have ltz:s.heap.objs.size≠z:=Nat.ne_of_gt (Heap.lt_size a1)
  have kept:∀ b o,b∉[z,TI,TO,i1,i2]->s.heap.get? b=some o->h2.get? b=some o:=fun b o hb e=>by
   simp only[List.mem_cons,List.not_mem_nil,or_false,not_or] at hb
   exact(sb.2 b hb.1).trans (kk b o hb.1 hb.2.2.1 hb.2.2.2.1 hb.2.2.2.2 e)
  have I2:Inv X pins σ H { s with heap:=h2 }:=Inv.but I hf kept
  have tp:IsTup h2 s.heap.objs.size #[u1,u2]:=⟨_,(sb.2 _ ltz).trans b5,rfl,_,rfl⟩
  have I3:Inv X pins σ (upd H s.heap.objs.size (.tup [x,y])) { s with heap:=h2 }:=by
   have hk2:HOk X.prog X.w (upd H s.heap.objs.size (.tup [x,y])) h2:=hok_track I2.hok hf0 ⟨by show 2<=sizeLine; decide,[u1,u2],.cons ru1 (.cons ru2 .nil),tp⟩
   have nsz:∀ b o,s.heap.get? b=some o->b≠s.heap.objs.size:=fun b o e=>Nat.ne_of_lt (Heap.lt_size e)
   refine I.step (g':=s.gens) (d':=s.drawn) (t':=s.toks) (ch:=[z,TI,TO,i1,i2]) (fun b hb=>⟨(hf b hb).2.2.2.1,(hf b hb).2.1,(hf b hb).2.2.2.2.1,(hf b hb).2.2.2.2.2⟩) (fun b o _ _ hc e _=>kept b o hc e) (fun b o _ _ hc e _=>⟨o.slots,kept b o hc e⟩) (fun b o _ e n=>by rw[upd_ne (nsz b o e)]; exact n)
    (fun b o hc e=>⟨o,kept b o hc e⟩) (fun b us e=>by rw[upd_ne (ne_of_none e hf0)]; exact e) (fun b ob us e=>by rw[upd_ne (ne_of_none e hf0)]; exact e) (fun b ps e=>⟨#[],by rw[upd_ne (ne_of_none e hf0),e]; simp⟩) (fun m hm=>?_) hk2 I.bare
   obtain⟨o,es,ep,ho,r⟩:=hm
   exact⟨o,es,ep,kept _ _ (fun hb=>(hf _ hb).2.1 rfl) ho,r⟩
  have c4:h2.IsListIter i1 l1 (i+1):=b3.extBut sb.extBut Dz.i1z
  have c5:h2.IsListIter i2 l2 (i+1):=b4.extBut sb.extBut Dz.i2z
  refine⟨.ref s.heap.objs.size,_,I3,rfl,⟨s.heap.objs.size,hf0,rfl,fun as bs h1 h2'=>?_⟩,⟨hz,?_,⟨u1,u2,(sb.2 TO Dz.TOz).trans b2⟩,c4,c5⟩,fun b hb=>?_⟩
  ·exact⟨x,y,by rw[I.list_inj h1 hq1]; exact hx,by rw[I.list_inj h2' hq2]; exact hy,rfl⟩
  ·exact(sb.2 TI Dz.TIz).trans (kk TI _ Dz.TIz Dz.TITO Dz.TIi1 Dz.TIi2 a2)
  ·have hbs:b≠s.heap.objs.size:=by
    simp only[List.mem_cons,List.not_mem_nil,or_false] at hb
    rcases hb with rfl|rfl|rfl|rfl|rfl
    ·exact Nat.ne_of_lt (Heap.lt_size a1)
    ·exact Nat.ne_of_lt (Heap.lt_size a2)
    ·exact Nat.ne_of_lt (Heap.lt_size a3)
    ·obtain⟨o,e,_⟩:=a4; exact Nat.ne_of_lt (Heap.lt_size e)
    ·obtain⟨o,e,_⟩:=a5; exact Nat.ne_of_lt (Heap.lt_size e)
   rw[upd_ne hbs]
   exact(hf b hb).1
 done:=by
  intro X hP hw hK hc i pins s σ H E I hf ⟨a1,a2,⟨xa,xb,a3⟩,a4,a5⟩ hg
  subst hP hw hK
  obtain⟨xs,ys,hq1,hq2,hx⟩:=hg
  obtain⟨its1,r1,p1,z1⟩:=I.list hq1
  obtain⟨its2,r2,p2,z2⟩:=I.list hq2
  have n1:=r1.length
  have n2:=r2.length
  refine wpAny_pyNext_zip_end (I.ok.hd hc) Dz a1 a2 a3 a4 a5 p1.isList p2.isList (by
   rcases hx with hx|hx
   ·left; simp; omega
   ·right; simp; omega) fun h' kk=>⟨rfl,Inv.but I hf fun b o hb e=>?_⟩
  simp only[List.mem_cons,List.not_mem_nil,or_false,not_or] at hb
  exact kk b o hb.1 hb.2.2.1 hb.2.2.2.1 hb.2.2.2.2 e
 self:=fun _ _ _ _ _ st h=>wpAny_pyIter_zip st.1 h
noncomputable def iZipR (K:PySem.W.Frag)(ta:TA):TI:=fun σ H T=>ta σ H fun vs H1=>∃ l1 l2 xs ys,vs=[.ref l1,.ref l2]/\SqL K H1 l1 xs/\SqL K H1 l2 ys/\T (ItZ K l1 l2) H1
theorem pi_zip {X:Cx}{a b:Expr}{ta:TA}{es:List Expr}{kt:Nat}{tpos p pos:Pos}(hg:Gl X "zip")(hm:X.mg "zip"=none)(ha:PA X [a,b] ta)(hs:starEach [a,b] X.env=[(false,eval a X.env),(false,eval b X.env)])(hs2:starEach [b] X.env=[(false,eval b X.env)]) :
  PI X (.Tuple es kt tpos) (.Call (.Name "zip" p) [a,b] [] pos) (iZipR X.K ta):=by
 intro pins s σ H R I h
 refine Call_ (ld_blt I hg hm (by decide +kernel:bootBuiltins "zip"=some (.type "zip")) (PyProof.Rows.callWith_type1 (thn (ha pos pins s σ H _ I h) fun us s1 ⟨vs,H1,I1,r1,q1⟩=>?_) (by rw[hs,hs2]) (by rw[hs2]; rfl)))
 obtain⟨l1,l2,xs,ys,rfl,hq1,hq2,q⟩:=q1
 obtain⟨u1,u2,rfl,e1,e2⟩:=vals2 r1
 cases e1
 cases e2
 obtain⟨its1,rr1,p1,z1⟩:=I1.list hq1
 obtain⟨its2,rr2,p2,z2⟩:=I1.list hq2
 refine call_zip_2 p1.isList p2.isList fun h' c1 c2 c3 c4 c5 c6 kk=>?_
 have lt1:l1<s1.heap.objs.size:=by obtain⟨o,e,_⟩:=p1.isList; exact Heap.lt_size e
 have lt2:l2<s1.heap.objs.size:=by obtain⟨o,e,_⟩:=p2.isList; exact Heap.lt_size e
 have I2:Inv X pins σ H1 { s1 with heap:=h' }:=I1.kept (t':=s1.toks) kk
 generalize hN:s1.heap.objs.size=N at c1 c2 c3 c4 c5 c6 lt1 lt2 ⊢
 have Dz:ZipApart (N+4) (N+2) (N+3) N (N+1) l1 l2:=by
  have far:∀ {l:Addr},l<N->∀ k:Nat,l≠N+k:=fun h k=>Nat.ne_of_lt (Nat.lt_of_lt_of_le h (Nat.le_add_right _ _))
  have ne:∀ {a b:Nat},a<b->a≠b:=fun h=>Nat.ne_of_lt h
  have ne':∀ {a b:Nat},b<a->a≠b:=fun h=>Nat.ne_of_gt h
  exact⟨ne (by omega),ne (by omega),ne (by omega),ne (by omega),ne (by omega),ne' (by omega),ne' (by omega),ne' (by omega),ne' (by omega),ne (by omega),far lt1 4,far lt1 3,Nat.ne_of_lt lt1,far lt1 1,far lt2 4,far lt2 3,Nat.ne_of_lt lt2,far lt2 1⟩
 refine wpAny_pyIter_zip c1 ⟨N+4,[N+4,N+2,N+3,N,N+1],_,_,H1,rfl,I2,turn_zip Dz,⟨c1,c2,⟨_,_,c3⟩,c4,c5⟩,fun b hb=>?_,q⟩
 have hb':s1.heap.objs.size<=b:=by
  rw[hN]
  simp only[List.mem_cons,List.not_mem_nil,or_false] at hb
  rcases hb with rfl|rfl|rfl|rfl|rfl
  ·exact Nat.le_add_right _ _
  ·exact Nat.le_add_right _ _
  ·exact Nat.le_add_right _ _
  ·exact Nat.le_refl _
  ·exact Nat.le_add_right _ _
 exact I1.fpOk hb' (I1.hok.fresh hb')
theorem zip_get {xs ys:List D}{i:Nat}{d:D}(h:(List.zipWith (fun x y=>D.tup [x,y]) xs ys)[i]?=some d):∃ x y,xs[i]?=some x/\ys[i]?=some y/\d=.tup [x,y]:=by
 rw[List.getElem?_zipWith] at h
 cases h1:xs[i]? with
 | none=>rw[h1] at h; cases h
 | some x =>
  cases h2:ys[i]? with
  | none=>rw[h1,h2] at h; cases h
  | some y=>rw[h1,h2] at h; cases h; exact⟨x,y,rfl,rfl,rfl⟩
theorem si_zip {C:Ctx}{a b:Expr}{f g:EE}{es:List Expr}{kt:Nat}{tpos p pos:Pos}(hg:Gl C.X "zip")(hm:C.X.mg "zip"=none)(ha:SE C a f)(hb:SE C b g)(hs:autoParam (starEach [a,b] C.X.env=[(false,eval a C.X.env),(false,eval b C.X.env)]) Au.h5._auto_1)(hs2:autoParam (starEach [b] C.X.env=[(false,eval b C.X.env)]) Au.h5._auto_1) :
  SI C (.Tuple es kt tpos) (.Call (.Name "zip" p) [a,b] [] pos) (Dv.iZip f g):=by
 obtain⟨t,pe,q⟩:=ha
 obtain⟨t2,pe2,q2⟩:=hb
 refine⟨_,pi_zip hg hm (pa_cons pe (pa_cons pe2 pa_nil hs2) (by rw[hs,hs2])) hs hs2,fun σ H Hv ρ T er s w=>?_⟩
 refine q σ H Hv ρ _ er s ?_
 unfold Dv.iZip at w
 cases hf:f ρ with
 | bad=>rw[hf] at w; exact w
 | exc c=>rw[hf] at w; exact w
 | ok d fr =>
  rw[hf] at w
  intro v Hv' H' x rp n
  cases d with
  | lst xs =>
   refine q2 σ H' Hv' ρ _ (er.same x.vv) x.vh ?_
   cases hg':g ρ with
   | bad=>simp only[hg'] at w; exact w
   | exc c=>simp only[hg'] at w; exact fun Hv2 H2 y=>w Hv2 H2 (x.trans y)
   | ok d2 fr2 =>
    simp only[hg'] at w
    intro v2 Hv2 H2 y rp2 n2
    cases d2 with
    | lst ys =>
     have rp1:=rp.same y.vv
     unfold Rp at rp1 rp2
     obtain⟨l1,vs,rfl,h1,h2⟩:=rp1
     obtain⟨l2,ws,rfl,h3,h4⟩:=rp2
     refine⟨l1,l2,vs,ws,rfl,(h1.same y.vh).seq,(h3.same y.vh).seq,w _ Hv2 H2 (x.trans y) fun i H3 s3=>⟨fun d hd=>?_,fun hi=>?_⟩⟩
     ·obtain⟨dx,dy,g1,g2,rfl⟩:=zip_get hd
      obtain⟨vx,k1,k2⟩:=h2.get g1
      obtain⟨vy,k3,k4⟩:=h4.get g2
      refine⟨⟨vs,ws,vx,vy,(h1.same s3).seq,(h3.same s3).seq,k1,k3⟩,fun u H4 ⟨p,hp,e1,hh⟩=>?_⟩
      obtain⟨x',y',m1,m2,rfl⟩:=hh vs ws (h1.same s3).seq (h3.same s3).seq
      rw[k1] at m1
      rw[k3] at m2
      cases m1
      cases m2
      subst e1
      have nx:=Ext.new1 s3 hp (.tup [vx,vy])
      refine⟨_,nx,?_⟩
      unfold Rp
      exact⟨p,_,rfl,.inl upd_same,.cons (k2.same nx.vv) (.cons (k4.same nx.vv) .nil)⟩
     ·refine⟨vs,ws,(h1.same s3).seq,(h3.same s3).seq,?_⟩
      rw[h2.length,h4.length]
      rw[List.length_zipWith] at hi
      omega
    | _=>exact(show False from w).elim
  | _=>exact(show False from w).elim
theorem sg_tup {C:Ctx}{ts:List Expr}{xs:List Nat}{kt:Nat}{tpos:Pos}(hg:SGs C ts xs)(hl:ts.length=xs.length)(hn:autoParam ((assignEach ts C.X.env).length=ts.length) Au.h5._auto_1)(hst:autoParam ((assignEach ts C.X.env).findIdx? (·.1)=none) Au.h5._auto_1)(hcl:autoParam (C.X.calm=true) Au.h5._auto_1) :
  SG C (.Tuple ts kt tpos) (Dv.tupTo xs):=by
 obtain⟨g,pg,qg⟩:=hg
 refine⟨_,pg_tup hcl pg hn hst,fun Hv₀ H₀ Hc O H σ s s' d v T r rp e h=>?_⟩
 unfold Dv.tupTo at e
 cases d with
 | tup ds =>
  by_cases hz:ds.length=xs.length
  ·simp only[hz,if_true] at e
   cases e
   unfold Rp at rp
   obtain⟨a,vs,rfl,h2,h3⟩:=rp
   exact⟨a,vs,rfl,.inl (Rd.same r.ch h2),by rw[h3.length,hz,hl],qg Hv₀ H₀ Hc O H σ s ds vs _ r h3 hz h⟩
  ·simp only[hz,if_false] at e
   cases e
 | _=>cases e
section
variable {C:Ctx}{a b c e k:Expr}{f g h:EE}{pos pos':Pos}
end
section
variable {C:Ctx}{a b c e:Expr}{f g h:EE}{pos:Pos}
theorem se_add (ha:SE C a f)(hb:SE C b g):SE C (.BinOp a .Add b pos) (Dv.eOp .add f g):=se_op2 os_add ha hb
theorem se_sub (ha:SE C a f)(hb:SE C b g):SE C (.BinOp a .Sub b pos) (Dv.eOp .sub f g):=se_op2 os_sub ha hb
theorem se_mul (ha:SE C a f)(hb:SE C b g):SE C (.BinOp a .Mult b pos) (Dv.eOp .mul f g):=se_op2 os_mul ha hb
theorem se_mod (ha:SE C a f)(hb:SE C b g):SE C (.BinOp a .Mod b pos) (Dv.eOp .mod f g):=se_op2 os_mod ha hb
theorem se_fdiv (ha:SE C a f)(hb:SE C b g):SE C (.BinOp a .FloorDiv b pos) (Dv.eOp .fdiv f g):=se_op2 os_fdiv ha hb
theorem se_shr (ha:SE C a f)(hb:SE C b g):SE C (.BinOp a .RShift b pos) (Dv.eOp .shr f g):=se_op2 os_shr ha hb
theorem se_eq (ha:SE C a f)(hb:SE C b g):SE C (.Compare a [.Eq] [b] pos) (Dv.eCm .eq f g):=se_cm2 os_eq ha hb (nomark _)
theorem sc_lt (ha:SE C a f)(hb:SE C b g):SC C (.Compare a [.Lt] [b] pos) (Dv.eCm .lt f g):=sc_cm2 os_lt ha hb (nomark _)
theorem sc_le (ha:SE C a f)(hb:SE C b g):SC C (.Compare a [.LtE] [b] pos) (Dv.eCm .le f g):=sc_cm2 os_le ha hb (nomark _)
theorem sc_gt (ha:SE C a f)(hb:SE C b g):SC C (.Compare a [.Gt] [b] pos) (Dv.eCm .gt f g):=sc_cm2 os_gt ha hb (nomark _)
theorem sc_ge (ha:SE C a f)(hb:SE C b g):SC C (.Compare a [.GtE] [b] pos) (Dv.eCm .ge f g):=sc_cm2 os_ge ha hb (nomark _)
theorem sc_eq (ha:SE C a f)(hb:SE C b g):SC C (.Compare a [.Eq] [b] pos) (Dv.eCm .eq f g):=sc_cm2 os_eq ha hb (nomark _)
theorem sc_ne (ha:SE C a f)(hb:SE C b g):SC C (.Compare a [.NotEq] [b] pos) (Dv.eCm .ne f g):=sc_cm2 os_ne ha hb (nomark _)
theorem sc_notin (ha:SE C a f)(hb:SE C b g)(hm:autoParam (behindInMarks .NotIn b=false) Au.h9._auto_1):SC C (.Compare a [.NotIn] [b] pos) (Dv.eCm .notin f g):=sc_cm2 os_notin ha hb hm
theorem se_num {x:Str}{i:Int}{t:Tok}(hg:Gl C.X x)(hm:C.X.mg x=some (.int i t))(hd:autoParam ((x == ("__debug__":Str))=false) Au.h2._auto_1):SE C (.Name x pos) (Dv.eInt i) :=
 ⟨_,pe_glob (v:=.int i) hg hm ⟨t,rfl⟩ hd,fun _ _ _ _ _ _ s q=>q.now (v:=.int i) s rp_int rfl⟩
theorem se_len {p:Pos}(hm:C.X.mg "len"=none)(hg:Gl C.X "len")(ha:SE C a f)(he:autoParam (starEach [a] C.X.env=[(false,eval a C.X.env)]) Au.h5._auto_1):SE C (.Call (.Name "len" p) [a] [] pos) (Dv.eB1 Dv.lenD f):=se_b1 c1_len hg hm PySem.boot_len ha (by decide) (by decide) he
theorem se_sorted {p:Pos}(hm:C.X.mg "sorted"=none)(hg:Gl C.X "sorted")(ha:SE C a f)(he:autoParam (starEach [a] C.X.env=[(false,eval a C.X.env)]) Au.h5._auto_1):SE C (.Call (.Name "sorted" p) [a] [] pos) (Dv.eB1 Dv.sortedD f):=se_b1 c1_sorted hg hm PyProof.Rows.boot_sorted ha (by decide) (by decide) he
theorem se_list {p:Pos}(hm:C.X.mg "list"=none)(hg:Gl C.X "list")(ha:SE C a f)(he:autoParam (starEach [a] C.X.env=[(false,eval a C.X.env)]) Au.h5._auto_1):SE C (.Call (.Name "list" p) [a] [] pos) (Dv.eB1 Dv.listD f):=se_t1 c1_list hg hm (by decide +kernel) ha (by decide) (by decide) he
theorem se_max2 {p:Pos}(hm:C.X.mg "max"=none)(hg:Gl C.X "max")(ha:SE C a f)(hb:SE C b g)(he:autoParam (starEach [a,b] C.X.env=(false,eval a C.X.env)::starEach [b] C.X.env) Au.h5._auto_1)(he2:autoParam (starEach [b] C.X.env=[(false,eval b C.X.env)]) Au.h5._auto_1)(hcl:autoParam (C.X.calm=true) Au.h5._auto_1):SE C (.Call (.Name "max" p) [a,b] [] pos) (Dv.eB2 Dv.max2D f g):=se_b2 (c2_max hcl) hg hm (by decide +kernel) ha hb (by decide) (by decide) he he2
theorem se_isInt {p p2:Pos}(hm:C.X.mg "isinstance"=none)(hmx:C.X.mg "int"=none)(hg:Gl C.X "isinstance")(hgx:Gl C.X "int")(ha:SE C a f)(he:autoParam (starEach [a,.Name "int" p2] C.X.env=(false,eval a C.X.env)::starEach [.Name "int" p2] C.X.env) Au.h5._auto_1)
  (he2:autoParam (starEach [.Name "int" p2] C.X.env=[(false,eval (.Name "int" p2) C.X.env)]) Au.h5._auto_1):SE C (.Call (.Name "isinstance" p) [a,.Name "int" p2] [] pos) (Dv.eB1 Dv.isIntD f):=se_isi _ isIntD_eq (fun d fr h=>by cases d <;>first|rfl|exact absurd h (by simp[Dv.noTy])) kit_int hg hm hgx hmx (by decide +kernel) ha (by decide) (by decide) he he2
theorem se_isBool {p p2:Pos}(hm:C.X.mg "isinstance"=none)(hmx:C.X.mg "bool"=none)(hg:Gl C.X "isinstance")(hgx:Gl C.X "bool")(ha:SE C a f)(he:autoParam (starEach [a,.Name "bool" p2] C.X.env=(false,eval a C.X.env)::starEach [.Name "bool" p2] C.X.env) Au.h5._auto_1)
  (he2:autoParam (starEach [.Name "bool" p2] C.X.env=[(false,eval (.Name "bool" p2) C.X.env)]) Au.h5._auto_1):SE C (.Call (.Name "isinstance" p) [a,.Name "bool" p2] [] pos) (Dv.eB1 Dv.isBoolD f):=se_isi _ isBoolD_eq (fun d fr h=>by cases d <;>first|rfl|exact absurd h (by simp[Dv.noTy])) kit_bool hg hm hgx hmx (by decide +kernel) ha (by decide) (by decide) he he2
theorem se_isList {p p2:Pos}(hm:C.X.mg "isinstance"=none)(hmx:C.X.mg "list"=none)(hg:Gl C.X "isinstance")(hgx:Gl C.X "list")(ha:SE C a f)(he:autoParam (starEach [a,.Name "list" p2] C.X.env=(false,eval a C.X.env)::starEach [.Name "list" p2] C.X.env) Au.h5._auto_1)
  (he2:autoParam (starEach [.Name "list" p2] C.X.env=[(false,eval (.Name "list" p2) C.X.env)]) Au.h5._auto_1):SE C (.Call (.Name "isinstance" p) [a,.Name "list" p2] [] pos) (Dv.eB1 Dv.isListD f):=se_isi _ isListD_eq (fun d fr h=>by cases d <;>first|rfl|exact absurd h (by simp[Dv.noTy])) kit_list hg hm hgx hmx (by decide +kernel) ha (by decide) (by decide) he he2
end
structure Df (K:PySem.W.Frag)(mg:Str->Option Value)(x:Str)(st:Stmt)(ps:List Str)(f:Addr)(fd:FuncData):Prop where
 m:mg x=some (.ref f)
 kp:PySem.W.keepIn K (.ref f)=true
 ex:∃ (oc:Value) (od:Option Addr) (dV kV doc pm:Value) (an:Option Addr) (cdv ct:Value) (osl:Array (Option Value)),
  fd=PySem.W.fnOf x x (defArgs st) (defBody st) (defScope st) dV kV doc pm an cdv ct/\K.lookup f=some ⟨oc,od,.func fd,osl⟩/\PySem.W.codeIn K cdv x=true
 bd:Binds K fd ps []
section
variable {P:Program}{w:World}{K:PySem.W.Frag}{mg:Str->Option Value}{base:Heap}{CX:CXT}{cls:String->Value}
theorem Df.ok (hC:CXok P w CX){x:Str}{st:Stmt}{f:Addr}{fd:FuncData}{N ps:List Str}{k:Nat}{body:SS}(d:Df K mg x st ps f fd)(S:FnScope N ps (defScope st))
  (hbody:∀ (cdv:Value) (A:Around) (outer:List PySem.Env) (s:Shared) (H:Hp) (E:XK) (hr:Room k (A.deeper (envOfC x (defScope st) s.heap.objs.size f cdv))),SSs (ctxOf hC cls K mg base N x (defScope st) f cdv A outer s H E hr) (defBody st) body) :
  FnOk P w K mg base CX (k+1) f fd ps (spD K cls (Dv.fn N.length body) ps.length):=by
 obtain⟨oc,od,dV,kV,doc,pm,an,cdv,ct,osl,rfl,lk,hcd⟩:=d.ex
 exact fn_ok hC cls oc od dV kV doc pm an cdv ct osl lk hcd S (hbody cdv)
theorem df_mk {x:Str}{st:Stmt}{ps:List Str}{f:Addr}{oc:Value}{od an:Option Addr}{osl:Array (Option Value)}{dV kV doc pm cdv ct:Value}(m:mg x=some (.ref f))(l:K.lookup f=some ⟨oc,od,.func (PySem.W.fnOf x x (defArgs st) (defBody st) (defScope st) dV kV doc pm an cdv ct),osl⟩)
  (c:PySem.W.codeIn K cdv x=true) (k:PySem.W.keepIn K (.ref f)=true)
  (h:∀ (kV doc pm:Value) (an:Option Addr) (cdv ct:Value) (us:List Value),us.length=ps.length->bindArgs (PySem.W.fnOf x x (defArgs st) (defBody st) (defScope st) dV kV doc pm an cdv ct) ⟨us,[]⟩=pure (ps.zip us)) :
  Df K mg x st ps f (PySem.W.fnOf x x (defArgs st) (defBody st) (defScope st) dV kV doc pm an cdv ct):=⟨m,k,⟨oc,od,dV,kV,doc,pm,an,cdv,ct,osl,rfl,l,c⟩,.all (h kV doc pm an cdv ct)⟩
end
theorem df_mkD {K:PySem.W.Frag}{mg:Str->Option Value}{x:Str}{st:Stmt}{ps:List Str}{f:Addr}{oc:Value}{od an:Option Addr}{osl:Array (Option Value)}{dV kV doc pm cdv ct:Value}(m:mg x=some (.ref f))(l:K.lookup f=some ⟨oc,od,.func (PySem.W.fnOf x x (defArgs st) (defBody st) (defScope st) dV kV doc pm an cdv ct),osl⟩)
  (c:PySem.W.codeIn K cdv x=true) (k:PySem.W.keepIn K (.ref f)=true) (bd:Binds K (PySem.W.fnOf x x (defArgs st) (defBody st) (defScope st) dV kV doc pm an cdv ct) ps []) :
  Df K mg x st ps f (PySem.W.fnOf x x (defArgs st) (defBody st) (defScope st) dV kV doc pm an cdv ct):=⟨m,k,⟨oc,od,dV,kV,doc,pm,an,cdv,ct,osl,rfl,l,c⟩,bd⟩
theorem se_fn {C:Ctx}{e:Expr}{es:List Expr}{fl:EL}{k j:Nat}{fa:Addr}{fd:FuncData}{st:Stmt}{ps:List Str}{Fm:List D->R}{x:Str}{p pos:Pos}(d:Df C.X.K C.X.mg x st ps fa fd)(Fn:FnOk C.X.prog C.X.w C.X.K C.X.mg C.X.base C.CX j fa fd ps (spD C.X.K C.cls Fm ps.length))(hr:Room k C.X.A)(hj:j<=k)
  (hg:Gl C.X x) (ha:SL C (e::es) fl) (hlen:autoParam ((e::es).length=ps.length) Au.h5._auto_1) (hdb:autoParam ((x == ("__debug__":Str))=false) Au.h2._auto_1) (he:autoParam (starEach (e::es) C.X.env=(false,eval e C.X.env)::starEach es C.X.env) Au.h5._auto_1) (hpl:autoParam ((backTo pos (starEach es C.X.env)).any (·.1)=false) Au.h5._auto_1) :
  SE C (.Call (.Name x p) (e::es) [] pos) (Dv.eCall Fm fl):=by
 have q:=se_call (pos:=pos) (p:=p) (dds:=[]) (dvs:=[]) (dus:=[]) Fn hr hj hg d.m d.kp d.bd .nil (fun _ _=>.nil) ha (by simpa using hlen) hdb he hpl
 have e1:(fun ds=>Fm (ds++[]))=Fm:=by funext ds; rw[List.append_nil]
 rw[e1] at q
 exact q
noncomputable def compOk (fsc:Scope)(N:List Str)(scope:Scope)(x:Str)(fs:List Str)(is:List Nat):Bool :=
 scope.kind == .function&&scope.names.all (fun y=>!(y.2 == .cell))&&scope.names.all (fun y=>!(y.2 == .local) || scope.names.lookup y.1 == some .local)&&scope.names.lookup x == some .local&&decide (x::fs).Nodup &&
 scope.names.all (fun y=>!(y.2 == .free) || (fsc.names.lookup y.1 == some .cell || fsc.names.lookup y.1 == some .free))&&fs.all (fun y=>scope.names.lookup y == some .free)&&is.length == fs.length&&(fs.zip is).all (fun p=>N[p.2]? == some p.1)
theorem comp_names {X:Cx}{fsc:Scope}{N:List Str}{scope:Scope}{x:Str}{fs:List Str}{is:List Nat}(h1:X.env.scope=fsc)(h2:X.N=N)(h:compOk fsc N scope x fs is=true):CompNames X scope x fs is:=by
 subst h1 h2
 unfold compOk at h
 simp only[Bool.and_eq_true] at h
 obtain⟨⟨⟨⟨⟨⟨⟨⟨a1,a2⟩,a3⟩,a4⟩,a5⟩,a6⟩,a7⟩,a8⟩,a9⟩:=h
 refine⟨by simpa using a1,fun y hy=>?_,fun y hy hl=>?_,by simpa using a4,by simpa using a5,fun y hy hf=>?_,fun y hy=>?_,by simpa using a8,fun j y hj=>?_⟩
 ·have:=List.all_eq_true.mp a2 y hy
  simpa using this
 ·have:=List.all_eq_true.mp a3 y hy
  simpa[hl] using this
 ·have:=List.all_eq_true.mp a6 y hy
  show X.env.scope.names.lookup y.1=some .cell\/X.env.scope.names.lookup y.1=some .free
  simpa[hf] using this
 ·have:=List.all_eq_true.mp a7 y hy
  simpa using this
 ·have hl:is.length=fs.length:=by simpa using a8
  have hjl:j<fs.length:=(List.getElem?_eq_some_iff.mp hj).1
  refine⟨is[j]'(by omega),by simp,?_⟩
  have hm:(y,is[j]'(by omega))∈fs.zip is:=by
   have e1:fs[j]=y:=(List.getElem?_eq_some_iff.mp hj).2
   have:(fs.zip is)[j]'(by rw[List.length_zip]; omega)=(y,is[j]'(by omega)):=by rw[List.getElem_zip,e1]
   rw[<- this]
   exact List.getElem_mem _
  have:=List.all_eq_true.mp a9 _ hm
  simpa using this
theorem Df.is {P:Program}{w:World}{K:PySem.W.Frag}{mg:Str->Option Value}{base:Heap}{CX:CXT}{cls:String->Value}(hC:CXok P w CX){x:Str}{st:Stmt}{f:Addr}{fd:FuncData}{ps:List Str}{F:List D->R}{m j:Nat}(N:List Str)(k:Nat)(body:SS)(d:Df K mg x st ps f fd)(S:FnScope N ps (defScope st))
  (hj:j=k+1) (hm:m=ps.length) (hF:F=Dv.fn N.length body)
  (hbody:∀ (cdv:Value) (A:Around) (outer:List PySem.Env) (s:Shared) (H:Hp) (E:XK) (hr:Room k (A.deeper (envOfC x (defScope st) s.heap.objs.size f cdv))),SSs (ctxOf hC cls K mg base N x (defScope st) f cdv A outer s H E hr) (defBody st) body) :
  FnOk P w K mg base CX j f fd ps (spD K cls F m):=by
 subst hj hm hF
 exact d.ok hC S hbody
structure Fly (P:Program)(w:World)(outer:List PySem.Env)(H:Hp)(s:Shared)(a:Addr)(cls:Value)(H':Hp)(B:Heap)(t:Addr)(s':Shared):Prop where
 os:s'.os=s.os
 bare:AllBare s'.gens
 fl:Heap.FlyingW B outer a cls (.ref t) s'.heap
 keepB:∀ b o,s.heap.get? b=some o->H b=none->b∉frs outer->B.get? b=some o
 thereB:∀ b o,s.heap.get? b=some o->b∉frs outer->∃ o',B.get? b=some o'
 slot:∀ b o,s.heap.get? b=some o->H b=none->b∈frs outer->∃ sl,s'.heap.get? b=some { o with slots:=sl }
 free:∀ b o,s.heap.get? b=some o->H b=none->H' b=none
 tups:∀ b xs,H b=some (.tup xs)->H' b=some (.tup xs)
 frzs:∀ b o u,H b=some (.frz o u)->H' b=some (.frz o u)
 tbls:∀ b ps,H b=some (.tbl ps)->∃ more,H' b=some (.tbl (ps++more))
 hokB:HOk P w H' B
noncomputable def CXe (P:Program)(w:World):CXT:=fun outer H s E e s'=>∃ a cls H' B t,e=.ref a/\Fly P w outer H s a cls H' B t s'/\E cls none H'
theorem hok_sub {P:Program}{w:World}{H:Hp}{h h':Heap}(x:HOk P w H h)(k:∀ b u,H b≠none->h.get? b=some u->h'.get? b=some u):HOk P w H h':=fun a o e =>
 (x a o e).stay (fun b u hb q=>k b u (by
  rcases hb with rfl|hb
  ·rw[e]; exact fun z=>nomatch z
  ·rw[hb]; exact fun z=>nomatch z) q) (fun _ q=>q) fun _ _ q=>q
theorem frame_data {B h:Heap}{l:List PySem.Env}{b:Addr}{o:Obj}(f:h.FunFrames B l)(hb:b∈frs l)(e:h.get? b=some o):∀ vs,o.data≠.fields vs:=by
 obtain⟨_,o',e',n⟩:=f.mem hb
 rw[e] at e'
 cases e'
 exact n
section
variable {P:Program}{w:World}{K:PySem.W.Frag}{mg:Str->Option Value}{base:Heap}{N:List Str}{qual:Str}{scope:Scope}{f:Addr}{cd:Value}{A:Around}{outer:List PySem.Env}{s:Shared}{H:Hp}{E:XK}
theorem not_in_stack {b:Addr}{o:Obj}(e:s.heap.get? b=some o)(hb:b∉frs outer):b∉frs (envOfC qual scope s.heap.objs.size f cd::outer):=fun m=>by
 have m':b∈s.heap.objs.size::frs outer:=m
 rcases List.mem_cons.mp m' with rfl|m'
 ·exact absurd (Heap.lt_size e) (Nat.lt_irrefl _)
 ·exact hb m'
theorem in_stack {b:Addr}(hb:b∈frs outer):b∈frs (envOfC qual scope s.heap.objs.size f cd::outer):=List.mem_cons_of_mem (s.heap.objs.size) hb
theorem cxe_leave (pins:List (Addr × Obj))(σ:St)(H1:Hp)(s1:Shared)(e:Value)(s':Shared)(I:Inv (cxOf (CXe P w) P w K mg base N qual scope f cd A outer s H E) pins σ H1 s1)
  (h:CXe P w (cxOf (CXe P w) P w K mg base N qual scope f cd A outer s H E).stack H1 s1 E e s'):(cxOf (CXe P w) P w K mg base N qual scope f cd A outer s H E).xe e s':=by
 obtain⟨a,cls,H',B,t,rfl,F,q⟩:=h
 have noex:∀ b:Addr,b∉(cxOf (CXe P w) P w K mg base N qual scope f cd A outer s H E).ex:=fun b z=>absurd (show b∈([]:List Addr) from z) (by simp)
 refine wpAny_leaves_onW (L:=s.heap.objs.size) I.ok.frames rfl F.fl fun h' x1 x2=>?_
 refine⟨a,cls,H',B,t,rfl,⟨F.os.trans I.os,F.bare,x1,fun b o e n hb=>?_,fun b o e hb=>?_,fun b o e n hb=>?_,fun b o e n=>?_,fun b xs e=>?_,fun b o u e=>?_,fun b ps e=>?_,F.hokB⟩,q⟩
 ·exact F.keepB b o (I.base.keep b o e n hb (noex b)) (I.base.free b o e n (noex b)) (not_in_stack e hb)
 ·obtain⟨o1,e1⟩:=I.base.there b o e (noex b)
  exact F.thereB b o1 e1 (not_in_stack e hb)
 ·obtain⟨sl,e1⟩:=I.base.slot b o e n hb (noex b)
  obtain⟨sl2,e2⟩:=F.slot b _ e1 (I.base.free b o e n (noex b)) (in_stack hb)
  obtain⟨sl3,e3⟩:=x2 b _ e2 (frame_data F.fl.2.2.1 (in_stack hb) e2)
  exact⟨sl3,e3⟩
 ·obtain⟨o1,e1⟩:=I.base.there b o e (noex b)
  exact F.free b o1 e1 (I.base.free b o e n (noex b))
 ·exact F.tups b xs (I.base.tups b xs e)
 ·exact F.frzs b o u (I.base.frzs b o u e)
 ·obtain⟨m1,e1⟩:=I.base.tbls b ps e
  obtain⟨m2,e2⟩:=F.tbls b _ e1
  exact⟨m1++m2,by rw[e2,Array.append_assoc]⟩
theorem cxe_ok {P:Program}{w:World}:CXok P w (CXe P w):=⟨fun _ _ _ _ _ ⟨_,_,_,_,_,_,_,q⟩=>q,fun _ _ _ _ _ _ _ _ _ _ _ _ _ pins σ H1 s1 e s' I h=>cxe_leave pins σ H1 s1 e s' I h⟩
theorem raise_leave {pins:List (Addr × Obj)}{σ:St}{H1:Hp}{s1:Shared}{h':Heap}{e:Addr}{cls:Value}{vs:List Value}(I:Inv (cxOf (CXe P w) P w K mg base N qual scope f cd A outer s H E) pins σ H1 s1)
  (hx:Heap.MadeExcOf s1.heap h' e cls vs) (hE:E cls none H1):(cxOf (CXe P w) P w K mg base N qual scope f cd A outer s H E).xe (.ref e) { s1 with heap:=h' }:=by
 have noex:∀ b:Addr,b∉(cxOf (CXe P w) P w K mg base N qual scope f cd A outer s H E).ex:=fun b z=>absurd (show b∈([]:List Addr) from z) (by simp)
 have hfr:s1.heap.FunFrames (PySem.W.hideAll s1.heap (frs (envOfC qual scope s.heap.objs.size f cd::outer))) (envOfC qual scope s.heap.objs.size f cd::outer) :=
  PySem.W.funFrames_hide I.stack fun env he b hb=>List.mem_filterMap.mpr ⟨env,he,hb⟩
 refine wpAny_leaves_madeW (L:=s.heap.objs.size) (base:=PySem.W.hideAll s1.heap (frs (envOfC qual scope s.heap.objs.size f cd::outer))) I.ok.frames rfl (fun b o q=>PySem.W.of_hideAll _ q) hfr hx fun h2 t x1 x2 x3 x4=>?_
 refine⟨e,cls,H1,_,t,rfl,⟨I.os,I.bare,x1,fun b o q n hb=>?_,fun b o q hb=>?_,fun b o q n hb=>?_,fun b o q n=>I.base.free b o q n (noex b),fun b xs q=>I.base.tups b xs q,fun b o u q=>I.base.frzs b o u q,fun b ps q=>I.base.tbls b ps q,?_⟩,hE⟩
 ·exact PySem.W.hideAll_get _ (I.base.keep b o q n hb (noex b)) (not_in_stack q hb)
 ·obtain⟨o1,e1⟩:=I.base.there b o q (noex b)
  exact⟨o1,PySem.W.hideAll_get _ e1 (not_in_stack q hb)⟩
 ·obtain⟨sl,e1⟩:=I.base.slot b o q n hb (noex b)
  obtain⟨sl2,e2⟩:=x4 b _ (hx.keeps _ _ e1) (frame_data hfr (in_stack hb) e1)
  exact⟨sl2,e2⟩
 ·refine hok_sub I.hok fun b u hb q=>PySem.W.hideAll_get _ q fun m=>hb ?_
  exact I.stkFree b m
end
structure XCls (K:PySem.W.Frag)(mg:Str->Option Value)(c:String)(C:Addr):Prop where
 m:mg (Str.ofString c)=some (.ref C)
 ns:PySem.W.nsIn K mainGlobals (Str.ofString c)=some (some (.ref C))
 ex:PySem.W.excIn K C [.type "ValueError",.type "Exception",.type "BaseException",.type "object"] "ValueError.__new__"=true
 lk:∃ bm N nm qn bs hd sn sub ab col dd k0 k1 k2 k3 k5,K.lookup C=some (excClassObj nm qn C N bs bm hd sn sub ab col dd k0 k1 k2 k3 k5 "ValueError.__new__")
theorem exc_parts {K:PySem.W.Frag}{C:Addr}{bm0:List Value}{newId:String}(q:PySem.W.excIn K C bm0 newId=true)(l:∃ bm N nm qn bs hd sn sub ab col dd k0 k1 k2 k3 k5,K.lookup C=some (excClassObj nm qn C N bs bm hd sn sub ab col dd k0 k1 k2 k3 k5 newId)) :
  ∃ bm N nm qn bs hd sn sub ab col dd k0 k1 k2 k3 k5,K.lookup C=some (excClassObj nm qn C N bs bm hd sn sub ab col dd k0 k1 k2 k3 k5 newId)/\PySem.W.nsOkIn K N=true/\PySem.W.nsIn K N "__init__"=some none/\PySem.W.tailIn K bm0 bm=true:=by
 obtain⟨bm,N,nm,qn,bs,hd,sn,sub,ab,col,dd,k0,k1,k2,k3,k5,l⟩:=l
 unfold PySem.W.excIn at q
 rw[l] at q
 have q:(C == C&&newId == newId&&!false&&PySem.W.tailIn K bm0 bm&&PySem.W.nsOkIn K N&&PySem.W.nsIn K N "__init__" == some none)=true:=q
 simp only[Bool.and_eq_true,beq_iff_eq] at q
 exact⟨bm,N,nm,qn,bs,hd,sn,sub,ab,col,dd,k0,k1,k2,k3,k5,l,q.1.2,q.2,q.1.1.2⟩
theorem ns_move {K:PySem.W.Frag}{h h':Heap}{N:Addr}{m:Str->Option Value}(X:K.In h)(X':K.In h')(e:PySem.W.nsOkIn K N=true)(n:h.Ns N m):h'.Ns N m:=by
 obtain⟨o,es,ep,ho,hd,r⟩:=n
 unfold PySem.W.nsOkIn at e
 split at e
 ·rename_i a b c d q
  have:=X _ _ q
  rw[ho] at this
  cases this
  exact⟨_,es,ep,X' _ _ q,hd,r⟩
 ·cases e
theorem ps_raise {P:Program}{w:World}{K:PySem.W.Frag}{mg:Str->Option Value}{base:Heap}{N:List Str}{qual:Str}{scope:Scope}{f:Addr}{cd:Value}{A:Around}{outer:List PySem.Env}{s:Shared}{H:Hp}{E:XK}{c:String}{Ca:Addr}{tx:Str}{j:Nat}{np p2 cpos pos:Pos}
  (x:XCls K mg c Ca) (hg:Gl (cxOf (CXe P w) P w K mg base N qual scope f cd A outer s H E) (Str.ofString c)) (hd:(Str.ofString c == ("__debug__":Str))=false) (hh:(A.deeper (envOfC qual scope s.heap.objs.size f cd)).handled=none) :
  PS (cxOf (CXe P w) P w K mg base N qual scope f cd A outer s H E) (.Raise (some (.Call (.Name (Str.ofString c) np) [.Constant (.str tx) j p2] [] cpos)) none pos) (fun _ _ H1=>E (.ref Ca) none H1):=by
 intro pins s1 σ H1 D I hE
 obtain⟨bm,Na,nm,qn,bs,hdd,sn,sub,ab,col,dd,k0,k1,k2,k3,k5,hC,hN,hni,hT⟩:=exc_parts x.ex x.lk
 have T:=PySem.W.tail_of_in I.kIn hT
 refine wpAny_Raise_call_subT (C:=Ca) (nm:=nm) (q:=qn) (N:=Na) (bs:=bs) (bm:=bm) (hdct:=hdd) (sn:=sn) (sub:=sub) (ab:=ab) (col:=col) (dd:=dd) (k0:=k0) (k1:=k1) (k2:=k2) (k3:=k3) (k5:=k5) PySem.F.excBase_ValueError (mN:=s1.heap.nsMap Na) (T.hasType (by decide)) hh rfl (PySem.W.nsMap_none_of_in I.kIn hN hni) ?_
 have pn:=pe_glob (X:=cxOf (CXe P w) P w K mg base N qual scope f cd A outer s H E) (v:=.ref Ca) (pos:=np) hg x.m rfl hd
 refine thn (pn pins s1 σ H1 (fun v H2=>v=.ref Ca/\H2=H1) I ⟨rfl,rfl⟩) ?_
 rintro u s2 ⟨v,H2,I2,r2,rfl,rfl⟩
 obtain rfl:u=Value.ref Ca:=r2
 refine⟨rfl,Calls.evalArgs_plain ?_⟩
 have pa:=pa_cons (X:=cxOf (CXe P w) P w K mg base N qual scope f cd A outer s H E) (e:=.Constant (.str tx) j p2) pe_str pa_nil
 refine thn (pa cpos pins s2 σ H2 (fun vs H3=>vs=[.str tx]/\H3=H2) I2 ⟨rfl,rfl⟩) ?_
 rintro us s3 ⟨vs,H3,I3,r3,rfl,rfl⟩
 have hl:us.length=1:=r3.length.symm
 refine⟨rfl,by rw[hl]; decide,I3.kIn _ _ hC,ns_move I.kIn I3.kIn hN (.of_isNs (PySem.W.isNs_of_in I.kIn hN)),PySem.W.tail_of_in I3.kIn hT,fun h' e hx=>?_⟩
 exact raise_leave I3 hx hE
theorem ss_raise {P:Program}{w:World}{K:PySem.W.Frag}{mg:Str->Option Value}{base:Heap}{cls:String->Value}{N:List Str}{qual:Str}{scope:Scope}{f:Addr}{cd:Value}{A:Around}{outer:List PySem.Env}{s:Shared}{H:Hp}{E:XK}{k:Nat}{hr:Room k (A.deeper (envOfC qual scope s.heap.objs.size f cd))}{c:String}{Ca:Addr}{tx:Str}{j:Nat}{np p2 cpos pos:Pos}
  (x:XCls K mg c Ca) (hcls:cls c=.ref Ca) (hg:Gl (cxOf (CXe P w) P w K mg base N qual scope f cd A outer s H E) (Str.ofString c)) (hd:autoParam ((Str.ofString c == ("__debug__":Str))=false) Au.h2._auto_1) :
  SSs (ctxOf (cxe_ok (P:=P) (w:=w)) cls K mg base N qual scope f cd A outer s H E hr) [.Raise (some (.Call (.Name (Str.ofString c) np) [.Constant (.str tx) j p2] [] cpos)) none pos] (Dv.sRaise c):=by
 refine⟨_,pss_one (ps_raise x hg hd hr.hd),fun Hv₀ H₀ E' σ H' st r q=>?_⟩
 have q':E (cls c) none H':=q σ H' r
 rw[hcls] at q'
 exact q'
structure XLook (K:PySem.W.Frag)(C:Addr):Prop where
 ex:PySem.W.excIn K C [.type "ValueError",.type "Exception",.type "BaseException",.type "object"] "ValueError.__new__"=true
 lk:∃ bm N nm qn bs hd sn sub ab col dd k0 k1 k2 k3 k5,K.lookup C=some (excClassObj nm qn C N bs bm hd sn sub ab col dd k0 k1 k2 k3 k5 "ValueError.__new__")
 ga:PySem.W.findIn K (.ref C) "__getattribute__"=some (some (.builtin "BaseException.__getattribute__"))
 gn:PySem.W.findIn K (.ref C) "__getattr__"=some none
 kc:PySem.W.findIn K (.ref C) "__class__"=some (some (.builtin "object.__class__"))
section
variable {prog:Program}{w:World}{A:Around}{E:Value->Shared->Prop}{K:PySem.W.Frag}{h:Heap}{g:Array GenState}{d:Drawn}{t:Nat}{os:OsState}{a C:Addr}{o:Obj}
end
structure XAll (K:PySem.W.Frag)(mg:Str->Option Value)(ad:String->Option Addr):Prop where
 cl:∀ c C,ad c=some C->XCls K mg c C/\XLook K C
 sub:∀ c C k C',ad c=some C->ad k=some C'->PySem.W.kitOne K (.ref C) (.ref C')=some (Dv.subX c k)
 val:∀ c C,ad c=some C->PySem.W.kitOne K (.ref C) (.type "ValueError")=some true
theorem Fly.un {P:Program}{w:World}{outer:List PySem.Env}{H H':Hp}{s s':Shared}{a t:Addr}{cls:Value}{B h:Heap}(F:Fly P w outer H s a cls H' B t s')(sb:B.StaysIn h)(sm:s'.heap.UpToSlots h)(hf:∀ b∈frs outer,H b=none) :
  Un (frs outer) [] H H' s.heap h where
 keep:=fun b o e n hb _=>sb b o (F.keepB b o e n hb)
 slot:=fun b o e n hb _=>by
  obtain⟨sl,e1⟩:=F.slot b o e n hb
  obtain⟨sl2,e2⟩:=sm b _ e1 (frame_data F.fl.2.2.1 hb e1)
  exact⟨sl2,e2⟩
 free:=fun b o e n _=>F.free b o e n
 there:=fun b o e _=>by
  by_cases hb:b∈frs outer
  ·obtain⟨sl,e1⟩:=F.slot b o e (hf b hb) hb
   obtain⟨sl2,e2⟩:=sm b _ e1 (frame_data F.fl.2.2.1 hb e1)
   exact⟨_,e2⟩
  ·obtain⟨o1,e1⟩:=F.thereB b o e hb
   exact⟨o1,sb b o1 e1⟩
 tups:=F.tups
 frzs:=F.frzs
 tbls:=F.tbls
section
variable {X:Cx}{pins pins':List (Addr × Obj)}{σ:St}{H:Hp}{s:Shared}{xe:Value->Shared->Prop}{e:Addr}
end
section
variable {C:Ctx}{ad:String->Option Addr}{kn:List String}{k:String}{Ck:Addr}{body suite:List Stmt}{b₀:Stmt}{F G:SS}{np hpos pos:Pos}
end
section
variable {C:Ctx}{ad:String->Option Addr}{kn:List String}{a:Expr}{f:EE}{pos:Pos}
end
open PySem PySem.W PySem.Calls PyProof.Rows
theorem weight_mem:∀ {ns:List Int} {x:Int},x∈ns->(WData.int x).weight<=WData.weightAll (ns.map WData.int)
 | [],_,h=>by simp at h
 | n::r,x,h=>by
  rw[List.map_cons]
  unfold WData.weightAll
  rcases List.mem_cons.mp h with rfl|h
  ·omega
  ·have:=weight_mem h
   omega
theorem bits_of {ns:List Int}(h:WData.layableAll [WData.list (ns.map WData.int)]=true):∀ x∈ns,Dv.bits x<=1048576:=fun x hx=>by
 have h1:=layableW_arg h _ (List.mem_cons_self ..)
 obtain⟨_,_,h2⟩:=layableW_iff.mp h1
 have h3:WData.weight (WData.list (ns.map WData.int))=WData.weightAll (ns.map WData.int):=by unfold WData.weight; rfl
 have h4:=weight_mem hx
 have h5:(WData.int x).weight=Dv.bits x:=by
  unfold WData.weight Dv.bits
  by_cases e:x=0
  ·simp[e]
  ·simp[e]
 rw[h3] at h2
 omega
theorem attachB {l:OpenLaw}{n:Nat}{q:Program}{loose:List Str}{XP:(Str->Option Value)->Heap->Prop}{YP:World->Heap->Prop}{d:DefRec}(hn:l.most=some n)(hdf:d.params.defaults=[])
  (run:∀ (w:World) (s₀ s₁:Shared) (mg mb:Str->Option Value) (fa:Addr) (a:Addr) (vs:List Value) (ns:List Int),Ground q loose [] XP w s₀ mg mb s₁.heap->YP w s₁.heap->mg d.name=some (.ref fa) ->
   s₁.heap.get? a=some { cls:=.type "list",data:=.seq vs.toArray }->IntsAre vs ns->ns.length<=n->(∀ x∈ns,Dv.bits x<=1048576)->s₁.gens=#[] ->
   codeAny (model l.prog w) callerA (.call (.ref fa) ⟨[.ref a],[]⟩) (fun r s'=>r=.ok (.ret (.bool true))/\OldK s₁.heap s'.heap/\s'.os=s₁.os/\AllBare s'.gens) s₁) :
  WalkO q loose XP YP l.row.toRowW d [] (fun f vs=>PySem.call f vs):=by
 intro w s₀ s₁ mg mb G Y fa o pm cd doc dV kV ho hd hcd hD hmg hg args vals as hpre hlay hrd hwl hlo
 obtain⟨a,vs,ns,rfl,rfl,hobj,hints,hlen⟩:=Att.script_of hn hpre hwl
 have hbits:=bits_of hlay
 refine enter_call (codeAny_mono (run w s₀ s₁ mg mb fa a vs ns G Y hmg hobj hints hlen hbits hg) ?_)
 rintro r s' ⟨rfl,h2,h3,h4⟩
 exact⟨.inl ⟨.bool true,.bool true,[],rfl,fun _=>rfl,.bool true,Att.post_true l _,fun _=>⟨List.Pairwise.nil,fun _ hm=>(nomatch hm)⟩⟩,h2,h3,h4⟩
theorem walkD {l:OpenLaw}{k:Nat}{q:Program}{loose:List Str}{XP:(Str->Option Value)->Heap->Prop}{YP:World->Heap->Prop}{d:DefRec}{K:Params->Frag}{CX:World->L2.CXT}{x:Str}{Fl:List Dv.D->Dv.R}
  (hn:l.most=some 63) (hdf:d.params.defaults=[]) (hr:L2.Room k callerA) (hY:∀ (w:World) (h:Heap),YP w h->(K w.params).In h) (hC:∀ w,CXok l.prog w (CX w))
  (F:∀ (w:World) (mg:Str->Option Value) (fa:Addr) (h:Heap),(K w.params).In h->h.Ns mainGlobals mg->mg d.name=some (.ref fa) ->
   ∃ (fd:FuncData) (cls:String->Value),(∀ (s:Shared) (u:Value),BindsTo s fd ⟨[u],[]⟩ [(x,u)])/\∀ base:Heap,(K w.params).In base->base.Ns mainGlobals mg->L2.FnOk l.prog w (K w.params) mg base (CX w) k fa fd [x] (spD (K w.params) cls Fl 1))
  (hF:∀ ns:List Int,ns.length<=63->(∀ x∈ns,Dv.bits x<=1048576)->Fl [.lst (ns.map .int)]=.ok (.bl true) true) :
  WalkO q loose XP YP l.row.toRowW d [] (fun f vs=>PySem.call f vs):=by
 refine attachB hn hdf fun w s₀ s₁ mg mb fa a vs ns G Y hmg hobj hints hlen hbits hg=>?_
 have KX:=hY w _ Y
 obtain⟨fd,cls,hb,hFn⟩:=F w mg fa _ KX G.T.g hmg
 have hK:∀ o,(K w.params).lookup a=some o->o={ cls:=.type "list",data:=.seq vs.toArray }:=fun o e=>by
  have:=KX a o e
  rw[hobj] at this
  exact(Option.some.inj this).symm
 have hl:ns.length<=sizeLine:=Nat.le_trans hlen (by decide)
 refine L2.law_call KX G.T.g G.T.b G.T.builtins G.T.nolimit hg hobj hints hl hr hFn hb (fun H hO hS=>?_) fun H e s'=>(hC w).no [] H s₁ e s'
 refine⟨[.lst (ns.map .int)],H,rfl,.refl _,?_,?_⟩
 ·refine .cons ?_ .nil
  unfold Rp
  refine⟨a,ns.map L2.V.int,rfl,?_,RpL.ofInts ns⟩
  rcases hS with hS|⟨o,its,m,e,_,_,e2,z,v⟩
  ·exact .inl hS
  ·have e3:=hK o e
   subst e3
   cases e2
   exact .inr ⟨vs,_,e,by rw[List.length_map]; exact hl,by simpa using v⟩
 ·rw[hF ns hlen hbits]
  intro v Hv' H' _ rp _
  unfold Rp at rp
  exact rp
open Dv in
noncomputable def clsOf (ad:String->Option Addr)(c:String):Value:=match ad c with
 | some C=>.ref C
 | none=>.none
theorem clsOf_eq {ad:String->Option Addr}{c:String}{C:Addr}(h:ad c=some C):clsOf ad c=.ref C:=by unfold clsOf; rw[h]
noncomputable def adOf (l:List (String × Addr))(c:String):Option Addr:=l.lookup c
theorem adOf_mem:∀ {l:List (String × Addr)} {c:String} {C:Addr},adOf l c=some C->(c,C)∈l
 | [],c,C,h=>by simp[adOf] at h
 | (k,v)::r,c,C,h=>by
  unfold adOf at h
  rw[List.lookup_cons] at h
  split at h
  ·rename_i q
   cases h
   rw[beq_iff_eq.mp q]
   exact List.mem_cons_self ..
  ·exact List.mem_cons_of_mem _ (adOf_mem (l:=r) h)
theorem xall_mk {K:Frag}{mg:Str->Option Value}(l:List (String × Addr))(h1:∀ p∈l,XCls K mg p.1 p.2/\XLook K p.2/\kitOne K (.ref p.2) (.type "ValueError")=some true)(h2:∀ p∈l,∀ q∈l,kitOne K (.ref p.2) (.ref q.2)=some (Dv.subX p.1 q.1)):XAll K mg (adOf l) where
 cl:=fun c C h=>let z:=h1 _ (adOf_mem h); ⟨z.1,z.2.1⟩
 sub:=fun c C k C' h h'=>h2 _ (adOf_mem h) _ (adOf_mem h')
 val:=fun c C h=>(h1 _ (adOf_mem h)).2.2
theorem fm_nil {α:Type}{p:α->Prop}:∀ x∈([]:List α),p x:=fun x h=>absurd h (by simp)
theorem fm_cons {α:Type}{p:α->Prop}{a:α}{l:List α}(h:p a)(r:∀ x∈l,p x):∀ x∈a::l,p x:=fun x m=>by
 rcases List.mem_cons.mp m with rfl|m
 ·exact h
 ·exact r x m
end Sd
namespace Dv
noncomputable def upL (lo:Int):Nat->List Int
 | 0=>[]
 | n+1=>lo::upL (lo+1) n
end Dv
namespace Sd
open PySem PySem.Spec PyProof.Rows L2 HT
open Dv (D R RL EE EL EI RI Sl Out SS)
section
variable {C:Ctx}{a:Expr}{f:EE}{pos:Pos}
end
section
variable {C:Ctx}{a:Expr}{f:EE}{pos:Pos}
theorem upL_len:∀ (n:Nat) (lo:Int),(Dv.upL lo n).length=n
 | 0,lo=>rfl
 | n+1,lo=>by unfold Dv.upL; rw[List.length_cons,upL_len n]
theorem vals_rev:∀ {xs:List V} {us:List Value},Vals xs us->Vals xs.reverse us.reverse
 | _,_,.nil=>.nil
 | _,_,.cons r t=>by
  rw[List.reverse_cons,List.reverse_cons]
  exact(vals_rev t).append (.cons r .nil)
theorem pe_rev {X:Cx}{t:TE}{ts:TO}{st:Expr}{p2:Pos}(he:PE X a t)(hs:PO X (some st) ts):PE X (.Subscript a (.Slice none none (some st) p2) pos) (fun σ H Q=>t σ H fun x H1=>ts σ H1 fun l H2=>∃ b xs,l=some (-1)/\x=.ref b/\SqX X.K H2 b xs/\∀ p,H2 p=none->Q (.ref p) (upd H2 p (.lst xs.reverse))):=by
 intro pins s σ H Q I h
 refine Subscript_ (thn (he pins s σ H _ I h) fun v s1 ⟨x,H1,I1,r1,q1⟩=>?_)
 refine wpAny_Slice ?_
 rw[evalPart_none]
 refine wpAny_pure ?_
 refine wpAny_pure ?_
 refine thn (hs pins s1 σ H1 _ I1 q1) fun vs s3 ⟨l,H3,I3,pl,b,xs,e1,e2,hq,go⟩=>?_
 subst e1 e2
 cases r1
 have I4:L2.Inv X pins σ H3 { s3 with heap:=s3.heap.push { cls:=.type "slice",data:=.fields #[.none,.none,vs] } }:=I3.kept (t':=s3.toks) fun b ob q=>Heap.get?_push_of_some _ q
 obtain⟨its,n,rv,e,z⟩:=Inv.listX I4 hq
 have hl:=rv.length
 have hli:Heap.IsList (s3.heap.push { cls:=.type "slice",data:=.fields #[.none,.none,vs] }) b its.toArray:=⟨_,e,rfl,n,rfl⟩
 show wpAny (model X.prog X.w) X.A (subscriptTail a (.Slice none none (some st) p2) (.ref b) (.ref s3.heap.objs.size)) (EP X pins σ Q) X.xe { s3 with heap:=s3.heap.push { cls:=.type "slice",data:=.fields #[.none,.none,vs] } }
 refine tail_any (ops:=[.ref b,.ref s3.heap.objs.size]) (T:="list") hli.typeIs slot_list_getitem.lookup ?_ (by with_unfolding_all rfl)
 refine wpAny_getItem_list_slice hli (Heap.IsSliceOf.new ..) .none .none pl (by simp) ?_ (by rw[List.size_toArray]; omega)
 rw[PySem.W.krv_pick]
 refine⟨.ref _,_,I4.laid (t':=s3.toks) (o:=.lst xs.reverse) (fun b ob q=>Heap.get?_push_of_some _ q) (Nat.le_refl _) ?_,rfl,go _ (I4.hok.fresh (Nat.le_refl _))⟩
 exact⟨by rw[List.length_reverse]; exact z,_,0,vals_rev rv,Heap.get?_push_size _ rfl⟩
end
end Sd
namespace Dv
noncomputable def lexLt:List Int->List Int->Bool
 | [],[]=>false
 | [],_::_=>true
 | _::_,[]=>false
 | x::xs,y::ys=>if x=y then lexLt xs ys else decide (x<y)
noncomputable def bestIx (bt:Nat->Nat->Bool):Nat->Nat
 | 0=>0
 | k+1=>if bt (k+1) (bestIx bt k) then k+1 else bestIx bt k
noncomputable def listsOf:List D->Option (List (List Int))
 | []=>some []
 | .lst ds::r=>match intsOf ds,listsOf r with
  | some ns,some nss=>some (ns::nss)
  | _,_=>none
 | _::_=>none
noncomputable def leastIx (nss:List (List Int)):Nat:=bestIx (fun i j=>lexLt (nss.getD i []) (nss.getD j [])) (nss.length-1)
noncomputable def least (nss:List (List Int)):List Int:=nss.getD (leastIx nss) []
end Dv
namespace Sd
open PySem PySem.Spec PyProof.Rows L2 HT
open Dv (D R RL EE EL EI RI Sl Out SS)
section
open PySem.SeqAt
open PySem.AutoSeq1 (wpAny_loadPart')
open PySem.MeetsSeq PySem.MeetsSeq2 PySem.MeetsSeq3
theorem ints_at {vs:List Value}{ns:List Int}(h:IntsAre vs ns){i:Nat}(hi:i<ns.length):∃ t,vs.toArray[i]?=some (Value.int (ns.getD i 0) t):=by
 have hl:=h.length
 have e:vs[i]?=some vs[i]:=List.getElem?_eq_getElem (by omega)
 obtain⟨t,e2⟩:=IntsAre.int_at h i _ e
 exact⟨t,by rw[List.getElem?_toArray,e,e2]⟩
theorem drop_one (ns:List Int){i:Nat}(h:i<ns.length):ns.drop i=ns.getD i 0::ns.drop (i+1):=by
 rw[List.drop_eq_getElem_cons h,List.getD_eq_getElem?_getD,List.getElem?_eq_getElem h]; rfl
theorem lt_loop (l b:Addr)(vs ws:List Value)(n n2:Nat)(dd dd2:Option Addr)(sl sl2:Array (Option Value))(ns ms:List Int)(hv:IntsAre vs ns)(hw:IntsAre ws ms)(k:Nat) :
  ∀ i:Nat,ns.length-i=k->i<=ns.length->i<=ms.length->Meets (Builtin.«list.__eq__.loop» ⟨[.ref l,.ref b,rawInt i,rawInt 0],[]⟩)
   (fun A R s=>s.heap.get? l=some { cls:=.type "list",dict:=dd,data:=.seq vs.toArray n,slots:=sl }/\s.heap.get? b=some { cls:=.type "list",dict:=dd2,data:=.seq ws.toArray n2,slots:=sl2 } /\
    R (.ok (.ret (.bool (Dv.lexLt (ns.drop i) (ms.drop i))))) s):=by
 have z1:=hv.length
 have z2:=hw.length
 induction k with
 | zero =>
  intro i hk h1 h2 prog w A R s h
  obtain⟨hp,g,d,tk,os⟩:=s; obtain⟨hl,hb,h⟩:=h
  wp_walk using wpAny_loadPart' hl,wpAny_loadPart' hb
  have hi1:vs.toArray[((i:Nat):Int).toNat]?=none:=by simp; omega
  rw[hi1]
  wp_walk using wpAny_loadPart' hl,wpAny_loadPart' hb
  show R (.ok (.ret (.bool (decide (vs.toArray.size<ws.toArray.size))))) _
  have e0:ns.drop i=[]:=List.drop_eq_nil_of_le (by omega)
  have e:Dv.lexLt (ns.drop i) (ms.drop i)=decide (vs.toArray.size<ws.toArray.size):=by
   rw[e0,List.size_toArray,List.size_toArray]
   by_cases hm:i<ms.length
   ·rw[drop_one ms hm]; unfold Dv.lexLt; exact(decide_eq_true (by omega)).symm
   ·rw[List.drop_eq_nil_of_le (show ms.length<=i by omega)]; unfold Dv.lexLt; exact(decide_eq_false (by omega)).symm
  rw[<- e]; exact h
 | succ k ih =>
  intro i hk h1 h2 prog w A R s h
  obtain⟨hp,g,d,tk,os⟩:=s; obtain⟨hl,hb,h⟩:=h
  wp_walk using wpAny_loadPart' hl,wpAny_loadPart' hb
  have hlt:i<ns.length:=by omega
  obtain⟨t,e1⟩:=ints_at hv hlt
  have hi1:vs.toArray[((i:Nat):Int).toNat]?=some (Value.int (ns.getD i 0) t):=by simpa using e1
  have hc:((i:Int)+1)=((i+1:Nat):Int):=by push_cast; rfl
  by_cases hm:i<ms.length
  ·obtain⟨t2,e2⟩:=ints_at hw hm
   have hi2:ws.toArray[((i:Nat):Int).toNat]?=some (Value.int (ms.getD i 0) t2):=by simpa using e2
   rw[drop_one ns hlt,drop_one ms hm] at h
   unfold Dv.lexLt at h
   rw[hi1,hi2]
   obtain⟨e,he,hiff⟩:=eqAt_int A.in1 ⟨hp,g,d,tk,os⟩ (ns.getD i 0) t (ms.getD i 0) t2
   refine wpAny_bind (he prog w _ _ ?_)
   cases e with
   | true =>
    rw[if_pos (hiff.mp rfl)] at h
    wp_walk
    rw[hc]
    exact⟨plainId_quiet plain_eq_loop _,codeAny_builtin entry_eq_loop (by
     rw[Around.under_plainId plain_eq_loop _]
     exact ih (i+1) (by omega) (by omega) (by omega) prog w A R _ ⟨hl,hb,h⟩)⟩
   | false =>
    rw[if_neg (fun q=>absurd (hiff.mpr q) Bool.false_ne_true)] at h
    have hri:=rcLt_int A.in1 ⟨hp,g,d,tk,os⟩ (ns.getD i 0) t (ms.getD i 0) t2 prog w
    wp_walk using wpAny_loadPart' hl,wpAny_loadPart' hb
    rw[hi1,hi2]
    wp_walk using hri
    exact h
  ·have hi2:ws.toArray[((i:Nat):Int).toNat]?=none:=by simp; omega
   rw[hi1,hi2]
   wp_walk using wpAny_loadPart' hl,wpAny_loadPart' hb
   show R (.ok (.ret (.bool (decide (vs.toArray.size<ws.toArray.size))))) _
   have e:Dv.lexLt (ns.drop i) (ms.drop i)=decide (vs.toArray.size<ws.toArray.size):=by
    rw[List.size_toArray,List.size_toArray,drop_one ns hlt,List.drop_eq_nil_of_le (show ms.length<=i by omega)]
    unfold Dv.lexLt; exact(decide_eq_false (by omega)).symm
   rw[<- e]; exact h
theorem list_lt (l b:Addr)(vs ws:List Value)(n n2:Nat)(dd dd2:Option Addr)(sl sl2:Array (Option Value))(ns ms:List Int)(hv:IntsAre vs ns)(hw:IntsAre ws ms) :
  Meets (Builtin.«list.__lt__» ⟨[.ref l,.ref b],[]⟩)
   (fun A R s=>s.heap.get? l=some { cls:=.type "list",dict:=dd,data:=.seq vs.toArray n,slots:=sl }/\s.heap.get? b=some { cls:=.type "list",dict:=dd2,data:=.seq ws.toArray n2,slots:=sl2 } /\
    R (.ok (.ret (.bool (Dv.lexLt ns ms)))) s):=by
 intro prog w A R s h
 obtain⟨hp,g,d,tk,os⟩:=s; obtain⟨hl,hb,h⟩:=h
 have f3:=AutoSeq1.sub_list_list
 wp_walk using wpAny_loadPart' hl,wpAny_loadPart' hb
 exact⟨plainId_quiet plain_eq_loop _,codeAny_builtin entry_eq_loop (by
  rw[Around.under_plainId plain_eq_loop _]
  exact lt_loop l b vs ws n n2 dd dd2 sl sl2 ns ms hv hw _ 0 rfl (Nat.zero_le _) (Nat.zero_le _) prog w A R _ ⟨hl,hb,by simpa using h⟩)⟩
end
section
variable {prog:Program}{w:World}{A:Around}{R':Result->Shared->Prop}{I:Addr}{fp wr:List Addr}{n:Nat}{P:Nat->Value->Prop}{St:Nat->Heap->Prop}
end
section
variable {C:Ctx}
end
section
variable {C:Ctx}{a:Expr}{f:EE}{pos:Pos}{kn:List String}{ad:String->Option Addr}
end
end Sd
namespace Dv
end Dv
namespace Sd
open PySem PySem.Spec PyProof.Rows L2 HT
open Dv (D R RL EE EL EI RI Sl Out SS)
open Classical in
section
variable {C:Ctx}{a b:Expr}{f g:EE}{pos:Pos}
end
end Sd
namespace Dv
noncomputable def look:List Int->List D->Int->Option D
 | k::ks,d::ds,j=>if k=j then some d else look ks ds j
 | _,_,_=>none
noncomputable def replL:List Int->List D->Int->D->List D
 | k::ks,d::ds,j,x=>(if k=j then x else d)::replL ks ds j x
 | _,ds,_,_=>ds
noncomputable def putL (ks:List Int)(ds:List D)(j:Int)(x:D):List D:=if j∈ks then replL ks ds j x else ds++[x]
noncomputable def putKs (ks:List Int)(j:Int):List Int:=if j∈ks then ks else ks++[j]
noncomputable def eDict0:EE:=fun _=>.ok (.dct [] []) true
noncomputable def eDix (a k:EE):EE:=fun ρ=>(a ρ).bind fun x f=>(k ρ).bind fun y _=>match x,y with
 | .dct ks ds,.int j=>match look ks ds j with
  | some d=>.ok d (f || scal d)
  | none=>.bad
 | _,_=>.bad
noncomputable def sDPut (is:List Nat)(i:Nat)(k e:EE):SS:=fun st=>match (give is st)[i]? with
 | some (.ow (.dct ks ds))=>match e (open_ (give is st)) with
  | .ok d _=>match k (open_ (give is st)) with
   | .ok (.int j) _=>if decide (ks.length<mx)&&decide (ks.length=ds.length) then .nx ((give is st).set i (.ow (.dct (putKs ks j) (putL ks ds j d)))) else .bad
   | .exc c=>.exc c st
   | _=>.bad
  | .exc c=>.exc c st
  | .bad=>.bad
 | _=>.bad
noncomputable def lstsFlat:List D->Bool
 | []=>true
 | .lst es::r=>flatL es&&lstsFlat r
 | _::_=>false
noncomputable def minI:Int->List Int->Int
 | a,[]=>a
 | a,b::r=>minI (if b<a then b else a) r
noncomputable def minLD:D->Bool->R
 | .lst ds,_=>match intsOf ds with
  | some (n::ns)=>.ok (.int (minI n ns)) true
  | _=>.bad
 | _,_=>.bad
noncomputable def sAppG (is:List Nat)(i:Nat)(e:EE):SS:=fun st=>match (give is st)[i]? with
 | some (.ow (.lst ds))=>match e (open_ (give is st)) with
  | .ok d _=>if decide (ds.length<mx) then .nx ((give is st).set i (.ow (.lst (ds++[d])))) else .bad
  | .exc c=>.exc c st
  | .bad=>.bad
 | _=>.bad
noncomputable def sSetD (i:Nat)(e:EE):SS:=fun st=>match e (all st) with
 | .ok d true=>.nx (st.set i (.dp d))
 | .ok _ false=>.bad
 | .exc c=>.exc c st
 | .bad=>.bad
noncomputable def shapeL:List D->Option Nat
 | []=>some 0
 | .lst ds::r=>if flatL ds then (shapeL r).map (max ds.length) else none
 | _::_=>none
noncomputable def shapeD:D->Option (Nat × Nat)
 | .lst ds=>(shapeL ds).map (ds.length,·)
 | .tup ds=>(shapeL ds).map (ds.length,·)
 | _=>none
noncomputable def junk:Sl->Option (Nat × Nat)
 | .dp d=>shapeD d
 | .jk n m=>some (n,m)
 | _=>none
end Dv
namespace Sd
open PySem PySem.Spec PyProof.Rows L2
open Dv (D R RL EE EL EI RI Sl Out SS)
section
variable {C:Ctx}{a b c e k:Expr}{f g h:EE}{F G:SS}{pos pos':Pos}{E:Ends}
end
section
variable {C:Ctx}{a b c e:Expr}{f g h:EE}{pos:Pos}
end
section
variable {C:Ctx}{a b c e:Expr}{f g h:EE}{F:SS}{pos pos':Pos}
end
theorem look_some {K:PySem.W.Frag}{H:Hp}{j:Int}{d:D}:∀ {ks:List Int} {ds:List D} {vs:List V},RpL K H ds vs->Dv.look ks ds j=some d->∃ v,valV ((ks.map (Sum.inl:Int->Key)).zip vs) (Sum.inl j)=some v/\Rp K H d v
 | [],ds,vs,h,e=>by simp[Dv.look] at e
 | k::ks,[],vs,h,e=>by simp[Dv.look] at e
 | k::ks,x::ds,vs,h,e=>by
  unfold RpL at h
  obtain⟨v,ws,rfl,h1,h2⟩:=h
  unfold Dv.look at e
  rw[List.map_cons,List.zip_cons_cons]
  by_cases hk:k=j
  ·rw[if_pos hk] at e
   cases e
   exact⟨v,valV_pos (by rw[hk]),h1⟩
  ·rw[if_neg hk] at e
   obtain⟨u,h3,h4⟩:=look_some h2 e
   exact⟨u,by rw[valV_neg (fun z=>hk (Sum.inl.inj z))]; exact h3,h4⟩
theorem look_none {K:PySem.W.Frag}{H:Hp}{j:Int}:∀ {ks:List Int} {ds:List D} {vs:List V},ks.length=ds.length->RpL K H ds vs->Dv.look ks ds j=none->valV ((ks.map (Sum.inl:Int->Key)).zip vs) (Sum.inl j)=none
 | [],ds,vs,_,h,e=>rfl
 | k::ks,[],vs,hl,h,e=>by cases hl
 | k::ks,x::ds,vs,hl,h,e=>by
  unfold RpL at h
  obtain⟨v,ws,rfl,h1,h2⟩:=h
  unfold Dv.look at e
  rw[List.map_cons,List.zip_cons_cons]
  by_cases hk:k=j
  ·rw[if_pos hk] at e; cases e
  ·rw[if_neg hk] at e
   rw[valV_neg (fun z=>hk (Sum.inl.inj z))]
   exact look_none (by simpa using hl) h2 e
theorem dput_repl {K:PySem.W.Frag}{H:Hp}{j:Int}{x:D}{v:V}(rx:Rp K H x v):∀ {ks:List Int} {ds:List D} {vs:List V},ks.length=ds.length->RpL K H ds vs ->
  ∃ ws,((ks.map (Sum.inl:Int->Key)).zip vs).map (fun kv=>if kv.1=Sum.inl j then (kv.1,v) else kv)=(ks.map (Sum.inl:Int->Key)).zip ws/\RpL K H (Dv.replL ks ds j x) ws/\(Dv.replL ks ds j x).length=ds.length
 | [],[],vs,_,h=>⟨[],rfl,by unfold Dv.replL; exact .nil,rfl⟩
 | [],_::_,vs,hl,h=>by cases hl
 | _::_,[],vs,hl,h=>by cases hl
 | k::ks,d::ds,vs,hl,h=>by
  unfold RpL at h
  obtain⟨u,us,rfl,h1,h2⟩:=h
  obtain⟨ws,e1,e2,e3⟩:=dput_repl rx (by simpa using hl) h2
  unfold Dv.replL
  rw[List.map_cons,List.zip_cons_cons,List.map_cons,e1]
  by_cases hk:k=j
  ·subst hk
   exact⟨v::ws,by simp,by rw[if_pos rfl]; exact .cons rx e2,by simp[e3]⟩
  ·have:¬ ((Sum.inl k:Key)=Sum.inl j):=fun z=>hk (Sum.inl.inj z)
   exact⟨u::ws,by simp[hk],by rw[if_neg hk]; exact .cons h1 e2,by simp[e3]⟩
theorem any_key {j:Int}:∀ {ks:List Int} {vs:List V},ks.length=vs.length->(((ks.map (Sum.inl:Int->Key)).zip vs).any fun kv=>decide (kv.1=Sum.inl j))=decide (j∈ks)
 | [],[],_=>by simp
 | [],_::_,h=>by cases h
 | _::_,[],h=>by cases h
 | k::ks,v::vs,h=>by
  rw[List.map_cons,List.zip_cons_cons,List.any_cons,any_key (by simpa using h)]
  by_cases hk:k=j
  ·subst hk; simp
  ·have h1:¬ ((Sum.inl k:Key)=Sum.inl j):=fun z=>hk (Sum.inl.inj z)
   have h2:¬ j=k:=fun z=>hk z.symm
   simp[h1,h2]
theorem dput_is {K:PySem.W.Frag}{H:Hp}{j:Int}{x:D}{v:V}{ks:List Int}{ds:List D}{vs:List V}(rx:Rp K H x v)(hl:ks.length=ds.length)(h:RpL K H ds vs) :
  ∃ ws,putK ((ks.map (Sum.inl:Int->Key)).zip vs) (Sum.inl j) v=((Dv.putKs ks j).map (Sum.inl:Int->Key)).zip ws/\RpL K H (Dv.putL ks ds j x) ws/\(Dv.putKs ks j).length=(Dv.putL ks ds j x).length:=by
 have hv:=h.length
 unfold putK Dv.putKs Dv.putL
 rw[any_key (by omega)]
 by_cases hj:j∈ks
 ·rw[if_pos (decide_eq_true hj),if_pos hj,if_pos hj]
  obtain⟨ws,e1,e2,e3⟩:=dput_repl (j:=j) rx hl h
  exact⟨ws,e1,e2,by rw[e3,hl]⟩
 ·rw[if_neg (by simp[hj]),if_neg hj,if_neg hj]
  refine⟨vs++[v],?_,h.append (.cons rx .nil),by simp[hl]⟩
  rw[List.map_append,List.zip_append (by simp; omega)]
  rfl
section
variable {C:Ctx}{a b c e k:Expr}{f g h:EE}{F G:SS}{pos pos':Pos}{E:Ends}
theorem se_dict0:SE C (.Dict [] [] pos) Dv.eDict0:=⟨_,pe_dnewK,fun σ H Hv ρ Q e s w p hp=>by
 refine w (.ref p) _ _ (Ext.new1 s hp (.dK [])) ?_ fun _=>?_
 ·unfold Rp; exact⟨p,[],rfl,rfl,.inl upd_same,.nil⟩
 ·unfold Rp; exact⟨p,[],rfl,rfl,.inl (Hnew.at hp _),.nil⟩⟩
theorem C_un1 (C:Ctx):C.X.A.units+1<cLine:=by have:=C.un; omega
theorem st_dput (is:List Nat){i:Nat}{x:Str}{px:Pos}(he:SE C e f)(hk:SE C k g)(hN:autoParam (C.X.N[i]?=some x) Au.h5._auto_1)(hv:autoParam (Vis C.X.env.scope x) Au.h6._auto_1)
    (hd:autoParam ((x == ("__debug__":Str))=false) Au.h2._auto_1) (hcd:autoParam ((x == ("__classdict__":Str))=false) Au.h2._auto_1)
    (hs:autoParam (swapsWith e (some (.Subscript (.Name x px) k pos')) pos.line C.X.env=pure false) Au.h5._auto_1):SSt C (.Assign [.Subscript (.Name x px) k pos'] e pos) (Dv.sDPut is i g f):=by
  obtain⟨t,p,q⟩:=he
  obtain⟨t2,p2,q2⟩:=hk
  refine⟨_,ps_dput (C_un1 C) (pe_var hN hv hd hcd) p2 p hs,fun Hv₀ H₀ E σ H st ⟨Hc0,O0,r0⟩ w=>?_⟩
  obtain⟨Hc,O,_,r⟩:=r0.give is
  unfold Dv.sDPut at w
  generalize hst:Dv.give is st=st1 at r w
  cases hi:st1[i]? with
  | none=>simp only[hi] at w; exact(show False from w).elim
  | some s =>
    simp only[hi] at w
    cases s with
    | ow d0 =>
     cases d0 with
     | dct ks ds =>
      refine q.open r (fun c hf Hc' H' x=>?_) (fun hf=>?_) fun d fr v Hc' H' hf x r' rp=>?_
      · simp only[hf] at w; exact w σ H' ⟨Hc0,O0,r0.grow x.hh x.nf⟩
      · simp only[hf] at w; exact w
      · simp only[hf] at w
        obtain⟨a,o,h1,h2,h3⟩:=r'.ow i _ hi
        refine⟨_,h1,?_⟩
        refine q2.open r' (fun c hg Hc2 H2 x2=>?_) (fun hg=>?_) fun d2 fr2 v2 Hc2 H2 hg x2 r2 rp2=>?_
        · simp only[hg] at w
          have xx:=x.trans x2
          exact w σ H2 ⟨Hc0,O0,r0.grow xx.hh xx.nf⟩
        · simp only[hg] at w; exact w
        · simp only[hg] at w
          cases d2 with
          | int j =>
            by_cases z:(decide (ks.length<Dv.mx)&&decide (ks.length=ds.length))=true
            · simp only[z,if_true] at w
              simp only[Bool.and_eq_true,decide_eq_true_eq] at z
              unfold Rp at rp2
              subst rp2
              obtain⟨vs,rfl,hl,h5⟩:=h3
              obtain⟨ws,e1,e2,e3⟩:=dput_is (j:=j) (rp.same x2.vv) hl (h5.same x2.vv)
              obtain⟨O',r3⟩:=r2.putDct hi h1 e3 e2
              rw[<- e1] at r3
              refine⟨a,_,rfl,.inl ⟨_,Sum.inl j,(r2.oh i a _ h2).1,rfl,?_,rfl⟩,w σ _ ⟨Hc2,O',r3⟩⟩
              have z5:ks.length<100000:=z.1
              have:=sizeLine_eq
              simp only[List.length_zip,List.length_map]
              omega
            · simp only[z] at w; exact(show False from w).elim
          | _=>exact(show False from w).elim
     | _=>exact(show False from w).elim
    | _=>exact(show False from w).elim
theorem st_appG (is:List Nat){i:Nat}{x:Str}{apos cpos:Pos}{px:Pos}(he:SE C e f)(hN:autoParam (C.X.N[i]?=some x) Au.h5._auto_1)(hv:autoParam (Vis C.X.env.scope x) Au.h6._auto_1)
    (hd:autoParam ((x == ("__debug__":Str))=false) Au.h2._auto_1) (hcd:autoParam ((x == ("__classdict__":Str))=false) Au.h2._auto_1) (hst:autoParam (starEach [e] C.X.env=[(false,eval e C.X.env)]) Au.h5._auto_1)
    (hbase:autoParam (attributeBase (.Name x px) "append" C.X.env (eval (.Name x px) C.X.env)=eval (.Name x px) C.X.env) Au.h5._auto_1)
    (hfew:autoParam (((backTo cpos (starEach [e] C.X.env)).all (fun x=>!x.1)&&(backToKw cpos (keywordEach [] C.X.env)).all (fun x=>x.1.isSome)
      && decide ([e].length+([]:List Keyword).length+(if ([]:List Keyword).isEmpty then 0 else 1)<30))=true) Au.h5._auto_1)
    (hline:autoParam ((apos.endLine == cpos.line)=true) Au.h5._auto_1)
    (hs:autoParam (swapsWith (.Call (.Attribute (.Name x px) "append" apos) [e] [] cpos) none pos.line C.X.env=pure false) Au.h5._auto_1) :
    SSt C (.Expr (.Call (.Attribute (.Name x px) "append" apos) [e] [] cpos) pos) (Dv.sAppG is i f):=by
  obtain⟨t,p,q⟩:=he
  refine⟨_,ps_expr (pe_bm PySem.F.plainAttrs_list PySem.F.slot_list_append PySem.F.type_list_append mt_append (pe_var hN hv hd hcd) (pa_cons p pa_nil hst) hbase hfew hline hst rfl) hs,fun Hv₀ H₀ E σ H st ⟨Hc0,O0,r0⟩ w=>?_⟩
  obtain⟨Hc,O,_,r⟩:=r0.give is
  unfold Dv.sAppG at w
  generalize hst:Dv.give is st=st1 at r w
  cases hi:st1[i]? with
  | none=>simp only[hi] at w; exact(show False from w).elim
  | some s =>
    simp only[hi] at w
    cases s with
    | ow d0 =>
     cases d0 with
     | lst ds =>
      obtain⟨a,vs,h1,h2,h5⟩:=r.own hi
      refine⟨_,h1,.inl ⟨rfl,vs,SqL.of h2⟩,?_⟩
      refine q.open r (fun c hf Hc' H' x=>?_) (fun hf=>?_) fun d fr v Hc' H' hf x r' rp=>?_
      · simp only[hf] at w; exact w σ H' ⟨Hc0,O0,r0.grow x.hh x.nf⟩
      · simp only[hf] at w; exact w
      · simp only[hf] at w
        by_cases z:decide (ds.length<Dv.mx)=true
        · simp only[z,if_true] at w
          rw[decide_eq_true_eq] at z
          obtain⟨O',r2⟩:=r'.put hi h1 ((h5.same x.vv).append (.cons rp .nil))
          refine⟨a,vs,v,rfl,rfl,x.hh _ _ h2,?_,w σ _ ⟨Hc',O',r2⟩⟩
          have:=h5.length
          have e1:(100000:Nat)<sizeLine:=by rw[sizeLine_eq]; decide
          have e2:ds.length<100000:=z
          omega
        · simp only[z] at w
          exact(show False from w).elim
     | _=>exact(show False from w).elim
    | _=>exact(show False from w).elim
theorem Hnew_of {H H':Hp}{b:Addr}{o:HO}(h:Hnew H H' b=some o):H b=none:=by
 unfold Hnew at h
 cases q:H b with
 | none=>rfl
 | some u=>rw[q] at h; cases h
theorem st_setD {i:Nat}{x:Str}(he:SE C e f)(hN:C.X.N.Nodup)(hi:C.X.N[i]?=some x)(hx:Loc C.X.env.scope x)(hs:autoParam (swapsWith e (some (.Name x pos')) pos.line C.X.env=pure false) Au.h5._auto_1)
  (hf:autoParam (C.X.fn x=true\/C.X.env.scope.names.lookup x=some .local) Au.h1._auto_1):SSt C (.Assign [.Name x pos'] e pos) (Dv.sSetD i f):=by
 obtain⟨t,p,q⟩:=he
 refine⟨_,ps_set hN hi hx p hs hf,fun Hv₀ H₀ E σ H st ⟨Hc,O,r⟩ w=>?_⟩
 unfold Dv.sSetD at w
 refine q.all r (fun c hf H' r'=>?_) (fun hf=>?_) fun d fr v Hv' H' hf x r' rp n=>?_
 ·rw[hf] at w; exact w σ H' ⟨Hc,O,r'⟩
 ·rw[hf] at w; exact w
 ·rw[hf] at w
  cases fr with
  | false=>exact(show False from w).elim
  | true =>
   refine w _ H' ⟨Hc,_,r'.setDp (R:=Hnew H H') (fun b o h=>⟨Hnew.sub b o h,r.ch.free (Hnew_of h),r.h0.free (Hnew_of h),fun j _=>?_⟩) (n rfl)⟩
   cases z:O j b with
   | none=>rfl
   | some u=>have:=(r.oh j b u z).1; rw[Hnew_of h] at this; cases this
theorem shape_items {R:Hp}:∀ {ds:List D} {vs:List V} {m:Nat},RpL [] R ds vs->Dv.shapeL ds=some m->∀ x∈vs,∃ b ws es,x=.ref b/\Rd R b (.lst ws)/\ws.length<=m/\Dv.flatL es=true/\RpL [] R es ws
 | [],vs,m,h,e,x,hx=>by unfold RpL at h; subst h; simp at hx
 | d::r,vs,m,h,e,x,hx=>by
  unfold RpL at h
  obtain⟨v,ws,rfl,h1,h2⟩:=h
  cases d with
  | lst es =>
   simp only[Dv.shapeL] at e
   by_cases hf:Dv.flatL es=true
   ·simp only[hf,if_true,Option.map_eq_some_iff] at e
    obtain⟨m',e1,rfl⟩:=e
    rcases List.mem_cons.mp hx with rfl|hx
    ·unfold Rp at h1
     obtain⟨b,us,rfl,h3,h4⟩:=h1
     refine⟨b,us,es,rfl,?_,?_,hf,h4⟩
     ·rcases h3 with h3|⟨its,n,e,_⟩
      ·exact h3
      ·simp at e
     ·rw[h4.length]; omega
    ·obtain⟨b,us,es',e2,e3,e4,e5⟩:=shape_items h2 e1 x hx
     exact⟨b,us,es',e2,e3,by omega,e5⟩
   ·simp only[hf] at e; cases e
  | _=>simp[Dv.shapeL] at e
theorem flat_no_ref {R:Hp}:∀ {es:List D} {vs:List V},Dv.flatL es=true->RpL [] R es vs->∀ x∈vs,∀ b,x≠.ref b
 | [],vs,_,h,x,hx,b=>by unfold RpL at h; subst h; simp at hx
 | d::r,vs,f,h,x,hx,b=>by
  unfold RpL at h
  obtain⟨v,ws,rfl,h1,h2⟩:=h
  unfold Dv.flatL at f
  rw[Bool.and_eq_true] at f
  rcases List.mem_cons.mp hx with rfl|hx
  ·cases d with
   | non=>unfold Rp at h1; subst h1; intro z; cases z
   | bl _=>unfold Rp at h1; subst h1; intro z; cases z
   | int _=>unfold Rp at h1; subst h1; intro z; cases z
   | str _=>unfold Rp at h1; subst h1; intro z; cases z
   | _=>simp[Dv.scal] at f
  ·exact flat_no_ref f.2 h2 x hx b
theorem jk_of {R:Hp}{d:D}{v:V}{n m:Nat}(nf:∀ b o u,R b≠some (.frz o u))(rp:Rp [] R d v)(e:Dv.shapeD d=some (n,m)):Jk R n m v:=by
 have rd:∀ {b:Addr} {o:HO},Rd R b o->R b=some o:=fun {b o} h=>by
  rcases h with h|⟨u,h⟩
  ·exact h
  ·exact absurd h (nf _ _ _)
 have key:∀ {ds:List D} {vs:List V} {t:Addr},RpL [] R ds vs->Dv.shapeL ds=some m->(R t=some (.lst vs)\/R t=some (.tup vs))->∀ x∈vs,∃ b ws,x=.ref b/\b≠t/\R b=some (.lst ws)/\ws.length<=m:=fun {ds vs t} h1 h2 h3 x hx=>by
  obtain⟨b,ws,es,rfl,e2,e3,e4,e5⟩:=shape_items h1 h2 x hx
  refine⟨b,ws,rfl,fun z=>?_,rd e2,e3⟩
  subst z
  have e6:=rd e2
  rcases h3 with h3|h3
  ·rw[h3] at e6
   cases e6
   exact flat_no_ref e4 e5 _ hx b rfl
  ·rw[h3] at e6; cases e6
 cases d with
 | lst ds =>
  simp only[Dv.shapeD,Option.map_eq_some_iff] at e
  obtain⟨m',e1,e2⟩:=e
  cases e2
  unfold Rp at rp
  obtain⟨t,vs,rfl,h1,h2⟩:=rp
  have h1':R t=some (.lst vs):=by
   rcases h1 with h1|⟨its,n,e,_⟩
   ·exact rd h1
   ·simp at e
  exact⟨t,vs,rfl,.inl h1',h2.length,key h2 e1 (.inl h1')⟩
 | tup ds =>
  simp only[Dv.shapeD,Option.map_eq_some_iff] at e
  obtain⟨m',e1,e2⟩:=e
  cases e2
  unfold Rp at rp
  obtain⟨t,vs,rfl,h1,h2⟩:=rp
  exact⟨t,vs,rfl,.inr (rd h1),h2.length,key h2 e1 (.inr (rd h1))⟩
 | _=>simp[Dv.shapeD] at e
theorem RelC.junk {K:PySem.W.Frag}{Hv₀ H₀ Hc H:Hp}{O:Nat->Hp}{st:Dv.St}{σ:St}{i n m:Nat}{s:Sl}(r:RelC K Hv₀ H₀ Hc O st σ H)(hi:st[i]?=some s)(e:Dv.junk s=some (n,m)):∃ v,σ[i]?=some (some v)/\Jk (O i) n m v:=by
 cases s with
 | dp d =>
  obtain⟨v,h1,h2⟩:=r.dp i d hi
  exact⟨v,h1,jk_of (fun b o u h=>r.nf b o u (r.oh i b _ h).2.2 (r.oh i b _ h).1) h2 e⟩
 | jk n' m' =>
  cases e
  exact r.jk i _ _ hi
 | _=>cases e
theorem jk_upd {R:Hp}{n m m':Nat}{t b:Addr}{vs us:List V}(hm:m<=m')(ht:R t=some (.lst vs)\/R t=some (.tup vs))(hn:vs.length=n)(hx:∀ x∈vs,∃ b ws,x=.ref b/\b≠t/\R b=some (.lst ws)/\ws.length<=m)(hb:b≠t)(hu:us.length<=m') :
  Jk (upd R b (.lst us)) n m' (.ref t):=by
 refine⟨t,vs,rfl,?_,hn,fun x h=>?_⟩
 ·rw[upd_ne (Ne.symm hb)]; exact ht
 ·obtain⟨c,ws,e1,e2,e3,e4⟩:=hx x h
  by_cases hc:c=b
  ·subst hc
   exact⟨c,us,e1,e2,upd_same,hu⟩
  ·exact⟨c,ws,e1,e2,by rw[upd_ne hc]; exact e3,by omega⟩
end
structure RoomH (k:Nat)(A:Around):Prop where
 dp:A.depth+3*k+5<recursionLimit
 un:A.units+16*k+200<cLine
theorem RoomH.deeper {k:Nat}{A:Around}(r:RoomH (k+1) A)(env:PySem.Env):RoomH k (A.deeper env) :=
 ⟨by have:=r.dp; show A.depth+1+3*k+5<_; omega,by have:=r.un; show A.units+3+16*k+200<_; omega⟩
theorem RoomH.depth {k:Nat}{A:Around}(r:RoomH k A):A.depth<recursionLimit:=by have:=r.dp; omega
theorem RoomH.units {k:Nat}{A:Around}(r:RoomH k A):A.units+64<cLine:=by have:=r.un; omega
structure FnOkH (P:Program)(w:World)(K:PySem.W.Frag)(mg:Str->Option Value)(base:Heap)(k:Nat)(f:Addr)(fd:FuncData)(ps:List Str)(sp:Sp):Prop where
 len:∀ vs H Q E,sp vs H Q E->vs.length=ps.length
 run:∀ (A:Around) (outer:List PySem.Env) (s:Shared) (H:Hp) (args:Args) (us:List Value) (vs:List V) (Q:VK),RoomH k A->Env0 P w K mg base A outer s H->BindsTo s fd args (ps.zip us)->Vals vs us->sp vs H Q E0 ->
  codeAny (model P w) A (.call (.ref f) args) (CR CX0 outer P w H s Q E0) s
section
variable {P:Program}{w:World}{K:PySem.W.Frag}{mg:Str->Option Value}{base:Heap}{CX:CXT}
end
section
variable {C:Ctx}{e:Expr}{es:List Expr}{fl:EL}{pos:Pos}
end
end Sd
namespace Dv
noncomputable def compGoT (m:Nat)(elt:EE)(cond:EE)(free:Env):List D->RL
 | []=>.ok [] true
 | d::r=>match d with
  | .tup es=>if es.length=m then match cond (es.map some++free) with
   | .ok (.bl true) _=>match elt (es.map some++free) with
    | .ok x f=>match compGoT m elt cond free r with
     | .ok xs g=>.ok (x::xs) (f&&g)
     | _=>.bad
    | _=>.bad
   | .ok (.bl false) _=>compGoT m elt cond free r
   | _=>.bad
   else .bad
  | _=>.bad
noncomputable def eCompT (m:Nat)(elt cond:EE)(is:List Nat)(it:EI):EE:=fun ρ=>match it ρ with
 | .ok ds _=>if ds.length<=mx then match compGoT m elt cond (pick ρ is) ds with
   | .ok xs f=>.ok (.lst xs) f
   | _=>.bad
  else .bad
 | .exc c=>.exc c
 | .bad=>.bad
end Dv
namespace Sd
open PySem PySem.Spec PyProof.Rows L2
open Dv (D R RL EE EL EI RI Sl Out SS)
inductive NamesAre:List Expr->List Str->Prop
 | nil:NamesAre [] []
 | cons {x:Str} {p:Pos} {es:List Expr} {ts:List Str}:NamesAre es ts->NamesAre (.Name x p::es) (x::ts)
theorem NamesAre.length {es:List Expr}{ts:List Str}(h:NamesAre es ts):es.length=ts.length:=by
 induction h with
 | nil=>rfl
 | cons _ ih=>rw[List.length_cons,List.length_cons,ih]
noncomputable def tgN:Nat->Nat->TGs
 | _,0=>gNil
 | k,n+1=>gCons (gName k) (tgN (k+1) n)
theorem tgN_ok:∀ (n k:Nat) (vs:List V) (pre os fr:St) (H:Hp) (Q:St->Hp->Prop),vs.length=n->os.length=n->pre.length=k->Q (pre++vs.map some++fr) H->tgN k n vs (pre++os++fr) H Q
 | 0,k,vs,pre,os,fr,H,Q,h1,h2,h3,q=>by
  have e1:=List.eq_nil_of_length_eq_zero h1
  have e2:=List.eq_nil_of_length_eq_zero h2
  subst e1 e2
  exact⟨rfl,q⟩
 | n+1,k,v::vs,pre,o::os,fr,H,Q,h1,h2,h3,q=>by
  refine⟨v,vs,rfl,?_⟩
  show tgN (k+1) n vs ((pre++(o::os)++fr).set k (some v)) H Q
  have e:(pre++(o::os)++fr).set k (some v)=(pre++[some v])++os++fr:=by
   subst h3
   simp[List.set_append]
  rw[e]
  exact tgN_ok n (k+1) vs (pre++[some v]) os fr H Q (by simpa using h1) (by simpa using h2) (by simp[h3]) (by simpa using q)
 | n+1,k,[],pre,os,fr,H,Q,h1,h2,h3,q=>by cases h1
 | n+1,k,v::vs,pre,[],fr,H,Q,h1,h2,h3,q=>by cases h2
theorem pgs_names {X:Cx}(hN:X.N.Nodup){es:List Expr}{ts:List Str}(na:NamesAre es ts):∀ k:Nat,(∀ (j:Nat) (t:Str),ts[j]?=some t->X.N[k+j]?=some t/\X.env.scope.names.lookup t=some .local)->PGs X es (tgN k es.length):=by
 induction na with
 | nil=>intro k _; exact pgs_nil
 | @cons x p es ts na ih =>
  intro k h
  obtain⟨h1,h2⟩:=h 0 x rfl
  exact pgs_cons (pg_name hN h1 (.inl h2) (.inr h2)) (ih (k+1) fun j t ht=>by
   have:=h (j+1) t (by simpa using ht)
   have e:k+1+j=k+(j+1):=by omega
   rw[e]; exact this) rfl
structure CompNamesT (X:Cx)(scope:Scope)(ts:List Str)(fs:List Str)(is:List Nat):Prop where
 kind:scope.kind=.function
 cell:∀ y∈scope.names,y.2≠.cell
 names:∀ y∈scope.names,y.2=.local->scope.names.lookup y.1=some .local
 tgt:∀ t∈ts,scope.names.lookup t=some .local
 nd:(ts++fs).Nodup
 free:∀ y∈scope.names,y.2=.free->X.env.kindOf y.1=some .cell\/X.env.kindOf y.1=some .free
 fsf:∀ y∈fs,scope.names.lookup y=some .free
 len:is.length=fs.length
 at':∀ (j:Nat) (y:Str),fs[j]?=some y->∃ i,is[j]?=some i/\X.N[i]?=some y
theorem env_compT {K:PySem.W.Frag}{Hv:Hp}{ρ:Dv.Env}{σ:St}{is:List Nat}{ds:List D}{vs:List V}(e:EnvR K Hv ρ σ)(r:RpL K Hv ds vs):EnvR K Hv (ds.map some++Dv.pick ρ is) (vs.map some++freeV σ is):=fun j x h=>by
 have hl:=r.length
 by_cases hj:j<ds.length
 ·rw[List.getElem?_append_left (by simpa using hj),List.getElem?_map] at h
  cases q:ds[j]? with
  | none=>rw[q] at h; cases h
  | some d =>
   rw[q] at h
   cases h
   obtain⟨v,h1,h2⟩:=r.get q
   exact⟨v,by rw[List.getElem?_append_left (by simp; omega),List.getElem?_map,h1]; rfl,h2⟩
 ·rw[List.getElem?_append_right (by simp; omega),List.length_map] at h
  obtain⟨i,h1,h2⟩:=pick_get h
  obtain⟨u,h3,h4⟩:=e i x h2
  exact⟨u,by rw[List.getElem?_append_right (by simp; omega),List.length_map,hl]; exact freeV_get h1 h3,h4⟩
theorem comp_cxokT {X:Cx}{pins:List (Addr × Obj)}{σ:St}{H1:Hp}{s2:Shared}{scope:Scope}{ts:List Str}{fs:List Str}{is:List Nat}{cl:List (Str × Addr)}{fp:List Addr}{L:Addr}(I:Inv X pins σ H1 s2)(S:CompNamesT X scope ts fs is)
  (clsub:∀ x c,cl.lookup x=some c->X.env.cells.lookup x=some c) (clhas:∀ y∈scope.names,y.2=.free->∃ c,cl.lookup y.1=some c) (f2:∀ b∈fp,FpOk X pins H1 b) (fin:∀ b∈fp,b<s2.heap.objs.size) (hL:s2.heap.objs.size<=L) :
  (compCx X (ts++fs) scope cl L s2 H1 fp).Ok:=by
 refine⟨I.ok.mod,S.kind,I.ok.glob,I.ok.blt,hL,fun y z c h1 h2=>I.ok.inj y z c (clsub y c h1) (clsub z c h2),fun y hy=>?_,fun y c h=>(by cases h),I.ok.hd,I.ok.frames,.inl rfl,fun b hb=>⟨?_,fun y c h=>?_⟩,I.bs,Nat.le_trans I.ok.bsz I.sz,fun b o e hb=>?_,fun b hb hf=>?_,I.stack,I.stkFree⟩
 ·have:(y,NameKind.free)∈scope.names:=by
   rcases hy with hy|hy
   ·exact of_relabel (env:=X.env) S.cell (.inl rfl) hy
   ·exact of_relabel (env:=X.env) S.cell (.inr rfl) hy
  exact clhas _ this rfl
 ·exact Nat.ne_of_lt (Nat.lt_of_lt_of_le (fin b hb) hL)
 ·exact(f2 b hb).2.2.2.2.1 y c (clsub y c h)
 ·obtain⟨_,_,_,h4,_⟩:=f2 b hb
  rcases h4 with h4|h4
  ·exact I.ok.noex b o e h4
  ·exact absurd (Heap.lt_size (I.ok.bs b o e).1) (Nat.not_lt.mpr h4)
 ·obtain⟨_,h2,h3,_⟩:=f2 b hb
  rcases List.mem_cons.mp (I.stkSub b hf) with e|e
  ·exact h2 e
  ·exact h3 e
theorem comp_invT {X:Cx}{pins:List (Addr × Obj)}{σ:St}{H1:Hp}{s2:Shared}{scope:Scope}{ts:List Str}{fs:List Str}{is:List Nat}{cl:List (Str × Addr)}{fp:List Addr}{L:Addr}{h1:Heap}{t1:Nat}{m:Str->Option Value}(I:Inv X pins σ H1 s2)(S:CompNamesT X scope ts fs is)
  (clsub:∀ x c,cl.lookup x=some c->X.env.cells.lookup x=some c) (clhas:∀ y∈scope.names,y.2=.free->∃ c,cl.lookup y.1=some c) (f2:∀ b∈fp,FpOk X pins H1 b) (fin:∀ b∈fp,b<s2.heap.objs.size) (hL:s2.heap.objs.size<=L)
  (old:∀ b o,s2.heap.get? b=some o->h1.get? b=some o) (hn:h1.Ns L m):Inv (compCx X (ts++fs) scope cl L s2 H1 fp) [] (List.replicate ts.length none++freeV σ is) H1 { s2 with heap:=h1,toks:=t1 }:=by
 refine⟨comp_cxokT I S clsub clhas f2 fin hL,rfl,I.bare,Un.kept old,⟨m,hn,fun i y v e1 e2 e3=>?_⟩,fun y c e=>?_,I.hok.fresh hL,fun y c e=>I.freeC y c (clsub y c e),fun p hp=>absurd (show p∈([]:List (Addr × Obj)) from hp) (by simp),I.hok.kept old,?_⟩
 ·by_cases hi:i<ts.length
  ·have e2':(List.replicate ts.length none++freeV σ is)[i]?=some (some v):=e2
   rw[List.getElem?_append_left (by simpa using hi),List.getElem?_replicate,if_pos hi] at e2'
   cases e2'
  ·have e1':fs[i-ts.length]?=some y:=by
    have e1'':(ts++fs)[i]?=some y:=e1
    rw[List.getElem?_append_right (by omega)] at e1''
    exact e1''
   have e2':(List.replicate ts.length none++freeV σ is)[i]?=some (some v):=e2
   rw[List.getElem?_append_right (by simp; omega),List.length_replicate] at e2'
   generalize i-ts.length=j at e1' e2'
   obtain⟨i,h1',h2'⟩:=of_freeV e2'
   obtain⟨i',h3,h4⟩:=S.at' j y e1'
   rw[h1'] at h3
   cases h3
   have hfr:=S.fsf y (List.mem_of_getElem? e1')
   have hk:=S.free (y,.free) (mem_lookup hfr) rfl
   obtain⟨mm,hm,hl⟩:=I.loc
   have vis:Vis X.env.scope y:=by
    rcases hk with k|k
    ·exact .inr (.inl k)
    ·exact .inr (.inr k)
   obtain⟨u,r,l⟩:=hl i y v h4 h2' vis
   refine⟨u,r,?_⟩
   rcases l with ⟨k,_⟩|⟨_,c,hc,hcell⟩
   ·have k:X.env.kindOf y=some .local:=k
    rcases hk with k' | k' <;>rw[k] at k' <;>cases k'
   ·obtain⟨c',hc'⟩:=clhas (y,.free) (mem_lookup hfr) rfl
    have:=clsub y c' hc'
    rw[hc] at this
    cases this
    obtain⟨oc,hoc,hod⟩:=hcell
    refine .inr ⟨?_,c,hc',oc,old c oc hoc,hod⟩
    exact relabel_free (env:=X.env) hfr
 ·obtain⟨v,oc,hoc,hod⟩:=I.cell y c (clsub y c e)
  exact⟨v,oc,old c oc hoc,hod⟩
 ·show (List.replicate ts.length none++freeV σ is).length=(ts++fs).length
  rw[List.length_append,List.length_append,List.length_replicate]
  unfold freeV
  rw[List.length_map,S.len]
section
variable {C:Ctx}{elt iter:Expr}{es:List Expr}{ts:List Str}{kt:Nat}{px pos:Pos}{ifs:List Expr}{scope:Scope}{fs:List Str}{is:List Nat}{fi:EI}{fe fc:EE}
structure CompAtT (C:Ctx)(ts:List Str)(fs:List Str)(is:List Nat)(scope:Scope)(cl:List (Str × Addr))(L Da:Addr)(s2:Shared)(H1 Hv1:Hp)(fp:List Addr)(tn:Nat->Heap->Prop)(σ:St)(ds:List D)(i:Nat)(os:St)(vs:List V)(xs:List D)(f1:Bool)(Hn Hvn:Hp)(s:Shared):Prop where
 le:i<=ds.length
 ol:os.length=ts.length
 inv:Inv (compCx C.X (ts++fs) scope cl L s2 H1 fp) [] (os++freeV σ is) Hn s
 at_:tn i s.heap
 fpn:∀ b∈fp,Hn b=none
 obj:∃ (its:List Value) (ne:Nat),s.heap.get? Da=some { cls:=.type "list",data:=.seq its.toArray ne }/\Vals vs its
 dn:Hn Da=none
 few:vs.length<=i
 ext:Ext Hv1 H1 Hvn Hn
 rp:RpL C.X.K Hvn xs vs
 fr:f1=true->RpL [] (Hnew H1 Hn) xs vs
theorem comp_endT {cl:List (Str × Addr)}{L Da:Addr}{s2:Shared}{H1:Hp}{fp:List Addr}{σ:St}{pins:List (Addr × Obj)}{its:List Value}{ne:Nat}{vs:List V}{Hn:Hp}{s1:Shared}{os:St}{h':Heap}
  (I2:Inv C.X pins σ H1 s2) (f2:∀ b∈fp,FpOk C.X pins H1 b) (eD:Da=s2.heap.objs.size) (eL:L=s2.heap.objs.size+1)
  (I:Inv (compCx C.X (ts++fs) scope cl L s2 H1 fp) [] (os++freeV σ is) Hn s1) (obj:s1.heap.get? Da=some { cls:=.type "list",data:=.seq its.toArray ne }) (rv:Vals vs its) (dn:Hn Da=none) (few:vs.length<=sizeLine)
  (sb:∀ b,b≠L->h'.get? b=s1.heap.get? b):Inv C.X pins σ (upd Hn Da (.lst vs)) { s1 with heap:=h' }:=by
 have lt:∀ b o,s2.heap.get? b=some o->b≠Da/\b≠L:=fun b o e=>by
  have hlt:=Heap.lt_size e
  rw[eD,eL]
  exact⟨Nat.ne_of_lt hlt,Nat.ne_of_lt (Nat.lt_succ_of_lt hlt)⟩
 have hDL:Da≠L:=by rw[eD,eL]; exact Nat.ne_of_lt (Nat.lt_succ_self _)
 have kp:∀ b o,b≠L->s1.heap.get? b=some o->h'.get? b=some o:=fun b o hb e=>(sb b hb).trans e
 refine I2.call' (s':={ s1 with heap:=h' }) (ch:=fp) I.os ⟨fun b ob e n hb hx=>?_,fun b ob e n hb hx=>?_,fun b ob e n hx=>?_,fun b ob e hx=>?_,fun b us e=>?_,fun b ob u e=>?_,fun b ps e=>?_⟩ ?_ I.bare fun b hb=>⟨(f2 b hb).2.2.2.1,(f2 b hb).2.1,(f2 b hb).2.2.2.2.1,(f2 b hb).2.2.2.2.2⟩
 ·exact kp b ob (lt b ob e).2 (I.base.keep b ob e n hb hx)
 ·obtain⟨sl,h1⟩:=I.base.slot b ob e n hb hx
  exact⟨sl,kp b _ (lt b ob e).2 h1⟩
 ·rw[upd_ne (lt b ob e).1]; exact I.base.free b ob e n hx
 ·obtain⟨o',h1⟩:=I.base.there b ob e hx
  exact⟨o',kp b _ (lt b ob e).2 h1⟩
 ·have h1:=I.base.tups b us e
  rw[upd_ne (ne_of_none h1 dn)]; exact h1
 ·have h1:=I.base.frzs b ob u e
  rw[upd_ne (ne_of_none h1 dn)]; exact h1
 ·obtain⟨more,h1⟩:=I.base.tbls b ps e
  exact⟨more,by rw[upd_ne (ne_of_none h1 dn)]; exact h1⟩
 ·exact hok_track (hok_but I.hok I.free kp) dn ⟨few,its,ne,rv,kp Da _ hDL obj⟩
theorem compGoT_cons {m:Nat}{elt cond:EE}{free:Dv.Env}{d:D}{r:List D}{xs:List D}{f:Bool}(h:Dv.compGoT m elt cond free (d::r)=.ok xs f) :
  ∃ es,d=.tup es/\es.length=m/\((∃ g x fx xs' f',cond (es.map some++free)=.ok (.bl true) g/\elt (es.map some++free)=.ok x fx/\Dv.compGoT m elt cond free r=.ok xs' f'/\xs=x::xs'/\f=(fx&&f')) \/
  (∃ g,cond (es.map some++free)=.ok (.bl false) g/\Dv.compGoT m elt cond free r=.ok xs f)):=by
 unfold Dv.compGoT at h
 cases d with
 | tup es =>
  by_cases hm:es.length=m
  ·refine⟨es,rfl,hm,?_⟩
   simp only[hm,if_true] at h
   cases hc:cond (es.map some++free) with
   | bad=>simp only[hc] at h; cases h
   | exc c=>simp only[hc] at h; cases h
   | ok b g =>
    cases b with
    | bl b =>
     cases b with
     | true =>
      simp only[hc] at h
      cases he:elt (es.map some++free) with
      | bad=>simp only[he] at h; cases h
      | exc c=>simp only[he] at h; cases h
      | ok x fx =>
       simp only[he] at h
       cases hr:Dv.compGoT m elt cond free r with
       | bad=>simp only[hr] at h; cases h
       | exc c=>simp only[hr] at h; cases h
       | ok xs' f' =>
        simp only[hr] at h
        cases h
        exact .inl ⟨g,x,fx,xs',f',rfl,rfl,rfl,rfl,rfl⟩
     | false=>simp only[hc] at h; exact .inr ⟨g,rfl,h⟩
    | _=>simp only[hc] at h; cases h
  ·simp only[hm,if_false] at h; cases h
 | _=>cases h
theorem comp_coreT {pins:List (Addr × Obj)}{s:Shared}{σ:St}{H Hv:Hp}{ρ:Dv.Env}{Q:VK}{use:Option (Value->Sem Unit)}{Q':Value->Shared->Prop}{pos':Pos}(hclm:C.X.calm=true)(S:CompNamesT C.X scope ts fs is)(na:NamesAre es ts)(hn:∀ env,(assignEach es env).length=es.length)(hst:∀ env,(assignEach es env).findIdx? (·.1)=none)(hi:SI C (.Tuple es kt px) iter fi)(he:∀ cl L s₀ H₀ ex,SE (compCtx C (ts++fs) scope cl L s₀ H₀ ex) elt fe)(hc:∀ cl L s₀ H₀ ex,STs (compCtx C (ts++fs) scope cl L s₀ H₀ ex) ifs fc)
  (hs:∀ v,foldedSetIterable iter C.X.env v=pure v) (I:Inv C.X pins σ H s) (er:EnvR C.X.K Hv ρ σ) (sv:Same Hv H) (ok:Ok C.X.K Hv H (C.W σ) C.cls (Dv.eCompT ts.length fe fc is fi ρ) Q)
  (hfin:∀ Da L s5,CompFin C pins σ Q Da L s5->compPost (model C.X.prog C.X.w) C.X.A C.X.xe use Q' (.ref Da) L (.ok .next) s5) :
  wpAny (model C.X.prog C.X.w) C.X.A (comprehension (.ListComp elt [⟨.Tuple es kt px,iter,ifs,0⟩] scope pos) scope C.X.env pos' (newList []) false (eval iter C.X.env) use) Q' C.X.xe s:=by
 obtain⟨wi,pi,qi⟩:=hi
 obtain⟨cl,hcl,clsub,clhas⟩:=closure_of (env:=C.X.env) (scope:=scope) fun y hy hf=>I.ok.has y.1 (S.free y hy hf)
 have h0:wi σ H (fun J H1=>∃ Hv1 ds xs fr,Ext Hv H Hv1 H1/\Wlk C.X.K J Hv1 ds/\ds.length<=Dv.mx/\Dv.compGoT ts.length fe fc (Dv.pick ρ is) ds=.ok xs fr/\Ok C.X.K Hv H (C.W σ) C.cls (.ok (.lst xs) fr) Q):=by
  refine qi σ H Hv ρ _ er sv ?_
  unfold Dv.eCompT at ok
  cases hf:fi ρ with
  | bad=>simp only[hf] at ok; exact ok
  | exc c=>simp only[hf] at ok; exact ok
  | ok ds g =>
   simp only[hf] at ok
   by_cases hz:ds.length<=Dv.mx
   ·simp only[hz,if_true] at ok
    cases hgo:Dv.compGoT ts.length fe fc (Dv.pick ρ is) ds with
    | bad=>simp only[hgo] at ok; exact(show False from ok).elim
    | exc c=>simp only[hgo] at ok; exact(show False from ok).elim
    | ok xs fr =>
     simp only[hgo] at ok
     exact fun J Hv1 H1 x1 wl=>⟨Hv1,ds,xs,fr,x1,wl,hz,hgo,ok⟩
   ·simp only[hz,if_false] at ok
    exact(show False from ok).elim
 refine wpAny_comprehension_free (use:=use) rfl hs hcl S.kind S.names (wpAny_mono (pi pins s σ H _ I h0) (fun v s1 h1=>wpAny_mono h1 (fun itv s2 h2=>?_) fun _ _ z=>z) fun _ _ z=>z)
 obtain⟨it,fp,tn,J,H1,rfl,I2,T,st2,f2,Hv1,ds,xs,fr,x1,wl,hz,hgo,okE⟩:=h2
 clear ok
 have fin:∀ b∈fp,b<s2.heap.objs.size:=fun b hb=>by
  obtain⟨o,e,_⟩:=T.obj 0 _ st2 b hb
  exact Heap.lt_size e
 refine wpAny_newObj_type (wpAny_newFunctionEnv S.cell (by intro y hy; simp at hy) (fun h1 hns hsb=>?_) S.kind)
 dsimp only at hns hsb ⊢
 generalize hH2:s2.heap.push { cls:=.type "list",dict:=none,data:=.seq ([]:List Value).toArray }=G2 at hns hsb ⊢
 have hL:G2.objs.size=s2.heap.objs.size+1:=by rw[<- hH2,Heap.size_push]
 generalize eL:G2.objs.size=L at hns hsb ⊢
 rw[eL] at hL
 have old:∀ b o,s2.heap.get? b=some o->h1.get? b=some o:=fun b o e=>by
  have hlt:=Heap.lt_size e
  exact hsb.extBut b o (by rw[hL]; exact Nat.ne_of_lt (Nat.lt_succ_of_lt hlt)) (Heap.get?_push_of_some _ (hH2▸Heap.get?_push_of_some _ e))
 have hacc:h1.get? s2.heap.objs.size=some { cls:=.type "list",data:=.seq ([]:List Value).toArray 0 }:=hsb.extBut _ _ (by rw[hL]; exact Nat.ne_of_lt (Nat.lt_succ_self _)) (Heap.get?_push_of_some _ (hH2▸Heap.get?_push_size _ rfl))
 generalize eD:s2.heap.objs.size=Da at hacc hL ⊢
 have hDfp:Da∉fp:=fun hb=>by
  have:=fin Da hb
  rw[eD] at this
  exact Nat.lt_irrefl _ this
 have hDL:Da≠L:=by rw[hL]; exact Nat.ne_of_lt (Nat.lt_succ_self _)
 have hsL:s2.heap.objs.size<=L:=by rw[hL,eD]; exact Nat.le_succ _
 have hsD:s2.heap.objs.size<=Da:=Nat.le_of_eq eD
 obtain⟨te,pe,qe⟩:=he cl L s2 H1 fp
 obtain⟨tt,pt,qt⟩:=hc cl L s2 H1 fp
 have hDfs:Da∉frs C.X.stack:=fun hb=>by
  obtain⟨_,ob,hob,_⟩:=I2.stack.mem hb
  have:=Heap.lt_size hob
  rw[eD] at this
  exact Nat.lt_irrefl _ this
 have hcalm:(compCx C.X (ts++fs) scope cl L s2 H1 fp).calm=true:=hclm
 have start:CompAtT C ts fs is scope cl L Da s2 H1 Hv1 fp tn σ ds 0 (List.replicate ts.length none) [] [] true H1 Hv1 { s2 with heap:=h1,toks:=s2.toks+([]:List (Str × Value)).length } :=
  ⟨Nat.zero_le _,by simp,comp_invT I2 S clsub clhas f2 fin hsL old hns,T.keep 0 _ _ st2 fun b hb o e=>old b o e,fun b hb=>(f2 b hb).1,⟨[],0,hacc,.nil⟩,I2.hok.fresh hsD,Nat.le_refl _,.refl x1.vh,.nil,fun _=>.nil⟩
 have loop:∀ (T0:Result->Shared->Prop) (s4:Shared),(∀ s',CompFin C pins σ Q Da L s'->T0 (.ok .next) s')->CompAtT C ts fs is scope cl L Da s2 H1 Hv1 fp tn σ ds 0 (List.replicate ts.length none) [] [] true H1 Hv1 s4 ->
   codeAny (model C.X.prog C.X.w) C.X.A (.compLoop (.ListComp elt [⟨.Tuple es kt px,iter,ifs,0⟩] scope pos) 0 (.ref it) (.ref Da) (compEnvC scope cl L C.X.env)) T0 s4:=by
  intro T0 s4 hT hst'
  refine comp_turns (fun n s=>∃ i os vs xs1 f1 xs2 fr2 Hn Hvn,n=ds.length-i/\CompAtT C ts fs is scope cl L Da s2 H1 Hv1 fp tn σ ds i os vs xs1 f1 Hn Hvn s/\Dv.compGoT ts.length fe fc (Dv.pick ρ is) (ds.drop i)=.ok xs2 fr2/\xs=xs1++xs2/\fr=(f1&&fr2)) ?_ ds.length ⟨0,List.replicate ts.length none,[],[],true,xs,fr,H1,Hv1,rfl,hst',hgo,rfl,by simp⟩
  rintro n s ⟨i,os,vs,xs1,f1,xs2,fr2,Hn,Hvn,rfl,A,hg2,hxs,hfr⟩
  obtain⟨its,ne,hob,rv⟩:=A.obj
  have I1:Inv (compCx C.X (ts++fs) scope cl L s2 H1 fp) [(Da,{ cls:=.type "list",data:=.seq its.toArray ne })] (os++freeV σ is) Hn s:=A.inv.pins_of fun p hp=>by
   have e:p=(Da,({ cls:=.type "list",data:=.seq its.toArray ne }:Obj)):=by simpa using hp
   subst e
   exact⟨hob,A.dn,hDL,hDfs,fun v z=>by cases z⟩
  have hfp:∀ Hx:Hp,(∀ b∈fp,Hx b=none)->∀ b∈fp,FpOk (compCx C.X (ts++fs) scope cl L s2 H1 fp) [(Da,{ cls:=.type "list",data:=.seq its.toArray ne })] Hx b:=fun Hx hx b hb=>by
   refine⟨hx b hb,?_,fun hf=>?_,.inl hb,fun y c e=>(f2 b hb).2.2.2.2.1 y c (clsub y c e),fun p hp=>?_⟩
   ·have:=fin b hb
    exact fun z=>by
     have z':b=L:=z
     rw[z'] at this
     exact absurd this (Nat.not_lt.mpr hsL)
   ·obtain⟨_,ob,hob',_⟩:=I2.stack.mem hf
    rcases List.mem_cons.mp (I2.stkSub b hf) with e|e
    ·exact(f2 b hb).2.1 e
    ·exact(f2 b hb).2.2.1 e
   ·have e:p=(Da,({ cls:=.type "list",data:=.seq its.toArray ne }:Obj)):=by simpa using (show p∈[]++[(Da,({ cls:=.type "list",data:=.seq its.toArray ne }:Obj))] from hp)
    subst e
    exact fun z=>hDfp (by rw[show Da=b from z]; exact hb)
  obtain⟨w1,w2⟩:=wl i Hn (A.ext.vv.trans A.ext.vh)
  by_cases hlt:i<ds.length
  ·have hd:ds[i]?=some ds[i]:=by simp[hlt]
   have e1:ds.drop i=ds[i]::ds.drop (i+1):=List.drop_eq_getElem_cons hlt
   rw[e1] at hg2
   generalize ds[i]=d at hd e1 hg2
   obtain⟨go,yl⟩:=w1 d hd
   refine wpAny_mono (T.item (compCx C.X (ts++fs) scope cl L s2 H1 fp) rfl rfl rfl hcalm i _ s _ Hn (fun _ _=>False) I1 (hfp Hn A.fpn) A.at_ go) (fun r s5 h5=>?_) fun _ _ z=>z
   obtain⟨u,rfl,h5⟩:=h5
   refine wpAny_mono h5 (fun _ s6 h6=>?_) fun _ _ z=>z
   obtain⟨xv,H6,I6,ru,y6,tn6,fr6⟩:=h6
   obtain⟨Hv6,x6,rp6⟩:=yl xv H6 y6
   obtain⟨Hvm,xm,sm⟩:=ext_merge A.ext x6
   have I6p:=I6.pinned (fp:=fp) (hfp H6 fr6) (T.obj _ _ tn6)
   have dn6:H6 Da=none:=(I6.pin (Da,{ cls:=.type "list",data:=.seq its.toArray ne }) (List.mem_append_right _ (by simp))).2.1
   obtain⟨des,ed,hdl,hgo3⟩:=compGoT_cons hg2
   subst ed
   have rp6':=rp6
   unfold Rp at rp6'
   obtain⟨ta,ws,rfl,hta,hws⟩:=rp6'
   have hwl:ws.length=ts.length:=by rw[hws.length,hdl]
   have hesl:es.length=ts.length:=na.length
   have hg:=pg_tup (X:=compCx C.X (ts++fs) scope cl L s2 H1 fp) (pos:=px) (k:=kt) hcalm (pgs_names (X:=compCx C.X (ts++fs) scope cl L s2 H1 fp) S.nd na 0 (fun j t ht=>⟨by
    show (ts++fs)[0+j]?=some t
    rw[Nat.zero_add,List.getElem?_append_left (List.getElem?_eq_some_iff.mp ht).1]; exact ht,lookup_relabel_local (S.tgt t (List.mem_of_getElem? ht))⟩)) (hn _) (hst _)
   refine wpAny_mono (hg _ s6 _ H6 (.ref ta) u (fun σ' H'=>σ'=ws.map some++freeV σ is/\H'=H6) I6p ru ⟨ta,ws,rfl,.inl (Rd.same x6.vh hta),by rw[hwl,hesl],?_⟩) (fun _ s7 h7=>?_) fun _ _ z=>z
   ·rw[hesl]
    have:=tgN_ok ts.length 0 ws [] os (freeV σ is) H6 (fun σ' H'=>σ'=ws.map some++freeV σ is/\H'=H6) hwl A.ol rfl ⟨by simp,rfl⟩
    simpa using this
   obtain⟨σ7,H7,I7,e7,e7'⟩:=h7
   subst e7 e7'
   have er7:EnvR C.X.K Hvm (des.map some++Dv.pick ρ is) (ws.map some++freeV σ is):=env_compT (er.same ((x1.vv.trans A.ext.vv).trans xm.vv)) ((hws.same sm))
   have back:∀ {s':Shared} {H':Hp} {σ':St},Inv (compCx C.X (ts++fs) scope cl L s2 H1 fp) ([(Da,{ cls:=.type "list",data:=.seq its.toArray ne })]++pinsAt fp s6.heap) σ' H' s'->tn (i+1) s'.heap/\(∀ b∈fp,H' b=none)/\s'.heap.get? Da=some { cls:=.type "list",data:=.seq its.toArray ne }/\H' Da=none:=fun {s' H' σ'} I'=>by
    refine⟨T.keep _ _ _ tn6 fun b hb o e=>(I'.pin (b,o) (List.mem_append_right _ (List.mem_append_right _ (mem_pinsAt hb e)))).1,fun b hb=>?_,?_,?_⟩
    ·obtain⟨o,e,_⟩:=T.obj _ _ tn6 b hb
     exact(I'.pin (b,o) (List.mem_append_right _ (List.mem_append_right _ (mem_pinsAt hb e)))).2.1
    ·exact(I'.pin (Da,{ cls:=.type "list",data:=.seq its.toArray ne }) (List.mem_append_right _ (List.mem_append_left _ (by simp)))).1
    ·exact(I'.pin (Da,{ cls:=.type "list",data:=.seq its.toArray ne }) (List.mem_append_right _ (List.mem_append_left _ (by simp)))).2.1
   rcases hgo3 with ⟨g,xd,fx,xs',f',hcond,helt,hrest,exs,ef⟩|⟨g,hcond,hrest⟩
   ·-- the item is taken
    refine wpAny_mono (pt _ s7 _ H7 (fun b H'=>b=true/\∃ Hvq,Ext Hvm H7 Hvq H') I7 (qt _ H7 Hvm (des.map some++Dv.pick ρ is) _ er7 xm.vh ?_)) (fun okb s8 h8=>?_) fun _ _ z=>z
    ·rw[hcond]
     intro v Hv' H' xx rpb _
     unfold Rp at rpb
     exact⟨true,rpb,rfl,Hv',xx⟩
    obtain⟨H8,I8,rfl,Hv8,x8⟩:=h8
    rw[if_pos rfl]
    refine wpAny_mono (pe _ s8 _ H8 (fun v H'=>∃ Hv',Ext Hv8 H8 Hv' H'/\Rp C.X.K Hv' xd v/\(fx=true->Rp [] (Hnew H8 H') xd v)) I8 (qe _ H8 Hv8 (des.map some++Dv.pick ρ is) _ (er7.same x8.vv) x8.vh ?_)) (fun uv s9 h9=>?_) fun _ _ z=>z
    ·show Ok C.X.K Hv8 H8 _ C.cls (fe (des.map some++Dv.pick ρ is)) _
     rw[helt]
     exact fun v Hv' H' xx rpb nn=>⟨Hv',xx,rpb,nn⟩
    obtain⟨v9,H9,I9,r9,Hv9,x9,rp9,n9⟩:=h9
    obtain⟨tn9,fpn9,ob9,dn9⟩:=back I9
    have hlen:=rv.length
    refine call_meets F.slot_list_append ⟨_,ob9,rfl⟩ F.entry_list_append (F.args_list_append_2 _ _) (PySem.list_append Da its.toArray ne uv (by rw[List.size_toArray]; have:=A.few; have:=mx_line hz; omega)) ⟨ob9,?_⟩
    refine⟨ds.length-(i+1),by omega,i+1,ws.map some,vs++[v9],xs1++[xd],f1&&fx,xs',f',H9,Hv9,rfl,⟨hlt,by simp[hwl],?_,?_,fpn9,?_,dn9,?_,?_,?_,?_⟩,hrest,by rw[hxs,exs]; simp,by rw[hfr,ef,Bool.and_assoc]⟩
    ·have I9':Inv (compCx C.X (ts++fs) scope cl L s2 H1 fp) [] (ws.map some++freeV σ is) H9 s9:=I9.pins_of fun p hp=>absurd hp (by simp)
     exact I9'.turned (it:=Da) (fun b ob hb e=>(Heap.get?_update_other _ _ (Ne.symm hb)).trans e) dn9 hDL (.inr hsD) (fun y c e z=>by
      obtain⟨w',oc,hoc,_⟩:=I2.cell y c (clsub y c e)
      have:=Heap.lt_size hoc
      rw[z] at this
      exact absurd this (Nat.not_lt.mpr hsD)) (fun p hp=>absurd (show p∈([]:List (Addr × Obj)) from hp) (by simp))
    ·exact T.keep _ _ _ tn9 fun b hb ob e=>(Heap.get?_update_other _ _ (fun z=>hDfp (by rw[z]; exact hb))).trans e
    ·have q:=PySem.IsL.update ob9 (fun a=>a.push uv)
     exact⟨its++[uv],_,by simpa using q,rv.append (.cons r9 .nil)⟩
    ·rw[List.length_append,List.length_singleton]; have:=A.few; omega
    ·exact A.ext.trans (xm.trans (x8.trans x9))
    ·exact(A.rp.same ((xm.vv.trans x8.vv).trans x9.vv)).append (.cons rp9 .nil)
    ·intro z
     rw[Bool.and_eq_true] at z
     refine((A.fr z.1).same (Hnew.mono (.refl _) ((xm.hh.trans x8.hh).trans x9.hh))).append (.cons ((n9 z.2).same (Hnew.mono ((A.ext.hh.trans xm.hh).trans x8.hh) (.refl _))) .nil)
   ·-- the item is left out
    refine wpAny_mono (pt _ s7 _ H7 (fun b H'=>b=false/\∃ Hvq,Ext Hvm H7 Hvq H') I7 (qt _ H7 Hvm (des.map some++Dv.pick ρ is) _ er7 xm.vh ?_)) (fun okb s8 h8=>?_) fun _ _ z=>z
    ·rw[hcond]
     intro v Hv' H' xx rpb _
     unfold Rp at rpb
     exact⟨false,rpb,rfl,Hv',xx⟩
    obtain⟨H8,I8,rfl,Hv8,x8⟩:=h8
    rw[if_neg Bool.false_ne_true]
    obtain⟨tn8,fpn8,ob8,dn8⟩:=back I8
    refine⟨ds.length-(i+1),by omega,i+1,ws.map some,vs,xs1,f1,xs2,fr2,H8,Hv8,rfl,⟨hlt,by simp[hwl],I8.pins_of fun p hp=>absurd hp (by simp),tn8,fpn8,⟨its,ne,ob8,rv⟩,dn8,Nat.le_succ_of_le A.few,A.ext.trans (xm.trans x8),A.rp.same (xm.vv.trans x8.vv),fun z=>(A.fr z).same (Hnew.mono (.refl _) (xm.hh.trans x8.hh))⟩,hrest,hxs,hfr⟩
  ·have ei:i=ds.length:=Nat.le_antisymm A.le (by omega)
   refine wpAny_mono (T.done (compCx C.X (ts++fs) scope cl L s2 H1 fp) rfl rfl rfl hcalm i _ s _ Hn (fun _ _=>False) I1 (hfp Hn A.fpn) A.at_ (w2 ei)) (fun r s5 h5=>?_) fun _ _ z=>z
   obtain⟨rfl,I5⟩:=h5
   refine hT s5 ?_
   obtain⟨m5,hn5,_⟩:=I5.loc
   rw[ei,List.drop_length] at hg2
   cases hg2
   rw[List.append_nil] at hxs
   rw[Bool.and_true] at hfr
   subst hxs hfr
   have ob5:=(I5.pin (Da,{ cls:=.type "list",data:=.seq its.toArray ne }) (List.mem_append_right _ (by simp))).1
   refine⟨⟨m5,hn5⟩,fun z=>absurd I2.lt (by rw[<- z]; exact Nat.not_lt.mpr hsL),fun y c e z=>?_,Nat.le_trans I2.sz hsL,fun p hp z=>?_,upd Hn Da (.lst vs),?_,?_,fun h' sb=>?_⟩
   ·obtain⟨w',oc,hoc,_⟩:=I2.cell y c e
    exact absurd (Heap.lt_size hoc) (by rw[z]; exact Nat.not_lt.mpr hsL)
   ·exact absurd (Heap.lt_size (I2.pin p hp).1) (by rw[z]; exact Nat.not_lt.mpr hsL)
   ·rw[upd_ne (Ne.symm hDL)]; exact A.inv.free
   ·exact Ok.newL okE (x1.trans A.ext) A.rp (fun z=>(A.fr z).same (Hnew.mono x1.hh (.refl _))) Da A.dn
   ·exact comp_endT I2 f2 eD.symm (by rw[hL,eD]) (I5.pins_of fun p hp=>absurd hp (by simp)) ob5 rv A.dn (by have:=A.few; have:=A.le; have:=mx_line hz; omega) sb
 refine codeAny_compStart_list (loop _ _ (fun s' h=>hfin Da L s' h) start) ?_
 exact T.self _ 0 _ _ _ start.at_ (loop _ _ (fun s' h=>hfin Da L s' h) start)
theorem se_compT (S:CompNamesT C.X scope ts fs is)(na:NamesAre es ts)(hn:∀ env,(assignEach es env).length=es.length)(hst:∀ env,(assignEach es env).findIdx? (·.1)=none)(hi:SI C (.Tuple es kt px) iter fi)(he:∀ cl L s₀ H₀ ex,SE (compCtx C (ts++fs) scope cl L s₀ H₀ ex) elt fe)(hc:∀ cl L s₀ H₀ ex,STs (compCtx C (ts++fs) scope cl L s₀ H₀ ex) ifs fc)
  (hs:autoParam (∀ v,foldedSetIterable iter C.X.env v=pure v) Au.h4._auto_1) (hclm:autoParam (C.X.calm=true) Au.h5._auto_1):SE C (.ListComp elt [⟨.Tuple es kt px,iter,ifs,0⟩] scope pos) (Dv.eCompT ts.length fe fc is fi):=by
 refine⟨fun σ H Q=>∃ Hv ρ,EnvR C.X.K Hv ρ σ/\Same Hv H/\Ok C.X.K Hv H (C.W σ) C.cls (Dv.eCompT ts.length fe fc is fi ρ) Q,?_,fun σ H Hv ρ Q e s q=>⟨Hv,ρ,e,s,q⟩⟩
 intro pins s σ H Q I ⟨Hv,ρ,er,sv,ok⟩
 rw[eval_ListComp]
 refine comp_coreT (use:=none) hclm S na hn hst hi he hc hs I er sv ok fun Da L s5 h=>?_
 obtain⟨⟨m,hn⟩,_,_,_,_,H',hL,q,iv⟩:=h
 exact⟨m,hn,fun h' sb=>⟨.ref Da,H',iv h' fun b hb=>sb.2 b hb,rfl,q⟩⟩
end
noncomputable def compOkT (fsc:Scope)(N:List Str)(scope:Scope)(ts:List Str)(fs:List Str)(is:List Nat):Bool :=
 scope.kind == .function&&scope.names.all (fun y=>!(y.2 == .cell))&&scope.names.all (fun y=>!(y.2 == .local) || scope.names.lookup y.1 == some .local)&&ts.all (fun x=>scope.names.lookup x == some .local)&&decide (ts++fs).Nodup &&
 scope.names.all (fun y=>!(y.2 == .free) || (fsc.names.lookup y.1 == some .cell || fsc.names.lookup y.1 == some .free))&&fs.all (fun y=>scope.names.lookup y == some .free)&&is.length == fs.length&&(fs.zip is).all (fun p=>N[p.2]? == some p.1)
theorem comp_namesT {X:Cx}{fsc:Scope}{N:List Str}{scope:Scope}{ts:List Str}{fs:List Str}{is:List Nat}(h1:X.env.scope=fsc)(h2:X.N=N)(h:compOkT fsc N scope ts fs is=true):CompNamesT X scope ts fs is:=by
 subst h1 h2
 unfold compOkT at h
 simp only[Bool.and_eq_true] at h
 obtain⟨⟨⟨⟨⟨⟨⟨⟨a1,a2⟩,a3⟩,a4⟩,a5⟩,a6⟩,a7⟩,a8⟩,a9⟩:=h
 refine⟨by simpa using a1,fun y hy=>?_,fun y hy hl=>?_,fun t ht=>(by simpa using List.all_eq_true.mp a4 t ht),by simpa using a5,fun y hy hf=>?_,fun y hy=>?_,by simpa using a8,fun j y hj=>?_⟩
 ·have:=List.all_eq_true.mp a2 y hy
  simpa using this
 ·have:=List.all_eq_true.mp a3 y hy
  simpa[hl] using this
 ·have:=List.all_eq_true.mp a6 y hy
  show X.env.scope.names.lookup y.1=some .cell\/X.env.scope.names.lookup y.1=some .free
  simpa[hf] using this
 ·have:=List.all_eq_true.mp a7 y hy
  simpa using this
 ·have hl:is.length=fs.length:=by simpa using a8
  have hjl:j<fs.length:=(List.getElem?_eq_some_iff.mp hj).1
  refine⟨is[j]'(by omega),by simp,?_⟩
  have hm:(y,is[j]'(by omega))∈fs.zip is:=by
   have e1:fs[j]=y:=(List.getElem?_eq_some_iff.mp hj).2
   have:(fs.zip is)[j]'(by rw[List.length_zip]; omega)=(y,is[j]'(by omega)):=by rw[List.getElem_zip,e1]
   rw[<- this]
   exact List.getElem_mem _
  have:=List.all_eq_true.mp a9 _ hm
  simpa using this
section
variable {C:Ctx}{a b c e k:Expr}{f g h:EE}{F G:SS}{pos pos':Pos}{E:Ends}
theorem gd_mem {l:List Int}{i:Nat}(h:i<l.length):l.getD i 0∈l:=by
 rw[List.getD_eq_getElem?_getD,List.getElem?_eq_getElem h]; exact List.getElem_mem h
theorem mem_gd {l:List Int}{a:Int}(h:a∈l):∃ j,j<l.length/\l.getD j 0=a:=by
 obtain⟨j,hj,rfl⟩:=List.getElem_of_mem h
 exact⟨j,hj,by rw[List.getD_eq_getElem?_getD,List.getElem?_eq_getElem hj]; rfl⟩
theorem call_minI {X:Cx}(hc:X.calm=true):CallR X (.builtin "min") (fun xs H Q=>∃ p,∃ ns:List Int,xs=[.ref p]/\SqX X.K H p (ns.map V.int)/\0<ns.length/\∀ M,M∈ns->(∀ a∈ns,M<=a)->Q (.int M) H):=by
 intro pins s σ H xs us Q I r h
 obtain⟨p,ns,rfl,hq,hne,q⟩:=h
 obtain⟨u,rfl,rx⟩:=vals1 r
 cases rx
 obtain⟨its,n,rv,e,z⟩:=Inv.listX I hq
 have hi:=intsAre_of rv
 obtain⟨xs,ex⟩:=hi.allInts.items
 have hns:ns=xs.toList.map (·.1):=by rw[<- hi.numsOf,<- nums_intItems,<- ex]
 have hsz:0<xs.size:=by
  have h3:=hne; rw[hns,List.length_map,Array.length_toList] at h3; exact h3
 have hl':s.heap.IsList p (intItems xs):=ex▸⟨_,e,rfl,n,rfl⟩
 refine min_intList (I.ok.hd hc) hl' hsz fun v h' tk hv hk=>?_
 obtain⟨t,rfl⟩:=intItems_at hv
 obtain⟨h1,h2⟩:=argBest_lt (numAt xs) (xs.size-1)
 refine⟨.int _,H,I.kept hk,⟨t,rfl⟩,q _ ?_ fun a ha=>?_⟩
 ·rw[hns,numAt_eq]
  refine gd_mem ?_
  rw[List.length_map,Array.length_toList]; omega
 ·rw[hns] at ha
  obtain⟨j,hj,rfl⟩:=mem_gd ha
  rw[List.length_map,Array.length_toList] at hj
  rw[<- numAt_eq]; exact h2 j (by omega)
theorem minI_is:∀ (r:List Int) (a:Int),Dv.minI a r∈a::r/\∀ b∈a::r,Dv.minI a r<=b
 | [],a=>⟨List.mem_cons_self ..,fun b hb=>by simp at hb; subst hb; exact Int.le_refl _⟩
 | x::r,a=>by
  unfold Dv.minI
  by_cases hx:x<a
  ·rw[if_pos hx]
   obtain⟨h1,h2⟩:=minI_is r x
   refine⟨List.mem_cons_of_mem _ h1,fun b hb=>?_⟩
   have h0:=h2 _ (List.mem_cons_self ..)
   rcases List.mem_cons.mp hb with rfl|hb
   ·omega
   ·exact h2 b hb
  ·rw[if_neg hx]
   obtain⟨h1,h2⟩:=minI_is r a
   refine⟨?_,fun b hb=>?_⟩
   ·rcases List.mem_cons.mp h1 with h|h
    ·rw[h]; exact List.mem_cons_self ..
    ·exact List.mem_cons_of_mem _ (List.mem_cons_of_mem _ h)
   ·have h0:=h2 _ (List.mem_cons_self ..)
    rcases List.mem_cons.mp hb with rfl|hb
    ·exact h0
    ·rcases List.mem_cons.mp hb with rfl|hb
     ·omega
     ·exact h2 b (List.mem_cons_of_mem _ hb)
theorem c1_minI (hc:C.X.calm=true):C1S C (.builtin "min") Dv.minLD:=by
 refine⟨_,call_minI hc,fun x d fr H Hv H1 Hv1 W Q e rx n q=>?_⟩
 cases d with
 | lst ds =>
  simp only[Dv.minLD] at q
  cases hi:Dv.intsOf ds with
  | none=>rw[hi] at q; exact(show False from q).elim
  | some ns =>
   rw[hi] at q
   cases ns with
   | nil=>exact(show False from q).elim
   | cons m ns =>
    unfold Rp at rx
    obtain⟨l,vs,rfl,h1,h2⟩:=rx
    have e1:=RpL.ints hi h2
    subst e1
    refine⟨l,m::ns,rfl,h1.same e.vh,by simp,fun M hM hle=>?_⟩
    obtain⟨k1,k2⟩:=minI_is ns m
    have:M=Dv.minI m ns:=Int.le_antisymm (hle _ k1) (k2 _ hM)
    rw[this]
    exact Ok.at (d:=.int (Dv.minI m ns)) (fr:=true) q e rp_int rfl
 | _=>exact(show False from q).elim
theorem se_minI {p:Pos}(hm:C.X.mg "min"=none)(hg:Gl C.X "min")(ha:SE C a f)(he:autoParam (starEach [a] C.X.env=[(false,eval a C.X.env)]) Au.h5._auto_1)(hcl:autoParam (C.X.calm=true) Au.h5._auto_1):SE C (.Call (.Name "min" p) [a] [] pos) (Dv.eB1 Dv.minLD f) :=
 se_b1 (c1_minI hcl) hg hm (by decide +kernel) ha (by decide) (by decide) he
end
end Sd
namespace Dv
noncomputable def dninD:D->D->R
 | .int j,.dct ks ds=>.ok (.bl (!(look ks ds j).isSome)) true
 | _,_=>.bad
noncomputable def eDnin (k a:EE):EE:=fun ρ=>(k ρ).bind fun x _=>(a ρ).bind fun y _=>dninD x y
end Dv
namespace Sd
open PySem PySem.Spec PyProof.Rows L2
open Dv (D R RL EE EL EI RI Sl Out SS)
section
variable {C:Ctx}{a b c e k:Expr}{f g h:EE}{F G:SS}{pos pos':Pos}{E:Ends}
theorem op_dnotin:OpR C.X (compareOp .NotIn) (fun x y H Q=>∃ a o,y=.ref a/\DGet H a x o/\Q (.bl (!o.isSome)) H):=by
 intro pins s σ H x y v u Q I rx ry h
 obtain⟨a,o,rfl,g,q⟩:=h
 obtain rfl:u=Value.ref a:=ry
 exact d_notIn (C_un1 C) I g rx fun s3 I3=>⟨.bl (!o.isSome),H,I3,rfl,q⟩
theorem os_dnotin:OpS C (compareOp .NotIn) Dv.dninD:=by
 refine⟨_,op_dnotin,fun x y d d' H Hv H1 Hv1 W Q e rx ry q=>?_⟩
 cases d with
 | int j =>
  cases d' with
  | dct ks ds =>
   unfold Rp at rx
   have ry':=ry
   unfold Rp at ry'
   obtain⟨a,vs,rfl,hl,h1,h2⟩:=ry'
   cases hk:Dv.look ks ds j with
   | none =>
    have q:Ok C.X.K Hv H W C.cls (.ok (.bl true) true) Q:=by have:=q; simp only[Dv.dninD,hk] at this; exact this
    refine⟨a,none,rfl,.inl ⟨_,Sum.inl j,Rd.same e.vh h1,rx,(look_none hl h2 hk).symm⟩,?_⟩
    exact q.at (v:=.bl (!(none:Option V).isSome)) e rp_bl rfl
   | some d0 =>
    have q:Ok C.X.K Hv H W C.cls (.ok (.bl false) true) Q:=by have:=q; simp only[Dv.dninD,hk] at this; exact this
    obtain⟨v0,e1,e2⟩:=look_some h2 hk
    refine⟨a,some v0,rfl,.inl ⟨_,Sum.inl j,Rd.same e.vh h1,rx,e1.symm⟩,?_⟩
    exact q.at (v:=.bl (!(some v0).isSome)) e rp_bl rfl
  | _=>exact(show False from q).elim
 | _=>exact(show False from q).elim
theorem sc_dnotin (ha:SE C a f)(hb:SE C b g)(hm:autoParam (behindInMarks .NotIn b=false) Au.h9._auto_1):SC C (.Compare a [.NotIn] [b] pos) (Dv.eDnin f g):=sc_cm2 os_dnotin ha hb hm
end
end Sd
namespace Dv
noncomputable def iRev (a:EE):EI:=fun ρ=>match a ρ with
 | .ok (.lst xs) _=>.ok xs.reverse true
 | .exc c=>.exc c
 | _=>.bad
noncomputable def sUnpackL (is:List Nat)(xs:List Nat)(e:EE):SS:=fun st=>match e (open_ (give is st)) with
 | .ok (.lst ds) _=>if ds.length=xs.length then .nx (setAll xs ds (give is st)) else .bad
 | .exc c=>.exc c st
 | _=>.bad
end Dv
namespace Sd
open PySem PySem.Spec PyProof.Rows L2
open Dv (D R RL EE EL EI RI Sl Out SS)
section
variable {C:Ctx}{a b c e:Expr}{f g h:EE}{pos:Pos}
end
section
variable {C:Ctx}{a b c e:Expr}{f g h:EE}{F:SS}{pos pos':Pos}
end
section
variable {prog:Program}{w:World}{A:Around}{E:Value->Shared->Prop}
theorem draw_list {it t:Addr}{items:Array Value}(hne:t≠it):∀ (n i:Nat) (s:Shared) (Q:List Value->Shared->Prop),s.heap.IsListIter it t i->s.heap.IsList t items->i+n<=items.size ->
  (∀ h',h'.IsListIter it t (i+n)->Heap.SameBut it s.heap h'->Q ((items.toList.drop i).take n) { s with heap:=h' })->wpAny (model prog w) A (draw (.ref it) n) Q E s
 | 0,i,s,Q,hit,_,_,hQ=>by
  show wpAny _ _ (pure []) Q E s
  exact wpAny_pure (by simpa using hQ s.heap hit (Heap.SameBut.refl ..))
 | n+1,i,s,Q,hit,ht,hle,hQ=>by
  have hlt:i<items.size:=by omega
  show wpAny _ _ (pyNext (.ref it) >>= _) Q E s
  refine wpAny_bind (wpAny_pyNext_list_item hit ht (x:=items[i]) (by simp[hlt]) fun h₁ hit₁ hs₁=>?_)
  refine wpAny_bind (wpAny_holding (draw_list hne n (i+1) _ _ hit₁ (ht.at fun o e=>(hs₁.2 t hne).trans e) (by omega) fun h₂ hit₂ hs₂=>wpAny_pure ?_))
  have hd:items.toList.drop i=items[i]::items.toList.drop (i+1):=by simp[List.drop_eq_getElem_cons,hlt]
  have:=hQ h₂ (by rw[show i+(n+1)=i+1+n by omega]; exact hit₂) (hs₁.trans hs₂)
  rw[hd,List.take_succ_cons] at this
  exact this
theorem unpackItems_list {s:Shared}{t:Addr}{items:Array Value}{Q:List Value->Shared->Prop}(hh:A.handled=none)(ht:s.heap.IsList t items)
  (hQ:∀ h',Heap.ExtBut s.heap.objs.size s.heap h'->Q items.toList { s with heap:=h' }):wpAny (model prog w) A (unpackItems (.ref t) items.size none) Q E s:=by
 have hlt:t≠s.heap.objs.size:=by obtain⟨o,ho,_⟩:=ht; exact Nat.ne_of_lt (Heap.lt_size ho)
 unfold unpackItems
 refine wpAny_bind ?_
 ·unfold notIterableAtAll
  refine wpAny_bind (wpAny_specialOf ht.typeIs slot_list_iter.lookup ?_)
  refine wpAny_pure ?_
  simp only[Bool.false_eq_true,if_false]
  refine wpAny_bind (wpAny_holding (wpAny_pyIter_list ht ?_))
  refine wpAny_bind (wpAny_holding (draw_list hlt items.size 0 _ _ ⟨_,Heap.get?_push_size _ rfl,rfl,rfl⟩ (ht.at fun o e=>Heap.get?_push_of_some _ e) (by omega) fun h₁ hit₁ hs₁=>?_))
  have hall:List.take items.size (List.drop 0 items.toList)=items.toList:=by
   rw[List.drop_zero]; exact List.take_of_length_le (by simp)
  rw[hall]
  rw[if_neg (by simp)]
  have ht₁:h₁.IsList t items:=ht.at fun o e=>(hs₁.2 t hlt).trans (Heap.get?_push_of_some _ e)
  refine wpAny_bind (wpAny_holding (wpAny_pyNext_list_end hh hit₁ ht₁ (by simp) fun h₂ he₂=>?_))
  simp only[Option.isSome_none,Bool.false_eq_true,if_false]
  refine wpAny_pure (hQ h₂ fun b o hb e=>he₂ b o hb (hs₁.extBut b o hb (Heap.get?_push_of_some _ e)))
theorem assign_Tuple_list {s:Shared}{env:PySem.Env}{elts:List Expr}{x1}{pos:Pos}{t:Addr}{items:Array Value}{Q:Unit->Shared->Prop}(hh:A.handled=none)(ht:s.heap.IsList t items)
  (hn:(assignEach elts env).length=items.size) (hstar:(assignEach elts env).findIdx? (·.1)=none)
  (h:∀ h',Heap.ExtBut s.heap.objs.size s.heap h'->wpAny (model prog w) A (assignInOrder ((assignEach elts env).map (·.2)) items.toList) Q E { s with heap:=h' }) :
  wpAny (model prog w) A (assign (.Tuple elts x1 pos) env (.ref t)) Q E s:=by
 rw[assign_Tuple]
 refine wpAny_bind (wpAny_standAt ?_)
 unfold unpack
 rw[hn,hstar]
 exact wpAny_bind (wpAny_holding (unpackItems_list hh ht h))
end
noncomputable def gLst (K:PySem.W.Frag)(n:Nat)(t:TGs):TG:=fun v σ H Q=>∃ a xs,v=.ref a/\SqL K H a xs/\xs.length=n/\t xs σ H Q
theorem pg_lst {X:Cx}{es:List Expr}{k:Nat}{t:TGs}{n:Nat}{pos:Pos}(hc:X.calm=true)(h:PGs X es t)
  (hn:autoParam ((assignEach es X.env).length=n) Au.h5._auto_1) (hst:autoParam ((assignEach es X.env).findIdx? (·.1)=none) Au.h5._auto_1):PG X (.Tuple es k pos) (gLst X.K n t):=by
 intro pins s σ H v u Q I r hw
 obtain⟨a,xs,e1,hq,hl,hw⟩:=hw
 subst e1
 cases r
 obtain⟨its,rv,ht,hz⟩:=I.list hq
 refine assign_Tuple_list (I.ok.hd hc) ht.isList (by simp[hn,<- hl,rv.length]) hst fun h' hx=>?_
 have I1:Inv X pins σ H { s with heap:=h' }:=I.kept (t':=s.toks) fun b o e=>hx b o (Nat.ne_of_lt (Heap.lt_size e)) e
 exact h pins _ σ H xs _ Q I1 (by simpa using rv) hw
section
variable {C:Ctx}{e:Expr}{f:EE}{pos:Pos}
theorem st_unpackL (is:List Nat){ts:List Expr}{xs:List Nat}{kt:Nat}{tpos:Pos}(he:SE C e f)(hg:SGs C ts xs)(hl:ts.length=xs.length)(hn:autoParam ((assignEach ts C.X.env).length=ts.length) Au.h5._auto_1)(hst:autoParam ((assignEach ts C.X.env).findIdx? (·.1)=none) Au.h5._auto_1)
  (hs:autoParam (swapsWithSole [.Tuple ts kt tpos] e pos.line C.X.env=pure false) Au.h5._auto_1) (hw:autoParam (swappedStores [.Tuple ts kt tpos] e C.X.env=pure none) Au.h5._auto_1) (h1:autoParam ((assignEach [.Tuple ts kt tpos] C.X.env).map (·.2)=[assign (.Tuple ts kt tpos) C.X.env]) Au.h5._auto_1) (hcl:autoParam (C.X.calm=true) Au.h5._auto_1) :
  SSt C (.Assign [.Tuple ts kt tpos] e pos) (Dv.sUnpackL is xs f):=by
 obtain⟨t,p,q⟩:=he
 obtain⟨g,pg,qg⟩:=hg
 refine⟨_,ps_asg p (pg_lst hcl pg hn hst) hs hw h1,fun Hv₀ H₀ E σ H st ⟨Hc0,O0,r0⟩ w=>?_⟩
 obtain⟨Hc,O,_,r⟩:=r0.give is
 unfold Dv.sUnpackL at w
 refine q.open r (fun c hf Hc' H' x=>?_) (fun hf=>?_) fun d fr v Hc' H' hf x r' rp=>?_
 ·simp only[hf] at w; exact w σ H' ⟨Hc0,O0,r0.grow x.hh x.nf⟩
 ·simp only[hf] at w; exact w
 ·simp only[hf] at w
  cases d with
  | lst ds =>
   by_cases hz:ds.length=xs.length
   ·simp only[hz,if_true] at w
    unfold Rp at rp
    obtain⟨a,vs,rfl,h2,h3⟩:=rp
    exact⟨a,vs,rfl,(h2.same x.vh).seq,by rw[h3.length,hz,hl],qg Hv₀ H₀ Hc' O H' σ _ ds vs _ r' h3 hz fun σ' r2=>w σ' H' ⟨Hc',O,r2⟩⟩
   ·simp only[hz,if_false] at w; exact(show False from w).elim
  | _=>exact(show False from w).elim
end
section
variable {C:Ctx}{a b c e:Expr}{f g h:EE}{F G:SS}{pos pos':Pos}
noncomputable def KillTak (C:Ctx)(t:TS)(i j:Nat):Prop:=∀ (Hv₀ H₀:Hp) (E:Ends) (σ:St) (H:Hp) (st:Dv.St) (Hc:Hp) (O:Nat->Hp) (n m:Nat) (tt:Addr) (vs:List V),RelC C.X.K Hv₀ H₀ Hc O st σ H->st[i]?=some (.jk n m)->σ[i]?=some (some (.ref tt))->H tt=some (.lst vs) ->
 m<2000->n<=2000->i≠j->j<st.length->(∀ σ' H',Rel C.X.K Hv₀ H₀ ((st.set j .no).set i (.jk n (m+n))) σ' H'->σ'[i]?=some (some (.ref tt))->H' tt=some (.lst vs)->E.nx σ' H')->t E σ H
theorem st_killAll {i j:Nat}{x y:Str}{n0:Int}{kj:Nat}{apos cpos epos px py kpos:Pos}(hN:C.X.N.Nodup)(hi:C.X.N[i]?=some y)(hj:C.X.N[j]?=some x)(hx:Loc C.X.env.scope x)
  (hvy:autoParam (Vis C.X.env.scope y) Au.h6._auto_1) (hvx:autoParam (Vis C.X.env.scope x) Au.h6._auto_1)
  (hf:autoParam (C.X.fn x=true\/C.X.env.scope.names.lookup x=some .local) Au.h1._auto_1)
  (hd:autoParam ((x == ("__debug__":Str))=false) Au.h2._auto_1) (hcd:autoParam ((x == ("__classdict__":Str))=false) Au.h2._auto_1) (hd2:autoParam ((y == ("__debug__":Str))=false) Au.h2._auto_1) (hcd2:autoParam ((y == ("__classdict__":Str))=false) Au.h2._auto_1)
  (hst:autoParam (starEach [Expr.Constant (.int n0) kj kpos] C.X.env=[(false,eval (Expr.Constant (.int n0) kj kpos) C.X.env)]) Au.h5._auto_1)
  (hbase:autoParam (attributeBase (.Name x px) "append" C.X.env (eval (.Name x px) C.X.env)=eval (.Name x px) C.X.env) Au.h5._auto_1)
  (hfew:autoParam (((backTo cpos (starEach [Expr.Constant (.int n0) kj kpos] C.X.env)).all (fun x=>!x.1)&&(backToKw cpos (keywordEach [] C.X.env)).all (fun x=>x.1.isSome)
   && decide ([Expr.Constant (.int n0) kj kpos].length+([]:List Keyword).length+(if ([]:List Keyword).isEmpty then 0 else 1)<30))=true) Au.h5._auto_1)
  (hline:autoParam ((apos.endLine == cpos.line)=true) Au.h5._auto_1)
  (hs:autoParam (swapsWith (.Call (.Attribute (.Name x px) "append" apos) [Expr.Constant (.int n0) kj kpos] [] cpos) none epos.line C.X.env=pure false) Au.h5._auto_1)
  (hfs:autoParam (∀ v,foldedSetIterable (.Name y py) C.X.env v=pure v) Au.h4._auto_1) (hcalm:autoParam (C.X.calm=true) Au.h5._auto_1) :
  ∃ t:TS,PS C.X (.For (.Name x pos') (.Name y py) [.Expr (.Call (.Attribute (.Name x px) "append" apos) [Expr.Constant (.int n0) kj kpos] [] cpos) epos] [] pos) t/\KillTak C t i j:=by
 refine⟨_,ps_for C.own hcalm (pi_list (pe_var hi hvy hd2 hcd2)) (pg_name hN hj hx hf) (pss_one (ps_expr (pe_bm PySem.F.plainAttrs_list PySem.F.slot_list_append PySem.F.type_list_append mt_append (pe_var hj hvx hd hcd) (pa_cons pe_int pa_nil hst) hbase hfew hline hst rfl) hs)) hfs,fun Hv₀ H₀ E σ H st Hc O n m tt vs r hst2 h1 hH hm2 hn2 hij hjl w=>?_⟩
 have hji:j≠i:=Ne.symm hij
 have lin:i<st.length:=(List.getElem?_eq_some_iff.mp hst2).1
 have hjσ:j<σ.length:=by rw[<- r.len]; exact hjl
 have r0:RelC C.X.K Hv₀ H₀ Hc O ((st.set j .no).set i (.jk n (m+0))) σ H:=by
  have q:=r.setNo (i:=j) (v:=σ[j])
  rw[set_id (show σ[j]?=some σ[j] by simp[hjσ])] at q
  rw[Nat.add_zero,set_id (show (st.set j .no)[i]?=some (.jk n m) by rw[List.getElem?_set_ne hji]; exact hst2)]
  exact q
 refine⟨_,h1,tt,rfl,⟨vs,SqL.of hH⟩,?_⟩
 refine⟨fun k mm σ' H'=>mm=n-k/\k<=n/\σ'[i]?=some (some (.ref tt))/\H' tt=some (.lst vs)/\∃ Hc' O',RelC C.X.K Hv₀ H₀ Hc' O' ((st.set j .no).set i (.jk n (m+k))) σ' H',⟨_,rfl,Nat.zero_le _,h1,hH,Hc,O,r0⟩,?_⟩
 rintro k mm σ' H' ⟨rfl,hk,g1,g2,Hc',O',r'⟩
 have hself:((st.set j .no).set i (.jk n (m+k)))[i]?=some (.jk n (m+k)):=List.getElem?_set_self (by rw[List.length_set]; exact lin)
 obtain⟨v',k1,tt',vs',e3,ht',hn',hx2⟩:=r'.jk i n (m+k) hself
 rw[g1] at k1
 cases k1
 cases e3
 have hvs:vs'=vs/\O' i tt=some (.lst vs):=by
  rcases ht' with q|q
  ·have:=(r'.oh i tt _ q).1
   rw[g2] at this
   cases this
   exact⟨rfl,q⟩
  ·have:=(r'.oh i tt _ q).1
   rw[g2] at this
   cases this
 obtain⟨rfl,hott⟩:=hvs
 by_cases hlt:k<n
 ·refine .inr ⟨⟨vs',vs'[k]'(by omega),SqL.of g2,by simp[hn',hlt]⟩,fun σ2 H2=>σ2[i]?=some (some (.ref tt))/\H2 tt=some (.lst vs')/\∃ Hc' O',RelC C.X.K Hv₀ H₀ Hc' O' ((st.set j .no).set i (.jk n (m+(k+1)))) σ2 H2,fun σ2 H2 ⟨q1,q2,Hc2,O2,q3⟩=>⟨n-(k+1),by omega,rfl,hlt,q1,q2,Hc2,O2,q3⟩,fun xv H2 ⟨e2,hy⟩=>?_⟩
  subst e2
  have hxv:=hy vs' (SqL.of g2)
  obtain⟨b,ws,rfl,hbt,hb,hws⟩:=hx2 xv (List.mem_of_getElem? hxv)
  have hbl:=(r'.oh i b _ hb).1
  have hjN:j<σ'.length:=by
   have l1:=r'.len
   rw[List.length_set,List.length_set] at l1
   omega
  refine⟨_,List.getElem?_set_self hjN,.inl ⟨rfl,ws,SqL.of hbl⟩,?_⟩
  refine⟨b,ws,.int n0,rfl,rfl,hbl,?_,?_⟩
  ·have e5:(100000:Nat)<sizeLine:=by rw[sizeLine_eq]; decide
   omega
  ·have r2:=(r'.setNo (i:=j) (v:=some (.ref b)))
   have g1':(σ'.set j (some (.ref b)))[i]?=some (some (.ref tt)):=by rw[List.getElem?_set_ne hji]; exact g1
   have r3:=r2.putAny (i:=i) (s:=.jk n (m+(k+1))) (v:=.ref tt) (a:=b) (u:=.lst ws) (o:=.lst (ws++[.int n0])) g1' hb (by intro _ _ z; cases z) (fun d e=>nomatch e)
    (fun n' m' e=>by cases e; exact jk_upd (by omega) (.inl hott) hn' hx2 hbt (by simp; omega)) fun d=>⟨nofun,nofun⟩
   refine⟨g1',?_,Hc',putO O' i (upd (O' i) b (.lst (ws++[.int n0]))),?_⟩
   ·rw[upd_ne (Ne.symm hbt)]; exact g2
   ·have e6:(((st.set j .no).set i (.jk n (m+k))).set j .no).set i (.jk n (m+(k+1)))=(st.set j .no).set i (.jk n (m+(k+1))):=by
     rw[List.set_comm _ _ hij,List.set_set,List.set_set]
    rw[e6] at r3
    exact r3
 ·have hkn:k=n:=by omega
  subst hkn
  exact .inl ⟨⟨vs',SqL.of g2,by omega⟩,w σ' H' ⟨Hc',O',r'⟩ g1 g2⟩
end
inductive RawL (K:PySem.W.Frag)(Hc:Hp):List D->List D->Prop
 | nil:RawL K Hc [] []
 | scal {d:D} {r r':List D}:Dv.scal d=true->RawL K Hc r r'->RawL K Hc (d::r) (d::r')
 | tup {es:List D} {a:Addr} {us:List V} {r r':List D}:Dv.flatL es=true->Hc a=some (.tup us)->RpL K Hc es us->RawL K Hc r r'->RawL K Hc (.tup es::r) (.raw a::r')
inductive RawLL (K:PySem.W.Frag)(Hc:Hp):List D->List D->Prop
 | nil:RawLL K Hc [] []
 | cons {es es' r r':List D}:RawL K Hc es es'->RawLL K Hc r r'->RawLL K Hc (.lst es::r) (.lst es'::r')
section
variable {K:PySem.W.Frag}{Hv₀ H₀ Hc:Hp}{O:Nat->Hp}{st:Dv.St}{σ:St}{H:Hp}
end
section
variable {C:Ctx}{f:EE}{E:Ends}
end
section
variable {C:Ctx}{elt iter:Expr}{ifs:List Expr}{fe fc:EE}{fi:EI}{x:Str}{fs:List Str}{is:List Nat}{scope:Scope}{px pos:Pos}
end
noncomputable def rowsI (xs:List D):Prop:=∀ x∈xs,∃ r:List Int,x=.lst (r.map .int)
section
variable {C:Ctx}{elt iter:Expr}{x:Str}{px pos:Pos}{ifs:List Expr}{scope:Scope}{fs:List Str}{is:List Nat}{fi:EI}{fe fc:EE}
structure CompAtN (C:Ctx)(x:Str)(fs:List Str)(is:List Nat)(scope:Scope)(cl:List (Str × Addr))(L Da:Addr)(s2:Shared)(H1 Hv1:Hp)(fp:List Addr)(tn:Nat->Heap->Prop)(σ:St)(ds:List D)(i:Nat)(o:Option V)(vs:List V)(xs:List D)(f1:Bool)(Hn Hvn:Hp)(s:Shared):Prop where
 le:i<=ds.length
 inv:Inv (compCx C.X (x::fs) scope cl L s2 H1 fp) [] (o::freeV σ is) Hn s
 at_:tn i s.heap
 fpn:∀ b∈fp,Hn b=none
 obj:∃ (its:List Value) (ne:Nat),s.heap.get? Da=some { cls:=.type "list",data:=.seq its.toArray ne }/\Vals vs its
 dn:Hn Da=none
 few:vs.length<=i
 ext:Ext Hv1 H1 Hvn Hn
 rp:RpL C.X.K Hvn xs vs
 fr:f1=true->RpL [] (Hnew H1 Hn) xs vs
 nd:f1=true->rowsI xs->vs.Nodup
end
section
variable {K:PySem.W.Frag}{Hv₀ H₀ Hc:Hp}{O:Nat->Hp}{st:Dv.St}{σ:St}{H:Hp}
end
section
variable {C:Ctx}{a b c e k:Expr}{f g h:EE}{F G:SS}{pos pos':Pos}{E:Ends}
end
section
variable {C:Ctx}{a b c e k:Expr}{f g h:EE}{F G:SS}{pos pos':Pos}{E:Ends}
end
end Sd
namespace Dv
end Dv
namespace Sd
open PySem PySem.Spec PyProof.Rows L2
open Dv (D R RL EE EL EI RI Sl Out SS)
section
variable {C:Ctx}{a b c e o k:Expr}{es:List Expr}{f g h:EE}{fl:EL}{F G:SS}{pos pos':Pos}{E:Ends}
end
section
variable {C:Ctx}{a b c e o k:Expr}{es:List Expr}{f g h:EE}{fl:EL}{F G:SS}{pos pos':Pos}{E:Ends}
end
section
variable {C:Ctx}{a b c e o k:Expr}{es:List Expr}{f g h:EE}{fl:EL}{F G:SS}{pos pos':Pos}{E:Ends}
end
end Sd
namespace Dv
noncomputable def lookS:List String->List D->String->Option D
 | k::ks,d::ds,n=>if k=n then some d else lookS ks ds n
 | _,_,_=>none
noncomputable def fldD (n:String):D->R
 | .ins ns ds=>match lookS ns ds n with
  | some d=>.ok d (scal d)
  | none=>.bad
 | _=>.bad
noncomputable def eFld (n:String)(a:EE):EE:=fun ρ=>(a ρ).bind fun x _=>fldD n x
noncomputable def lenDD:D->Bool->R
 | .dct ks _,_=>.ok (.int ks.length) true
 | _,_=>.bad
noncomputable def sKillRows (i j:Nat):SS:=fun st=>match st[i]? with
 | some (.dp (.lst ds))=>match shapeL ds with
  | some m=>if decide (m<2000)&&decide (ds.length<=2000)&&decide (i≠j)&&decide (j<st.length) then .nx ((st.set j .no).set i .no) else .bad
  | none=>.bad
 | _=>.bad
noncomputable def dinD:D->D->R
 | .int j,.dct ks ds=>.ok (.bl (look ks ds j).isSome) true
 | _,_=>.bad
structure Wy where
 st:D
 pl:List Int
noncomputable def Wy.d (w:Wy):D:=.tup [w.st,.lst (w.pl.map .int)]
noncomputable def wyL (ws:List Wy):D:=.lst (ws.map Wy.d)
noncomputable def wysD (ws:List (List Wy)):D:=.lst (ws.map wyL)
inductive An where
 | non
 | twi (p:Int)
 | row (k:Nat)
structure Cs where
 laid:List Wy
 ix:Nat
 at_:Nat
structure Ws where
 wys:List (List Wy)
 wait:List Cs
 rows:List (Int × Nat)
 sto:List (List An)
 gone:Nat
inductive WR where
 | many
 | bad
 | full (w:Ws) (d:D) (fr:Bool)
 | row (w:Ws)
structure Wk where
 fp:List D->R
 fs:EE
 fl:EE
 ft:EE
noncomputable def rowGo (k:Wk)(l:List Wy)(fd:D):List Wy->List An->List (List Wy × Nat)->Option (List An × List (List Wy × Nat))
 | [],as,f=>some (as,f)
 | w::r,as,f=>match k.ft [none,none,some fd,none,none,none,some w.d] with
  | .ok (.lst []) _=>rowGo k l fd r (as++[.non]) (f++[(l++[w],as.length)])
  | .ok (.lst (.int p::_)) _=>rowGo k l fd r (as++[.twi p]) f
  | _=>none
noncomputable def w0 (wys:List (List Wy))(laid:List Wy):Ws:=⟨wys,[⟨laid,0,0⟩],[],[[.non]],0⟩
noncomputable def rowW (k:Wk)(w:Ws)(l:List Wy)(fd:D):WR :=
 match k.fl [some (.ins ["ways"] [wysD w.wys]),some (wyL l),some fd] with
 | .ok (.int (.ofNat m)) _=>match w.wys[m]? with
  | some ws=>match rowGo k l fd ws [] [] with
   | some (as,f)=>if decide (l.length<mx)&&decide (ws.length<mx)&&decide (w.rows.length<mx)&&decide (w.wait.length+f.length<=mx) then
     .row { w with rows:=w.rows++[((m:Int),w.sto.length)],sto:=w.sto++[as],wait:=w.wait++f.reverse.map fun p=>⟨p.1,w.sto.length,p.2⟩ }
    else .bad
   | none=>.bad
  | none=>.bad
 | _=>.bad
noncomputable def stepW (k:Wk)(w:Ws):WR :=
 if w.gone=2000 then .many else
 match w.wait.getLast? with
 | none=>.bad
 | some c=>match k.fp [wyL c.laid] with
  | .ok (.dct ks ds) _=>if ks.length=w.wys.length then match k.fs [none,some (.ins ["laid"] [wyL c.laid]),some (.dct ks ds)] with
    | .ok d fr=>.full { w with gone:=w.gone+1,wait:=w.wait.dropLast } d fr
    | _=>.bad
   else match w.sto[c.ix]? with
    | some as=>if c.at_<as.length then rowW k { w with gone:=w.gone+1,wait:=w.wait.dropLast,sto:=w.sto.set c.ix (as.set c.at_ (.row w.rows.length)) } c.laid (.dct ks ds) else .bad
    | none=>.bad
  | _=>.bad
noncomputable def allGo (k:Wk):Nat->Ws->List D->R
 | 0,_,_=>.bad
 | n+1,w,acc=>if w.wait.isEmpty then .ok (.lst acc) true else match stepW k w with
  | .many=>.exc "TooMany"
  | .bad=>.bad
  | .full w' d fr=>match d with
   | .lst es=>if fr&&decide (acc.length<mx) then allGo k n w' (acc++[.lst es]) else .bad
   | _=>.bad
  | .row w'=>allGo k n w' acc
noncomputable def deW:D->Option Wy
 | .tup [s,.lst ps]=>match intsOf ps with
  | some ns=>some ⟨s,ns⟩
  | none=>none
 | _=>none
noncomputable def deWL:List D->Option (List Wy)
 | []=>some []
 | d::r=>match deW d,deWL r with
  | some w,some ws=>some (w::ws)
  | _,_=>none
noncomputable def deL:D->Option (List Wy)
 | .lst ds=>deWL ds
 | _=>none
noncomputable def deLL:List D->Option (List (List Wy))
 | []=>some []
 | d::r=>match deL d,deLL r with
  | some w,some ws=>some (w::ws)
  | _,_=>none
noncomputable def deWs:D->Option (List (List Wy))
 | .lst ds=>deLL ds
 | _=>none
inductive PR where
 | ok (wys:List (List Wy)) (laid:List Wy)
 | exc (c:String)
 | bad
noncomputable def pwR (fw fl:EE)(ds:List D):PR:=match fw (ds.map some) with
 | .exc c=>.exc c
 | .bad=>.bad
 | .ok dw _=>match fl (ds.map some) with
  | .exc c=>.exc c
  | .bad=>.bad
  | .ok dl _=>match deWs dw,deL dl with
   | some wys,some laid=>.ok wys laid
   | _,_=>.bad
noncomputable def allR (k:Wk)(F:List D->PR)(ds:List D):R:=match F ds with
 | .exc c=>.exc c
 | .bad=>.bad
 | .ok wys laid=>allGo k 2002 (w0 wys laid) []
noncomputable def eAllF (k:Wk)(F:List D->PR)(a:EL):EE:=fun ρ=>(a ρ).bind fun ds _=>allR k F ds
end Dv
namespace Sd
open PySem PySem.Spec PyProof.Rows L2
open Dv (D R RL EE EL EI RI Sl Out SS Wy An Cs Ws WR Wk)
section
variable {C:Ctx}{a e:Expr}{f:EE}{pos:Pos}
theorem lookS_get {K:PySem.W.Frag}{H:Hp}{n:String}{d:D}:∀ {ns:List String} {ds:List D} {vs:List V},Dv.lookS ns ds n=some d->RpL K H ds vs->∃ u,(n,u)∈ns.zip vs/\Rp K H d u
 | [],_,_,h,_=>by simp[Dv.lookS] at h
 | _::_,[],_,h,_=>by simp[Dv.lookS] at h
 | k::ks,x::xs,vs,h,r=>by
  unfold RpL at r
  obtain⟨v,ws,rfl,h1,h2⟩:=r
  simp only[Dv.lookS] at h
  by_cases q:k=n
  ·rw[if_pos q] at h; cases h; subst q
   exact⟨v,by simp,h1⟩
  ·rw[if_neg q] at h
   obtain⟨u,hu,hr⟩:=lookS_get h h2
   exact⟨u,List.mem_cons_of_mem _ hu,hr⟩
theorem se_fld {n:String}(he:SE C e f)(hb:autoParam (attributeBase e (Str.ofString n) C.X.env (eval e C.X.env)=eval e C.X.env) Au.h5._auto_1):SE C (.Attribute e (Str.ofString n) pos) (Dv.eFld n f):=by
 obtain⟨t,p,q⟩:=he
 refine⟨_,pe_fld p hb,fun σ H Hv ρ Q er s w=>?_⟩
 refine q.step er (.refl s) w fun v d fr Hv1 H1 _ x1 _ rx n1 q1=>?_
 cases d with
 | ins ns ds =>
  simp only[Dv.fldD] at q1
  cases hl:Dv.lookS ns ds n with
  | none=>rw[hl] at q1; exact(show False from q1).elim
  | some d' =>
   rw[hl] at q1
   unfold Rp at rx
   obtain⟨a,C0,dx,fs,vs,rfl,h2,h3,h4,h5,h6⟩:=rx
   obtain⟨u,hu,ru⟩:=lookS_get hl h6
   obtain⟨na,lk⟩:=h5 n u hu
   exact⟨a,C0,dx,fs,u,rfl,x1.vh _ _ h2,h3,na,lk,q1 u Hv1 H1 x1 ru fun z=>ru.scal z⟩
 | _=>exact(show False from q1).elim
theorem call_lenDr {X:Cx}:CallR X (.builtin "len") (fun xs H Q=>∃ a kvs,xs=[V.ref a]/\Rd H a (.dK kvs)/\Q (.int kvs.length) H):=by
 intro pins s σ H xs us Q I r h
 obtain⟨a,kvs,rfl,ha,q⟩:=h
 obtain⟨u,rfl,ru⟩:=vals1 r
 cases ru
 exact d_len I ha fun t s' I'=>⟨.int kvs.length,H,I',⟨t,rfl⟩,q⟩
end
noncomputable def wf (wa wl rl:Addr)(g:Int):List (Str × V):=[("ways",.ref wa),("waiting",.ref wl),("rows",.ref rl),("gone",.int g)]
noncomputable def cf (lb b:Addr)(t:Int):List (Str × V):=[("laid",.ref lb),("answers",.ref b),("at",.int t)]
section
variable {wa wl rl lb b:Addr}{g t:Int}
theorem wf_ways:(wf wa wl rl g).lookup ("ways":Str)=some (V.ref wa):=rfl
theorem wf_waiting:(wf wa wl rl g).lookup ("waiting":Str)=some (V.ref wl):=rfl
theorem wf_rows:(wf wa wl rl g).lookup ("rows":Str)=some (V.ref rl):=rfl
theorem wf_gone:(wf wa wl rl g).lookup ("gone":Str)=some (V.int g):=rfl
theorem wf_go:(wf wa wl rl g).lookup ("go_on":Str)=none:=rfl
theorem wf_write:(wf wa wl rl g).lookup ("write_row":Str)=none:=rfl
theorem cf_laid:(cf lb b t).lookup ("laid":Str)=some (V.ref lb):=rfl
theorem cf_answers:(cf lb b t).lookup ("answers":Str)=some (V.ref b):=rfl
theorem cf_at:(cf lb b t).lookup ("at":Str)=some (V.int t):=rfl
theorem wf_mk:putF "gone" (.int g) (putF "rows" (.ref rl) (putF "waiting" (.ref wl) (putF "ways" (.ref wa) [])))=wf wa wl rl g:=rfl
end
structure WkT (K:PySem.W.Frag)(CW CC:Addr):Prop where
 clW:Cls K CW
 clC:Cls K CC
 nWays:NoAttr K CW "ways"
 nWaiting:NoAttr K CW "waiting"
 nRows:NoAttr K CW "rows"
 nGone:NoAttr K CW "gone"
 nLaid:NoAttr K CC "laid"
 nAnswers:NoAttr K CC "answers"
 nAt:NoAttr K CC "at"
noncomputable def twiS:Str:="twice"
noncomputable def rowS:Str:="row"
noncomputable def AnAt (Hs H₀:Hp):An->V->Prop
 | .non,v=>v=.non
 | .twi p,v=>∃ q,v=.ref q/\Hs q=some (.tup [.str twiS,.int p])/\H₀ q=none
 | .row k,v=>∃ q,v=.ref q/\Hs q=some (.tup [.str rowS,.int k])/\H₀ q=none
noncomputable def RowAt (Hs H₀:Hp)(an:List Addr)(p:Int × Nat)(v:V):Prop:=∃ r b,v=.ref r/\Hs r=some (.tup [.int p.1,.ref b])/\H₀ r=none/\an[p.2]?=some b
noncomputable def CsAt (K:PySem.W.Frag)(CC:Addr)(Hs:Hp)(an:List Addr)(c:Cs)(v:V):Prop:=∃ x dc lb b,v=.ref x/\Hs x=some (.ins CC dc (cf lb b c.at_))/\Rp K Hs (Dv.wyL c.laid) (.ref lb)/\an[c.ix]?=some b
noncomputable def StAt (Hs H₀ H:Hp)(l:List An)(b:Addr):Prop:=∃ vs,H b=some (.lst vs)/\Paired (AnAt Hs H₀) l vs
structure WkAt (K:PySem.W.Frag)(CW CC:Addr)(Hs H H₀:Hp)(a wl rl:Addr)(an:List Addr)(w:Ws):Prop where
 sv:Same Hs H
 oh:Same H₀ H
 nd:(a::wl::rl::an).Nodup
 no:∀ b∈a::wl::rl::an,Hs b=none/\H₀ b=none
 slf:∃ dx wa,H a=some (.ins CW dx (wf wa wl rl w.gone))/\Rp K Hs (Dv.wysD w.wys) (.ref wa)
 wai:∃ vs,H wl=some (.lst vs)/\Paired (CsAt K CC Hs an) w.wait vs
 row:∃ vs,H rl=some (.lst vs)/\Paired (RowAt Hs H₀ an) w.rows vs
 sto:Paired (StAt Hs H₀ H) w.sto an
theorem AnAt.same {Hs Hs' H₀:Hp}(e:Same Hs Hs'){x:An}{v:V}(h:AnAt Hs H₀ x v):AnAt Hs' H₀ x v:=by
 cases x with
 | non=>exact h
 | twi p=>obtain⟨q,h1,h2,h3⟩:=h; exact⟨q,h1,e _ _ h2,h3⟩
 | row p=>obtain⟨q,h1,h2,h3⟩:=h; exact⟨q,h1,e _ _ h2,h3⟩
theorem RowAt.same {Hs Hs' H₀:Hp}{an an':List Addr}(e:Same Hs Hs')(ea:∀ (i:Nat) b,an[i]?=some b->an'[i]?=some b){x:Int × Nat}{v:V}(h:RowAt Hs H₀ an x v):RowAt Hs' H₀ an' x v:=by
 obtain⟨r,b,h1,h2,h3,h4⟩:=h; exact⟨r,b,h1,e _ _ h2,h3,ea _ _ h4⟩
theorem CsAt.same {K:PySem.W.Frag}{CC:Addr}{Hs Hs':Hp}{an an':List Addr}(e:Same Hs Hs')(ea:∀ (i:Nat) b,an[i]?=some b->an'[i]?=some b){x:Cs}{v:V}(h:CsAt K CC Hs an x v):CsAt K CC Hs' an' x v:=by
 obtain⟨x,dc,lb,b,h1,h2,h3,h4⟩:=h; exact⟨x,dc,lb,b,h1,e _ _ h2,h3.same e,ea _ _ h4⟩
theorem Paired.memR {α β:Type}{F:α->β->Prop}{l:List α}{r:List β}(h:Paired F l r):∀ b∈r,∃ a∈l,F a b:=by
 induction h with
 | nil=>intro b hb; cases hb
 | cons x _ ih =>
  intro b hb
  rcases List.mem_cons.mp hb with rfl|hb
  ·exact⟨_,List.mem_cons_self,x⟩
  ·obtain⟨a,h1,h2⟩:=ih b hb
   exact⟨a,List.mem_cons_of_mem _ h1,h2⟩
section
variable {K:PySem.W.Frag}{CW CC:Addr}{Hs Hs' H H' H₀:Hp}{a wl rl:Addr}{an:List Addr}{w:Ws}
theorem Paired.mapM {α β:Type}{F G:α->β->Prop}{l:List α}{r:List β}(h:Paired F l r)(f:∀ a b,b∈r->F a b->G a b):Paired G l r:=by
 induction h with
 | nil=>exact .nil
 | cons x _ ih=>exact .cons (f _ _ List.mem_cons_self x) (ih fun a b hb q=>f a b (List.mem_cons_of_mem _ hb) q)
theorem WkAt.grow (x:WkAt K CW CC Hs H H₀ a wl rl an w)(s:Same Hs Hs')(sv:Same Hs' H')(oh:Same H₀ H')(hh:∀ b∈a::wl::rl::an,∀ o,H b=some o->H' b=some o)(no:∀ b∈a::wl::rl::an,Hs' b=none):WkAt K CW CC Hs' H' H₀ a wl rl an w:=by
 refine⟨sv,oh,x.nd,fun b hb=>⟨no b hb,(x.no b hb).2⟩,?_,?_,?_,?_⟩
 ·obtain⟨dx,wa,h1,h2⟩:=x.slf
  exact⟨dx,wa,hh _ (by simp) _ h1,h2.same s⟩
 ·obtain⟨vs,h1,h2⟩:=x.wai
  exact⟨vs,hh _ (by simp) _ h1,Paired.mapM h2 fun _ _ _ q=>q.same s fun _ _ e=>e⟩
 ·obtain⟨vs,h1,h2⟩:=x.row
  exact⟨vs,hh _ (by simp) _ h1,Paired.mapM h2 fun _ _ _ q=>q.same s fun _ _ e=>e⟩
 ·exact Paired.mapM x.sto fun l b hb ⟨vs,h1,h2⟩=>⟨vs,hh _ (by simp[hb]) _ h1,Paired.mapM h2 fun _ _ _ q=>q.same s⟩
theorem WkAt.has (x:WkAt K CW CC Hs H H₀ a wl rl an w):∀ b∈a::wl::rl::an,∃ o,H b=some o:=by
 intro b hb
 rcases List.mem_cons.mp hb with rfl|hb
 ·obtain⟨_,_,h,_⟩:=x.slf; exact⟨_,h⟩
 rcases List.mem_cons.mp hb with rfl|hb
 ·obtain⟨_,h,_⟩:=x.wai; exact⟨_,h⟩
 rcases List.mem_cons.mp hb with rfl|hb
 ·obtain⟨_,h,_⟩:=x.row; exact⟨_,h⟩
 ·obtain⟨_,_,_,h,_⟩:=Paired.memR x.sto b hb; exact⟨_,h⟩
theorem WkAt.ext (x:WkAt K CW CC Hs H H₀ a wl rl an w)(e:Ext Hs H Hs' H'):WkAt K CW CC Hs' H' H₀ a wl rl an w:=by
 refine x.grow e.vv e.vh (x.oh.trans e.hh) (fun b _ o q=>e.hh b o q) fun b hb=>?_
 cases q:Hs' b with
 | none=>rfl
 | some o =>
  obtain⟨u,hu⟩:=x.has b hb
  rw[e.new b o q (x.no b hb).1] at hu
  cases hu
theorem WkAt.hext (x:WkAt K CW CC Hs H H₀ a wl rl an w)(e:Same H H'):WkAt K CW CC Hs H' H₀ a wl rl an w :=
 x.grow (.refl _) (x.sv.trans e) (x.oh.trans e) (fun b _ o q=>e b o q) fun b hb=>(x.no b hb).1
end
structure Stp (Hs H:Hp)(M:List Addr)(Hs' H':Hp)(M':List Addr):Prop where
 ss:Same Hs Hs'
 nw:∀ b o,Hs' b=some o->Hs b=none->H b=none
 kp:∀ b o,H b=some o->b∉M->H' b=some o
 dm:∀ b o,H b=some o->∃ o',H' b=some o'
 fz:∀ b o u,H' b=some (.frz o u)->H b=some (.frz o u)
 mm:∀ b∈M',b∈M\/H b=none
section
variable {Hs H Hs1 H1 Hs2 H2:Hp}{M M1 M2:List Addr}
theorem Stp.refl:Stp Hs H M Hs H M:=⟨.refl _,fun b o h n=>(by rw[n] at h; cases h),fun b o h _=>h,fun b o h=>⟨o,h⟩,fun _ _ _ h=>h,fun b h=>.inl h⟩
theorem Stp.trans (x:Stp Hs H M Hs1 H1 M1)(y:Stp Hs1 H1 M1 Hs2 H2 M2):Stp Hs H M Hs2 H2 M2:=by
 refine⟨x.ss.trans y.ss,fun b o h n=>?_,fun b o h n=>?_,fun b o h=>?_,fun b o u h=>x.fz b o u (y.fz b o u h),fun b h=>?_⟩
 ·cases q:Hs1 b with
  | some u=>exact x.nw b u q n
  | none =>
   have h1:=y.nw b o h q
   cases z:H b with
   | none=>rfl
   | some u=>obtain⟨u',hu⟩:=x.dm b u z; rw[h1] at hu; cases hu
 ·refine y.kp b o (x.kp b o h n) fun z=>?_
  rcases x.mm b z with z|z
  ·exact n z
  ·rw[z] at h; cases h
 ·obtain⟨u,hu⟩:=x.dm b o h
  exact y.dm b u hu
 ·rcases y.mm b h with h|h
  ·exact x.mm b h
  ·refine .inr ?_
   cases z:H b with
   | none=>rfl
   | some u=>obtain⟨u',hu⟩:=x.dm b u z; rw[h] at hu; cases hu
theorem Stp.write {m:Addr}{o:HO}(hm:m∈M)(ho:∀ a u,o≠.frz a u):Stp Hs H M Hs (upd H m o) M:=by
 refine⟨.refl _,fun b o h n=>(by rw[n] at h; cases h),fun b o' h n=>?_,fun b o' h=>?_,fun b o' u h=>?_,fun b h=>.inl h⟩
 ·rw[upd_ne (show b≠m from fun e=>n (by rw[e]; exact hm))]; exact h
 ·by_cases e:b=m
  ·subst e; exact⟨o,upd_same⟩
  ·exact⟨o',by rw[upd_ne e]; exact h⟩
 ·by_cases e:b=m
  ·subst e; rw[upd_same] at h; exact absurd (Option.some.inj h) (ho _ _)
  ·rw[upd_ne e] at h; exact h
theorem Stp.ext (e:Ext Hs H Hs1 H1):Stp Hs H M Hs1 H1 M :=
 ⟨e.vv,e.new,fun b o h _=>e.hh b o h,fun b o h=>⟨o,e.hh b o h⟩,fun b o u h=>(by
  cases q:H b with
  | none=>exact absurd h (e.nf b o u q)
  | some z=>rw[e.hh b z q] at h; exact h),fun b h=>.inl h⟩
theorem Stp.hext (e:Same H H1)(nf:∀ b o u,H b=none->H1 b≠some (.frz o u)):Stp Hs H M Hs H1 M :=
 ⟨.refl _,fun b o h n=>(by rw[n] at h; cases h),fun b o h _=>e b o h,fun b o h=>⟨o,e b o h⟩,fun b o u h=>(by
  cases q:H b with
  | none=>exact absurd h (nf b o u q)
  | some z=>rw[e b z q] at h; exact h),fun b h=>.inl h⟩
theorem Stp.newM {p:Addr}{o:HO}(hp:H p=none)(ho:∀ a u,o≠.frz a u)(hM:∀ b∈M1,b∈M\/b=p):Stp Hs H M Hs (upd H p o) M1:=by
 refine⟨.refl _,fun b o h n=>(by rw[n] at h; cases h),fun b o' h n=>?_,fun b o' h=>?_,fun b o' u h=>?_,fun b h=>?_⟩
 ·rw[upd_ne (ne_of_none h hp)]; exact h
 ·exact⟨o',by rw[upd_ne (ne_of_none h hp)]; exact h⟩
 ·by_cases e:b=p
  ·subst e; rw[upd_same] at h; exact absurd (Option.some.inj h) (ho _ _)
  ·rw[upd_ne e] at h; exact h
 ·rcases hM b h with h|rfl
  ·exact .inl h
  ·exact .inr hp
end
theorem upd_none {H:Hp}{a b:Addr}{o:HO}(h:upd H a o b=none):b≠a/\H b=none:=by
 by_cases e:b=a
 ·subst e; rw[upd_same] at h; cases h
 ·rw[upd_ne e] at h; exact⟨e,h⟩
noncomputable def spCI (CC:Addr):Sp:=fun vs H Q _=>∃ (x dx l b:Addr) (t:Int),vs=[.ref x,.ref l,.ref b,.int t]/\H x=some (.ins CC dx [])/\Q .non (upd H x (.ins CC dx (cf l b t)))
theorem spCI_len {CC:Addr}(vs:List V)(H:Hp)(Q:VK)(E:XK)(h:spCI CC vs H Q E):vs.length=4:=by
 obtain⟨_,_,_,_,_,rfl,_⟩:=h; rfl
noncomputable def tCI (K:PySem.W.Frag):TS:=tSeq (sFld K (tVar 0) (tVar 1) "laid") (tSeq (sFld K (tVar 0) (tVar 2) "answers") (sFld K (tVar 0) (tVar 3) "at"))
theorem ci_read {K:PySem.W.Frag}{CW CC:Addr}{vs:List V}{H:Hp}{Q:VK}{E:XK}(T:WkT K CW CC)(h:spCI CC vs H Q E) :
  tCI K { nx:=fun _ H'=>Q .non H',rt:=Q } (L2.start ["self","laid","answers","at"] vs) H:=by
 obtain⟨x,dx,l,b,t,rfl,hx,q⟩:=h
 refine⟨_,rfl,_,rfl,x,CC,dx,[],rfl,hx,T.clC,T.nLaid,(by decide),?_⟩
 refine⟨_,rfl,_,rfl,x,CC,dx,_,rfl,upd_same,T.clC,T.nAnswers,(by show 1<1000; decide),?_⟩
 refine⟨_,rfl,_,rfl,x,CC,dx,_,rfl,upd_same,T.clC,T.nAt,(by show 2<1000; decide),?_⟩
 rw[upd_upd,upd_upd]
 exact q
noncomputable def spWI (K:PySem.W.Frag)(CW CC:Addr):Sp:=fun vs H Q _=>∃ (x dx wa lb:Addr) (Hs H₀:Hp) (wys:List (List Wy)) (laid:List Wy),vs=[.ref x,.ref wa,.ref lb]/\H x=some (.ins CW dx [])/\Same Hs H/\Hs x=none/\Same H₀ H/\H₀ x=none /\
 Rp K Hs (Dv.wysD wys) (.ref wa)/\Rp K Hs (Dv.wyL laid) (.ref lb)/\∀ Hs' H' wl rl an,WkAt K CW CC Hs' H' H₀ x wl rl an (Dv.w0 wys laid)->Stp Hs H [x] Hs' H' (x::wl::rl::an)->Q .non H'
theorem spWI_len {K:PySem.W.Frag}{CW CC:Addr}(vs:List V)(H:Hp)(Q:VK)(E:XK)(h:spWI K CW CC vs H Q E):vs.length=3:=by
 obtain⟨_,_,_,_,_,_,_,_,rfl,_⟩:=h; rfl
noncomputable def tWI (K:PySem.W.Frag)(CC:Addr)(E:XK):TS:=tSeq (sFld K (tVar 0) (tVar 1) "ways") (tSeq (sFld K (tVar 0) (tLst (tCons (tMake CC (spCI CC) [] E (tCons (tVar 2) (tCons (tLst (tCons (tC .non) tNil)) (tCons (tC (.int 0)) tNil)))) tNil)) "waiting") (tSeq (sFld K (tVar 0) (tLst tNil) "rows") (sFld K (tVar 0) (tC (.int 0)) "gone")))
theorem wi_read {K:PySem.W.Frag}{CW CC:Addr}{vs:List V}{H:Hp}{Q:VK}{E:XK}(T:WkT K CW CC)(h:spWI K CW CC vs H Q E) :
  tWI K CC E { nx:=fun _ H'=>Q .non H',rt:=Q } (L2.start ["self","ways","laid"] vs) H:=by
 obtain⟨x,dx,wa,lb,Hs,H₀,wys,laid,rfl,hx,sv,hsx,s0,h0x,rw_,rl_,q⟩:=h
 refine⟨_,rfl,_,rfl,x,CW,dx,[],rfl,hx,T.clW,T.nWays,(by decide),?_⟩
 refine⟨_,rfl,(by show 1<=sizeLine; decide),fun p hp=>?_⟩
 intro c dc hc hdc hne
 refine⟨c,dc,lb,p,0,rfl,upd_same,rfl,(by show 1<=sizeLine; decide),fun wl hwl=>?_⟩
 obtain⟨px,hp⟩:=upd_none hp
 obtain⟨cp,hc⟩:=upd_none hc
 obtain⟨cx,hc⟩:=upd_none hc
 obtain⟨dp,hdc⟩:=upd_none hdc
 obtain⟨dxx,hdc⟩:=upd_none hdc
 obtain⟨wc,hwl⟩:=upd_none hwl
 obtain⟨_,hwl⟩:=upd_none hwl
 obtain⟨wd,hwl⟩:=upd_none hwl
 obtain⟨wp,hwl⟩:=upd_none hwl
 obtain⟨wx,hwl⟩:=upd_none hwl
 have e1:upd (upd (upd (upd (upd H x (.ins CW dx (putF "ways" (.ref wa) []))) p (.lst [.non])) dc (.own c)) c (.ins CC dc [])) c (.ins CC dc (cf lb p 0))=upd (upd (upd (upd H x (.ins CW dx (putF "ways" (.ref wa) []))) p (.lst [.non])) dc (.own c)) c (.ins CC dc (cf lb p 0)):=upd_upd
 refine⟨_,rfl,x,CW,dx,putF "ways" (.ref wa) [],rfl,?_,T.clW,T.nWaiting,(by show 1<1000; decide),?_⟩
 ·rw[e1,upd_ne (Ne.symm wx),upd_ne (Ne.symm cx),upd_ne (Ne.symm dxx),upd_ne (Ne.symm px),upd_same]
 refine⟨(by show 0<=sizeLine; decide),fun rl hrl=>?_⟩
 obtain⟨rx,hrl⟩:=upd_none hrl
 obtain⟨rw',hrl⟩:=upd_none hrl
 obtain⟨rc,hrl⟩:=upd_none hrl
 obtain⟨_,hrl⟩:=upd_none hrl
 obtain⟨rd,hrl⟩:=upd_none hrl
 obtain⟨rp,hrl⟩:=upd_none hrl
 obtain⟨_,hrl⟩:=upd_none hrl
 refine⟨_,rfl,x,CW,dx,putF "waiting" (.ref wl) (putF "ways" (.ref wa) []),rfl,?_,T.clW,T.nRows,(by show 2<1000; decide),?_⟩
 ·rw[upd_ne (Ne.symm rx),upd_same]
 refine⟨_,rfl,x,CW,dx,_,rfl,upd_same,T.clW,T.nGone,(by show 3<1000; decide),?_⟩
 rw[e1]
 show Q .non _
 rw[show putF "gone" (V.int 0) (putF "rows" (V.ref rl) (putF "waiting" (V.ref wl) (putF "ways" (V.ref wa) [])))=wf wa wl rl 0 from wf_mk]
 have oth:∀ b,b≠x->b≠p->b≠dc->b≠c->b≠wl->b≠rl->upd (upd (upd (upd (upd (upd (upd (upd (upd H x (.ins CW dx (putF "ways" (.ref wa) []))) p (.lst [.non])) dc (.own c)) c (.ins CC dc (cf lb p 0))) wl (.lst [.ref c])) x (.ins CW dx (putF "waiting" (.ref wl) (putF "ways" (.ref wa) [])))) rl (.lst [])) x (.ins CW dx (putF "rows" (.ref rl) (putF "waiting" (.ref wl) (putF "ways" (.ref wa) []))))) x (.ins CW dx (wf wa wl rl 0)) b=H b:=by
  intro b h1 h2 h3 h4 h5 h6
  rw[upd_ne h1,upd_ne h1,upd_ne h6,upd_ne h1,upd_ne h5,upd_ne h4,upd_ne h3,upd_ne h2,upd_ne h1]
 have aX:upd (upd (upd (upd (upd (upd (upd (upd (upd H x (.ins CW dx (putF "ways" (.ref wa) []))) p (.lst [.non])) dc (.own c)) c (.ins CC dc (cf lb p 0))) wl (.lst [.ref c])) x (.ins CW dx (putF "waiting" (.ref wl) (putF "ways" (.ref wa) [])))) rl (.lst [])) x (.ins CW dx (putF "rows" (.ref rl) (putF "waiting" (.ref wl) (putF "ways" (.ref wa) []))))) x (.ins CW dx (wf wa wl rl 0)) x=some (.ins CW dx (wf wa wl rl 0)):=upd_same
 have aP:upd (upd (upd (upd (upd (upd (upd (upd (upd H x (.ins CW dx (putF "ways" (.ref wa) []))) p (.lst [.non])) dc (.own c)) c (.ins CC dc (cf lb p 0))) wl (.lst [.ref c])) x (.ins CW dx (putF "waiting" (.ref wl) (putF "ways" (.ref wa) [])))) rl (.lst [])) x (.ins CW dx (putF "rows" (.ref rl) (putF "waiting" (.ref wl) (putF "ways" (.ref wa) []))))) x (.ins CW dx (wf wa wl rl 0)) p=some (.lst [.non]):=by
  rw[upd_ne px,upd_ne px,upd_ne (Ne.symm rp),upd_ne px,upd_ne (Ne.symm wp),upd_ne (Ne.symm cp),upd_ne (Ne.symm dp),upd_same]
 have aC:upd (upd (upd (upd (upd (upd (upd (upd (upd H x (.ins CW dx (putF "ways" (.ref wa) []))) p (.lst [.non])) dc (.own c)) c (.ins CC dc (cf lb p 0))) wl (.lst [.ref c])) x (.ins CW dx (putF "waiting" (.ref wl) (putF "ways" (.ref wa) [])))) rl (.lst [])) x (.ins CW dx (putF "rows" (.ref rl) (putF "waiting" (.ref wl) (putF "ways" (.ref wa) []))))) x (.ins CW dx (wf wa wl rl 0)) c=some (.ins CC dc (cf lb p 0)):=by
  rw[upd_ne cx,upd_ne cx,upd_ne (Ne.symm rc),upd_ne cx,upd_ne (Ne.symm wc),upd_same]
 have aW:upd (upd (upd (upd (upd (upd (upd (upd (upd H x (.ins CW dx (putF "ways" (.ref wa) []))) p (.lst [.non])) dc (.own c)) c (.ins CC dc (cf lb p 0))) wl (.lst [.ref c])) x (.ins CW dx (putF "waiting" (.ref wl) (putF "ways" (.ref wa) [])))) rl (.lst [])) x (.ins CW dx (putF "rows" (.ref rl) (putF "waiting" (.ref wl) (putF "ways" (.ref wa) []))))) x (.ins CW dx (wf wa wl rl 0)) wl=some (.lst [.ref c]):=by
  rw[upd_ne wx,upd_ne wx,upd_ne (Ne.symm rw'),upd_ne wx,upd_same]
 have aR:upd (upd (upd (upd (upd (upd (upd (upd (upd H x (.ins CW dx (putF "ways" (.ref wa) []))) p (.lst [.non])) dc (.own c)) c (.ins CC dc (cf lb p 0))) wl (.lst [.ref c])) x (.ins CW dx (putF "waiting" (.ref wl) (putF "ways" (.ref wa) [])))) rl (.lst [])) x (.ins CW dx (putF "rows" (.ref rl) (putF "waiting" (.ref wl) (putF "ways" (.ref wa) []))))) x (.ins CW dx (wf wa wl rl 0)) rl=some (.lst []):=by
  rw[upd_ne rx,upd_ne rx,upd_same]
 have aD:upd (upd (upd (upd (upd (upd (upd (upd (upd H x (.ins CW dx (putF "ways" (.ref wa) []))) p (.lst [.non])) dc (.own c)) c (.ins CC dc (cf lb p 0))) wl (.lst [.ref c])) x (.ins CW dx (putF "waiting" (.ref wl) (putF "ways" (.ref wa) [])))) rl (.lst [])) x (.ins CW dx (putF "rows" (.ref rl) (putF "waiting" (.ref wl) (putF "ways" (.ref wa) []))))) x (.ins CW dx (wf wa wl rl 0)) dc=some (.own c):=by
  rw[upd_ne dxx,upd_ne dxx,upd_ne (Ne.symm rd),upd_ne dxx,upd_ne (Ne.symm wd),upd_ne hne,upd_same]
 revert oth aX aP aC aW aR aD
 generalize upd (upd (upd (upd (upd (upd (upd (upd (upd H x (.ins CW dx (putF "ways" (.ref wa) []))) p (.lst [.non])) dc (.own c)) c (.ins CC dc (cf lb p 0))) wl (.lst [.ref c])) x (.ins CW dx (putF "waiting" (.ref wl) (putF "ways" (.ref wa) [])))) rl (.lst [])) x (.ins CW dx (putF "rows" (.ref rl) (putF "waiting" (.ref wl) (putF "ways" (.ref wa) []))))) x (.ins CW dx (wf wa wl rl 0))=Hz
 intro oth aX aP aC aW aR aD
 have hsc:Hs c=none:=sv.free hc
 have sC:Same Hs (upd Hs c (.ins CC dc (cf lb p 0))):=same_upd hsc _
 have far:∀ b o,H b=some o->b≠x->b≠p/\b≠dc/\b≠c/\b≠wl/\b≠rl:=fun b o e _=>⟨ne_of_none e hp,ne_of_none e hdc,ne_of_none e hc,ne_of_none e hwl,ne_of_none e hrl⟩
 have keep:∀ b o,H b=some o->b≠x->Hz b=some o:=fun b o e hb=>by
  obtain⟨h2,h3,h4,h5,h6⟩:=far b o e hb
  rw[oth b hb h2 h3 h4 h5 h6]; exact e
 have hsv:Same (upd Hs c (.ins CC dc (cf lb p 0))) Hz:=fun b o e=>by
  by_cases z:b=c
  ·subst z; rw[upd_same] at e; cases e; exact aC
  ·rw[upd_ne z] at e
   exact keep b o (sv b o e) fun z=>by subst z; rw[hsx] at e; cases e
 have mem:∀ {P:Addr->Prop},P x->P wl->P rl->P p->∀ b∈[x,wl,rl,p],P b:=by
  intro P h1 h2 h3 h4 b hb
  simp only[List.mem_cons,List.not_mem_nil,or_false] at hb
  rcases hb with rfl|rfl|rfl|rfl <;>assumption
 refine q (upd Hs c (.ins CC dc (cf lb p 0))) Hz wl rl [p] ⟨hsv,fun b o e=>keep b o (s0 b o e) (fun z=>by subst z; rw[h0x] at e; cases e),?_,?_,⟨dx,wa,aX,rw_.same sC⟩,⟨_,aW,.cons ⟨c,dc,lb,p,rfl,upd_same,rl_.same sC,rfl⟩ .nil⟩,⟨_,aR,.nil⟩,.cons ⟨_,aP,.cons rfl .nil⟩ .nil⟩
  ⟨sC,fun b o e n=>?_,fun b o e n=>keep b o e (by simpa using n),fun b o e=>?_,fun b o u e=>?_,?_⟩
 ·simp only[List.nodup_cons,List.mem_cons,List.not_mem_nil,or_false,not_or,not_false_eq_true,List.nodup_nil,and_true]
  exact⟨⟨Ne.symm wx,Ne.symm rx,Ne.symm px⟩,⟨Ne.symm rw',wp⟩,rp⟩
 ·refine mem ?_ ?_ ?_ ?_
  ·exact⟨by rw[upd_ne (Ne.symm cx)]; exact hsx,h0x⟩
  ·exact⟨by rw[upd_ne wc]; exact sv.free hwl,s0.free hwl⟩
  ·exact⟨by rw[upd_ne rc]; exact sv.free hrl,s0.free hrl⟩
  ·exact⟨by rw[upd_ne (Ne.symm cp)]; exact sv.free hp,s0.free hp⟩
 ·by_cases z:b=c
  ·subst z; exact hc
  ·rw[upd_ne z,n] at e; cases e
 ·by_cases z:b=x
  ·subst z; exact⟨_,aX⟩
  ·exact⟨o,keep b o e z⟩
 ·by_cases z:b=x
  ·subst z; rw[aX] at e; cases e
  by_cases z2:b=p
  ·subst z2; rw[aP] at e; cases e
  by_cases z3:b=dc
  ·subst z3; rw[aD] at e; cases e
  by_cases z4:b=c
  ·subst z4; rw[aC] at e; cases e
  by_cases z5:b=wl
  ·subst z5; rw[aW] at e; cases e
  by_cases z6:b=rl
  ·subst z6; rw[aR] at e; cases e
  rw[oth b z z2 z3 z4 z5 z6] at e
  exact e
 ·exact mem (.inl (by simp)) (.inr hwl) (.inr hrl) (.inr hp)
theorem Paired.gets {α β:Type}{F:α->β->Prop}{l:List α}{r:List β}(h:Paired F l r):∀ {i:Nat} {x:α},l[i]?=some x->∃ y,r[i]?=some y/\F x y:=by
 induction h with
 | nil=>intro i x e; simp at e
 | cons q _ ih =>
  intro i x e
  cases i with
  | zero=>simp at e; subst e; exact⟨_,rfl,q⟩
  | succ i=>obtain⟨y,h1,h2⟩:=ih (by simpa using e); exact⟨y,by simpa using h1,h2⟩
theorem Paired.append {α β:Type}{F:α->β->Prop}{l l':List α}{r r':List β}(h:Paired F l r)(g:Paired F l' r'):Paired F (l++l') (r++r'):=by
 induction h with
 | nil=>exact g
 | cons q _ ih=>exact .cons q ih
theorem Paired.rev {α β:Type}{F:α->β->Prop}{l:List α}{r:List β}(h:Paired F l r):Paired F l.reverse r.reverse:=by
 induction h with
 | nil=>exact .nil
 | cons q _ ih=>rw[List.reverse_cons,List.reverse_cons]; exact Paired.append ih (.cons q .nil)
theorem Paired.dropLast {α β:Type}{F:α->β->Prop}{l:List α}{r:List β}(h:Paired F l r):Paired F l.dropLast r.dropLast:=by
 induction h with
 | nil=>exact .nil
 | cons q t ih =>
  cases t with
  | nil=>exact .nil
  | cons q' t'=>exact .cons q ih
theorem Paired.set {α β:Type}{F:α->β->Prop}{l:List α}{r:List β}{x:α}{y:β}(q:F x y)(h:Paired F l r):∀ i:Nat,Paired F (l.set i x) (r.set i y):=by
 induction h with
 | nil=>intro i; exact .nil
 | cons z t ih =>
  intro i
  cases i with
  | zero=>exact .cons q t
  | succ i=>exact .cons z (ih i)
theorem Paired.maps {α β γ:Type}{F:α->β->Prop}{G:γ->β->Prop}{l:List α}{r:List β}{f:α->γ}(h:Paired F l r)(q:∀ a b,F a b->G (f a) b):Paired G (l.map f) r:=by
 induction h with
 | nil=>exact .nil
 | cons z _ ih=>exact .cons (q _ _ z) ih
noncomputable def FdAt (K:PySem.W.Frag)(CC:Addr)(Hs:Hp)(ab:Addr)(p:List Wy × Nat)(v:V):Prop:=∃ x dc lb,v=.ref x/\Hs x=some (.ins CC dc (cf lb ab p.2))/\Rp K Hs (Dv.wyL p.1) (.ref lb)
structure LpAt (K:PySem.W.Frag)(CW CC:Addr)(Hs H H₀:Hp)(a wl rl:Addr)(an:List Addr)(w:Ws)(ab fb:Addr)(as:List An)(fnd:List (List Wy × Nat)):Prop where
 wk:WkAt K CW CC Hs H H₀ a wl rl an w
 na:Hs ab=none/\H₀ ab=none/\ab∉a::wl::rl::an
 nf:Hs fb=none/\H₀ fb=none/\fb∉a::wl::rl::an/\fb≠ab
 ha:∃ avs,H ab=some (.lst avs)/\Paired (AnAt Hs H₀) as avs
 hf:∃ fvs,H fb=some (.lst fvs)/\Paired (FdAt K CC Hs ab) fnd fvs
section
variable {K:PySem.W.Frag}{CW CC:Addr}{Hs Hs' H H' H₀:Hp}{a wl rl ab fb:Addr}{an:List Addr}{w:Ws}{as:List An}{fnd:List (List Wy × Nat)}
theorem FdAt.same (e:Same Hs Hs'){x:List Wy × Nat}{v:V}(h:FdAt K CC Hs ab x v):FdAt K CC Hs' ab x v:=by
 obtain⟨x,dc,lb,h1,h2,h3⟩:=h; exact⟨x,dc,lb,h1,e _ _ h2,h3.same e⟩
theorem WkAt.other (x:WkAt K CW CC Hs H H₀ a wl rl an w){b:Addr}{o:HO}(h1:Hs b=none)(h0:H₀ b=none)(h2:b∉a::wl::rl::an):WkAt K CW CC Hs (upd H b o) H₀ a wl rl an w :=
 x.grow (.refl _) (fun c u e=>by rw[upd_ne (show c≠b from fun z=>by subst z; rw[h1] at e; cases e)]; exact x.sv c u e)
  (fun c u e=>by rw[upd_ne (show c≠b from fun z=>by subst z; rw[h0] at e; cases e)]; exact x.oh c u e) (fun c hc u e=>by rw[upd_ne (show c≠b from fun z=>by subst z; exact h2 hc)]; exact e) fun c hc=>(x.no c hc).1
theorem ext_none (e:Ext Hs H Hs' H'){b:Addr}{o:HO}(h1:Hs b=none)(h2:H b=some o):Hs' b=none:=by
 cases q:Hs' b with
 | none=>rfl
 | some u=>rw[e.new b u q h1] at h2; cases h2
theorem LpAt.ext (x:LpAt K CW CC Hs H H₀ a wl rl an w ab fb as fnd)(e:Ext Hs H Hs' H'):LpAt K CW CC Hs' H' H₀ a wl rl an w ab fb as fnd:=by
 obtain⟨avs,h1,h2⟩:=x.ha
 obtain⟨fvs,h3,h4⟩:=x.hf
 exact⟨x.wk.ext e,⟨ext_none e x.na.1 h1,x.na.2⟩,⟨ext_none e x.nf.1 h3,x.nf.2⟩,⟨avs,e.hh _ _ h1,Paired.mapM h2 fun _ _ _ q=>q.same e.vv⟩,⟨fvs,e.hh _ _ h3,Paired.mapM h4 fun _ _ _ q=>q.same e.vv⟩⟩
theorem LpAt.setA (x:LpAt K CW CC Hs H H₀ a wl rl an w ab fb as fnd){as':List An}{avs:List V}(h:Paired (AnAt Hs H₀) as' avs):LpAt K CW CC Hs (upd H ab (.lst avs)) H₀ a wl rl an w ab fb as' fnd:=by
 obtain⟨fvs,h3,h4⟩:=x.hf
 exact⟨x.wk.other x.na.1 x.na.2.1 x.na.2.2,x.na,x.nf,⟨avs,upd_same,h⟩,⟨fvs,by rw[upd_ne x.nf.2.2.2]; exact h3,h4⟩⟩
theorem LpAt.setF (x:LpAt K CW CC Hs H H₀ a wl rl an w ab fb as fnd){fnd':List (List Wy × Nat)}{fvs:List V}(h:Paired (FdAt K CC Hs ab) fnd' fvs):LpAt K CW CC Hs (upd H fb (.lst fvs)) H₀ a wl rl an w ab fb as fnd':=by
 obtain⟨avs,h3,h4⟩:=x.ha
 exact⟨x.wk.other x.nf.1 x.nf.2.1 x.nf.2.2.1,x.na,x.nf,⟨avs,by rw[upd_ne (Ne.symm x.nf.2.2.2)]; exact h3,h4⟩,⟨fvs,upd_same,h⟩⟩
end
noncomputable abbrev lenR (K:PySem.W.Frag):List V->Hp->VK->Prop:=fun xs H Q=>∃ p ys,xs=[.ref p]/\(SqL K H p ys\/SqT K H p ys)/\Q (.int ys.length) H
noncomputable abbrev tRev (K:PySem.W.Frag)(t:TE)(ts:TO):TE:=fun σ H Q=>t σ H fun x H1=>ts σ H1 fun l H2=>∃ b xs,l=some (-1)/\x=.ref b/\SqX K H2 b xs/\∀ p,H2 p=none->Q (.ref p) (upd H2 p (.lst xs.reverse))
noncomputable abbrev tComp (C:Ctx)(i:Nat)(ft:EE):TS:=fun E σ H=>∃ Hv ρ,EnvR C.X.K Hv ρ σ/\Same Hv H/\Ok C.X.K Hv H (C.W σ) C.cls (ft ρ) fun v H'=>E.nx (σ.set i (some v)) H'
noncomputable def tWRb (C:Ctx)(CC:Addr)(E:XK)(ft:EE):TS:=tSeq (tComp C 7 ft)
 (tIfS (tTest (tOp (rI0 fun i j=>.bl (decide (j<i))) (tCB (lenR C.X.K) (tCons (tVar 7) tNil)) (tC (.int 0))))
  (tDrop (tBM C.X.K "list" rAppend (tVar 4) (tCons (tTup (tCons (tC (.str twiS)) (tCons (tOp (rIxL C.X.K) (tVar 7) (tC (.int 0))) tNil))) tNil)))
  (tSeq (tDrop (tBM C.X.K "list" rAppend (tVar 5) (tCons (tMake CC (spCI CC) [] E (tCons (tOp (rCatX C.X.K) (tVar 1) (tLst (tCons (tVar 6) tNil))) (tCons (tVar 4) (tCons (tCB (lenR C.X.K) (tCons (tVar 4) tNil)) tNil)))) tNil)))
   (tDrop (tBM C.X.K "list" rAppend (tVar 4) (tCons (tC .non) tNil)))))
noncomputable def tWR (C:Ctx)(CC:Addr)(E:XK)(tl tn:TE)(ft:EE):TS :=
 tSeq (tAsg tl (gName 3)) (tSeq (tAsg (tLst tNil) (gName 4)) (tSeq (tAsg (tLst tNil) (gName 5)) (tSeq
  (tFor (iList C.X.K (tOp (rIxL C.X.K) (tFld C.X.K (tVar 0) "ways") (tVar 3))) (gName 6) (tWRb C CC E ft))
  (tSeq (tDrop (tBM C.X.K "list" rAppend (tFld C.X.K (tVar 0) "rows") (tCons (tTup (tCons (tVar 3) (tCons (tVar 4) tNil))) tNil)))
   (tDrop (tBM C.X.K "list" rExtend (tFld C.X.K (tVar 0) "waiting") (tCons (tRev C.X.K (tVar 5) (tPart tn)) tNil)))))))
noncomputable def spWR (K:PySem.W.Frag)(CW CC:Addr)(k:Wk):Sp:=fun vs H Q _=>∃ (a wl rl:Addr) (an:List Addr) (v1 v2:V) (Hs H₀:Hp) (w:Ws) (l:List Wy) (fd:D) (w':Ws),vs=[.ref a,v1,v2]/\WkAt K CW CC Hs H H₀ a wl rl an w/\Rp K Hs (Dv.wyL l) v1/\Rp K Hs fd v2 /\
 Dv.rowW k w l fd=.row w'/\∀ Hs' H' an',WkAt K CW CC Hs' H' H₀ a wl rl an' w'->Stp Hs H (a::wl::rl::an) Hs' H' (a::wl::rl::an')->Q .non H'
theorem spWR_len {K:PySem.W.Frag}{CW CC:Addr}{k:Wk}(vs:List V)(H:Hp)(Q:VK)(E:XK)(h:spWR K CW CC k vs H Q E):vs.length=3:=by
 obtain⟨_,_,_,_,_,_,_,_,_,_,_,_,rfl,_⟩:=h; rfl
theorem wyL_at {K:PySem.W.Frag}{H:Hp}{l:List Wy}{v:V}(h:Rp K H (Dv.wyL l) v):∃ b vs,v=.ref b/\SqX K H b vs/\RpL K H (l.map Wy.d) vs:=by
 unfold Dv.wyL Rp at h; exact h
theorem wyL_mk {K:PySem.W.Frag}{H:Hp}{l:List Wy}{b:Addr}{vs:List V}(h:SqX K H b vs)(r:RpL K H (l.map Wy.d) vs):Rp K H (Dv.wyL l) (.ref b):=by
 unfold Dv.wyL Rp; exact⟨b,vs,rfl,h,r⟩
theorem env3 {K:PySem.W.Frag}{H:Hp}{d0 d1 d2:D}{v0 v1 v2:V}{r:St}(h0:Rp K H d0 v0)(h1:Rp K H d1 v1)(h2:Rp K H d2 v2):EnvR K H [some d0,some d1,some d2] (some v0::some v1::some v2::r):=by
 intro i d e
 match i with
 | 0=>simp at e; subst e; exact⟨v0,rfl,h0⟩
 | 1=>simp at e; subst e; exact⟨v1,rfl,h1⟩
 | 2=>simp at e; subst e; exact⟨v2,rfl,h2⟩
 | i+3=>simp at e
theorem self_ways {K:PySem.W.Frag}{CW CC:Addr}{Hs H H₀:Hp}{a wl rl:Addr}{an:List Addr}{w:Ws}(T:WkT K CW CC)(x:WkAt K CW CC Hs H H₀ a wl rl an w):Rp K H (.ins ["ways"] [Dv.wysD w.wys]) (.ref a):=by
 obtain⟨dx,wa,h1,h2⟩:=x.slf
 unfold Rp
 refine⟨a,CW,dx,_,[.ref wa],rfl,h1,T.clW,rfl,fun n u hn=>?_,.cons (h2.same x.sv) .nil⟩
 simp only[List.zip_cons_cons,List.zip_nil_right,List.mem_singleton] at hn
 cases hn
 exact⟨T.nWays,wf_ways⟩
theorem env26 {K:PySem.W.Frag}{H:Hp}{d2 d6:D}{v2 v6:V}{a0 a1 a3 a4 a5:Option V}{r:St}(h2:Rp K H d2 v2)(h6:Rp K H d6 v6):EnvR K H [none,none,some d2,none,none,none,some d6] (a0::a1::some v2::a3::a4::a5::some v6::r):=by
 intro i d e
 match i with
 | 0=>simp at e
 | 1=>simp at e
 | 2=>simp at e; subst e; exact⟨v2,rfl,h2⟩
 | 3=>simp at e
 | 4=>simp at e
 | 5=>simp at e
 | 6=>simp at e; subst e; exact⟨v6,rfl,h6⟩
 | i+7=>simp at e
theorem iteNo {A B:Prop}{c:Bool}(h:c=false)(b:B):if c=true then A else B:=by rw[if_neg (by rw[h]; decide)]; exact b
theorem iteYes {A B:Prop}{c:Bool}(h:c=true)(b:A):if c=true then A else B:=by rw[if_pos h]; exact b
theorem line_lt {n:Nat}(h:n<Dv.mx):n<sizeLine:=by
 unfold Dv.mx at h; rw[sizeLine_eq]; omega
theorem wr_turn {C:Ctx}{CW CC:Addr}{E:XK}{k:Wk}{Hs Hc H₀:Hp}{a wl rl ab fb:Addr}{an:List Addr}{w:Ws}{as:List An}{fnd:List (List Wy × Nat)}{v1 v2 y:V}{vm:Option V}{vt:Option V}{l:List Wy}{fd:D}{wy:Wy}{r:List Wy}
  {res:List An × List (List Wy × Nat)} {D:Ends} (L:LpAt C.X.K CW CC Hs Hc H₀ a wl rl an w ab fb as fnd) (r1:Rp C.X.K Hs (Dv.wyL l) v1) (r2:Rp C.X.K Hs fd v2) (ry:Rp C.X.K Hs wy.d y) (hgo:Dv.rowGo k l fd (wy::r) as fnd=some res)
  (b1:as.length<Dv.mx) (b2:fnd.length<Dv.mx) (b3:l.length<Dv.mx)
  (next:∀ Hs' Hc' as' fnd' vt',LpAt C.X.K CW CC Hs' Hc' H₀ a wl rl an w ab fb as' fnd'->Stp Hs Hc (fb::ab::a::wl::rl::an) Hs' Hc' (fb::ab::a::wl::rl::an)->Dv.rowGo k l fd r as' fnd'=some res->as'.length=as.length+1->fnd'.length<=fnd.length+1 ->
   D.nx [some (.ref a),some v1,some v2,vm,some (.ref ab),some (.ref fb),some y,vt'] Hc') :
  tWRb C CC E k.ft D [some (.ref a),some v1,some v2,vm,some (.ref ab),some (.ref fb),some y,vt] Hc:=by
 unfold tWRb
 refine⟨Hs,[none,none,some fd,none,none,none,some wy.d],env26 r2 ry,L.wk.sv,?_⟩
 simp only[Dv.rowGo] at hgo
 have mab:ab∈fb::ab::a::wl::rl::an:=by simp
 have mfb:fb∈fb::ab::a::wl::rl::an:=by simp
 split at hgo
 ·rename_i fr h
  rw[h]
  intro v Hv' H' x rp nn
  unfold Rp at rp
  obtain⟨pt,tvs,rfl,hq,hl⟩:=rp
  unfold RpL at hl
  subst hl
  have L1:=L.ext x
  have r1':=r1.same x.vv
  obtain⟨avs,hA,pA⟩:=L1.ha
  obtain⟨fvs,hF,pF⟩:=L1.hf
  have la:=pA.length
  have lf:=pF.length
  obtain⟨lb,lvs,rfl,hlq,hll⟩:=wyL_at r1'
  have ll:=hll.length
  rw[List.length_map] at ll
  refine⟨_,rfl,pt,[],rfl,.inl (hq.same x.vh).seq,_,_,rfl,rfl,_,rfl,?_⟩
  refine iteNo (by simp) ?_
  refine⟨_,rfl,.inl ⟨rfl,_,SqL.of hF⟩,?_⟩
  refine⟨_,rfl,_,rfl,(by show 1<=sizeLine; decide),fun p1 hp1=>?_⟩
  have e1:=Ext.new1 x.vh hp1 (.lst [y])
  have L2:=L1.ext e1
  refine⟨lb,p1,lvs,[y],rfl,rfl,(hlq.same e1.vv).same e1.vh,SqX.of upd_same,?_,fun p2 hp2=>?_⟩
  ·have:=line_lt b3; show lvs.length+1<=sizeLine; omega
  have e2:=Ext.new1 e1.vh hp2 (.lst (lvs++[y]))
  have L3:=L2.ext e2
  refine⟨_,rfl,_,rfl,ab,avs,rfl,.inl (SqL.of (e2.hh _ _ (e1.hh _ _ hA))),?_⟩
  intro c dc hc hdc hne
  have e3:=Ext.new1 e2.vh hdc (.own c)
  have hc':upd (upd (upd H' p1 (.lst [y])) p2 (.lst (lvs++[y]))) dc (.own c) c=none:=by rw[upd_ne (Ne.symm hne)]; exact hc
  have e4:=Ext.new1 e3.vh hc' (.ins CC dc (cf p2 ab avs.length))
  have L5:=(L3.ext e3).ext e4
  refine⟨c,dc,p2,ab,avs.length,rfl,upd_same,rfl,?_⟩
  rw[upd_upd]
  have hF5:=e4.hh _ _ (e3.hh _ _ (e2.hh _ _ (e1.hh _ _ hF)))
  refine⟨fb,fvs,.ref c,rfl,rfl,hF5,by have:=line_lt b2; omega,?_⟩
  have sK:Same Hv' (upd (upd (upd (upd Hv' p1 (.lst [y])) p2 (.lst (lvs++[y]))) dc (.own c)) c (.ins CC dc (cf p2 ab avs.length))):=e1.vv.trans (e2.vv.trans (e3.vv.trans e4.vv))
  have pF':Paired (FdAt C.X.K CC (upd (upd (upd (upd Hv' p1 (.lst [y])) p2 (.lst (lvs++[y]))) dc (.own c)) c (.ins CC dc (cf p2 ab avs.length))) ab) (fnd++[(l++[wy],as.length)]) (fvs++[.ref c]):=by
   refine Paired.append (Paired.mapM pF fun _ _ _ q=>q.same sK) (.cons ⟨c,dc,p2,rfl,?_,?_⟩ .nil)
   ·rw[upd_same,<- la]
   ·refine wyL_mk (SqX.of (e4.vv _ _ (e3.vv _ _ upd_same))) ?_
    rw[List.map_append]
    exact(hll.same sK).append (.cons ((ry.same x.vv).same sK) .nil)
  have L6:=L5.setF pF'
  have hA6:upd (upd (upd (upd (upd H' p1 (.lst [y])) p2 (.lst (lvs++[y]))) dc (.own c)) c (.ins CC dc (cf p2 ab avs.length))) fb (.lst (fvs++[.ref c])) ab=some (.lst avs):=by
   rw[upd_ne (Ne.symm L.nf.2.2.2)]; exact e4.hh _ _ (e3.hh _ _ (e2.hh _ _ (e1.hh _ _ hA)))
  refine⟨_,rfl,.inl ⟨rfl,_,SqL.of hA6⟩,ab,avs,.non,rfl,rfl,hA6,by have:=line_lt b1; omega,?_⟩
  have L7:=L6.setA (as':=as++[.non]) (avs:=avs++[.non]) (Paired.append (Paired.mapM pA fun _ _ _ q=>q.same sK) (.cons (show AnAt _ _ An.non V.non from rfl) .nil))
  exact next _ _ _ _ (some (.ref pt)) L7 ((Stp.ext x).trans ((Stp.ext e1).trans ((Stp.ext e2).trans ((Stp.ext e3).trans ((Stp.ext e4).trans ((Stp.write mfb (by intro _ _ z; cases z)).trans (Stp.write mab (by intro _ _ z; cases z)))))))) hgo (by simp) (by simp)
 ·rename_i p dr fr h
  rw[h]
  intro v Hv' H' x rp nn
  unfold Rp at rp
  obtain⟨pt,tvs,rfl,hq,hl⟩:=rp
  unfold RpL at hl
  obtain⟨u,ws,rfl,hu,_⟩:=hl
  unfold Rp at hu
  subst hu
  have L1:=L.ext x
  obtain⟨avs,hA,pA⟩:=L1.ha
  have la:=pA.length
  have sq:=(hq.same x.vh).seq
  refine⟨_,rfl,pt,.int p::ws,rfl,.inl sq,_,_,rfl,rfl,_,rfl,?_⟩
  refine iteYes (by simp) ?_
  refine⟨_,rfl,.inl ⟨rfl,_,SqL.of hA⟩,?_⟩
  refine⟨_,rfl,pt,.int p::ws,0,.int p,rfl,rfl,sq,atI_nat (j:=0) rfl,(by show 2<=sizeLine; decide),fun q hq2=>?_⟩
  have e1:=Ext.new1 x.vh hq2 (.tup [.str twiS,.int p])
  have L2:=L1.ext e1
  refine⟨ab,avs,.ref q,rfl,rfl,e1.hh _ _ hA,by have:=line_lt b1; omega,?_⟩
  have hq0:H₀ q=none:=L1.wk.oh.free hq2
  have L3:=L2.setA (as':=as++[.twi p]) (avs:=avs++[.ref q]) (Paired.append (Paired.mapM pA fun _ _ _ q=>q.same e1.vv) (.cons (show AnAt _ _ (An.twi p) (V.ref q) from ⟨q,rfl,upd_same,hq0⟩) .nil))
  exact next _ _ _ _ (some (.ref pt)) L3 ((Stp.ext x).trans ((Stp.ext e1).trans (Stp.write mab (by intro _ _ z; cases z)))) hgo (by simp) (by simp)
 ·cases hgo
theorem Stp.less {Hs H Hs1 H1:Hp}{M M1 M2:List Addr}(x:Stp Hs H M Hs1 H1 M1)(h:∀ b∈M2,b∈M1):Stp Hs H M Hs1 H1 M2:=⟨x.ss,x.nw,x.kp,x.dm,x.fz,fun b hb=>x.mm b (h b hb)⟩
section
variable {K:PySem.W.Frag}{CW CC:Addr}{Hs Hs' H H' H₀:Hp}{a wl rl ab fb:Addr}{an:List Addr}{w:Ws}{as:List An}{fnd:List (List Wy × Nat)}
theorem WkAt.ne (x:WkAt K CW CC Hs H H₀ a wl rl an w):a≠wl/\a≠rl/\wl≠rl/\a∉an/\wl∉an/\rl∉an/\an.Nodup:=by
 have h:=x.nd
 simp only[List.nodup_cons,List.mem_cons,not_or] at h
 exact⟨h.1.1,h.1.2.1,h.2.1.1,h.1.2.2,h.2.1.2,h.2.2.1,h.2.2.2⟩
theorem same_put {Hs H:Hp}{m:Addr}{o:HO}(s:Same Hs H)(h:Hs m=none):Same Hs (upd H m o):=fun b u e=>by
 rw[upd_ne (show b≠m from fun z=>by subst z; rw[h] at e; cases e)]; exact s b u e
theorem WkAt.setWait (x:WkAt K CW CC Hs H H₀ a wl rl an w){cs:List Cs}{vs:List V}(h:Paired (CsAt K CC Hs an) cs vs):WkAt K CW CC Hs (upd H wl (.lst vs)) H₀ a wl rl an { w with wait:=cs }:=by
 obtain⟨n1,n2,n3,n4,n5,n6,n7⟩:=x.ne
 have nn:=x.no wl (by simp)
 refine⟨same_put x.sv nn.1,same_put x.oh nn.2,x.nd,x.no,?_,⟨vs,upd_same,h⟩,?_,?_⟩
 ·obtain⟨dx,wa,h1,h2⟩:=x.slf
  exact⟨dx,wa,by rw[upd_ne n1]; exact h1,h2⟩
 ·obtain⟨rs,h1,h2⟩:=x.row
  exact⟨rs,by rw[upd_ne (Ne.symm n3)]; exact h1,h2⟩
 ·exact Paired.mapM x.sto fun l b hb ⟨zs,h1,h2⟩=>⟨zs,by rw[upd_ne (show b≠wl from fun z=>by subst z; exact n5 hb)]; exact h1,h2⟩
theorem WkAt.setGone (x:WkAt K CW CC Hs H H₀ a wl rl an w){dx wa:Addr}{g:Nat}(h:H a=some (.ins CW dx (wf wa wl rl w.gone))):WkAt K CW CC Hs (upd H a (.ins CW dx (wf wa wl rl g))) H₀ a wl rl an { w with gone:=g }:=by
 obtain⟨n1,n2,n3,n4,n5,n6,n7⟩:=x.ne
 have nn:=x.no a (by simp)
 refine⟨same_put x.sv nn.1,same_put x.oh nn.2,x.nd,x.no,?_,?_,?_,?_⟩
 ·obtain⟨dx',wa',h1,h2⟩:=x.slf
  rw[h] at h1
  have e:=Option.some.inj h1
  injection e with e1 e2 e3
  unfold wf at e3
  injection e3 with e4
  injection e4 with e5 e6
  injection e6 with e7
  subst e7
  exact⟨dx,wa,upd_same,h2⟩
 ·obtain⟨rs,h1,h2⟩:=x.wai
  exact⟨rs,by rw[upd_ne (Ne.symm n1)]; exact h1,h2⟩
 ·obtain⟨rs,h1,h2⟩:=x.row
  exact⟨rs,by rw[upd_ne (Ne.symm n2)]; exact h1,h2⟩
 ·exact Paired.mapM x.sto fun l b hb ⟨zs,h1,h2⟩=>⟨zs,by rw[upd_ne (show b≠a from fun z=>by subst z; exact n4 hb)]; exact h1,h2⟩
theorem Paired.setAt {α:Type}{F G:α->Addr->Prop}{l:List α}{r:List Addr}{x:α}{i:Nat}{b:Addr}(h:Paired F l r)(nd:r.Nodup)(hb:r[i]?=some b)(q:G x b)(o:∀ y c,c≠b->F y c->G y c):Paired G (l.set i x) r:=by
 induction h generalizing i with
 | nil=>simp at hb
 | cons z t ih =>
  obtain⟨n1,n2⟩:=List.nodup_cons.mp nd
  cases i with
  | zero =>
   simp at hb; subst hb
   exact .cons q (Paired.mapM t fun y c hc f=>o y c (fun e=>by subst e; exact n1 hc) f)
  | succ i =>
   simp at hb
   exact .cons (o _ _ (fun e=>by subst e; exact n1 (List.mem_of_getElem? hb)) z) (ih n2 hb)
theorem WkAt.setSto (x:WkAt K CW CC Hs H H₀ a wl rl an w){i:Nat}{b:Addr}{as:List An}{vs:List V}(hb:an[i]?=some b)(h:Paired (AnAt Hs H₀) as vs):WkAt K CW CC Hs (upd H b (.lst vs)) H₀ a wl rl an { w with sto:=w.sto.set i as }:=by
 obtain⟨n1,n2,n3,n4,n5,n6,n7⟩:=x.ne
 have mb:=List.mem_of_getElem? hb
 have nn:=x.no b (by simp[mb])
 refine⟨same_put x.sv nn.1,same_put x.oh nn.2,x.nd,x.no,?_,?_,?_,?_⟩
 ·obtain⟨dx,wa,h1,h2⟩:=x.slf
  exact⟨dx,wa,by rw[upd_ne (show a≠b from fun z=>by subst z; exact n4 mb)]; exact h1,h2⟩
 ·obtain⟨rs,h1,h2⟩:=x.wai
  exact⟨rs,by rw[upd_ne (show wl≠b from fun z=>by subst z; exact n5 mb)]; exact h1,h2⟩
 ·obtain⟨rs,h1,h2⟩:=x.row
  exact⟨rs,by rw[upd_ne (show rl≠b from fun z=>by subst z; exact n6 mb)]; exact h1,h2⟩
 ·exact Paired.setAt x.sto n7 hb ⟨vs,upd_same,h⟩ fun y c hc ⟨zs,h1,h2⟩=>⟨zs,by rw[upd_ne hc]; exact h1,h2⟩
theorem snoc_get {α:Type}{l:List α}{b:α}:∀ (i:Nat) c,l[i]?=some c->(l++[b])[i]?=some c:=fun i c h=>by
 rw[List.getElem?_append_left (List.getElem?_eq_some_iff.mp h).1]; exact h
theorem LpAt.done (L:LpAt K CW CC Hs H H₀ a wl rl an w ab fb as fnd){m:Int}{r:Addr}{rvs:List V}(hr:Hs r=some (.tup [.int m,.ref ab]))(h0:H₀ r=none)(hR:H rl=some (.lst rvs)) :
  WkAt K CW CC Hs (upd H rl (.lst (rvs++[.ref r]))) H₀ a wl rl (an++[ab]) { w with rows:=w.rows++[(m,w.sto.length)],sto:=w.sto++[as] }:=by
 have x:=L.wk
 obtain⟨n1,n2,n3,n4,n5,n6,n7⟩:=x.ne
 have nn:=x.no rl (by simp)
 have na:=L.na.2.2
 simp only[List.mem_cons,not_or] at na
 have hl:an[w.sto.length]?=none:=by rw[x.sto.length]; simp
 have hab:(an++[ab])[w.sto.length]?=some ab:=by rw[x.sto.length]; simp
 refine⟨same_put x.sv nn.1,same_put x.oh nn.2,?_,fun b hb=>?_,?_,?_,?_,?_⟩
 ·show (a::wl::rl::(an++[ab])).Nodup
  simp only[List.nodup_cons,List.mem_cons,not_or,List.mem_append,List.not_mem_nil,or_false,not_false_eq_true,List.nodup_append,List.nodup_nil,and_true,true_and]
  refine⟨⟨n1,n2,n4,Ne.symm na.1⟩,⟨n3,n5,Ne.symm na.2.1⟩,⟨n6,Ne.symm na.2.2.1⟩,n7,fun y hy z hz e=>?_⟩
  rw[hz] at e
  subst e
  exact na.2.2.2 hy
 ·have hb':b∈a::wl::rl::an\/b=ab:=by
   simp only[List.mem_cons,List.mem_append,List.not_mem_nil,or_false] at hb ⊢
   rcases hb with h|h|h|h|h
   ·exact .inl (.inl h)
   ·exact .inl (.inr (.inl h))
   ·exact .inl (.inr (.inr (.inl h)))
   ·exact .inl (.inr (.inr (.inr h)))
   ·exact .inr h
  rcases hb' with h|rfl
  ·exact x.no b h
  ·exact⟨L.na.1,L.na.2.1⟩
 ·obtain⟨dx,wa,h1,h2⟩:=x.slf
  exact⟨dx,wa,by rw[upd_ne n2]; exact h1,h2⟩
 ·obtain⟨vs,h1,h2⟩:=x.wai
  exact⟨vs,by rw[upd_ne n3]; exact h1,Paired.mapM h2 fun _ _ _ q=>q.same (.refl _) snoc_get⟩
 ·obtain⟨vs,h1,h2⟩:=x.row
  rw[hR] at h1
  cases h1
  exact⟨_,upd_same,Paired.append (Paired.mapM h2 fun _ _ _ q=>q.same (.refl _) snoc_get) (.cons ⟨r,ab,rfl,hr,h0,hab⟩ .nil)⟩
 ·obtain⟨avs,hA,pA⟩:=L.ha
  refine Paired.append (Paired.mapM x.sto fun l b hb ⟨zs,h1,h2⟩=>⟨zs,by rw[upd_ne (show b≠rl from fun z=>by subst z; exact n6 hb)]; exact h1,h2⟩) (.cons ⟨avs,?_,pA⟩ .nil)
  rw[upd_ne na.2.2.1]
  exact hA
end
theorem wr_read {C:Ctx}{CW CC:Addr}{E E':XK}{tl tn:TE}{k:Wk}{vs:List V}{H:Hp}{Q:VK}(T:WkT C.X.K CW CC)(ql:Tak C tl k.fl)(qn:Tak C tn (Dv.eNeg (Dv.eInt 1)))(h:spWR C.X.K CW CC k vs H Q E') :
  tWR C CC E tl tn k.ft { nx:=fun _ H'=>Q .non H',rt:=Q } (L2.start ["self","laid","filled","least","answers","found","way","twice"] vs) H:=by
 obtain⟨a,wl,rl,an,v1,v2,Hs,H₀,w,l,fd,w',rfl,W,r1,r2,hrow,q⟩:=h
 unfold Dv.rowW at hrow
 split at hrow
 ·rename_i m fr hfl
  split at hrow
  ·rename_i ws hws
   split at hrow
   ·rename_i as' f' hgo
    split at hrow
    ·rename_i hb
     cases hrow
     simp only[Bool.and_eq_true,decide_eq_true_eq] at hb
     obtain⟨⟨⟨b1,b2⟩,b3⟩,b4⟩:=hb
     refine ql _ H H _ _ (env3 (self_ways T W) (r1.same W.sv) (r2.same W.sv)) (.refl _) ?_
     rw[hfl]
     intro v Hv' H1 x rp nn
     unfold Rp at rp
     subst rp
     have W1:=W.hext x.hh
     refine⟨(by show 0<=sizeLine; decide),fun ab hab=>?_⟩
     refine⟨(by show 0<=sizeLine; decide),fun fb hfb=>?_⟩
     obtain⟨nfa,hfb⟩:=upd_none hfb
     have nab:ab∉a::wl::rl::an:=fun z=>by obtain⟨o,ho⟩:=W1.has ab z; rw[hab] at ho; cases ho
     have nfb:fb∉a::wl::rl::an:=fun z=>by obtain⟨o,ho⟩:=W1.has fb z; rw[hfb] at ho; cases ho
     have L0:LpAt C.X.K CW CC Hs (upd (upd H1 ab (.lst [])) fb (.lst [])) H₀ a wl rl an w ab fb [] [] :=
      ⟨(W1.other (W1.sv.free hab) (W1.oh.free hab) nab).other (W1.sv.free hfb) (W1.oh.free hfb) nfb,⟨W1.sv.free hab,W1.oh.free hab,nab⟩,⟨W1.sv.free hfb,W1.oh.free hfb,nfb,nfa⟩,⟨[],by rw[upd_ne (Ne.symm nfa),upd_same],.nil⟩,⟨[],upd_same,.nil⟩⟩
     have S0:Stp Hs H (a::wl::rl::an) Hs (upd (upd H1 ab (.lst [])) fb (.lst [])) (fb::ab::a::wl::rl::an) :=
      (Stp.hext x.hh x.nf).trans ((Stp.newM (M1:=ab::a::wl::rl::an) hab (by intro _ _ z; cases z) fun b hb=>(List.mem_cons.mp hb).symm).trans
       (Stp.newM (M1:=fb::ab::a::wl::rl::an) (by rw[upd_ne nfa]; exact hfb) (by intro _ _ z; cases z) fun b hb=>(List.mem_cons.mp hb).symm))
     obtain⟨dx,wa,hWa,rW⟩:=L0.wk.slf
     unfold Dv.wysD Rp at rW
     obtain⟨wa',wvs,e,hwq,hwl⟩:=rW
     cases e
     obtain⟨u,hu,ru⟩:=hwl.get (i:=m) (d:=Dv.wyL ws) (by rw[List.getElem?_map,hws]; rfl)
     obtain⟨wb,yvs,rfl,hbq,hbl⟩:=wyL_at ru
     have yl:=hbl.length
     rw[List.length_map] at yl
     refine⟨_,rfl,a,CW,dx,_,_,rfl,hWa,T.clW,T.nWays,wf_ways,_,rfl,wa,wvs,(m:Int),.ref wb,rfl,rfl,(hwq.same L0.wk.sv).seq,atI_nat hu,wb,rfl,⟨_,(hbq.same L0.wk.sv).seq⟩,?_⟩
     refine for_list (K:=C.X.K) (a:=wb) (xs:=yvs) (fun i σ Hc=>∃ Hs1 as fnd vw vt,σ=[some (.ref a),some v1,some v2,some (.int (m:Int)),some (.ref ab),some (.ref fb),vw,vt]/\LpAt C.X.K CW CC Hs1 Hc H₀ a wl rl an w ab fb as fnd /\
      Stp Hs H (a::wl::rl::an) Hs1 Hc (fb::ab::a::wl::rl::an)/\Dv.rowGo k l fd (ws.drop i) as fnd=some (as',f')/\as.length=i/\fnd.length<=i) ?h0 ?hl ?hs ?hd
     case h0=>exact⟨Hs,[],[],none,none,rfl,L0,S0,by simpa using hgo,rfl,Nat.le_refl _⟩
     case hl =>
      rintro i σ Hc hi ⟨Hs1,as,fnd,vw,vt,rfl,L,S,hg,h1,h2⟩
      exact((hbq.same S.ss).same L.wk.sv).seq
     case hs =>
      rintro i y σ Hc hy ⟨Hs1,as,fnd,vw,vt,rfl,L,S,hg,h1,h2⟩
      have hi:i<yvs.length:=(List.getElem?_eq_some_iff.mp hy).1
      have hiw:i<ws.length:=by omega
      have hwy:ws[i]?=some ws[i]:=List.getElem?_eq_getElem hiw
      obtain⟨y',hy',ry⟩:=hbl.get (i:=i) (d:=(ws[i]).d) (by rw[List.getElem?_map,hwy]; rfl)
      rw[hy] at hy'
      cases hy'
      rw[List.drop_eq_getElem_cons hiw] at hg
      exact wr_turn L (r1.same S.ss) (r2.same S.ss) (ry.same S.ss) hg (by omega) (by omega) b1 fun Hs' Hc' as2 fnd2 vt' L' S' hg' h1' h2'=>⟨Hs',as2,fnd2,some y,vt',rfl,L',S.trans S',hg',by omega,by omega⟩
     case hd =>
      rintro σ Hc ⟨Hs1,as,fnd,vw,vt,rfl,L,S,hg,h1,h2⟩
      rw[yl,List.drop_length] at hg
      simp only[Dv.rowGo,Option.some.injEq,Prod.mk.injEq] at hg
      obtain⟨rfl,rfl⟩:=hg
      obtain⟨rvs,hR,pR⟩:=L.wk.row
      obtain⟨dx2,wa2,hA2,rA2⟩:=L.wk.slf
      have lr:=pR.length
      refine⟨_,rfl,a,CW,dx2,_,_,rfl,hA2,T.clW,T.nRows,wf_rows,.inl ⟨rfl,_,SqL.of hR⟩,_,rfl,_,rfl,(by show 2<=sizeLine; decide),fun r hr=>?_⟩
      have e1:=Ext.new1 L.wk.sv hr (.tup [.int (m:Int),.ref ab])
      have L2:=L.ext e1
      refine⟨rl,rvs,.ref r,rfl,rfl,e1.hh _ _ hR,by have:=line_lt b3; omega,?_⟩
      have W3:=L2.done (m:=(m:Int)) (r:=r) upd_same (L.wk.oh.free hr) (e1.hh _ _ hR)
      have S3:=S.trans ((Stp.ext e1).trans (Stp.write (m:=rl) (o:=.lst (rvs++[.ref r])) (by simp) (by intro _ _ z; cases z)))
      obtain⟨fvs,hF,pF⟩:=L2.hf
      have lf:=pF.length
      have nfr:fb≠rl:=fun z=>L.nf.2.2.1 (by simp[z])
      obtain⟨dx3,wa3,hA3,rA3⟩:=W3.slf
      obtain⟨cvs,hC3,pC3⟩:=W3.wai
      refine⟨_,rfl,a,CW,dx3,_,_,rfl,hA3,T.clW,T.nWaiting,wf_waiting,.inl ⟨rfl,_,SqL.of hC3⟩,_,rfl,?_⟩
      refine qn _ _ (upd Hs1 r (.tup [.int (m:Int),.ref ab])) [] _ (fun i d z=>by simp at z) W3.sv ?_
      intro v4 Hv4 H4 x4 rp4 nn4
      unfold Rp at rp4
      subst rp4
      refine⟨-1,rfl,fb,fvs,rfl,rfl,SqX.of (x4.hh _ _ (by rw[upd_ne nfr]; exact hF)),fun p hp=>?_⟩
      have W4:=W3.ext x4
      have e5:=Ext.new1 x4.vh hp (.lst fvs.reverse)
      have W5:=W4.ext e5
      have hC5:=e5.hh _ _ (x4.hh _ _ hC3)
      have lc:=pC3.length
      refine⟨wl,p,cvs,fvs.reverse,rfl,rfl,hC5,upd_same,?_,?_⟩
      ·rw[List.length_reverse]
       have:=mx_line b4
       show cvs.length+fvs.length<=sizeLine
       simp only at lc
       omega
      have sK:Same (upd Hs1 r (.tup [.int (m:Int),.ref ab])) (upd Hv4 p (.lst fvs.reverse)):=x4.vv.trans e5.vv
      have hab':(an++[ab])[w.sto.length]?=some ab:=by rw[L.wk.sto.length]; simp
      have W6:=W5.setWait (cs:=w.wait++fnd.reverse.map fun p=>⟨p.1,w.sto.length,p.2⟩) (vs:=cvs++fvs.reverse)
       (Paired.append (Paired.mapM pC3 fun _ _ _ z=>z.same sK fun _ _ z=>z) (Paired.maps (Paired.rev pF) fun pp v ⟨x,dc,lb,z1,z2,z3⟩=>⟨x,dc,lb,ab,z1,sK _ _ z2,z3.same sK,hab'⟩))
      have S6:=S3.trans ((Stp.ext x4).trans ((Stp.ext e5).trans (Stp.write (m:=wl) (o:=.lst (cvs++fvs.reverse)) (by simp) (by intro _ _ z; cases z))))
      exact q _ _ _ W6 (S6.less fun b hb=>by
       simp only[List.mem_cons,List.mem_append,List.not_mem_nil,or_false] at hb ⊢
       rcases hb with h|h|h|h|h <;>simp[h])
    ·cases hrow
   ·cases hrow
  ·cases hrow
 ·cases hrow
noncomputable abbrev lenDr:List V->Hp->VK->Prop:=fun xs H Q=>∃ a kvs,xs=[V.ref a]/\Rd H a (.dK kvs)/\Q (.int kvs.length) H
noncomputable def tGo (C:Ctx)(CW CC Ca:Addr)(E:XK)(k:Wk)(tp ts:TE):TS :=
 tSeq (tIfS (tTest (tOp rEq (tFld C.X.K (tVar 0) "gone") (tC (.int 2000)))) (fun _ _ H1=>E (.ref Ca) none H1) tNext)
 (tSeq (sFldAug C.X.K (tVar 0) (tC (.int 1)) rAdd "gone")
 (tSeq (tAsg (tBM0 C.X.K "list" rPop (tFld C.X.K (tVar 0) "waiting")) (gName 1))
 (tSeq (tAsg tp (gName 2))
 (tSeq (tIfS (tTest (tOp rEq (tCB lenDr (tCons (tVar 2) tNil)) (tCB (lenR C.X.K) (tCons (tFld C.X.K (tVar 0) "ways") tNil)))) (tRet ts) tNext)
 (tSeq (tAsg (tTup (tCons (tC (.str rowS)) (tCons (tCB (lenR C.X.K) (tCons (tFld C.X.K (tVar 0) "rows") tNil)) tNil))) (gSub (tFld C.X.K (tVar 1) "answers") (tFld C.X.K (tVar 1) "at") rSetL))
 (tSeq (tDrop (tMeth CW "write_row" (spWR C.X.K CW CC k) [] E (tVar 0) (tCons (tFld C.X.K (tVar 1) "laid") (tCons (tVar 2) tNil))))
 (tRet (tC .non))))))))
noncomputable def OkW (K:PySem.W.Frag)(CW CC:Addr)(cls:String->Value)(Hs H H₀:Hp)(a wl rl:Addr)(an:List Addr)(r:WR)(Q:VK)(E:XK):Prop:=match r with
 | .many=>∀ Hs' H' an',(∃ w',WkAt K CW CC Hs' H' H₀ a wl rl an' w')->Stp Hs H (a::wl::rl::an) Hs' H' (a::wl::rl::an')->E (cls "TooMany") none H'
 | .bad=>False
 | .full w' d fr=>∀ v Hs' H' an',WkAt K CW CC Hs' H' H₀ a wl rl an' w'->Stp Hs H (a::wl::rl::an) Hs' H' (a::wl::rl::an')->Rp K Hs' d v->(fr=true->Rp [] (Hnew H Hs') d v)->Q v H'
 | .row w'=>∀ Hs' H' an',WkAt K CW CC Hs' H' H₀ a wl rl an' w'->Stp Hs H (a::wl::rl::an) Hs' H' (a::wl::rl::an')->Q .non H'
noncomputable def spGo (K:PySem.W.Frag)(CW CC:Addr)(cls:String->Value)(k:Wk):Sp:=fun vs H Q E=>∃ (a wl rl:Addr) (an:List Addr) (Hs H₀:Hp) (w:Ws),vs=[.ref a]/\WkAt K CW CC Hs H H₀ a wl rl an w/\OkW K CW CC cls Hs H H₀ a wl rl an (Dv.stepW k w) Q E
theorem spGo_len {K:PySem.W.Frag}{CW CC:Addr}{cls:String->Value}{k:Wk}(vs:List V)(H:Hp)(Q:VK)(E:XK)(h:spGo K CW CC cls k vs H Q E):vs.length=1:=by
 obtain⟨_,_,_,_,_,_,_,rfl,_⟩:=h; rfl
theorem case_laid {K:PySem.W.Frag}{CW CC:Addr}{H:Hp}{x dc lb b:Addr}{t:Int}{l:List Wy}(T:WkT K CW CC)(h1:H x=some (.ins CC dc (cf lb b t)))(h2:Rp K H (Dv.wyL l) (.ref lb)):Rp K H (.ins ["laid"] [Dv.wyL l]) (.ref x):=by
 unfold Rp
 refine⟨x,CC,dc,_,[.ref lb],rfl,h1,T.clC,rfl,fun n u hn=>?_,.cons h2 .nil⟩
 simp only[List.zip_cons_cons,List.zip_nil_right,List.mem_singleton] at hn
 cases hn
 exact⟨T.nLaid,cf_laid⟩
theorem env1 {K:PySem.W.Frag}{H:Hp}{d1:D}{v1:V}{a0:Option V}{r:St}(h1:Rp K H d1 v1):EnvR K H [none,some d1] (a0::some v1::r):=by
 intro i d e
 match i with
 | 0=>simp at e
 | 1=>simp at e; subst e; exact⟨v1,rfl,h1⟩
 | i+2=>simp at e
theorem env12 {K:PySem.W.Frag}{H:Hp}{d1 d2:D}{v1 v2:V}{a0:Option V}{r:St}(h1:Rp K H d1 v1)(h2:Rp K H d2 v2):EnvR K H [none,some d1,some d2] (a0::some v1::some v2::r):=by
 intro i d e
 match i with
 | 0=>simp at e
 | 1=>simp at e; subst e; exact⟨v1,rfl,h1⟩
 | 2=>simp at e; subst e; exact⟨v2,rfl,h2⟩
 | i+3=>simp at e
theorem ixN_nat {n j:Nat}(h:j<n):ixN n (j:Int)=some j:=by
 unfold ixN
 rw[if_pos (by omega),if_pos (by omega)]
 simp
theorem last_get {α:Type}{l:List α}{c:α}(h:l.getLast?=some c):l[l.length-1]?=some c:=by
 rw[List.getLast?_eq_getElem?] at h; exact h
theorem rowW_cases (k:Wk)(w:Ws)(l:List Wy)(fd:D):Dv.rowW k w l fd=.bad\/∃ w',Dv.rowW k w l fd=.row w':=by
 unfold Dv.rowW
 split
 ·split
  ·split
   ·split
    ·exact .inr ⟨_,rfl⟩
    ·exact .inl rfl
   ·exact .inl rfl
  ·exact .inl rfl
 ·exact .inl rfl
theorem go_read {C:Ctx}{CW CC Ca:Addr}{E:XK}{tp ts:TE}{k:Wk}{vs:List V}{H:Hp}{Q:VK}(T:WkT C.X.K CW CC)(hcls:C.cls "TooMany"=.ref Ca)(qp:Tak C tp (Dv.eCall k.fp (Dv.lCons (Dv.eFld "laid" (Dv.eVar 1)) Dv.lNil)))(qs:Tak C ts k.fs)
  (h:spGo C.X.K CW CC C.cls k vs H Q E):tGo C CW CC Ca E k tp ts { nx:=fun _ H'=>Q .non H',rt:=Q } (L2.start ["self","case","filled"] vs) H:=by
 obtain⟨a,wl,rl,an,Hs,H₀,w,rfl,W,hst⟩:=h
 unfold Dv.stepW at hst
 obtain⟨dx,wa,hA,rW⟩:=W.slf
 refine⟨_,rfl,a,CW,dx,_,_,rfl,hA,T.clW,T.nGone,wf_gone,rfl,_,rfl,?_⟩
 by_cases hg:w.gone=2000
 ·rw[if_pos hg] at hst
  refine iteYes (by simp[hg]) ?_
  rw[<- hcls]
  exact hst Hs H an ⟨w,W⟩ .refl
 rw[if_neg hg] at hst
 refine iteNo (by simp; omega) ?_
 refine⟨_,rfl,a,CW,dx,_,_,rfl,hA,T.clW,T.nGone,wf_gone,_,_,rfl,rfl,dx,_,hA,(by show 4<1000; decide),?_⟩
 have W1:=W.setGone hA (g:=w.gone+1)
 have S1:Stp Hs H (a::wl::rl::an) Hs (upd H a (.ins CW dx (wf wa wl rl ((w.gone+1:Nat):Int)))) (a::wl::rl::an):=Stp.write (by simp) (by intro _ _ z; cases z)
 cases hl:w.wait.getLast? with
 | none=>simp only[hl] at hst; exact(show False from hst).elim
 | some c =>
  simp only[hl] at hst
  obtain⟨cvs,hC,pC⟩:=W1.wai
  have hlen:=pC.length
  obtain⟨y,hy,cy⟩:=Paired.gets pC (last_get hl)
  obtain⟨cx,dc,lb,b,rfl,hcx,rl1,hb⟩:=cy
  simp only at hlen
  rw[hlen] at hy
  refine⟨_,rfl,a,CW,dx,_,_,rfl,upd_same,T.clW,T.nWaiting,wf_waiting,.inl ⟨rfl,_,SqL.of hC⟩,wl,cvs,.ref cx,rfl,rfl,hC,hy,?_⟩
  have W2:=W1.setWait (Paired.dropLast pC)
  have S2:=S1.trans (Stp.write (Hs:=Hs) (m:=wl) (o:=.lst cvs.dropLast) (by simp) (by intro _ _ z; cases z))
  refine qp _ _ Hs [none,some (.ins ["laid"] [Dv.wyL c.laid])] _ (env1 (case_laid T hcx rl1)) W2.sv ?_
  have hev:Dv.eCall k.fp (Dv.lCons (Dv.eFld "laid" (Dv.eVar 1)) Dv.lNil) [none,some (.ins ["laid"] [Dv.wyL c.laid])]=k.fp [Dv.wyL c.laid]:=by
   simp[Dv.eCall,Dv.lCons,Dv.eFld,Dv.eVar,Dv.fldD,Dv.lookS,Dv.lNil,Dv.R.bind,Dv.RL.bind,Dv.R.bindL,Dv.RL.bindL]
  rw[hev]
  cases hfp:k.fp [Dv.wyL c.laid] with
  | bad=>simp only[hfp] at hst; exact(show False from hst).elim
  | exc e=>simp only[hfp] at hst; exact(show False from hst).elim
  | ok d fr0 =>
   cases d with
   | dct ks ds =>
    simp only[hfp] at hst
    intro v Hv3 H3 x3 rp3 nn3
    have W3:=W2.ext x3
    have S3:=S2.trans (Stp.ext x3)
    have hcx3:=x3.vv _ _ hcx
    have rl3:=rl1.same x3.vv
    have rp3':=rp3
    unfold Rp at rp3'
    obtain⟨fa,fvs,rfl,hk1,hk2,hk3⟩:=rp3'
    obtain⟨dx3,wa3,hA3,rW3⟩:=W3.slf
    have rW3':=rW3
    unfold Dv.wysD Rp at rW3'
    obtain⟨wa',wvs,e,hwq,hwl⟩:=rW3'
    cases e
    have wl3:=hwl.length
    rw[List.length_map] at wl3
    have kl:((ks.map (Sum.inl:Int->Key)).zip fvs).length=ks.length:=by
     rw[List.length_zip,List.length_map,hk3.length,hk1,Nat.min_self]
    refine⟨_,rfl,fa,_,rfl,Rd.same x3.vh hk2,_,rfl,a,CW,dx3,_,_,rfl,hA3,T.clW,T.nWays,wf_ways,wa3,wvs,rfl,.inl (hwq.same W3.sv).seq,rfl,_,rfl,?_⟩
    rw[kl,wl3]
    by_cases hfull:ks.length=w.wys.length
    ·rw[if_pos hfull] at hst
     refine iteYes (by simp[hfull]) ?_
     refine qs _ _ Hv3 [none,some (.ins ["laid"] [Dv.wyL c.laid]),some (.dct ks ds)] _ (env12 (case_laid T hcx3 rl3) rp3) W3.sv ?_
     cases hfs:k.fs [none,some (.ins ["laid"] [Dv.wyL c.laid]),some (.dct ks ds)] with
     | bad=>simp only[hfs] at hst; exact(show False from hst).elim
     | exc e=>simp only[hfs] at hst; exact(show False from hst).elim
     | ok d fr =>
      simp only[hfs] at hst
      intro v5 Hv5 H5 x5 rp5 nn5
      refine hst v5 Hv5 H5 an (W3.ext x5) (S3.trans (Stp.ext x5)) rp5 fun z=>(nn5 z).same fun b o hbo=>?_
      have hb3:H3 b=none:=by
       cases q:H3 b with
       | none=>rfl
       | some u=>unfold Hnew at hbo; rw[q] at hbo; cases hbo
      have hbH:H b=none:=by
       cases q:H b with
       | none=>rfl
       | some u=>obtain⟨u',hu⟩:=S3.dm b u q; rw[hb3] at hu; cases hu
      unfold Hnew
      rw[hbH]
      show Hv5 b=some o
      rw[x5.all b hb3]
      exact Hnew.sub b o hbo
    ·rw[if_neg hfull] at hst
     refine iteNo (by simp; omega) ?_
     cases hs:w.sto[c.ix]? with
     | none=>simp only[hs] at hst; exact(show False from hst).elim
     | some as =>
      simp only[hs] at hst
      by_cases hat:c.at_<as.length
      ·rw[if_pos hat] at hst
       obtain⟨rvs,hR,pR⟩:=W3.row
       have lr:=pR.length
       simp only at lr
       refine⟨_,rfl,a,CW,dx3,_,_,rfl,hA3,T.clW,T.nRows,wf_rows,rl,rvs,rfl,.inl (SqL.of hR),(by show 2<=sizeLine; decide),fun t ht=>?_⟩
       have e4:=Ext.new1 x3.vh ht (.tup [.str rowS,.int rvs.length])
       have W4:=W3.ext e4
       have S4:=S3.trans (Stp.ext e4)
       have hcx4:=e4.vv _ _ hcx3
       obtain⟨b',hb',avs,hB,pA⟩:=Paired.gets W4.sto hs
       rw[hb] at hb'
       cases hb'
       have la:=pA.length
       refine⟨_,rfl,cx,CC,dc,_,_,rfl,W4.sv _ _ hcx4,T.clC,T.nAnswers,cf_answers,_,rfl,cx,CC,dc,_,_,rfl,W4.sv _ _ hcx4,T.clC,T.nAt,cf_at,b,avs,(c.at_:Int),c.at_,rfl,rfl,hB,ixN_nat (by omega),?_⟩
       have ht0:H₀ t=none:=W3.oh.free ht
       have W5:=W4.setSto (as:=as.set c.at_ (.row w.rows.length)) (vs:=avs.set c.at_ (.ref t)) hb (Paired.set (show AnAt _ _ (An.row w.rows.length) (V.ref t) from ⟨t,rfl,by rw[upd_same,lr],ht0⟩) pA c.at_)
       have S5:=S4.trans (Stp.write (m:=b) (o:=.lst (avs.set c.at_ (.ref t))) (by simp[List.mem_of_getElem? hb]) (by intro _ _ z; cases z))
       obtain⟨dx5,wa5,hA5,rW5⟩:=W5.slf
       generalize hrw:Dv.rowW k { w with gone:=w.gone+1,wait:=w.wait.dropLast,sto:=w.sto.set c.ix (as.set c.at_ (.row w.rows.length)) } c.laid (.dct ks ds)=rr at hst
       have hrr:∃ w',rr=.row w':=by
        rcases rowW_cases k { w with gone:=w.gone+1,wait:=w.wait.dropLast,sto:=w.sto.set c.ix (as.set c.at_ (.row w.rows.length)) } c.laid (.dct ks ds) with z|⟨w',z⟩
        ·rw[hrw] at z; subst z; exact(show False from hst).elim
        ·exact⟨w',hrw.symm.trans z⟩
       obtain⟨w',rfl⟩:=hrr
       refine⟨_,rfl,a,dx5,_,rfl,hA5,wf_write,_,rfl,cx,CC,dc,_,_,rfl,W5.sv _ _ hcx4,T.clC,T.nLaid,cf_laid,_,rfl,?_⟩
       exact⟨a,wl,rl,an,_,_,_,H₀,_,c.laid,.dct ks ds,w',rfl,W5,rl3.same e4.vv,rp3.same e4.vv,hrw,fun Hs' H' an' W' S'=>hst Hs' H' an' W' (S5.trans S')⟩
      ·rw[if_neg hat] at hst; exact(show False from hst).elim
   | _=>simp only[hfp] at hst; exact(show False from hst).elim
structure Bs (Hv₀ H₀ Hs H:Hp):Prop where
 vv:Same Hv₀ Hs
 nw:∀ b o,Hs b=some o->Hv₀ b=none->H₀ b=none
 nf:∀ b o u,H₀ b=none->H b≠some (.frz o u)
theorem Bs.stp {Hv₀ H₀ Hs H Hs' H':Hp}{M M':List Addr}(x:Bs Hv₀ H₀ Hs H)(oh:Same H₀ H)(s:Stp Hs H M Hs' H' M'):Bs Hv₀ H₀ Hs' H':=by
 refine⟨x.vv.trans s.ss,fun b o h n=>?_,fun b o u h z=>x.nf b o u h (s.fz b o u z)⟩
 cases q:Hs b with
 | some u=>exact x.nw b u q n
 | none=>exact oh.free (s.nw b o h q)
theorem Bs.fin {Hv₀ H₀ Hs H:Hp}(x:Bs Hv₀ H₀ Hs H)(oh:Same H₀ H)(sv:Same Hs H):∃ Hv2,Ext Hv₀ H₀ Hv2 H/\Same Hs Hv2/\∀ b,H₀ b=none->Hv2 b=H b:=by
 let Hv2:Hp:=fun b=>match H₀ b with
  | none=>H b
  | some _=>Hs b
 have a1:∀ b,H₀ b=none->Hv2 b=H b:=fun b h=>by show (match H₀ b with|none=>H b|some _=>Hs b)=_; rw[h]
 have a2:∀ b o,H₀ b=some o->Hv2 b=Hs b:=fun b o h=>by show (match H₀ b with|none=>H b|some _=>Hs b)=_; rw[h]
 have a3:Same Hs Hv2:=fun b o h=>by
  cases q:H₀ b with
  | none=>rw[a1 b q]; exact sv b o h
  | some u=>rw[a2 b u q]; exact h
 refine⟨Hv2,⟨oh,x.vv.trans a3,fun b o h=>?_,fun b o h n=>?_,a1,x.nf⟩,a3,a1⟩
 ·cases q:H₀ b with
  | none=>rw[a1 b q] at h; exact h
  | some u=>rw[a2 b u q] at h; exact sv b o h
 ·cases q:H₀ b with
  | none=>rfl
  | some u=>rw[a2 b u q] at h; rw[x.nw b o h n] at q; cases q
noncomputable abbrev tMore (K:PySem.W.Frag):TT:=tTest (tOp (rI0 fun i j=>.bl (decide (j<i))) (tCB (lenR K) (tCons (tFld K (tVar 0) "waiting") tNil)) (tC (.int 0)))
noncomputable def tAll (K:PySem.W.Frag)(CW CC:Addr)(cls:String->Value)(k:Wk)(E:XK):TS :=
 tSeq (tAsg (tLst tNil) (gName 1)) (tSeq (tWhile (tMore K)
  (tSeq (tAsg (tMeth CW "go_on" (spGo K CW CC cls k) [] E (tVar 0) tNil) (gName 2)) (tIfS (tB (tNotN (tVar 2))) (tDrop (tBM K "list" rAppend (tVar 1) (tCons (tVar 2) tNil))) tNext)))
  (tRet (tVar 1)))
noncomputable def spAll (K:PySem.W.Frag)(CW CC:Addr)(cls:String->Value)(k:Wk):Sp:=fun vs H Q E=>∃ (a wl rl:Addr) (an:List Addr) (Hs Hv₀ H₀:Hp) (w:Ws),vs=[.ref a]/\WkAt K CW CC Hs H H₀ a wl rl an w/\Bs Hv₀ H₀ Hs H/\Ok K Hv₀ H₀ E cls (Dv.allGo k 2002 w []) Q
theorem spAll_len {K:PySem.W.Frag}{CW CC:Addr}{cls:String->Value}{k:Wk}(vs:List V)(H:Hp)(Q:VK)(E:XK)(h:spAll K CW CC cls k vs H Q E):vs.length=1:=by
 obtain⟨_,_,_,_,_,_,_,_,rfl,_⟩:=h; rfl
theorem hnew_same {H₀ Hs Hs':Hp}(s:Same Hs Hs'):Same (Hnew H₀ Hs) (Hnew H₀ Hs'):=Hnew.mono (.refl _) s
theorem hnew_less {H₀ H Hs:Hp}(s:Same H₀ H):Same (Hnew H Hs) (Hnew H₀ Hs):=Hnew.mono s (.refl _)
theorem all_read {K:PySem.W.Frag}{CW CC:Addr}{cls:String->Value}{k:Wk}{E:XK}{vs:List V}{H:Hp}{Q:VK}(T:WkT K CW CC)(h:spAll K CW CC cls k vs H Q E) :
  tAll K CW CC cls k E { nx:=fun _ H'=>Q .non H',rt:=Q } (L2.start ["walk","fillings","found"] vs) H:=by
 obtain⟨a,wl,rl,an,Hs,Hv₀,H₀,w,rfl,W,B,ok⟩:=h
 refine⟨(by show 0<=sizeLine; decide),fun fl hfl=>?_⟩
 have nfl:fl∉a::wl::rl::an:=fun z=>by obtain⟨o,ho⟩:=W.has fl z; rw[hfl] at ho; cases ho
 refine⟨fun m σ Hc=>∃ Hs1 an1 w1 vf acc fvs,σ=[some (.ref a),some (.ref fl),vf]/\WkAt K CW CC Hs1 Hc H₀ a wl rl an1 w1/\Bs Hv₀ H₀ Hs1 Hc/\(Hs1 fl=none/\H₀ fl=none/\fl∉a::wl::rl::an1)/\Hc fl=some (.lst fvs)/\RpL [] (Hnew H₀ Hs1) acc fvs/\Ok K Hv₀ H₀ E cls (Dv.allGo k m w1 acc) Q,?_,?_⟩
 ·refine⟨2002,Hs,an,w,none,[],[],rfl,W.other (W.sv.free hfl) (W.oh.free hfl) nfl,⟨B.vv,B.nw,fun b o u hb z=>?_⟩,⟨W.sv.free hfl,W.oh.free hfl,nfl⟩,upd_same,.nil,ok⟩
  by_cases e:b=fl
  ·subst e; rw[upd_same] at z; cases z
  ·rw[upd_ne e] at z; exact B.nf b o u hb z
 ·rintro m σ Hc ⟨Hs1,an1,w1,vf,acc,fvs,rfl,W1,B1,⟨n1,n2,n3⟩,hF,rF,ok1⟩
  cases m with
  | zero=>exact(show False from ok1).elim
  | succ n =>
   obtain⟨dx,wa,hA,rW⟩:=W1.slf
   obtain⟨cvs,hC,pC⟩:=W1.wai
   have lc:=pC.length
   refine⟨_,rfl,a,CW,dx,_,_,rfl,hA,T.clW,T.nWaiting,wf_waiting,wl,cvs,rfl,.inl (SqL.of hC),_,_,rfl,rfl,_,rfl,?_⟩
   rw[<- lc]
   have fr:∀ {acc:List D} {vs:List V},RpL [] (Hnew H₀ Hs1) acc vs->RpL K Hs1 acc vs:=fun h=>(RpL.frag h).same Hnew.sub
   unfold Dv.allGo at ok1
   cases hw:w1.wait with
   | nil =>
    rw[hw] at ok1
    simp only[List.isEmpty_nil,if_true] at ok1
    refine iteNo (by simp) ?_
    obtain⟨Hv2,x2,s2,a2⟩:=B1.fin W1.oh W1.sv
    refine⟨_,rfl,ok1 (.ref fl) Hv2 Hc x2 ?_ fun _=>?_⟩
    ·unfold Rp
     exact⟨fl,fvs,rfl,SqX.of (by rw[a2 fl n2]; exact hF),(fr rF).same s2⟩
    ·unfold Rp
     refine⟨fl,fvs,rfl,SqX.of (by unfold Hnew; rw[n2]; exact hF),rF.same (hnew_same W1.sv)⟩
   | cons c0 cr =>
    rw[hw] at ok1
    simp only[List.isEmpty_cons,Bool.false_eq_true,if_false] at ok1
    refine iteYes (by simp) ?_
    refine⟨fun σ' H'=>∃ Hs1 an1 w1 vf acc fvs,σ'=[some (.ref a),some (.ref fl),vf]/\WkAt K CW CC Hs1 H' H₀ a wl rl an1 w1/\Bs Hv₀ H₀ Hs1 H'/\(Hs1 fl=none/\H₀ fl=none/\fl∉a::wl::rl::an1)/\H' fl=some (.lst fvs)/\RpL [] (Hnew H₀ Hs1) acc fvs/\Ok K Hv₀ H₀ E cls (Dv.allGo k n w1 acc) Q,fun σ' H' h=>⟨n,Nat.lt_succ_self _,h⟩,?_⟩
    refine⟨_,rfl,a,dx,_,rfl,hA,wf_go,a,wl,rl,an1,Hs1,H₀,w1,rfl,W1,?_⟩
    have far:∀ {Hs' H':Hp} {an':List Addr},Stp Hs1 Hc (a::wl::rl::an1) Hs' H' (a::wl::rl::an')->(Hs' fl=none/\H₀ fl=none/\fl∉a::wl::rl::an')/\H' fl=some (.lst fvs):=fun {Hs' H' an'} S=>by
     refine⟨⟨?_,n2,fun z=>?_⟩,S.kp fl _ hF n3⟩
     ·cases q:Hs' fl with
      | none=>rfl
      | some o=>rw[S.nw fl o q n1] at hF; cases hF
     ·rcases S.mm fl z with z|z
      ·exact n3 z
      ·rw[z] at hF; cases hF
    cases hs:Dv.stepW k w1 with
    | many =>
     simp only[hs] at ok1
     rintro Hs' H' an' ⟨w',W'⟩ S'
     obtain⟨Hv2,x2,_⟩:=(B1.stp W1.oh S').fin W'.oh W'.sv
     exact ok1 Hv2 H' x2
    | bad=>simp only[hs] at ok1; exact(show False from ok1).elim
    | row w' =>
     simp only[hs] at ok1
     intro Hs' H' an' W' S'
     obtain⟨f1,f2⟩:=far S'
     refine⟨_,rfl,_,rfl,?_⟩
     refine iteNo (by simp) ?_
     exact⟨Hs',an',w',_,acc,fvs,rfl,W',B1.stp W1.oh S',f1,f2,rF.same (hnew_same S'.ss),ok1⟩
    | full w' d fr0 =>
     simp only[hs] at ok1
     cases d with
     | lst es =>
      simp only at ok1
      by_cases hb:(fr0&&decide (acc.length<Dv.mx))=true
      ·rw[if_pos hb] at ok1
       rw[Bool.and_eq_true,decide_eq_true_eq] at hb
       intro v Hs' H' an' W' S' rp nn
       obtain⟨f1,f2⟩:=far S'
       have rp':=rp
       unfold Rp at rp'
       obtain⟨p,pvs,rfl,_,_⟩:=rp'
       have lf:=rF.length
       refine⟨_,rfl,_,rfl,?_⟩
       refine iteYes (by simp) ?_
       refine⟨_,rfl,.inl ⟨rfl,_,SqL.of f2⟩,_,rfl,fl,fvs,.ref p,rfl,rfl,f2,by have:=line_lt hb.2; omega,?_⟩
       refine⟨Hs',an',w',_,acc++[.lst es],fvs++[.ref p],rfl,W'.other f1.1 f1.2.1 f1.2.2,?_,f1,upd_same,?_,ok1⟩
       ·have B':=B1.stp W1.oh S'
        refine⟨B'.vv,B'.nw,fun b o u hb z=>?_⟩
        by_cases e:b=fl
        ·subst e; rw[upd_same] at z; cases z
        ·rw[upd_ne e] at z; exact B'.nf b o u hb z
       ·exact(rF.same (hnew_same S'.ss)).append (.cons ((nn hb.1).same (hnew_less W1.oh)) .nil)
      ·rw[if_neg hb] at ok1; exact(show False from ok1).elim
     | _=>exact(show False from ok1).elim
open Dv (D R RL EE EL EI RI Sl Out SS Wy An Cs Ws WR Wk PR)
structure Mf (K:PySem.W.Frag)(x qual:Str)(st:Stmt)(ps:List Str)(f:Addr)(fd:FuncData):Prop where
 ex:∃ (oc:Value) (od:Option Addr) (dV kV doc pm:Value) (an:Option Addr) (cdv ct:Value) (osl:Array (Option Value)),
  fd=PySem.W.fnOf x qual (defArgs st) (defBody st) (defScope st) dV kV doc pm an cdv ct/\K.lookup f=some ⟨oc,od,.func fd,osl⟩/\PySem.W.codeIn K cdv qual=true
 bd:Binds K fd ps []
section
variable {P:Program}{w:World}{K:PySem.W.Frag}{mg:Str->Option Value}{base:Heap}{CX:CXT}
theorem mf_mk {x qual:Str}{st:Stmt}{ps:List Str}{f:Addr}{oc:Value}{od an:Option Addr}{osl:Array (Option Value)}{dV kV doc pm cdv ct:Value}(l:K.lookup f=some ⟨oc,od,.func (PySem.W.fnOf x qual (defArgs st) (defBody st) (defScope st) dV kV doc pm an cdv ct),osl⟩)
  (c:PySem.W.codeIn K cdv qual=true)
  (h:∀ (kV doc pm:Value) (an:Option Addr) (cdv ct:Value) (us:List Value),us.length=ps.length->bindArgs (PySem.W.fnOf x qual (defArgs st) (defBody st) (defScope st) dV kV doc pm an cdv ct) ⟨us,[]⟩=pure (ps.zip us)) :
  Mf K x qual st ps f (PySem.W.fnOf x qual (defArgs st) (defBody st) (defScope st) dV kV doc pm an cdv ct):=⟨⟨oc,od,dV,kV,doc,pm,an,cdv,ct,osl,rfl,l,c⟩,.all (h kV doc pm an cdv ct)⟩
theorem Mf.okL {x qual:Str}{st:Stmt}{f:Addr}{fd:FuncData}{ps:List Str}{sp:Sp}(N:List Str)(k:Nat)(d:Mf K x qual st ps f fd)(S:FnScope N ps (defScope st))(len:∀ vs H Q E,sp vs H Q E->vs.length=ps.length)
  (hbody:∀ (cdv:Value) (A:Around) (outer:List PySem.Env) (s:Shared) (H:Hp) (vs:List V) (Q:VK) (E:XK) (hr:Room k (A.deeper (envOfC qual (defScope st) s.heap.objs.size f cdv))),sp vs H Q E ->
   ∃ t,PSs (cxOf CX P w K mg base N qual (defScope st) f cdv A outer s H E) (defBody st) t/\t { nx:=fun _ H'=>Q .non H',rt:=Q } (L2.start N vs) H):FnOk P w K mg base CX (k+1) f fd ps sp:=by
 obtain⟨oc,od,dV,kV,doc,pm,an,cdv,ct,osl,rfl,lk,hcd⟩:=d.ex
 exact fn_of lk hcd S len fun A outer s H vs Q E hr hsp=>hbody cdv A outer s H vs Q E hr hsp
theorem Df.okL {x:Str}{st:Stmt}{f:Addr}{fd:FuncData}{ps:List Str}{sp:Sp}(N:List Str)(k:Nat)(d:Df K mg x st ps f fd)(S:FnScope N ps (defScope st))(len:∀ vs H Q E,sp vs H Q E->vs.length=ps.length)
  (hbody:∀ (cdv:Value) (A:Around) (outer:List PySem.Env) (s:Shared) (H:Hp) (vs:List V) (Q:VK) (E:XK) (hr:Room k (A.deeper (envOfC x (defScope st) s.heap.objs.size f cdv))),sp vs H Q E ->
   ∃ t,PSs (cxOf CX P w K mg base N x (defScope st) f cdv A outer s H E) (defBody st) t/\t { nx:=fun _ H'=>Q .non H',rt:=Q } (L2.start N vs) H):FnOk P w K mg base CX (k+1) f fd ps sp:=by
 obtain⟨oc,od,dV,kV,doc,pm,an,cdv,ct,osl,rfl,lk,hcd⟩:=d.ex
 exact fn_of lk hcd S len fun A outer s H vs Q E hr hsp=>hbody cdv A outer s H vs Q E hr hsp
end
theorem ints_eq:∀ {ds:List D} {ns:List Int},Dv.intsOf ds=some ns->ds=ns.map .int
 | [],ns,h=>by simp[Dv.intsOf] at h; subst h; rfl
 | d::r,ns,h=>by
  cases d with
  | int i =>
   simp only[Dv.intsOf,Option.map_eq_some_iff] at h
   obtain⟨ms,h1,rfl⟩:=h
   rw[ints_eq h1]
   rfl
  | _=>simp[Dv.intsOf] at h
theorem deW_eq {d:D}{w:Wy}(h:Dv.deW d=some w):d=w.d:=by
 unfold Dv.deW at h
 split at h
 ·split at h
  ·rename_i s ps ns hn
   cases h
   rw[ints_eq hn]
   rfl
  ·cases h
 ·cases h
theorem deWL_eq:∀ {ds:List D} {l:List Wy},Dv.deWL ds=some l->ds=l.map Wy.d
 | [],l,h=>by simp[Dv.deWL] at h; subst h; rfl
 | d::r,l,h=>by
  unfold Dv.deWL at h
  split at h
  ·rename_i w ws h1 h2
   cases h
   rw[deW_eq h1,deWL_eq h2]
   rfl
  ·cases h
theorem deL_eq {d:D}{l:List Wy}(h:Dv.deL d=some l):d=Dv.wyL l:=by
 unfold Dv.deL at h
 split at h
 ·rw[deWL_eq h]; rfl
 ·cases h
theorem deLL_eq:∀ {ds:List D} {l:List (List Wy)},Dv.deLL ds=some l->ds=l.map Dv.wyL
 | [],l,h=>by simp[Dv.deLL] at h; subst h; rfl
 | d::r,l,h=>by
  unfold Dv.deLL at h
  split at h
  ·rename_i w ws h1 h2
   cases h
   rw[deL_eq h1,deLL_eq h2]
   rfl
  ·cases h
theorem deWs_eq {d:D}{l:List (List Wy)}(h:Dv.deWs d=some l):d=Dv.wysD l:=by
 unfold Dv.deWs at h
 split at h
 ·rw[deLL_eq h]; rfl
 ·cases h
noncomputable def OkP (K:PySem.W.Frag)(CW CC:Addr)(cls:String->Value)(Hv H:Hp)(r:PR)(Q:VK)(E:XK):Prop:=match r with
 | .exc c=>∀ Hv' H',Ext Hv H Hv' H'->E (cls c) none H'
 | .bad=>False
 | .ok wys laid=>∀ a wl rl an Hs' H',WkAt K CW CC Hs' H' H a wl rl an (Dv.w0 wys laid)->Bs Hv H Hs' H'->Q (.ref a) H'
noncomputable def spPW (K:PySem.W.Frag)(CW CC:Addr)(cls:String->Value)(F:List D->PR)(n:Nat):Sp:=fun vs H Q E=>∃ (ds:List D) (Hv:Hp),ds.length=n/\Same Hv H/\RpL K Hv ds vs/\OkP K CW CC cls Hv H (F ds) Q E
theorem spPW_len {K:PySem.W.Frag}{CW CC:Addr}{cls:String->Value}{F:List D->PR}{n:Nat}(vs:List V)(H:Hp)(Q:VK)(E:XK)(h:spPW K CW CC cls F n vs H Q E):vs.length=n:=by
 obtain⟨ds,Hv,h1,_,h3,_⟩:=h; rw[h3.length]; exact h1
theorem env_args {K:PySem.W.Frag}{Hv:Hp}{ds:List D}{vs:List V}{N:List Str}(r:RpL K Hv ds vs):EnvR K Hv (ds.map some) (L2.start N vs):=fun i d h=>by
 rw[List.getElem?_map] at h
 cases q:ds[i]? with
 | none=>rw[q] at h; cases h
 | some d' =>
  rw[q] at h
  cases h
  obtain⟨v,h1,h2⟩:=r.get q
  exact⟨v,start_get h1,h2⟩
theorem make_walk {K:PySem.W.Frag}{CW CC:Addr}{Hv H Hv2 H2:Hp}{wa lb:Addr}{wys:List (List Wy)}{laid:List Wy}{Q:VK}{E:XK}(x2:Ext Hv H Hv2 H2)(r1:Rp K Hv2 (Dv.wysD wys) (.ref wa))(r2:Rp K Hv2 (Dv.wyL laid) (.ref lb))
  (h:∀ a wl rl an Hs' H',WkAt K CW CC Hs' H' H a wl rl an (Dv.w0 wys laid)->Bs Hv H Hs' H'->Q (.ref a) H') :
  ∀ x dx,H2 x=none->H2 dx=none->dx≠x->spWI K CW CC (.ref x::([.ref wa,.ref lb]++[])) (upd (upd H2 dx (.own x)) x (.ins CW dx [])) (fun v H3=>v=.non/\Q (.ref x) H3) E:=by
 intro x dx hx hdx hne
 have s1:∀ {Ha:Hp},Same Ha H2->Same Ha (upd (upd H2 dx (.own x)) x (.ins CW dx [])):=fun {Ha} s b o e=>by
  rw[upd_ne (ne_of_none e (s.free hx)),upd_ne (ne_of_none e (s.free hdx))]; exact s b o e
 refine⟨x,dx,wa,lb,Hv2,H,wys,laid,rfl,upd_same,s1 x2.vh,x2.vh.free hx,s1 x2.hh,x2.hh.free hx,r1,r2,fun Hs' H' wl rl an W S=>⟨rfl,h x wl rl an Hs' H' W ⟨x2.vv.trans S.ss,fun b o q n=>?_,fun b o u q z=>?_⟩⟩⟩
 ·cases q2:Hv2 b with
  | some u=>exact x2.new b u q2 n
  | none =>
   have h3:=S.nw b o q q2
   obtain⟨_,h4⟩:=upd_none h3
   obtain⟨_,h5⟩:=upd_none h4
   exact x2.hh.free h5
 ·have z2:=S.fz b o u z
  by_cases e:b=x
  ·subst e; rw[upd_same] at z2; cases z2
  rw[upd_ne e] at z2
  by_cases e2:b=dx
  ·subst e2; rw[upd_same] at z2; cases z2
  rw[upd_ne e2] at z2
  exact x2.nf b o u q z2
theorem pw_read {C:Ctx}{CW CC:Addr}{E:XK}{tw tl:TE}{fw fl:EE}{N:List Str}{n:Nat}{vs:List V}{H:Hp}{Q:VK}(hW:∀ σ,C.W σ=E)(qw:Tak C tw fw)(ql:Tak C tl fl)(h:spPW C.X.K CW CC C.cls (Dv.pwR fw fl) n vs H Q E) :
  tRet (tMake CW (spWI C.X.K CW CC) [] E (tCons tw (tCons tl tNil))) { nx:=fun _ H'=>Q .non H',rt:=Q } (L2.start N vs) H:=by
 obtain⟨ds,Hv,hl,sv,rp,ok⟩:=h
 unfold Dv.pwR at ok
 refine qw _ H Hv (ds.map some) _ (env_args rp) sv ?_
 rw[hW]
 cases hf:fw (ds.map some) with
 | bad=>simp only[hf] at ok; exact ok
 | exc c=>simp only[hf] at ok; exact ok
 | ok dw fr =>
  simp only[hf] at ok
  intro v1 Hv1 H1 x1 rp1 nn1
  refine ql _ H1 Hv1 (ds.map some) _ (env_args (rp.same x1.vv)) x1.vh ?_
  rw[hW]
  cases hg:fl (ds.map some) with
  | bad=>simp only[hg] at ok; exact ok
  | exc c=>simp only[hg] at ok; exact fun Hv' H' y=>ok Hv' H' (x1.trans y)
  | ok dl fr2 =>
   simp only[hg] at ok
   intro v2 Hv2 H2 x2 rp2 nn2
   split at ok
   ·rename_i wys laid h1 h2
    rw[deWs_eq h1] at rp1
    rw[deL_eq h2] at rp2
    have rp1':=rp1
    have rp2':=rp2
    unfold Dv.wysD Rp at rp1'
    obtain⟨wa,_,rfl,_,_⟩:=rp1'
    obtain⟨lb,_,rfl,_,_⟩:=wyL_at rp2'
    exact make_walk (x1.trans x2) (rp1.same x2.vv) rp2 ok
   ·exact(show False from ok).elim
theorem se_allfill {C:Ctx}{CW CC:Addr}{k:Wk}{F:List D->PR}{e:Expr}{es:List Expr}{fl:EL}{m jA jP:Nat}{fA fP:Addr}{fdA fdP:FuncData}{sA sP:Stmt}{ps:List Str}{xA xP:Str}{pA pP pos posP:Pos}
  (dA:Df C.X.K C.X.mg xA sA ["walk"] fA fdA) (oA:FnOk C.X.prog C.X.w C.X.K C.X.mg C.X.base C.CX jA fA fdA ["walk"] (spAll C.X.K CW CC C.cls k)) (dP:Df C.X.K C.X.mg xP sP ps fP fdP) (oP:FnOk C.X.prog C.X.w C.X.K C.X.mg C.X.base C.CX jP fP fdP ps (spPW C.X.K CW CC C.cls F ps.length))
  (hr:Room m C.X.A) (hjA:jA<=m) (hjP:jP<=m) (hgA:Gl C.X xA) (hgP:Gl C.X xP) (ha:SL C (e::es) fl) (hlen:autoParam ((e::es).length=ps.length) Au.h5._auto_1) (hdA:autoParam ((xA == ("__debug__":Str))=false) Au.h2._auto_1) (hdP:autoParam ((xP == ("__debug__":Str))=false) Au.h2._auto_1)
  (heA:autoParam (starEach [.Call (.Name xP pP) (e::es) [] posP] C.X.env=(false,eval (.Call (.Name xP pP) (e::es) [] posP) C.X.env)::starEach [] C.X.env) Au.h5._auto_1) (hplA:autoParam ((backTo pos (starEach [] C.X.env)).any (·.1)=false) Au.h5._auto_1)
  (heP:autoParam (starEach (e::es) C.X.env=(false,eval e C.X.env)::starEach es C.X.env) Au.h5._auto_1) (hplP:autoParam ((backTo posP (starEach es C.X.env)).any (·.1)=false) Au.h5._auto_1) :
  SE C (.Call (.Name xA pA) [.Call (.Name xP pP) (e::es) [] posP] [] pos) (fun ρ=>(fl ρ).bind fun ds _=>match F ds with
   | .exc c=>.exc c
   | .bad=>.bad
   | .ok wys laid=>Dv.allGo k 2002 (Dv.w0 wys laid) []):=by
 obtain⟨t,pa,qa,hl⟩:=ha
 refine⟨_,pe_callW (W:=C.W) (oA.mono hjA) hr hgA dA.m dA.kp dA.bd .nil C.pass (pa_cons (pe_callW (W:=C.W) (oP.mono hjP) hr hgP dP.m dP.kp dP.bd .nil C.pass pa hdP heP hplP) pa_nil heA) hdA heA hplA,fun σ H Hv ρ Q er s w=>?_⟩
 refine qa.step er (.refl s) w fun vs ds fr Hv1 H1 hf x1 _ rp _ w1=>?_
 refine⟨ds,Hv1,by rw[hl ρ ds fr hf]; exact hlen,x1.vh,by rw[List.append_nil]; exact rp,?_⟩
 cases hF:F ds with
 | exc c=>simp only[hF] at w1; exact fun Hv' H' y=>w1 Hv' H' (x1.trans y)
 | bad=>simp only[hF] at w1; exact w1
 | ok wys laid =>
  simp only[hF] at w1
  intro a wl rl an Hs' H' W B
  exact⟨a,wl,rl,an,Hs',Hv1,H1,_,rfl,W,B,Ok.later x1 w1⟩
open PySem PySem.W PyProof.Rows
noncomputable def ev {α:Type}(c:Nat->Nat->Bool):KasT α->α
 | .ret a=>a
 | .ask i j k=>ev c (k (c i j))
theorem ev_bind {α β:Type}(c:Nat->Nat->Bool)(f:α->KasT β):∀ t:KasT α,ev c (t.bind f)=ev c (f (ev c t))
 | .ret _=>rfl
 | .ask i j k=>ev_bind c f (k (c i j))
noncomputable def inn {α:Type}(n:Nat)(c:Nat->Nat->Bool):KasT α->Prop
 | .ret _=>True
 | .ask i j k=>i<n/\j<n/\inn n c (k (c i j))
theorem inn_bind {α β:Type}{n:Nat}{c:Nat->Nat->Bool}{f:α->KasT β}:∀ {t:KasT α},inn n c t->inn n c (f (ev c t))->inn n c (t.bind f)
 | .ret _,_,h=>h
 | .ask i j k,⟨h1,h2,h3⟩,h=>⟨h1,h2,inn_bind h3 h⟩
theorem wp_of {α:Type}{n:Nat}{c:Nat->Nat->Bool}{cmp:Nat->Nat->(Bool->Shared->Prop)->Shared->Prop}{s:Shared}(hc:∀ i j C,i<n->j<n->C (c i j) s->cmp i j C s):∀ {t:KasT α} {Q:α->Shared->Prop},inn n c t->Q (ev c t) s->t.kasWp cmp Q s
 | .ret _,_,_,h=>h
 | .ask i j k,Q,⟨h1,h2,h3⟩,h=>hc i j _ h1 h2 (wp_of hc h3 h)
section
variable {key:Nat->Int}{n:Nat}
noncomputable abbrev cK (key:Nat->Int):Nat->Nat->Bool:=fun i j=>decide (key i<key j)
noncomputable def KA (key:Nat->Int)(p:Array Nat)(k:Nat):Int:=key (p.getD k 0)
noncomputable def Pm (n:Nat)(p:Array Nat):Prop:=p.size=n/\p.toList.Perm (List.range n)
theorem Pm.lt {p:Array Nat}(h:Pm n p){k:Nat}(hk:k<n):p.getD k 0<n:=by
 have hs:k<p.size:=by rw[h.1]; exact hk
 have e:p.getD k 0=p[k]:=by simp[Array.getD,hs]
 rw[e]
 have:p[k]∈p.toList:=by simp
 exact List.mem_range.mp (h.2.mem_iff.mp this)
theorem Pm.of {p q:Array Nat}(h:Pm n p)(e:q.Perm p):Pm n q:=⟨e.size_eq.trans h.1,(Array.perm_iff_toList_perm.mp e).trans h.2⟩
theorem KA_of {p q:Array Nat}{i j:Nat}(h:p[i]?=q[j]?):KA key p i=KA key q j:=by
 unfold KA
 congr 1
 have g:∀ (r:Array Nat) (k:Nat),r.getD k 0=(r[k]?).getD 0:=fun r k=>by
  by_cases hk:k<r.size <;>simp[Array.getD,hk]
 rw[g,g,h]
theorem KA_rev {p:Array Nat}{i j:Nat}(hj:j<=p.size)(k:Nat):KA key (kas_rev p i j) k=if i<=k/\k<j then KA key p (i+j-1-k) else KA key p k:=by
 have e:=getElem?_mirror_all (i:=i) hj k
 unfold kas_rev
 split
 ·rename_i h; rw[if_pos h] at e; exact KA_of e
 ·rename_i h; rw[if_neg h] at e; exact KA_of e
theorem Pm.rev {p:Array Nat}(h:Pm n p)(i j:Nat):Pm n (kas_rev p i j):=h.of (mirror_perm _ _ _ _)
noncomputable def Up (key:Nat->Int)(p:Array Nat)(m:Nat):Prop:=∀ i j,i<=j->j<m->KA key p i<=KA key p j
noncomputable def Dn (key:Nat->Int)(p:Array Nat)(m:Nat):Prop:=∀ i j,i<=j->j<m->KA key p j<=KA key p i
theorem Up.step {p:Array Nat}{m:Nat}(h:Up key p m)(h1:1<=m)(q:KA key p (m-1)<=KA key p m):Up key p (m+1):=fun i j hij hj=>by
 by_cases e:j=m
 ·subst e
  by_cases e2:i=j
  ·subst e2; exact Int.le_refl _
  ·exact Int.le_trans (h i (j-1) (by omega) (by omega)) q
 ·exact h i j hij (by omega)
theorem Dn.step {p:Array Nat}{m:Nat}(h:Dn key p m)(h1:1<=m)(q:KA key p m<=KA key p (m-1)):Dn key p (m+1):=fun i j hij hj=>by
 by_cases e:j=m
 ·subst e
  by_cases e2:i=j
  ·subst e2; exact Int.le_refl _
  ·exact Int.le_trans q (h i (j-1) (by omega) (by omega))
 ·exact h i j hij (by omega)
theorem asc_ok {p:Array Nat}(hp:Pm n p):∀ (f m:Nat),1<=m->m+f<=n->Up key p m->inn n (cK key) (kas_asc p f m)/\m<=ev (cK key) (kas_asc p f m)/\ev (cK key) (kas_asc p f m)<=m+f/\Up key p (ev (cK key) (kas_asc p f m))/\(ev (cK key) (kas_asc p f m)<m+f->KA key p (ev (cK key) (kas_asc p f m))<KA key p (ev (cK key) (kas_asc p f m)-1))
 | 0,m,_,_,hu=>⟨trivial,Nat.le_refl _,Nat.le_refl _,hu,fun h=>absurd h (by simp[kas_asc,ev])⟩
 | f+1,m,h1,hm,hu=>by
  have ha:=hp.lt (k:=m) (by omega)
  have hb:=hp.lt (k:=m-1) (by omega)
  unfold kas_asc
  simp only[ev,inn]
  by_cases hc:KA key p m<KA key p (m-1)
  ·have e:cK key (p.getD m 0) (p.getD (m-1) 0)=true:=decide_eq_true hc
   rw[e]
   simp only[if_true,ev,inn]
   exact⟨⟨ha,hb,trivial⟩,Nat.le_refl _,by omega,hu,fun _=>hc⟩
  ·have e:cK key (p.getD m 0) (p.getD (m-1) 0)=false:=decide_eq_false hc
   rw[e]
   simp only[Bool.false_eq_true,if_false]
   obtain⟨a1,a2,a3,a4,a5⟩:=asc_ok hp f (m+1) (by omega) (by omega) (hu.step h1 (by omega))
   exact⟨⟨ha,hb,a1⟩,by omega,by omega,a4,fun h=>a5 (by omega)⟩
theorem rev_flat {p:Array Nat}{i j:Nat}(hj:j<=p.size)(h:∀ k,i<=k->k<j->KA key p k=KA key p (j-1))(k:Nat):KA key (kas_rev p i j) k=KA key p k:=by
 rw[KA_rev hj]
 split
 ·rename_i hk; rw[h _ (by omega) (by omega),h k hk.1 hk.2]
 ·rfl
theorem Dn.congr {p q:Array Nat}{m:Nat}(h:Dn key p m)(e:∀ k,KA key q k=KA key p k):Dn key q m:=fun i j a b=>by rw[e,e]; exact h i j a b
theorem desc_ok:∀ (f:Nat) (p:Array Nat) (m q:Nat),Pm n p->1<=m->m+f<=n->q+1<=m->Dn key p m->(∀ k,m-(q+1)<=k->k<m->KA key p k=KA key p (m-1)) ->
  inn n (cK key) (kas_desc f p m q)/\Pm n (ev (cK key) (kas_desc f p m q)).1/\m<=(ev (cK key) (kas_desc f p m q)).2.1/\(ev (cK key) (kas_desc f p m q)).2.1<=m+f/\(ev (cK key) (kas_desc f p m q)).2.2+1<=(ev (cK key) (kas_desc f p m q)).2.1 /\
  Dn key (ev (cK key) (kas_desc f p m q)).1 (ev (cK key) (kas_desc f p m q)).2.1/\∀ k,(ev (cK key) (kas_desc f p m q)).2.1-((ev (cK key) (kas_desc f p m q)).2.2+1)<=k->k<(ev (cK key) (kas_desc f p m q)).2.1->KA key (ev (cK key) (kas_desc f p m q)).1 k=KA key (ev (cK key) (kas_desc f p m q)).1 ((ev (cK key) (kas_desc f p m q)).2.1-1)
 | 0,p,m,q,hp,h1,hm,hq,hd,he=>⟨trivial,hp,Nat.le_refl _,Nat.le_refl _,hq,hd,he⟩
 | f+1,p,m,q,hp,h1,hm,hq,hd,he=>by
  have ha:=hp.lt (k:=m) (by omega)
  have hb:=hp.lt (k:=m-1) (by omega)
  unfold kas_desc
  simp only[ev,inn]
  by_cases hc:KA key p m<KA key p (m-1)
  ·have e:cK key (p.getD m 0) (p.getD (m-1) 0)=true:=decide_eq_true hc
   rw[e]
   simp only[if_true]
   by_cases h0:q > 0
   ·rw[if_pos h0]
    have ek:∀ k,KA key (kas_rev p (m-(q+1)) m) k=KA key p k:=rev_flat (by rw[hp.1]; omega) he
    obtain⟨a1,a2,a3,a4,a5⟩:=desc_ok f (kas_rev p (m-(q+1)) m) (m+1) 0 (hp.rev _ _) (by omega) (by omega) (by omega) ((hd.congr ek).step h1 (by rw[ek,ek]; omega)) fun k k1 k2=>by
     rw[show k=m+1-1 by omega]
    exact⟨⟨ha,hb,a1⟩,a2,by omega,by omega,a5⟩
   ·rw[if_neg h0]
    obtain⟨a1,a2,a3,a4,a5⟩:=desc_ok f p (m+1) 0 hp (by omega) (by omega) (by omega) (hd.step h1 (by omega)) fun k k1 k2=>by
     rw[show k=m+1-1 by omega]
    exact⟨⟨ha,hb,a1⟩,a2,by omega,by omega,a5⟩
  ·have e:cK key (p.getD m 0) (p.getD (m-1) 0)=false:=decide_eq_false hc
   rw[e]
   simp only[Bool.false_eq_true,if_false,ev,inn]
   by_cases hc2:KA key p (m-1)<KA key p m
   ·have e2:cK key (p.getD (m-1) 0) (p.getD m 0)=true:=decide_eq_true hc2
    rw[e2]
    simp only[if_true,ev,inn]
    exact⟨⟨ha,hb,hb,ha,trivial⟩,hp,Nat.le_refl _,by omega,hq,hd,he⟩
   ·have e2:cK key (p.getD (m-1) 0) (p.getD m 0)=false:=decide_eq_false hc2
    rw[e2]
    simp only[Bool.false_eq_true,if_false]
    have eq:KA key p m=KA key p (m-1):=by omega
    obtain⟨a1,a2,a3,a4,a5⟩:=desc_ok f p (m+1) (q+1) hp (by omega) (by omega) (by omega) (hd.step h1 (by omega)) fun k k1 k2=>by
     by_cases z:k=m
     ·subst z; rfl
     ·rw[he k (by omega) (by omega)]; exact eq.symm
    exact⟨⟨ha,hb,hb,ha,a1⟩,a2,by omega,by omega,a5⟩
theorem tail3_ok {p:Array Nat}{m nr:Nat}(hp:Pm n p)(h1:1<=m)(hm:m<=nr)(hn:nr<=n)(hd:Dn key p m):inn n (cK key) (kas_tail3 m nr p)/\Pm n (ev (cK key) (kas_tail3 m nr p)).2/\1<=(ev (cK key) (kas_tail3 m nr p)).1/\(ev (cK key) (kas_tail3 m nr p)).1<=nr/\Up key (ev (cK key) (kas_tail3 m nr p)).2 (ev (cK key) (kas_tail3 m nr p)).1:=by
 have hr:=hp.rev 0 m
 have hu:Up key (kas_rev p 0 m) m:=fun i j hij hj=>by
  rw[KA_rev (by rw[hp.1]; omega),KA_rev (by rw[hp.1]; omega),if_pos (by omega),if_pos (by omega)]
  exact hd _ _ (by omega) (by omega)
 obtain⟨a1,a2,a3,a4,_⟩:=asc_ok hr (nr-m) m h1 (by omega) hu
 unfold kas_tail3
 rw[ev_bind]
 exact⟨inn_bind a1 trivial,hr,by simp only[ev]; omega,by simp only[ev]; omega,a4⟩
theorem descPart_ok {p:Array Nat}{m nr:Nat}(hp:Pm n p)(h1:1<=m)(hm:m+1<=nr)(hn:nr<=n)(hd:Dn key p m)(hlt:KA key p m<KA key p (m-1)) :
  inn n (cK key) (kas_descPart m nr p)/\Pm n (ev (cK key) (kas_descPart m nr p)).2/\1<=(ev (cK key) (kas_descPart m nr p)).1/\(ev (cK key) (kas_descPart m nr p)).1<=nr/\Up key (ev (cK key) (kas_descPart m nr p)).2 (ev (cK key) (kas_descPart m nr p)).1:=by
 obtain⟨a1,a2,a3,a4,a5,a6,a7⟩:=desc_ok (key:=key) (nr-(m+1)) p (m+1) 0 hp (by omega) (by omega) (by omega) (hd.step h1 (by omega)) fun k k1 k2=>by rw[show k=m+1-1 by omega]
 have k:∀ r:Array Nat × Nat × Nat,Pm n r.1->m+1<=r.2.1->r.2.1<=m+1+(nr-(m+1))->r.2.2+1<=r.2.1->Dn key r.1 r.2.1->(∀ k,r.2.1-(r.2.2+1)<=k->k<r.2.1->KA key r.1 k=KA key r.1 (r.2.1-1)) ->
   ∀ t,t=(if r.2.2 > 0 then kas_tail3 r.2.1 nr (kas_rev r.1 (r.2.1-(r.2.2+1)) r.2.1) else kas_tail3 r.2.1 nr r.1)->inn n (cK key) t/\Pm n (ev (cK key) t).2/\1<=(ev (cK key) t).1/\(ev (cK key) t).1<=nr/\Up key (ev (cK key) t).2 (ev (cK key) t).1:=by
  intro r a2 a3 a4 a5 a6 a7 t ht
  subst ht
  by_cases h0:r.2.2 > 0
  ·rw[if_pos h0]
   have ek:∀ k,KA key (kas_rev r.1 (r.2.1-(r.2.2+1)) r.2.1) k=KA key r.1 k:=rev_flat (by rw[a2.1]; omega) a7
   exact tail3_ok (a2.rev (r.2.1-(r.2.2+1)) r.2.1) (by omega) (show r.2.1<=nr by omega) hn (a6.congr ek)
  ·rw[if_neg h0]
   exact tail3_ok a2 (by omega) (show r.2.1<=nr by omega) hn a6
 obtain⟨b1,b2⟩:=k _ a2 a3 a4 a5 a6 a7 _ rfl
 unfold kas_descPart
 rw[ev_bind]
 exact⟨inn_bind a1 b1,b2⟩
theorem count_ok {p:Array Nat}{nr:Nat}(hp:Pm n p)(h1:1<=nr)(hn:nr<=n):inn n (cK key) (kas_count nr p)/\Pm n (ev (cK key) (kas_count nr p)).2/\1<=(ev (cK key) (kas_count nr p)).1/\(ev (cK key) (kas_count nr p)).1<=nr/\Up key (ev (cK key) (kas_count nr p)).2 (ev (cK key) (kas_count nr p)).1:=by
 obtain⟨a1,a2,a3,a4,a5⟩:=asc_ok (key:=key) hp (nr-1) 1 (Nat.le_refl _) (by omega) (fun i j hij hj=>by rw[show i=j by omega]; exact Int.le_refl _)
 have k:∀ m,1<=m->m<=1+(nr-1)->Up key p m->(m<1+(nr-1)->KA key p m<KA key p (m-1))->∀ t:KasT (Nat × Array Nat),t=(if (m == nr)=true then KasT.ret (m,p) else if m > 1 then KasT.ask (p.getD 0 0) (p.getD (m-1) 0) fun c=>if c=true then KasT.ret (m,p) else kas_descPart m nr (kas_rev p 0 m) else kas_descPart m nr p) ->
   inn n (cK key) t/\Pm n (ev (cK key) t).2/\1<=(ev (cK key) t).1/\(ev (cK key) t).1<=nr/\Up key (ev (cK key) t).2 (ev (cK key) t).1:=by
  intro m m1 m2 mu ml t ht
  subst ht
  by_cases h0:(m == nr)=true
  ·rw[if_pos h0]
   exact⟨trivial,hp,m1,by simp at h0; simp only[ev]; omega,mu⟩
  rw[if_neg h0]
  have hne:m≠nr:=by simpa using h0
  have hlt:=ml (by omega)
  by_cases h2:m > 1
  ·rw[if_pos h2]
   simp only[ev,inn]
   have ha:=hp.lt (k:=0) (by omega)
   have hb:=hp.lt (k:=m-1) (by omega)
   by_cases hc:KA key p 0<KA key p (m-1)
   ·have e:cK key (p.getD 0 0) (p.getD (m-1) 0)=true:=decide_eq_true hc
    rw[e]
    simp only[if_true,ev,inn]
    exact⟨⟨ha,hb,trivial⟩,hp,m1,by omega,mu⟩
   ·have e:cK key (p.getD 0 0) (p.getD (m-1) 0)=false:=decide_eq_false hc
    rw[e]
    simp only[Bool.false_eq_true,if_false]
    have fl:∀ k,0<=k->k<m->KA key p k=KA key p (m-1):=fun k _ hk=>by
     have z1:=mu 0 k (by omega) hk
     have z2:=mu k (m-1) (by omega) (by omega)
     omega
    have ek:∀ k,KA key (kas_rev p 0 m) k=KA key p k:=rev_flat (by rw[hp.1]; omega) fl
    obtain⟨b1,b2⟩:=descPart_ok (key:=key) (hp.rev 0 m) m1 (show m+1<=nr by omega) hn (fun i j hij hj=>by rw[ek,ek,fl i (by omega) (by omega),fl j (by omega) hj]; exact Int.le_refl _) (by rw[ek,ek]; exact hlt)
    exact⟨⟨ha,hb,b1⟩,b2⟩
  ·rw[if_neg h2]
   exact descPart_ok hp m1 (show m+1<=nr by omega) hn (fun i j hij hj=>by rw[show i=j by omega]; exact Int.le_refl _) hlt
 obtain⟨b1,b2⟩:=k _ a2 a3 a4 a5 _ rfl
 unfold kas_count
 rw[ev_bind]
 exact⟨inn_bind a1 b1,b2⟩
theorem place_ok {p:Array Nat}{k:Nat}(hp:Pm n p)(hk:k<n)(hu:Up key p k):∀ (f l r:Nat),l<=r->r<=k->r-l<=f->(∀ i,i<l->KA key p i<=KA key p k)->(∀ i,r<=i->i<k->KA key p k<KA key p i) ->
  inn n (cK key) (kas_place p k f l r)/\ev (cK key) (kas_place p k f l r)<=k/\(∀ i,i<ev (cK key) (kas_place p k f l r)->KA key p i<=KA key p k)/\∀ i,ev (cK key) (kas_place p k f l r)<=i->i<k->KA key p k<KA key p i
 | 0,l,r,h1,h2,h3,lo,hi=>⟨trivial,by simp only[kas_place,ev]; omega,lo,fun i a b=>hi i (by simp only[kas_place,ev] at a; omega) b⟩
 | f+1,l,r,h1,h2,h3,lo,hi=>by
  unfold kas_place
  by_cases hge:l ≥ r
  ·rw[if_pos hge]
   exact⟨trivial,by simp only[ev]; omega,lo,fun i a b=>hi i (by simp only[ev] at a; omega) b⟩
  ·rw[if_neg hge]
   simp only[ev,inn]
   have ha:=hp.lt (k:=k) hk
   have hb:=hp.lt (k:=(l+r)/2) (by omega)
   by_cases hc:KA key p k<KA key p ((l+r)/2)
   ·have e:cK key (p.getD k 0) (p.getD ((l+r)/2) 0)=true:=decide_eq_true hc
    rw[e]
    simp only[if_true]
    obtain⟨b1,b2⟩:=place_ok hp hk hu f l ((l+r)/2) (by omega) (by omega) (by omega) lo fun i a b=>by
     have:=hu ((l+r)/2) i a b
     omega
    exact⟨⟨ha,hb,b1⟩,b2⟩
   ·have e:cK key (p.getD k 0) (p.getD ((l+r)/2) 0)=false:=decide_eq_false hc
    rw[e]
    simp only[Bool.false_eq_true,if_false]
    obtain⟨b1,b2⟩:=place_ok hp hk hu f ((l+r)/2+1) r (by omega) h2 (by omega) (fun i a=>by
     have:=hu i ((l+r)/2) (by omega) (by omega)
     omega) hi
    exact⟨⟨ha,hb,b1⟩,b2⟩
theorem KA_bubble {p:Array Nat}{k l:Nat}(hk:k<p.size)(hl:l<=k)(i:Nat):KA key (bubble p k (k-l)) i=if i=l then KA key p k else if l<i/\i<=k then KA key p (i-1) else KA key p i:=by
 have e:=getElem?_bubble hk (k-l) (by omega) i
 rw[show k-(k-l)=l by omega] at e
 split
 ·rename_i h; rw[if_pos h] at e; exact KA_of e
 ·rename_i h
  rw[if_neg h] at e
  split
  ·rename_i h2; rw[if_pos h2] at e; exact KA_of e
  ·rename_i h2; rw[if_neg h2] at e; exact KA_of e
theorem bin_ok:∀ (f:Nat) (p:Array Nat) (k:Nat),Pm n p->k+f<=n->Up key p k->inn n (cK key) (kas_bin f p k)/\Pm n (ev (cK key) (kas_bin f p k))/\Up key (ev (cK key) (kas_bin f p k)) (k+f)
 | 0,p,k,hp,_,hu=>⟨trivial,hp,hu⟩
 | f+1,p,k,hp,hk,hu=>by
  obtain⟨a1,a2,a3,a4⟩:=place_ok (key:=key) hp (show k<n by omega) hu k 0 k (Nat.zero_le _) (Nat.le_refl _) (by omega) (fun i h=>absurd h (by omega)) (fun i h1 h2=>absurd h1 (by omega))
  have q:∀ l,l<=k->(∀ i,i<l->KA key p i<=KA key p k)->(∀ i,l<=i->i<k->KA key p k<KA key p i)->inn n (cK key) (kas_bin f (bubble p k (k-l)) (k+1))/\Pm n (ev (cK key) (kas_bin f (bubble p k (k-l)) (k+1)))/\Up key (ev (cK key) (kas_bin f (bubble p k (k-l)) (k+1))) (k+(f+1)):=by
   intro l hl lo hi
   have hs:k<p.size:=by rw[hp.1]; omega
   have hu':Up key (bubble p k (k-l)) (k+1):=fun i j hij hj=>by
    rw[KA_bubble hs hl,KA_bubble hs hl]
    by_cases i1:i=l
    ·rw[if_pos i1]
     by_cases j1:j=l
     ·rw[if_pos j1]; exact Int.le_refl _
     ·rw[if_neg j1,if_pos (by omega)]
      have:=hi (j-1) (by omega) (by omega)
      omega
    ·rw[if_neg i1]
     by_cases i2:l<i/\i<=k
     ·rw[if_pos i2,if_neg (show ¬ j=l by omega),if_pos (by omega)]
      exact hu _ _ (by omega) (by omega)
     ·rw[if_neg i2]
      by_cases j1:j=l
      ·rw[if_pos j1]; exact lo i (by omega)
      ·rw[if_neg j1]
       by_cases j2:l<j/\j<=k
       ·rw[if_pos j2]; exact hu _ _ (by omega) (by omega)
       ·rw[if_neg j2]; exact hu _ _ hij (by omega)
   obtain⟨b1,b2,b3⟩:=bin_ok f (bubble p k (k-l)) (k+1) (hp.of (bubble_perm _ _ _)) (by omega) hu'
   exact⟨b1,b2,by rw[show k+(f+1)=k+1+f by omega]; exact b3⟩
  obtain⟨b1,b2⟩:=q _ a2 a3 a4
  unfold kas_bin
  rw[ev_bind]
  exact⟨inn_bind a1 b1,b2⟩
theorem sort_ok (h1:1<=n):inn n (cK key) (kas_sort n)/\Pm n (ev (cK key) (kas_sort n))/\Up key (ev (cK key) (kas_sort n)) n:=by
 have h0:Pm n (List.toArray (List.range n)):=⟨by simp,List.Perm.refl _⟩
 obtain⟨a1,a2,a3,a4,a5⟩:=count_ok (key:=key) h0 h1 (Nat.le_refl n)
 have k:∀ r:Nat × Array Nat,Pm n r.2->1<=r.1->r.1<=n->Up key r.2 r.1->∀ t:KasT (Array Nat),t=(if r.1<n then kas_bin (n-max r.1 1) r.2 (max r.1 1) else KasT.ret r.2)->inn n (cK key) t/\Pm n (ev (cK key) t)/\Up key (ev (cK key) t) n:=by
  intro r b1 b2 b3 b4 t ht
  subst ht
  by_cases h:r.1<n
  ·rw[if_pos h,show max r.1 1=r.1 by omega]
   obtain⟨c1,c2,c3⟩:=bin_ok (key:=key) (n-r.1) r.2 r.1 b1 (by omega) b4
   exact⟨c1,c2,fun i j hij hj=>c3 i j hij (by omega)⟩
  ·rw[if_neg h]
   exact⟨trivial,b1,fun i j hij hj=>b4 i j hij (by omega)⟩
 obtain⟨b1,b2⟩:=k _ a2 a3 a4 a5 _ rfl
 unfold kas_sort
 rw[ev_bind]
 exact⟨inn_bind a1 b1,b2⟩
end
open PySem PySem.W PySem.Calls PyProof.Rows
section
variable {prog:Program}{w:World}{A:Around}{E:Value->Shared->Prop}{s:Shared}
theorem sort_tree {a:Addr}{vs:List Value}{n:Nat}{κ:SortKind}{key:Nat->Int}{P:PySem.Fin->Shared->Prop}(ho:s.heap.get? a=some (seqObj "list" vs.toArray n))(h64:vs.length<64)
  (hk:2<=vs.length->∀ (h':Heap),(∀ b o,b≠a->s.heap.get? b=some o->h'.get? b=some o)->∀ (E':Value->Shared->Prop) (Q':SortKind->Shared->Prop),Q' κ { s with heap:=h' }->wpAny (model prog w) A (keyKind' vs.toArray) Q' E' { s with heap:=h' })
  (hc:2<=vs.length->∀ (h':Heap),(∀ b o,b≠a->s.heap.get? b=some o->h'.get? b=some o)->∀ i j (C:Bool->Shared->Prop),i<vs.length->j<vs.length->C (decide (key i<key j)) { s with heap:=h' }->kas_ask prog w A κ vs i j C { s with heap:=h' })
  (h:∀ out:List Nat,out.Perm (List.range vs.length)->(∀ i j,i<=j->j<vs.length->key (out.getD i 0)<=key (out.getD j 0))->P (.done (.ret .none)) { s with heap:=sortedHeap s.heap a vs (out.map fun i=>vs.getD i Value.none).toArray }) :
  wpAny (model prog w) A (Builtin.«list.sort» ⟨[.ref a],[]⟩) P E s:=by
 have hlt:a<s.heap.objs.size:=Heap.lt_size ho
 have ln:vs.length<=sizeLine:=by rw[sizeLine_eq]; omega
 obtain⟨e1,q1⟩:∃ e1,(s.heap.update a (Obj.mapSeq fun _=>#[])).get? a=some (seqObj "list" #[] e1):=⟨_,get?_update_seq ho (fun _=>#[])⟩
 rw[list_sort_plain]
 refine wpAny_bind (listItems_at ho rfl (wpAny_bind (listUpdate_at ho rfl (wpAny_bind (seqEpoch_at q1 rfl (wpAny_bind (wpAny_newTuple (wpAny_bind (wpAny_newList (wpAny_holding ?_) (Nat.zero_le _))) (by show vs.length<=_; exact ln))))) (by rw[List.size_toArray]; exact ln) (Nat.zero_le _))))
 have old:∀ b o,b≠a->s.heap.get? b=some o->(((s.heap.update a (Obj.mapSeq fun _=>#[])).push (seqObj "tuple" vs.toArray 0)).push (seqObj "list" #[] 0)).get? b=some o:=fun b o hb q =>
  Heap.get?_push_of_some _ (Heap.get?_push_of_some _ ((Heap.get?_update_other _ _ (Ne.symm hb)).trans q))
 have q6:(((s.heap.update a (Obj.mapSeq fun _=>#[])).push (seqObj "tuple" vs.toArray 0)).push (seqObj "list" #[] 0)).get? a=some (seqObj "list" #[] e1):=Heap.get?_push_of_some _ (Heap.get?_push_of_some _ q1)
 show wpAny (model prog w) A _ P E { s with heap:=((s.heap.update a (Obj.mapSeq fun _=>#[])).push (seqObj "tuple" vs.toArray 0)).push (seqObj "list" #[] 0) }
 dsimp only
 have sz:vs.toArray.size=vs.length:=List.size_toArray ..
 by_cases h2:vs.length<2
 ·rw[if_pos (by rw[sz]; exact h2),if_pos (by rw[sz]; exact h2)]
  refine wpAny_bind (wpAny_pure ?_)
  rw[StateT.run_pure]
  refine wpAny_bind (wpAny_pure ?_)
  dsimp only
  have e:(arrOf (SortSt.mk' general' (vs.toArray.zip vs.toArray) #[] 7 none)).map (·.2)=((List.range vs.length).map fun i=>vs.getD i Value.none).toArray:=by
   show (vs.toArray.zip vs.toArray).map (·.2)=_
   refine Array.ext (by simp) fun i h1 h3=>?_
   have hi:i<vs.length:=by simpa using h3
   simp[List.getD_eq_getElem?_getD,List.getElem?_eq_getElem hi]
  rw[e]
  have zz:((List.range vs.length).map fun i=>vs.getD i Value.none).toArray.size<=sizeLine:=by rw[List.size_toArray,List.length_map,List.length_range]; exact ln
  refine wpAny_bind (seqEpoch_at q6 rfl (wpAny_bind (listUpdate_at q6 rfl ?_ (hsz2:=Nat.le_succ_of_le zz))))
  simp only[bne_self_eq_false,Bool.false_eq_true,if_false]
  exact wpAny_pure (h _ (List.Perm.refl _) fun i j hij hj=>by rw[show i=j by omega]; exact Int.le_refl _)
 ·rw[if_neg (by rw[sz]; exact h2),if_neg (by rw[sz]; exact h2)]
  have h2':2<=vs.length:=by omega
  refine wpAny_bind (hk h2' _ old _ _ ?_)
  obtain⟨i1,i2,i3⟩:=sort_ok (key:=key) (n:=vs.length) (by omega)
  have run:=kat_run (prog:=prog) (w:=w) (A:=A) (E:=E) (κ:=κ) (ks:=vs) (vs:=vs) (s:={ s with heap:=((s.heap.update a (Obj.mapSeq fun _=>#[])).push (seqObj "tuple" vs.toArray 0)).push (seqObj "list" #[] 0) })
   (Q:=fun st' s'=>s'={ s with heap:=((s.heap.update a (Obj.mapSeq fun _=>#[])).push (seqObj "tuple" vs.toArray 0)).push (seqObj "list" #[] 0) }/\failedOf st'=none/\arrOf st'=(ev (cK key) (kas_sort vs.length)).map (kas_item (vs.toArray.zip vs.toArray)))
   (G:=fun p s'=>s'={ s with heap:=((s.heap.update a (Obj.mapSeq fun _=>#[])).push (seqObj "tuple" vs.toArray 0)).push (seqObj "list" #[] 0) }/\p=ev (cK key) (kas_sort vs.length)) rfl h2' h64
   (fun p st' s' _ a2 a3 ⟨a4,a5⟩=>⟨a4,a3,by rw[<- a5]; exact a2⟩) (wp_of (c:=cK key) (fun i j C hi hj hC=>hc h2' _ old i j C hi hj hC) i1 ⟨rfl,rfl⟩)
  refine wpAny_bind (wpAny_mono run ?_ fun _ _ e=>e)
  rintro ⟨⟨⟩,st'⟩ s' ⟨rfl,hf,har⟩
  dsimp only
  rw[kat_snds rfl har]
  have zz:(((ev (cK key) (kas_sort vs.length)).toList.map fun i=>vs.getD i Value.none).toArray).size<=sizeLine:=by rw[List.size_toArray,List.length_map,Array.length_toList,i2.1]; exact ln
  refine wpAny_bind (seqEpoch_at q6 rfl (wpAny_bind (listUpdate_at q6 rfl ?_ (hsz2:=Nat.le_succ_of_le zz))))
  rw[hf]
  simp only[bne_self_eq_false,Bool.false_eq_true,if_false]
  refine wpAny_pure (h _ i2.2 fun i j hij hj=>?_)
  have g:∀ k,(ev (cK key) (kas_sort vs.length)).toList.getD k 0=(ev (cK key) (kas_sort vs.length)).getD k 0:=fun k=>by
   by_cases hk:k<(ev (cK key) (kas_sort vs.length)).size <;>simp[Array.getD,List.getD_eq_getElem?_getD,hk]
  rw[g,g]
  exact i3 i j hij hj
theorem sorted_by {l:Addr}{vs:List Value}{κ:SortKind}{key:Nat->Int}{Q:Value->Shared->Prop}(hl:s.heap.IsList l vs.toArray)(h64:vs.length<64)
  (hk:2<=vs.length->∀ (h':Heap),(∀ b o,s.heap.get? b=some o->h'.get? b=some o)->∀ (E':Value->Shared->Prop) (Q':SortKind->Shared->Prop),Q' κ { s with heap:=h' }->wpAny (model prog w) A.in1.in1 (keyKind' vs.toArray) Q' E' { s with heap:=h' })
  (hc:2<=vs.length->∀ (h':Heap),(∀ b o,s.heap.get? b=some o->h'.get? b=some o)->∀ i j (C:Bool->Shared->Prop),i<vs.length->j<vs.length->C (decide (key i<key j)) { s with heap:=h' }->kas_ask prog w A.in1.in1 κ vs i j C { s with heap:=h' })
  (h:∀ out:List Nat,out.Perm (List.range vs.length)->(∀ i j,i<=j->j<vs.length->key (out.getD i 0)<=key (out.getD j 0))->Q (.ref (s.heap.objs.size+1)) { s with heap:=sortedAll s.heap vs (out.map fun i=>vs.getD i Value.none).toArray }) :
  wpAny (model prog w) A (call (.builtin "sorted") [.ref l]) Q E s:=by
 have ln:vs.length<=sizeLine:=by rw[sizeLine_eq]; omega
 refine Calls.call_function_entry kind_sorted plain_sorted entry_sorted (args_sorted1 _) ?_
 unfold Builtin.«sorted»
 refine wpAny_bind (m:=checkCount "sorted" 1 1 _) (wpAny_pure (wpAny_bind (collect_list hl (wpAny_bind (wpAny_newList ?_ (by show vs.length<=_; exact ln))) (by exact ln))))
 have z1:((s.heap.push (seqObj "list" #[] 0)).update s.heap.objs.size (Obj.mapSeq (·++vs.toArray))).objs.size=s.heap.objs.size+1:=by rw[Heap.size_update,size_push']
 have z2:(((s.heap.push (seqObj "list" #[] 0)).update s.heap.objs.size (Obj.mapSeq (·++vs.toArray))).push (seqObj "list" vs.toArray 0)).get? (s.heap.objs.size+1)=some (seqObj "list" vs.toArray 0):=by rw[<- z1]; exact Heap.get?_push_size _ rfl
 have old:∀ b o,s.heap.get? b=some o->b≠s.heap.objs.size+1/\(((s.heap.push (seqObj "list" #[] 0)).update s.heap.objs.size (Obj.mapSeq (·++vs.toArray))).push (seqObj "list" vs.toArray 0)).get? b=some o:=fun b o q=>by
  have hb:b<s.heap.objs.size:=Heap.lt_size q
  exact⟨Nat.ne_of_lt (Nat.lt_succ_of_lt hb),Heap.get?_push_of_some _ ((Heap.get?_update_other _ _ (Nat.ne_of_gt hb)).trans (Heap.get?_push_of_some _ q))⟩
 show wpAny _ _ _ _ _ { s with heap:=((s.heap.push (seqObj "list" #[] 0)).update s.heap.objs.size (Obj.mapSeq (·++vs.toArray))).push (seqObj "list" vs.toArray 0) }
 rw[z1]
 refine wpAny_bind (wpAny_holding (wpAny_call_entry slot_list_sort ⟨_,z2,rfl⟩ entry_list_sort (sort_tree (s:={ s with heap:=((s.heap.push (seqObj "list" #[] 0)).update s.heap.objs.size (Obj.mapSeq (·++vs.toArray))).push (seqObj "list" vs.toArray 0) }) z2 h64 (fun h2 h' k E' Q' q=>hk h2 h' (fun b o e=>k b o (old b o e).1 (old b o e).2) E' Q' q)
  (fun h2 h' k i j C hi hj q=>hc h2 h' (fun b o e=>k b o (old b o e).1 (old b o e).2) i j C hi hj q) fun out a1 a2=>⟨_,rfl,wpAny_pure ⟨_,rfl,h out a1 a2⟩⟩) (args_list_sort _)))
end
end Sd
namespace Dv
theorem lex_irr:∀ a:List Int,lexLt a a=false
 | []=>rfl
 | x::a=>by simp[lexLt,lex_irr a]
theorem lex_tot:∀ {a b:List Int},lexLt a b=false->lexLt b a=false->a=b
 | [],[],_,_=>rfl
 | [],_::_,h,_=>by simp[lexLt] at h
 | _::_,[],_,h=>by simp[lexLt] at h
 | x::a,y::b,h,g=>by
  simp only[lexLt] at h g
  by_cases e:x=y
  ·subst e
   simp only[if_true] at h g
   rw[lex_tot h g]
  ·rw[if_neg e] at h
   rw[if_neg (Ne.symm e)] at g
   simp at h g
   omega
theorem lex_trans:∀ {a b c:List Int},lexLt a b=true->lexLt b c=true->lexLt a c=true
 | [],[],_,h,_=>by simp[lexLt] at h
 | [],_::_,[],_,g=>by simp[lexLt] at g
 | [],_::_,_::_,_,_=>rfl
 | _::_,[],_,h,_=>by simp[lexLt] at h
 | _::_,_::_,[],_,g=>by simp[lexLt] at g
 | x::a,y::b,z::c,h,g=>by
  simp only[lexLt] at h g ⊢
  by_cases e1:x=y
  ·subst e1
   simp only[if_true] at h
   by_cases e2:x=z
   ·subst e2
    simp only[if_true] at g ⊢
    exact lex_trans h g
   ·rw[if_neg e2] at g ⊢; exact g
  ·rw[if_neg e1] at h
   simp at h
   by_cases e2:y=z
   ·subst e2
    rw[if_neg e1]
    simpa using h
   ·rw[if_neg e2] at g
    simp at g
    rw[if_neg (by omega)]
    simp
    omega
noncomputable def lexLe (a b:List Int):Prop:=lexLt b a=false
theorem le_trans {a b c:List Int}(h:lexLe a b)(g:lexLe b c):lexLe a c:=by
 unfold lexLe at *
 cases q:lexLt c a with
 | false=>rfl
 | true =>
  by_cases e:lexLt a b=true
  ·rw[lex_trans q e] at g; cases g
  ·have:a=b:=lex_tot (by simpa using e) h
   subst this
   rw[q] at g; cases g
theorem lt_le {a b:List Int}(h:lexLt a b=true):lexLe a b:=by
 unfold lexLe
 cases q:lexLt b a with
 | false=>rfl
 | true=>have:=lex_trans h q; rw[lex_irr] at this; cases this
noncomputable def insL (x:List Int):List (List Int)->List (List Int)
 | []=>[x]
 | y::r=>if lexLt y x then y::insL x r else x::y::r
noncomputable def lsort:List (List Int)->List (List Int)
 | []=>[]
 | x::r=>insL x (lsort r)
theorem insL_perm (x:List Int):∀ l,(insL x l).Perm (x::l)
 | []=>.refl _
 | y::r=>by
  unfold insL
  split
  ·exact((insL_perm x r).cons y).trans (.swap x y r)
  ·exact .refl _
theorem lsort_perm:∀ l,(lsort l).Perm l
 | []=>.refl _
 | x::r=>(insL_perm x _).trans ((lsort_perm r).cons x)
theorem insL_sorted (x:List Int):∀ l,l.Pairwise lexLe->(insL x l).Pairwise lexLe
 | [],_=>by simp[insL]
 | y::r,h=>by
  unfold insL
  have h':=List.pairwise_cons.mp h
  split
  ·rename_i q
   refine List.pairwise_cons.mpr ⟨fun z hz=>?_,insL_sorted x r h'.2⟩
   rcases List.mem_cons.mp ((insL_perm x r).mem_iff.mp hz) with rfl|hz
   ·exact lt_le q
   ·exact h'.1 z hz
  ·rename_i q
   have q':lexLe x y:=by unfold lexLe; simpa using q
   refine List.pairwise_cons.mpr ⟨fun z hz=>?_,h⟩
   rcases List.mem_cons.mp hz with rfl|hz
   ·exact q'
   ·exact le_trans q' (h'.1 z hz)
theorem lsort_sorted:∀ l,(lsort l).Pairwise lexLe
 | []=>.nil
 | x::r=>insL_sorted x _ (lsort_sorted r)
theorem sorted_one:∀ {a b:List (List Int)},a.Perm b->a.Pairwise lexLe->b.Pairwise lexLe->a=b
 | [],b,p,_,_=>by simpa using p.symm.eq_nil
 | x::a,[],p,_,_=>absurd p.eq_nil (by simp)
 | x::a,y::b,p,ha,hb=>by
  have h1:=List.pairwise_cons.mp ha
  have h2:=List.pairwise_cons.mp hb
  have e:x=y:=by
   have hx:x∈y::b:=p.mem_iff.mp List.mem_cons_self
   have hy:y∈x::a:=p.mem_iff.mpr List.mem_cons_self
   rcases List.mem_cons.mp hx with e|hx
   ·exact e
   rcases List.mem_cons.mp hy with e|hy
   ·exact e.symm
   exact lex_tot (h2.1 x hx) (h1.1 y hy)
  subst e
  rw[sorted_one ((List.perm_cons x).mp p) h1.2 h2.2]
noncomputable def rank (l:List (List Int))(x:List Int):Nat:=l.countP fun z=>lexLt z x
theorem countP_less {α:Type}{p q:α->Bool}:∀ {l:List α},(∀ z∈l,p z=true->q z=true)->(∃ z∈l,q z=true/\p z=false)->l.countP p<l.countP q
 | [],_,⟨z,hz,_⟩=>by cases hz
 | a::l,h,⟨z,hz,h1,h2⟩=>by
  have mono:l.countP p<=l.countP q:=List.countP_mono_left fun z hz=>h z (List.mem_cons_of_mem _ hz)
  rw[List.countP_cons,List.countP_cons]
  rcases List.mem_cons.mp hz with rfl|hz
  ·rw[h1,h2]; simp; omega
  ·have ih:=countP_less (fun z hz=>h z (List.mem_cons_of_mem _ hz)) ⟨z,hz,h1,h2⟩
   have:=h a List.mem_cons_self
   cases q1:p a with
   | true=>rw[this q1]; simp; omega
   | false=>cases q2:q a <;>simp <;>omega
theorem rank_lt {l:List (List Int)}{x y:List Int}(hx:x∈l):decide ((rank l x:Int)<(rank l y:Int))=lexLt x y:=by
 cases q:lexLt x y with
 | true =>
  refine decide_eq_true ?_
  have:=countP_less (p:=fun z=>lexLt z x) (q:=fun z=>lexLt z y) (l:=l) (fun z _ h=>lex_trans h q) ⟨x,hx,q,lex_irr x⟩
  unfold rank; omega
 | false =>
  refine decide_eq_false ?_
  have:l.countP (fun z=>lexLt z y)<=l.countP (fun z=>lexLt z x):=List.countP_mono_left fun z _ h=>by
   have h:lexLt z y=true:=h
   cases e:lexLt z x with
   | true=>rfl
   | false =>
    have:lexLe x z:=e
    have h2:lexLe y x:=q
    have h3:lexLe y z:=le_trans h2 this
    unfold lexLe at h3
    rw[h] at h3; cases h3
  unfold rank; omega
noncomputable def sortedLD:D->Bool->R
 | .lst ds,f=>match listsOf ds with
  | some nss=>if nss.length<64 then .ok (.lst ((lsort nss).map fun ns=>.lst (ns.map .int))) f else .bad
  | none=>.bad
 | _,_=>.bad
end Dv
namespace Sd
open PySem PySem.Spec PySem.W PySem.Calls PyProof.Rows L2
open Dv (D R RL EE EL EI RI Sl Out SS)
section
variable {prog:Program}{w:World}{A:Around}{E:Value->Shared->Prop}{s:Shared}
theorem oneLt_list {l b:Addr}{vs ws:List Value}{n n2:Nat}{ns ms:List Int}{Q:Bool->Shared->Prop}(hl:s.heap.get? l=some { cls:=.type "list",data:=.seq vs.toArray n })(hb:s.heap.get? b=some { cls:=.type "list",data:=.seq ws.toArray n2 })
  (hi:IntsAre vs ns) (hj:IntsAre ws ms) (hu:A.units<cLine) (h:Q (Dv.lexLt ns ms) s):wpAny (model prog w) A (oneLt' true (.ref l) (.ref b)) Q E s:=by
 rw[oneLt'_eq]
 simp only[if_true]
 refine wpAny_bind (wpAny_cRoomFor hu (wpAny_bind (wpAny_callSpecialIfBound?_slot ⟨_,hl,rfl⟩ PySem.F.slot_list_lt (call_meets PySem.F.slot_list_lt ⟨_,hl,rfl⟩ PySem.F.entry_list_lt (PySem.F.args_list_lt_2 _ _) (list_lt l b vs ws n n2 none none #[] #[] ns ms hi hj) ⟨hl,hb,?_⟩))))
 exact wpAny_truthy_bool h
end
noncomputable def ItL (K:Frag)(H:Hp)(v:V)(ns:List Int):Prop:=∃ b,v=.ref b/\SqX K H b (ns.map V.int)
theorem vals_get {xs:List V}{us:List Value}(r:Vals xs us){i:Nat}(hi:i<xs.length):∃ u,us[i]?=some u/\RelV xs[i] u:=r.get (List.getElem?_eq_getElem hi)
theorem vals_pick {xs:List V}{us:List Value}(r:Vals xs us):∀ out:List Nat,(∀ i∈out,i<xs.length)->Vals (out.map fun i=>xs.getD i .non) (out.map fun i=>us.getD i Value.none)
 | [],_=>.nil
 | i::o,h=>by
  have hi:=h i List.mem_cons_self
  obtain⟨u,h1,h2⟩:=vals_get r hi
  refine .cons ?_ (vals_pick r o fun j hj=>h j (List.mem_cons_of_mem _ hj))
  show L2.RelV (xs.getD i V.non) (us.getD i Value.none)
  rw[List.getD_eq_getElem?_getD,List.getElem?_eq_getElem hi,List.getD_eq_getElem?_getD,h1]
  exact h2
theorem sorted_end {X:Cx}{pins:List (Addr × Obj)}{σ:L2.St}{H:Hp}{s:Shared}{vs:List V}{its:List Value}{out:List Nat}{Q:VK}(I:L2.Inv X pins σ H s)(rv:Vals vs its)(hp:out.Perm (List.range its.length))(h64:vs.length<64)
  (q:∀ l,H l=none->Q (.ref l) (upd H l (.lst (out.map fun i=>vs.getD i .non)))):EP X pins σ Q (.ref (s.heap.objs.size+1)) { s with heap:=sortedAll s.heap its (out.map fun i=>its.getD i Value.none).toArray }:=by
 obtain⟨ep,hat⟩:=sortedAll_at s.heap its (out.map fun i=>its.getD i Value.none).toArray
 have hl:=rv.length
 have hf:H (s.heap.objs.size+1)=none:=I.hok.fresh (Nat.le_succ _)
 refine⟨.ref (s.heap.objs.size+1),_,I.laid (t':=s.toks) (o:=.lst (out.map fun i=>vs.getD i .non)) (fun b u q=>sortedAll_old q) (Nat.le_succ _) ?_,rfl,q _ hf⟩
 refine⟨?_,out.map fun i=>its.getD i Value.none,ep,vals_pick rv out fun i hi=>?_,by simpa[seqObj] using hat⟩
 ·have:=hp.length_eq
  rw[List.length_range] at this
  rw[List.length_map,sizeLine_eq]
  omega
 ·have:=List.mem_range.mp (hp.mem_iff.mp hi)
  omega
theorem get_pair {α β:Type}{F:α->β->Prop}{l:List α}{r:List β}(h:Paired F l r){i:Nat}(hi:i<l.length)(d:β):F l[i] (r.getD i d):=by
 obtain⟨y,h1,h2⟩:=Paired.gets h (List.getElem?_eq_getElem hi)
 rw[List.getD_eq_getElem?_getD,h1]
 exact h2
theorem call_sortedL {X:Cx}(hu:X.A.units+64<cLine):CallR X (.builtin "sorted") (fun xs H Q=>∃ p vs nss,xs=[.ref p]/\SqX X.K H p vs/\vs.length<64/\Paired (ItL X.K H) vs nss /\
  ∀ out:List Nat,out.Perm (List.range vs.length)->(∀ i j,i<=j->j<vs.length->Dv.lexLe (nss.getD (out.getD i 0) []) (nss.getD (out.getD j 0) []))->∀ l,H l=none->Q (.ref l) (upd H l (.lst (out.map fun i=>vs.getD i .non)))):=by
 intro pins s σ H xs us Q I r h
 obtain⟨p,vs,nss,rfl,hq,h64,hit,q⟩:=h
 obtain⟨u,rfl,rx⟩:=vals1 r
 cases rx
 obtain⟨its,n,rv,e,z⟩:=Inv.listX I hq
 have hl:=rv.length
 have hn:=hit.length
 have item:∀ i,i<its.length->∃ b ws m,its.getD i Value.none=.ref b/\s.heap.get? b=some { cls:=.type "list",data:=.seq ws.toArray m }/\IntsAre ws (nss.getD i []):=fun i hi=>by
  obtain⟨u,h1,h2⟩:=vals_get rv (i:=i) (by omega)
  obtain⟨b,hb,hs⟩:=get_pair hit (i:=i) (by omega) []
  rw[hb] at h2
  obtain⟨ws,m,rw',ew,_⟩:=Inv.listX I hs
  refine⟨b,ws,m,?_,ew,intsAre_of rw'⟩
  rw[List.getD_eq_getElem?_getD,h1]
  exact h2
 refine sorted_by (κ:=oneType') (key:=fun i=>(Dv.rank nss (nss.getD i []):Int)) ⟨_,e,rfl,n,rfl⟩ (by omega) (fun h2 h' k E' Q' hQ=>?_) (fun h2 h' k i j C hi hj hC=>?_) fun out a1 a2=>?_
 ·refine kas_kind (T:=.type "list") h2 (fun v hv=>?_) (by decide) (by decide) hQ
  obtain⟨i,hi,rfl⟩:=List.getElem_of_mem hv
  obtain⟨b,ws,m,e1,e2,_⟩:=item i hi
  rw[List.getD_eq_getElem?_getD,List.getElem?_eq_getElem hi] at e1
  have e1:its[i]=.ref b:=e1
  rw[e1]
  exact(Looks.ld (k _ _ e2)).andThen .now
 ·obtain⟨b,ws,m,e1,e2,e3⟩:=item i hi
  obtain⟨b',ws',m',f1,f2,f3⟩:=item j hj
  unfold kas_ask
  rw[e1,f1,keyLt'_oneType]
  have hm:nss.getD i []∈nss:=by
   have hi':i<nss.length:=by omega
   rw[List.getD_eq_getElem?_getD,List.getElem?_eq_getElem hi']
   exact List.getElem_mem hi'
  rw[Dv.rank_lt hm] at hC
  exact oneLt_list (k _ _ e2) (k _ _ f2) e3 f3 (by show X.A.in1.in1.units<cLine; exact Nat.lt_of_le_of_lt (show X.A.units+1+1<=X.A.units+64 by omega) hu) hC
 ·refine sorted_end I rv a1 h64 fun l hl'=>q out (by rw[hl]; exact a1) (fun i j hij hj=>?_) l hl'
  have:=a2 i j hij (by omega)
  have ho:out.length=its.length:=by rw[a1.length_eq,List.length_range]
  have mem:∀ k,k<its.length->nss.getD (out.getD k 0) []∈nss:=fun k hk=>by
   have h1:out.getD k 0∈out:=by
    rw[List.getD_eq_getElem?_getD,List.getElem?_eq_getElem (by omega)]
    exact List.getElem_mem _
   have h2:=List.mem_range.mp (a1.mem_iff.mp h1)
   have h3:out.getD k 0<nss.length:=by omega
   rw[List.getD_eq_getElem?_getD,List.getElem?_eq_getElem h3]
   exact List.getElem_mem h3
  unfold Dv.lexLe
  rw[<- Dv.rank_lt (mem j (by omega))]
  exact decide_eq_false (by omega)
theorem lists_eq:∀ {ds:List D} {nss:List (List Int)},Dv.listsOf ds=some nss->ds=nss.map fun ns=>.lst (ns.map .int)
 | [],nss,h=>by simp[Dv.listsOf] at h; subst h; rfl
 | d::r,nss,h=>by
  cases d with
  | lst es =>
   simp only[Dv.listsOf] at h
   split at h
   ·rename_i ns ms h1 h2
    cases h
    rw[ints_eq h1,lists_eq h2]
    rfl
   ·cases h
  | _=>simp[Dv.listsOf] at h
theorem RpL.pick {K:Frag}{H:Hp}{ds:List D}{vs:List V}(r:RpL K H ds vs):∀ out:List Nat,(∀ i∈out,i<ds.length)->RpL K H (out.map fun i=>ds.getD i .non) (out.map fun i=>vs.getD i .non)
 | [],_=>.nil
 | i::o,h=>by
  have hi:=h i List.mem_cons_self
  obtain⟨v,h1,h2⟩:=r.get (List.getElem?_eq_getElem hi)
  refine .cons ?_ (RpL.pick r o fun j hj=>h j (List.mem_cons_of_mem _ hj))
  show Rp K H (ds.getD i .non) (vs.getD i .non)
  rw[List.getD_eq_getElem?_getD,List.getElem?_eq_getElem hi,List.getD_eq_getElem?_getD,h1]
  exact h2
theorem picked {nss:List (List Int)}{out:List Nat}(hp:out.Perm (List.range nss.length))(hs:∀ i j,i<=j->j<nss.length->Dv.lexLe (nss.getD (out.getD i 0) []) (nss.getD (out.getD j 0) [])):(out.map fun i=>nss.getD i [])=Dv.lsort nss:=by
 have e:(List.range nss.length).map (fun i=>nss.getD i [])=nss:=by
  refine List.ext_getElem (by simp) fun i h1 h2=>?_
  simp[List.getD_eq_getElem?_getD,List.getElem?_eq_getElem h2]
 refine Dv.sorted_one (((hp.map fun i=>nss.getD i []).trans (by rw[e])).trans (Dv.lsort_perm nss).symm) ?_ (Dv.lsort_sorted nss)
 have ho:out.length=nss.length:=by rw[hp.length_eq,List.length_range]
 rw[List.pairwise_iff_getElem]
 intro i j hi hj hij
 rw[List.length_map] at hi hj
 have:=hs i j (Nat.le_of_lt hij) (by omega)
 rw[List.getElem_map,List.getElem_map]
 simpa[List.getD_eq_getElem?_getD,List.getElem?_eq_getElem hi,List.getElem?_eq_getElem hj] using this
theorem picked_ds {nss:List (List Int)}{out:List Nat}{f:List Int->D}(hp:out.Perm (List.range nss.length)):(out.map fun i=>(nss.map f).getD i .non)=(out.map fun i=>nss.getD i []).map f:=by
 rw[List.map_map]
 refine List.map_congr_left fun i hi=>?_
 have h:i<nss.length:=List.mem_range.mp (hp.mem_iff.mp hi)
 simp[List.getD_eq_getElem?_getD,List.getElem?_eq_getElem h]
theorem ints_back:∀ ns:List Int,Dv.intsOf (ns.map .int)=some ns
 | []=>rfl
 | n::r=>by simp[Dv.intsOf,ints_back r]
theorem items_L {K:Frag}{H:Hp}:∀ {nss:List (List Int)} {vs:List V},RpL K H (nss.map fun ns=>.lst (ns.map .int)) vs->Paired (ItL K H) vs nss
 | [],vs,h=>by rw[List.map_nil] at h; unfold RpL at h; subst h; exact .nil
 | ns::r,vs,h=>by
  rw[List.map_cons] at h
  unfold RpL at h
  obtain⟨v,ws,rfl,g1,g2⟩:=h
  unfold Rp at g1
  obtain⟨b,bs,rfl,g3,g4⟩:=g1
  have eb:=RpL.ints (ints_back ns) g4
  subst eb
  exact .cons ⟨b,rfl,g3⟩ (items_L g2)
theorem ItL.same {K:Frag}{H H':Hp}(e:Same H H'){v:V}{ns:List Int}(h:ItL K H v ns):ItL K H' v ns:=let ⟨b,h1,h2⟩:=h; ⟨b,h1,h2.same e⟩
section
variable {C:Ctx}{a:Expr}{f:EE}{pos:Pos}
theorem list_both {K:Frag}{Hv H Hv1 H1:Hp}{ds:List D}{x:V}{fr:Bool}(e:Ext Hv H Hv1 H1)(rx:Rp K Hv1 (.lst ds) x)(n:fr=true->Rp [] (Hnew H H1) (.lst ds) x):∃ l vs,x=.ref l/\SqX K H1 l vs/\RpL K Hv1 ds vs/\(fr=true->RpL [] (Hnew H H1) ds vs):=by
 cases fr with
 | true =>
  have rn:=n rfl
  unfold Rp at rn
  obtain⟨l,vs,rfl,h1,h2⟩:=rn
  refine⟨l,vs,rfl,?_,(RpL.frag h2).same e.news,fun _=>h2⟩
  rcases h1 with h1|⟨its,n,e,_⟩
  ·exact .inl (Rd.same Hnew.sub h1)
  ·simp at e
 | false =>
  unfold Rp at rx
  obtain⟨l,vs,rfl,h1,h2⟩:=rx
  exact⟨l,vs,rfl,h1.same e.vh,h2,fun z=>by cases z⟩
theorem c1_sortedLD:C1S C (.builtin "sorted") Dv.sortedLD:=by
 refine⟨_,call_sortedL C.un,fun x d fr H Hv H1 Hv1 W Q e rx n q=>?_⟩
 cases d with
 | lst ds =>
  simp only[Dv.sortedLD] at q
  cases hi:Dv.listsOf ds with
  | none=>rw[hi] at q; exact(show False from q).elim
  | some nss =>
   rw[hi] at q
   by_cases h64:nss.length<64
   ·simp only[h64,if_true] at q
    have ed:=lists_eq hi
    subst ed
    obtain⟨l,vs,rfl,h1,h2,h3⟩:=list_both e rx n
    have hl:=h2.length
    rw[List.length_map] at hl
    refine⟨l,vs,nss,rfl,h1,by omega,Paired.mapM (items_L h2) fun _ _ _ z=>z.same e.vh,fun out hp hs p hpn=>?_⟩
    rw[hl] at hp hs
    have hin:∀ i∈out,i<(nss.map fun ns=>D.lst (ns.map .int)).length:=fun i hi=>by rw[List.length_map]; exact List.mem_range.mp (hp.mem_iff.mp hi)
    have fin:∀ {K:Frag} {H:Hp},RpL K H (nss.map fun ns=>D.lst (ns.map .int)) vs->RpL K H ((Dv.lsort nss).map fun ns=>D.lst (ns.map .int)) (out.map fun i=>vs.getD i .non):=fun {K H} r=>by
     have r2:=RpL.pick r out hin
     rw[picked_ds hp,picked hp hs] at r2
     exact r2
    exact Ok.newL q e (fin h2) (fun z=>fin (h3 z)) p hpn
   ·simp only[h64,if_false] at q
    exact(show False from q).elim
 | _=>exact(show False from q).elim
theorem se_sortedL {p:Pos}(hm:C.X.mg "sorted"=none)(hg:Gl C.X "sorted")(ha:SE C a f)(he:autoParam (starEach [a] C.X.env=[(false,eval a C.X.env)]) Au.h5._auto_1):SE C (.Call (.Name "sorted" p) [a] [] pos) (Dv.eB1 Dv.sortedLD f):=se_b1 c1_sortedLD hg hm PyProof.Rows.boot_sorted ha (by decide) (by decide) he
end
open PySem PySem.Spec PyProof.Rows L2
open Dv (D R RL EE EL EI RI Sl Out SS Wy An Cs Ws WR Wk PR)
section
variable {C:Ctx}{a b c e k:Expr}{f g h:EE}{pos:Pos}
theorem op_din:OpR C.X (compareOp .In) (fun x y H Q=>∃ a o,y=.ref a/\DGet H a x o/\Q (.bl o.isSome) H):=by
 intro pins s σ H x y v u Q I rx ry h
 obtain⟨a,o,rfl,g,q⟩:=h
 obtain rfl:u=Value.ref a:=ry
 exact d_in (C_un1 C) I g rx fun s3 I3=>⟨.bl o.isSome,H,I3,rfl,q⟩
theorem os_din:OpS C (compareOp .In) Dv.dinD:=by
 refine⟨_,op_din,fun x y d d' H Hv H1 Hv1 W Q e rx ry q=>?_⟩
 cases d with
 | int j =>
  cases d' with
  | dct ks ds =>
   unfold Rp at rx
   have ry':=ry
   unfold Rp at ry'
   obtain⟨a,vs,rfl,hl,h1,h2⟩:=ry'
   cases hk:Dv.look ks ds j with
   | none =>
    have q:Ok C.X.K Hv H W C.cls (.ok (.bl false) true) Q:=by have:=q; simp only[Dv.dinD,hk] at this; exact this
    refine⟨a,none,rfl,.inl ⟨_,Sum.inl j,Rd.same e.vh h1,rx,(look_none hl h2 hk).symm⟩,?_⟩
    exact q.at (v:=.bl (none:Option V).isSome) e rp_bl rfl
   | some d0 =>
    have q:Ok C.X.K Hv H W C.cls (.ok (.bl true) true) Q:=by have:=q; simp only[Dv.dinD,hk] at this; exact this
    obtain⟨v0,e1,e2⟩:=look_some h2 hk
    refine⟨a,some v0,rfl,.inl ⟨_,Sum.inl j,Rd.same e.vh h1,rx,e1.symm⟩,?_⟩
    exact q.at (v:=.bl (some v0).isSome) e rp_bl rfl
  | _=>exact(show False from q).elim
 | _=>exact(show False from q).elim
theorem sc_din (ha:SE C a f)(hb:SE C b g)(hm:autoParam (behindInMarks .In b=false) Au.h9._auto_1):SC C (.Compare a [.In] [b] pos) (Dv.eB2 Dv.dinD f g):=sc_cm2 os_din ha hb hm
theorem se_use {R:Prop}(h:SE C e f)(k:∀ t,PE C.X e t->Tak C t f->R):R:=let ⟨t,p,q⟩:=h; k t p q
theorem se_allF {CW CC:Addr}{k:Wk}{F:List D->PR}{e:Expr}{es:List Expr}{fl:EL}{m jA jP:Nat}{fA fP:Addr}{fdA fdP:FuncData}{sA sP:Stmt}{ps:List Str}{xA xP:Str}{pA pP pos posP:Pos}
  (dA:Df C.X.K C.X.mg xA sA ["walk"] fA fdA) (oA:FnOk C.X.prog C.X.w C.X.K C.X.mg C.X.base C.CX jA fA fdA ["walk"] (spAll C.X.K CW CC C.cls k)) (dP:Df C.X.K C.X.mg xP sP ps fP fdP) (oP:FnOk C.X.prog C.X.w C.X.K C.X.mg C.X.base C.CX jP fP fdP ps (spPW C.X.K CW CC C.cls F ps.length))
  (hr:Room m C.X.A) (hjA:jA<=m) (hjP:jP<=m) (hgA:Gl C.X xA) (hgP:Gl C.X xP) (ha:SL C (e::es) fl) (hlen:autoParam ((e::es).length=ps.length) Au.h5._auto_1) (hdA:autoParam ((xA == ("__debug__":Str))=false) Au.h2._auto_1) (hdP:autoParam ((xP == ("__debug__":Str))=false) Au.h2._auto_1)
  (heA:autoParam (starEach [.Call (.Name xP pP) (e::es) [] posP] C.X.env=(false,eval (.Call (.Name xP pP) (e::es) [] posP) C.X.env)::starEach [] C.X.env) Au.h5._auto_1) (hplA:autoParam ((backTo pos (starEach [] C.X.env)).any (·.1)=false) Au.h5._auto_1)
  (heP:autoParam (starEach (e::es) C.X.env=(false,eval e C.X.env)::starEach es C.X.env) Au.h5._auto_1) (hplP:autoParam ((backTo posP (starEach es C.X.env)).any (·.1)=false) Au.h5._auto_1) :
  SE C (.Call (.Name xA pA) [.Call (.Name xP pP) (e::es) [] posP] [] pos) (Dv.eAllF k F fl) :=
 se_allfill dA oA dP oP hr hjA hjP hgA hgP ha hlen hdA hdP heA hplA heP hplP
end
theorem passE {P:Program}{w:World}{K:PySem.W.Frag}{mg:Str->Option Value}{base:Heap}{N:List Str}{qual:Str}{scope:Scope}{f:Addr}{cd:Value}{A:Around}{outer:List PySem.Env}{s:Shared}{H:Hp}{E:XK} :
  Passes (CXe P w) (cxOf (CXe P w) P w K mg base N qual scope f cd A outer s H E) E:=fun pins σ H1 s1 e s' I h=>(cxe_ok (P:=P) (w:=w)).leave K mg base N qual scope f cd A outer s H E pins σ H1 s1 e s' I h
section
variable {C:Ctx}{e:Expr}{f:EE}{pos:Pos}
noncomputable def AppTak (C:Ctx)(s:Stmt)(i:Nat)(f:EE):Prop:=∃ te,Tak C te f/\PS C.X s (tDrop (tBM C.X.K "list" rAppend (tVar i) (tCons te tNil)))
theorem st_appJ {i:Nat}{x:Str}{apos cpos:Pos}{px:Pos}(he:SE C e f)(hN:autoParam (C.X.N[i]?=some x) Au.h5._auto_1)(hv:autoParam (Vis C.X.env.scope x) Au.h6._auto_1)
  (hd:autoParam ((x == ("__debug__":Str))=false) Au.h2._auto_1) (hcd:autoParam ((x == ("__classdict__":Str))=false) Au.h2._auto_1) (hst:autoParam (starEach [e] C.X.env=[(false,eval e C.X.env)]) Au.h5._auto_1)
  (hbase:autoParam (attributeBase (.Name x px) "append" C.X.env (eval (.Name x px) C.X.env)=eval (.Name x px) C.X.env) Au.h5._auto_1)
  (hfew:autoParam (((backTo cpos (starEach [e] C.X.env)).all (fun x=>!x.1)&&(backToKw cpos (keywordEach [] C.X.env)).all (fun x=>x.1.isSome)
   && decide ([e].length+([]:List Keyword).length+(if ([]:List Keyword).isEmpty then 0 else 1)<30))=true) Au.h5._auto_1)
  (hline:autoParam ((apos.endLine == cpos.line)=true) Au.h5._auto_1) (hs:autoParam (swapsWith (.Call (.Attribute (.Name x px) "append" apos) [e] [] cpos) none pos.line C.X.env=pure false) Au.h5._auto_1) :
  AppTak C (.Expr (.Call (.Attribute (.Name x px) "append" apos) [e] [] cpos) pos) i f:=by
 obtain⟨t,p,q⟩:=he
 exact⟨t,q,ps_expr (pe_bm PySem.F.plainAttrs_list PySem.F.slot_list_append PySem.F.type_list_append mt_append (pe_var hN hv hd hcd) (pa_cons p pa_nil hst) hbase hfew hline hst rfl) hs⟩
theorem ss_killRows {s1 s2:Stmt}{ss:List Stmt}{G:SS}{i j:Nat}{d0:D}(h1:∃ t:TS,PS C.X s1 t/\KillTak C t i j)(h2:AppTak C s2 i f)(hf:f []=.ok d0 true)(h3:SSs C ss G):SSs C (s1::s2::ss) (Dv.sCons (Dv.sKillRows i j) G):=by
 obtain⟨t1,p1,k1⟩:=h1
 obtain⟨te,qe,p2⟩:=h2
 obtain⟨t3,p3,q3⟩:=h3
 refine⟨_,pss_cons p1 (pss_cons p2 p3),fun Hv₀ H₀ E σ H st ⟨Hc,O,r⟩ w=>?_⟩
 have w':OkS C Hv₀ H₀ E ((Dv.sKillRows i j st).bind G):=w
 unfold Dv.sKillRows at w'
 split at w'
 ·rename_i ds hi
  split at w'
  ·rename_i m hm
   split at w'
   ·rename_i hb
    simp only[Bool.and_eq_true,decide_eq_true_eq] at hb
    obtain⟨⟨⟨b1,b2⟩,b3⟩,b4⟩:=hb
    have hj:Dv.junk (.dp (.lst ds))=some (ds.length,m):=by simp[Dv.junk,Dv.shapeD,hm]
    obtain⟨v,g1,J⟩:=r.junk hi hj
    obtain⟨v',g1',rp⟩:=r.dp i _ hi
    rw[g1] at g1'
    cases g1'
    have rp':=rp
    unfold Rp at rp'
    obtain⟨tt,vs,rfl,hq,hl⟩:=rp'
    have hO:O i tt=some (.lst vs):=by
     rcases hq with (hq|⟨o,hq⟩)|⟨its,n,e,_⟩
     ·exact hq
     ·exact absurd ((r.oh i tt _ hq).1) (r.nf tt _ _ (r.oh i tt _ hq).2.2)
     ·simp at e
    have lin:i<st.length:=(List.getElem?_eq_some_iff.mp hi).1
    have r1:RelC C.X.K Hv₀ H₀ Hc O (st.set i (.jk ds.length m)) σ H:=by
     have:=r.setAny (i:=i) (s:=.jk ds.length m) (v:=some (.ref tt)) (H':=H) (O':=O) r.h0 r.ch r.nf (fun _ _=>rfl) (fun d e=>nomatch e) (fun d e=>nomatch e) (fun d e=>nomatch e) (fun n' m' e=>by cases e; exact⟨_,rfl,J⟩) r.oh (fun k b o o' h h' h''=>h' (r.one k i b o' o h'' h))
     rw[set_id g1] at this
     exact this
    refine k1 Hv₀ H₀ _ σ H _ Hc O ds.length m tt vs r1 (List.getElem?_set_self lin) g1 (r.oh i tt _ hO).1 b1 b2 b3 (by rw[List.length_set]; exact b4) fun σ2 H2 ⟨Hc2,O2,r2⟩ z1 z2=>?_
    refine⟨_,z1,.inl ⟨rfl,vs,SqL.of z2⟩,?_⟩
    refine qe _ _ Hc2 [] _ (fun i d z=>by simp at z) r2.ch ?_
    rw[hf]
    intro v3 Hv3 H3 x3 rp3 nn3
    have r3:=r2.growC x3
    have hlen:vs.length=ds.length:=hl.length
    refine⟨tt,vs,v3,rfl,rfl,x3.hh _ _ z2,by rw[sizeLine_eq]; omega,?_⟩
    have e0:((st.set i (.jk ds.length m)).set j .no).set i (.jk ds.length (m+ds.length))=(st.set j .no).set i (.jk ds.length (m+ds.length)):=by rw[List.set_comm _ _ (Ne.symm b3),List.set_set,List.set_comm _ _ b3]
    have hself:(((st.set i (.jk ds.length m)).set j .no).set i (.jk ds.length (m+ds.length)))[i]?=some (.jk ds.length (m+ds.length)):=List.getElem?_set_self (by rw[List.length_set,List.length_set]; exact lin)
    obtain⟨v4,k4,tt4,vs4,e4,ht4,_,_⟩:=r3.jk i _ _ hself
    rw[z1] at k4
    cases k4
    cases e4
    have ht5:∃ u,O2 i tt=some u:=by rcases ht4 with h|h <;>exact⟨_,h⟩
    obtain⟨u,hu⟩:=ht5
    have r4:=r3.putAny (i:=i) (s:=.no) (v:=.ref tt) (a:=tt) (u:=u) (o:=.lst (vs++[v3])) z1 hu (by intro _ _ z; cases z) (fun d e=>nomatch e) (fun n' m' e=>nomatch e) fun d=>⟨nofun,nofun⟩
    rw[e0,List.set_set] at r4
    exact q3 Hv₀ H₀ E σ2 _ _ ⟨_,_,r4⟩ w'
   ·exact(show False from w').elim
  ·exact(show False from w').elim
 ·exact(show False from w').elim
end
end Sd
namespace Cw
open Dv (eAllF eAnd eB1 eB2 eBl eCall eCm eComp eCompT eDict0 eDnin eFld eInt eIx eLst eNeg eNot eOp eOr eSlice eTup eVar iRange iRange2 iSeq iZip lCons lNil sApp sAppG sCons sDPut sExpr sFor sForT sIf sKillRows sNil sPar sPut sRaise sRet sRetO sSet sSetD sSetG sUnpack sUnpackL)
open Dv (D R)
noncomputable def b_Q04:Dv.SS :=
 (sIf (eOr (eCm .lt (eVar 0) (eInt 1)) (eCm .gt (eVar 0) (eInt 60))) (sRaise "NoWheel") sNil)
noncomputable def F_Q04:List D->R:=Dv.fn 1 b_Q04
noncomputable def b_Q03_l1:Dv.SS :=
 (sCons (sIf (eOr (eCm .le (eVar 3) (eVar 2)) (eCm .ge (eVar 3) (eVar 1))) (sRaise "NoBeat") sNil) (sSetG [3] 2 (eVar 3)))
noncomputable def b_Q03_t2:Dv.SS :=
 (sFor [0] 3 (iSeq (eVar 0)) b_Q03_l1)
noncomputable def b_Q03_t1:Dv.SS :=
 (sCons (sSet 2 (eNeg (eInt 1))) b_Q03_t2)
noncomputable def b_Q03:Dv.SS :=
 (sCons (sIf (eCm .eq (eB1 Dv.lenD (eVar 0)) (eInt 0)) (sRaise "NoBeat") sNil) b_Q03_t1)
noncomputable def F_Q03:List D->R:=Dv.fn 4 b_Q03
noncomputable def b_Q02_t1:Dv.SS :=
 (sExpr (eCall F_Q03 (lCons (eVar 1) (lCons (eVar 0) lNil))))
noncomputable def b_Q02:Dv.SS :=
 (sCons (sExpr (eCall F_Q04 (lCons (eVar 0) lNil))) b_Q02_t1)
noncomputable def F_Q02:List D->R:=Dv.fn 2 b_Q02
noncomputable def b_Q0D_t3:Dv.SS :=
 (sRet (eOp .mod (eOp .mul (eVar 2) (eVar 2)) (eInt 2147483629)))
noncomputable def b_Q0D_t2:Dv.SS :=
 (sCons (sIf (eCm .gt (eB1 Dv.lenD (eVar 0)) (eInt 0)) (sSet 2 (eOp .mod (eOp .add (eOp .mul (eIx (eVar 0) (eOp .mod (eVar 1) (eB1 Dv.lenD (eVar 0)))) (eInt 48271)) (eOp .mul (eVar 1) (eInt 7919))) (eInt 2147483647))) sNil) b_Q0D_t3)
noncomputable def b_Q0D_t1:Dv.SS :=
 (sCons (sSet 2 (eOp .add (eOp .mul (eInt 7919) (eVar 1)) (eInt 5))) b_Q0D_t2)
noncomputable def b_Q0D:Dv.SS :=
 (sCons (sIf (eCm .lt (eVar 1) (eB1 Dv.lenD (eVar 0))) (sRet (eIx (eVar 0) (eVar 1))) sNil) b_Q0D_t1)
noncomputable def F_Q0D:List D->R:=Dv.fn 3 b_Q0D
noncomputable def b_Q0M:Dv.SS :=
 (sRet (eAnd (eB1 Dv.isIntD (eVar 0)) (eNot (eB1 Dv.isBoolD (eVar 0)))))
noncomputable def F_Q0M:List D->R:=Dv.fn 1 b_Q0M
noncomputable def b_Q0A_l1:Dv.SS :=
 (sIf (eOr (eNot (eCall F_Q0M (lCons (eVar 2) lNil))) (eCm .ne (eVar 2) (eVar 3))) (sRet (eBl false)) sNil)
noncomputable def b_Q0A_t2:Dv.SS :=
 (sRet (eBl true))
noncomputable def b_Q0A_t1:Dv.SS :=
 (sCons (sForT [0,1] (Dv.tupTo [2,3]) (iZip (eVar 0) (eVar 1)) b_Q0A_l1) b_Q0A_t2)
noncomputable def b_Q0A:Dv.SS :=
 (sCons (sIf (eOr (eNot (eB1 Dv.isListD (eVar 0))) (eCm .ne (eB1 Dv.lenD (eVar 0)) (eB1 Dv.lenD (eVar 1)))) (sRet (eBl false)) sNil) b_Q0A_t1)
noncomputable def F_Q0A:List D->R:=Dv.fn 4 b_Q0A
noncomputable def b_Q0K_l1:Dv.SS :=
 (sCons (sSet 7 (eOp .mod (eOp .shr (eVar 3) (eVar 6)) (eInt 2))) (sCons (sIf (eCm .eq (eVar 4) (eInt 3)) (sSet 7 (eOp .mul (eVar 7) (eOp .mod (eOp .shr (eVar 3) (eOp .mod (eOp .add (eVar 6) (eInt 7)) (eInt 61))) (eInt 2)))) sNil) (sCons (sIf (eCm .eq (eVar 4) (eInt 4)) (sSet 7 (eB2 Dv.max2D (eVar 7) (eOp .mod (eOp .shr (eVar 3) (eOp .mod (eOp .add (eVar 6) (eInt 7)) (eInt 61))) (eInt 2)))) sNil) (sIf (eCm .eq (eVar 7) (eInt 1)) (sApp 5 (eVar 6)) sNil))))
noncomputable def b_Q0K_t5:Dv.SS :=
 (sRetO 5)
noncomputable def b_Q0K_t4:Dv.SS :=
 (sCons (sIf (eCm .eq (eVar 5) (eLst lNil)) (sApp 5 (eOp .mod (eOp .fdiv (eCall F_Q0D (lCons (eVar 0) (lCons (eOp .add (eVar 1) (eInt 1)) lNil))) (eInt 5)) (eVar 2))) sNil) b_Q0K_t5)
noncomputable def b_Q0K_t3:Dv.SS :=
 (sCons (sFor [] 6 (iRange (eVar 2)) b_Q0K_l1) b_Q0K_t4)
noncomputable def b_Q0K_t2:Dv.SS :=
 (sCons (sSet 5 (eLst lNil)) b_Q0K_t3)
noncomputable def b_Q0K_t1:Dv.SS :=
 (sCons (sSet 4 (eOp .mod (eCall F_Q0D (lCons (eVar 0) (lCons (eOp .add (eVar 1) (eInt 1)) lNil))) (eInt 5))) b_Q0K_t2)
noncomputable def b_Q0K:Dv.SS :=
 (sCons (sSet 3 (eOp .mod (eOp .mul (eCall F_Q0D (lCons (eVar 0) (lCons (eVar 1) lNil))) (eInt 618970019642690137449562111)) (eInt 2305843009213693951))) b_Q0K_t1)
noncomputable def F_Q0K:List D->R:=Dv.fn 8 b_Q0K
noncomputable def c_Q0L_1:Dv.EE:=(eComp (eOp .mod (eOp .add (eVar 0) (eVar 2)) (eVar 1)) (eBl true) [0,2] (iSeq (eVar 1)))
noncomputable def b_Q0L:Dv.SS :=
 (sRet (eB1 Dv.sortedD c_Q0L_1))
noncomputable def F_Q0L:List D->R:=Dv.fn 3 b_Q0L
noncomputable def c_Q08_1:Dv.EE:=(eComp (eOp .add (eVar 0) (eOp .mul (eVar 1) (eVar 2))) (eBl true) [4,0] (iSeq (eVar 1)))
noncomputable def b_Q08_l1:Dv.SS :=
 (sSet 3 (eOp .add (eVar 3) c_Q08_1))
noncomputable def b_Q08_t2:Dv.SS :=
 (sRetO 3)
noncomputable def b_Q08_t1:Dv.SS :=
 (sCons (sFor [] 4 (iRange (eVar 2)) b_Q08_l1) b_Q08_t2)
noncomputable def b_Q08:Dv.SS :=
 (sCons (sSet 3 (eLst lNil)) b_Q08_t1)
noncomputable def F_Q08:List D->R:=Dv.fn 5 b_Q08
noncomputable def c_Q0N_1:Dv.EE:=(eComp (eOp .mod (eVar 0) (eVar 1)) (eBl true) [0] (iSeq (eVar 1)))
noncomputable def b_Q0N_t3:Dv.SS :=
 (sRetO 2)
noncomputable def b_Q0N_t2:Dv.SS :=
 (sCons (sExpr (eCall F_Q02 (lCons (eVar 0) (lCons (eVar 2) lNil)))) b_Q0N_t3)
noncomputable def b_Q0N_t1:Dv.SS :=
 (sCons (sSet 2 (eB1 Dv.sortedD c_Q0N_1)) b_Q0N_t2)
noncomputable def b_Q0N:Dv.SS :=
 (sCons (sExpr (eCall F_Q04 (lCons (eVar 0) lNil))) b_Q0N_t1)
noncomputable def F_Q0N:List D->R:=Dv.fn 3 b_Q0N
noncomputable def c_Q0Q_1:Dv.EE:=(eComp (eOp .add (eVar 0) (eVar 1)) (eBl true) [2] (iSeq (eVar 1)))
noncomputable def b_Q0Q_t1:Dv.SS :=
 (sRet (eCall F_Q0N (lCons (eVar 0) (lCons c_Q0Q_1 lNil))))
noncomputable def b_Q0Q:Dv.SS :=
 (sCons (sExpr (eCall F_Q02 (lCons (eVar 0) (lCons (eVar 1) lNil)))) b_Q0Q_t1)
noncomputable def F_Q0Q:List D->R:=Dv.fn 3 b_Q0Q
noncomputable def b_Q0E_l1:Dv.SS :=
 (sCons (sSet 6 (eOp .mod (eOp .add (eVar 4) (eVar 5)) (eVar 0))) (sPut 3 (eVar 6) (eOp .add (eIx (eVar 3) (eVar 6)) (eInt 1))))
noncomputable def b_Q0E_l2:Dv.SS :=
 (sFor [1] 5 (iSeq (eVar 1)) b_Q0E_l1)
noncomputable def b_Q0E_t2:Dv.SS :=
 (sRet (eCm .eq (eVar 3) (eOp .mul (eLst (lCons (eInt 1) lNil)) (eVar 0))))
noncomputable def b_Q0E_t1:Dv.SS :=
 (sCons (sFor [2] 4 (iSeq (eVar 2)) b_Q0E_l2) b_Q0E_t2)
noncomputable def b_Q0E:Dv.SS :=
 (sCons (sSet 3 (eOp .mul (eLst (lCons (eInt 0) lNil)) (eVar 0))) b_Q0E_t1)
noncomputable def F_Q0E:List D->R:=Dv.fn 7 b_Q0E
noncomputable def b_Q0F_l1:Dv.SS :=
 (sCons (sSet 6 (eOp .mod (eOp .add (eVar 4) (eVar 5)) (eVar 0))) (sPut 3 (eVar 6) (eOp .add (eIx (eVar 3) (eVar 6)) (eInt 1))))
noncomputable def b_Q0F_l2:Dv.SS :=
 (sFor [1] 5 (iSeq (eVar 1)) b_Q0F_l1)
noncomputable def b_Q0F_t2:Dv.SS :=
 (sRet (eCm .eq (eVar 3) (eOp .mul (eLst (lCons (eInt 1) lNil)) (eVar 0))))
noncomputable def b_Q0F_t1:Dv.SS :=
 (sCons (sFor [2] 4 (iSeq (eVar 2)) b_Q0F_l2) b_Q0F_t2)
noncomputable def b_Q0F:Dv.SS :=
 (sCons (sSet 3 (eOp .mul (eLst (lCons (eInt 0) lNil)) (eVar 0))) b_Q0F_t1)
noncomputable def F_Q0F:List D->R:=Dv.fn 7 b_Q0F
noncomputable def b_Q0P_l1:Dv.SS :=
 (sDPut [] 1 (eVar 4) (eBl true))
noncomputable def b_Q0P_l2:Dv.SS :=
 (sFor [3] 4 (iSeq (eVar 3)) b_Q0P_l1)
noncomputable def b_Q0P_t2:Dv.SS :=
 (sRetO 1)
noncomputable def b_Q0P_t1:Dv.SS :=
 (sCons (sForT [0] (Dv.tupTo [2,3]) (iSeq (eVar 0)) b_Q0P_l2) b_Q0P_t2)
noncomputable def b_Q0P:Dv.SS :=
 (sCons (sSet 1 eDict0) b_Q0P_t1)
noncomputable def F_Q0P:List D->R:=Dv.fn 5 b_Q0P
noncomputable def c_Q0R_1:Dv.EE:=(eComp (eCall F_Q0Q (lCons (eVar 1) (lCons (eVar 2) (lCons (eVar 0) lNil)))) (eBl true) [0,1] (iRange (eVar 0)))
noncomputable def c_Q0R_2:Dv.EE:=(eComp (eOp .mod (eOp .sub (eVar 2) (eVar 0)) (eVar 1)) (eBl true) [0,4] (iSeq (eVar 1)))
noncomputable def c_Q0R_3:Dv.EE:=(eComp (eTup (lCons (eVar 0) (lCons (eIx (eVar 1) (eVar 0)) lNil))) (eBl true) [2] (iSeq (eVar 5)))
noncomputable def b_Q0R_l1:Dv.SS :=
 (sCons (sSet 5 c_Q0R_2) (sAppG [2,5] 3 c_Q0R_3))
noncomputable def b_Q0R_t3:Dv.SS :=
 (sRetO 3)
noncomputable def b_Q0R_t2:Dv.SS :=
 (sCons (sFor [] 4 (iRange (eVar 0)) b_Q0R_l1) b_Q0R_t3)
noncomputable def b_Q0R_t1:Dv.SS :=
 (sCons (sSet 3 (eLst lNil)) b_Q0R_t2)
noncomputable def b_Q0R:Dv.SS :=
 (sCons (sSetG [0,1] 2 c_Q0R_1) b_Q0R_t1)
noncomputable def F_Q0R:List D->R:=Dv.fn 6 b_Q0R
noncomputable def b_Q05_t1:Dv.SS :=
 (sRet (eCm .eq (eOp .mod (eVar 0) (eB1 Dv.lenD (eVar 1))) (eInt 0)))
noncomputable def b_Q05:Dv.SS :=
 (sCons (sExpr (eCall F_Q02 (lCons (eVar 0) (lCons (eVar 1) lNil)))) b_Q05_t1)
noncomputable def F_Q05:List D->R:=Dv.fn 2 b_Q05
noncomputable def c_Q0I_1:Dv.EE:=(eComp (eOp .add (eOp .mul (eVar 0) (eVar 2)) (eVar 1)) (eBl true) [10,7] (iSeq (eVar 3)))
noncomputable def c_Q0I_2:Dv.EE:=(eComp (eOp .mul (eVar 0) (eVar 1)) (eBl true) [7] (iSeq (eVar 4)))
noncomputable def b_Q0I_l1:Dv.SS :=
 (sSet 9 (eOp .add (eVar 9) c_Q0I_1))
noncomputable def b_Q0I_l2:Dv.SS :=
 (sCons (sSet 6 (eOp .mod (eOp .mul (eCall F_Q0D (lCons (eVar 0) (lCons (eOp .add (eVar 1) (eVar 5)) lNil))) (eInt 48271)) (eInt 2147483647))) (sCons (sSet 7 (eIx (eLst (lCons (eInt 2) (lCons (eInt 3) (lCons (eInt 2) (lCons (eInt 5) (lCons (eInt 2) (lCons (eInt 3) (lCons (eInt 7) lNil)))))))) (eOp .mod (eVar 6) (eInt 7)))) (sCons (sSet 8 (eOp .mod (eOp .fdiv (eVar 6) (eInt 7)) (eInt 4))) (sCons (sIf (eCm .le (eOp .mul (eVar 2) (eVar 7)) (eInt 12)) (sCons (sIf (eCm .lt (eVar 8) (eInt 2)) (sSet 3 (eCall F_Q08 (lCons (eVar 2) (lCons (eVar 3) (lCons (eVar 7) lNil))))) (sCons (sSet 9 (eLst lNil)) (sCons (sFor [] 10 (iRange (eVar 7)) b_Q0I_l1) (sCons (sSet 3 (eB1 Dv.sortedD (eVar 9))) (sSet 4 c_Q0I_2))))) (sSet 2 (eOp .mul (eVar 2) (eVar 7)))) sNil) (sIf (eCm .eq (eOp .mod (eOp .fdiv (eVar 6) (eInt 28)) (eInt 2)) (eInt 1)) (sPar [3,4] 3 4 (eVar 4) (eVar 3)) sNil)))))
noncomputable def b_Q0I_t5:Dv.SS :=
 (sRet (eTup (lCons (eVar 2) (lCons (eVar 3) (lCons (eCall F_Q0L (lCons (eVar 2) (lCons (eVar 4) (lCons (eOp .mod (eCall F_Q0D (lCons (eVar 0) (lCons (eOp .add (eVar 1) (eInt 7)) lNil))) (eVar 2)) lNil)))) lNil)))))
noncomputable def b_Q0I_t4:Dv.SS :=
 (sCons (sSet 3 (eCall F_Q0L (lCons (eVar 2) (lCons (eVar 3) (lCons (eOp .mod (eCall F_Q0D (lCons (eVar 0) (lCons (eOp .add (eVar 1) (eInt 6)) lNil))) (eVar 2)) lNil))))) b_Q0I_t5)
noncomputable def b_Q0I_t3:Dv.SS :=
 (sCons (sFor [] 5 (iRange (eInt 6)) b_Q0I_l2) b_Q0I_t4)
noncomputable def b_Q0I_t2:Dv.SS :=
 (sCons (sSet 4 (eLst (lCons (eInt 0) lNil))) b_Q0I_t3)
noncomputable def b_Q0I_t1:Dv.SS :=
 (sCons (sSet 3 (eLst (lCons (eInt 0) lNil))) b_Q0I_t2)
noncomputable def b_Q0I:Dv.SS :=
 (sCons (sSet 2 (eInt 1)) b_Q0I_t1)
noncomputable def F_Q0I:List D->R:=Dv.fn 11 b_Q0I
noncomputable def c_Q09_1:Dv.EE:=(eComp (eOp .add (eVar 1) (eLst (lCons (eVar 0) lNil))) (eBl true) [5] (iRange2 (eOp .add (eIx (eVar 5) (eNeg (eInt 1))) (eInt 1)) (eVar 0)))
noncomputable def c_Q09_2:Dv.EE:=(eComp (eVar 0) (eCall F_Q0F (lCons (eVar 1) (lCons (eVar 2) (lCons (eVar 0) lNil)))) [0,1] (iSeq (eVar 2)))
noncomputable def b_Q09_l1:Dv.SS :=
 (sSetG [0,4,5] 4 (eOp .add (eVar 4) c_Q09_1))
noncomputable def b_Q09_l2:Dv.SS :=
 (sCons (sSetG [] 4 (eLst lNil)) (sCons (sFor [2] 5 (iSeq (eVar 2)) b_Q09_l1) (sSetG [4] 2 (eVar 4))))
noncomputable def b_Q09_t3:Dv.SS :=
 (sRet c_Q09_2)
noncomputable def b_Q09_t2:Dv.SS :=
 (sCons (sFor [1] 3 (iRange (eOp .sub (eOp .fdiv (eVar 0) (eB1 Dv.lenD (eVar 1))) (eInt 1))) b_Q09_l2) b_Q09_t3)
noncomputable def b_Q09_t1:Dv.SS :=
 (sCons (sSetG [] 2 (eLst (lCons (eLst (lCons (eInt 0) lNil)) lNil))) b_Q09_t2)
noncomputable def b_Q09:Dv.SS :=
 (sCons (sIf (eCm .ne (eOp .mod (eVar 0) (eB1 Dv.lenD (eVar 1))) (eInt 0)) (sRet (eLst lNil)) sNil) b_Q09_t1)
noncomputable def F_Q09:List D->R:=Dv.fn 6 b_Q09
noncomputable def b_Q0C_t4:Dv.SS :=
 (sRet (eLst (lCons (eVar 1) (lCons (eVar 2) lNil))))
noncomputable def b_Q0C_t3:Dv.SS :=
 (sCons (sIf (eCm .eq (eVar 4) (eInt 2)) (sCons (sSet 5 (eOp .mod (eOp .fdiv (eCall F_Q0D (lCons (eVar 0) (lCons (eInt 0) lNil))) (eInt 4)) (eVar 1))) (sIf (eCm .notin (eVar 5) (eVar 2)) (sSet 2 (eB1 Dv.sortedD (eOp .add (eSlice (eVar 2) (some (eInt 1)) none) (eLst (lCons (eVar 5) lNil))))) sNil)) sNil) b_Q0C_t4)
noncomputable def b_Q0C_t2:Dv.SS :=
 (sCons (sIf (eCm .eq (eVar 4) (eInt 1)) (sCons (sSet 1 (eOp .add (eInt 1) (eOp .mod (eOp .fdiv (eCall F_Q0D (lCons (eVar 0) (lCons (eInt 0) lNil))) (eInt 4)) (eInt 10)))) (sSet 2 (eCall F_Q0K (lCons (eVar 0) (lCons (eInt 9) (lCons (eVar 1) lNil)))))) sNil) b_Q0C_t3)
noncomputable def b_Q0C_t1:Dv.SS :=
 (sCons (sSet 4 (eOp .mod (eCall F_Q0D (lCons (eVar 0) (lCons (eInt 0) lNil))) (eInt 4))) b_Q0C_t2)
noncomputable def b_Q0C:Dv.SS :=
 (sCons (sUnpack [0] [1,2,3] (eCall F_Q0I (lCons (eVar 0) (lCons (eInt 1) lNil)))) b_Q0C_t1)
noncomputable def F_Q0C:List D->R:=Dv.fn 6 b_Q0C
noncomputable def b_Q0J_l1:Dv.SS :=
 (sIf (eNot (eCall F_Q0A (lCons (eVar 2) (lCons (eVar 3) lNil)))) (sRet (eBl false)) sNil)
noncomputable def b_Q0J_t2:Dv.SS :=
 (sRet (eBl true))
noncomputable def b_Q0J_t1:Dv.SS :=
 (sCons (sForT [0,1] (Dv.tupTo [2,3]) (iZip (eVar 0) (eVar 1)) b_Q0J_l1) b_Q0J_t2)
noncomputable def b_Q0J:Dv.SS :=
 (sCons (sIf (eOr (eNot (eB1 Dv.isListD (eVar 0))) (eCm .ne (eB1 Dv.lenD (eVar 0)) (eB1 Dv.lenD (eVar 1)))) (sRet (eBl false)) sNil) b_Q0J_t1)
noncomputable def F_Q0J:List D->R:=Dv.fn 4 b_Q0J
noncomputable def c_wk_row_1:Dv.EE:=(eComp (eVar 0) (eDnin (eVar 0) (eVar 1)) [2] (iRange (eB1 Dv.lenD (eFld "ways" (eVar 0)))))
noncomputable def c_wk_row_2:Dv.EE:=(eComp (eVar 0) (eB2 Dv.dinD (eVar 0) (eVar 1)) [2] (iSeq (eIx (eVar 6) (eInt 1))))
noncomputable def c_wk_go_1:Dv.EE:=(eCompT 2 (eVar 0) (eBl true) [] (iSeq (eFld "laid" (eVar 1))))
noncomputable def kW:Dv.Wk:=⟨F_Q0P,(eB1 Dv.sortedD c_wk_go_1),(eB1 Dv.minLD c_wk_row_1),c_wk_row_2⟩
noncomputable def wk_w:Dv.EE:=(eCall F_Q0R (lCons (eVar 0) (lCons (eVar 1) lNil)))
noncomputable def wk_l:Dv.EE:=(eLst (lCons (eTup (lCons (eInt 0) (lCons (eVar 1) lNil))) lNil))
noncomputable def b_Q00_t1:Dv.SS :=
 (sRet (eB1 Dv.sortedLD (eAllF kW (Dv.pwR wk_w wk_l) (lCons (eVar 0) (lCons (eVar 1) lNil)))))
noncomputable def b_Q00:Dv.SS :=
 (sCons (sIf (eNot (eCall F_Q05 (lCons (eVar 0) (lCons (eVar 1) lNil)))) (sRet (eLst lNil)) sNil) b_Q00_t1)
noncomputable def F_Q00:List D->R:=Dv.fn 2 b_Q00
noncomputable def b_Q0G_t8:Dv.SS :=
 (sRet (eCall F_Q0J (lCons (eCall F_Q00 (lCons (eVar 1) (lCons (eVar 4) lNil))) (lCons (eVar 3) lNil))))
noncomputable def b_Q0G_t7:Dv.SS :=
 (sCons (sIf (eNot (eCall F_Q0J (lCons (eCall F_Q00 (lCons (eVar 1) (lCons (eVar 7) lNil))) (lCons (eCall F_Q09 (lCons (eVar 1) (lCons (eVar 7) lNil))) lNil)))) (sRet (eBl false)) sNil) b_Q0G_t8)
noncomputable def b_Q0G_t6:Dv.SS :=
 (sCons (sSet 7 (eCall F_Q0L (lCons (eVar 1) (lCons (eVar 2) (lCons (eInt 1) lNil))))) b_Q0G_t7)
noncomputable def b_Q0G_t5:Dv.SS :=
 (sCons (sKillRows 5 6) b_Q0G_t6)
noncomputable def b_Q0G_t4:Dv.SS :=
 (sCons (sIf (eOr (eNot (eCall F_Q0J (lCons (eVar 5) (lCons (eVar 3) lNil)))) (eCm .ne (eVar 4) (eVar 2))) (sRet (eBl false)) sNil) b_Q0G_t5)
noncomputable def b_Q0G_t3:Dv.SS :=
 (sCons (sSetD 5 (eCall F_Q00 (lCons (eVar 1) (lCons (eVar 4) lNil)))) b_Q0G_t4)
noncomputable def b_Q0G_t2:Dv.SS :=
 (sCons (sSet 4 (eB1 Dv.listD (eVar 2))) b_Q0G_t3)
noncomputable def b_Q0G_t1:Dv.SS :=
 (sCons (sSetG [1,2] 3 (eCall F_Q09 (lCons (eVar 1) (lCons (eVar 2) lNil)))) b_Q0G_t2)
noncomputable def b_Q0G:Dv.SS :=
 (sCons (sUnpackL [0] [1,2] (eCall F_Q0C (lCons (eVar 0) lNil))) b_Q0G_t1)
noncomputable def F_Q0G:List D->R:=Dv.fn 8 b_Q0G
end Cw
set_option maxHeartbeats 4000000
namespace Lk43
open PySem PySem.Spec PyProof.Rows L2 Sd Cw
open Dv (D R RL EE EL EI RI Sl Out SS)
noncomputable def top (i:Nat):Stmt:=PySem.Challenge.pw_canonwheel_k43_all_partners.main.body.getD i (.Pass ⟨0,0,0,0⟩)
section
variable {P:Program}{w:World}{K:PySem.W.Frag}{mg:Str->Option Value}{base:Heap}{ad:String->Option Addr}
noncomputable abbrev s_Q04:Stmt:=top 7
theorem sc_check_wheel:FnScope ["length"] ["length"] (defScope s_Q04):=⟨rfl,rfl,rfl,by decide +kernel,rfl,by decide +kernel,by decide +kernel⟩
theorem ok_Q04 {f:Addr}{fd:FuncData}(d:Df K mg "check_wheel" s_Q04 ["length"] f fd)(xa:XAll K mg ad){C_2:Addr}(h_1:ad "NoWheel"=some C_2){t_LONGEST:Tok}(n_LONGEST:mg "LONGEST"=some (.int 60 t_LONGEST)) :
  FnOk P w K mg base (CXe P w) 1 f fd ["length"] (spD K (clsOf ad) F_Q04 1):=by
 have nd:=sc_check_wheel.nd
 refine Df.is cxe_ok ["length"] 0 b_Q04 d sc_check_wheel rfl rfl rfl fun cdv A outer s H E hr=>?_
 exact(ss_one (st_if (sc_w (sw_or (sc_lt (se_var 0) se_int) (sw_one _ (sc_gt (se_var 0) (se_num rfl n_LONGEST))))) (ss_raise (xa.cl _ _ h_1).1 (clsOf_eq h_1) rfl) ss_nil))
noncomputable abbrev s_Q03:Stmt:=top 8
theorem sc_check_rising:FnScope ["numbers","end","before","number"] ["numbers","end"] (defScope s_Q03):=⟨rfl,rfl,rfl,by decide +kernel,rfl,by decide +kernel,by decide +kernel⟩
theorem ok_Q03 {f:Addr}{fd:FuncData}(d:Df K mg "check_rising" s_Q03 ["numbers","end"] f fd)(xa:XAll K mg ad){C_1:Addr}(h_0:ad "NoBeat"=some C_1)(z_len:mg "len"=none) :
  FnOk P w K mg base (CXe P w) 1 f fd ["numbers","end"] (spD K (clsOf ad) F_Q03 2):=by
 have nd:=sc_check_rising.nd
 refine Df.is cxe_ok ["numbers","end","before","number"] 0 b_Q03 d sc_check_rising rfl rfl rfl fun cdv A outer s H E hr=>?_
 exact(ss_cons (st_if (sc_eq (se_len z_len rfl (se_var 0)) se_int) (ss_raise (xa.cl _ _ h_0).1 (clsOf_eq h_0) rfl) ss_nil) (ss_cons (st_set (i:=2) (se_neg se_int) nd rfl (Or.inl rfl)) (ss_one (st_for [0] (i:=3) (si_list (se_var 0)) (ss_cons (st_if (sc_w (sw_or (sc_le (se_var 3) (se_var 2)) (sw_one _ (sc_ge (se_var 3) (se_var 1))))) (ss_raise (xa.cl _ _ h_0).1 (clsOf_eq h_0) rfl) ss_nil) (ss_one (st_setG [3] (i:=2) (se_var 3) nd rfl (Or.inl rfl)))) nd rfl (Or.inl rfl)))))
noncomputable abbrev s_Q02:Stmt:=top 9
theorem sc_check_beat:FnScope ["length","beat"] ["length","beat"] (defScope s_Q02):=⟨rfl,rfl,rfl,by decide +kernel,rfl,by decide +kernel,by decide +kernel⟩
theorem ok_Q02 {f:Addr}{fd:FuncData}(d:Df K mg "check_beat" s_Q02 ["length","beat"] f fd){f_Q04:Addr}{fd_check_wheel:FuncData}(d_Q04:Df K mg "check_wheel" s_Q04 ["length"] f_Q04 fd_check_wheel)(o_Q04:FnOk P w K mg base (CXe P w) 1 f_Q04 fd_check_wheel ["length"] (spD K (clsOf ad) F_Q04 1)){f_Q03:Addr}{fd_check_rising:FuncData}(d_Q03:Df K mg "check_rising" s_Q03 ["numbers","end"] f_Q03 fd_check_rising)(o_Q03:FnOk P w K mg base (CXe P w) 1 f_Q03 fd_check_rising ["numbers","end"] (spD K (clsOf ad) F_Q03 2)) :
  FnOk P w K mg base (CXe P w) 2 f fd ["length","beat"] (spD K (clsOf ad) F_Q02 2):=by
 have nd:=sc_check_beat.nd
 refine Df.is cxe_ok ["length","beat"] 1 b_Q02 d sc_check_beat rfl rfl rfl fun cdv A outer s H E hr=>?_
 exact(ss_cons (st_expr (se_fn d_Q04 o_Q04 hr (by decide) rfl (sl_cons (se_var 0) sl_nil))) (ss_one (st_expr (se_fn d_Q03 o_Q03 hr (by decide) rfl (sl_cons (se_var 1) (sl_cons (se_var 0) sl_nil))))))
noncomputable abbrev s_Q0N:Stmt:=top 10
theorem sc_made_beat:FnScope ["length","numbers","beat"] ["length","numbers"] (defScope s_Q0N):=⟨rfl,rfl,rfl,by decide +kernel,rfl,by decide +kernel,by decide +kernel⟩
theorem ok_Q0N {f:Addr}{fd:FuncData}(d:Df K mg "made_beat" s_Q0N ["length","numbers"] f fd){f_Q04:Addr}{fd_check_wheel:FuncData}(d_Q04:Df K mg "check_wheel" s_Q04 ["length"] f_Q04 fd_check_wheel)(o_Q04:FnOk P w K mg base (CXe P w) 1 f_Q04 fd_check_wheel ["length"] (spD K (clsOf ad) F_Q04 1)){f_Q02:Addr}{fd_check_beat:FuncData}(d_Q02:Df K mg "check_beat" s_Q02 ["length","beat"] f_Q02 fd_check_beat)(o_Q02:FnOk P w K mg base (CXe P w) 2 f_Q02 fd_check_beat ["length","beat"] (spD K (clsOf ad) F_Q02 2))(z_sorted:mg "sorted"=none) :
  FnOk P w K mg base (CXe P w) 3 f fd ["length","numbers"] (spD K (clsOf ad) F_Q0N 2):=by
 have nd:=sc_made_beat.nd
 refine Df.is cxe_ok ["length","numbers","beat"] 2 b_Q0N d sc_made_beat rfl rfl rfl fun cdv A outer s H E hr=>?_
 exact(ss_cons (st_expr (se_fn d_Q04 o_Q04 hr (by decide) rfl (sl_cons (se_var 0) sl_nil))) (ss_cons (st_set (i:=2) (se_sorted z_sorted rfl (se_comp (fs:=["length"]) (is:=[0]) (fe:=(Dv.eOp .mod (Dv.eVar 0) (Dv.eVar 1))) (fc:=(Dv.eBl true)) (comp_names (fsc:=defScope s_Q0N) (N:=["length","numbers","beat"]) rfl rfl (by decide +kernel)) (si_list (se_var 1)) (fun cl L s₀ H₀ ex=>(se_mod (se_var 0) (se_var 1))) (fun cl L s₀ H₀ ex=>ts_nil))) nd rfl (Or.inl rfl)) (ss_cons (st_expr (se_fn d_Q02 o_Q02 hr (by decide) rfl (sl_cons (se_var 0) (sl_cons (se_var 2) sl_nil)))) (ss_one (st_retO 2)))))
noncomputable abbrev s_Q0Q:Stmt:=top 12
theorem sc_turned:FnScope ["length","beat","by"] ["length","beat","by"] (defScope s_Q0Q):=⟨rfl,rfl,rfl,by decide +kernel,rfl,by decide +kernel,by decide +kernel⟩
theorem ok_Q0Q {f:Addr}{fd:FuncData}(d:Df K mg "turned" s_Q0Q ["length","beat","by"] f fd){f_Q02:Addr}{fd_check_beat:FuncData}(d_Q02:Df K mg "check_beat" s_Q02 ["length","beat"] f_Q02 fd_check_beat)(o_Q02:FnOk P w K mg base (CXe P w) 2 f_Q02 fd_check_beat ["length","beat"] (spD K (clsOf ad) F_Q02 2)){f_Q0N:Addr}{fd_made_beat:FuncData}(d_Q0N:Df K mg "made_beat" s_Q0N ["length","numbers"] f_Q0N fd_made_beat)(o_Q0N:FnOk P w K mg base (CXe P w) 3 f_Q0N fd_made_beat ["length","numbers"] (spD K (clsOf ad) F_Q0N 2)) :
  FnOk P w K mg base (CXe P w) 4 f fd ["length","beat","by"] (spD K (clsOf ad) F_Q0Q 3):=by
 have nd:=sc_turned.nd
 refine Df.is cxe_ok ["length","beat","by"] 3 b_Q0Q d sc_turned rfl rfl rfl fun cdv A outer s H E hr=>?_
 exact(ss_cons (st_expr (se_fn d_Q02 o_Q02 hr (by decide) rfl (sl_cons (se_var 0) (sl_cons (se_var 1) sl_nil)))) (ss_one (st_ret (se_fn d_Q0N o_Q0N hr (by decide) rfl (sl_cons (se_var 0) (sl_cons (se_comp (fs:=["by"]) (is:=[2]) (fe:=(Dv.eOp .add (Dv.eVar 0) (Dv.eVar 1))) (fc:=(Dv.eBl true)) (comp_names (fsc:=defScope s_Q0Q) (N:=["length","beat","by"]) rfl rfl (by decide +kernel)) (si_list (se_var 1)) (fun cl L s₀ H₀ ex=>(se_add (se_var 0) (se_var 1))) (fun cl L s₀ H₀ ex=>ts_nil)) sl_nil))))))
noncomputable abbrev s_Q0P:Stmt:=top 17
theorem sc_places_filled:FnScope ["laid","filled","start","places","place"] ["laid"] (defScope s_Q0P):=⟨rfl,rfl,rfl,by decide +kernel,rfl,by decide +kernel,by decide +kernel⟩
theorem ok_Q0P {f:Addr}{fd:FuncData}(d:Df K mg "places_filled" s_Q0P ["laid"] f fd) :
  FnOk P w K mg base (CXe P w) 1 f fd ["laid"] (spD K (clsOf ad) F_Q0P 1):=by
 have nd:=sc_places_filled.nd
 refine Df.is cxe_ok ["laid","filled","start","places","place"] 0 b_Q0P d sc_places_filled rfl rfl rfl fun cdv A outer s H E hr=>?_
 exact(ss_cons (st_set (i:=1) se_dict0 nd rfl (Or.inl rfl)) (ss_cons (st_forT [0] (si_list (se_var 0)) (sg_tup (xs:=[2,3]) (gs_cons (i:=2) (gs_cons (i:=3) gs_nil nd rfl (Or.inl rfl)) nd rfl (Or.inl rfl)) rfl) (ss_one (st_for [3] (i:=4) (si_list (se_var 3)) (ss_one (st_dput [] (i:=1) se_bl (se_var 4))) nd rfl (Or.inl rfl)))) (ss_one (st_retO 1))))
noncomputable abbrev s_Q0R:Stmt:=top 18
theorem sc_ways_of:FnScope ["length","beat","falls","ways","place","starts"] ["length","beat"] (defScope s_Q0R):=⟨rfl,rfl,rfl,by decide +kernel,rfl,by decide +kernel,by decide +kernel⟩
theorem ok_Q0R {f:Addr}{fd:FuncData}(d:Df K mg "ways_of" s_Q0R ["length","beat"] f fd){f_Q0Q:Addr}{fd_turned:FuncData}(d_Q0Q:Df K mg "turned" s_Q0Q ["length","beat","by"] f_Q0Q fd_turned)(o_Q0Q:FnOk P w K mg base (CXe P w) 4 f_Q0Q fd_turned ["length","beat","by"] (spD K (clsOf ad) F_Q0Q 3))(z_range:mg "range"=none) :
  FnOk P w K mg base (CXe P w) 5 f fd ["length","beat"] (spD K (clsOf ad) F_Q0R 2):=by
 have nd:=sc_ways_of.nd
 refine Df.is cxe_ok ["length","beat","falls","ways","place","starts"] 4 b_Q0R d sc_ways_of rfl rfl rfl fun cdv A outer s H E hr=>?_
 exact(ss_cons (st_setG [0,1] (i:=2) (se_comp (fs:=["length","beat"]) (is:=[0,1]) (fe:=(Dv.eCall F_Q0Q (Dv.lCons (Dv.eVar 1) (Dv.lCons (Dv.eVar 2) (Dv.lCons (Dv.eVar 0) Dv.lNil))))) (fc:=(Dv.eBl true)) (comp_names (fsc:=defScope s_Q0R) (N:=["length","beat","falls","ways","place","starts"]) rfl rfl (by decide +kernel)) (si_range rfl z_range (se_var 0)) (fun cl L s₀ H₀ ex=>(se_fn d_Q0Q o_Q0Q hr (by decide) rfl (sl_cons (se_var 1) (sl_cons (se_var 2) (sl_cons (se_var 0) sl_nil))))) (fun cl L s₀ H₀ ex=>ts_nil)) nd rfl (Or.inr rfl)) (ss_cons (st_set (i:=3) (se_lst sl_nil) nd rfl (Or.inl rfl)) (ss_cons (st_for [] (i:=4) (si_range rfl z_range (se_var 0)) (ss_cons (st_setComp (i:=5) (fs:=["length","place"]) (is:=[0,4]) (fe:=(Dv.eOp .mod (Dv.eOp .sub (Dv.eVar 2) (Dv.eVar 0)) (Dv.eVar 1))) (fc:=(Dv.eBl true)) (comp_names (fsc:=defScope s_Q0R) (N:=["length","beat","falls","ways","place","starts"]) rfl rfl (by decide +kernel)) (si_list (se_var 1)) (fun cl L s₀ H₀ ex=>(se_mod (se_sub (se_var 2) (se_var 0)) (se_var 1))) (fun cl L s₀ H₀ ex=>ts_nil) nd rfl rfl) (ss_one (st_appG [2,5] (i:=3) (se_comp (fs:=["falls"]) (is:=[2]) (fe:=(Dv.eTup (Dv.lCons (Dv.eVar 0) (Dv.lCons (Dv.eIx (Dv.eVar 1) (Dv.eVar 0)) Dv.lNil)))) (fc:=(Dv.eBl true)) (comp_names (fsc:=defScope s_Q0R) (N:=["length","beat","falls","ways","place","starts"]) rfl rfl (by decide +kernel)) (si_list (se_var 5)) (fun cl L s₀ H₀ ex=>(se_tup (sl_cons (se_var 0) (sl_cons (se_ix (se_var 1) (se_var 0)) sl_nil)))) (fun cl L s₀ H₀ ex=>ts_nil))))) nd rfl (Or.inr rfl)) (ss_one (st_retO 3)))))
noncomputable abbrev s_Q05:Stmt:=top 21
theorem sc_count_divides:FnScope ["length","beat"] ["length","beat"] (defScope s_Q05):=⟨rfl,rfl,rfl,by decide +kernel,rfl,by decide +kernel,by decide +kernel⟩
theorem ok_Q05 {f:Addr}{fd:FuncData}(d:Df K mg "count_divides" s_Q05 ["length","beat"] f fd){f_Q02:Addr}{fd_check_beat:FuncData}(d_Q02:Df K mg "check_beat" s_Q02 ["length","beat"] f_Q02 fd_check_beat)(o_Q02:FnOk P w K mg base (CXe P w) 2 f_Q02 fd_check_beat ["length","beat"] (spD K (clsOf ad) F_Q02 2))(z_len:mg "len"=none) :
  FnOk P w K mg base (CXe P w) 3 f fd ["length","beat"] (spD K (clsOf ad) F_Q05 2):=by
 have nd:=sc_count_divides.nd
 refine Df.is cxe_ok ["length","beat"] 2 b_Q05 d sc_count_divides rfl rfl rfl fun cdv A outer s H E hr=>?_
 exact(ss_cons (st_expr (se_fn d_Q02 o_Q02 hr (by decide) rfl (sl_cons (se_var 0) (sl_cons (se_var 1) sl_nil)))) (ss_one (st_ret (se_eq (se_mod (se_var 0) (se_len z_len rfl (se_var 1))) se_int))))
noncomputable abbrev s_Q0D:Stmt:=top 25
theorem sc_law_cell:FnScope ["_law_script","_law_k","_law_number"] ["_law_script","_law_k"] (defScope s_Q0D):=⟨rfl,rfl,rfl,by decide +kernel,rfl,by decide +kernel,by decide +kernel⟩
theorem ok_Q0D {f:Addr}{fd:FuncData}(d:Df K mg "_law_cell" s_Q0D ["_law_script","_law_k"] f fd)(z_len:mg "len"=none) :
  FnOk P w K mg base (CXe P w) 1 f fd ["_law_script","_law_k"] (spD K (clsOf ad) F_Q0D 2):=by
 have nd:=sc_law_cell.nd
 refine Df.is cxe_ok ["_law_script","_law_k","_law_number"] 0 b_Q0D d sc_law_cell rfl rfl rfl fun cdv A outer s H E hr=>?_
 exact(ss_cons (st_if (sc_lt (se_var 1) (se_len z_len rfl (se_var 0))) (ss_one (st_ret (se_ix (se_var 0) (se_var 1)))) ss_nil) (ss_cons (st_set (i:=2) (se_add (se_mul se_int (se_var 1)) se_int) nd rfl (Or.inl rfl)) (ss_cons (st_if (sc_gt (se_len z_len rfl (se_var 0)) se_int) (ss_one (st_set (i:=2) (se_mod (se_add (se_mul (se_ix (se_var 0) (se_mod (se_var 1) (se_len z_len rfl (se_var 0)))) se_int) (se_mul (se_var 1) se_int)) se_int) nd rfl (Or.inl rfl))) ss_nil) (ss_one (st_ret (se_mod (se_mul (se_var 2) (se_var 2)) se_int))))))
noncomputable abbrev s_Q0M:Stmt:=top 26
theorem sc_law_whole:FnScope ["_law_found"] ["_law_found"] (defScope s_Q0M):=⟨rfl,rfl,rfl,by decide +kernel,rfl,by decide +kernel,by decide +kernel⟩
theorem ok_Q0M {f:Addr}{fd:FuncData}(d:Df K mg "_law_whole" s_Q0M ["_law_found"] f fd)(z_isinstance:mg "isinstance"=none)(z_int:mg "int"=none)(z_bool:mg "bool"=none) :
  FnOk P w K mg base (CXe P w) 1 f fd ["_law_found"] (spD K (clsOf ad) F_Q0M 1):=by
 have nd:=sc_law_whole.nd
 refine Df.is cxe_ok ["_law_found"] 0 b_Q0M d sc_law_whole rfl rfl rfl fun cdv A outer s H E hr=>?_
 exact(ss_one (st_ret (se_and (se_isInt z_isinstance z_int rfl rfl (se_var 0)) (se_one (se_not (se_isBool z_isinstance z_bool rfl rfl (se_var 0)))))))
noncomputable abbrev s_Q0A:Stmt:=top 27
theorem sc_law_beat_is:FnScope ["_law_found","_law_due","_law_one","_law_other"] ["_law_found","_law_due"] (defScope s_Q0A):=⟨rfl,rfl,rfl,by decide +kernel,rfl,by decide +kernel,by decide +kernel⟩
theorem ok_Q0A {f:Addr}{fd:FuncData}(d:Df K mg "_law_beat_is" s_Q0A ["_law_found","_law_due"] f fd){f_Q0M:Addr}{fd_law_whole:FuncData}(d_Q0M:Df K mg "_law_whole" s_Q0M ["_law_found"] f_Q0M fd_law_whole)(o_Q0M:FnOk P w K mg base (CXe P w) 1 f_Q0M fd_law_whole ["_law_found"] (spD K (clsOf ad) F_Q0M 1))(z_isinstance:mg "isinstance"=none)(z_list:mg "list"=none)(z_len:mg "len"=none)(z_zip:mg "zip"=none) :
  FnOk P w K mg base (CXe P w) 2 f fd ["_law_found","_law_due"] (spD K (clsOf ad) F_Q0A 2):=by
 have nd:=sc_law_beat_is.nd
 refine Df.is cxe_ok ["_law_found","_law_due","_law_one","_law_other"] 1 b_Q0A d sc_law_beat_is rfl rfl rfl fun cdv A outer s H E hr=>?_
 exact(ss_cons (st_if (sc_w (sw_or (sc_not (sc_val (se_isList z_isinstance z_list rfl rfl (se_var 0)))) (sw_one _ (sc_ne (se_len z_len rfl (se_var 0)) (se_len z_len rfl (se_var 1)))))) (ss_one (st_ret se_bl)) ss_nil) (ss_cons (st_forT [0,1] (si_zip rfl z_zip (se_var 0) (se_var 1)) (sg_tup (xs:=[2,3]) (gs_cons (i:=2) (gs_cons (i:=3) gs_nil nd rfl (Or.inl rfl)) nd rfl (Or.inl rfl)) rfl) (ss_one (st_if (sc_w (sw_or (sc_not (sc_val (se_fn d_Q0M o_Q0M hr (by decide) rfl (sl_cons (se_var 2) sl_nil)))) (sw_one _ (sc_ne (se_var 2) (se_var 3))))) (ss_one (st_ret se_bl)) ss_nil))) (ss_one (st_ret se_bl))))
noncomputable abbrev s_Q0K:Stmt:=top 28
theorem sc_law_some:FnScope ["_law_script","_law_start","_law_length","_law_bits","_law_share","_law_found","_law_place","_law_bit"] ["_law_script","_law_start","_law_length"] (defScope s_Q0K):=⟨rfl,rfl,rfl,by decide +kernel,rfl,by decide +kernel,by decide +kernel⟩
theorem ok_Q0K {f:Addr}{fd:FuncData}(d:Df K mg "_law_some" s_Q0K ["_law_script","_law_start","_law_length"] f fd){f_Q0D:Addr}{fd_law_cell:FuncData}(d_Q0D:Df K mg "_law_cell" s_Q0D ["_law_script","_law_k"] f_Q0D fd_law_cell)(o_Q0D:FnOk P w K mg base (CXe P w) 1 f_Q0D fd_law_cell ["_law_script","_law_k"] (spD K (clsOf ad) F_Q0D 2))(z_range:mg "range"=none)(z_max:mg "max"=none) :
  FnOk P w K mg base (CXe P w) 2 f fd ["_law_script","_law_start","_law_length"] (spD K (clsOf ad) F_Q0K 3):=by
 have nd:=sc_law_some.nd
 refine Df.is cxe_ok ["_law_script","_law_start","_law_length","_law_bits","_law_share","_law_found","_law_place","_law_bit"] 1 b_Q0K d sc_law_some rfl rfl rfl fun cdv A outer s H E hr=>?_
 exact(ss_cons (st_set (i:=3) (se_mod (se_mul (se_fn d_Q0D o_Q0D hr (by decide) rfl (sl_cons (se_var 0) (sl_cons (se_var 1) sl_nil))) se_int) se_int) nd rfl (Or.inl rfl)) (ss_cons (st_set (i:=4) (se_mod (se_fn d_Q0D o_Q0D hr (by decide) rfl (sl_cons (se_var 0) (sl_cons (se_add (se_var 1) se_int) sl_nil))) se_int) nd rfl (Or.inl rfl)) (ss_cons (st_set (i:=5) (se_lst sl_nil) nd rfl (Or.inl rfl)) (ss_cons (st_for [] (i:=6) (si_range rfl z_range (se_var 2)) (ss_cons (st_set (i:=7) (se_mod (se_shr (se_var 3) (se_var 6)) se_int) nd rfl (Or.inl rfl)) (ss_cons (st_if (sc_eq (se_var 4) se_int) (ss_one (st_set (i:=7) (se_mul (se_var 7) (se_mod (se_shr (se_var 3) (se_mod (se_add (se_var 6) se_int) se_int)) se_int)) nd rfl (Or.inl rfl))) ss_nil) (ss_cons (st_if (sc_eq (se_var 4) se_int) (ss_one (st_set (i:=7) (se_max2 z_max rfl (se_var 7) (se_mod (se_shr (se_var 3) (se_mod (se_add (se_var 6) se_int) se_int)) se_int)) nd rfl (Or.inl rfl))) ss_nil) (ss_one (st_if (sc_eq (se_var 7) se_int) (ss_one (st_app (i:=5) (se_var 6))) ss_nil))))) nd rfl (Or.inl rfl)) (ss_cons (st_if (sc_eq (se_var 5) (se_lst sl_nil)) (ss_one (st_app (i:=5) (se_mod (se_fdiv (se_fn d_Q0D o_Q0D hr (by decide) rfl (sl_cons (se_var 0) (sl_cons (se_add (se_var 1) se_int) sl_nil))) se_int) (se_var 2)))) ss_nil) (ss_one (st_retO 5)))))))
noncomputable abbrev s_Q0L:Stmt:=top 29
theorem sc_law_turned:FnScope ["_law_length","_law_beat","_law_by"] ["_law_length","_law_beat","_law_by"] (defScope s_Q0L):=⟨rfl,rfl,rfl,by decide +kernel,rfl,by decide +kernel,by decide +kernel⟩
theorem ok_Q0L {f:Addr}{fd:FuncData}(d:Df K mg "_law_turned" s_Q0L ["_law_length","_law_beat","_law_by"] f fd)(z_sorted:mg "sorted"=none) :
  FnOk P w K mg base (CXe P w) 1 f fd ["_law_length","_law_beat","_law_by"] (spD K (clsOf ad) F_Q0L 3):=by
 have nd:=sc_law_turned.nd
 refine Df.is cxe_ok ["_law_length","_law_beat","_law_by"] 0 b_Q0L d sc_law_turned rfl rfl rfl fun cdv A outer s H E hr=>?_
 exact(ss_one (st_ret (se_sorted z_sorted rfl (se_comp (fs:=["_law_length","_law_by"]) (is:=[0,2]) (fe:=(Dv.eOp .mod (Dv.eOp .add (Dv.eVar 0) (Dv.eVar 2)) (Dv.eVar 1))) (fc:=(Dv.eBl true)) (comp_names (fsc:=defScope s_Q0L) (N:=["_law_length","_law_beat","_law_by"]) rfl rfl (by decide +kernel)) (si_list (se_var 1)) (fun cl L s₀ H₀ ex=>(se_mod (se_add (se_var 0) (se_var 2)) (se_var 1))) (fun cl L s₀ H₀ ex=>ts_nil)))))
noncomputable abbrev s_Q08:Stmt:=top 30
theorem sc_law_again:FnScope ["_law_length","_law_beat","_law_times","_law_found","_law_k"] ["_law_length","_law_beat","_law_times"] (defScope s_Q08):=⟨rfl,rfl,rfl,by decide +kernel,rfl,by decide +kernel,by decide +kernel⟩
theorem ok_Q08 {f:Addr}{fd:FuncData}(d:Df K mg "_law_again" s_Q08 ["_law_length","_law_beat","_law_times"] f fd)(z_range:mg "range"=none) :
  FnOk P w K mg base (CXe P w) 1 f fd ["_law_length","_law_beat","_law_times"] (spD K (clsOf ad) F_Q08 3):=by
 have nd:=sc_law_again.nd
 refine Df.is cxe_ok ["_law_length","_law_beat","_law_times","_law_found","_law_k"] 0 b_Q08 d sc_law_again rfl rfl rfl fun cdv A outer s H E hr=>?_
 exact(ss_cons (st_set (i:=3) (se_lst sl_nil) nd rfl (Or.inl rfl)) (ss_cons (st_for [] (i:=4) (si_range rfl z_range (se_var 2)) (ss_one (st_set (i:=3) (se_add (se_var 3) (se_comp (fs:=["_law_k","_law_length"]) (is:=[4,0]) (fe:=(Dv.eOp .add (Dv.eVar 0) (Dv.eOp .mul (Dv.eVar 1) (Dv.eVar 2)))) (fc:=(Dv.eBl true)) (comp_names (fsc:=defScope s_Q08) (N:=["_law_length","_law_beat","_law_times","_law_found","_law_k"]) rfl rfl (by decide +kernel)) (si_list (se_var 1)) (fun cl L s₀ H₀ ex=>(se_add (se_var 0) (se_mul (se_var 1) (se_var 2)))) (fun cl L s₀ H₀ ex=>ts_nil))) nd rfl (Or.inl rfl))) nd rfl (Or.inr rfl)) (ss_one (st_retO 3))))
noncomputable abbrev s_Q0H:Stmt:=top 31
theorem sc_law_pair:FnScope ["_law_script","_law_start","_law_length","_law_one","_law_other","_law_k","_law_number","_law_times","_law_kind","_law_more","_law_j"] ["_law_script","_law_start"] (defScope s_Q0H):=⟨rfl,rfl,rfl,by decide +kernel,rfl,by decide +kernel,by decide +kernel⟩
theorem ok_Q0H {f:Addr}{fd:FuncData}(d:Df K mg "_law_pair" s_Q0H ["_law_script","_law_start"] f fd){f_Q0D:Addr}{fd_law_cell:FuncData}(d_Q0D:Df K mg "_law_cell" s_Q0D ["_law_script","_law_k"] f_Q0D fd_law_cell)(o_Q0D:FnOk P w K mg base (CXe P w) 1 f_Q0D fd_law_cell ["_law_script","_law_k"] (spD K (clsOf ad) F_Q0D 2)){f_Q08:Addr}{fd_law_again:FuncData}(d_Q08:Df K mg "_law_again" s_Q08 ["_law_length","_law_beat","_law_times"] f_Q08 fd_law_again)(o_Q08:FnOk P w K mg base (CXe P w) 1 f_Q08 fd_law_again ["_law_length","_law_beat","_law_times"] (spD K (clsOf ad) F_Q08 3)){f_Q0L:Addr}{fd_law_turned:FuncData}(d_Q0L:Df K mg "_law_turned" s_Q0L ["_law_length","_law_beat","_law_by"] f_Q0L fd_law_turned)(o_Q0L:FnOk P w K mg base (CXe P w) 1 f_Q0L fd_law_turned ["_law_length","_law_beat","_law_by"] (spD K (clsOf ad) F_Q0L 3))(z_range:mg "range"=none)(z_sorted:mg "sorted"=none) :
  FnOk P w K mg base (CXe P w) 2 f fd ["_law_script","_law_start"] (spD K (clsOf ad) F_Q0I 2):=by
 have nd:=sc_law_pair.nd
 refine Df.is cxe_ok ["_law_script","_law_start","_law_length","_law_one","_law_other","_law_k","_law_number","_law_times","_law_kind","_law_more","_law_j"] 1 b_Q0I d sc_law_pair rfl rfl rfl fun cdv A outer s H E hr=>?_
 exact(ss_cons (st_set (i:=2) se_int nd rfl (Or.inl rfl)) (ss_cons (st_set (i:=3) (se_lst (sl_cons se_int sl_nil)) nd rfl (Or.inl rfl)) (ss_cons (st_set (i:=4) (se_lst (sl_cons se_int sl_nil)) nd rfl (Or.inl rfl)) (ss_cons (st_for [] (i:=5) (si_range rfl z_range se_int) (ss_cons (st_set (i:=6) (se_mod (se_mul (se_fn d_Q0D o_Q0D hr (by decide) rfl (sl_cons (se_var 0) (sl_cons (se_add (se_var 1) (se_var 5)) sl_nil))) se_int) se_int) nd rfl (Or.inl rfl)) (ss_cons (st_set (i:=7) (se_ix (se_lst (sl_cons se_int (sl_cons se_int (sl_cons se_int (sl_cons se_int (sl_cons se_int (sl_cons se_int (sl_cons se_int sl_nil)))))))) (se_mod (se_var 6) se_int)) nd rfl (Or.inr rfl)) (ss_cons (st_set (i:=8) (se_mod (se_fdiv (se_var 6) se_int) se_int) nd rfl (Or.inl rfl)) (ss_cons (st_if (sc_le (se_mul (se_var 2) (se_var 7)) se_int) (ss_cons (st_if (sc_lt (se_var 8) se_int) (ss_one (st_set (i:=3) (se_fn d_Q08 o_Q08 hr (by decide) rfl (sl_cons (se_var 2) (sl_cons (se_var 3) (sl_cons (se_var 7) sl_nil)))) nd rfl (Or.inl rfl))) (ss_cons (st_set (i:=9) (se_lst sl_nil) nd rfl (Or.inl rfl)) (ss_cons (st_for [] (i:=10) (si_range rfl z_range (se_var 7)) (ss_one (st_set (i:=9) (se_add (se_var 9) (se_comp (fs:=["_law_j","_law_times"]) (is:=[10,7]) (fe:=(Dv.eOp .add (Dv.eOp .mul (Dv.eVar 0) (Dv.eVar 2)) (Dv.eVar 1))) (fc:=(Dv.eBl true)) (comp_names (fsc:=defScope s_Q0H) (N:=["_law_script","_law_start","_law_length","_law_one","_law_other","_law_k","_law_number","_law_times","_law_kind","_law_more","_law_j"]) rfl rfl (by decide +kernel)) (si_list (se_var 3)) (fun cl L s₀ H₀ ex=>(se_add (se_mul (se_var 0) (se_var 2)) (se_var 1))) (fun cl L s₀ H₀ ex=>ts_nil))) nd rfl (Or.inl rfl))) nd rfl (Or.inr rfl)) (ss_cons (st_set (i:=3) (se_sorted z_sorted rfl (se_var 9)) nd rfl (Or.inl rfl)) (ss_one (st_setComp (i:=4) (fs:=["_law_times"]) (is:=[7]) (fe:=(Dv.eOp .mul (Dv.eVar 0) (Dv.eVar 1))) (fc:=(Dv.eBl true)) (comp_names (fsc:=defScope s_Q0H) (N:=["_law_script","_law_start","_law_length","_law_one","_law_other","_law_k","_law_number","_law_times","_law_kind","_law_more","_law_j"]) rfl rfl (by decide +kernel)) (si_list (se_var 4)) (fun cl L s₀ H₀ ex=>(se_mul (se_var 0) (se_var 1))) (fun cl L s₀ H₀ ex=>ts_nil) nd rfl rfl)))))) (ss_one (st_set (i:=2) (se_mul (se_var 2) (se_var 7)) nd rfl (Or.inl rfl)))) ss_nil) (ss_one (st_if (sc_eq (se_mod (se_fdiv (se_var 6) se_int) se_int) se_int) (ss_one (st_par [3,4] (i:=3) (j:=4) (se_var 4) (se_var 3) nd rfl rfl (by decide) rfl rfl)) ss_nil)))))) nd rfl (Or.inl rfl)) (ss_cons (st_set (i:=3) (se_fn d_Q0L o_Q0L hr (by decide) rfl (sl_cons (se_var 2) (sl_cons (se_var 3) (sl_cons (se_mod (se_fn d_Q0D o_Q0D hr (by decide) rfl (sl_cons (se_var 0) (sl_cons (se_add (se_var 1) se_int) sl_nil))) (se_var 2)) sl_nil)))) nd rfl (Or.inl rfl)) (ss_one (st_ret (se_tup (sl_cons (se_var 2) (sl_cons (se_var 3) (sl_cons (se_fn d_Q0L o_Q0L hr (by decide) rfl (sl_cons (se_var 2) (sl_cons (se_var 4) (sl_cons (se_mod (se_fn d_Q0D o_Q0D hr (by decide) rfl (sl_cons (se_var 0) (sl_cons (se_add (se_var 1) se_int) sl_nil))) (se_var 2)) sl_nil)))) sl_nil)))))))))))
noncomputable abbrev s_Q0F:Stmt:=top 32
theorem sc_law_fills:FnScope ["_law_length","_law_beat","_law_starts","_law_counts","_law_start","_law_place","_law_at"] ["_law_length","_law_beat","_law_starts"] (defScope s_Q0F):=⟨rfl,rfl,rfl,by decide +kernel,rfl,by decide +kernel,by decide +kernel⟩
theorem ok_Q0F {f:Addr}{fd:FuncData}(d:Df K mg "_law_fills" s_Q0F ["_law_length","_law_beat","_law_starts"] f fd) :
  FnOk P w K mg base (CXe P w) 1 f fd ["_law_length","_law_beat","_law_starts"] (spD K (clsOf ad) F_Q0F 3):=by
 have nd:=sc_law_fills.nd
 refine Df.is cxe_ok ["_law_length","_law_beat","_law_starts","_law_counts","_law_start","_law_place","_law_at"] 0 b_Q0F d sc_law_fills rfl rfl rfl fun cdv A outer s H E hr=>?_
 exact(ss_cons (st_set (i:=3) (se_mul (se_lst (sl_cons se_int sl_nil)) (se_var 0)) nd rfl (Or.inl rfl)) (ss_cons (st_for [2] (i:=4) (si_list (se_var 2)) (ss_one (st_for [1] (i:=5) (si_list (se_var 1)) (ss_cons (st_set (i:=6) (se_mod (se_add (se_var 4) (se_var 5)) (se_var 0)) nd rfl (Or.inl rfl)) (ss_one (st_put (i:=3) (se_add (se_ix (se_var 3) (se_var 6)) se_int) (se_var 6)))) nd rfl (Or.inl rfl))) nd rfl (Or.inl rfl)) (ss_one (st_ret (se_eq (se_var 3) (se_mul (se_lst (sl_cons se_int sl_nil)) (se_var 0)))))))
noncomputable abbrev s_Q09:Stmt:=top 33
theorem sc_law_all:FnScope ["_law_length","_law_beat","_law_rows_here","_law_k","_law_longer","_law_row"] ["_law_length","_law_beat"] (defScope s_Q09):=⟨rfl,rfl,rfl,by decide +kernel,rfl,by decide +kernel,by decide +kernel⟩
theorem ok_Q09 {f:Addr}{fd:FuncData}(d:Df K mg "_law_all" s_Q09 ["_law_length","_law_beat"] f fd){f_Q0F:Addr}{fd_law_fills:FuncData}(d_Q0F:Df K mg "_law_fills" s_Q0F ["_law_length","_law_beat","_law_starts"] f_Q0F fd_law_fills)(o_Q0F:FnOk P w K mg base (CXe P w) 1 f_Q0F fd_law_fills ["_law_length","_law_beat","_law_starts"] (spD K (clsOf ad) F_Q0F 3))(z_len:mg "len"=none)(z_range:mg "range"=none) :
  FnOk P w K mg base (CXe P w) 2 f fd ["_law_length","_law_beat"] (spD K (clsOf ad) F_Q09 2):=by
 have nd:=sc_law_all.nd
 refine Df.is cxe_ok ["_law_length","_law_beat","_law_rows_here","_law_k","_law_longer","_law_row"] 1 b_Q09 d sc_law_all rfl rfl rfl fun cdv A outer s H E hr=>?_
 exact(ss_cons (st_if (sc_ne (se_mod (se_var 0) (se_len z_len rfl (se_var 1))) se_int) (ss_one (st_ret (se_lst sl_nil))) ss_nil) (ss_cons (st_setG [] (i:=2) (se_lst (sl_cons (se_lst (sl_cons se_int sl_nil)) sl_nil)) nd rfl (Or.inl rfl)) (ss_cons (st_for [1] (i:=3) (si_range rfl z_range (se_sub (se_fdiv (se_var 0) (se_len z_len rfl (se_var 1))) se_int)) (ss_cons (st_setG [] (i:=4) (se_lst sl_nil) nd rfl (Or.inl rfl)) (ss_cons (st_for [2] (i:=5) (si_list (se_var 2)) (ss_one (st_setG [0,4,5] (i:=4) (se_add (se_var 4) (se_comp (fs:=["_law_row"]) (is:=[5]) (fe:=(Dv.eOp .add (Dv.eVar 1) (Dv.eLst (Dv.lCons (Dv.eVar 0) Dv.lNil)))) (fc:=(Dv.eBl true)) (comp_names (fsc:=defScope s_Q09) (N:=["_law_length","_law_beat","_law_rows_here","_law_k","_law_longer","_law_row"]) rfl rfl (by decide +kernel)) (si_range2 rfl z_range (se_add (se_ix (se_var 5) (se_neg se_int)) se_int) (se_var 0)) (fun cl L s₀ H₀ ex=>(se_add (se_var 1) (se_lst (sl_cons (se_var 0) sl_nil)))) (fun cl L s₀ H₀ ex=>ts_nil))) nd rfl (Or.inl rfl))) nd rfl (Or.inr rfl)) (ss_one (st_setG [4] (i:=2) (se_var 4) nd rfl (Or.inl rfl))))) nd rfl (Or.inl rfl)) (ss_one (st_ret (se_comp (fs:=["_law_length","_law_beat"]) (is:=[0,1]) (fe:=(Dv.eVar 0)) (fc:=(Dv.eCall F_Q0F (Dv.lCons (Dv.eVar 1) (Dv.lCons (Dv.eVar 2) (Dv.lCons (Dv.eVar 0) Dv.lNil))))) (comp_names (fsc:=defScope s_Q09) (N:=["_law_length","_law_beat","_law_rows_here","_law_k","_law_longer","_law_row"]) rfl rfl (by decide +kernel)) (si_list (se_var 2)) (fun cl L s₀ H₀ ex=>(se_var 0)) (fun cl L s₀ H₀ ex=>(ts_one (sc_val (se_fn d_Q0F o_Q0F hr (by decide) rfl (sl_cons (se_var 1) (sl_cons (se_var 2) (sl_cons (se_var 0) sl_nil)))))))))))))
noncomputable abbrev s_Q0B:Stmt:=top 34
theorem sc_law_case:FnScope ["_law_script","_law_length","_law_beat","_law_starts","_law_kind","_law_place"] ["_law_script"] (defScope s_Q0B):=⟨rfl,rfl,rfl,by decide +kernel,rfl,by decide +kernel,by decide +kernel⟩
theorem ok_Q0B {f:Addr}{fd:FuncData}(d:Df K mg "_law_case" s_Q0B ["_law_script"] f fd){f_Q0H:Addr}{fd_law_pair:FuncData}(d_Q0H:Df K mg "_law_pair" s_Q0H ["_law_script","_law_start"] f_Q0H fd_law_pair)(o_Q0H:FnOk P w K mg base (CXe P w) 2 f_Q0H fd_law_pair ["_law_script","_law_start"] (spD K (clsOf ad) F_Q0I 2)){f_Q0D:Addr}{fd_law_cell:FuncData}(d_Q0D:Df K mg "_law_cell" s_Q0D ["_law_script","_law_k"] f_Q0D fd_law_cell)(o_Q0D:FnOk P w K mg base (CXe P w) 1 f_Q0D fd_law_cell ["_law_script","_law_k"] (spD K (clsOf ad) F_Q0D 2)){f_Q0K:Addr}{fd_law_some:FuncData}(d_Q0K:Df K mg "_law_some" s_Q0K ["_law_script","_law_start","_law_length"] f_Q0K fd_law_some)(o_Q0K:FnOk P w K mg base (CXe P w) 2 f_Q0K fd_law_some ["_law_script","_law_start","_law_length"] (spD K (clsOf ad) F_Q0K 3))(z_sorted:mg "sorted"=none) :
  FnOk P w K mg base (CXe P w) 3 f fd ["_law_script"] (spD K (clsOf ad) F_Q0C 1):=by
 have nd:=sc_law_case.nd
 refine Df.is cxe_ok ["_law_script","_law_length","_law_beat","_law_starts","_law_kind","_law_place"] 2 b_Q0C d sc_law_case rfl rfl rfl fun cdv A outer s H E hr=>?_
 exact(ss_cons (st_unpack [0] (xs:=[1,2,3]) (se_fn d_Q0H o_Q0H hr (by decide) rfl (sl_cons (se_var 0) (sl_cons se_int sl_nil))) (gs_cons (i:=1) (gs_cons (i:=2) (gs_cons (i:=3) gs_nil nd rfl (Or.inl rfl)) nd rfl (Or.inl rfl)) nd rfl (Or.inl rfl)) rfl) (ss_cons (st_set (i:=4) (se_mod (se_fn d_Q0D o_Q0D hr (by decide) rfl (sl_cons (se_var 0) (sl_cons se_int sl_nil))) se_int) nd rfl (Or.inl rfl)) (ss_cons (st_if (sc_eq (se_var 4) se_int) (ss_cons (st_set (i:=1) (se_add se_int (se_mod (se_fdiv (se_fn d_Q0D o_Q0D hr (by decide) rfl (sl_cons (se_var 0) (sl_cons se_int sl_nil))) se_int) se_int)) nd rfl (Or.inl rfl)) (ss_one (st_set (i:=2) (se_fn d_Q0K o_Q0K hr (by decide) rfl (sl_cons (se_var 0) (sl_cons se_int (sl_cons (se_var 1) sl_nil)))) nd rfl (Or.inl rfl)))) ss_nil) (ss_cons (st_if (sc_eq (se_var 4) se_int) (ss_cons (st_set (i:=5) (se_mod (se_fdiv (se_fn d_Q0D o_Q0D hr (by decide) rfl (sl_cons (se_var 0) (sl_cons se_int sl_nil))) se_int) (se_var 1)) nd rfl (Or.inl rfl)) (ss_one (st_if (sc_notin (se_var 5) (se_var 2)) (ss_one (st_set (i:=2) (se_sorted z_sorted rfl (se_add (se_slice (se_var 2) (so_some se_int) so_none) (se_lst (sl_cons (se_var 5) sl_nil)))) nd rfl (Or.inl rfl))) ss_nil))) ss_nil) (ss_one (st_ret (se_lst (sl_cons (se_var 1) (sl_cons (se_var 2) sl_nil)))))))))
noncomputable abbrev s_Q0J:Stmt:=top 35
theorem sc_law_rows:FnScope ["_law_found","_law_due","_law_row","_law_other"] ["_law_found","_law_due"] (defScope s_Q0J):=⟨rfl,rfl,rfl,by decide +kernel,rfl,by decide +kernel,by decide +kernel⟩
theorem ok_Q0J {f:Addr}{fd:FuncData}(d:Df K mg "_law_rows" s_Q0J ["_law_found","_law_due"] f fd){f_Q0A:Addr}{fd_law_beat_is:FuncData}(d_Q0A:Df K mg "_law_beat_is" s_Q0A ["_law_found","_law_due"] f_Q0A fd_law_beat_is)(o_Q0A:FnOk P w K mg base (CXe P w) 2 f_Q0A fd_law_beat_is ["_law_found","_law_due"] (spD K (clsOf ad) F_Q0A 2))(z_isinstance:mg "isinstance"=none)(z_list:mg "list"=none)(z_len:mg "len"=none)(z_zip:mg "zip"=none) :
  FnOk P w K mg base (CXe P w) 3 f fd ["_law_found","_law_due"] (spD K (clsOf ad) F_Q0J 2):=by
 have nd:=sc_law_rows.nd
 refine Df.is cxe_ok ["_law_found","_law_due","_law_row","_law_other"] 2 b_Q0J d sc_law_rows rfl rfl rfl fun cdv A outer s H E hr=>?_
 exact(ss_cons (st_if (sc_w (sw_or (sc_not (sc_val (se_isList z_isinstance z_list rfl rfl (se_var 0)))) (sw_one _ (sc_ne (se_len z_len rfl (se_var 0)) (se_len z_len rfl (se_var 1)))))) (ss_one (st_ret se_bl)) ss_nil) (ss_cons (st_forT [0,1] (si_zip rfl z_zip (se_var 0) (se_var 1)) (sg_tup (xs:=[2,3]) (gs_cons (i:=2) (gs_cons (i:=3) gs_nil nd rfl (Or.inl rfl)) nd rfl (Or.inl rfl)) rfl) (ss_one (st_if (sc_not (sc_val (se_fn d_Q0A o_Q0A hr (by decide) rfl (sl_cons (se_var 2) (sl_cons (se_var 3) sl_nil))))) (ss_one (st_ret se_bl)) ss_nil))) (ss_one (st_ret se_bl))))
noncomputable abbrev s_Case_init:Stmt:=L2.inClass (top 15) 0
noncomputable abbrev s_Walk_init:Stmt:=L2.inClass (top 16) 0
noncomputable abbrev s_Q06:Stmt:=L2.inClass (top 16) 1
noncomputable abbrev s_Q0S:Stmt:=L2.inClass (top 16) 2
theorem sc_Case_init:FnScope ["self","laid","answers","at"] ["self","laid","answers","at"] (defScope s_Case_init):=⟨rfl,rfl,rfl,by decide +kernel,rfl,by decide +kernel,by decide +kernel⟩
theorem sc_Walk_init:FnScope ["self","ways","laid"] ["self","ways","laid"] (defScope s_Walk_init):=⟨rfl,rfl,rfl,by decide +kernel,rfl,by decide +kernel,by decide +kernel⟩
theorem sc_go_on:FnScope ["self","case","filled"] ["self"] (defScope s_Q06):=⟨rfl,rfl,rfl,by decide +kernel,rfl,by decide +kernel,by decide +kernel⟩
theorem sc_write_row:FnScope ["self","laid","filled","least","answers","found","way","twice"] ["self","laid","filled"] (defScope s_Q0S):=⟨rfl,rfl,rfl,by decide +kernel,rfl,by decide +kernel,by decide +kernel⟩
theorem ok_Case_init {CW CC f:Addr}{fd:FuncData}(d:Mf K "__init__" "Case.__init__" s_Case_init ["self","laid","answers","at"] f fd)(T:WkT K CW CC):FnOk P w K mg base (CXe P w) 1 f fd ["self","laid","answers","at"] (spCI CC) :=
 d.okL ["self","laid","answers","at"] 0 sc_Case_init spCI_len fun cdv A outer s H vs Q E hr h=>⟨_,pss_cons (ps_fld (pv 0) (pv 1) rfl) (pss_cons (ps_fld (pv 0) (pv 2) rfl) (pss_one (ps_fld (pv 0) (pv 3) rfl))),ci_read T h⟩
theorem ok_Walk_init {CW CC f:Addr}{fd:FuncData}(d:Mf K "__init__" "Walk.__init__" s_Walk_init ["self","ways","laid"] f fd)(T:WkT K CW CC){fC:Addr}{fdC:FuncData}(dC:Mf K "__init__" "Case.__init__" s_Case_init ["self","laid","answers","at"] fC fdC)(oC:FnOk P w K mg base (CXe P w) 1 fC fdC ["self","laid","answers","at"] (spCI CC))(MC:Mk K CC fC)(aC:mg "Case"=some (.ref CC)):FnOk P w K mg base (CXe P w) 3 f fd ["self","ways","laid"] (spWI K CW CC) :=
 d.okL ["self","ways","laid"] 2 sc_Walk_init spWI_len fun cdv A outer s H vs Q E hr h=>⟨_,pss_cons (ps_fld (pv 0) (pv 1) rfl) (pss_cons (ps_fld (pv 0) (pe_lst (pa_cons (pe_make MC oC hr rfl aC dC.bd .nil passE (pa_cons (pv 2) (pa_cons (pe_lst (pa_cons pe_non pa_nil)) (pa_cons pe_int pa_nil)))) pa_nil)) rfl) (pss_cons (ps_fld (pv 0) (pe_lst pa_nil) rfl) (pss_one (ps_fld (pv 0) pe_int rfl)))),wi_read T h⟩
theorem ok_Q0S {CW CC f:Addr}{fd:FuncData}(d:Mf K "write_row" "Walk.write_row" s_Q0S ["self","laid","filled"] f fd)(T:WkT K CW CC){fC:Addr}{fdC:FuncData}(dC:Mf K "__init__" "Case.__init__" s_Case_init ["self","laid","answers","at"] fC fdC)(oC:FnOk P w K mg base (CXe P w) 1 fC fdC ["self","laid","answers","at"] (spCI CC))(MC:Mk K CC fC)(aC:mg "Case"=some (.ref CC))(z_min:mg "min"=none)(z_range:mg "range"=none)(z_len:mg "len"=none):FnOk P w K mg base (CXe P w) 3 f fd ["self","laid","filled"] (spWR K CW CC kW):=by
 have nd:=sc_write_row.nd
 refine d.okL ["self","laid","filled","least","answers","found","way","twice"] 2 sc_write_row spWR_len fun cdv A outer s H vs Q E hr h=>?_
 exact se_use (C:=ctxOf (cxe_ok (P:=P) (w:=w)) (clsOf (fun _=>none)) K mg base ["self","laid","filled","least","answers","found","way","twice"] "Walk.write_row" (defScope s_Q0S) f cdv A outer s H E hr) (se_minI z_min rfl (se_comp (fs:=["filled"]) (is:=[2]) (fe:=(Dv.eVar 0)) (fc:=(Dv.eDnin (Dv.eVar 0) (Dv.eVar 1))) (comp_names (fsc:=defScope s_Q0S) (N:=["self","laid","filled","least","answers","found","way","twice"]) rfl rfl (by decide +kernel)) (si_range rfl z_range (se_len z_len rfl (se_fld (se_var 0)))) (fun cl L s₀ H₀ ex=>(se_var 0)) (fun cl L s₀ H₀ ex=>(ts_one (sc_dnotin (se_var 0) (se_var 1)))))) fun tl pl ql=>se_use (C:=ctxOf (cxe_ok (P:=P) (w:=w)) (clsOf (fun _=>none)) K mg base ["self","laid","filled","least","answers","found","way","twice"] "Walk.write_row" (defScope s_Q0S) f cdv A outer s H E hr) (se_neg se_int) fun tn pn qn=>⟨_,pss_cons (ps_set (i:=3) nd rfl (Or.inl rfl) pl) (pss_cons (ps_set (i:=4) nd rfl (Or.inl rfl) (pe_lst pa_nil)) (pss_cons (ps_set (i:=5) nd rfl (Or.inl rfl) (pe_lst pa_nil)) (pss_cons (ps_for PassesOwn.leaving rfl (pi_list (pe_ix ix_list (pe_fld (pv 0) rfl) (pv 3) (fun _ _=>rfl))) (pg_name (i:=6) nd rfl (Or.inl rfl)) (pss_cons (ps_setComp (C:=ctxOf (cxe_ok (P:=P) (w:=w)) (clsOf (fun _=>none)) K mg base ["self","laid","filled","least","answers","found","way","twice"] "Walk.write_row" (defScope s_Q0S) f cdv A outer s H E hr) (i:=7) (fs:=["filled"]) (is:=[2]) (fe:=(Dv.eVar 0)) (fc:=(Dv.eB2 Dv.dinD (Dv.eVar 0) (Dv.eVar 1))) (comp_names (fsc:=defScope s_Q0S) (N:=["self","laid","filled","least","answers","found","way","twice"]) rfl rfl (by decide +kernel)) (si_list (se_ix (se_var 6) se_int)) (fun cl L s₀ H₀ ex=>(se_var 0)) (fun cl L s₀ H₀ ex=>(ts_one (sc_din (se_var 0) (se_var 1)))) nd rfl rfl rfl (fun _=>rfl) rfl) (pss_one (ps_if (pt_cmpR op_gt (pe_callB call_len_seq rfl z_len PySem.boot_len (pa_cons (pv 7) pa_nil)) pe_int (nomark _)) (pss_one (ps_expr (pe_bm PySem.F.plainAttrs_list PySem.F.slot_list_append PySem.F.type_list_append mt_append (pv 4) (pa_cons (pe_tup (pa_cons pe_str (pa_cons (pe_ix ix_list (pv 7) pe_int (fun _ _=>rfl)) pa_nil))) pa_nil)))) (pss_cons (ps_expr (pe_bm PySem.F.plainAttrs_list PySem.F.slot_list_append PySem.F.type_list_append mt_append (pv 5) (pa_cons (pe_make MC oC hr rfl aC dC.bd .nil passE (pa_cons (pe_op op_catX (pv 1) (pe_lst (pa_cons (pv 6) pa_nil))) (pa_cons (pv 4) (pa_cons (pe_callB call_len_seq rfl z_len PySem.boot_len (pa_cons (pv 4) pa_nil)) pa_nil)))) pa_nil))) (pss_one (ps_expr (pe_bm PySem.F.plainAttrs_list PySem.F.slot_list_append PySem.F.type_list_append mt_append (pv 4) (pa_cons pe_non pa_nil))))))))) (pss_cons (ps_expr (pe_bm PySem.F.plainAttrs_list PySem.F.slot_list_append PySem.F.type_list_append mt_append (pe_fld (pv 0) rfl) (pa_cons (pe_tup (pa_cons (pv 3) (pa_cons (pv 4) pa_nil))) pa_nil))) (pss_one (ps_expr (pe_bm PySem.F.plainAttrs_list PySem.F.slot_list_extend PySem.F.type_list_extend mt_extend (pe_fld (pv 0) rfl) (pa_cons (pe_rev (pv 5) (po_some pn)) pa_nil)))))))),wr_read (C:=ctxOf (cxe_ok (P:=P) (w:=w)) (clsOf (fun _=>none)) K mg base ["self","laid","filled","least","answers","found","way","twice"] "Walk.write_row" (defScope s_Q0S) f cdv A outer s H E hr) (k:=kW) T ql qn h⟩
theorem ok_Q06 {CW CC f:Addr}{fd:FuncData}(d:Mf K "go_on" "Walk.go_on" s_Q06 ["self"] f fd)(T:WkT K CW CC){fR:Addr}{fdR:FuncData}(dR:Mf K "write_row" "Walk.write_row" s_Q0S ["self","laid","filled"] fR fdR)(oR:FnOk P w K mg base (CXe P w) 3 fR fdR ["self","laid","filled"] (spWR K CW CC kW))(mR:Meth K CW "write_row" fR){f_Q0P:Addr}{fd_places_filled:FuncData}(d_Q0P:Df K mg "places_filled" s_Q0P ["laid"] f_Q0P fd_places_filled)(o_Q0P:FnOk P w K mg base (CXe P w) 1 f_Q0P fd_places_filled ["laid"] (spD K (clsOf ad) F_Q0P 1))(xa:XAll K mg ad){C_3:Addr}(h_2:ad "TooMany"=some C_3)(z_sorted:mg "sorted"=none)(z_len:mg "len"=none){t_MOST_CASES:Tok}(n_MOST_CASES:mg "MOST_CASES"=some (.int 2000 t_MOST_CASES)):FnOk P w K mg base (CXe P w) 4 f fd ["self"] (spGo K CW CC (clsOf ad) kW):=by
 have nd:=sc_go_on.nd
 refine d.okL ["self","case","filled"] 3 sc_go_on spGo_len fun cdv A outer s H vs Q E hr h=>?_
 exact se_use (C:=ctxOf (cxe_ok (P:=P) (w:=w)) (clsOf ad) K mg base ["self","case","filled"] "Walk.go_on" (defScope s_Q06) f cdv A outer s H E hr) (se_fn d_Q0P o_Q0P hr (by decide) rfl (sl_cons (se_fld (se_var 1)) sl_nil)) fun tp pp qp=>se_use (C:=ctxOf (cxe_ok (P:=P) (w:=w)) (clsOf ad) K mg base ["self","case","filled"] "Walk.go_on" (defScope s_Q06) f cdv A outer s H E hr) (se_sorted z_sorted rfl (se_compT (ts:=["start","places"]) (fs:=[]) (is:=[]) (fe:=(Dv.eVar 0)) (fc:=(Dv.eBl true)) (comp_namesT (fsc:=defScope s_Q06) (N:=["self","case","filled"]) rfl rfl (by decide +kernel)) (.cons (.cons .nil)) (fun _=>rfl) (fun _=>rfl) (si_list (se_fld (se_var 1))) (fun cl L s₀ H₀ ex=>(se_var 0)) (fun cl L s₀ H₀ ex=>ts_nil))) fun ts pz qs=>⟨_,pss_cons (ps_if (pt_cmpR op_eq (pe_fld (pv 0) rfl) (pe_glob (v:=.int 2000) rfl n_MOST_CASES ⟨_,rfl⟩) (nomark _)) (pss_one (ps_raise (xa.cl _ _ h_2).1 rfl (by decide) hr.hd)) pss_nil) (pss_cons (ps_fldaug (pv 0) pe_int in_add) (pss_cons (ps_set (i:=1) nd rfl (Or.inl rfl) (pe_bm0 PySem.F.plainAttrs_list PySem.F.slot_list_pop PySem.F.type_list_pop mt_pop (pe_fld (pv 0) rfl))) (pss_cons (ps_set (i:=2) nd rfl (Or.inl rfl) pp) (pss_cons (ps_if (pt_cmpR op_eq (pe_callB call_lenDr rfl z_len PySem.boot_len (pa_cons (pv 2) pa_nil)) (pe_callB call_len_seq rfl z_len PySem.boot_len (pa_cons (pe_fld (pv 0) rfl) pa_nil)) (nomark _)) (pss_one (ps_ret pz)) pss_nil) (pss_cons (ps_asg (pe_tup (pa_cons pe_str (pa_cons (pe_callB call_len_seq rfl z_len PySem.boot_len (pa_cons (pe_fld (pv 0) rfl) pa_nil)) pa_nil))) (pg_sub (pe_fld (pv 1) rfl) (pe_fld (pv 1) rfl) set_list)) (pss_cons (ps_expr (pe_meth (pv 0) T.clW mR oR (hr.mono (by decide)) dR.bd .nil passE (pa_cons (pe_fld (pv 1) rfl) (pa_cons (pv 2) pa_nil)))) (pss_one (ps_ret pe_non)))))))),go_read (C:=ctxOf (cxe_ok (P:=P) (w:=w)) (clsOf ad) K mg base ["self","case","filled"] "Walk.go_on" (defScope s_Q06) f cdv A outer s H E hr) (k:=kW) T (clsOf_eq h_2) qp qs h⟩
noncomputable abbrev s_Q01:Stmt:=top 19
theorem sc_all_that_fill:FnScope ["walk","fillings","found"] ["walk"] (defScope s_Q01):=⟨rfl,rfl,rfl,by decide +kernel,rfl,by decide +kernel,by decide +kernel⟩
theorem ok_Q01 {CW CC f:Addr}{fd:FuncData}(d:Df K mg "all_that_fill" s_Q01 ["walk"] f fd)(T:WkT K CW CC){fG:Addr}{fdG:FuncData}(dG:Mf K "go_on" "Walk.go_on" s_Q06 ["self"] fG fdG)(oG:FnOk P w K mg base (CXe P w) 4 fG fdG ["self"] (spGo K CW CC (clsOf ad) kW))(mG:Meth K CW "go_on" fG)(z_len:mg "len"=none):FnOk P w K mg base (CXe P w) 5 f fd ["walk"] (spAll K CW CC (clsOf ad) kW):=by
 have nd:=sc_all_that_fill.nd
 exact d.okL ["walk","fillings","found"] 4 sc_all_that_fill spAll_len fun cdv A outer s H vs Q E hr h=>⟨_,pss_cons (ps_set (i:=1) nd rfl (Or.inl rfl) (pe_lst pa_nil)) (pss_cons (ps_while PassesOwn.leaving (pt_cmpR op_gt (pe_callB call_len_seq rfl z_len PySem.boot_len (pa_cons (pe_fld (pv 0) rfl) pa_nil)) pe_int (nomark _)) (pss_cons (ps_set (i:=2) nd rfl (Or.inl rfl) (pe_meth0 (pv 0) T.clW mG oG (hr.mono (by decide)) dG.bd .nil passE)) (pss_one (ps_if (pt_cmp (pc_notN (pv 2))) (pss_one (ps_expr (pe_bm PySem.F.plainAttrs_list PySem.F.slot_list_append PySem.F.type_list_append mt_append (pv 1) (pa_cons (pv 2) pa_nil)))) pss_nil)))) (pss_one (ps_ret (pv 1)))),all_read T h⟩
noncomputable abbrev s_Q0O:Stmt:=top 20
theorem sc_partner_walk:FnScope ["length","beat"] ["length","beat"] (defScope s_Q0O):=⟨rfl,rfl,rfl,by decide +kernel,rfl,by decide +kernel,by decide +kernel⟩
theorem ok_Q0O {CW CC f:Addr}{fd:FuncData}(d:Df K mg "partner_walk" s_Q0O ["length","beat"] f fd){fW:Addr}{fdW:FuncData}(dW:Mf K "__init__" "Walk.__init__" s_Walk_init ["self","ways","laid"] fW fdW)(oW:FnOk P w K mg base (CXe P w) 3 fW fdW ["self","ways","laid"] (spWI K CW CC))(MW:Mk K CW fW)(aW:mg "Walk"=some (.ref CW)){f_Q0R:Addr}{fd_ways_of:FuncData}(d_Q0R:Df K mg "ways_of" s_Q0R ["length","beat"] f_Q0R fd_ways_of)(o_Q0R:FnOk P w K mg base (CXe P w) 5 f_Q0R fd_ways_of ["length","beat"] (spD K (clsOf ad) F_Q0R 2)):FnOk P w K mg base (CXe P w) 6 f fd ["length","beat"] (spPW K CW CC (clsOf ad) (Dv.pwR wk_w wk_l) 2):=by
 have nd:=sc_partner_walk.nd
 refine d.okL ["length","beat"] 5 sc_partner_walk spPW_len fun cdv A outer s H vs Q E hr h=>?_
 exact se_use (C:=ctxOf (cxe_ok (P:=P) (w:=w)) (clsOf ad) K mg base ["length","beat"] "partner_walk" (defScope s_Q0O) f cdv A outer s H E hr) (se_fn d_Q0R o_Q0R hr (by decide) rfl (sl_cons (se_var 0) (sl_cons (se_var 1) sl_nil))) fun tw pw qw=>se_use (C:=ctxOf (cxe_ok (P:=P) (w:=w)) (clsOf ad) K mg base ["length","beat"] "partner_walk" (defScope s_Q0O) f cdv A outer s H E hr) (se_lst (sl_cons (se_tup (sl_cons se_int (sl_cons (se_var 1) sl_nil))) sl_nil)) fun tl pl ql=>⟨_,pss_one (ps_ret (pe_make MW oW (hr.mono (by decide)) rfl aW dW.bd .nil passE (pa_cons pw (pa_cons pl pa_nil)))),pw_read (C:=ctxOf (cxe_ok (P:=P) (w:=w)) (clsOf ad) K mg base ["length","beat"] "partner_walk" (defScope s_Q0O) f cdv A outer s H E hr) (fun _=>rfl) qw ql h⟩
noncomputable abbrev s_Q00:Stmt:=top 23
theorem sc_all_partners:FnScope ["length","beat"] ["length","beat"] (defScope s_Q00):=⟨rfl,rfl,rfl,by decide +kernel,rfl,by decide +kernel,by decide +kernel⟩
theorem ok_Q00 {f:Addr}{fd:FuncData}(d:Df K mg "all_partners" s_Q00 ["length","beat"] f fd){CW CC:Addr}{f_Q05:Addr}{fd_count_divides:FuncData}(d_Q05:Df K mg "count_divides" s_Q05 ["length","beat"] f_Q05 fd_count_divides)(o_Q05:FnOk P w K mg base (CXe P w) 3 f_Q05 fd_count_divides ["length","beat"] (spD K (clsOf ad) F_Q05 2)){f_Q01:Addr}{fd_all_that_fill:FuncData}(d_Q01:Df K mg "all_that_fill" s_Q01 ["walk"] f_Q01 fd_all_that_fill)(o_Q01:FnOk P w K mg base (CXe P w) 5 f_Q01 fd_all_that_fill ["walk"] (spAll K CW CC (clsOf ad) kW)){f_Q0O:Addr}{fd_partner_walk:FuncData}(d_Q0O:Df K mg "partner_walk" s_Q0O ["length","beat"] f_Q0O fd_partner_walk)(o_Q0O:FnOk P w K mg base (CXe P w) 6 f_Q0O fd_partner_walk ["length","beat"] (spPW K CW CC (clsOf ad) (Dv.pwR wk_w wk_l) 2))(z_sorted:mg "sorted"=none) :
  FnOk P w K mg base (CXe P w) 7 f fd ["length","beat"] (spD K (clsOf ad) F_Q00 2):=by
 have nd:=sc_all_partners.nd
 refine Df.is cxe_ok ["length","beat"] 6 b_Q00 d sc_all_partners rfl rfl rfl fun cdv A outer s H E hr=>?_
 exact(ss_cons (st_if (sc_not (sc_val (se_fn d_Q05 o_Q05 hr (by decide) rfl (sl_cons (se_var 0) (sl_cons (se_var 1) sl_nil))))) (ss_one (st_ret (se_lst sl_nil))) ss_nil) (ss_one (st_ret (se_sortedL z_sorted rfl (se_allF d_Q01 o_Q01 d_Q0O o_Q0O hr (by decide) (by decide) rfl rfl (sl_cons (se_var 0) (sl_cons (se_var 1) sl_nil)))))))
noncomputable abbrev s_Q07:Stmt:=top 36
theorem sc_law:FnScope ["_law_script","_law_length","_law_beat","_law_due","_law_handed","_law_found","_law_row","_law_on"] ["_law_script"] (defScope s_Q07):=⟨rfl,rfl,rfl,by decide +kernel,rfl,by decide +kernel,by decide +kernel⟩
theorem ok_Q07 {f:Addr}{fd:FuncData}(d:Df K mg "law" s_Q07 ["_law_script"] f fd){f_Q0B:Addr}{fd_law_case:FuncData}(d_Q0B:Df K mg "_law_case" s_Q0B ["_law_script"] f_Q0B fd_law_case)(o_Q0B:FnOk P w K mg base (CXe P w) 3 f_Q0B fd_law_case ["_law_script"] (spD K (clsOf ad) F_Q0C 1)){f_Q09:Addr}{fd_law_all:FuncData}(d_Q09:Df K mg "_law_all" s_Q09 ["_law_length","_law_beat"] f_Q09 fd_law_all)(o_Q09:FnOk P w K mg base (CXe P w) 2 f_Q09 fd_law_all ["_law_length","_law_beat"] (spD K (clsOf ad) F_Q09 2)){f_Q00:Addr}{fd_all_partners:FuncData}(d_Q00:Df K mg "all_partners" s_Q00 ["length","beat"] f_Q00 fd_all_partners)(o_Q00:FnOk P w K mg base (CXe P w) 7 f_Q00 fd_all_partners ["length","beat"] (spD K (clsOf ad) F_Q00 2)){f_Q0J:Addr}{fd_law_rows:FuncData}(d_Q0J:Df K mg "_law_rows" s_Q0J ["_law_found","_law_due"] f_Q0J fd_law_rows)(o_Q0J:FnOk P w K mg base (CXe P w) 3 f_Q0J fd_law_rows ["_law_found","_law_due"] (spD K (clsOf ad) F_Q0J 2)){f_Q0L:Addr}{fd_law_turned:FuncData}(d_Q0L:Df K mg "_law_turned" s_Q0L ["_law_length","_law_beat","_law_by"] f_Q0L fd_law_turned)(o_Q0L:FnOk P w K mg base (CXe P w) 1 f_Q0L fd_law_turned ["_law_length","_law_beat","_law_by"] (spD K (clsOf ad) F_Q0L 3))(z_list:mg "list"=none) :
  FnOk P w K mg base (CXe P w) 8 f fd ["_law_script"] (spD K (clsOf ad) F_Q0G 1):=by
 have nd:=sc_law.nd
 refine Df.is cxe_ok ["_law_script","_law_length","_law_beat","_law_due","_law_handed","_law_found","_law_row","_law_on"] 7 b_Q0G d sc_law rfl rfl rfl fun cdv A outer s H E hr=>?_
 exact(ss_cons (st_unpackL [0] (xs:=[1,2]) (se_fn d_Q0B o_Q0B hr (by decide) rfl (sl_cons (se_var 0) sl_nil)) (gs_cons (i:=1) (gs_cons (i:=2) gs_nil nd rfl (Or.inl rfl)) nd rfl (Or.inl rfl)) rfl) (ss_cons (st_setG [1,2] (i:=3) (se_fn d_Q09 o_Q09 hr (by decide) rfl (sl_cons (se_var 1) (sl_cons (se_var 2) sl_nil))) nd rfl (Or.inl rfl)) (ss_cons (st_set (i:=4) (se_list z_list rfl (se_var 2)) nd rfl (Or.inl rfl)) (ss_cons (st_setD (i:=5) (se_fn d_Q00 o_Q00 hr (by decide) rfl (sl_cons (se_var 1) (sl_cons (se_var 4) sl_nil))) nd rfl (Or.inl rfl)) (ss_cons (st_if (sc_w (sw_or (sc_not (sc_val (se_fn d_Q0J o_Q0J hr (by decide) rfl (sl_cons (se_var 5) (sl_cons (se_var 3) sl_nil))))) (sw_one _ (sc_ne (se_var 4) (se_var 2))))) (ss_one (st_ret se_bl)) ss_nil) (ss_killRows (i:=5) (j:=6) (st_killAll (i:=5) (j:=6) nd rfl rfl (Or.inl rfl)) (st_appJ (i:=5) (se_lst (sl_cons se_int sl_nil))) rfl (ss_cons (st_set (i:=7) (se_fn d_Q0L o_Q0L hr (by decide) rfl (sl_cons (se_var 1) (sl_cons (se_var 2) (sl_cons se_int sl_nil)))) nd rfl (Or.inl rfl)) (ss_cons (st_if (sc_not (sc_val (se_fn d_Q0J o_Q0J hr (by decide) rfl (sl_cons (se_fn d_Q00 o_Q00 hr (by decide) rfl (sl_cons (se_var 1) (sl_cons (se_var 7) sl_nil))) (sl_cons (se_fn d_Q09 o_Q09 hr (by decide) rfl (sl_cons (se_var 1) (sl_cons (se_var 7) sl_nil))) sl_nil))))) (ss_one (st_ret se_bl)) ss_nil) (ss_one (st_ret (se_fn d_Q0J o_Q0J hr (by decide) rfl (sl_cons (se_fn d_Q00 o_Q00 hr (by decide) rfl (sl_cons (se_var 1) (sl_cons (se_var 4) sl_nil))) (sl_cons (se_var 3) sl_nil)))))))))))))
end
theorem len_0 {P:List Value->Prop}(h:P []):∀ us:List Value,us.length=0->P us:=fun us hl=>(List.eq_nil_of_length_eq_zero hl)▸h
theorem len_s {P:List Value->Prop}{k:Nat}(h:∀ a (us:List Value),us.length=k->P (a::us)):∀ us:List Value,us.length=k+1->P us:=by
 intro us hl
 cases us with
 | nil=>exact absurd hl (Nat.succ_ne_zero k).symm
 | cons a r=>exact h a r (Nat.succ.inj hl)
theorem len_1 {P:List Value->Prop}(h:∀ a0,P [a0]):∀ us:List Value,us.length=1->P us:=len_s (P:=P) fun a0=>len_0 (P:=fun us=>P (a0:: us)) (h a0)
theorem len_2 {P:List Value->Prop}(h:∀ a0 a1,P [a0,a1]):∀ us:List Value,us.length=2->P us:=len_s (P:=P) fun a0=>len_s (P:=fun us=>P (a0:: us)) fun a1=>len_0 (P:=fun us=>P (a0::a1:: us)) (h a0 a1)
theorem len_3 {P:List Value->Prop}(h:∀ a0 a1 a2,P [a0,a1,a2]):∀ us:List Value,us.length=3->P us:=len_s (P:=P) fun a0=>len_s (P:=fun us=>P (a0:: us)) fun a1=>len_s (P:=fun us=>P (a0::a1:: us)) fun a2=>len_0 (P:=fun us=>P (a0::a1::a2:: us)) (h a0 a1 a2)
theorem len_4 {P:List Value->Prop}(h:∀ a0 a1 a2 a3,P [a0,a1,a2,a3]):∀ us:List Value,us.length=4->P us:=len_s (P:=P) fun a0=>len_s (P:=fun us=>P (a0:: us)) fun a1=>len_s (P:=fun us=>P (a0::a1:: us)) fun a2=>len_s (P:=fun us=>P (a0::a1::a2:: us)) fun a3=>len_0 (P:=fun us=>P (a0::a1::a2::a3:: us)) (h a0 a1 a2 a3)
theorem len_5 {P:List Value->Prop}(h:∀ a0 a1 a2 a3 a4,P [a0,a1,a2,a3,a4]):∀ us:List Value,us.length=5->P us:=len_s (P:=P) fun a0=>len_s (P:=fun us=>P (a0:: us)) fun a1=>len_s (P:=fun us=>P (a0::a1:: us)) fun a2=>len_s (P:=fun us=>P (a0::a1::a2:: us)) fun a3=>len_s (P:=fun us=>P (a0::a1::a2::a3:: us)) fun a4=>len_0 (P:=fun us=>P (a0::a1::a2::a3::a4:: us)) (h a0 a1 a2 a3 a4)
theorem len_6 {P:List Value->Prop}(h:∀ a0 a1 a2 a3 a4 a5,P [a0,a1,a2,a3,a4,a5]):∀ us:List Value,us.length=6->P us:=len_s (P:=P) fun a0=>len_s (P:=fun us=>P (a0:: us)) fun a1=>len_s (P:=fun us=>P (a0::a1:: us)) fun a2=>len_s (P:=fun us=>P (a0::a1::a2:: us)) fun a3=>len_s (P:=fun us=>P (a0::a1::a2::a3:: us)) fun a4=>len_s (P:=fun us=>P (a0::a1::a2::a3::a4:: us)) fun a5=>len_0 (P:=fun us=>P (a0::a1::a2::a3::a4::a5:: us)) (h a0 a1 a2 a3 a4 a5)
noncomputable abbrev adA (a0 a1 a2 a3:Addr):=adOf [("WheelError",a0),("NoWheel",a1),("NoBeat",a2),("TooMany",a3)]
abbrev hA (K:PySem.W.Frag)(n:Str)(f:Addr):Prop:=PySem.W.nsIn K mainGlobals n=some (some (.ref f))
abbrev hL (K:PySem.W.Frag)(n:Str)(s:Stmt)(f:Addr)(oc:Value)(od:Option Addr)(kV dc pm:Value)(an:Option Addr)(cd ct:Value)(sl:Array (Option Value)):Prop:=K.lookup f=some ⟨oc,od,.func (PySem.W.fnOf n n (defArgs s) (defBody s) (defScope s) .none kV dc pm an cd ct),sl⟩
abbrev hC (K:PySem.W.Frag)(c:Value)(n:Str):Prop:=PySem.W.codeIn K c n=true
abbrev hK (K:PySem.W.Frag)(f:Addr):Prop:=PySem.W.keepIn K (.ref f)=true
abbrev hS (K:PySem.W.Frag)(a b:Addr)(v:Bool):Prop:=PySem.W.kitOne K (.ref a) (.ref b)=some v
theorem all_mk {l:PySem.W.OpenLaw}{w:World}{K:PySem.W.Frag}{h:Heap}{mg:Str->Option Value}{fa:Addr}(X:K.In h)(G:h.Ns mainGlobals mg)(hfa:mg "law"=some (.ref fa))
    {f_Q04 f_Q03 f_Q02 f_Q0N T_turned f_Q0Q f_Q0P f_Q0R f_Q05 f_Q0D f_Q0M f_Q0A f_Q0K f_Q0L f_Q08 f_Q0H f_Q0F f_Q09 f_Q0B f_Q0J f_Q01 f_Q0O f_Q00 f_Q07 C_4 C_0 f_Case_init f_Walk_init f_Q0S f_Q06 C_5 e3_3 C_2 e3_1 C_1 e3_0 C_3 e3_2:Addr}{od_Q04 an_Q04 od_Q03 an_Q03 od_Q02 an_Q02 od_Q0N an_Q0N tod_turned od_Q0Q an_Q0Q od_Q0P an_Q0P od_Q0R an_Q0R od_Q05 an_Q05 od_Q0D an_Q0D od_Q0M an_Q0M od_Q0A an_Q0A od_Q0K an_Q0K od_Q0L an_Q0L od_Q08 an_Q08 od_Q0H an_Q0H od_Q0F an_Q0F od_Q09 an_Q09 od_Q0B an_Q0B od_Q0J an_Q0J od_Q01 an_Q01 od_Q0O an_Q0O od_Q00 an_Q00 od_Q07 an_Q07 od_Case_init an_Case_init od_Walk_init an_Walk_init od_Q0S an_Q0S od_Q06 an_Q06 eB_3 eB_1 eB_0 eB_2:Option Addr}{sl_Q04 sl_Q03 sl_Q02 sl_Q0N tsl_turned sl_Q0Q sl_Q0P sl_Q0R sl_Q05 sl_Q0D sl_Q0M sl_Q0A sl_Q0K sl_Q0L sl_Q08 sl_Q0H sl_Q0F sl_Q09 sl_Q0B sl_Q0J sl_Q01 sl_Q0O sl_Q00 sl_Q07 sl_Case_init sl_Walk_init sl_Q0S sl_Q06:Array (Option Value)}{oc_Q04 kV_Q04 dc_Q04 pm_Q04 cd_Q04 ct_Q04 oc_Q03 kV_Q03 dc_Q03 pm_Q03 cd_Q03 ct_Q03 oc_Q02 kV_Q02 dc_Q02 pm_Q02 cd_Q02 ct_Q02 oc_Q0N kV_Q0N dc_Q0N pm_Q0N cd_Q0N ct_Q0N toc_turned oc_Q0Q kV_Q0Q dc_Q0Q pm_Q0Q cd_Q0Q ct_Q0Q oc_Q0P kV_Q0P dc_Q0P pm_Q0P cd_Q0P ct_Q0P oc_Q0R kV_Q0R dc_Q0R pm_Q0R cd_Q0R ct_Q0R oc_Q05 kV_Q05 dc_Q05 pm_Q05 cd_Q05 ct_Q05 oc_Q0D kV_Q0D dc_Q0D pm_Q0D cd_Q0D ct_Q0D oc_Q0M kV_Q0M dc_Q0M pm_Q0M cd_Q0M ct_Q0M oc_Q0A kV_Q0A dc_Q0A pm_Q0A cd_Q0A ct_Q0A oc_Q0K kV_Q0K dc_Q0K pm_Q0K cd_Q0K ct_Q0K oc_Q0L kV_Q0L dc_Q0L pm_Q0L cd_Q0L ct_Q0L oc_Q08 kV_Q08 dc_Q08 pm_Q08 cd_Q08 ct_Q08 oc_Q0H kV_Q0H dc_Q0H pm_Q0H cd_Q0H ct_Q0H oc_Q0F kV_Q0F dc_Q0F pm_Q0F cd_Q0F ct_Q0F oc_Q09 kV_Q09 dc_Q09 pm_Q09 cd_Q09 ct_Q09 oc_Q0B kV_Q0B dc_Q0B pm_Q0B cd_Q0B ct_Q0B oc_Q0J kV_Q0J dc_Q0J pm_Q0J cd_Q0J ct_Q0J oc_Q01 kV_Q01 dc_Q01 pm_Q01 cd_Q01 ct_Q01 oc_Q0O kV_Q0O dc_Q0O pm_Q0O cd_Q0O ct_Q0O oc_Q00 kV_Q00 dc_Q00 pm_Q00 cd_Q00 ct_Q00 oc_Q07 kV_Q07 dc_Q07 pm_Q07 cd_Q07 ct_Q07 oc_Case_init kV_Case_init dc_Case_init pm_Case_init cd_Case_init ct_Case_init oc_Walk_init kV_Walk_init dc_Walk_init pm_Walk_init cd_Walk_init ct_Walk_init oc_Q0S kV_Q0S dc_Q0S pm_Q0S cd_Q0S ct_Q0S oc_Q06 kV_Q06 dc_Q06 pm_Q06 cd_Q06 ct_Q06:Value}{tn_turned:Nat}{tt0_turned t_LONGEST t_MOST_CASES:Tok}{e1_3 e2_3 e1_1 e2_1 e1_0 e2_0 e1_2 e2_2:Str}{e4_3 e5_3 e8_3 e4_1 e5_1 e8_1 e4_0 e5_0 e8_0 e4_2 e5_2 e8_2:List Value}{e6_3 e9_3 e6_1 e9_1 e6_0 e9_0 e6_2 e9_2:Bool}{e7_3 e7_1 e7_0 e7_2:List Str}{eA_3 eA_1 eA_0 eA_2:Option Bool}{eC_3 eD_3 eE_3 eF_3 eG_3 eC_1 eD_1 eE_1 eF_1 eG_1 eC_0 eD_0 eE_0 eF_0 eG_0 eC_2 eD_2 eE_2 eF_2 eG_2:Option Value}
    (a_Q04:hA K "check_wheel" f_Q04) (l_Q04:hL K "check_wheel" s_Q04 f_Q04 oc_Q04 od_Q04 kV_Q04 dc_Q04 pm_Q04 an_Q04 cd_Q04 ct_Q04 sl_Q04) (c_Q04:hC K cd_Q04 "check_wheel") (k_Q04:hK K f_Q04)
    (a_Q03:hA K "check_rising" f_Q03) (l_Q03:hL K "check_rising" s_Q03 f_Q03 oc_Q03 od_Q03 kV_Q03 dc_Q03 pm_Q03 an_Q03 cd_Q03 ct_Q03 sl_Q03) (c_Q03:hC K cd_Q03 "check_rising") (k_Q03:hK K f_Q03)
    (a_Q02:hA K "check_beat" f_Q02) (l_Q02:hL K "check_beat" s_Q02 f_Q02 oc_Q02 od_Q02 kV_Q02 dc_Q02 pm_Q02 an_Q02 cd_Q02 ct_Q02 sl_Q02) (c_Q02:hC K cd_Q02 "check_beat") (k_Q02:hK K f_Q02)
    (a_Q0N:hA K "made_beat" f_Q0N) (l_Q0N:hL K "made_beat" s_Q0N f_Q0N oc_Q0N od_Q0N kV_Q0N dc_Q0N pm_Q0N an_Q0N cd_Q0N ct_Q0N sl_Q0N) (c_Q0N:hC K cd_Q0N "made_beat") (k_Q0N:hK K f_Q0N)
    (a_Q0Q:hA K "turned" f_Q0Q) (l_Q0Q:K.lookup f_Q0Q=some ⟨oc_Q0Q,od_Q0Q,.func (PySem.W.fnOf "turned" "turned" (defArgs s_Q0Q) (defBody s_Q0Q) (defScope s_Q0Q) (.ref T_turned) kV_Q0Q dc_Q0Q pm_Q0Q an_Q0Q cd_Q0Q ct_Q0Q),sl_Q0Q⟩) (c_Q0Q:hC K cd_Q0Q "turned") (k_Q0Q:hK K f_Q0Q)
    (t_turned:K.lookup T_turned=some ⟨toc_turned,tod_turned,.seq #[.int 1 tt0_turned] tn_turned,tsl_turned⟩) (a_Q0P:hA K "places_filled" f_Q0P) (l_Q0P:hL K "places_filled" s_Q0P f_Q0P oc_Q0P od_Q0P kV_Q0P dc_Q0P pm_Q0P an_Q0P cd_Q0P ct_Q0P sl_Q0P) (c_Q0P:hC K cd_Q0P "places_filled") (k_Q0P:hK K f_Q0P)
    (a_Q0R:hA K "ways_of" f_Q0R) (l_Q0R:hL K "ways_of" s_Q0R f_Q0R oc_Q0R od_Q0R kV_Q0R dc_Q0R pm_Q0R an_Q0R cd_Q0R ct_Q0R sl_Q0R) (c_Q0R:hC K cd_Q0R "ways_of") (k_Q0R:hK K f_Q0R)
    (a_Q05:hA K "count_divides" f_Q05) (l_Q05:hL K "count_divides" s_Q05 f_Q05 oc_Q05 od_Q05 kV_Q05 dc_Q05 pm_Q05 an_Q05 cd_Q05 ct_Q05 sl_Q05) (c_Q05:hC K cd_Q05 "count_divides") (k_Q05:hK K f_Q05)
    (a_Q0D:hA K "_law_cell" f_Q0D) (l_Q0D:hL K "_law_cell" s_Q0D f_Q0D oc_Q0D od_Q0D kV_Q0D dc_Q0D pm_Q0D an_Q0D cd_Q0D ct_Q0D sl_Q0D) (c_Q0D:hC K cd_Q0D "_law_cell") (k_Q0D:hK K f_Q0D)
    (a_Q0M:hA K "_law_whole" f_Q0M) (l_Q0M:hL K "_law_whole" s_Q0M f_Q0M oc_Q0M od_Q0M kV_Q0M dc_Q0M pm_Q0M an_Q0M cd_Q0M ct_Q0M sl_Q0M) (c_Q0M:hC K cd_Q0M "_law_whole") (k_Q0M:hK K f_Q0M)
    (a_Q0A:hA K "_law_beat_is" f_Q0A) (l_Q0A:hL K "_law_beat_is" s_Q0A f_Q0A oc_Q0A od_Q0A kV_Q0A dc_Q0A pm_Q0A an_Q0A cd_Q0A ct_Q0A sl_Q0A) (c_Q0A:hC K cd_Q0A "_law_beat_is") (k_Q0A:hK K f_Q0A)
    (a_Q0K:hA K "_law_some" f_Q0K) (l_Q0K:hL K "_law_some" s_Q0K f_Q0K oc_Q0K od_Q0K kV_Q0K dc_Q0K pm_Q0K an_Q0K cd_Q0K ct_Q0K sl_Q0K) (c_Q0K:hC K cd_Q0K "_law_some") (k_Q0K:hK K f_Q0K)
    (a_Q0L:hA K "_law_turned" f_Q0L) (l_Q0L:hL K "_law_turned" s_Q0L f_Q0L oc_Q0L od_Q0L kV_Q0L dc_Q0L pm_Q0L an_Q0L cd_Q0L ct_Q0L sl_Q0L) (c_Q0L:hC K cd_Q0L "_law_turned") (k_Q0L:hK K f_Q0L)
    (a_Q08:hA K "_law_again" f_Q08) (l_Q08:hL K "_law_again" s_Q08 f_Q08 oc_Q08 od_Q08 kV_Q08 dc_Q08 pm_Q08 an_Q08 cd_Q08 ct_Q08 sl_Q08) (c_Q08:hC K cd_Q08 "_law_again") (k_Q08:hK K f_Q08)
    (a_Q0H:hA K "_law_pair" f_Q0H) (l_Q0H:hL K "_law_pair" s_Q0H f_Q0H oc_Q0H od_Q0H kV_Q0H dc_Q0H pm_Q0H an_Q0H cd_Q0H ct_Q0H sl_Q0H) (c_Q0H:hC K cd_Q0H "_law_pair") (k_Q0H:hK K f_Q0H)
    (a_Q0F:hA K "_law_fills" f_Q0F) (l_Q0F:hL K "_law_fills" s_Q0F f_Q0F oc_Q0F od_Q0F kV_Q0F dc_Q0F pm_Q0F an_Q0F cd_Q0F ct_Q0F sl_Q0F) (c_Q0F:hC K cd_Q0F "_law_fills") (k_Q0F:hK K f_Q0F)
    (a_Q09:hA K "_law_all" f_Q09) (l_Q09:hL K "_law_all" s_Q09 f_Q09 oc_Q09 od_Q09 kV_Q09 dc_Q09 pm_Q09 an_Q09 cd_Q09 ct_Q09 sl_Q09) (c_Q09:hC K cd_Q09 "_law_all") (k_Q09:hK K f_Q09)
    (a_Q0B:hA K "_law_case" f_Q0B) (l_Q0B:hL K "_law_case" s_Q0B f_Q0B oc_Q0B od_Q0B kV_Q0B dc_Q0B pm_Q0B an_Q0B cd_Q0B ct_Q0B sl_Q0B) (c_Q0B:hC K cd_Q0B "_law_case") (k_Q0B:hK K f_Q0B)
    (a_Q0J:hA K "_law_rows" f_Q0J) (l_Q0J:hL K "_law_rows" s_Q0J f_Q0J oc_Q0J od_Q0J kV_Q0J dc_Q0J pm_Q0J an_Q0J cd_Q0J ct_Q0J sl_Q0J) (c_Q0J:hC K cd_Q0J "_law_rows") (k_Q0J:hK K f_Q0J)
    (a_Q01:hA K "all_that_fill" f_Q01) (l_Q01:hL K "all_that_fill" s_Q01 f_Q01 oc_Q01 od_Q01 kV_Q01 dc_Q01 pm_Q01 an_Q01 cd_Q01 ct_Q01 sl_Q01) (c_Q01:hC K cd_Q01 "all_that_fill") (k_Q01:hK K f_Q01)
    (a_Q0O:hA K "partner_walk" f_Q0O) (l_Q0O:hL K "partner_walk" s_Q0O f_Q0O oc_Q0O od_Q0O kV_Q0O dc_Q0O pm_Q0O an_Q0O cd_Q0O ct_Q0O sl_Q0O) (c_Q0O:hC K cd_Q0O "partner_walk") (k_Q0O:hK K f_Q0O)
    (a_Q00:hA K "all_partners" f_Q00) (l_Q00:hL K "all_partners" s_Q00 f_Q00 oc_Q00 od_Q00 kV_Q00 dc_Q00 pm_Q00 an_Q00 cd_Q00 ct_Q00 sl_Q00) (c_Q00:hC K cd_Q00 "all_partners") (k_Q00:hK K f_Q00)
    (a_Q07:hA K "law" f_Q07) (l_Q07:hL K "law" s_Q07 f_Q07 oc_Q07 od_Q07 kV_Q07 dc_Q07 pm_Q07 an_Q07 cd_Q07 ct_Q07 sl_Q07) (c_Q07:hC K cd_Q07 "law") (k_Q07:hK K f_Q07)
    (z_len:PySem.W.nsIn K mainGlobals "len"=some none) (z_sorted:PySem.W.nsIn K mainGlobals "sorted"=some none) (z_range:PySem.W.nsIn K mainGlobals "range"=some none) (z_isinstance:PySem.W.nsIn K mainGlobals "isinstance"=some none) (z_int:PySem.W.nsIn K mainGlobals "int"=some none) (z_bool:PySem.W.nsIn K mainGlobals "bool"=some none) (z_list:PySem.W.nsIn K mainGlobals "list"=some none) (z_zip:PySem.W.nsIn K mainGlobals "zip"=some none) (z_max:PySem.W.nsIn K mainGlobals "max"=some none) (z_min:PySem.W.nsIn K mainGlobals "min"=some none) (n_LONGEST:PySem.W.nsIn K mainGlobals "LONGEST"=some (some (.int 60 t_LONGEST))) (n_MOST_CASES:PySem.W.nsIn K mainGlobals "MOST_CASES"=some (some (.int 2000 t_MOST_CASES)))
   (a_Walk:hA K "Walk" C_4) (pg_Walk:PySem.W.plainGet K C_4 Str.empty=true) (hd_Walk:PySem.W.hasDictIn K C_4=true) (po_Walk:PySem.W.plainOver K C_4=true) (sa_Walk:PySem.W.findIn K (.ref C_4) "__setattr__"=some (some (.builtin "object.__setattr__"))) (mk_Walk:PySem.W.makesIn K C_4=true) (kc_Walk:PySem.W.keepIn K (.ref C_4)=true) (na_Walk_ways:PySem.W.findIn K (.ref C_4) "ways"=some none) (na_Walk_waiting:PySem.W.findIn K (.ref C_4) "waiting"=some none) (na_Walk_rows:PySem.W.findIn K (.ref C_4) "rows"=some none) (na_Walk_gone:PySem.W.findIn K (.ref C_4) "gone"=some none)
   (a_Case:hA K "Case" C_0) (pg_Case:PySem.W.plainGet K C_0 Str.empty=true) (hd_Case:PySem.W.hasDictIn K C_0=true) (po_Case:PySem.W.plainOver K C_0=true) (sa_Case:PySem.W.findIn K (.ref C_0) "__setattr__"=some (some (.builtin "object.__setattr__"))) (mk_Case:PySem.W.makesIn K C_0=true) (kc_Case:PySem.W.keepIn K (.ref C_0)=true) (na_Case_laid:PySem.W.findIn K (.ref C_0) "laid"=some none) (na_Case_answers:PySem.W.findIn K (.ref C_0) "answers"=some none) (na_Case_at:PySem.W.findIn K (.ref C_0) "at"=some none)
   (a_Case_init:PySem.W.findIn K (.ref C_0) "__init__"=some (some (.ref f_Case_init))) (i_Case_init:PySem.W.isFn K (.ref f_Case_init)=true) (l_Case_init:K.lookup f_Case_init=some ⟨oc_Case_init,od_Case_init,.func (PySem.W.fnOf "__init__" "Case.__init__" (defArgs s_Case_init) (defBody s_Case_init) (defScope s_Case_init) .none kV_Case_init dc_Case_init pm_Case_init an_Case_init cd_Case_init ct_Case_init),sl_Case_init⟩) (c_Case_init:hC K cd_Case_init "Case.__init__") (k_Case_init:hK K f_Case_init)
   (a_Walk_init:PySem.W.findIn K (.ref C_4) "__init__"=some (some (.ref f_Walk_init))) (i_Walk_init:PySem.W.isFn K (.ref f_Walk_init)=true) (l_Walk_init:K.lookup f_Walk_init=some ⟨oc_Walk_init,od_Walk_init,.func (PySem.W.fnOf "__init__" "Walk.__init__" (defArgs s_Walk_init) (defBody s_Walk_init) (defScope s_Walk_init) .none kV_Walk_init dc_Walk_init pm_Walk_init an_Walk_init cd_Walk_init ct_Walk_init),sl_Walk_init⟩) (c_Walk_init:hC K cd_Walk_init "Walk.__init__") (k_Walk_init:hK K f_Walk_init)
   (a_Q0S:PySem.W.findIn K (.ref C_4) "write_row"=some (some (.ref f_Q0S))) (i_write_row:PySem.W.isFn K (.ref f_Q0S)=true) (l_Q0S:K.lookup f_Q0S=some ⟨oc_Q0S,od_Q0S,.func (PySem.W.fnOf "write_row" "Walk.write_row" (defArgs s_Q0S) (defBody s_Q0S) (defScope s_Q0S) .none kV_Q0S dc_Q0S pm_Q0S an_Q0S cd_Q0S ct_Q0S),sl_Q0S⟩) (c_Q0S:hC K cd_Q0S "Walk.write_row") (k_Q0S:hK K f_Q0S)
   (a_Q06:PySem.W.findIn K (.ref C_4) "go_on"=some (some (.ref f_Q06))) (i_go_on:PySem.W.isFn K (.ref f_Q06)=true) (l_Q06:K.lookup f_Q06=some ⟨oc_Q06,od_Q06,.func (PySem.W.fnOf "go_on" "Walk.go_on" (defArgs s_Q06) (defBody s_Q06) (defScope s_Q06) .none kV_Q06 dc_Q06 pm_Q06 an_Q06 cd_Q06 ct_Q06),sl_Q06⟩) (c_Q06:hC K cd_Q06 "Walk.go_on") (k_Q06:hK K f_Q06)
   (a_3:hA K "WheelError" C_5) (x_3:PySem.W.excIn K C_5 [.type "ValueError",.type "Exception",.type "BaseException",.type "object"] "ValueError.__new__"=true) (g1_3:PySem.W.findIn K (.ref C_5) "__getattribute__"=some (some (.builtin "BaseException.__getattribute__"))) (g2_3:PySem.W.findIn K (.ref C_5) "__getattr__"=some none) (g3_3:PySem.W.findIn K (.ref C_5) "__class__"=some (some (.builtin "object.__class__"))) (v_3:PySem.W.kitOne K (.ref C_5) (.type "ValueError")=some true) (y_3:K.lookup C_5=some (excClassObj e1_3 e2_3 C_5 e3_3 e4_3 e5_3 e6_3 e7_3 e8_3 e9_3 eA_3 eB_3 eC_3 eD_3 eE_3 eF_3 eG_3 "ValueError.__new__"))
   (a_1:hA K "NoWheel" C_2) (x_1:PySem.W.excIn K C_2 [.type "ValueError",.type "Exception",.type "BaseException",.type "object"] "ValueError.__new__"=true) (g1_1:PySem.W.findIn K (.ref C_2) "__getattribute__"=some (some (.builtin "BaseException.__getattribute__"))) (g2_1:PySem.W.findIn K (.ref C_2) "__getattr__"=some none) (g3_1:PySem.W.findIn K (.ref C_2) "__class__"=some (some (.builtin "object.__class__"))) (v_1:PySem.W.kitOne K (.ref C_2) (.type "ValueError")=some true) (y_1:K.lookup C_2=some (excClassObj e1_1 e2_1 C_2 e3_1 e4_1 e5_1 e6_1 e7_1 e8_1 e9_1 eA_1 eB_1 eC_1 eD_1 eE_1 eF_1 eG_1 "ValueError.__new__"))
   (a_0:hA K "NoBeat" C_1) (x_0:PySem.W.excIn K C_1 [.type "ValueError",.type "Exception",.type "BaseException",.type "object"] "ValueError.__new__"=true) (g1_0:PySem.W.findIn K (.ref C_1) "__getattribute__"=some (some (.builtin "BaseException.__getattribute__"))) (g2_0:PySem.W.findIn K (.ref C_1) "__getattr__"=some none) (g3_0:PySem.W.findIn K (.ref C_1) "__class__"=some (some (.builtin "object.__class__"))) (v_0:PySem.W.kitOne K (.ref C_1) (.type "ValueError")=some true) (y_0:K.lookup C_1=some (excClassObj e1_0 e2_0 C_1 e3_0 e4_0 e5_0 e6_0 e7_0 e8_0 e9_0 eA_0 eB_0 eC_0 eD_0 eE_0 eF_0 eG_0 "ValueError.__new__"))
   (a_2:hA K "TooMany" C_3) (x_2:PySem.W.excIn K C_3 [.type "ValueError",.type "Exception",.type "BaseException",.type "object"] "ValueError.__new__"=true) (g1_2:PySem.W.findIn K (.ref C_3) "__getattribute__"=some (some (.builtin "BaseException.__getattribute__"))) (g2_2:PySem.W.findIn K (.ref C_3) "__getattr__"=some none) (g3_2:PySem.W.findIn K (.ref C_3) "__class__"=some (some (.builtin "object.__class__"))) (v_2:PySem.W.kitOne K (.ref C_3) (.type "ValueError")=some true) (y_2:K.lookup C_3=some (excClassObj e1_2 e2_2 C_3 e3_2 e4_2 e5_2 e6_2 e7_2 e8_2 e9_2 eA_2 eB_2 eC_2 eD_2 eE_2 eF_2 eG_2 "ValueError.__new__"))
   (s_33:hS K C_5 C_5 true)
   (s_31:hS K C_5 C_2 false)
   (s_30:hS K C_5 C_1 false)
   (s_32:hS K C_5 C_3 false)
   (s_13:hS K C_2 C_5 true)
   (s_11:hS K C_2 C_2 true)
   (s_10:hS K C_2 C_1 false)
   (s_12:hS K C_2 C_3 false)
   (s_03:hS K C_1 C_5 true)
   (s_01:hS K C_1 C_2 false)
   (s_00:hS K C_1 C_1 true)
   (s_02:hS K C_1 C_3 false)
   (s_23:hS K C_3 C_5 true)
   (s_21:hS K C_3 C_2 false)
   (s_20:hS K C_3 C_1 false)
   (s_22:hS K C_3 C_3 true):∃ (fd:FuncData) (cls:String->Value),(∀ (s:Shared) (v:Value),BindsTo s fd ⟨[v],[]⟩ [("_law_script",v)])/\∀ base:Heap,K.In base->base.Ns mainGlobals mg->FnOk l.prog w K mg base (CXe l.prog w) 8 fa fd ["_law_script"] (spD K cls F_Q0G 1):=by
  have e:=hfa.symm.trans (PySem.W.mg_of X G a_Q07)
  cases e
  have T:WkT K C_4 C_0:=⟨⟨pg_Walk,hd_Walk,po_Walk,sa_Walk⟩,⟨pg_Case,hd_Case,po_Case,sa_Case⟩,na_Walk_ways,na_Walk_waiting,na_Walk_rows,na_Walk_gone,na_Case_laid,na_Case_answers,na_Case_at⟩
  have d_Case_init:=mf_mk (st:=s_Case_init) (ps:=["self","laid","answers","at"]) l_Case_init c_Case_init fun _ _ _ _ _ _=>len_4 fun _ _ _ _=>rfl
  have d_Walk_init:=mf_mk (st:=s_Walk_init) (ps:=["self","ways","laid"]) l_Walk_init c_Walk_init fun _ _ _ _ _ _=>len_3 fun _ _ _=>rfl
  have d_Q0S:=mf_mk (st:=s_Q0S) (ps:=["self","laid","filled"]) l_Q0S c_Q0S fun _ _ _ _ _ _=>len_3 fun _ _ _=>rfl
  have d_Q06:=mf_mk (st:=s_Q06) (ps:=["self"]) l_Q06 c_Q06 fun _ _ _ _ _ _=>len_1 fun _=>rfl
  have M_Case:Mk K C_0 f_Case_init:=⟨mk_Case,a_Case_init,i_Case_init,kc_Case⟩
  have M_Walk:Mk K C_4 f_Walk_init:=⟨mk_Walk,a_Walk_init,i_Walk_init,kc_Walk⟩
  have m_write_row:Meth K C_4 "write_row" f_Q0S:=⟨a_Q0S,i_write_row,k_Q0S⟩
  have m_go_on:Meth K C_4 "go_on" f_Q06:=⟨a_Q06,i_go_on,k_Q06⟩
  have d_Q04:=df_mk (st:=s_Q04) (ps:=["length"]) (PySem.W.mg_of X G a_Q04) l_Q04 c_Q04 k_Q04 fun _ _ _ _ _ _=>len_1 fun _=>rfl
  have d_Q03:=df_mk (st:=s_Q03) (ps:=["numbers","end"]) (PySem.W.mg_of X G a_Q03) l_Q03 c_Q03 k_Q03 fun _ _ _ _ _ _=>len_2 fun _ _=>rfl
  have d_Q02:=df_mk (st:=s_Q02) (ps:=["length","beat"]) (PySem.W.mg_of X G a_Q02) l_Q02 c_Q02 k_Q02 fun _ _ _ _ _ _=>len_2 fun _ _=>rfl
  have d_Q0N:=df_mk (st:=s_Q0N) (ps:=["length","numbers"]) (PySem.W.mg_of X G a_Q0N) l_Q0N c_Q0N k_Q0N fun _ _ _ _ _ _=>len_2 fun _ _=>rfl
  have d_Q0Q:=df_mkD (st:=s_Q0Q) (ps:=["length","beat","by"]) (PySem.W.mg_of X G a_Q0Q) l_Q0Q c_Q0Q k_Q0Q fun s us Y hl=>by
    rw[List.append_nil] at hl ⊢
    match us,hl with
    | [_,_,_],_=>exact BindsTo.of_defaults rfl (Y _ _ t_turned) rfl rfl rfl
  have bD_turned:Binds K (PySem.W.fnOf "turned" "turned" (defArgs s_Q0Q) (defBody s_Q0Q) (defScope s_Q0Q) (.ref T_turned) kV_Q0Q dc_Q0Q pm_Q0Q an_Q0Q cd_Q0Q ct_Q0Q) ["length","beat","by"] [.int 1 tt0_turned]:=fun s us Y hl=>by
    have hl:=Nat.succ.inj ((List.length_append (as:=us)).symm.trans hl)
    match us,hl with
    | [_,_],_=>exact BindsTo.of_defaults rfl (Y _ _ t_turned) rfl rfl rfl
  have d_Q0P:=df_mk (st:=s_Q0P) (ps:=["laid"]) (PySem.W.mg_of X G a_Q0P) l_Q0P c_Q0P k_Q0P fun _ _ _ _ _ _=>len_1 fun _=>rfl
  have d_Q0R:=df_mk (st:=s_Q0R) (ps:=["length","beat"]) (PySem.W.mg_of X G a_Q0R) l_Q0R c_Q0R k_Q0R fun _ _ _ _ _ _=>len_2 fun _ _=>rfl
  have d_Q05:=df_mk (st:=s_Q05) (ps:=["length","beat"]) (PySem.W.mg_of X G a_Q05) l_Q05 c_Q05 k_Q05 fun _ _ _ _ _ _=>len_2 fun _ _=>rfl
  have d_Q0D:=df_mk (st:=s_Q0D) (ps:=["_law_script","_law_k"]) (PySem.W.mg_of X G a_Q0D) l_Q0D c_Q0D k_Q0D fun _ _ _ _ _ _=>len_2 fun _ _=>rfl
  have d_Q0M:=df_mk (st:=s_Q0M) (ps:=["_law_found"]) (PySem.W.mg_of X G a_Q0M) l_Q0M c_Q0M k_Q0M fun _ _ _ _ _ _=>len_1 fun _=>rfl
  have d_Q0A:=df_mk (st:=s_Q0A) (ps:=["_law_found","_law_due"]) (PySem.W.mg_of X G a_Q0A) l_Q0A c_Q0A k_Q0A fun _ _ _ _ _ _=>len_2 fun _ _=>rfl
  have d_Q0K:=df_mk (st:=s_Q0K) (ps:=["_law_script","_law_start","_law_length"]) (PySem.W.mg_of X G a_Q0K) l_Q0K c_Q0K k_Q0K fun _ _ _ _ _ _=>len_3 fun _ _ _=>rfl
  have d_Q0L:=df_mk (st:=s_Q0L) (ps:=["_law_length","_law_beat","_law_by"]) (PySem.W.mg_of X G a_Q0L) l_Q0L c_Q0L k_Q0L fun _ _ _ _ _ _=>len_3 fun _ _ _=>rfl
  have d_Q08:=df_mk (st:=s_Q08) (ps:=["_law_length","_law_beat","_law_times"]) (PySem.W.mg_of X G a_Q08) l_Q08 c_Q08 k_Q08 fun _ _ _ _ _ _=>len_3 fun _ _ _=>rfl
  have d_Q0H:=df_mk (st:=s_Q0H) (ps:=["_law_script","_law_start"]) (PySem.W.mg_of X G a_Q0H) l_Q0H c_Q0H k_Q0H fun _ _ _ _ _ _=>len_2 fun _ _=>rfl
  have d_Q0F:=df_mk (st:=s_Q0F) (ps:=["_law_length","_law_beat","_law_starts"]) (PySem.W.mg_of X G a_Q0F) l_Q0F c_Q0F k_Q0F fun _ _ _ _ _ _=>len_3 fun _ _ _=>rfl
  have d_Q09:=df_mk (st:=s_Q09) (ps:=["_law_length","_law_beat"]) (PySem.W.mg_of X G a_Q09) l_Q09 c_Q09 k_Q09 fun _ _ _ _ _ _=>len_2 fun _ _=>rfl
  have d_Q0B:=df_mk (st:=s_Q0B) (ps:=["_law_script"]) (PySem.W.mg_of X G a_Q0B) l_Q0B c_Q0B k_Q0B fun _ _ _ _ _ _=>len_1 fun _=>rfl
  have d_Q0J:=df_mk (st:=s_Q0J) (ps:=["_law_found","_law_due"]) (PySem.W.mg_of X G a_Q0J) l_Q0J c_Q0J k_Q0J fun _ _ _ _ _ _=>len_2 fun _ _=>rfl
  have d_Q01:=df_mk (st:=s_Q01) (ps:=["walk"]) (PySem.W.mg_of X G a_Q01) l_Q01 c_Q01 k_Q01 fun _ _ _ _ _ _=>len_1 fun _=>rfl
  have d_Q0O:=df_mk (st:=s_Q0O) (ps:=["length","beat"]) (PySem.W.mg_of X G a_Q0O) l_Q0O c_Q0O k_Q0O fun _ _ _ _ _ _=>len_2 fun _ _=>rfl
  have d_Q00:=df_mk (st:=s_Q00) (ps:=["length","beat"]) (PySem.W.mg_of X G a_Q00) l_Q00 c_Q00 k_Q00 fun _ _ _ _ _ _=>len_2 fun _ _=>rfl
  have d_Q07:=df_mk (st:=s_Q07) (ps:=["_law_script"]) (PySem.W.mg_of X G a_Q07) l_Q07 c_Q07 k_Q07 fun _ _ _ _ _ _=>len_1 fun _=>rfl
  have xa:XAll K mg (adA C_5 C_2 C_1 C_3):=xall_mk _ (fm_cons ⟨⟨PySem.W.mg_of X G a_3,a_3,x_3,⟨_,_,_,_,_,_,_,_,_,_,_,_,_,_,_,_,y_3⟩⟩,⟨x_3,⟨_,_,_,_,_,_,_,_,_,_,_,_,_,_,_,_,y_3⟩,g1_3,g2_3,g3_3⟩,v_3⟩ (fm_cons ⟨⟨PySem.W.mg_of X G a_1,a_1,x_1,⟨_,_,_,_,_,_,_,_,_,_,_,_,_,_,_,_,y_1⟩⟩,⟨x_1,⟨_,_,_,_,_,_,_,_,_,_,_,_,_,_,_,_,y_1⟩,g1_1,g2_1,g3_1⟩,v_1⟩ (fm_cons ⟨⟨PySem.W.mg_of X G a_0,a_0,x_0,⟨_,_,_,_,_,_,_,_,_,_,_,_,_,_,_,_,y_0⟩⟩,⟨x_0,⟨_,_,_,_,_,_,_,_,_,_,_,_,_,_,_,_,y_0⟩,g1_0,g2_0,g3_0⟩,v_0⟩ (fm_cons ⟨⟨PySem.W.mg_of X G a_2,a_2,x_2,⟨_,_,_,_,_,_,_,_,_,_,_,_,_,_,_,_,y_2⟩⟩,⟨x_2,⟨_,_,_,_,_,_,_,_,_,_,_,_,_,_,_,_,y_2⟩,g1_2,g2_2,g3_2⟩,v_2⟩ (fm_nil))))) (fm_cons (fm_cons s_33 (fm_cons s_31 (fm_cons s_30 (fm_cons s_32 (fm_nil))))) (fm_cons (fm_cons s_13 (fm_cons s_11 (fm_cons s_10 (fm_cons s_12 (fm_nil))))) (fm_cons (fm_cons s_03 (fm_cons s_01 (fm_cons s_00 (fm_cons s_02 (fm_nil))))) (fm_cons (fm_cons s_23 (fm_cons s_21 (fm_cons s_20 (fm_cons s_22 (fm_nil))))) (fm_nil)))))
  have h_3:(adA C_5 C_2 C_1 C_3) "WheelError"=some C_5:=rfl
  have h_1:(adA C_5 C_2 C_1 C_3) "NoWheel"=some C_2:=rfl
  have h_0:(adA C_5 C_2 C_1 C_3) "NoBeat"=some C_1:=rfl
  have h_2:(adA C_5 C_2 C_1 C_3) "TooMany"=some C_3:=rfl
  have hkn:∀ c∈(["WheelError","NoWheel","NoBeat","TooMany"]:List String),∃ Ca,(adA C_5 C_2 C_1 C_3) c=some Ca:=fm_cons ⟨C_5,rfl⟩ (fm_cons ⟨C_2,rfl⟩ (fm_cons ⟨C_1,rfl⟩ (fm_cons ⟨C_3,rfl⟩ (fm_nil))))
  refine⟨PySem.W.fnOf "law" "law" (defArgs s_Q07) (defBody s_Q07) (defScope s_Q07) .none kV_Q07 dc_Q07 pm_Q07 an_Q07 cd_Q07 ct_Q07,clsOf (adA C_5 C_2 C_1 C_3),fun s v=>.of_eq rfl,fun base _ _=>?_⟩
  have o_Q04:FnOk l.prog w K mg base (CXe l.prog w) 1 f_Q04 _ ["length"] (spD K (clsOf (adA C_5 C_2 C_1 C_3)) F_Q04 1):=ok_Q04 d_Q04  xa h_1  (PySem.W.mg_of X G n_LONGEST)
  have o_Q03:FnOk l.prog w K mg base (CXe l.prog w) 1 f_Q03 _ ["numbers","end"] (spD K (clsOf (adA C_5 C_2 C_1 C_3)) F_Q03 2):=ok_Q03 d_Q03  xa h_0 (PySem.W.mg_none_of X G z_len) 
  have o_Q02:FnOk l.prog w K mg base (CXe l.prog w) 2 f_Q02 _ ["length","beat"] (spD K (clsOf (adA C_5 C_2 C_1 C_3)) F_Q02 2):=ok_Q02 d_Q02 d_Q04 o_Q04 d_Q03 o_Q03  
  have o_Q0N:FnOk l.prog w K mg base (CXe l.prog w) 3 f_Q0N _ ["length","numbers"] (spD K (clsOf (adA C_5 C_2 C_1 C_3)) F_Q0N 2):=ok_Q0N d_Q0N d_Q04 o_Q04 d_Q02 o_Q02 (PySem.W.mg_none_of X G z_sorted) 
  have o_Q0Q:FnOk l.prog w K mg base (CXe l.prog w) 4 f_Q0Q _ ["length","beat","by"] (spD K (clsOf (adA C_5 C_2 C_1 C_3)) F_Q0Q 3):=ok_Q0Q d_Q0Q d_Q02 o_Q02 d_Q0N o_Q0N  
  have o_Q0P:FnOk l.prog w K mg base (CXe l.prog w) 1 f_Q0P _ ["laid"] (spD K (clsOf (adA C_5 C_2 C_1 C_3)) F_Q0P 1):=ok_Q0P d_Q0P   
  have o_Q0R:FnOk l.prog w K mg base (CXe l.prog w) 5 f_Q0R _ ["length","beat"] (spD K (clsOf (adA C_5 C_2 C_1 C_3)) F_Q0R 2):=ok_Q0R d_Q0R d_Q0Q o_Q0Q (PySem.W.mg_none_of X G z_range) 
  have o_Q05:FnOk l.prog w K mg base (CXe l.prog w) 3 f_Q05 _ ["length","beat"] (spD K (clsOf (adA C_5 C_2 C_1 C_3)) F_Q05 2):=ok_Q05 d_Q05 d_Q02 o_Q02 (PySem.W.mg_none_of X G z_len) 
  have o_Q0D:FnOk l.prog w K mg base (CXe l.prog w) 1 f_Q0D _ ["_law_script","_law_k"] (spD K (clsOf (adA C_5 C_2 C_1 C_3)) F_Q0D 2):=ok_Q0D d_Q0D  (PySem.W.mg_none_of X G z_len) 
  have o_Q0M:FnOk l.prog w K mg base (CXe l.prog w) 1 f_Q0M _ ["_law_found"] (spD K (clsOf (adA C_5 C_2 C_1 C_3)) F_Q0M 1):=ok_Q0M d_Q0M  (PySem.W.mg_none_of X G z_isinstance) (PySem.W.mg_none_of X G z_int) (PySem.W.mg_none_of X G z_bool) 
  have o_Q0A:FnOk l.prog w K mg base (CXe l.prog w) 2 f_Q0A _ ["_law_found","_law_due"] (spD K (clsOf (adA C_5 C_2 C_1 C_3)) F_Q0A 2):=ok_Q0A d_Q0A d_Q0M o_Q0M (PySem.W.mg_none_of X G z_isinstance) (PySem.W.mg_none_of X G z_list) (PySem.W.mg_none_of X G z_len) (PySem.W.mg_none_of X G z_zip) 
  have o_Q0K:FnOk l.prog w K mg base (CXe l.prog w) 2 f_Q0K _ ["_law_script","_law_start","_law_length"] (spD K (clsOf (adA C_5 C_2 C_1 C_3)) F_Q0K 3):=ok_Q0K d_Q0K d_Q0D o_Q0D (PySem.W.mg_none_of X G z_range) (PySem.W.mg_none_of X G z_max) 
  have o_Q0L:FnOk l.prog w K mg base (CXe l.prog w) 1 f_Q0L _ ["_law_length","_law_beat","_law_by"] (spD K (clsOf (adA C_5 C_2 C_1 C_3)) F_Q0L 3):=ok_Q0L d_Q0L  (PySem.W.mg_none_of X G z_sorted) 
  have o_Q08:FnOk l.prog w K mg base (CXe l.prog w) 1 f_Q08 _ ["_law_length","_law_beat","_law_times"] (spD K (clsOf (adA C_5 C_2 C_1 C_3)) F_Q08 3):=ok_Q08 d_Q08  (PySem.W.mg_none_of X G z_range) 
  have o_Q0H:FnOk l.prog w K mg base (CXe l.prog w) 2 f_Q0H _ ["_law_script","_law_start"] (spD K (clsOf (adA C_5 C_2 C_1 C_3)) F_Q0I 2):=ok_Q0H d_Q0H d_Q0D o_Q0D d_Q08 o_Q08 d_Q0L o_Q0L (PySem.W.mg_none_of X G z_range) (PySem.W.mg_none_of X G z_sorted) 
  have o_Q0F:FnOk l.prog w K mg base (CXe l.prog w) 1 f_Q0F _ ["_law_length","_law_beat","_law_starts"] (spD K (clsOf (adA C_5 C_2 C_1 C_3)) F_Q0F 3):=ok_Q0F d_Q0F   
  have o_Q09:FnOk l.prog w K mg base (CXe l.prog w) 2 f_Q09 _ ["_law_length","_law_beat"] (spD K (clsOf (adA C_5 C_2 C_1 C_3)) F_Q09 2):=ok_Q09 d_Q09 d_Q0F o_Q0F (PySem.W.mg_none_of X G z_len) (PySem.W.mg_none_of X G z_range) 
  have o_Q0B:FnOk l.prog w K mg base (CXe l.prog w) 3 f_Q0B _ ["_law_script"] (spD K (clsOf (adA C_5 C_2 C_1 C_3)) F_Q0C 1):=ok_Q0B d_Q0B d_Q0H o_Q0H d_Q0D o_Q0D d_Q0K o_Q0K (PySem.W.mg_none_of X G z_sorted) 
  have o_Q0J:FnOk l.prog w K mg base (CXe l.prog w) 3 f_Q0J _ ["_law_found","_law_due"] (spD K (clsOf (adA C_5 C_2 C_1 C_3)) F_Q0J 2):=ok_Q0J d_Q0J d_Q0A o_Q0A (PySem.W.mg_none_of X G z_isinstance) (PySem.W.mg_none_of X G z_list) (PySem.W.mg_none_of X G z_len) (PySem.W.mg_none_of X G z_zip) 
  have o_Case_init:FnOk l.prog w K mg base (CXe l.prog w) 1 f_Case_init _ ["self","laid","answers","at"] (spCI C_0):=ok_Case_init d_Case_init T
  have o_Walk_init:FnOk l.prog w K mg base (CXe l.prog w) 3 f_Walk_init _ ["self","ways","laid"] (spWI K C_4 C_0):=ok_Walk_init d_Walk_init T d_Case_init o_Case_init M_Case (PySem.W.mg_of X G a_Case)
  have o_Q0S:FnOk l.prog w K mg base (CXe l.prog w) 3 f_Q0S _ ["self","laid","filled"] (spWR K C_4 C_0 kW):=ok_Q0S d_Q0S T d_Case_init o_Case_init M_Case (PySem.W.mg_of X G a_Case)  (PySem.W.mg_none_of X G z_min) (PySem.W.mg_none_of X G z_range) (PySem.W.mg_none_of X G z_len) 
  have o_Q06:FnOk l.prog w K mg base (CXe l.prog w) 4 f_Q06 _ ["self"] (spGo K C_4 C_0 (clsOf (adA C_5 C_2 C_1 C_3)) kW):=ok_Q06 d_Q06 T d_Q0S o_Q0S m_write_row d_Q0P o_Q0P xa h_2 (PySem.W.mg_none_of X G z_sorted) (PySem.W.mg_none_of X G z_len) (PySem.W.mg_of X G n_MOST_CASES)
  have o_Q01:FnOk l.prog w K mg base (CXe l.prog w) 5 f_Q01 _ ["walk"] (spAll K C_4 C_0 (clsOf (adA C_5 C_2 C_1 C_3)) kW):=ok_Q01 d_Q01 T d_Q06 o_Q06 m_go_on  (PySem.W.mg_none_of X G z_len) 
  have o_Q0O:FnOk l.prog w K mg base (CXe l.prog w) 6 f_Q0O _ ["length","beat"] (spPW K C_4 C_0 (clsOf (adA C_5 C_2 C_1 C_3)) (Dv.pwR wk_w wk_l) 2):=ok_Q0O d_Q0O d_Walk_init o_Walk_init M_Walk (PySem.W.mg_of X G a_Walk) d_Q0R o_Q0R  
  have o_Q00:FnOk l.prog w K mg base (CXe l.prog w) 7 f_Q00 _ ["length","beat"] (spD K (clsOf (adA C_5 C_2 C_1 C_3)) F_Q00 2):=ok_Q00 d_Q00 d_Q05 o_Q05 d_Q01 o_Q01 d_Q0O o_Q0O (PySem.W.mg_none_of X G z_sorted) 
  exact ok_Q07 d_Q07 d_Q0B o_Q0B d_Q09 o_Q09 d_Q00 o_Q00 d_Q0J o_Q0J d_Q0L o_Q0L (PySem.W.mg_none_of X G z_list) 
end Lk43
namespace Bt
open Dv (ins isort)
theorem ins_perm (i:Int):∀ l:List Int,(ins i l).Perm (i::l)
 | []=>.refl _
 | j::r=>by
  unfold ins
  split
  ·exact .refl _
  ·exact((ins_perm i r).cons j).trans (.swap _ _ _)
theorem isort_perm:∀ l:List Int,(isort l).Perm l
 | []=>.refl _
 | i::r=>(ins_perm i _).trans ((isort_perm r).cons i)
theorem ins_sorted (i:Int):∀ l:List Int,l.Pairwise (·<=·)->(ins i l).Pairwise (·<=·)
 | [],_=>by unfold ins; simp
 | j::r,h=>by
  unfold ins
  obtain⟨h1,h2⟩:=List.pairwise_cons.mp h
  split
  ·rename_i hij
   refine List.pairwise_cons.mpr ⟨fun a ha=>?_,h⟩
   rcases List.mem_cons.mp ha with rfl|ha
   ·exact hij
   ·have:=h1 a ha; omega
  ·rename_i hij
   refine List.pairwise_cons.mpr ⟨fun a ha=>?_,ins_sorted i r h2⟩
   rcases List.mem_cons.mp ((ins_perm i r).mem_iff.mp ha) with rfl|ha
   ·omega
   ·exact h1 a ha
theorem isort_sorted:∀ l:List Int,(isort l).Pairwise (·<=·)
 | []=>.nil
 | i::r=>ins_sorted i _ (isort_sorted r)
theorem sorted_uniq:∀ {a b:List Int},a.Perm b->a.Pairwise (·<=·)->b.Pairwise (·<=·)->a=b
 | [],b,p,_,_=>(List.Perm.nil_eq p)
 | x::a,[],p,_,_=>(nomatch p.length_eq)
 | x::a,y::b,p,ha,hb=>by
  obtain⟨a1,a2⟩:=List.pairwise_cons.mp ha
  obtain⟨b1,b2⟩:=List.pairwise_cons.mp hb
  have hx:x∈y::b:=p.mem_iff.mp (List.mem_cons_self ..)
  have hy:y∈x::a:=p.mem_iff.mpr (List.mem_cons_self ..)
  have e:x=y:=by
   rcases List.mem_cons.mp hx with e|hx
   ·exact e
   ·rcases List.mem_cons.mp hy with e|hy
    ·exact e.symm
    ·have:=a1 y hy; have:=b1 x hx; omega
  subst e
  rw[sorted_uniq (List.Perm.cons_inv p) a2 b2]
theorem isort_len (l:List Int):(isort l).length=l.length:=(isort_perm l).length_eq
theorem isort_of_perm {a b:List Int}(h:a.Perm b):isort a=isort b:=sorted_uniq ((isort_perm a).trans (h.trans (isort_perm b).symm)) (isort_sorted a) (isort_sorted b)
theorem isort_up {l:List Int}(h:l.Pairwise (·<=·)):isort l=l:=sorted_uniq (isort_perm l) (isort_sorted l) h
structure Beat (n:Int)(xs:List Int):Prop where
 ne:xs≠[]
 up:xs.Pairwise (·<·)
 rg:∀ x∈xs,0<=x/\x<n
theorem Beat.nd {n:Int}{xs:List Int}(h:Beat n xs):xs.Nodup:=h.up.imp fun {a b} h e=>by omega
theorem up_len:∀ {xs:List Int} {lo hi:Int},xs.Pairwise (·<·)->(∀ x∈xs,lo<=x/\x<hi)->(xs.length:Int)<=max 0 (hi-lo)
 | [],lo,hi,_,_=>by simp; omega
 | x::r,lo,hi,h,g=>by
  obtain⟨h1,h2⟩:=List.pairwise_cons.mp h
  have gx:=g x (List.mem_cons_self ..)
  have:=up_len (lo:=x+1) (hi:=hi) h2 fun y hy=>⟨h1 y hy,(g y (List.mem_cons_of_mem _ hy)).2⟩
  rw[List.length_cons]
  omega
theorem Beat.len {n:Int}{xs:List Int}(h:Beat n xs):(xs.length:Int)<=n:=by
 have:=up_len h.up h.rg
 obtain⟨x,hx⟩:=List.exists_mem_of_ne_nil xs h.ne
 have:=h.rg x hx
 omega
theorem Beat.pos {n:Int}{xs:List Int}(h:Beat n xs):1<=n:=by
 obtain⟨x,hx⟩:=List.exists_mem_of_ne_nil xs h.ne
 have:=h.rg x hx
 omega
theorem Beat.len1 {n:Int}{xs:List Int}(h:Beat n xs):1<=xs.length:=by
 cases xs with
 | nil=>exact absurd rfl h.ne
 | cons a r=>simp
theorem up_of {l:List Int}(h1:l.Pairwise (·<=·))(h2:l.Nodup):l.Pairwise (·<·):=by
 induction l with
 | nil=>exact .nil
 | cons a r ih =>
  obtain⟨a1,a2⟩:=List.pairwise_cons.mp h1
  obtain⟨b1,b2⟩:=List.nodup_cons.mp h2
  refine List.pairwise_cons.mpr ⟨fun x hx=>?_,ih a2 b2⟩
  have:=a1 x hx
  have:a≠x:=fun e=>b1 (e▸hx)
  omega
theorem sort_beat {n:Int}{xs:List Int}(ne:xs≠[])(nd:xs.Nodup)(rg:∀ x∈xs,0<=x/\x<n):Beat n (isort xs) where
 ne:=fun e=>ne (by have:=isort_len xs; rw[e] at this; exact List.eq_nil_of_length_eq_zero this.symm)
 up:=up_of (isort_sorted xs) ((isort_perm xs).nodup_iff.mpr nd)
 rg:=fun x hx=>rg x ((isort_perm xs).mem_iff.mp hx)
theorem Beat.sorted {n:Int}{xs:List Int}(h:Beat n xs):isort xs=xs:=isort_up (h.up.imp fun {a b} h=>Int.le_of_lt h)
theorem nodup_map {f:Int->Int}:∀ {xs:List Int},xs.Nodup->(∀ x∈xs,∀ y∈xs,f x=f y->x=y)->(xs.map f).Nodup
 | [],_,_=>by simp
 | x::r,h,g=>by
  obtain⟨h1,h2⟩:=List.nodup_cons.mp h
  refine List.nodup_cons.mpr ⟨fun m=>?_,nodup_map h2 fun a ha b hb=>g a (List.mem_cons_of_mem _ ha) b (List.mem_cons_of_mem _ hb)⟩
  obtain⟨y,hy,e⟩:=List.mem_map.mp m
  exact h1 (g y (List.mem_cons_of_mem _ hy) x (List.mem_cons_self ..) e▸hy)
theorem small_mul {n k d:Int}(hn:0<n)(e:d=n*k)(h1:-n<d)(h2:d<n):d=0:=by
 rcases Int.lt_trichotomy k 0 with h|h|h
 ·have:n*k<=n*(-1):=Int.mul_le_mul_of_nonneg_left (by omega) (by omega)
  omega
 ·subst h; omega
 ·have:n*1<=n*k:=Int.mul_le_mul_of_nonneg_left (by omega) (by omega)
  omega
theorem mod_eq_iff {n a b:Int}:a%n=b%n ↔ ∃ k,a-b=n*k:=by
 constructor
 ·intro h
  have:=Int.emod_emod_of_dvd a (Int.dvd_refl n)
  have h1:(a-b)%n=0:=(Int.emod_eq_emod_iff_emod_sub_eq_zero).mp h
  exact Int.dvd_of_emod_eq_zero h1
 ·rintro ⟨k,h⟩
  exact(Int.emod_eq_emod_iff_emod_sub_eq_zero).mpr (Int.emod_eq_zero_of_dvd ⟨k,h⟩)
theorem mod_inj {n x y b:Int}(hn:0<n)(hx:0<=x/\x<n)(hy:0<=y/\y<n)(h:(x+b)%n=(y+b)%n):x=y:=by
 obtain⟨k,e⟩:=mod_eq_iff.mp h
 have:=small_mul (d:=x-y) (k:=k) hn (by omega) (by omega) (by omega)
 omega
theorem mod_rg {n a:Int}(hn:0<n):0<=a%n/\a%n<n:=⟨Int.emod_nonneg _ (by omega),Int.emod_lt_of_pos _ hn⟩
theorem turn_beat {n b:Int}{xs:List Int}(h:Beat n xs):Beat n (isort (xs.map fun x=>(x+b)%n)):=by
 have hp:=h.pos
 refine sort_beat (by simpa using h.ne) (nodup_map h.nd fun x hx y hy e=>mod_inj (by omega) (h.rg x hx) (h.rg y hy) e) fun x hx=>?_
 obtain⟨y,_,rfl⟩:=List.mem_map.mp hx
 exact mod_rg (by omega)
noncomputable def again (n:Int)(xs:List Int):Nat->List Int
 | 0=>[]
 | t+1=>again n xs t++xs.map (·+t*n)
theorem again_rg {n:Int}{xs:List Int}(h:∀ x∈xs,0<=x/\x<n)(hn:0<=n):∀ (t:Nat),∀ x∈again n xs t,0<=x/\x<n*t
 | 0,x,hx=>by simp[again] at hx
 | t+1,x,hx=>by
  have e:n*((t+1:Nat):Int)=n*t+n:=by rw[Int.natCast_succ,Int.mul_add,Int.mul_one]
  unfold again at hx
  rcases List.mem_append.mp hx with hx|hx
  ·have:=again_rg h hn t x hx; omega
  ·obtain⟨y,hy,rfl⟩:=List.mem_map.mp hx
   have:=h y hy
   have e2:(t:Int)*n=n*t:=Int.mul_comm _ _
   have:0<=n*(t:Int):=Int.mul_nonneg hn (by omega)
   simp only[e2]; omega
theorem again_up {n:Int}{xs:List Int}(h:xs.Pairwise (·<·))(g:∀ x∈xs,0<=x/\x<n)(hn:0<=n):∀ (t:Nat),(again n xs t).Pairwise (·<·)
 | 0=>.nil
 | t+1=>by
  unfold again
  refine List.pairwise_append.mpr ⟨again_up h g hn t,?_,fun a ha b hb=>?_⟩
  ·exact List.pairwise_map.mpr (h.imp fun {a b} h=>by omega)
  ·have:=again_rg g hn t a ha
   obtain⟨y,hy,rfl⟩:=List.mem_map.mp hb
   have:=g y hy
   have e2:(t:Int)*n=n*t:=Int.mul_comm _ _
   simp only[e2]; omega
theorem again_beat {n:Int}{xs:List Int}(h:Beat n xs){t:Nat}(ht:1<=t):Beat (n*t) (again n xs t) where
 ne:=by
  cases t with
  | zero=>omega
  | succ t=>unfold again; have:=h.ne; simp[this]
 up:=again_up h.up h.rg (by have:=h.pos; omega) t
 rg:=again_rg h.rg (by have:=h.pos; omega) t
theorem spread_beat {n t:Int}{xs:List Int}(h:Beat n xs)(ht:1<=t):Beat (n*t) (xs.map (·*t)) where
 ne:=by simpa using h.ne
 up:=List.pairwise_map.mpr (h.up.imp fun {a b} h=>Int.mul_lt_mul_of_pos_right h (by omega))
 rg:=fun x hx=>by
  obtain⟨y,hy,rfl⟩:=List.mem_map.mp hx
  have:=h.rg y hy
  exact⟨Int.mul_nonneg this.1 (by omega),Int.mul_lt_mul_of_pos_right this.2 (by omega)⟩
noncomputable def mix (xs:List Int)(t:Int):Nat->List Int
 | 0=>[]
 | j+1=>mix xs t j++xs.map (·*t+j)
theorem mix_mem {xs:List Int}{t:Int}:∀ {j:Nat} {x:Int},x∈mix xs t j ↔ ∃ y∈xs,∃ i:Nat,i<j/\x=y*t+i
 | 0,x=>by simp[mix]
 | j+1,x=>by
  unfold mix
  rw[List.mem_append,mix_mem,List.mem_map]
  constructor
  ·rintro (⟨y,hy,i,hi,rfl⟩|⟨y,hy,rfl⟩)
   ·exact⟨y,hy,i,by omega,rfl⟩
   ·exact⟨y,hy,j,by omega,rfl⟩
  ·rintro ⟨y,hy,i,hi,rfl⟩
   by_cases e:i=j
   ·subst e; exact .inr ⟨y,hy,rfl⟩
   ·exact .inl ⟨y,hy,i,by omega,rfl⟩
theorem digits {t y z i j:Int}(ht:0<t)(hi:0<=i/\i<t)(hj:0<=j/\j<t)(e:y*t+i=z*t+j):y=z/\i=j:=by
 have h1:i-j=t*(z-y):=by rw[Int.mul_sub,Int.mul_comm t z,Int.mul_comm t y]; omega
 have h2:=small_mul ht h1 (by omega) (by omega)
 have h3:y*t=z*t:=by omega
 exact⟨Int.eq_of_mul_eq_mul_right (by omega) h3,by omega⟩
theorem mix_nd {xs:List Int}{t:Int}(h:xs.Nodup)(ht:0<t):∀ {j:Nat},(j:Int)<=t->(mix xs t j).Nodup
 | 0,_=>by simp[mix]
 | j+1,hj=>by
  unfold mix
  refine List.nodup_append.mpr ⟨mix_nd h ht (by omega),nodup_map h fun x _ y _ e=>(digits ht (i:=j) (j:=j) (by omega) (by omega) e).1,fun a ha b hb e=>?_⟩
  subst e
  obtain⟨y,hy,i,hi,rfl⟩:=mix_mem.mp ha
  obtain⟨z,hz,e⟩:=List.mem_map.mp hb
  have:=(digits ht (i:=j) (j:=i) (by omega) (by omega) e).2
  omega
theorem mix_beat {n:Int}{xs:List Int}(h:Beat n xs){t:Nat}(ht:1<=t):Beat (n*t) (isort (mix xs t t)):=by
 refine sort_beat ?_ (mix_nd h.nd (by omega) (by omega)) fun x hx=>?_
 ·obtain⟨x,hx⟩:=List.exists_mem_of_ne_nil xs h.ne
  exact List.ne_nil_of_mem (mix_mem.mpr ⟨x,hx,0,by omega,rfl⟩)
 ·obtain⟨y,hy,i,hi,rfl⟩:=mix_mem.mp hx
  have h1:=h.rg y hy
  have h2:0<=y*(t:Int):=Int.mul_nonneg h1.1 (by omega)
  have h3:(y+1)*(t:Int)<=n*t:=Int.mul_le_mul_of_nonneg_right (by omega) (by omega)
  rw[Int.add_mul,Int.one_mul] at h3
  omega
noncomputable def hits (n:Int)(beat starts:List Int):List Int:=starts.flatMap fun s=>beat.map fun b=>(b+s)%n
noncomputable def bump (c:List Int)(p:Int):List Int:=c.set p.toNat (c.getD p.toNat 0+1)
noncomputable def tally (n:Nat)(ps:List Int):List Int:=ps.foldl bump (List.replicate n 0)
theorem bump_len (c:List Int)(p:Int):(bump c p).length=c.length:=by unfold bump; rw[List.length_set]
theorem foldl_bump_len:∀ (ps:List Int) (c:List Int),(ps.foldl bump c).length=c.length
 | [],c=>rfl
 | p::r,c=>by rw[List.foldl_cons,foldl_bump_len,bump_len]
theorem tally_len (n:Nat)(ps:List Int):(tally n ps).length=n:=by unfold tally; rw[foldl_bump_len,List.length_replicate]
theorem foldl_bump_get:∀ (ps:List Int) (c:List Int) (i:Nat),i<c.length->(∀ p∈ps,0<=p)->(ps.foldl bump c)[i]?.getD 0=c[i]?.getD 0+(ps.count (i:Int):Nat)
 | [],c,i,_,_=>by simp
 | p::r,c,i,h,g=>by
  rw[List.foldl_cons,foldl_bump_get r (bump c p) i (by rw[bump_len]; exact h) fun q hq=>g q (List.mem_cons_of_mem _ hq)]
  have gp:=g p (List.mem_cons_self ..)
  unfold bump
  rw[List.getElem?_set]
  by_cases e:p.toNat=i
  ·have e2:p=(i:Int):=by omega
   subst e2
   simp[h,List.getD_eq_getElem?_getD]
   omega
  ·have e2:¬ p=(i:Int):=by omega
   have e3:¬ (i:Int)=p:=by omega
   simp[e,e2,List.count_cons]
theorem tally_eq (n:Nat){ps:List Int}(g:∀ p∈ps,0<=p):tally n ps=(List.range n).map fun (i:Nat)=>((ps.count (i:Int):Nat):Int):=by
 apply List.ext_getElem?
 intro i
 by_cases h:i<n
 ·have h1:=foldl_bump_get ps (List.replicate n 0) i (by simpa using h) g
  have hl:i<(tally n ps).length:=by rw[tally_len]; exact h
  have h2:(tally n ps)[i]?=some ((tally n ps)[i]?.getD 0):=by rw[List.getElem?_eq_getElem hl]; rfl
  rw[h2]
  show some ((ps.foldl bump (List.replicate n 0))[i]?.getD 0)=_
  rw[h1]
  simp[h]
 ·rw[List.getElem?_eq_none (by rw[tally_len]; omega),List.getElem?_eq_none (by simp; omega)]
theorem hits_rg {n:Int}(hn:0<n){beat starts:List Int}:∀ p∈hits n beat starts,0<=p/\p<n:=fun p hp=>by
 unfold hits at hp
 obtain⟨s,_,h⟩:=List.mem_flatMap.mp hp
 obtain⟨b,_,rfl⟩:=List.mem_map.mp h
 exact mod_rg hn
structure Fill (n:Int)(a b:List Int):Prop where
 one:Beat n a
 oth:Beat n b
 len:((a.length*b.length:Nat):Int)=n
 inj:∀ x∈a,∀ y∈a,∀ s∈b,∀ t∈b,(x+s)%n=(y+t)%n->x=y/\s=t
theorem perm_mem {a b:List Int}(p:a.Perm b){x:Int}(h:x∈a):x∈b:=p.mem_iff.mp h
theorem nodup_hits {n:Int}{a:List Int}(ha:a.Nodup):∀ {b:List Int},b.Nodup->(∀ x∈a,∀ y∈a,∀ s∈b,∀ t∈b,(x+s)%n=(y+t)%n->x=y/\s=t)->(hits n a b).Nodup
 | [],_,_=>by simp[hits]
 | s::r,hb,inj=>by
  obtain⟨h1,h2⟩:=List.nodup_cons.mp hb
  have e:hits n a (s::r)=(a.map fun b=>(b+s)%n)++hits n a r:=by simp[hits]
  rw[e]
  refine List.nodup_append.mpr ⟨nodup_map ha fun x hx y hy q=>(inj x hx y hy s (List.mem_cons_self ..) s (List.mem_cons_self ..) q).1,nodup_hits ha h2 fun x hx y hy u hu v hv=>inj x hx y hy u (List.mem_cons_of_mem _ hu) v (List.mem_cons_of_mem _ hv),fun p hp q hq z=>?_⟩
  subst z
  obtain⟨x,hx,rfl⟩:=List.mem_map.mp hp
  unfold hits at hq
  obtain⟨t,ht,hq⟩:=List.mem_flatMap.mp hq
  obtain⟨y,hy,e2⟩:=List.mem_map.mp hq
  have:=(inj x hx y hy s (List.mem_cons_self ..) t (List.mem_cons_of_mem _ ht) e2.symm).2
  exact h1 (this▸ht)
theorem hits_len (n:Int)(a:List Int):∀ b:List Int,(hits n a b).length=a.length*b.length
 | []=>by simp[hits]
 | s::r=>by
  have e:hits n a (s::r)=(a.map fun b=>(b+s)%n)++hits n a r:=by simp[hits]
  rw[e,List.length_append,List.length_map,hits_len n a r,List.length_cons,Nat.mul_succ,Nat.add_comm]
theorem all_up:∀ {xs:List Int} {lo:Int},xs.Pairwise (·<·)->(∀ x∈xs,lo<=x/\x<lo+xs.length)->xs=(List.range xs.length).map fun (i:Nat)=>lo+(i:Int)
 | [],_,_,_=>rfl
 | x::r,lo,h,g=>by
  obtain⟨h1,h2⟩:=List.pairwise_cons.mp h
  have gx:=g x (List.mem_cons_self ..)
  have l:=up_len (lo:=x+1) (hi:=lo+((x::r).length:Int)) h2 fun y hy=>⟨h1 y hy,(g y (List.mem_cons_of_mem _ hy)).2⟩
  rw[List.length_cons] at l gx
  have ex:x=lo:=by
   rw[Int.natCast_add] at l gx
   omega
  subst ex
  rw[List.length_cons,List.range_succ_eq_map,List.map_cons,List.map_map]
  have:=all_up (xs:=r) (lo:=x+1) h2 fun y hy=>by
   have g1:=g y (List.mem_cons_of_mem _ hy)
   have g2:=h1 y hy
   rw[List.length_cons,Int.natCast_add] at g1
   omega
  conv=>lhs; rw[this]
  simp only[Int.natCast_zero,Int.add_zero,List.cons.injEq,true_and]
  apply List.map_congr_left
  intro i _
  simp only[Function.comp,Int.natCast_succ]
  omega
theorem perm_all {n:Nat}{ps:List Int}(nd:ps.Nodup)(rg:∀ p∈ps,0<=p/\p<n)(hl:ps.length=n):ps.Perm ((List.range n).map fun (i:Nat)=>(i:Int)):=by
 have h1:=up_of (isort_sorted ps) ((isort_perm ps).nodup_iff.mpr nd)
 have h2:=all_up (lo:=0) h1 fun x hx=>by
  have:=rg x (perm_mem (isort_perm ps) hx)
  rw[isort_len,hl]; omega
 rw[isort_len,hl] at h2
 have h3:=(isort_perm ps).symm
 rw[h2] at h3
 simpa using h3
theorem Fill.perm {n:Int}{a b:List Int}(h:Fill n a b):(hits n a b).Perm ((List.range n.toNat).map fun (i:Nat)=>(i:Int)):=by
 have hp:=h.one.pos
 refine perm_all (nodup_hits h.one.nd h.oth.nd h.inj) (fun p hq=>?_) ?_
 ·have:=hits_rg (n:=n) (by omega) p hq; omega
 ·have:=hits_len n a b; have:=h.len; omega
theorem count_range (n i:Nat)(h:i<n):((List.range n).map fun (i:Nat)=>(i:Int)).count (i:Int)=1:=by
 have nd:((List.range n).map fun (i:Nat)=>(i:Int)).Nodup:=List.pairwise_map.mpr (List.pairwise_lt_range.imp fun {a b} h=>by omega)
 have h1:=(List.nodup_iff_count.mp nd) (i:Int)
 have h2:=List.count_pos_iff.mpr (List.mem_map.mpr ⟨i,List.mem_range.mpr h,rfl⟩:(i:Int)∈(List.range n).map fun (i:Nat)=>(i:Int))
 omega
theorem Fill.tally {n:Int}{a b:List Int}(h:Fill n a b):tally n.toNat (hits n a b)=List.replicate n.toNat 1:=by
 have hp:=h.one.pos
 rw[tally_eq _ fun p hq=>(hits_rg (by omega) p hq).1]
 apply List.ext_getElem?
 intro i
 by_cases hi:i<n.toNat
 ·simp[hi,h.perm.count_eq,count_range _ _ hi]
 ·rw[List.getElem?_eq_none (by simp; omega),List.getElem?_eq_none (by simp; omega)]
theorem fill_of {n:Int}{a b:List Int}(ha:Beat n a)(hb:Beat n b)(h:tally n.toNat (hits n a b)=List.replicate n.toNat 1):Fill n a b:=by
 have hp:=ha.pos
 rw[tally_eq _ fun p hq=>(hits_rg (by omega) p hq).1] at h
 have cnt:∀ p:Int,0<=p->p<n->(hits n a b).count p=1:=fun p h0 h1=>by
  have e:=congrArg (fun l=>l[p.toNat]?) h
  have hi:p.toNat<n.toNat:=by omega
  simp[hi] at e
  have e2:((p.toNat:Nat):Int)=p:=by omega
  have e3:max p 0=p:=by omega
  first
   | (rw[e2] at e; omega)
   | (rw[e3] at e; omega)
 have nd:(hits n a b).Nodup:=by
  rw[List.nodup_iff_count]
  intro p
  by_cases hm:p∈hits n a b
  ·have:=hits_rg (n:=n) (by omega) p hm
   rw[cnt p this.1 this.2]; omega
  ·rw[List.count_eq_zero_of_not_mem hm]; omega
 have pm:(hits n a b).Perm ((List.range n.toNat).map fun (i:Nat)=>(i:Int)):=by
  refine(List.perm_iff_count).mpr fun p=>?_
  by_cases hr:0<=p/\p<n
  ·rw[cnt p hr.1 hr.2]
   have:=count_range n.toNat p.toNat (by omega)
   rw[show ((p.toNat:Nat):Int)=p by omega] at this
   exact this.symm
  ·rw[List.count_eq_zero_of_not_mem fun hm=>hr (hits_rg (by omega) p hm),List.count_eq_zero_of_not_mem]
   intro hm
   obtain⟨i,hi,rfl⟩:=List.mem_map.mp hm
   have:=List.mem_range.mp hi
   omega
 refine⟨ha,hb,?_,?_⟩
 ·have:=pm.length_eq
  rw[hits_len,List.length_map,List.length_range] at this
  omega
 ·-- two ways to one place would count twice
  have aux:∀ {b:List Int},(hits n a b).Nodup->b.Nodup->∀ x∈a,∀ y∈a,∀ s∈b,∀ t∈b,(x+s)%n=(y+t)%n->x=y/\s=t:=by
   intro b
   induction b with
   | nil=>intro _ _ x _ y _ s hs; simp at hs
   | cons u r ih =>
    intro nd nb x hx y hy s hs t ht e
    have eh:hits n a (u::r)=(a.map fun b=>(b+u)%n)++hits n a r:=by simp[hits]
    rw[eh] at nd
    obtain⟨n1,n2,n3⟩:=List.nodup_append.mp nd
    have inr:∀ z∈a,∀ v∈r,(z+v)%n∈hits n a r:=fun z hz v hv=>List.mem_flatMap.mpr ⟨v,hv,List.mem_map.mpr ⟨z,hz,rfl⟩⟩
    rcases List.mem_cons.mp hs with e1|hs'
    ·rcases List.mem_cons.mp ht with e2|ht'
     ·subst e1 e2
      exact⟨mod_inj (by omega) (ha.rg x hx) (ha.rg y hy) e,rfl⟩
     ·subst e1
      exact absurd e (n3 _ (List.mem_map.mpr ⟨x,hx,rfl⟩) _ (inr y hy t ht'))
    ·rcases List.mem_cons.mp ht with e2|ht'
     ·subst e2
      exact absurd e.symm (n3 _ (List.mem_map.mpr ⟨y,hy,rfl⟩) _ (inr x hx s hs'))
     ·exact ih n2 (List.nodup_cons.mp nb).2 x hx y hy s hs' t ht' e
  exact aux nd hb.nd
end Bt
namespace Wm
open Bt
open Dv (isort)
section
variable {n:Int}{A:List Int}
noncomputable def Tf (n:Int)(A:List Int)(s:Int):List Int:=isort (A.map fun x=>(x+s)%n)
theorem mem_T {p s:Int}:p∈Tf n A s ↔ ∃ x∈A,(x+s)%n=p:=by
 unfold Tf
 rw[(isort_perm _).mem_iff,List.mem_map]
theorem T_zero (h:Beat n A):Tf n A 0=A:=by
 unfold Tf
 have e:A.map (fun x=>(x+0)%n)=A:=by
  have:A.map (fun x=>(x+0)%n)=A.map id:=List.map_congr_left fun x hx=>by
   have:=h.rg x hx
   rw[Int.add_zero]; exact Int.emod_eq_of_lt this.1 this.2
  rw[this,List.map_id]
 rw[e]
 exact h.sorted
theorem putKs_mem {ks:List Int}{j p:Int}:p∈Dv.putKs ks j ↔ p∈ks\/p=j:=by
 unfold Dv.putKs
 split
 ·rename_i h
  constructor
  ·exact .inl
  ·rintro (h' | rfl)
   ·exact h'
   ·exact h
 ·simp
theorem putKs_nd {ks:List Int}{j:Int}(h:ks.Nodup):(Dv.putKs ks j).Nodup:=by
 unfold Dv.putKs
 split
 ·exact h
 ·rename_i q
  exact List.nodup_append.mpr ⟨h,by simp,fun a ha b hb e=>by simp at hb; subst hb; subst e; exact q ha⟩
theorem fold_mem:∀ (ps ks:List Int) {p:Int},p∈ps.foldl Dv.putKs ks ↔ p∈ks\/p∈ps
 | [],ks,p=>by simp
 | q::r,ks,p=>by
  rw[List.foldl_cons,fold_mem r,putKs_mem,List.mem_cons]
  constructor
  ·rintro ((h|h)|h)
   ·exact .inl h
   ·exact .inr (.inl h)
   ·exact .inr (.inr h)
  ·rintro (h|h|h)
   ·exact .inl (.inl h)
   ·exact .inl (.inr h)
   ·exact .inr h
theorem fold_nd:∀ (ps ks:List Int),ks.Nodup->(ps.foldl Dv.putKs ks).Nodup
 | [],ks,h=>h
 | q::r,ks,h=>fold_nd r _ (putKs_nd h)
noncomputable def kz (n:Int)(A S:List Int):List Int:=(S.flatMap (Tf n A)).foldl Dv.putKs []
theorem mem_kz {S:List Int}{p:Int}:p∈kz n A S ↔ ∃ s∈S,∃ x∈A,(x+s)%n=p:=by
 unfold kz
 rw[fold_mem,List.mem_flatMap]
 constructor
 ·rintro (h|⟨s,hs,h⟩)
  ·simp at h
  ·exact⟨s,hs,mem_T.mp h⟩
 ·rintro ⟨s,hs,h⟩
  exact .inr ⟨s,hs,mem_T.mpr h⟩
theorem kz_nd (S:List Int):(kz n A S).Nodup:=fold_nd _ _ .nil
theorem kz_rg (hn:0<n){S:List Int}:∀ p∈kz n A S,0<=p/\p<n:=fun p hp=>by
 obtain⟨s,_,x,_,rfl⟩:=mem_kz.mp hp
 exact mod_rg hn
structure Good (n:Int)(A S:List Int):Prop where
 rg:∀ s∈S,0<=s/\s<n
 nd:S.Nodup
 inj:∀ x∈A,∀ y∈A,∀ s∈S,∀ t∈S,(x+s)%n=(y+t)%n->x=y/\s=t
theorem Good.less {S S':List Int}(h:Good n A S)(nd:S'.Nodup)(sub:∀ s∈S',s∈S):Good n A S' :=
 ⟨fun s hs=>h.rg s (sub s hs),nd,fun x hx y hy s hs t ht=>h.inj x hx y hy s (sub s hs) t (sub t ht)⟩
theorem Good.len {S:List Int}(h:Good n A S)(hA:A.Nodup):(kz n A S).length=A.length*S.length:=by
 have p:(kz n A S).Perm (hits n A S):=(List.perm_ext_iff_of_nodup (kz_nd S) (nodup_hits hA h.nd h.inj)).mpr fun q=>by
  rw[mem_kz]
  unfold hits
  rw[List.mem_flatMap]
  constructor
  ·rintro ⟨s,hs,x,hx,e⟩
   exact⟨s,hs,List.mem_map.mpr ⟨x,hx,e⟩⟩
  ·rintro ⟨s,hs,e⟩
   obtain⟨x,hx,e⟩:=List.mem_map.mp e
   exact⟨s,hs,x,hx,e⟩
 rw[p.length_eq,hits_len]
noncomputable def fre (n:Int)(ks:List Int):List Int:=((List.range n.toNat).map fun (i:Nat)=>(i:Int)).filter fun p=>!decide (p∈ks)
theorem mem_fre {ks:List Int}{p:Int}:p∈fre n ks ↔ (0<=p/\p<n)/\p∉ks:=by
 unfold fre
 rw[List.mem_filter,List.mem_map]
 constructor
 ·rintro ⟨⟨i,hi,rfl⟩,h⟩
  have:=List.mem_range.mp hi
  exact⟨by omega,by simpa using h⟩
 ·rintro ⟨h,q⟩
  exact⟨⟨p.toNat,List.mem_range.mpr (by omega),by omega⟩,by simpa using q⟩
theorem fre_up (ks:List Int):(fre n ks).Pairwise (·<·):=by
 unfold fre
 refine List.Pairwise.filter _ (List.pairwise_map.mpr ?_)
 exact List.pairwise_lt_range.imp fun h=>by omega
theorem fre_nil (hn:0<n){ks:List Int}(nd:ks.Nodup)(rg:∀ p∈ks,0<=p/\p<n):fre n ks=[] ↔ (ks.length:Int)=n:=by
 constructor
 ·intro h
  have p:ks.Perm ((List.range n.toNat).map fun (i:Nat)=>(i:Int)):=by
   refine(List.perm_ext_iff_of_nodup nd ?_).mpr fun q=>⟨fun hq=>?_,fun hq=>?_⟩
   ·exact(List.pairwise_map.mpr (List.pairwise_lt_range.imp fun h=>by omega)).imp fun {a b} (h:a<b)=>by omega
   ·have:=rg q hq
    exact List.mem_map.mpr ⟨q.toNat,List.mem_range.mpr (by omega),by omega⟩
   ·obtain⟨i,hi,rfl⟩:=List.mem_map.mp hq
    have hi:=List.mem_range.mp hi
    by_cases z:(i:Int)∈ks
    ·exact z
    ·have:(i:Int)∈fre n ks:=mem_fre.mpr ⟨by omega,z⟩
     rw[h] at this; cases this
  have:=p.length_eq
  rw[List.length_map,List.length_range] at this
  omega
 ·intro h
  have p:=perm_all (n:=n.toNat) nd (fun p hp=>by have:=rg p hp; omega) (by omega)
  cases q:fre n ks with
  | nil=>rfl
  | cons m r =>
   have hm:m∈fre n ks:=by rw[q]; exact List.mem_cons_self ..
   obtain⟨h1,h2⟩:=mem_fre.mp hm
   exact absurd (p.mem_iff.mpr (List.mem_map.mpr ⟨m.toNat,List.mem_range.mpr (by omega),by omega⟩)) h2
noncomputable def kids (n:Int)(A S:List Int)(m:Int):List Int:=(A.map fun x=>(m-x)%n).filter fun s=>(Tf n A s).all fun p=>!decide (p∈kz n A S)
theorem mem_kids {S:List Int}{m s:Int}:s∈kids n A S m ↔ (∃ x∈A,(m-x)%n=s)/\∀ x∈A,(x+s)%n∉kz n A S:=by
 unfold kids
 rw[List.mem_filter,List.mem_map,List.all_eq_true]
 refine and_congr Iff.rfl ⟨fun h x hx=>?_,fun h p hp=>?_⟩
 ·simpa using h _ (mem_T.mpr ⟨x,hx,rfl⟩)
 ·obtain⟨x,hx,rfl⟩:=mem_T.mp hp
  simpa using h x hx
theorem add_back {x m:Int}(hm:0<=m/\m<n):(x+(m-x)%n)%n=m:=by
 have:(x+(m-x)%n)%n=m%n:=mod_eq_iff.mpr ⟨-((m-x)/n),by
  have:=Int.emod_add_mul_ediv (m-x) n
  rw[Int.mul_neg]; omega⟩
 rw[this]
 exact Int.emod_eq_of_lt hm.1 hm.2
theorem kids_nd (h:Beat n A){S:List Int}{m:Int}:(kids n A S m).Nodup:=by
 unfold kids
 refine List.Pairwise.filter _ (nodup_map h.nd fun x hx y hy e=>?_)
 have h1:=h.rg x hx
 have h2:=h.rg y hy
 obtain⟨k,e⟩:=mod_eq_iff.mp e
 have:=small_mul (d:=y-x) (k:=k) (n:=n) (by omega) (by omega) (by omega) (by omega)
 omega
theorem kids_len (S:List Int)(m:Int):(kids n A S m).length<=A.length:=by
 unfold kids
 exact Nat.le_trans (List.length_filter_le _ _) (by rw[List.length_map]; exact Nat.le_refl _)
theorem Good.kid (h:Beat n A){S:List Int}{m s:Int}(g:Good n A S)(hm:m∈fre n (kz n A S))(hs:s∈kids n A S m):Good n A (S++[s])/\∃ x∈A,(x+s)%n=m:=by
 have hp:=h.pos
 obtain⟨hm1,hm2⟩:=mem_fre.mp hm
 obtain⟨⟨x,hx,rfl⟩,hfr⟩:=mem_kids.mp hs
 have hsr:0<=(m-x)%n/\(m-x)%n<n:=mod_rg (by omega)
 have hxm:(x+(m-x)%n)%n=m:=add_back hm1
 have hnot:(m-x)%n∉S:=fun z=>hm2 (mem_kz.mpr ⟨_,z,x,hx,hxm⟩)
 refine⟨⟨fun t ht=>?_,List.nodup_append.mpr ⟨g.nd,by simp,fun a ha b hb e=>?_⟩,fun y hy z hz t ht u hu e=>?_⟩,x,hx,hxm⟩
 ·rcases List.mem_append.mp ht with ht|ht
  ·exact g.rg t ht
  ·simp at ht; subst ht; exact hsr
 ·simp at hb; subst hb; subst e; exact hnot ha
 ·rcases List.mem_append.mp ht with ht|ht <;>rcases List.mem_append.mp hu with hu|hu
  ·exact g.inj y hy z hz t ht u hu e
  ·simp at hu; subst hu
   exact absurd (mem_kz.mpr ⟨t,ht,y,hy,e⟩) (hfr z hz)
  ·simp at ht; subst ht
   exact absurd (mem_kz.mpr ⟨u,hu,z,hz,e.symm⟩) (hfr y hy)
  ·simp at ht hu; subst ht; subst hu
   exact⟨mod_inj (by omega) (h.rg y hy) (h.rg z hz) e,rfl⟩
noncomputable def dfs (n:Int)(A:List Int):Nat->List Int->List (List Int)
 | 0,_=>[]
 | d+1,S=>match fre n (kz n A S) with
  | []=>[isort S]
  | m::_=>(kids n A S m).flatMap fun s=>dfs n A d (S++[s])
noncomputable def cas (n:Int)(A:List Int):Nat->List Int->Nat
 | 0,_=>0
 | d+1,S=>match fre n (kz n A S) with
  | []=>1
  | m::_=>1+((kids n A S m).map fun s=>cas n A d (S++[s])).sum
theorem Good.fill (h:Beat n A){S:List Int}(g:Good n A S)(ne:S≠[])(hf:fre n (kz n A S)=[]):Fill n A (isort S):=by
 have hp:=h.pos
 have hl:=(fre_nil (by omega) (kz_nd S) (kz_rg (by omega))).mp hf
 rw[g.len h.nd] at hl
 refine⟨h,sort_beat ne g.nd g.rg,by rw[isort_len]; exact hl,fun x hx y hy s hs t ht e=>?_⟩
 exact g.inj x hx y hy s ((isort_perm S).mem_iff.mp hs) t ((isort_perm S).mem_iff.mp ht) e
theorem dfs_sound (h:Beat n A):∀ (d:Nat) (S:List Int),Good n A S->S≠[]->∀ B∈dfs n A d S,Fill n A B/\∀ s∈S,s∈B
 | 0,S,_,_,B,hB=>by simp[dfs] at hB
 | d+1,S,g,ne,B,hB=>by
  unfold dfs at hB
  split at hB
  ·rename_i hf
   simp at hB; subst hB
   exact⟨g.fill h ne hf,fun s hs=>(isort_perm S).mem_iff.mpr hs⟩
  ·rename_i m r hf
   obtain⟨s,hs,hB⟩:=List.mem_flatMap.mp hB
   have hm:m∈fre n (kz n A S):=by rw[hf]; exact List.mem_cons_self ..
   obtain⟨f1,f2⟩:=dfs_sound h d (S++[s]) (g.kid h hm hs).1 (by simp) B hB
   exact⟨f1,fun t ht=>f2 t (List.mem_append_left _ ht)⟩
theorem fill_good {B:List Int}(f:Fill n A B):Good n A B:=⟨f.oth.rg,f.oth.nd,f.inj⟩
theorem nodup_sub_len {S B:List Int}(nd:S.Nodup)(sub:∀ s∈S,s∈B):S.length<=B.length:=nd.length_le_of_subset sub
theorem dfs_all {B:List Int}(f:Fill n A B):∀ (d:Nat) (S:List Int),S.Nodup->(∀ s∈S,s∈B)->S≠[]->B.length-S.length<d->B∈dfs n A d S
 | 0,S,_,_,_,hd=>by omega
 | d+1,S,nd,sub,ne,hd=>by
  have h:=f.one
  have hp:=h.pos
  have g:Good n A S:=(fill_good f).less nd sub
  unfold dfs
  cases hf:fre n (kz n A S) with
  | nil =>
   have hl:=(fre_nil (by omega) (kz_nd S) (kz_rg (by omega))).mp hf
   rw[g.len h.nd] at hl
   have hlB:=f.len
   have e1:A.length*S.length=A.length*B.length:=by omega
   have e2:S.length=B.length:=Nat.eq_of_mul_eq_mul_left h.len1 e1
   have p:S.Perm B:=(List.perm_ext_iff_of_nodup nd f.oth.nd).mpr fun x=>⟨sub x,fun hx=>by
    by_cases z:x∈S
    ·exact z
    ·have:=nodup_sub_len (S:=x::S) (B:=B) (List.nodup_cons.mpr ⟨z,nd⟩) (fun s hs=>by
      rcases List.mem_cons.mp hs with rfl|hs
      ·exact hx
      ·exact sub s hs)
     rw[List.length_cons] at this
     omega⟩
   simp only[List.mem_singleton]
   rw[isort_of_perm p,f.oth.sorted]
  | cons m r =>
   have hm:m∈fre n (kz n A S):=by rw[hf]; exact List.mem_cons_self ..
   obtain⟨hm1,hm2⟩:=mem_fre.mp hm
   have hcov:m∈hits n A B:=f.perm.mem_iff.mpr (List.mem_map.mpr ⟨m.toNat,List.mem_range.mpr (by omega),by omega⟩)
   unfold hits at hcov
   obtain⟨b,hb,hcov⟩:=List.mem_flatMap.mp hcov
   obtain⟨x,hx,hxm⟩:=List.mem_map.mp hcov
   have hbr:=f.oth.rg b hb
   have hbS:b∉S:=fun z=>hm2 (mem_kz.mpr ⟨b,z,x,hx,hxm⟩)
   have hbk:(m-x)%n=b:=by
    have:(m-x)%n=b%n:=by
     rw[<- hxm]
     refine mod_eq_iff.mpr ⟨-((x+b)/n),?_⟩
     have:=Int.emod_add_mul_ediv (x+b) n
     rw[Int.mul_neg]; omega
    rw[this]
    exact Int.emod_eq_of_lt hbr.1 hbr.2
   have hk:b∈kids n A S m:=mem_kids.mpr ⟨⟨x,hx,hbk⟩,fun y hy z=>by
    obtain⟨t,ht,w,hw,e⟩:=mem_kz.mp z
    exact hbS ((f.inj y hy w hw b hb t (sub t ht) e.symm).2▸ht)⟩
   refine List.mem_flatMap.mpr ⟨b,hk,?_⟩
   have nd':(S++[b]).Nodup:=List.nodup_append.mpr ⟨nd,by simp,fun a ha c hc e=>by simp at hc; subst hc; subst e; exact hbS ha⟩
   have sub':∀ s∈S++[b],s∈B:=fun s hs=>by
    rcases List.mem_append.mp hs with hs|hs
    ·exact sub s hs
    ·simp at hs; subst hs; exact hb
   have:=nodup_sub_len nd' sub'
   rw[List.length_append,List.length_singleton] at this
   exact dfs_all f d (S++[b]) nd' sub' (by simp) (by rw[List.length_append,List.length_singleton]; omega)
theorem dfs_nd (h:Beat n A):∀ (d:Nat) (S:List Int),Good n A S->S≠[]->(dfs n A d S).Nodup
 | 0,S,_,_=>by simp[dfs]
 | d+1,S,g,ne=>by
  unfold dfs
  split
  ·simp
  ·rename_i m r hf
   have hm:m∈fre n (kz n A S):=by rw[hf]; exact List.mem_cons_self ..
   show List.Pairwise _ _
   rw[List.pairwise_flatMap]
   refine⟨fun s hs=>dfs_nd h d (S++[s]) (g.kid h hm hs).1 (by simp),?_⟩
   have key:∀ s∈kids n A S m,∀ t∈kids n A S m,s≠t->∀ x∈dfs n A d (S++[s]),∀ y∈dfs n A d (S++[t]),x≠y:=by
    intro s hs t ht hst x hx y hy e
    subst e
    obtain⟨g1,u,hu,e1⟩:=g.kid h hm hs
    obtain⟨g2,v,hv,e2⟩:=g.kid h hm ht
    obtain⟨f1,f2⟩:=dfs_sound h d _ g1 (by simp) x hx
    obtain⟨_,f3⟩:=dfs_sound h d _ g2 (by simp) x hy
    exact hst (f1.inj u hu v hv s (f2 s (by simp)) t (f3 t (by simp)) (e1.trans e2.symm)).2
   have nd:=kids_nd h (S:=S) (m:=m)
   generalize kids n A S m=ks at key nd
   clear hf hm g
   induction ks with
   | nil=>exact .nil
   | cons a r ih =>
    obtain⟨n1,n2⟩:=List.nodup_cons.mp nd
    refine List.pairwise_cons.mpr ⟨fun b hb x hx y hy=>key a (List.mem_cons_self ..) b (List.mem_cons_of_mem _ hb) (fun e=>n1 (e▸hb)) x hx y hy,ih (fun s hs t ht=>key s (List.mem_cons_of_mem _ hs) t (List.mem_cons_of_mem _ ht)) n2⟩
noncomputable def bnd (a:Nat):Nat->Nat
 | 0=>1
 | r+1=>1+a*bnd a r
theorem sum_le {f:Int->Nat}{b:Nat}:∀ (l:List Int),(∀ s∈l,f s<=b)->(l.map f).sum<=l.length*b
 | [],_=>by simp
 | s::r,h=>by
  have:=sum_le r fun t ht=>h t (List.mem_cons_of_mem _ ht)
  have:=h s (List.mem_cons_self ..)
  rw[List.map_cons,List.sum_cons,List.length_cons,Nat.succ_mul]
  omega
theorem cas_le (h:Beat n A):∀ (d:Nat) (S:List Int),cas n A d S<=bnd A.length (d-1)
 | 0,S=>by simp[cas,bnd]
 | d+1,S=>by
  unfold cas
  split
  ·show 1<=bnd A.length d
   cases d <;>simp[bnd]
  ·rename_i m r _
   cases d with
   | zero =>
    have:=sum_le (f:=fun s=>cas n A 0 (S++[s])) (b:=0) (kids n A S m) fun s _=>Nat.le_refl _
    show 1+_<=1
    omega
   | succ d =>
    have:=sum_le (f:=fun s=>cas n A (d+1) (S++[s])) (b:=bnd A.length d) (kids n A S m) fun s _=>cas_le h (d+1) (S++[s])
    have h2:=Nat.mul_le_mul_right (bnd A.length d) (kids_len (n:=n) (A:=A) S m)
    show 1+_<=1+A.length*bnd A.length d
    omega
theorem dfs_len (h:Beat n A):∀ (d:Nat) (S:List Int),(dfs n A d S).length<=A.length ^ (d-1)
 | 0,S=>by simp[dfs]
 | d+1,S=>by
  unfold dfs
  split
  ·show 1<=A.length ^ d
   exact Nat.one_le_pow _ _ h.len1
  ·rename_i m r _
   cases d with
   | zero =>
    rw[List.length_flatMap]
    have:=sum_le (f:=fun s=>(dfs n A 0 (S++[s])).length) (b:=0) (kids n A S m) fun s _=>Nat.le_refl _
    simp only[Nat.zero_add,Nat.sub_self,Nat.pow_zero]
    omega
   | succ d =>
    rw[List.length_flatMap]
    have:=sum_le (f:=fun s=>(dfs n A (d+1) (S++[s])).length) (b:=A.length ^ d) (kids n A S m) fun s _=>dfs_len h (d+1) (S++[s])
    have h2:=Nat.mul_le_mul_right (A.length ^ d) (kids_len (n:=n) (A:=A) S m)
    show _<=A.length ^ (d+1)
    rw[Nat.pow_succ,Nat.mul_comm]
    omega
end
end Wm
namespace Cw
open Dv (Out R RL cmD compGo eAllF eAnd eB1 eB2 eBl eCall eCm eComp eCompT eDict0 eDnin eFld eInt eIx eLst eNeg eNot eOp eOr eTup eVar forGo iRange iSeq iZip keepD lCons lNil opD rngOk sApp sAppG sCons sDPut sExpr sFor sForT sIf sNil sPut sRet sRetO sSet sSetG)
open Dv (D R RL EE EL EI RI Sl Out SS St)
open Bt
noncomputable abbrev L (xs:List Int):D:=.lst (xs.map .int)
theorem ints_L:∀ xs:List Int,Dv.intsOf (xs.map .int)=some xs
 | []=>rfl
 | x::r=>by simp[Dv.intsOf,ints_L r]
theorem flat_L:∀ xs:List Int,Dv.flatL (xs.map .int)=true
 | []=>rfl
 | x::r=>by simp[Dv.flatL,Dv.scal,flat_L r]
theorem in_L (i:Int):∀ xs:List Int,Dv.inD i (xs.map .int)=some (decide (i∈xs))
 | []=>by simp[Dv.inD]
 | x::r=>by
  rw[List.map_cons]
  unfold Dv.inD
  rw[in_L i r]
  by_cases h:x=i
  ·subst h; simp
  ·have h2:¬ i=x:=fun e=>h e.symm
   simp[h,h2]
theorem eq_LL:∀ a b:List Int,Dv.eqDL (a.map .int) (b.map .int)=some (decide (a=b))
 | [],[]=>rfl
 | [],_::_=>rfl
 | _::_,[]=>rfl
 | x::a,y::b=>by
  show (match (some (decide (x=y)):Option Bool),Dv.eqDL (a.map .int) (b.map .int) with|some p,some q=>some (p&&q)|_,_=>none)=_
  rw[eq_LL a b]
  show some (decide (x=y)&&decide (a=b))=_
  by_cases h:x=y <;>by_cases h2:a=b <;>simp[h,h2]
theorem eq_L (a b:List Int):Dv.eqD (L a) (L b)=some (decide (a=b)):=eq_LL a b
theorem eq_int (a b:Int):Dv.eqD (.int a) (.int b)=some (decide (a=b)):=rfl
theorem dep_L:∀ xs:List Int,Dv.depthL (xs.map .int)=0
 | []=>by simp[Dv.depthL]
 | x::r=>by rw[List.map_cons]; unfold Dv.depthL; rw[dep_L r]; simp[Dv.depthD]
theorem dep_LL (xs:List Int):Dv.depthD (L xs)=1:=by unfold Dv.depthD; rw[dep_L]
theorem dep_int (i:Int):Dv.depthD (.int i)=0:=by unfold Dv.depthD; rfl
theorem at_L {s:List Int}{k:Int}(h:0<=k)(h2:k<s.length):Dv.at? (s.map .int) k=some (.int (s.getD k.toNat 0)):=by
 unfold Dv.at?
 rw[if_pos h]
 have:k.toNat<s.length:=by omega
 simp[List.getElem?_map,List.getD_eq_getElem?_getD,List.getElem?_eq_getElem this]
theorem cm_eqL (a b:List Int):cmD .eq (L a) (L b)=.ok (.bl (decide (a=b))) true:=by
 simp only[Dv.cmD_eq,Dv.cmD_ne,Dv.cmD_lt,Dv.cmD_le,Dv.cmD_gt,Dv.cmD_ge,Dv.cmD_in,Dv.cmD_ni,Dv.cmD_it,Dv.cmD_nt,dep_LL,dep_LL,eq_L,Dv.optB,Option.map_some]; rfl
theorem cm_neL (a b:List Int):cmD .ne (L a) (L b)=.ok (.bl (!decide (a=b))) true:=by
 simp only[Dv.cmD_eq,Dv.cmD_ne,Dv.cmD_lt,Dv.cmD_le,Dv.cmD_gt,Dv.cmD_ge,Dv.cmD_in,Dv.cmD_ni,Dv.cmD_it,Dv.cmD_nt,dep_LL,dep_LL,eq_L,Dv.optB,Option.map_some]; rfl
theorem cm_eqI (a b:Int):cmD .eq (.int a) (.int b)=.ok (.bl (decide (a=b))) true:=by
 simp only[Dv.cmD_eq,Dv.cmD_ne,Dv.cmD_lt,Dv.cmD_le,Dv.cmD_gt,Dv.cmD_ge,Dv.cmD_in,Dv.cmD_ni,Dv.cmD_it,Dv.cmD_nt,dep_int,dep_int,eq_int,Dv.optB,Option.map_some]; rfl
theorem cm_neI (a b:Int):cmD .ne (.int a) (.int b)=.ok (.bl (!decide (a=b))) true:=by
 simp only[Dv.cmD_eq,Dv.cmD_ne,Dv.cmD_lt,Dv.cmD_le,Dv.cmD_gt,Dv.cmD_ge,Dv.cmD_in,Dv.cmD_ni,Dv.cmD_it,Dv.cmD_nt,dep_int,dep_int,eq_int,Dv.optB,Option.map_some]; rfl
theorem cm_eqN (a:List Int):cmD .eq (L a) (.lst [])=.ok (.bl (decide (a=[]))) true:=cm_eqL a []
theorem cm_notin (i:Int)(b:List Int):cmD .notin (.int i) (L b)=.ok (.bl (!decide (i∈b))) true:=by
 simp only[Dv.cmD_eq,Dv.cmD_ne,Dv.cmD_lt,Dv.cmD_le,Dv.cmD_gt,Dv.cmD_ge,Dv.cmD_in,Dv.cmD_ni,Dv.cmD_it,Dv.cmD_nt,in_L,Dv.optB,Option.map_some]
theorem cm_lt (a b:Int):cmD .lt (.int a) (.int b)=.ok (.bl (decide (a<b))) true:=rfl
theorem cm_le (a b:Int):cmD .le (.int a) (.int b)=.ok (.bl (decide (a<=b))) true:=rfl
theorem cm_gt (a b:Int):cmD .gt (.int a) (.int b)=.ok (.bl (decide (b<a))) true:=rfl
theorem cm_ge (a b:Int):cmD .ge (.int a) (.int b)=.ok (.bl (decide (b<=a))) true:=rfl
theorem mulOk_l {i j:Int}(h:-(2 ^ 64)<i)(h2:i<2 ^ 64):Dv.mulOk i j=true:=by
 have:Dv.bits i<=64:=by
  unfold Dv.bits
  split
  ·omega
  ·have h3:i.natAbs<2 ^ 64:=by omega
   have:=(Nat.log2_lt (by omega)).mpr h3
   omega
 simp[Dv.mulOk,this]
theorem mulOk_r {i j:Int}(h:-(2 ^ 64)<j)(h2:j<2 ^ 64):Dv.mulOk i j=true:=by
 have:Dv.bits j<=64:=by
  unfold Dv.bits
  split
  ·omega
  ·have h3:j.natAbs<2 ^ 64:=by omega
   have:=(Nat.log2_lt (by omega)).mpr h3
   omega
 simp[Dv.mulOk,this]
theorem mulOk_b {i j:Int}(h:Dv.bits i<=1048576)(h2:Dv.bits j<=1048576):Dv.mulOk i j=true:=by
 simp[Dv.mulOk,h,h2]
theorem bits_lt {i:Int}{k:Nat}(hk:0<k)(h:-(2 ^ k)<i)(h2:i<2 ^ k):Dv.bits i<=k:=by
 unfold Dv.bits
 split
 ·omega
 ·have h3:i.natAbs<2 ^ k:=by
   have e:((2 ^ k:Nat):Int)=2 ^ k:=by norm_cast
   omega
  have:=(Nat.log2_lt (by omega)).mpr h3
  omega
theorem mul_ok {i j:Int}(h:Dv.mulOk i j=true):opD .mul (.int i) (.int j)=.ok (.int (i*j)) true:=by
 simp[Dv.opD_ai,Dv.opD_al,Dv.opD_su,Dv.opD_mi,Dv.opD_ml,Dv.opD_mo,Dv.opD_fd,Dv.opD_po,Dv.opD_ba,Dv.opD_sh,h]
theorem mod_ok {i j:Int}(h:0<j):opD .mod (.int i) (.int j)=.ok (.int (i%j)) true:=by
 simp[Dv.opD_ai,Dv.opD_al,Dv.opD_su,Dv.opD_mi,Dv.opD_ml,Dv.opD_mo,Dv.opD_fd,Dv.opD_po,Dv.opD_ba,Dv.opD_sh,h]
theorem shr_ok {i j:Int}(h:0<=j):opD .shr (.int i) (.int j)=.ok (.int (i/2 ^ j.toNat)) true:=by
 simp[Dv.opD_ai,Dv.opD_al,Dv.opD_su,Dv.opD_mi,Dv.opD_ml,Dv.opD_mo,Dv.opD_fd,Dv.opD_po,Dv.opD_ba,Dv.opD_sh,h]
theorem divOk_of {j:Int}(h:0<j)(h2:j<2 ^ 200):Dv.divOk j=true:=by
 have h3:j.natAbs<2 ^ 200:=by omega
 have:=(Nat.log2_lt (by omega)).mpr h3
 simp only[Dv.divOk,Bool.and_eq_true,decide_eq_true_eq]
 omega
theorem fdiv_ok {i j:Int}(h:0<j)(h2:j<2 ^ 200):opD .fdiv (.int i) (.int j)=.ok (.int (i/j)) true:=by
 simp[Dv.opD_ai,Dv.opD_al,Dv.opD_su,Dv.opD_mi,Dv.opD_ml,Dv.opD_mo,Dv.opD_fd,Dv.opD_po,Dv.opD_ba,Dv.opD_sh,divOk_of h h2]
theorem add_ok (i j:Int):opD .add (.int i) (.int j)=.ok (.int (i+j)) true:=rfl
theorem sub_ok (i j:Int):opD .sub (.int i) (.int j)=.ok (.int (i-j)) true:=rfl
theorem cat_ok {a b:List Int}(h:a.length+b.length<=100000):opD .add (L a) (L b)=.ok (L (a++b)) true:=by
 simp[Dv.opD_ai,Dv.opD_al,Dv.opD_su,Dv.opD_mi,Dv.opD_ml,Dv.opD_mo,Dv.opD_fd,Dv.opD_po,Dv.opD_ba,Dv.opD_sh,Dv.mx,h,flat_L]
theorem rep_okZ {x n:Int}(h:-100000<=n)(h2:n<=100000):opD .mul (.lst [.int x]) (.int n)=.ok (L (List.replicate n.toNat x)) true:=by
 have h3:n.toNat<=100000:=by omega
 have e:(List.replicate n.toNat [D.int x]).flatten=(List.replicate n.toNat x).map D.int:=by
  generalize n.toNat=k
  induction k with
  | zero=>rfl
  | succ k ih=>rw[List.replicate_succ,List.flatten_cons,ih,List.replicate_succ,List.map_cons]; rfl
 simp[Dv.opD_ai,Dv.opD_al,Dv.opD_su,Dv.opD_mi,Dv.opD_ml,Dv.opD_mo,Dv.opD_fd,Dv.opD_po,Dv.opD_ba,Dv.opD_sh,Dv.mx,h,h2,h3,e,Dv.flatL,Dv.scal,L]
theorem rep_ok {x n:Int}(h:0<=n)(h2:n<=100000):opD .mul (.lst [.int x]) (.int n)=.ok (L (List.replicate n.toNat x)) true:=rep_okZ (by omega) h2
theorem sort_ok {xs:List Int}(h:xs.length<64)(f:Bool):Dv.sortedD (L xs) f=.ok (L (Dv.isort xs)) true:=by
 unfold Dv.sortedD; simp only[ints_L]; rw[if_pos h]
theorem get_no:Sl.get .no=none:=rfl
theorem get_dp (d:D):Sl.get (.dp d)=some d:=rfl
theorem get_sh (d:D):Sl.get (.sh d)=some d:=rfl
theorem get_ow (d:D):Sl.get (.ow d)=some d:=rfl
theorem give_sh (d:D):Sl.give (.sh d)=.sh d:=rfl
theorem give_ow (d:D):Sl.give (.ow d)=.sh d:=rfl
theorem shared_no:Sl.shared .no=none:=rfl
theorem shared_sh (d:D):Sl.shared (.sh d)=some d:=rfl
theorem shared_ow (d:D):Sl.shared (.ow d)=none:=rfl
theorem scal_int (i:Int):Dv.scal (.int i)=true:=rfl
theorem scal_lst (i:List D):Dv.scal (.lst i)=false:=rfl
theorem keep_int (i:Int)(f:Bool):keepD (.int i) f=some (.sh (.int i)):=rfl
theorem keep_nil:keepD (.lst []) true=some (.ow (.lst [])):=rfl
theorem keep_one (i:Int):keepD (.lst [.int i]) true=some (.ow (.lst [.int i])):=rfl
theorem keep_L (xs:List Int):keepD (L xs) true=some (.ow (L xs)):=by simp[keepD,flat_L]
theorem comp_L {elt cond:EE}{free:Dv.Env}{c:Int->Bool}{g:Int->Int}:∀ {xs:List Int},(∀ x∈xs,cond (some (.int x)::free)=.ok (.bl (c x)) true)->(∀ x∈xs,c x=true->elt (some (.int x)::free)=.ok (.int (g x)) true) ->
  compGo elt cond free (xs.map .int)=.ok (((xs.filter c).map g).map .int) true
 | [],_,_=>rfl
 | x::r,h,k=>by
  rw[List.map_cons]
  unfold compGo
  rw[h x (List.mem_cons_self ..),comp_L (c:=c) (g:=g) (fun y hy=>h y (List.mem_cons_of_mem _ hy)) fun y hy=>k y (List.mem_cons_of_mem _ hy)]
  cases e:c x with
  | true=>rw[k x (List.mem_cons_self ..) e]; simp[e]
  | false=>simp[e]
theorem comp_all {elt:EE}{free:Dv.Env}{g:Int->Int}{xs:List Int}(k:∀ x∈xs,elt (some (.int x)::free)=.ok (.int (g x)) true) :
  compGo elt (eBl true) free (xs.map .int)=.ok ((xs.map g).map .int) true:=by
 rw[comp_L (c:=fun _=>true) (g:=g) (fun _ _=>rfl) fun x hx _=>k x hx,List.filter_eq_self.mpr (fun _ _=>rfl)]
theorem eComp_all {elt:EE}{is:List Nat}{it:EI}{ρ:Dv.Env}{g:Int->Int}{xs:List Int}{f:Bool}(hi:it ρ=.ok (xs.map .int) f)(hl:xs.length<=100000)(k:∀ x∈xs,elt (some (.int x)::Dv.pick ρ is)=.ok (.int (g x)) true) :
  eComp elt (eBl true) is it ρ=.ok (L (xs.map g)) true:=by
 unfold eComp; rw[hi]; simp only[List.length_map,Dv.mx,hl,if_true,comp_all k]
theorem eComp_if {elt cond:EE}{is:List Nat}{it:EI}{ρ:Dv.Env}{c:Int->Bool}{g:Int->Int}{xs:List Int}{f:Bool}(hi:it ρ=.ok (xs.map .int) f)(hl:xs.length<=100000)(h:∀ x∈xs,cond (some (.int x)::Dv.pick ρ is)=.ok (.bl (c x)) true)
  (k:∀ x∈xs,c x=true->elt (some (.int x)::Dv.pick ρ is)=.ok (.int (g x)) true):eComp elt cond is it ρ=.ok (L ((xs.filter c).map g)) true:=by
 unfold eComp; rw[hi]; simp only[List.length_map,Dv.mx,hl,if_true,comp_L h k]
noncomputable def upto (n:Nat):List Int:=(List.range n).map fun (i:Nat)=>(i:Int)
theorem rangeL_eq (lo:Int):∀ n:Nat,Dv.rangeL lo n=((List.range n).map fun (i:Nat)=>lo+(i:Int)).map D.int
 | 0=>rfl
 | n+1=>by
  unfold Dv.rangeL
  rw[rangeL_eq (lo+1) n,List.range_succ_eq_map,List.map_cons,List.map_cons,List.map_map,List.map_map,List.map_map]
  simp only[Int.natCast_zero,Int.add_zero,List.cons.injEq,true_and]
  apply List.map_congr_left
  intro i _
  simp only[Function.comp,Int.natCast_succ]
  congr 1
  omega
theorem range_upto (n:Nat):Dv.rangeL 0 n=(upto n).map .int:=by rw[rangeL_eq]; simp[upto]
theorem upto_succ (n:Nat):upto (n+1)=upto n++[(n:Int)]:=by unfold upto; rw[List.range_succ,List.map_append]; rfl
theorem upto_len (n:Nat):(upto n).length=n:=by simp[upto]
theorem mem_upto {n:Nat}{x:Int}:x∈upto n ↔ 0<=x/\x<n:=by
 unfold upto
 rw[List.mem_map]
 constructor
 ·rintro ⟨i,hi,rfl⟩; have:=List.mem_range.mp hi; omega
 ·intro h; exact⟨x.toNat,List.mem_range.mpr (by omega),by omega⟩
theorem forGo_nx {x:Nat}{body:SS}{d:D}{r:List D}{st st':St}(h:body (st.set x (.sh d))=.nx st'):forGo x body (d::r) st=forGo x body r st':=by
 conv=>lhs; unfold forGo
 rw[h]
theorem forGoT_nx {tgt:D->St->Option St}{body:SS}{d:D}{r:List D}{st st1 st':St}(h0:tgt d st=some st1)(h:body st1=.nx st'):Dv.forGoT tgt body (d::r) st=Dv.forGoT tgt body r st':=by
 conv=>lhs; unfold Dv.forGoT
 rw[h0]; simp only[h]
theorem forGoT_ret {tgt:D->St->Option St}{body:SS}{d:D}{r:List D}{st st1:St}{v:D}{f:Bool}(h0:tgt d st=some st1)(h:body st1=.ret v f):Dv.forGoT tgt body (d::r) st=.ret v f:=by
 conv=>lhs; unfold Dv.forGoT
 rw[h0]; simp only[h]
set_option maxHeartbeats 1000000
theorem check_wheel_ok {n:Int}(h:1<=n)(h2:n<=60):F_Q04 [.int n]=.ok .non true:=by
 simp only[F_Q04,b_Q04,Dv.fn,sNil,sIf,eOr,eCm,eVar,eInt,Dv.all,R.bind,RL.bind,Out.bind,get_sh,scal_int,List.map_cons,List.map_nil,List.length_cons,List.length_nil,List.replicate,List.cons_append,List.nil_append,List.getElem?_cons_zero,Nat.reduceAdd,Nat.reduceSub,cm_lt,cm_gt,decide_eq_false (show ¬ n<1 by omega),decide_eq_false (show ¬ 60<n by omega)]
noncomputable def upFrom (b n:Int):List Int->Bool
 | []=>true
 | x::r=>decide (b<x)&&decide (x<n)&&upFrom x n r
theorem upFrom_iff:∀ {xs:List Int} {b n:Int},upFrom b n xs=true ↔ xs.Pairwise (·<·)/\∀ x∈xs,b<x/\x<n
 | [],b,n=>by simp[upFrom]
 | x::r,b,n=>by
  unfold upFrom
  rw[Bool.and_eq_true,Bool.and_eq_true,decide_eq_true_eq,decide_eq_true_eq,upFrom_iff,List.pairwise_cons]
  constructor
  ·rintro ⟨⟨h1,h2⟩,h3,h4⟩
   refine⟨⟨fun y hy=>(h4 y hy).1,h3⟩,fun y hy=>?_⟩
   rcases List.mem_cons.mp hy with rfl|hy
   ·exact⟨h1,h2⟩
   ·have:=h4 y hy; omega
  ·rintro ⟨⟨h1,h2⟩,h3⟩
   have:=h3 x (List.mem_cons_self ..)
   exact⟨this,h2,fun y hy=>⟨h1 y hy,(h3 y (List.mem_cons_of_mem _ hy)).2⟩⟩
theorem beat_iff {n:Int}{xs:List Int}:Beat n xs ↔ xs≠[]/\upFrom (-1) n xs=true:=by
 rw[upFrom_iff]
 constructor
 ·intro h; exact⟨h.ne,h.up,fun x hx=>by have:=h.rg x hx; omega⟩
 ·rintro ⟨h1,h2,h3⟩; exact⟨h1,h2,fun x hx=>by have:=h3 x hx; omega⟩
theorem check_beat_loop (n:Int)(A:D):∀ (xs:List Int) (b:Int) (z:Sl),upFrom b n xs=true->∃ st',forGo 3 b_Q03_l1 (xs.map .int) [.sh A,.sh (.int n),.sh (.int b),z]=.nx st'
 | [],b,z,_=>⟨_,rfl⟩
 | x::r,b,z,hu=>by
  unfold upFrom at hu
  rw[Bool.and_eq_true,Bool.and_eq_true,decide_eq_true_eq,decide_eq_true_eq] at hu
  obtain⟨⟨h1,h2⟩,h3⟩:=hu
  obtain⟨st',h⟩:=check_beat_loop n A r x (.sh (.int x)) h3
  refine⟨st',?_⟩
  rw[List.map_cons,forGo_nx (st':=[.sh A,.sh (.int n),.sh (.int x),.sh (.int x)]),h]
  simp only[b_Q03_l1,sCons,sNil,sSetG,Dv.give,Dv.open_,give_sh,shared_sh,sIf,eOr,eCm,eVar,Dv.all,R.bind,RL.bind,Out.bind,get_sh,scal_int,List.map_cons,List.map_nil,List.getElem?_cons_zero,List.getElem?_cons_succ,List.set_cons_zero,List.set_cons_succ,List.foldl_cons,List.foldl_nil,Option.getD_some,cm_le,cm_ge,decide_eq_false (show ¬ x<=b by omega),decide_eq_false (show ¬ n<=x by omega)]
theorem check_rising_ok {n:Int}{xs:List Int}(h1:xs≠[])(h:upFrom (-1) n xs=true):F_Q03 [L xs,.int n]=.ok .non true:=by
 obtain⟨st',e⟩:=check_beat_loop n (L xs) xs (-1) .no h
 have h1:¬ ((xs.length:Int)=0):=by
  have:=List.length_pos_iff.mpr h1
  omega
 simp only[F_Q03,b_Q03,b_Q03_t2,b_Q03_t1,Dv.fn,sCons,sNil,sSet,keep_int,Dv.give,Dv.open_,give_sh,shared_no,shared_sh,sIf,sFor,iSeq,eB1,Dv.lenD,eNeg,eCm,eVar,eInt,Dv.all,R.bind,RL.bind,Out.bind,get_no,get_sh,scal_lst,List.map_cons,List.map_nil,List.length_cons,List.length_nil,List.replicate,List.cons_append,List.nil_append,List.getElem?_cons_zero,List.set_cons_zero,List.set_cons_succ,List.foldl_cons,List.foldl_nil,Option.getD_some,Nat.reduceAdd,Nat.reduceSub,cm_eqI,List.length_map,decide_eq_false h1,e]
theorem check_beat_ok {n:Int}{xs:List Int}(hn:n<=60)(h:Beat n xs):F_Q02 [.int n,L xs]=.ok .non true:=by
 have e:=check_rising_ok h.ne (beat_iff.mp h).2
 simp only[F_Q02,b_Q02,b_Q02_t1,Dv.fn,sCons,sExpr,eVar,lNil,lCons,eCall,Dv.all,R.bind,RL.bind,Dv.R.bindL,Dv.RL.bindL,Out.bind,get_sh,scal_int,scal_lst,List.map_cons,List.map_nil,List.length_cons,List.length_nil,List.replicate,List.cons_append,List.nil_append,List.getElem?_cons_zero,List.getElem?_cons_succ,Bool.and_true,Nat.reduceAdd,Nat.reduceSub,check_wheel_ok h.pos hn,e]
noncomputable def cell (s:List Int)(k:Int):Int :=
 if k<s.length then s.getD k.toNat 0 else
 if 0<s.length then
  (s.getD (k%s.length).toNat 0*48271+k*7919)%2147483647*((s.getD (k%s.length).toNat 0*48271+k*7919)%2147483647)%2147483629
 else (7919*k+5)*(7919*k+5)%2147483629
theorem cell_ok {s:List Int}{k:Int}(h:0<=k)(h2:k<=1000000):F_Q0D [L s,.int k]=.ok (.int (cell s k)) true:=by
 by_cases hk:k<(s.length:Int)
 ·simp only[F_Q0D,b_Q0D,b_Q0D_t3,b_Q0D_t2,b_Q0D_t1,Dv.fn,sCons,sIf,sRet,eB1,Dv.lenD,eIx,Dv.ixD,eCm,eVar,Dv.all,R.bind,RL.bind,Out.bind,get_no,get_sh,scal_int,scal_lst,List.map_cons,List.map_nil,List.length_cons,List.length_nil,List.replicate,List.cons_append,List.nil_append,List.getElem?_cons_zero,List.getElem?_cons_succ,Bool.or_true,Nat.reduceAdd,Nat.reduceSub,cm_lt,List.length_map,at_L h hk,decide_eq_true hk,cell,if_pos hk]
 ·by_cases hs:0<s.length
  ·have hs':(0:Int)<(s.length:Int):=by omega
   have hm:=mod_rg (n:=(s.length:Int)) (a:=k) hs'
   have hz:=mod_rg (n:=2147483647) (a:=s.getD (k%(s.length:Int)).toNat 0*48271+k*7919) (by omega)
   simp only[F_Q0D,b_Q0D,b_Q0D_t3,b_Q0D_t2,b_Q0D_t1,Dv.fn,sCons,sNil,sSet,keep_int,sIf,sRet,eB1,Dv.lenD,eIx,Dv.ixD,eCm,eOp,eVar,eInt,Dv.all,R.bind,RL.bind,Out.bind,get_no,get_sh,scal_int,scal_lst,List.map_cons,List.map_nil,List.length_cons,List.length_nil,List.replicate,List.cons_append,List.nil_append,List.getElem?_cons_zero,List.getElem?_cons_succ,List.set_cons_zero,List.set_cons_succ,Bool.or_true,Nat.reduceAdd,Nat.reduceSub,add_ok,cm_lt,cm_gt,List.length_map,decide_eq_false hk,cell,if_neg hk,if_pos hs,decide_eq_true hs',mod_ok hs',at_L hm.1 hm.2,mul_ok (mulOk_r (j:=48271) (by decide) (by decide)),mul_ok (mulOk_r (j:=7919) (by decide) (by decide)),mul_ok (mulOk_l (i:=7919) (by decide) (by decide)),mod_ok (j:=2147483647) (by decide),mod_ok (j:=2147483629) (by decide)]
   simp only[mul_ok (mulOk_l (i:=(s.getD (k%(s.length:Int)).toNat 0*48271+k*7919)%2147483647) (by omega) (by omega)),mod_ok (j:=2147483629) (by decide)]
  ·have hs':¬ (0:Int)<(s.length:Int):=by omega
   simp only[F_Q0D,b_Q0D,b_Q0D_t3,b_Q0D_t2,b_Q0D_t1,Dv.fn,sCons,sNil,sSet,keep_int,sIf,sRet,eB1,Dv.lenD,eCm,eOp,eVar,eInt,Dv.all,R.bind,RL.bind,Out.bind,get_no,get_sh,scal_int,scal_lst,List.map_cons,List.map_nil,List.length_cons,List.length_nil,List.replicate,List.cons_append,List.nil_append,List.getElem?_cons_zero,List.getElem?_cons_succ,List.set_cons_zero,List.set_cons_succ,Nat.reduceAdd,Nat.reduceSub,add_ok,cm_lt,cm_gt,List.length_map,decide_eq_false hk,cell,if_neg hk,if_neg hs,decide_eq_false hs',mul_ok (mulOk_l (i:=7919) (by decide) (by decide)),mul_ok (mulOk_l (i:=7919*k+5) (by omega) (by omega)),mod_ok (j:=2147483629) (by decide)]
noncomputable def Sm (s:List Int):Prop:=∀ x∈s,Dv.bits x<=1048576
theorem getD_mem {s:List Int}{i:Nat}(h:i<s.length):s.getD i 0∈s:=by
 rw[List.getD_eq_getElem?_getD,List.getElem?_eq_getElem h]; exact List.getElem_mem h
theorem cell_bits {s:List Int}(hs:Sm s){k:Int}(h:0<=k):Dv.bits (cell s k)<=1048576:=by
 have small:∀ a:Int,Dv.bits (a%2147483629)<=1048576:=fun a=>by
  have:=mod_rg (n:=2147483629) (a:=a) (by omega)
  have:=bits_lt (i:=a%2147483629) (k:=32) (by omega) (by omega) (by omega)
  omega
 unfold cell
 split
 ·exact hs _ (getD_mem (by omega))
 ·split
  ·exact small _
  ·exact small _
theorem mul_cell {s:List Int}(hs:Sm s){k j:Int}(h:0<=k)(hj:-(2 ^ 200)<j)(hj2:j<2 ^ 200):opD .mul (.int (cell s k)) (.int j)=.ok (.int (cell s k*j)) true :=
 mul_ok (mulOk_b (cell_bits hs h) (by have:=bits_lt (i:=j) (k:=200) (by omega) hj hj2; omega))
theorem whole_ok (x:Int):F_Q0M [.int x]=.ok (.bl true) true:=by
 simp only[F_Q0M,b_Q0M,Dv.fn,sRet,eB1,Dv.isIntD,Dv.isBoolD,eAnd,eNot,eVar,Dv.all,R.bind,RL.bind,Out.bind,get_sh,scal_int,List.map_cons,List.map_nil,List.length_cons,List.length_nil,List.replicate,List.cons_append,List.nil_append,List.getElem?_cons_zero,Bool.not_false,Nat.reduceAdd,Nat.reduceSub]
theorem beat_is_loop:∀ (xs ys:List Int) (A B:D) (y z:Sl),xs.length=ys.length->∃ st',Dv.forGoT (Dv.tupTo [2,3]) b_Q0A_l1 (List.zipWith (fun x y=>D.tup [x,y]) (xs.map .int) (ys.map .int)) [.sh A,.sh B,y,z]=if xs=ys then .nx st' else .ret (.bl false) true
 | [],[],A,B,y,z,_=>⟨_,rfl⟩
 | [],_::_,A,B,y,z,h=>by simp at h
 | _::_,[],A,B,y,z,h=>by simp at h
 | x::xs,w::ys,A,B,y,z,h=>by
  obtain⟨st',e⟩:=beat_is_loop xs ys A B (.sh (.int x)) (.sh (.int w)) (by simpa using h)
  refine⟨st',?_⟩
  have h0:Dv.tupTo [2,3] (.tup [.int x,.int w]) [.sh A,.sh B,y,z]=some [.sh A,.sh B,.sh (.int x),.sh (.int w)]:=rfl
  rw[List.map_cons,List.map_cons,List.zipWith_cons_cons]
  by_cases hxw:x=w
  ·rw[forGoT_nx h0 (st':=[.sh A,.sh B,.sh (.int x),.sh (.int w)]),e]
   ·simp[hxw]
   ·simp only[b_Q0A_l1,sNil,sIf,eOr,eNot,eCm,eVar,lNil,lCons,eCall,Dv.all,R.bind,RL.bind,Dv.R.bindL,Dv.RL.bindL,Out.bind,get_sh,scal_int,List.map_cons,List.map_nil,List.getElem?_cons_zero,List.getElem?_cons_succ,Bool.and_true,Bool.not_true,cm_neI,whole_ok,decide_eq_true hxw]
  ·rw[forGoT_ret h0 (v:=.bl false) (f:=true)]
   ·simp[hxw]
   ·simp only[b_Q0A_l1,sIf,sRet,eOr,eNot,eCm,eVar,eBl,lNil,lCons,eCall,Dv.all,R.bind,RL.bind,Dv.R.bindL,Dv.RL.bindL,Out.bind,get_sh,scal_int,List.map_cons,List.map_nil,List.getElem?_cons_zero,List.getElem?_cons_succ,Bool.and_true,Bool.not_true,Bool.not_false,cm_neI,whole_ok,decide_eq_false hxw]
theorem beat_is_ok (xs ys:List Int):F_Q0A [L xs,L ys]=.ok (.bl (decide (xs=ys))) true:=by
 by_cases h:xs.length=ys.length
 ·obtain⟨st',e⟩:=beat_is_loop xs ys (L xs) (L ys) .no .no h
  have h1:(xs.length:Int)=ys.length:=by omega
  simp only[F_Q0A,b_Q0A,b_Q0A_t2,b_Q0A_t1,Dv.fn,sCons,sNil,Dv.give,Dv.open_,give_sh,shared_no,shared_sh,sIf,sRet,sForT,iZip,eB1,Dv.lenD,Dv.isListD,eOr,eNot,eCm,eVar,eBl,Dv.all,R.bind,RL.bind,Out.bind,get_no,get_sh,scal_lst,List.map_cons,List.map_nil,List.length_cons,List.length_nil,List.replicate,List.cons_append,List.nil_append,List.getElem?_cons_zero,List.getElem?_cons_succ,List.set_cons_zero,List.set_cons_succ,List.foldl_cons,List.foldl_nil,Option.getD_some,Bool.not_true,Nat.reduceAdd,Nat.reduceSub,decide_true,cm_neI,List.length_map,h1,e]
  by_cases h2:xs=ys
  ·simp[h2]
  ·simp[h2]
 ·have h1:¬ (xs.length:Int)=ys.length:=by omega
  have h2:¬ xs=ys:=fun z=>h (by rw[z])
  simp only[F_Q0A,b_Q0A,b_Q0A_t2,b_Q0A_t1,Dv.fn,sCons,sIf,sRet,eB1,Dv.lenD,Dv.isListD,eOr,eNot,eCm,eVar,eBl,Dv.all,R.bind,RL.bind,Out.bind,get_no,get_sh,scal_lst,List.map_cons,List.map_nil,List.length_cons,List.length_nil,List.replicate,List.cons_append,List.nil_append,List.getElem?_cons_zero,List.getElem?_cons_succ,Bool.not_true,Bool.not_false,Nat.reduceAdd,Nat.reduceSub,cm_neI,List.length_map,decide_eq_false h1,decide_eq_false h2]
theorem app_L (xs:List Int)(p:Int):xs.map D.int++[.int p]=(xs++[p]).map D.int:=by simp
noncomputable def bitOf (bits share p:Int):Int :=
 if share=4 then (if bits/2 ^ ((p+7)%61).toNat%2 > bits/2 ^ p.toNat%2 then bits/2 ^ ((p+7)%61).toNat%2 else bits/2 ^ p.toNat%2)
 else if share=3 then bits/2 ^ p.toNat%2*(bits/2 ^ ((p+7)%61).toNat%2) else bits/2 ^ p.toNat%2
theorem some_body {bits share p:Int}(hp:0<=p){found:List Int}(hl:found.length<=1000)(A B C:D)(z:Sl) :
  ∃ z',b_Q0K_l1 [.sh A,.sh B,.sh C,.sh (.int bits),.sh (.int share),.ow (L found),.sh (.int p),z]=.nx [.sh A,.sh B,.sh C,.sh (.int bits),.sh (.int share),.ow (L (if bitOf bits share p=1 then found++[p] else found)),.sh (.int p),z']:=by
 have hm:=mod_rg (n:=61) (a:=p+7) (by omega)
 have hx:found.length<Dv.mx:=by unfold Dv.mx; omega
 have h2:(0:Int)<2:=by omega
 have hb:=mod_rg (n:=2) (a:=bits/2 ^ p.toNat) (by omega)
 have go:∀ b:Int,bitOf bits share p=b->(∃ z',sIf (eCm .eq (eVar 7) (eInt 1)) (sApp 5 (eVar 6)) sNil [.sh A,.sh B,.sh C,.sh (.int bits),.sh (.int share),.ow (L found),.sh (.int p),.sh (.int b)]=.nx [.sh A,.sh B,.sh C,.sh (.int bits),.sh (.int share),.ow (L (if bitOf bits share p=1 then found++[p] else found)),.sh (.int p),z']):=by
  intro b e
  refine⟨.sh (.int b),?_⟩
  rw[e]
  by_cases h1:b=1
  ·simp only[sIf,sApp,eCm,eVar,eInt,Dv.all,R.bind,RL.bind,Out.bind,get_sh,get_ow,scal_int,List.map_cons,List.map_nil,List.getElem?_cons_zero,List.getElem?_cons_succ,List.set_cons_zero,List.set_cons_succ,Bool.and_true,if_true,cm_eqI,List.length_map,decide_eq_true h1,decide_eq_true hx,if_pos h1,app_L,L]
  ·simp only[sNil,sIf,eCm,eVar,eInt,Dv.all,R.bind,RL.bind,Out.bind,get_sh,get_ow,scal_int,List.map_cons,List.map_nil,List.getElem?_cons_zero,List.getElem?_cons_succ,cm_eqI,decide_eq_false h1,if_neg h1,L]
 by_cases h3:share=3
 ·have h4:¬ share=4:=by omega
  obtain⟨z',e⟩:=go (bits/2 ^ p.toNat%2*(bits/2 ^ ((p+7)%61).toNat%2)) (by simp[bitOf,h3])
  refine⟨z',e▸?_⟩
  simp only[b_Q0K_l1,sCons,sNil,sSet,keep_int,sIf,sApp,eCm,eOp,eVar,eInt,Dv.all,R.bind,RL.bind,Out.bind,get_sh,get_ow,scal_int,List.map_cons,List.map_nil,List.getElem?_cons_zero,List.getElem?_cons_succ,List.set_cons_zero,List.set_cons_succ,Bool.true_and,add_ok,cm_eqI,List.length_map,shr_ok hp,shr_ok hm.1,mod_ok h2,mod_ok (j:=61) (by decide),decide_eq_true h3,decide_eq_false h4,mul_ok (mulOk_l (i:=bits/2 ^ p.toNat%2) (by omega) (by omega))]
 ·by_cases h4:share=4
  ·obtain⟨z',e⟩:=go (if bits/2 ^ ((p+7)%61).toNat%2 > bits/2 ^ p.toNat%2 then bits/2 ^ ((p+7)%61).toNat%2 else bits/2 ^ p.toNat%2) (by simp[bitOf,h4])
   refine⟨z',e▸?_⟩
   simp only[b_Q0K_l1,sCons,sNil,sSet,keep_int,sIf,sApp,eB2,Dv.max2D,eCm,eOp,eVar,eInt,Dv.all,R.bind,RL.bind,Out.bind,get_sh,get_ow,scal_int,List.map_cons,List.map_nil,List.getElem?_cons_zero,List.getElem?_cons_succ,List.set_cons_zero,List.set_cons_succ,Bool.true_and,add_ok,cm_eqI,List.length_map,shr_ok hp,shr_ok hm.1,mod_ok h2,mod_ok (j:=61) (by decide),decide_eq_false h3,decide_eq_true h4]
  ·obtain⟨z',e⟩:=go (bits/2 ^ p.toNat%2) (by simp[bitOf,h3,h4])
   refine⟨z',e▸?_⟩
   simp only[b_Q0K_l1,sCons,sNil,sSet,keep_int,sIf,sApp,eCm,eOp,eVar,eInt,Dv.all,R.bind,RL.bind,Out.bind,get_sh,get_ow,scal_int,List.map_cons,List.map_nil,List.getElem?_cons_zero,List.getElem?_cons_succ,List.set_cons_zero,List.set_cons_succ,Bool.true_and,cm_eqI,List.length_map,shr_ok hp,shr_ok hm.1,mod_ok h2,mod_ok (j:=61) (by decide),decide_eq_false h3,decide_eq_false h4]
theorem some_loop {bits share:Int}(A B C:D):∀ (xs found:List Int) (y z:Sl),(∀ x∈xs,0<=x)->xs.length+found.length<=1000 ->
  ∃ y' z',forGo 6 b_Q0K_l1 (xs.map .int) [.sh A,.sh B,.sh C,.sh (.int bits),.sh (.int share),.ow (L found),y,z]=.nx [.sh A,.sh B,.sh C,.sh (.int bits),.sh (.int share),.ow (L (found++xs.filter fun p=>decide (bitOf bits share p=1))),y',z']
 | [],found,y,z,_,_=>⟨y,z,by simp[forGo]⟩
 | p::r,found,y,z,h,hl=>by
  rw[List.length_cons] at hl
  obtain⟨z1,e⟩:=some_body (bits:=bits) (share:=share) (h p (List.mem_cons_self ..)) (found:=found) (by omega) A B C z
  have hlen:(if bitOf bits share p=1 then found++[p] else found).length<=found.length+1:=by split <;>simp
  obtain⟨y',z',e2⟩:=some_loop A B C r (if bitOf bits share p=1 then found++[p] else found) (.sh (.int p)) z1 (fun x hx=>h x (List.mem_cons_of_mem _ hx)) (by omega)
  refine⟨y',z',?_⟩
  rw[List.map_cons,forGo_nx (st':=[.sh A,.sh B,.sh C,.sh (.int bits),.sh (.int share),.ow (L (if bitOf bits share p=1 then found++[p] else found)),.sh (.int p),z1]),e2]
  ·by_cases hb:bitOf bits share p=1
   ·simp[hb,List.filter_cons]
   ·simp[hb,List.filter_cons]
  ·simp only[List.set_cons_succ,List.set_cons_zero]; exact e
theorem upto_up (n:Nat):(upto n).Pairwise (·<·):=by
 unfold upto
 exact List.pairwise_map.mpr (List.pairwise_lt_range.imp fun {a b} h=>by omega)
theorem upto_nonneg {n:Nat}:∀ x∈upto n,(0:Int)<=x:=fun x hx=>(mem_upto.mp hx).1
noncomputable def someOf (s:List Int)(k n:Int):List Int :=
 if ((upto n.toNat).filter fun p=>decide (bitOf (cell s k*618970019642690137449562111%2305843009213693951) (cell s (k+1)%5) p=1))=[] then [cell s (k+1)/5%n]
 else (upto n.toNat).filter fun p=>decide (bitOf (cell s k*618970019642690137449562111%2305843009213693951) (cell s (k+1)%5) p=1)
theorem rng_ok {n:Int}(h:0<=n)(h2:n<=1000):rngOk n=true:=by
 simp only[rngOk,Bool.and_eq_true,decide_eq_true_eq]; omega
theorem some_okW {s:List Int}(hs:Sm s){k n:Int}(hk:0<=k)(hk2:k<=1000)(hn:1<=n)(hn2:n<=61):F_Q0K [L s,.int k,.int n]=.ok (L (someOf s k n)) true:=by
 obtain⟨y,z,e⟩:=some_loop (bits:=cell s k*618970019642690137449562111%2305843009213693951) (share:=cell s (k+1)%5) (L s) (.int k) (.int n) (upto n.toNat) [] .no .no upto_nonneg (by rw[upto_len]; simp; omega)
 have hx:(0:Nat)<Dv.mx:=by decide
 by_cases hf:((upto n.toNat).filter fun p=>decide (bitOf (cell s k*618970019642690137449562111%2305843009213693951) (cell s (k+1)%5) p=1))=[]
 ·rw[hf] at e
  unfold someOf
  rw[if_pos hf]
  simp only[List.map_nil,L,List.append_nil] at e
  simp only[F_Q0K,b_Q0K,b_Q0K_t5,b_Q0K_t4,b_Q0K_t3,b_Q0K_t2,b_Q0K_t1,Dv.fn,sCons,sNil,sSet,keep_int,keep_nil,Dv.give,Dv.open_,shared_no,shared_sh,shared_ow,sIf,sRetO,sApp,sFor,iRange,eCm,eOp,eVar,eInt,eLst,lNil,lCons,eCall,Dv.all,R.bind,RL.bind,Dv.R.bindL,Dv.RL.bindL,Out.bind,get_no,get_sh,get_ow,scal_int,scal_lst,List.map_cons,List.map_nil,List.length_cons,List.length_nil,List.replicate,List.cons_append,List.nil_append,List.getElem?_cons_zero,List.getElem?_cons_succ,List.set_cons_zero,List.set_cons_succ,List.foldl_nil,Bool.and_true,if_true,Nat.reduceAdd,Nat.reduceSub,add_ok,cell_ok hk (show k<=1000000 by omega),cell_ok (s:=s) (k:=k+1) (by omega) (by omega),mul_cell hs hk (j:=618970019642690137449562111) (by decide) (by decide),mod_ok (j:=2305843009213693951) (by decide),mod_ok (j:=5) (by decide),rng_ok (n:=n) (by omega) (by omega),range_upto,Dv.flatL,e,fdiv_ok (j:=5) (by decide) (by decide),mod_ok (show (0:Int)<n by omega),decide_eq_true hx]
  have q:cmD .eq (.lst []) (.lst [])=.ok (.bl true) true:=cm_eqL [] []
  simp only[q,scal_int,List.getElem?_cons_zero,List.getElem?_cons_succ,Bool.and_true,decide_eq_true hx,Dv.flatL]
  all_goals rfl
 ·unfold someOf
  rw[if_neg hf]
  simp only[List.nil_append,List.map_nil,L] at e
  simp only[F_Q0K,b_Q0K,b_Q0K_t5,b_Q0K_t4,b_Q0K_t3,b_Q0K_t2,b_Q0K_t1,Dv.fn,sCons,sNil,sSet,keep_int,keep_nil,Dv.give,Dv.open_,shared_no,shared_sh,shared_ow,sIf,sRetO,sApp,sFor,iRange,eCm,eOp,eVar,eInt,eLst,lNil,lCons,eCall,Dv.all,R.bind,RL.bind,Dv.R.bindL,Dv.RL.bindL,Out.bind,get_no,get_sh,get_ow,scal_int,scal_lst,List.map_cons,List.map_nil,List.length_cons,List.length_nil,List.replicate,List.cons_append,List.nil_append,List.getElem?_cons_zero,List.getElem?_cons_succ,List.set_cons_zero,List.set_cons_succ,List.foldl_nil,Bool.and_true,if_true,Nat.reduceAdd,Nat.reduceSub,add_ok,cm_eqN,List.length_map,cell_ok hk (show k<=1000000 by omega),cell_ok (s:=s) (k:=k+1) (by omega) (by omega),mul_cell hs hk (j:=618970019642690137449562111) (by decide) (by decide),mod_ok (j:=2305843009213693951) (by decide),mod_ok (j:=5) (by decide),rng_ok (n:=n) (by omega) (by omega),range_upto,Dv.flatL,e]
  have q:=cm_eqN ((upto n.toNat).filter fun p=>decide (bitOf (cell s k*618970019642690137449562111%2305843009213693951) (cell s (k+1)%5) p=1))
  simp only[L] at q
  simp only[q,List.getElem?_cons_zero,List.getElem?_cons_succ,flat_L,decide_eq_false hf]
theorem some_ok {s:List Int}(hs:Sm s){k n:Int}(hk:0<=k)(hk2:k<=1000)(hn:1<=n)(hn2:n<=60):F_Q0K [L s,.int k,.int n]=.ok (L (someOf s k n)) true:=some_okW hs hk hk2 hn (by omega)
theorem some_beat (s:List Int)(k:Int){n:Int}(hn:1<=n):Beat n (someOf s k n):=by
 unfold someOf
 split
 ·exact⟨by simp,by simp,fun x hx=>by rw[List.mem_singleton] at hx; subst hx; exact mod_rg (by omega)⟩
 ·rename_i h
  exact⟨h,(upto_up _).filter _,fun x hx=>by have:=mem_upto.mp (List.mem_filter.mp hx).1; omega⟩
theorem turned_ok {n by_:Int}{xs:List Int}(hn:0<n)(hl:xs.length<64):F_Q0L [.int n,L xs,.int by_]=.ok (L (Dv.isort (xs.map fun x=>(x+by_)%n))) true:=by
 have hc:c_Q0L_1 [some (.int n),some (L xs),some (.int by_)]=.ok (L (xs.map fun x=>(x+by_)%n)) true:=by
  unfold c_Q0L_1
  exact eComp_all (f:=false) rfl (by omega) fun x hx=>by simp only[eOp,eVar,Dv.pick,R.bind,RL.bind,Out.bind,scal_int,List.map_cons,List.map_nil,List.getElem?_cons_zero,List.getElem?_cons_succ,Option.getD_some,add_ok,mod_ok hn]
 simp only[F_Q0L,b_Q0L,Dv.fn,sRet,eB1,Dv.all,R.bind,RL.bind,Out.bind,get_sh,List.map_cons,List.map_nil,List.length_cons,List.length_nil,List.replicate,List.cons_append,List.nil_append,Nat.reduceAdd,Nat.reduceSub,hc,sort_ok (xs:=xs.map fun x=>(x+by_)%n) (by simpa using hl)]
theorem again_fold (n:Int)(xs:List Int):∀ t:Nat,(upto t).foldl (fun a k=>a++xs.map (·+k*n)) []=again n xs t
 | 0=>rfl
 | t+1=>by rw[upto_succ,List.foldl_append,again_fold n xs t]; rfl
theorem again_loop {n t:Int}{xs:List Int}:∀ (ks found:List Int) (z:Sl),(∀ k∈ks,0<=k/\k<=1000)->found.length+ks.length*xs.length<=100000 ->
  ∃ z',forGo 4 b_Q08_l1 (ks.map .int) [.sh (.int n),.sh (L xs),.sh (.int t),.ow (L found),z]=.nx [.sh (.int n),.sh (L xs),.sh (.int t),.ow (L (ks.foldl (fun a k=>a++xs.map (·+k*n)) found)),z']
 | [],found,z,_,_=>⟨z,rfl⟩
 | k::r,found,z,h,hl=>by
  rw[List.length_cons,Nat.succ_mul] at hl
  have hk:=h k (List.mem_cons_self ..)
  have hc:c_Q08_1 [some (.int n),some (L xs),some (.int t),some (L found),some (.int k)]=.ok (L (xs.map (·+k*n))) true:=by
   unfold c_Q08_1
   exact eComp_all (f:=false) rfl (by omega) fun x hx=>by simp only[eOp,eVar,Dv.pick,R.bind,RL.bind,Out.bind,scal_int,List.map_cons,List.map_nil,List.getElem?_cons_zero,List.getElem?_cons_succ,Option.getD_some,add_ok,mul_ok (mulOk_l (i:=k) (j:=n) (by omega) (by omega))]
  obtain⟨z',e⟩:=again_loop (n:=n) (t:=t) (xs:=xs) r (found++xs.map (·+k*n)) (.sh (.int k)) (fun x hx=>h x (List.mem_cons_of_mem _ hx)) (by rw[List.length_append,List.length_map]; omega)
  refine⟨z',?_⟩
  rw[List.map_cons,forGo_nx (st':=[.sh (.int n),.sh (L xs),.sh (.int t),.ow (L (found++xs.map (·+k*n))),.sh (.int k)]),e]
  ·rfl
  ·simp only[b_Q08_l1,sSet,keep_L,eOp,eVar,Dv.all,R.bind,RL.bind,Out.bind,get_sh,get_ow,scal_lst,List.map_cons,List.map_nil,List.getElem?_cons_zero,List.getElem?_cons_succ,List.set_cons_zero,List.set_cons_succ,List.length_map,hc,cat_ok (a:=found) (b:=xs.map (·+k*n)) (by rw[List.length_map]; omega)]
theorem again_ok {n t:Int}{xs:List Int}(ht:0<=t)(ht2:t<=1000)(hl:xs.length<=60):F_Q08 [.int n,L xs,.int t]=.ok (L (again n xs t.toNat)) true:=by
 obtain⟨z,e⟩:=again_loop (n:=n) (t:=t) (xs:=xs) (upto t.toNat) [] .no (fun k hk=>by have:=mem_upto.mp hk; omega) (by
  rw[upto_len]
  have:t.toNat*xs.length<=1000*60:=Nat.mul_le_mul (by omega) hl
  simp; omega)
 rw[again_fold] at e
 simp only[List.map_nil,L] at e
 simp only[F_Q08,b_Q08,b_Q08_t2,b_Q08_t1,Dv.fn,sCons,sSet,keep_nil,Dv.give,Dv.open_,shared_no,shared_sh,shared_ow,sRetO,sFor,iRange,eVar,eLst,lNil,R.bind,RL.bind,Out.bind,scal_int,List.map_cons,List.map_nil,List.length_cons,List.length_nil,List.replicate,List.cons_append,List.nil_append,List.getElem?_cons_zero,List.getElem?_cons_succ,List.set_cons_zero,List.set_cons_succ,List.foldl_nil,if_true,Nat.reduceAdd,Nat.reduceSub,flat_L,Dv.flatL,rng_ok ht ht2,range_upto,e]
theorem sCons_nx {a r:SS}{st st1:St}(h:a st=.nx st1):sCons a r st=r st1:=by
 unfold sCons; rw[h]
noncomputable def Hs (s:Sl)(a:List Int):Prop:=s=.sh (L a)\/s=.ow (L a)
theorem Hs.get {s:Sl}{a:List Int}(h:Hs s a):s.get=some (L a):=by rcases h with h|h <;>(subst h; rfl)
theorem Hs.give {s:Sl}{a:List Int}(h:Hs s a):s.give=.sh (L a):=by rcases h with h|h <;>(subst h; rfl)
structure PairP (P:Int->List Int->List Int->Prop):Prop where
 one:P 1 [0] [0]
 beat:∀ {n a b},P n a b->Beat n a/\Beat n b
 again:∀ {n a b} {t:Nat},1<=t->P n a b->P (n*t) (again n a t) b
 mix:∀ {n a b} {t:Nat},1<=t->P n a b->P (n*t) (Dv.isort (mix a t t)) (b.map (·*(t:Int)))
 swap:∀ {n a b},P n a b->P n b a
 turn:∀ {n a b} (c:Int),P n a b->P n (Dv.isort (a.map fun x=>(x+c)%n)) b
theorem pairBeat:PairP (fun n a b=>Beat n a/\Beat n b) where
 one:=⟨⟨by simp,by simp,by simp⟩,⟨by simp,by simp,by simp⟩⟩
 beat:=fun h=>h
 again:=fun {n a b t} ht h=>⟨again_beat h.1 ht,h.2.ne,h.2.up,fun x hx=>by
  have h1:=h.2.rg x hx
  have h2:n*1<=n*(t:Int):=Int.mul_le_mul_of_nonneg_left (by omega) (by have:=h.2.pos; omega)
  omega⟩
 mix:=fun {n a b t} ht h=>⟨mix_beat h.1 ht,spread_beat h.2 (by omega)⟩
 swap:=fun h=>⟨h.2,h.1⟩
 turn:=fun c h=>⟨turn_beat h.1,h.2⟩
theorem mix_fold (xs:List Int)(t:Int):∀ j:Nat,(upto j).foldl (fun a k=>a++xs.map (·*t+k)) []=mix xs t j
 | 0=>rfl
 | j+1=>by rw[upto_succ,List.foldl_append,mix_fold xs t j]; rfl
section
variable {s:List Int}{k0 n t:Int}{a b:List Int}{sa sb z5 z6 z8:Sl}
end
theorem times_of (r:Int)(h:0<=r)(h2:r<7):∃ t:Nat,Dv.at? [.int 2,.int 3,.int 2,.int 5,.int 2,.int 3,.int 7] r=some (.int t)/\2<=t/\t<=7:=by
 have:r=0\/r=1\/r=2\/r=3\/r=4\/r=5\/r=6:=by omega
 rcases this with rfl|rfl|rfl|rfl|rfl|rfl|rfl
 ·exact⟨2,rfl,by omega,by omega⟩
 ·exact⟨3,rfl,by omega,by omega⟩
 ·exact⟨2,rfl,by omega,by omega⟩
 ·exact⟨5,rfl,by omega,by omega⟩
 ·exact⟨2,rfl,by omega,by omega⟩
 ·exact⟨3,rfl,by omega,by omega⟩
 ·exact⟨7,rfl,by omega,by omega⟩
theorem made_beat_ok {n:Int}{xs:List Int}(hn:1<=n)(hn2:n<=60)(hl:xs.length<64)(hb:Beat n (Dv.isort (xs.map (·%n)))):F_Q0N [.int n,L xs]=.ok (L (Dv.isort (xs.map (·%n)))) true:=by
 have hc:c_Q0N_1 [some (.int n),some (L xs),none]=.ok (L (xs.map (·%n))) true:=by
  unfold c_Q0N_1
  exact eComp_all (f:=false) rfl (by omega) fun x hx=>by simp only[eOp,eVar,Dv.pick,R.bind,RL.bind,Out.bind,scal_int,List.map_cons,List.map_nil,List.getElem?_cons_zero,List.getElem?_cons_succ,Option.getD_some,mod_ok (show (0:Int)<n by omega)]
 simp only[F_Q0N,b_Q0N,b_Q0N_t3,b_Q0N_t2,b_Q0N_t1,Dv.fn,sCons,sSet,keep_L,sRetO,sExpr,eB1,eVar,lNil,lCons,eCall,Dv.all,R.bind,RL.bind,Dv.R.bindL,Dv.RL.bindL,Out.bind,get_no,get_sh,get_ow,scal_int,scal_lst,List.map_cons,List.map_nil,List.length_cons,List.length_nil,List.replicate,List.cons_append,List.nil_append,List.getElem?_cons_zero,List.getElem?_cons_succ,List.set_cons_zero,List.set_cons_succ,Bool.and_true,Bool.and_false,Nat.reduceAdd,Nat.reduceSub,flat_L,check_wheel_ok hn hn2,hc,sort_ok (xs:=xs.map (·%n)) (by simpa using hl),check_beat_ok hn2 hb]
theorem turned_prog {n c:Int}{xs:List Int}(hn:n<=60)(h:Beat n xs):F_Q0Q [.int n,L xs,.int c]=.ok (L (Dv.isort (xs.map fun x=>(x+c)%n))) true:=by
 have hl:=h.len
 have hc:c_Q0Q_1 [some (.int n),some (L xs),some (.int c)]=.ok (L (xs.map (·+c))) true:=by
  unfold c_Q0Q_1
  exact eComp_all (f:=false) rfl (by omega) fun x hx=>by simp only[eOp,eVar,Dv.pick,R.bind,RL.bind,Out.bind,scal_int,List.map_cons,List.map_nil,List.getElem?_cons_zero,List.getElem?_cons_succ,Option.getD_some,add_ok]
 have e:(xs.map (·+c)).map (·%n)=xs.map fun x=>(x+c)%n:=by rw[List.map_map]; rfl
 have hm:=made_beat_ok (n:=n) (xs:=xs.map (·+c)) h.pos hn (by simp; omega) (by rw[e]; exact turn_beat h)
 rw[e] at hm
 simp only[F_Q0Q,b_Q0Q,b_Q0Q_t1,Dv.fn,sCons,sRet,sExpr,eVar,lNil,lCons,eCall,Dv.all,R.bind,RL.bind,Dv.R.bindL,Dv.RL.bindL,Out.bind,get_sh,scal_int,scal_lst,List.map_cons,List.map_nil,List.length_cons,List.length_nil,List.replicate,List.cons_append,List.nil_append,List.getElem?_cons_zero,List.getElem?_cons_succ,Bool.and_true,Bool.and_false,Nat.reduceAdd,Nat.reduceSub,check_beat_ok hn h,hc,hm]
theorem filled_in {n:Int}(hn:0<n)(A B:D)(s:Int)(beat:List Int)(c:List Int)(hc:c.length=n.toNat)(z y:Sl):∃ z' y',forGo 5 b_Q0E_l1 (beat.map .int) [.sh (.int n),.sh A,.sh B,.ow (L c),.sh (.int s),z,y] =
  .nx [.sh (.int n),.sh A,.sh B,.ow (L ((beat.map fun b=>(b+s)%n).foldl bump c)),.sh (.int s),z',y']:=by
 induction beat generalizing c z y with
 | nil=>exact⟨z,y,rfl⟩
 | cons b r ih =>
  have hm:=mod_rg (n:=n) (a:=s+b) hn
  have hcm:(s+b)%n=(b+s)%n:=by rw[Int.add_comm]
  have hk:(s+b)%n<(c.length:Int):=by omega
  obtain⟨z',y',e⟩:=ih (bump c ((b+s)%n)) (by rw[bump_len]; exact hc) (.sh (.int b)) (.sh (.int ((s+b)%n)))
  refine⟨z',y',?_⟩
  have e2:(c.map D.int).set ((s+b)%n).toNat (.int (c.getD ((s+b)%n).toNat 0+1))=(bump c ((b+s)%n)).map D.int:=by
   unfold bump; rw[List.map_set,hcm]
  rw[List.map_cons,List.map_cons,List.foldl_cons,forGo_nx (st':=[.sh (.int n),.sh A,.sh B,.ow (L (bump c ((b+s)%n))),.sh (.int s),.sh (.int b),.sh (.int ((s+b)%n))])]
  ·exact e
  ·simp only[b_Q0E_l1,sCons,sSet,keep_int,sPut,eIx,Dv.ixD,eOp,eVar,eInt,Dv.all,R.bind,RL.bind,Out.bind,get_sh,get_ow,scal_int,scal_lst,List.map_cons,List.map_nil,List.getElem?_cons_zero,List.getElem?_cons_succ,List.set_cons_zero,List.set_cons_succ,Bool.or_true,Bool.and_true,if_true,add_ok,List.length_map,mod_ok hn,at_L hm.1 hk,decide_eq_true hm.1,decide_eq_true hk,e2]
theorem filled_out {n:Int}(hn:0<n)(B:D)(beat:List Int)(starts:List Int)(c:List Int)(hc:c.length=n.toNat)(z y x:Sl):∃ z' y' x',forGo 4 b_Q0E_l2 (starts.map .int) [.sh (.int n),.sh (L beat),.sh B,.ow (L c),z,y,x] =
  .nx [.sh (.int n),.sh (L beat),.sh B,.ow (L ((hits n beat starts).foldl bump c)),z',y',x']:=by
 induction starts generalizing c z y x with
 | nil=>exact⟨z,y,x,rfl⟩
 | cons s r ih =>
  obtain⟨y1,x1,e1⟩:=filled_in hn (L beat) B s beat c hc y x
  obtain⟨z',y',x',e⟩:=ih ((beat.map fun b=>(b+s)%n).foldl bump c) (by rw[foldl_bump_len]; exact hc) (.sh (.int s)) y1 x1
  refine⟨z',y',x',?_⟩
  have e3:hits n beat (s::r)=(beat.map fun b=>(b+s)%n)++hits n beat r:=by simp[hits]
  rw[e3,List.foldl_append,List.map_cons]
  rw[forGo_nx (st':=[.sh (.int n),.sh (L beat),.sh B,.ow (L ((beat.map fun b=>(b+s)%n).foldl bump c)),.sh (.int s),y1,x1])]
  ·exact e
  ·simp only[b_Q0E_l2,Dv.give,Dv.open_,give_sh,shared_sh,shared_ow,sFor,iSeq,eVar,scal_lst,List.map_cons,List.map_nil,List.getElem?_cons_zero,List.getElem?_cons_succ,List.set_cons_zero,List.set_cons_succ,List.foldl_cons,List.foldl_nil,Option.getD_some,e1]
theorem filled_ok {n:Int}{beat starts:List Int}(hn:0<n)(hn2:n<=60):F_Q0E [.int n,L beat,L starts]=.ok (.bl (decide (tally n.toNat (hits n beat starts)=List.replicate n.toNat 1))) true:=by
 obtain⟨z,y,x,e⟩:=filled_out (n:=n) hn (L starts) beat starts (List.replicate n.toNat 0) (by simp) .no .no .no
 simp only[F_Q0E,b_Q0E,b_Q0E_t2,b_Q0E_t1,Dv.fn,sCons,sSet,keep_L,Dv.give,Dv.open_,give_sh,shared_no,shared_sh,shared_ow,sRet,sFor,iSeq,eCm,eOp,eVar,eInt,eLst,lNil,lCons,Dv.all,R.bind,RL.bind,Dv.R.bindL,Dv.RL.bindL,Out.bind,get_no,get_sh,get_ow,scal_int,scal_lst,List.map_cons,List.map_nil,List.length_cons,List.length_nil,List.replicate,List.cons_append,List.nil_append,List.getElem?_cons_zero,List.getElem?_cons_succ,List.set_cons_zero,List.set_cons_succ,List.foldl_cons,List.foldl_nil,Option.getD_some,Bool.and_true,Nat.reduceAdd,Nat.reduceSub,cm_eqL,rep_ok (x:=0) (show 0<=n by omega) (show n<=100000 by omega),rep_ok (x:=1) (show 0<=n by omega) (show n<=100000 by omega),e]
 all_goals rfl
open Dv (D R RL EE EL EI RI Sl Out SS St Wy An Cs Ws WR Wk)
open Bt Wm
section
variable {n:Int}{A:List Int}
noncomputable def wy (n:Int)(A:List Int)(s:Int):Wy:=⟨.int s,Tf n A s⟩
theorem wy_d (s:Int):(wy n A s).d=.tup [.int s,L (Tf n A s)]:=rfl
theorem repl_len:∀ (ks:List Int) (ds:List D) (j:Int) (x:D),(Dv.replL ks ds j x).length=ds.length
 | [],ds,j,x=>by unfold Dv.replL; rfl
 | _::_,[],j,x=>by unfold Dv.replL; rfl
 | k::ks,d::ds,j,x=>by unfold Dv.replL; simp[repl_len ks ds j x]
theorem put_len {ks:List Int}{ds:List D}{j:Int}{x:D}(h:ks.length=ds.length):(Dv.putKs ks j).length=(Dv.putL ks ds j x).length:=by
 unfold Dv.putKs Dv.putL
 split
 ·rw[repl_len]; exact h
 ·simp[h]
theorem put_le (ks:List Int)(j:Int):(Dv.putKs ks j).length<=ks.length+1:=by
 unfold Dv.putKs
 split <;>simp
theorem fill_in {a b:D}{c:Sl}:∀ (ps ks:List Int) (ds:List D) (z:Sl),ks.length=ds.length->ks.length+ps.length<100000 ->
  ∃ ds' z',forGo 4 b_Q0P_l1 (ps.map .int) [.sh a,.ow (.dct ks ds),.sh b,c,z]=.nx [.sh a,.ow (.dct (ps.foldl Dv.putKs ks) ds'),.sh b,c,z']/\(ps.foldl Dv.putKs ks).length=ds'.length
 | [],ks,ds,z,h,_=>⟨ds,z,rfl,h⟩
 | p::r,ks,ds,z,h,hl=>by
  rw[List.length_cons] at hl
  have:=put_le ks p
  obtain⟨ds',z',e,h'⟩:=fill_in r (Dv.putKs ks p) (Dv.putL ks ds p (.bl true)) (.sh (.int p)) (put_len h) (by omega)
  refine⟨ds',z',?_,h'⟩
  rw[List.map_cons,forGo_nx (st':=[.sh a,.ow (.dct (Dv.putKs ks p) (Dv.putL ks ds p (.bl true))),.sh b,c,.sh (.int p)]),e]
  ·rfl
  ·have hb:(decide (ks.length<Dv.mx)&&decide (ks.length=ds.length))=true:=by
    rw[Bool.and_eq_true]; exact⟨decide_eq_true (by unfold Dv.mx; omega),decide_eq_true h⟩
   simp only[b_Q0P_l1,Dv.give,Dv.open_,shared_sh,shared_ow,eVar,eBl,scal_int,List.map_cons,List.map_nil,List.getElem?_cons_zero,List.getElem?_cons_succ,List.set_cons_zero,List.set_cons_succ,List.foldl_nil,if_true,sDPut,hb]
theorem T_len (s:Int):(Tf n A s).length=A.length:=by unfold Tf; rw[isort_len,List.length_map]
theorem fill_out {a:D}:∀ (S ks:List Int) (ds:List D) (z2 z3 z4:Sl),ks.length=ds.length->ks.length+S.length*A.length<100000 ->
  ∃ ds' y2 y3 y4,Dv.forGoT (Dv.tupTo [2,3]) b_Q0P_l2 ((S.map (wy n A)).map Wy.d) [.sh a,.ow (.dct ks ds),z2,z3,z4]=.nx [.sh a,.ow (.dct ((S.flatMap (Tf n A)).foldl Dv.putKs ks) ds'),y2,y3,y4]/\((S.flatMap (Tf n A)).foldl Dv.putKs ks).length=ds'.length
 | [],ks,ds,z2,z3,z4,h,_=>⟨ds,z2,z3,z4,rfl,h⟩
 | s::r,ks,ds,z2,z3,z4,h,hl=>by
  rw[List.length_cons,Nat.succ_mul] at hl
  have tl:=T_len (n:=n) (A:=A) s
  obtain⟨ds1,z',e1,h1⟩:=fill_in (a:=a) (b:=.int s) (c:=.sh (L (Tf n A s))) (Tf n A s) ks ds z4 h (by omega)
  have fl:∀ (ps ks:List Int),(ps.foldl Dv.putKs ks).length<=ks.length+ps.length:=by
   intro ps
   induction ps with
   | nil=>intro ks; simp
   | cons p r ih=>intro ks; have:=ih (Dv.putKs ks p); have:=put_le ks p; rw[List.foldl_cons,List.length_cons]; omega
  have:=fl (Tf n A s) ks
  obtain⟨ds2,y2,y3,y4,e2,h2⟩:=fill_out r ((Tf n A s).foldl Dv.putKs ks) ds1 (.sh (.int s)) (.sh (L (Tf n A s))) z' h1 (by omega)
  refine⟨ds2,y2,y3,y4,?_,?_⟩
  ·rw[List.map_cons,List.map_cons,wy_d,forGoT_nx (st1:=[.sh a,.ow (.dct ks ds),.sh (.int s),.sh (L (Tf n A s)),z4]) (st':=[.sh a,.ow (.dct ((Tf n A s).foldl Dv.putKs ks) ds1),.sh (.int s),.sh (L (Tf n A s)),z']) rfl,e2,List.flatMap_cons,List.foldl_append]
   simp only[L] at e1
   simp only[b_Q0P_l2,Dv.give,Dv.open_,give_sh,shared_sh,shared_ow,sFor,iSeq,eVar,scal_lst,List.map_cons,List.map_nil,List.getElem?_cons_zero,List.getElem?_cons_succ,List.set_cons_zero,List.set_cons_succ,List.foldl_cons,List.foldl_nil,Option.getD_some,L,e1]
  ·rw[List.flatMap_cons,List.foldl_append]; exact h2
theorem places_ok {S:List Int}(hl:S.length*A.length<100000):∃ ds,F_Q0P [Dv.wyL (S.map (wy n A))]=.ok (.dct (kz n A S) ds) false/\(kz n A S).length=ds.length:=by
 obtain⟨ds,y2,y3,y4,e,h⟩:=fill_out (n:=n) (A:=A) (a:=Dv.wyL (S.map (wy n A))) S [] [] .no .no .no rfl (by simpa using hl)
 refine⟨ds,?_,h⟩
 have kp:keepD (.dct [] []) true=some (.ow (.dct [] [])):=rfl
 simp only[Dv.wyL] at e
 simp only[F_Q0P,b_Q0P,b_Q0P_t1,b_Q0P_t2,Dv.fn,sCons,sSet,Dv.give,Dv.open_,give_sh,shared_no,shared_sh,shared_ow,sRetO,sForT,iSeq,eVar,R.bind,RL.bind,Out.bind,eDict0,scal_lst,List.map_cons,List.map_nil,List.length_cons,List.length_nil,List.replicate,List.cons_append,List.nil_append,List.getElem?_cons_zero,List.getElem?_cons_succ,List.set_cons_zero,List.set_cons_succ,List.foldl_cons,List.foldl_nil,Option.getD_some,Nat.reduceAdd,Nat.reduceSub,kp,Dv.wyL,e]
 rfl
theorem look_some:∀ {ks:List Int} {ds:List D} {p:Int},ks.length=ds.length->(Dv.look ks ds p).isSome=decide (p∈ks)
 | [],ds,p,_=>by simp[Dv.look]
 | k::ks,[],p,h=>by simp at h
 | k::ks,d::ds,p,h=>by
  unfold Dv.look
  by_cases e:k=p
  ·subst e; simp
  ·rw[if_neg e,look_some (by simpa using h)]
   have:(p=k)=False:=by simp; omega
   simp[this]
theorem fs_ok {S:List Int}{d:D}(hl:S.length<64):kW.fs [none,some (.ins ["laid"] [Dv.wyL (S.map (wy n A))]),some d]=.ok (L (Dv.isort S)) true:=by
 have go:∀ S:List Int,Dv.compGoT 2 (eVar 0) (eBl true) (Dv.pick [none,some (.ins ["laid"] [Dv.wyL (S.map (wy n A))]),some d] []) ((S.map (wy n A)).map Wy.d)=.ok (S.map .int) true:=by
  intro S0
  generalize Dv.pick _ _=fr
  induction S0 with
  | nil=>rfl
  | cons s r ih =>
   rw[List.map_cons,List.map_cons,wy_d]
   simp only[Dv.compGoT,List.length_cons,List.length_nil,if_true,List.map_cons,List.map_nil,eVar,eBl,scal_int,List.map_cons,List.map_nil,List.length_cons,List.length_nil,List.cons_append,List.nil_append,List.getElem?_cons_zero,Bool.and_true,if_true,Nat.reduceAdd,ih]
 have hit:iSeq (eFld "laid" (eVar 1)) [none,some (.ins ["laid"] [Dv.wyL (S.map (wy n A))]),some d]=.ok ((S.map (wy n A)).map Wy.d) false:=by
  simp[iSeq,eFld,eVar,Dv.fldD,Dv.lookS,R.bind,Dv.wyL,Dv.scal]
 have hlen:((S.map (wy n A)).map Wy.d).length<=Dv.mx:=by rw[List.length_map,List.length_map]; unfold Dv.mx; omega
 have hc:c_wk_go_1 [none,some (.ins ["laid"] [Dv.wyL (S.map (wy n A))]),some d]=.ok (L S) true:=by
  have:=go S
  simp only[c_wk_go_1,eCompT,hit,hlen,if_true,this]
  try rfl
 show eB1 Dv.sortedD c_wk_go_1 _=_
 simp only[eB1,hc,R.bind]
 exact sort_ok hl true
theorem minI_up:∀ {r:List Int} {m:Int},(∀ x∈r,m<x)->Dv.minI m r=m
 | [],m,_=>rfl
 | x::r,m,h=>by
  unfold Dv.minI
  have:=h x (List.mem_cons_self ..)
  rw[if_neg (by omega)]
  exact minI_up fun y hy=>h y (List.mem_cons_of_mem _ hy)
theorem fl_ok {wys:List (List Wy)}{ks:List Int}{ds:List D}{d1:D}{m:Int}{r:List Int}(hw:(wys.length:Int)=n)(hn:0<n)(hn2:n<=60)(hk:ks.length=ds.length)(hf:fre n ks=m::r) :
  kW.fl [some (.ins ["ways"] [Dv.wysD wys]),some d1,some (.dct ks ds)]=.ok (.int m) true:=by
 have hit:iRange (eB1 Dv.lenD (eFld "ways" (eVar 0))) [some (.ins ["ways"] [Dv.wysD wys]),some d1,some (.dct ks ds)]=.ok ((upto n.toNat).map .int) true:=by
  have e1:eB1 Dv.lenD (eFld "ways" (eVar 0)) [some (.ins ["ways"] [Dv.wysD wys]),some d1,some (.dct ks ds)]=.ok (.int n) true:=by
   simp[eB1,eFld,eVar,Dv.fldD,Dv.lookS,R.bind,Dv.wysD,Dv.lenD,hw]
  simp only[iRange,e1,rng_ok (n:=n) (by omega) (by omega),if_true,range_upto]
 have hc:c_wk_row_1 [some (.ins ["ways"] [Dv.wysD wys]),some d1,some (.dct ks ds)]=.ok (L (fre n ks)) true:=by
  unfold c_wk_row_1
  have:=eComp_if (elt:=eVar 0) (cond:=eDnin (eVar 0) (eVar 1)) (is:=[2]) (it:=iRange (eB1 Dv.lenD (eFld "ways" (eVar 0)))) (ρ:=[some (.ins ["ways"] [Dv.wysD wys]),some d1,some (.dct ks ds)]) (c:=fun p=>!decide (p∈ks)) (g:=fun p=>p) (xs:=upto n.toNat) hit (by rw[upto_len]; omega)
   (fun x _=>by simp[eDnin,eVar,Dv.dninD,R.bind,Dv.pick,look_some hk]) (fun x _ _=>rfl)
  rw[this]
  simp[fre,upto]
 show eB1 Dv.minLD c_wk_row_1 _=_
 have up:=fre_up (n:=n) ks
 rw[hf] at hc up
 simp only[eB1,hc,R.bind,Dv.minLD,L]
 rw[ints_L]
 simp only
 rw[minI_up (List.pairwise_cons.mp up).1]
theorem ft_ok {ks:List Int}{ds:List D}{s:Int}(hk:ks.length=ds.length)(hA:A.length<=1000) :
  kW.ft [none,none,some (.dct ks ds),none,none,none,some (wy n A s).d]=.ok (L ((Tf n A s).filter fun p=>decide (p∈ks))) true:=by
 have hit:iSeq (eIx (eVar 6) (eInt 1)) [none,none,some (.dct ks ds),none,none,none,some (wy n A s).d]=.ok ((Tf n A s).map .int) false:=by
  rw[wy_d]
  simp[iSeq,eIx,eVar,eInt,R.bind,Dv.ixD,Dv.at?,L,Dv.scal]
 have ek:kW.ft=c_wk_row_2:=rfl
 rw[ek]
 unfold c_wk_row_2
 have:=eComp_if (elt:=eVar 0) (cond:=eB2 Dv.dinD (eVar 0) (eVar 1)) (is:=[2]) (it:=iSeq (eIx (eVar 6) (eInt 1))) (ρ:=[none,none,some (.dct ks ds),none,none,none,some (wy n A s).d]) (c:=fun p=>decide (p∈ks)) (g:=fun p=>p) (xs:=Tf n A s) hit (by rw[T_len]; omega)
  (fun x _=>by simp[eB2,eVar,Dv.dinD,R.bind,Dv.pick,look_some hk]) (fun x _ _=>rfl)
 rw[this]
 simp
end
section
variable {n:Int}{A:List Int}
noncomputable def Wtab (n:Int)(A:List Int):List (List Wy):=(upto n.toNat).map fun p=>A.map fun x=>wy n A ((p-x)%n)
noncomputable def Valid (w:Ws):Prop:=∀ c∈w.wait,c.at_<(w.sto.getD c.ix []).length
theorem rowGo_ok {ks:List Int}{ds:List D}{l:List Wy}(hk:ks.length=ds.length)(hA:A.length<=1000):∀ (ss:List Int) (as:List An) (f:List (List Wy × Nat)),
  ∃ as' cs,Dv.rowGo kW l (.dct ks ds) (ss.map (wy n A)) as f=some (as',f++cs)/\as'.length=as.length+ss.length/\cs.map (·.1)=(ss.filter fun s=>(Tf n A s).all fun p=>!decide (p∈ks)).map (fun s=>l++[wy n A s])/\∀ c∈cs,c.2<as'.length
 | [],as,f=>⟨as,[],by simp[Dv.rowGo],rfl,rfl,fun c hc=>by cases hc⟩
 | s::r,as,f=>by
  rw[List.map_cons]
  unfold Dv.rowGo
  rw[ft_ok hk hA]
  cases hq:(Tf n A s).filter fun p=>decide (p∈ks) with
  | nil =>
   have hall:((Tf n A s).all fun p=>!decide (p∈ks))=true:=by
    rw[List.all_eq_true]
    intro p hp
    have:p∉(Tf n A s).filter fun p=>decide (p∈ks):=by rw[hq]; simp
    rw[List.mem_filter] at this
    simpa[hp] using this
   obtain⟨as',cs,e,h1,h2,h3⟩:=rowGo_ok hk hA r (as++[.non]) (f++[(l++[wy n A s],as.length)])
   refine⟨as',(l++[wy n A s],as.length)::cs,?_,?_,?_,fun c hc=>?_⟩
   ·show Dv.rowGo kW l (.dct ks ds) (r.map (wy n A)) (as++[.non]) (f++[(l++[wy n A s],as.length)])=_
    rw[e]; simp
   ·rw[h1]; simp; omega
   ·rw[List.map_cons,List.filter_cons,if_pos hall,List.map_cons,h2]
   ·rcases List.mem_cons.mp hc with rfl|hc
    ·rw[h1]; simp; omega
    ·exact h3 c hc
  | cons p q =>
   have hall:((Tf n A s).all fun p=>!decide (p∈ks))=false:=by
    have hp:p∈(Tf n A s).filter fun p=>decide (p∈ks):=by rw[hq]; exact List.mem_cons_self ..
    obtain⟨h1,h2⟩:=List.mem_filter.mp hp
    cases z:(Tf n A s).all fun p=>!decide (p∈ks) with
    | false=>rfl
    | true =>
     have:=List.all_eq_true.mp z p h1
     rw[h2] at this; simp at this
   obtain⟨as',cs,e,h1,h2,h3⟩:=rowGo_ok hk hA r (as++[.twi p]) f
   refine⟨as',cs,?_,?_,?_,h3⟩
   ·show Dv.rowGo kW l (.dct ks ds) (r.map (wy n A)) (as++[.twi p]) f=_
    exact e
   ·rw[h1]; simp; omega
   ·rw[List.filter_cons,if_neg (by rw[hall]; simp),h2]
theorem Good.small (h:Beat n A){S:List Int}(g:Good n A S):(S.length:Int)<=n:=by
 have:=g.nd.length_le_of_subset (l₂:=upto n.toNat) fun s hs=>mem_upto.mpr (by have:=g.rg s hs; omega)
 rw[upto_len] at this
 have:=h.pos
 omega
theorem tab_len:(Wtab n A).length=n.toNat:=by unfold Wtab; rw[List.length_map,upto_len]
theorem tab_at {m:Int}(hm:0<=m/\m<n):(Wtab n A)[m.toNat]?=some ((A.map fun x=>(m-x)%n).map (wy n A)):=by
 unfold Wtab
 rw[List.getElem?_map]
 have:(upto n.toNat)[m.toNat]?=some m:=by
  unfold upto
  rw[List.getElem?_map,List.getElem?_range (by omega)]
  simp; omega
 rw[this]
 simp
theorem last_snoc {α:Type}(l:List α)(c:α):(l++[c]).getLast?=some c:=by simp
theorem drop_snoc {α:Type}(l:List α)(c:α):(l++[c]).dropLast=l:=by simp
theorem step_full (h:Beat n A)(n2:n<=60){S:List Int}{w:Ws}{pre:List Cs}{c:Cs}(g:Good n A S)(hw:w.wait=pre++[c])(hc:c.laid=S.map (wy n A))(ht:w.wys=Wtab n A)(hg:w.gone≠2000)(hf:fre n (kz n A S)=[]) :
  Dv.stepW kW w=.full { w with gone:=w.gone+1,wait:=pre } (L (Dv.isort S)) true:=by
 have hp:=h.pos
 have hs:=Good.small h g
 have hl:=h.len
 obtain⟨ds,e1,e2⟩:=places_ok (n:=n) (A:=A) (S:=S) (by
  have:S.length*A.length<=60*60:=Nat.mul_le_mul (by omega) (by omega)
  omega)
 have hfull:(kz n A S).length=w.wys.length:=by
  have:=(fre_nil (by omega) (kz_nd S) (kz_rg (by omega))).mp hf
  rw[ht,tab_len]; omega
 unfold Dv.stepW
 rw[if_neg hg,hw,last_snoc]
 simp only
 rw[show kW.fp [Dv.wyL c.laid]=F_Q0P [Dv.wyL (S.map (wy n A))] by rw[hc]; rfl,e1]
 simp only
 rw[if_pos hfull,hc,fs_ok (by omega),drop_snoc]
theorem step_row (h:Beat n A)(n2:n<=60){S:List Int}{w:Ws}{pre:List Cs}{c:Cs}{m:Int}{r:List Int}(g:Good n A S)(hw:w.wait=pre++[c])(hc:c.laid=S.map (wy n A))(ht:w.wys=Wtab n A)(hv:Valid w)(hg:w.gone≠2000)(hf:fre n (kz n A S)=m::r)
  (b1:w.rows.length<50000) (b2:pre.length+A.length<=50000) :
  ∃ (w':Ws) (cs:List Cs),Dv.stepW kW w=.row w'/\w'.wait=pre++cs.reverse/\cs.map (·.laid)=(kids n A S m).map (fun s=>(S++[s]).map (wy n A))/\w'.wys=Wtab n A/\w'.gone=w.gone+1/\w'.rows.length=w.rows.length+1/\Valid w':=by
 have hp:=h.pos
 have hs:=Good.small h g
 have hl:=h.len
 have hm:m∈fre n (kz n A S):=by rw[hf]; exact List.mem_cons_self ..
 obtain⟨hm1,hm2⟩:=mem_fre.mp hm
 obtain⟨ds,e1,e2⟩:=places_ok (n:=n) (A:=A) (S:=S) (by
  have:S.length*A.length<=60*60:=Nat.mul_le_mul (by omega) (by omega)
  omega)
 have hnf:¬ (kz n A S).length=w.wys.length:=by
  intro z
  rw[ht,tab_len] at z
  have:=(fre_nil (n:=n) (by omega) (kz_nd (n:=n) (A:=A) S) (kz_rg (by omega))).mpr (by omega)
  rw[this] at hf; cases hf
 have hcv:=hv c (by rw[hw]; simp)
 obtain⟨as,has,hat⟩:∃ as,w.sto[c.ix]?=some as/\c.at_<as.length:=by
  rw[List.getD_eq_getElem?_getD] at hcv
  cases q:w.sto[c.ix]? with
  | none=>rw[q] at hcv; simp at hcv
  | some as=>rw[q] at hcv; exact⟨as,rfl,hcv⟩
 obtain⟨as',cs0,r1,r2,r3,r4⟩:=rowGo_ok (n:=n) (A:=A) (l:=S.map (wy n A)) e2 (by omega) (A.map fun x=>(m-x)%n) [] []
 rw[List.nil_append] at r1
 have cl:cs0.length<=A.length:=by
  have:=congrArg List.length r3
  rw[List.length_map,List.length_map] at this
  have h2:=List.length_filter_le (fun s=>(Tf n A s).all fun p=>!decide (p∈kz n A S)) (A.map fun x=>(m-x)%n)
  rw[List.length_map] at h2
  omega
 let sto1:=w.sto.set c.ix (as.set c.at_ (.row w.rows.length))
 refine⟨{ w with gone:=w.gone+1,wait:=pre++cs0.reverse.map (fun p=>⟨p.1,sto1.length,p.2⟩),rows:=w.rows++[(m,sto1.length)],sto:=sto1++[as'] },cs0.map (fun p=>⟨p.1,sto1.length,p.2⟩),?_,?_,?_,ht,rfl,?_,?_⟩
 ·unfold Dv.stepW
  rw[if_neg hg,hw,last_snoc]
  simp only
  rw[show kW.fp [Dv.wyL c.laid]=F_Q0P [Dv.wyL (S.map (wy n A))] by rw[hc]; rfl,e1]
  simp only
  rw[if_neg hnf,has]
  simp only
  rw[if_pos hat,drop_snoc]
  unfold Dv.rowW
  simp only
  have hn:m=Int.ofNat m.toNat:=by show m=((m.toNat:Nat):Int); omega
  rw[hc,ht,fl_ok (n:=n) (wys:=Wtab n A) (by rw[tab_len]; omega) (by omega) n2 e2 hf]
  rw[hn]
  simp only
  rw[tab_at hm1]
  simp only
  rw[r1]
  simp only
  rw[if_pos]
  ·have:((m.toNat:Nat):Int)=Int.ofNat m.toNat:=rfl
   simp only[this]
   rfl
  ·simp only[Bool.and_eq_true,decide_eq_true_eq,List.length_map]
   unfold Dv.mx
   refine⟨⟨⟨?_,?_⟩,?_⟩,?_⟩ <;>omega
 ·simp[List.map_reverse]
 ·rw[List.map_map]
  have:(fun (x:Cs)=>x.laid) ∘ (fun (p:List Wy × Nat)=>(⟨p.1,sto1.length,p.2⟩:Cs))=fun p=>p.1:=rfl
  rw[this,r3]
  unfold kids
  refine List.map_congr_left fun s _=>?_
  rw[List.map_append]; rfl
 ·simp
 ·intro c' hc'
  have hc':c'∈pre++cs0.reverse.map (fun p=>(⟨p.1,sto1.length,p.2⟩:Cs)):=hc'
  show c'.at_<((sto1++[as']).getD c'.ix []).length
  rcases List.mem_append.mp hc' with hc' | hc'
  ·have h0:=hv c' (by rw[hw]; exact List.mem_append_left _ hc')
   have hix:c'.ix<w.sto.length:=by
    by_cases z:c'.ix<w.sto.length
    ·exact z
    ·rw[List.getD_eq_getElem?_getD,List.getElem?_eq_none (by omega)] at h0; simp at h0
   have h1:(sto1++[as']).getD c'.ix []=sto1.getD c'.ix []:=by
    rw[List.getD_eq_getElem?_getD,List.getD_eq_getElem?_getD,List.getElem?_append_left (by show c'.ix<(w.sto.set _ _).length; rw[List.length_set]; exact hix)]
   rw[h1]
   show c'.at_<((w.sto.set c.ix (as.set c.at_ (.row w.rows.length))).getD c'.ix []).length
   rw[List.getD_eq_getElem?_getD]
   by_cases z:c.ix=c'.ix
   ·rw[<- z,List.getElem?_set_self (by rw[z]; exact hix)]
    rw[List.getD_eq_getElem?_getD,<- z,has] at h0
    show c'.at_<(as.set c.at_ _).length
    rw[List.length_set]
    exact h0
   ·rw[List.getElem?_set_ne z]
    rw[List.getD_eq_getElem?_getD] at h0
    exact h0
  ·obtain⟨p,hp,rfl⟩:=List.mem_map.mp hc'
   have:=r4 p (List.mem_reverse.mp hp)
   show p.2<((sto1++[as']).getD sto1.length []).length
   rw[List.getD_eq_getElem?_getD]
   simpa using this
theorem go_list (h:Beat n A){S:List Int}{d:Nat}{m:Int}
  (ih:∀ (s:Int) (w:Ws) (pre:List Cs) (c:Cs) (acc:List D) (f:Nat),s∈kids n A S m->w.wait=pre++[c]->c.laid=(S++[s]).map (wy n A)->w.wys=Wtab n A->Valid w->w.gone+cas n A d (S++[s])<=2000->w.rows.length<=w.gone->pre.length+d*A.length<=50000->acc.length+(dfs n A d (S++[s])).length<=50000 ->
   ∃ w',Dv.allGo kW (f+cas n A d (S++[s])) w acc=Dv.allGo kW f w' (acc++(dfs n A d (S++[s])).map L)/\w'.wait=pre/\w'.wys=Wtab n A/\Valid w'/\w'.gone=w.gone+cas n A d (S++[s])/\w'.rows.length<=w'.gone) :
  ∀ (ss:List Int) (cs:List Cs) (w:Ws) (pre:List Cs) (acc:List D) (f:Nat),(∀ s∈ss,s∈kids n A S m)->cs.map (·.laid)=ss.map (fun s=>(S++[s]).map (wy n A))->w.wait=pre++cs.reverse->w.wys=Wtab n A->Valid w->w.gone+(ss.map fun s=>cas n A d (S++[s])).sum<=2000->w.rows.length<=w.gone ->
   pre.length+ss.length+d*A.length<=50000->acc.length+(ss.flatMap fun s=>dfs n A d (S++[s])).length<=50000 ->
   ∃ w',Dv.allGo kW (f+(ss.map fun s=>cas n A d (S++[s])).sum) w acc=Dv.allGo kW f w' (acc++(ss.flatMap fun s=>dfs n A d (S++[s])).map L)/\w'.wait=pre/\w'.wys=Wtab n A/\Valid w'/\w'.gone=w.gone+(ss.map fun s=>cas n A d (S++[s])).sum/\w'.rows.length<=w'.gone
 | [],cs,w,pre,acc,f,_,hcs,hw,ht,hv,hb,hr,_,_=>by
  have:cs=[]:=by simpa using hcs
  subst this
  refine⟨w,by simp,by simpa using hw,ht,hv,by simp,hr⟩
 | s::ss,cs,w,pre,acc,f,hk,hcs,hw,ht,hv,hb,hr,hp,ha=>by
  cases cs with
  | nil=>simp at hcs
  | cons c cs =>
   rw[List.map_cons,List.map_cons] at hcs
   obtain⟨hc1,hc2⟩:=List.cons.inj hcs
   have hcl:cs.length=ss.length:=by have:=congrArg List.length hc2; simpa using this
   rw[List.map_cons,List.sum_cons] at hb ⊢
   rw[List.flatMap_cons,List.length_append] at ha
   rw[List.length_cons] at hp
   have hw':w.wait=(pre++cs.reverse)++[c]:=by rw[hw,List.reverse_cons,List.append_assoc]
   obtain⟨w1,e1,g1,g2,g3,g4,g5⟩:=ih s w (pre++cs.reverse) c acc (f+(ss.map fun s=>cas n A d (S++[s])).sum) (hk s (List.mem_cons_self ..)) hw' hc1 ht hv (by omega) hr (by rw[List.length_append,List.length_reverse]; omega) (by omega)
   obtain⟨w2,e2,k1,k2,k3,k4,k5⟩:=go_list h ih ss cs w1 pre (acc++(dfs n A d (S++[s])).map L) f (fun t ht=>hk t (List.mem_cons_of_mem _ ht)) hc2 g1 g2 g3 (by omega) g5 (by omega) (by rw[List.length_append,List.length_map]; omega)
   refine⟨w2,?_,k1,k2,k3,by omega,k5⟩
   rw[show f+(cas n A d (S++[s])+(ss.map fun s=>cas n A d (S++[s])).sum)=f+(ss.map fun s=>cas n A d (S++[s])).sum+cas n A d (S++[s]) by omega,e1,e2,List.flatMap_cons,List.map_append,List.append_assoc]
theorem go_all (h:Beat n A)(n2:n<=60){Q:Nat}(hQ:((A.length*Q:Nat):Int)=n):∀ (d:Nat) (S:List Int) (w:Ws) (pre:List Cs) (c:Cs) (acc:List D) (f:Nat),Good n A S->w.wait=pre++[c]->c.laid=S.map (wy n A)->w.wys=Wtab n A->Valid w->w.gone+cas n A d S<=2000->w.rows.length<=w.gone->Q-S.length<d ->
  pre.length+d*A.length<=50000->acc.length+(dfs n A d S).length<=50000 ->
  ∃ w',Dv.allGo kW (f+cas n A d S) w acc=Dv.allGo kW f w' (acc++(dfs n A d S).map L)/\w'.wait=pre/\w'.wys=Wtab n A/\Valid w'/\w'.gone=w.gone+cas n A d S/\w'.rows.length<=w'.gone
 | 0,S,w,pre,c,acc,f,_,_,_,_,_,_,_,hd,_,_=>by omega
 | d+1,S,w,pre,c,acc,f,g,hw,hc,ht,hv,hb,hr,hd,hp,ha=>by
  have hne:w.wait.isEmpty=false:=by rw[hw]; simp
  unfold cas at hb ⊢
  unfold dfs at ha ⊢
  cases hf:fre n (kz n A S) with
  | nil =>
   rw[hf] at hb ha
   simp only at hb ha ⊢
   refine⟨{ w with gone:=w.gone+1,wait:=pre },?_,rfl,ht,fun c' hc'=>hv c' (by rw[hw]; exact List.mem_append_left _ hc'),rfl,by show w.rows.length<=w.gone+1; omega⟩
   conv=>lhs; unfold Dv.allGo
   rw[hne,step_full h n2 g hw hc ht (by omega) hf]
   have hb2:(true&&decide (acc.length<Dv.mx))=true:=by
    rw[Bool.true_and]; exact decide_eq_true (by unfold Dv.mx; simp at ha; omega)
   simp only[Bool.false_eq_true,if_false,L,hb2,if_true,List.map_cons,List.map_nil]
  | cons m r =>
   rw[hf] at hb ha
   simp only at hb ha ⊢
   have hm:m∈fre n (kz n A S):=by rw[hf]; exact List.mem_cons_self ..
   rw[Nat.succ_mul] at hp
   obtain⟨w1,cs,e1,g1,g2,g3,g4,g5,g6⟩:=step_row h n2 g hw hc ht hv (by omega) hf (by omega) (by omega)
   have hpos:=h.pos
   have hlt:S.length<Q:=by
    by_cases z:S.length<Q
    ·exact z
    ·exfalso
     have z2:A.length*Q<=A.length*S.length:=Nat.mul_le_mul_left _ (by omega)
     have hk:=g.len h.nd
     have hle:(kz n A S).length<=n.toNat:=by
      have:=(kz_nd (n:=n) (A:=A) S).length_le_of_subset (l₂:=upto n.toNat) fun p hp=>mem_upto.mpr (by have:=kz_rg (A:=A) (S:=S) (show 0<n by omega) p hp; omega)
      rwa [upto_len] at this
     have:=(fre_nil (n:=n) (by omega) (kz_nd (n:=n) (A:=A) S) (kz_rg (by omega))).mpr (by omega)
     rw[this] at hf; cases hf
   obtain⟨w2,e2,k1,k2,k3,k4,k5⟩:=go_list h (S:=S) (d:=d) (m:=m) (fun s w pre c acc f hs hw hc ht hv hb hr hp ha=>go_all h n2 hQ d (S++[s]) w pre c acc f (g.kid h hm hs).1 hw hc ht hv hb hr (by rw[List.length_append,List.length_singleton]; omega) hp ha)
    (kids n A S m) cs w1 pre acc f (fun s hs=>hs) g2 g1 g3 g6 (by omega) (by omega) (by have:=kids_len (n:=n) (A:=A) S m; omega) ha
   refine⟨w2,?_,k1,k2,k3,by omega,k5⟩
   rw[<- e2,show f+(1+((kids n A S m).map fun s=>cas n A d (S++[s])).sum)=f+((kids n A S m).map fun s=>cas n A d (S++[s])).sum+1 by omega]
   conv=>lhs; unfold Dv.allGo
   rw[hne,e1]
   simp only[Bool.false_eq_true,if_false]
end
noncomputable def LL (rows:List (List Int)):D:=.lst (rows.map L)
theorem compGo_D {elt:EE}{free:Dv.Env}{g:Int->D}{f:Bool}:∀ {xs:List Int},(∀ x∈xs,elt (some (.int x)::free)=.ok (g x) f)->∃ f',compGo elt (eBl true) free (xs.map .int)=.ok (xs.map g) f'/\(f=true->f'=true)
 | [],_=>⟨true,rfl,fun _=>rfl⟩
 | x::r,h=>by
  obtain⟨f',e,hf⟩:=compGo_D (xs:=r) fun y hy=>h y (List.mem_cons_of_mem _ hy)
  refine⟨f&&f',?_,fun z=>by rw[z,hf z]; rfl⟩
  rw[List.map_cons]
  unfold compGo
  have:(eBl true) (some (D.int x)::free)=.ok (.bl true) true:=rfl
  rw[this]
  simp only
  rw[h x (List.mem_cons_self ..),e]
  rfl
theorem eComp_D {elt:EE}{is:List Nat}{it:EI}{ρ:Dv.Env}{g:Int->D}{xs:List Int}{f f0:Bool}(hi:it ρ=.ok (xs.map .int) f0)(hl:xs.length<=100000)(k:∀ x∈xs,elt (some (.int x)::Dv.pick ρ is)=.ok (g x) f) :
  ∃ f',eComp elt (eBl true) is it ρ=.ok (.lst (xs.map g)) f'/\(f=true->f'=true):=by
 obtain⟨f',e,hf⟩:=compGo_D k
 refine⟨f',?_,hf⟩
 unfold eComp; rw[hi]; simp only[List.length_map,Dv.mx,hl,if_true,e]
section
variable {n:Int}{A:List Int}
noncomputable def fallsD (n:Int)(A:List Int):D:=.lst ((upto n.toNat).map fun s=>L (Tf n A s))
theorem falls_at {s:Int}(hs:0<=s/\s<n):Dv.at? ((upto n.toNat).map fun s=>L (Tf n A s)) s=some (L (Tf n A s)):=by
 unfold Dv.at?
 rw[if_pos hs.1,List.getElem?_map]
 have:(upto n.toNat)[s.toNat]?=some s:=by
  unfold upto
  rw[List.getElem?_map,List.getElem?_range (by omega)]
  simp; omega
 rw[this]; rfl
theorem ways_body (h:Beat n A)(n2:n<=60){p:Int}{ws:List D}(hw:ws.length<1000){z5:Sl} :
  b_Q0R_l1 [.sh (.int n),.sh (L A),.sh (fallsD n A),.ow (.lst ws),.sh (.int p),z5]=.nx [.sh (.int n),.sh (L A),.sh (fallsD n A),.ow (.lst (ws++[Dv.wyL ((A.map fun x=>(p-x)%n).map (wy n A))])),.sh (.int p),.sh (L (A.map fun x=>(p-x)%n))]:=by
 have hp:=h.pos
 have hl:=h.len
 have c2:∀ a2 a3 a5:Option D,c_Q0R_2 [some (.int n),some (L A),a2,a3,some (.int p),a5]=.ok (L (A.map fun x=>(p-x)%n)) true:=fun a2 a3 a5=>by
  unfold c_Q0R_2
  exact eComp_all (f:=false) rfl (by omega) fun x hx=>by simp only[eOp,eVar,Dv.pick,R.bind,RL.bind,Out.bind,scal_int,List.map_cons,List.map_nil,List.getElem?_cons_zero,List.getElem?_cons_succ,Option.getD_some,sub_ok,mod_ok (show 0<n by omega)]
 have c3:∃ f,c_Q0R_3 [some (.int n),some (L A),some (fallsD n A),none,some (.int p),some (L (A.map fun x=>(p-x)%n))]=.ok (Dv.wyL ((A.map fun x=>(p-x)%n).map (wy n A))) f:=by
  obtain⟨f,e,_⟩:=eComp_D (elt:=eTup (lCons (eVar 0) (lCons (eIx (eVar 1) (eVar 0)) lNil))) (is:=[2]) (it:=iSeq (eVar 5)) (ρ:=[some (.int n),some (L A),some (fallsD n A),none,some (.int p),some (L (A.map fun x=>(p-x)%n))]) (g:=fun s=>(wy n A s).d) (xs:=A.map fun x=>(p-x)%n) (f:=false) (f0:=false) rfl (by rw[List.length_map]; omega)
   (fun s hs=>by
    obtain⟨x,_,rfl⟩:=List.mem_map.mp hs
    have hr:=mod_rg (n:=n) (a:=p-x) (by omega)
    rw[wy_d]
    simp only[eIx,Dv.ixD,eVar,eTup,lNil,lCons,Dv.pick,R.bind,RL.bind,Dv.R.bindL,Dv.RL.bindL,Out.bind,scal_int,scal_lst,List.map_cons,List.map_nil,List.getElem?_cons_zero,List.getElem?_cons_succ,Option.getD_some,Bool.and_true,Bool.or_false,Bool.and_false,fallsD,falls_at hr,L,Bool.or_false])
  refine⟨f,?_⟩
  unfold c_Q0R_3
  rw[e]
  simp[Dv.wyL]
 obtain⟨f,c3⟩:=c3
 have hb:decide (ws.length<Dv.mx)=true:=decide_eq_true (by unfold Dv.mx; omega)
 unfold b_Q0R_l1
 rw[sCons_nx (st1:=[.sh (.int n),.sh (L A),.sh (fallsD n A),.ow (.lst ws),.sh (.int p),.ow (L (A.map fun x=>(p-x)%n))])]
 ·simp only[sAppG,Dv.give,Dv.open_,give_sh,give_ow,shared_sh,shared_ow,List.map_cons,List.map_nil,List.getElem?_cons_zero,List.getElem?_cons_succ,List.set_cons_zero,List.set_cons_succ,List.foldl_cons,List.foldl_nil,Option.getD_some,if_true,c3,hb]
 ·simp only[sSet,keep_L,Dv.all,get_sh,get_ow,List.map_cons,List.map_nil,List.set_cons_zero,List.set_cons_succ,c2]
theorem ways_loop (h:Beat n A)(n2:n<=60):∀ (ps:List Int) (ws:List D) (z4 z5:Sl),ws.length+ps.length<1000 ->
  ∃ y4 y5,forGo 4 b_Q0R_l1 (ps.map .int) [.sh (.int n),.sh (L A),.sh (fallsD n A),.ow (.lst ws),z4,z5]=.nx [.sh (.int n),.sh (L A),.sh (fallsD n A),.ow (.lst (ws++(ps.map fun p=>Dv.wyL ((A.map fun x=>(p-x)%n).map (wy n A))))),y4,y5]
 | [],ws,z4,z5,_=>⟨z4,z5,by simp[forGo]⟩
 | p::r,ws,z4,z5,hl=>by
  rw[List.length_cons] at hl
  obtain⟨y4,y5,e⟩:=ways_loop h n2 r (ws++[Dv.wyL ((A.map fun x=>(p-x)%n).map (wy n A))]) (.sh (.int p)) (.sh (L (A.map fun x=>(p-x)%n))) (by rw[List.length_append,List.length_singleton]; omega)
  refine⟨y4,y5,?_⟩
  rw[List.map_cons,forGo_nx (st':=[.sh (.int n),.sh (L A),.sh (fallsD n A),.ow (.lst (ws++[Dv.wyL ((A.map fun x=>(p-x)%n).map (wy n A))])),.sh (.int p),.sh (L (A.map fun x=>(p-x)%n))]),e]
  ·rw[List.map_cons,List.append_assoc]; rfl
  ·simp only[List.set_cons_succ,List.set_cons_zero]
   exact ways_body h n2 (by omega)
theorem ways_ok (h:Beat n A)(n2:n<=60):∃ f,F_Q0R [.int n,L A]=.ok (Dv.wysD (Wtab n A)) f:=by
 have hp:=h.pos
 have c1:∃ f,c_Q0R_1 [some (.int n),some (L A),none,none,none,none]=.ok (fallsD n A) f:=by
  obtain⟨f,e,_⟩:=eComp_D (elt:=eCall F_Q0Q (lCons (eVar 1) (lCons (eVar 2) (lCons (eVar 0) lNil)))) (is:=[0,1]) (it:=iRange (eVar 0)) (ρ:=[some (.int n),some (L A),none,none,none,none]) (g:=fun s=>L (Tf n A s)) (xs:=upto n.toNat) (f:=true) (f0:=true)
   (by simp only[iRange,eVar,scal_int,List.getElem?_cons_zero,if_true,rng_ok (n:=n) (by omega) (by omega),range_upto]) (by rw[upto_len]; omega) (fun s _=>by simp only[eVar,lNil,lCons,eCall,Dv.pick,R.bind,RL.bind,Dv.R.bindL,Dv.RL.bindL,Out.bind,scal_int,scal_lst,List.map_cons,List.map_nil,List.getElem?_cons_zero,List.getElem?_cons_succ,Option.getD_some,Bool.and_true,Bool.and_false,turned_prog n2 h]; rfl)
  exact⟨f,e⟩
 obtain⟨f,c1⟩:=c1
 obtain⟨y4,y5,e⟩:=ways_loop h n2 (upto n.toNat) [] .no .no (by rw[upto_len]; simp; omega)
 rw[List.nil_append] at e
 have et:(upto n.toNat).map (fun p=>Dv.wyL ((A.map fun x=>(p-x)%n).map (wy n A)))=(Wtab n A).map Dv.wyL:=by
  unfold Wtab
  rw[List.map_map]
  refine List.map_congr_left fun p _=>?_
  show Dv.wyL _=Dv.wyL _
  rw[List.map_map]
  rfl
 rw[et] at e
 refine⟨Dv.flatL ((Wtab n A).map Dv.wyL),?_⟩
 simp only[F_Q0R,b_Q0R,b_Q0R_t1,b_Q0R_t2,b_Q0R_t3,Dv.fn,sCons,sSet,sSetG,keep_nil,Dv.give,Dv.open_,give_sh,shared_no,shared_sh,shared_ow,sRetO,sFor,iRange,eVar,eLst,lNil,R.bind,RL.bind,Out.bind,scal_int,List.map_cons,List.map_nil,List.length_cons,List.length_nil,List.replicate,List.cons_append,List.nil_append,List.getElem?_cons_zero,List.getElem?_cons_succ,List.set_cons_zero,List.set_cons_succ,List.foldl_cons,List.foldl_nil,Option.getD_some,if_true,Nat.reduceAdd,Nat.reduceSub,c1,rng_ok (n:=n) (by omega) (by omega),range_upto,e]
 rfl
theorem ints_some (ns:List Int):Dv.intsOf (ns.map .int)=some ns:=ints_L ns
theorem de_wl:∀ l:List Wy,Dv.deWL (l.map Wy.d)=some l
 | []=>rfl
 | w::r=>by
  rw[List.map_cons]
  unfold Dv.deWL
  rw[de_wl r]
  have:Dv.deW w.d=some w:=by
   unfold Wy.d Dv.deW
   simp only[ints_some]
  rw[this]
theorem de_l (l:List Wy):Dv.deL (Dv.wyL l)=some l:=de_wl l
theorem de_ll:∀ l:List (List Wy),Dv.deLL (l.map Dv.wyL)=some l
 | []=>rfl
 | w::r=>by
  rw[List.map_cons]
  unfold Dv.deLL
  rw[de_ll r,de_l]
theorem de_ws (l:List (List Wy)):Dv.deWs (Dv.wysD l)=some l:=de_ll l
theorem pw_ok (h:Beat n A)(n2:n<=60):Dv.pwR wk_w wk_l [.int n,L A]=.ok (Wtab n A) [wy n A 0]:=by
 obtain⟨f,e⟩:=ways_ok h n2
 have e1:wk_w ([.int n,L A].map some)=.ok (Dv.wysD (Wtab n A)) f:=by
  unfold wk_w
  simp only[eVar,lNil,lCons,eCall,R.bind,RL.bind,Dv.R.bindL,Dv.RL.bindL,Out.bind,scal_int,scal_lst,List.map_cons,List.map_nil,List.getElem?_cons_zero,List.getElem?_cons_succ,Bool.and_true,Bool.and_false,e]
 have e2:wk_l ([.int n,L A].map some)=.ok (Dv.wyL [wy n A 0]) false:=by
  unfold wk_l wy Dv.wyL
  rw[T_zero h]
  rfl
 unfold Dv.pwR
 rw[e1,e2]
 simp only
 rw[de_ws,de_l]
theorem good_zero (h:Beat n A):Good n A [0]:=by
 have hp:=h.pos
 refine⟨fun s hs=>by simp at hs; omega,by simp,fun x hx y hy s hs t ht e=>?_⟩
 simp at hs ht
 subst hs; subst ht
 exact⟨mod_inj (by omega) (h.rg x hx) (h.rg y hy) e,rfl⟩
theorem all_ok (h:Beat n A)(n2:n<=60){Q:Nat}(hQ:((A.length*Q:Nat):Int)=n)(hb:cas n A Q [0]<=2000)(hd:(dfs n A Q [0]).length<=50000):Dv.allR kW (Dv.pwR wk_w wk_l) [.int n,L A]=.ok (LL (dfs n A Q [0])) true:=by
 have hp:=h.pos
 have hQ1:1<=Q:=by
  cases Q with
  | zero=>simp at hQ; omega
  | succ q=>omega
 have hl:=h.len
 obtain⟨w',e,k1,_⟩:=go_all h n2 hQ Q [0] (Dv.w0 (Wtab n A) [wy n A 0]) [] ⟨[wy n A 0],0,0⟩ [] (2002-cas n A Q [0]) (good_zero h) rfl rfl rfl (fun c hc=>by
  have:c=⟨[wy n A 0],0,0⟩:=by simpa[Dv.w0] using hc
  subst this
  simp[Dv.w0]) (by simpa[Dv.w0] using hb) (by simp[Dv.w0]) (by simp; omega) (by
   have hA:=h.len1
   have:Q*A.length=A.length*Q:=Nat.mul_comm ..
   simp
   omega) (by simpa using hd)
 unfold Dv.allR
 rw[pw_ok h n2]
 simp only
 rw[show (2002:Nat)=2002-cas n A Q [0]+cas n A Q [0] by omega,e,show 2002-cas n A Q [0]=(2001-cas n A Q [0])+1 by omega]
 unfold Dv.allGo
 rw[k1]
 simp[LL]
theorem lists_LL:∀ rows:List (List Int),Dv.listsOf (rows.map L)=some rows
 | []=>rfl
 | r::rs=>by
  rw[List.map_cons]
  unfold L
  unfold Dv.listsOf
  rw[ints_some]
  have:=lists_LL rs
  unfold L at this
  rw[this]
theorem divides_ok (h:Beat n A)(n2:n<=60):F_Q05 [.int n,L A]=.ok (.bl (decide (n%(A.length:Int)=0))) true:=by
 have hl:=h.len1
 simp only[F_Q05,b_Q05,b_Q05_t1,Dv.fn,sCons,sRet,sExpr,eB1,Dv.lenD,eCm,eOp,eVar,eInt,lNil,lCons,eCall,Dv.all,R.bind,RL.bind,Dv.R.bindL,Dv.RL.bindL,Out.bind,get_sh,scal_int,scal_lst,List.map_cons,List.map_nil,List.length_cons,List.length_nil,List.replicate,List.cons_append,List.nil_append,List.getElem?_cons_zero,List.getElem?_cons_succ,Bool.and_true,Bool.and_false,Nat.reduceAdd,Nat.reduceSub,cm_eqI,List.length_map,check_beat_ok n2 h,L,mod_ok (j:=(A.length:Int)) (by omega)]
theorem partners_ok (h:Beat n A)(n2:n<=60){Q:Nat}(hQ:((A.length*Q:Nat):Int)=n)(hb:cas n A Q [0]<=2000)(hd:(dfs n A Q [0]).length<64):F_Q00 [.int n,L A]=.ok (LL (Dv.lsort (dfs n A Q [0]))) true:=by
 have hz:n%(A.length:Int)=0:=by
  rw[<- hQ,Int.natCast_mul]; exact Int.mul_emod_right ..
 have ha:=all_ok h n2 hQ hb (by omega)
 have hs:Dv.sortedLD (LL (dfs n A Q [0])) true=.ok (LL (Dv.lsort (dfs n A Q [0]))) true:=by
  unfold LL Dv.sortedLD
  simp only[lists_LL,hd,if_true]
  try rfl
 simp only[F_Q00,b_Q00,b_Q00_t1,Dv.fn,sCons,sNil,sIf,sRet,eB1,eNot,eVar,lNil,lCons,eCall,Dv.all,R.bind,RL.bind,Dv.R.bindL,Dv.RL.bindL,Out.bind,get_sh,scal_int,scal_lst,List.map_cons,List.map_nil,List.length_cons,List.length_nil,List.replicate,List.cons_append,List.nil_append,List.getElem?_cons_zero,List.getElem?_cons_succ,Bool.and_true,Bool.and_false,Bool.not_true,Nat.reduceAdd,Nat.reduceSub,divides_ok h n2,decide_eq_true hz,eAllF,ha,hs]
theorem partners_no (h:Beat n A)(n2:n<=60)(hz:n%(A.length:Int)≠0):F_Q00 [.int n,L A]=.ok (LL []) true:=by
 simp only[F_Q00,b_Q00,b_Q00_t1,Dv.fn,sCons,sIf,sRet,eNot,eVar,eLst,lNil,lCons,eCall,Dv.all,R.bind,RL.bind,Dv.R.bindL,Dv.RL.bindL,Out.bind,get_sh,scal_int,scal_lst,List.map_cons,List.map_nil,List.length_cons,List.length_nil,List.replicate,List.cons_append,List.nil_append,List.getElem?_cons_zero,List.getElem?_cons_succ,Bool.and_true,Bool.and_false,Bool.not_false,Nat.reduceAdd,Nat.reduceSub,divides_ok h n2,decide_eq_false hz]
 rfl
end
end Cw
namespace Wm
open Bt
open Dv (lexLt lexLe upL)
noncomputable def G:Nat->Nat->List Int->Int->List (List Int)
 | 0,_,r,_=>[r]
 | _+1,0,_,_=>[]
 | k+1,m+1,r,p=>G k m (r++[p]) (p+1)++G (k+1) m r (p+1)
theorem G_len:∀ (k m:Nat) (r:List Int) (p:Int),(G k m r p).length<=2 ^ m
 | 0,m,r,p=>by simp only[G,List.length_singleton]; exact Nat.one_le_two_pow
 | k+1,0,r,p=>by simp[G]
 | k+1,m+1,r,p=>by
  have h1:=G_len k m (r++[p]) (p+1)
  have h2:=G_len (k+1) m r (p+1)
  simp only[G,List.length_append]
  rw[Nat.pow_succ]; omega
theorem mem_G:∀ (k m:Nat) (r:List Int) (p:Int) {B:List Int},B∈G k m r p ↔ ∃ t,B=r++t/\t.length=k/\t.Pairwise (·<·)/\∀ x∈t,p<=x/\x<p+m
 | 0,m,r,p,B=>by
  simp only[G,List.mem_singleton]
  constructor
  ·rintro rfl; exact⟨[],by simp,rfl,.nil,fun x h=>by cases h⟩
  ·rintro ⟨t,rfl,h,_⟩
   have:t=[]:=List.eq_nil_of_length_eq_zero h
   subst this; simp
 | k+1,0,r,p,B=>by
  simp only[G,List.not_mem_nil,false_iff]
  rintro ⟨t,rfl,h,_,hr⟩
  cases t with
  | nil=>simp at h
  | cons x t=>have:=hr x (List.mem_cons_self ..); omega
 | k+1,m+1,r,p,B=>by
  simp only[G,List.mem_append]
  rw[mem_G k m,mem_G (k+1) m]
  constructor
  ·rintro (⟨t,rfl,h1,h2,h3⟩|⟨t,rfl,h1,h2,h3⟩)
   ·refine⟨p::t,by simp,by simp[h1],List.pairwise_cons.mpr ⟨fun x hx=>by have:=h3 x hx; omega,h2⟩,fun x hx=>?_⟩
    rcases List.mem_cons.mp hx with rfl|hx
    ·omega
    ·have:=h3 x hx; omega
   ·exact⟨t,rfl,h1,h2,fun x hx=>by have:=h3 x hx; omega⟩
  ·rintro ⟨t,rfl,h1,h2,h3⟩
   cases t with
   | nil=>simp at h1
   | cons x t =>
    obtain⟨q1,q2⟩:=List.pairwise_cons.mp h2
    have hx:=h3 x (List.mem_cons_self ..)
    by_cases e:x=p
    ·subst e
     exact .inl ⟨t,by simp,by simpa using h1,q2,fun y hy=>by have:=q1 y hy; have:=h3 y (List.mem_cons_of_mem _ hy); omega⟩
    ·refine .inr ⟨x::t,rfl,h1,h2,fun y hy=>?_⟩
     have:=h3 y hy
     rcases List.mem_cons.mp hy with rfl|hy
     ·omega
     ·have:=q1 y hy; omega
theorem lex_pre:∀ (r a b:List Int),lexLt (r++a) (r++b)=lexLt a b
 | [],a,b=>rfl
 | x::r,a,b=>by simp only[List.cons_append,lexLt,if_true]; exact lex_pre r a b
theorem G_up:∀ (k m:Nat) (r:List Int) (p:Int),(G k m r p).Pairwise fun a b=>lexLt a b=true
 | 0,m,r,p=>by simp[G]
 | k+1,0,r,p=>by simp[G]
 | k+1,m+1,r,p=>by
  simp only[G]
  refine List.pairwise_append.mpr ⟨G_up k m _ _,G_up (k+1) m _ _,fun a ha b hb=>?_⟩
  obtain⟨t,rfl,_,_,_⟩:=(mem_G k m _ _).mp ha
  obtain⟨u,rfl,h1,_,h3⟩:=(mem_G (k+1) m _ _).mp hb
  cases u with
  | nil=>simp at h1
  | cons x u =>
   have:=h3 x (List.mem_cons_self ..)
   rw[List.append_assoc,lex_pre]
   simp only[List.singleton_append,lexLt]
   rw[if_neg (by omega)]
   simp; omega
noncomputable def ext (n:Int)(R:List (List Int)):List (List Int):=R.flatMap fun r=>(upL (r.getLastD 0+1) (n-(r.getLastD 0+1)).toNat).map fun p=>r++[p]
noncomputable def itr (n:Int):Nat->List (List Int)->List (List Int)
 | 0,R=>R
 | k+1,R=>itr n k (ext n R)
theorem upL_G {n:Int}{k:Nat}{r:List Int}:∀ (m:Nat) (p:Int),p+m=n->((upL p m).flatMap fun q=>G k (n-(q+1)).toNat (r++[q]) (q+1))=G (k+1) m r p
 | 0,p,_=>by simp[upL,G]
 | m+1,p,h=>by
  have ih:=upL_G (n:=n) (k:=k) (r:=r) m (p+1) (by omega)
  unfold upL
  rw[List.flatMap_cons,ih,show (n-(p+1)).toNat=m by omega]
  rfl
theorem itr_G {n:Int}:∀ (k:Nat) (R:List (List Int)),itr n k R=R.flatMap fun r=>G k (n-(r.getLastD 0+1)).toNat r (r.getLastD 0+1)
 | 0,R=>by
  unfold itr
  have:(R.flatMap fun r=>G 0 (n-(r.getLastD 0+1)).toNat r (r.getLastD 0+1))=R.flatMap fun r=>[r]:=by
   congr 1; funext r; simp[G]
  rw[this,List.flatMap_singleton']
 | k+1,R=>by
  unfold itr
  rw[itr_G k]
  unfold ext
  rw[List.flatMap_assoc]
  congr 1
  funext r
  rw[List.flatMap_map]
  have e:(fun q=>G k (n-((r++[q]).getLastD 0+1)).toNat (r++[q]) ((r++[q]).getLastD 0+1))=fun q=>G k (n-(q+1)).toNat (r++[q]) (q+1):=by
   funext q
   simp
  show ((upL _ _).flatMap fun q=>G k (n-((r++[q]).getLastD 0+1)).toNat (r++[q]) ((r++[q]).getLastD 0+1))=_
  rw[e]
  by_cases z:r.getLastD 0+1<=n
  ·exact upL_G _ _ (by omega)
  ·rw[show (n-(r.getLastD 0+1)).toNat=0 by omega]
   rfl
theorem itr_ext {n:Int}:∀ (k:Nat) (R:List (List Int)),itr n k (ext n R)=ext n (itr n k R)
 | 0,R=>rfl
 | k+1,R=>by unfold itr; rw[itr_ext k]
noncomputable def rowsA (n:Int)(k:Nat):List (List Int):=G k (n-1).toNat [0] 1
theorem rowsA_itr {n:Int}(k:Nat):itr n k [[0]]=rowsA n k:=by
 rw[itr_G]
 simp[rowsA]
theorem rowsA_succ {n:Int}(k:Nat):ext n (rowsA n k)=rowsA n (k+1):=by
 rw[<- rowsA_itr,<- rowsA_itr,<- itr_ext]
 rfl
theorem rowsA_len {n:Int}(hn:n<=12)(k:Nat):(rowsA n k).length<=2048:=by
 have h1:=G_len k (n-1).toNat [0] 1
 have h2:2 ^ (n-1).toNat<=2 ^ 11:=Nat.pow_le_pow_right (by omega) (by omega)
 unfold rowsA
 omega
theorem mem_rowsA {n:Int}(hn:1<=n){k:Nat}{B:List Int}:B∈rowsA n k ↔ Beat n B/\0∈B/\B.length=k+1:=by
 unfold rowsA
 rw[mem_G]
 constructor
 ·rintro ⟨t,rfl,h1,h2,h3⟩
  refine⟨⟨by simp,?_,fun x hx=>?_⟩,by simp,by simp[h1]⟩
  ·exact List.pairwise_cons.mpr ⟨fun x hx=>by have:=h3 x hx; omega,h2⟩
  ·rcases List.mem_cons.mp hx with rfl|hx
   ·omega
   ·have:=h3 x hx; omega
 ·rintro ⟨b,h0,hl⟩
  cases B with
  | nil=>exact absurd rfl b.ne
  | cons x t =>
   obtain⟨q1,q2⟩:=List.pairwise_cons.mp b.up
   have hx:x=0:=by
    rcases List.mem_cons.mp h0 with e|h0
    ·exact e.symm
    ·have:=q1 0 h0; have:=b.rg x (List.mem_cons_self ..); omega
   subst hx
   exact⟨t,rfl,by simpa using hl,q2,fun y hy=>by have:=q1 y hy; have:=b.rg y (List.mem_cons_of_mem _ hy); omega⟩
noncomputable def lawA (n:Int)(A:List Int)(k:Nat):List (List Int):=(rowsA n k).filter fun B=>decide (tally n.toNat (hits n A B)=List.replicate n.toNat 1)
theorem lawA_eq {n:Int}{A:List Int}(h:Beat n A){k:Nat}(hQ:((A.length*(k+1):Nat):Int)=n):Dv.lsort (dfs n A (k+1) [0])=lawA n A k:=by
 have hp:=h.pos
 have g0:Good n A [0]:=by
  refine⟨fun s hs=>by simp at hs; omega,by simp,fun x hx y hy s hs t ht e=>?_⟩
  simp at hs ht
  subst hs; subst ht
  exact⟨mod_inj (by omega) (h.rg x hx) (h.rg y hy) e,rfl⟩
 have up:(lawA n A k).Pairwise fun a b=>lexLt a b=true:=List.Pairwise.filter _ (G_up _ _ _ _)
 have nd:(lawA n A k).Nodup:=up.imp fun {a b} q e=>by subst e; rw[Dv.lex_irr] at q; cases q
 refine Dv.sorted_one ((Dv.lsort_perm _).trans ((List.perm_ext_iff_of_nodup (dfs_nd h _ _ g0 (by simp)) nd).mpr fun B=>?_)) (Dv.lsort_sorted _) (up.imp fun q=>Dv.lt_le q)
 unfold lawA
 rw[List.mem_filter,mem_rowsA hp,decide_eq_true_eq]
 constructor
 ·intro hB
  obtain⟨f,sub⟩:=dfs_sound h _ _ g0 (by simp) B hB
  refine⟨⟨f.oth,sub 0 (by simp),?_⟩,f.tally⟩
  have:=f.len
  have e:A.length*B.length=A.length*(k+1):=by omega
  exact Nat.eq_of_mul_eq_mul_left h.len1 e
 ·rintro ⟨⟨b,h0,hl⟩,ht⟩
  exact dfs_all (fill_of h b ht) (k+1) [0] (by simp) (fun s hs=>by simp at hs; subst hs; exact h0) (by simp) (by simp; omega)
end Wm
namespace Cw
open Dv (Out R RL compGo eB1 eBl eCall eCm eComp eInt eIx eLst eNeg eNot eOp eOr ePart eSlice eTup eVar forGo iRange iRange2 iSeq iZip lCons lNil opD rngOk sCons sFor sForT sIf sKillRows sNil sPar sRet sSet sSetD sSetG sUnpack sUnpackL)
open Dv (D R RL EE EL EI RI Sl Out SS St)
open Bt
section
variable {s:List Int}{k0 n t:Int}{a b:List Int}{sa sb z5 z6 z8:Sl}
theorem mix_loop5 (ha:Hs sa a)(ht0:0<=t)(ht:t<=100)(hsb:True):∀ (ks found:List Int) (z:Sl),(∀ k∈ks,0<=k/\k<=1000)->found.length+ks.length*a.length<=100000 ->
  ∃ z',forGo 10 b_Q0I_l1 (ks.map .int) [.sh (L s),.sh (.int k0),.sh (.int n),sa,sb,z5,z6,.sh (.int t),z8,.ow (L found),z]=.nx [.sh (L s),.sh (.int k0),.sh (.int n),sa,sb,z5,z6,.sh (.int t),z8,.ow (L (ks.foldl (fun x k=>x++a.map (·*t+k)) found)),z']
 | [],found,z,_,_=>⟨z,rfl⟩
 | k::r,found,z,h,hl=>by
  rw[List.length_cons,Nat.succ_mul] at hl
  have hk:=h k (List.mem_cons_self ..)
  have hc:c_Q0I_1 [some (L s),some (.int k0),some (.int n),some (L a),sb.get,z5.get,z6.get,some (.int t),z8.get,some (L found),some (.int k)]=.ok (L (a.map (·*t+k))) true:=by
   unfold c_Q0I_1
   exact eComp_all (f:=false) rfl (by omega) fun x hx=>by simp only[eOp,eVar,Dv.pick,R.bind,RL.bind,Out.bind,scal_int,List.map_cons,List.map_nil,List.getElem?_cons_zero,List.getElem?_cons_succ,Option.getD_some,add_ok,mul_ok (mulOk_r (i:=x) (j:=t) (by omega) (by omega))]
  obtain⟨z',e⟩:=mix_loop5 ha ht0 ht hsb r (found++a.map (·*t+k)) (.sh (.int k)) (fun x hx=>h x (List.mem_cons_of_mem _ hx)) (by rw[List.length_append,List.length_map]; omega)
  refine⟨z',?_⟩
  rw[List.map_cons,forGo_nx (st':=[.sh (L s),.sh (.int k0),.sh (.int n),sa,sb,z5,z6,.sh (.int t),z8,.ow (L (found++a.map (·*t+k))),.sh (.int k)]),e]
  ·rfl
  ·simp only[b_Q0I_l1,sSet,keep_L,eOp,eVar,Dv.all,R.bind,RL.bind,Out.bind,get_sh,get_ow,scal_lst,List.map_cons,List.map_nil,List.getElem?_cons_zero,List.getElem?_cons_succ,List.set_cons_zero,List.set_cons_succ,List.length_map,ha.get,hc,cat_ok (a:=found) (b:=a.map (·*t+k)) (by rw[List.length_map]; omega)]
end
theorem pair_body5 {P:Int->List Int->List Int->Prop}(hP:PairP P){s:List Int}{k0 n k:Int}{a b:List Int}{sa sb z6 z7 z8 z9 z10:Sl}(hk0:0<=k0)(hk1:k0<=1000)(hk:0<=k/\k<=100)(h:P n a b)(hn:n<=12)(ha:Hs sa a)(hb:Hs sb b) :
  ∃ n' a' b' sa' sb' y6 y7 y8 y9 y10,b_Q0I_l2 [.sh (L s),.sh (.int k0),.sh (.int n),sa,sb,.sh (.int k),z6,z7,z8,z9,z10]=.nx [.sh (L s),.sh (.int k0),.sh (.int n'),sa',sb',.sh (.int k),y6,y7,y8,y9,y10]/\P n' a' b'/\n'<=12/\Hs sa' a'/\Hs sb' b':=by
 have hA:=(hP.beat h).1
 have hB:=(hP.beat h).2
 have hnp:=hA.pos
 have hz:=mod_rg (n:=2147483647) (a:=cell s (k0+k)*48271) (by omega)
 generalize hnum:cell s (k0+k)*48271%2147483647=num at hz
 have hm7:=mod_rg (n:=7) (a:=num) (by omega)
 obtain⟨t,ht,ht2,ht7⟩:=times_of (num%7) hm7.1 hm7.2
 have h6:sSet 6 (eOp .mod (eOp .mul (eCall F_Q0D (lCons (eVar 0) (lCons (eOp .add (eVar 1) (eVar 5)) lNil))) (eInt 48271)) (eInt 2147483647)) [.sh (L s),.sh (.int k0),.sh (.int n),sa,sb,.sh (.int k),z6,z7,z8,z9,z10]
   = .nx [.sh (L s),.sh (.int k0),.sh (.int n),sa,sb,.sh (.int k),.sh (.int num),z7,z8,z9,z10]:=by
  simp only[sSet,keep_int,eOp,eVar,eInt,lNil,lCons,eCall,Dv.all,R.bind,RL.bind,Dv.R.bindL,Dv.RL.bindL,Out.bind,get_sh,scal_int,scal_lst,List.map_cons,List.map_nil,List.getElem?_cons_zero,List.getElem?_cons_succ,List.set_cons_zero,List.set_cons_succ,Bool.and_true,add_ok,cell_ok (s:=s) (k:=k0+k) (by omega) (by omega),mul_ok (mulOk_r (j:=48271) (by decide) (by decide)),mod_ok (j:=2147483647) (by decide),hnum]
 have h78:∀ rest:SS,sCons (sSet 7 (eIx (eLst (lCons (eInt 2) (lCons (eInt 3) (lCons (eInt 2) (lCons (eInt 5) (lCons (eInt 2) (lCons (eInt 3) (lCons (eInt 7) lNil)))))))) (eOp .mod (eVar 6) (eInt 7)))) (sCons (sSet 8 (eOp .mod (eOp .fdiv (eVar 6) (eInt 7)) (eInt 4))) rest)
   [.sh (L s),.sh (.int k0),.sh (.int n),sa,sb,.sh (.int k),.sh (.int num),z7,z8,z9,z10]=rest [.sh (L s),.sh (.int k0),.sh (.int n),sa,sb,.sh (.int k),.sh (.int num),.sh (.int t),.sh (.int (num/7%4)),z9,z10]:=by
  intro rest
  simp only[sCons,sSet,keep_int,eIx,Dv.ixD,eOp,eVar,eInt,eLst,lNil,lCons,Dv.all,R.bind,RL.bind,Dv.R.bindL,Dv.RL.bindL,Out.bind,get_sh,scal_int,List.map_cons,List.map_nil,List.getElem?_cons_zero,List.getElem?_cons_succ,List.set_cons_zero,List.set_cons_succ,Bool.or_true,Bool.and_true,mod_ok (j:=7) (by decide),ht,fdiv_ok (j:=7) (by decide) (by decide),mod_ok (j:=4) (by decide)]
 have hsw:∀ (n':Int) (a' b':List Int) (sa' sb' y9 y10:Sl),P n' a' b'->n'<=12->Hs sa' a'->Hs sb' b'->∃ a2 b2 sa2 sb2,sIf (eCm .eq (eOp .mod (eOp .fdiv (eVar 6) (eInt 28)) (eInt 2)) (eInt 1)) (sPar [3,4] 3 4 (eVar 4) (eVar 3)) sNil [.sh (L s),.sh (.int k0),.sh (.int n'),sa',sb',.sh (.int k),.sh (.int num),.sh (.int t),.sh (.int (num/7%4)),y9,y10]
   = .nx [.sh (L s),.sh (.int k0),.sh (.int n'),sa2,sb2,.sh (.int k),.sh (.int num),.sh (.int t),.sh (.int (num/7%4)),y9,y10]/\P n' a2 b2/\Hs sa2 a2/\Hs sb2 b2:=by
  intro n' a' b' sa' sb' y9 y10 h' hn' ha' hb'
  by_cases hq:num/28%2=1
  ·refine⟨b',a',.sh (L b'),.sh (L a'),?_,hP.swap h',.inl rfl,.inl rfl⟩
   rcases ha' with e|e <;>rcases hb' with e2|e2 <;>(subst e; subst e2; simp only[Dv.give,Dv.open_,give_sh,give_ow,shared_sh,sIf,sPar,eCm,eOp,eVar,eInt,Dv.all,R.bind,RL.bind,Out.bind,get_sh,get_ow,scal_int,scal_lst,List.map_cons,List.map_nil,List.getElem?_cons_zero,List.getElem?_cons_succ,List.set_cons_zero,List.set_cons_succ,List.foldl_cons,List.foldl_nil,Option.getD_some,cm_eqI,fdiv_ok (j:=28) (by decide) (by decide),mod_ok (j:=2) (by decide),decide_eq_true hq])
  ·refine⟨a',b',sa',sb',?_,h',ha',hb'⟩
   simp only[sNil,sIf,eCm,eOp,eVar,eInt,Dv.all,R.bind,RL.bind,Out.bind,get_sh,scal_int,List.map_cons,List.map_nil,List.getElem?_cons_zero,List.getElem?_cons_succ,cm_eqI,fdiv_ok (j:=28) (by decide) (by decide),mod_ok (j:=2) (by decide),decide_eq_false hq]
 have hla:=hA.len
 have hlb:=hB.len
 have hmul:opD .mul (.int n) (.int (t:Int))=.ok (.int (n*t)) true:=mul_ok (mulOk_l (by omega) (by omega))
 unfold b_Q0I_l2
 rw[sCons_nx h6,h78]
 by_cases hle:n*t<=12
 ·by_cases hkd:num/7%4<2
  ·have hag:F_Q08 [.int n,L a,.int (t:Int)]=.ok (L (again n a t)) true:=by
    have:=again_ok (n:=n) (t:=(t:Int)) (xs:=a) (by omega) (by omega) (by omega)
    rwa [Int.toNat_natCast] at this
   obtain⟨a2,b2,sa2,sb2,e,p2,x1,x2⟩:=hsw (n*t) (again n a t) b (.ow (L (again n a t))) sb z9 z10 (hP.again (by omega) h) hle (.inr rfl) hb
   refine⟨n*t,a2,b2,sa2,sb2,.sh (.int num),.sh (.int t),.sh (.int (num/7%4)),z9,z10,?_,p2,hle,x1,x2⟩
   rw[sCons_nx (st1:=[.sh (L s),.sh (.int k0),.sh (.int (n*t)),.ow (L (again n a t)),sb,.sh (.int k),.sh (.int num),.sh (.int t),.sh (.int (num/7%4)),z9,z10])]
   ·exact e
   ·simp only[sCons,sSet,keep_int,keep_L,sIf,eCm,eOp,eVar,eInt,lNil,lCons,eCall,Dv.all,R.bind,RL.bind,Dv.R.bindL,Dv.RL.bindL,Out.bind,get_sh,get_ow,scal_int,scal_lst,List.map_cons,List.map_nil,List.getElem?_cons_zero,List.getElem?_cons_succ,List.set_cons_zero,List.set_cons_succ,Bool.and_true,Bool.and_false,cm_lt,cm_le,hmul,decide_eq_true hle,decide_eq_true hkd,ha.get,hag]
  ·obtain⟨z',em⟩:=mix_loop5 (s:=s) (k0:=k0) (n:=n) (t:=(t:Int)) (a:=a) (sa:=sa) (sb:=sb) (z5:=.sh (.int k)) (z6:=.sh (.int num)) (z8:=.sh (.int (num/7%4))) ha (by omega) (by omega) trivial (upto t) [] z10 (fun x hx=>by have:=mem_upto.mp hx; omega) (by
    rw[upto_len]
    have:t*a.length<=7*12:=Nat.mul_le_mul ht7 (by omega)
    simp; omega)
   rw[mix_fold] at em
   simp only[List.map_nil,L] at em
   have hmx:(mix a t t).length<64:=by
    have h1:(((mix a t t).length:Nat):Int)<=n*t:=by
     have e1:=(mix_beat hA (show 1<=t by omega)).len
     rw[isort_len] at e1
     exact e1
    omega
   have hc2:c_Q0I_2 [some (L s),some (.int k0),some (.int n),some (L (Dv.isort (mix a t t))),some (L b),some (.int k),some (.int num),some (.int t),some (.int (num/7%4)),some (L (mix a t t)),z'.get]=.ok (L (b.map (·*(t:Int)))) true:=by
    unfold c_Q0I_2
    exact eComp_all (f:=false) rfl (by omega) fun x hx=>by simp only[eOp,eVar,Dv.pick,R.bind,RL.bind,Out.bind,scal_int,List.map_cons,List.map_nil,List.getElem?_cons_zero,List.getElem?_cons_succ,Option.getD_some,mul_ok (mulOk_r (i:=x) (j:=(t:Int)) (by omega) (by omega))]
   obtain⟨a2,b2,sa2,sb2,e,p2,x1,x2⟩:=hsw (n*t) (Dv.isort (mix a t t)) (b.map (·*(t:Int))) (.ow (L (Dv.isort (mix a t t)))) (.ow (L (b.map (·*(t:Int))))) (.ow (L (mix a t t))) z' (hP.mix (by omega) h) hle (.inr rfl) (.inr rfl)
   refine⟨n*t,a2,b2,sa2,sb2,.sh (.int num),.sh (.int t),.sh (.int (num/7%4)),.ow (L (mix a t t)),z',?_,p2,hle,x1,x2⟩
   rw[sCons_nx (st1:=[.sh (L s),.sh (.int k0),.sh (.int (n*t)),.ow (L (Dv.isort (mix a t t))),.ow (L (b.map (·*(t:Int)))),.sh (.int k),.sh (.int num),.sh (.int t),.sh (.int (num/7%4)),.ow (L (mix a t t)),z'])]
   ·exact e
   ·have hso:=sort_ok hmx false
    simp only[L] at hso hc2
    simp only[sCons,sSet,keep_int,keep_L,keep_nil,Dv.give,Dv.open_,shared_sh,shared_ow,sIf,sFor,iRange,eB1,eCm,eOp,eVar,eInt,eLst,lNil,Dv.all,R.bind,RL.bind,Out.bind,get_sh,get_ow,scal_int,scal_lst,List.map_cons,List.map_nil,List.getElem?_cons_zero,List.getElem?_cons_succ,List.set_cons_zero,List.set_cons_succ,List.foldl_nil,if_true,cm_lt,cm_le,hmul,decide_eq_true hle,decide_eq_false hkd,Dv.flatL,rng_ok (n:=(t:Int)) (by omega) (by omega),Int.toNat_natCast,range_upto,em,hso,hb.get,hc2]
 ·obtain⟨a2,b2,sa2,sb2,e,p2,x1,x2⟩:=hsw n a b sa sb z9 z10 h hn ha hb
  refine⟨n,a2,b2,sa2,sb2,.sh (.int num),.sh (.int t),.sh (.int (num/7%4)),z9,z10,?_,p2,hn,x1,x2⟩
  rw[sCons_nx (st1:=[.sh (L s),.sh (.int k0),.sh (.int n),sa,sb,.sh (.int k),.sh (.int num),.sh (.int t),.sh (.int (num/7%4)),z9,z10])]
  ·exact e
  ·simp only[sNil,sIf,eCm,eOp,eVar,eInt,Dv.all,R.bind,RL.bind,Out.bind,get_sh,scal_int,List.map_cons,List.map_nil,List.getElem?_cons_zero,List.getElem?_cons_succ,cm_le,hmul,decide_eq_false hle]
theorem pair_loop5 {P:Int->List Int->List Int->Prop}(hP:PairP P){s:List Int}{k0:Int}(hk0:0<=k0)(hk1:k0<=1000):∀ (ks:List Int) (n:Int) (a b:List Int) (sa sb z5 z6 z7 z8 z9 z10:Sl),(∀ k∈ks,0<=k/\k<=100)->P n a b->n<=12->Hs sa a->Hs sb b ->
  ∃ n' a' b' sa' sb' y5 y6 y7 y8 y9 y10,forGo 5 b_Q0I_l2 (ks.map .int) [.sh (L s),.sh (.int k0),.sh (.int n),sa,sb,z5,z6,z7,z8,z9,z10]=.nx [.sh (L s),.sh (.int k0),.sh (.int n'),sa',sb',y5,y6,y7,y8,y9,y10]/\P n' a' b'/\n'<=12/\Hs sa' a'/\Hs sb' b'
 | [],n,a,b,sa,sb,z5,z6,z7,z8,z9,z10,_,h,hn,ha,hb=>⟨n,a,b,sa,sb,z5,z6,z7,z8,z9,z10,rfl,h,hn,ha,hb⟩
 | k::r,n,a,b,sa,sb,z5,z6,z7,z8,z9,z10,hk,h,hn,ha,hb=>by
  obtain⟨n1,a1,b1,sa1,sb1,y6,y7,y8,y9,y10,e1,p1,hn1,ha1,hb1⟩:=pair_body5 hP (s:=s) (z6:=z6) (z7:=z7) (z8:=z8) (z9:=z9) (z10:=z10) hk0 hk1 (hk k (List.mem_cons_self ..)) h hn ha hb
  obtain⟨n2,a2,b2,sa2,sb2,x5,x6,x7,x8,x9,x10,e2,p2⟩:=pair_loop5 hP hk0 hk1 r n1 a1 b1 sa1 sb1 (.sh (.int k)) y6 y7 y8 y9 y10 (fun x hx=>hk x (List.mem_cons_of_mem _ hx)) p1 hn1 ha1 hb1
  refine⟨n2,a2,b2,sa2,sb2,x5,x6,x7,x8,x9,x10,?_,p2⟩
  rw[List.map_cons,forGo_nx (st':=[.sh (L s),.sh (.int k0),.sh (.int n1),sa1,sb1,.sh (.int k),y6,y7,y8,y9,y10])]
  ·exact e2
  ·simp only[List.set_cons_succ,List.set_cons_zero]; exact e1
theorem pair5_ok {P:Int->List Int->List Int->Prop}(hP:PairP P){s:List Int}{k0:Int}(hk0:0<=k0)(hk1:k0<=1000):∃ n a b f,F_Q0I [L s,.int k0]=.ok (.tup [.int n,L a,L b]) f/\P n a b/\n<=12:=by
 obtain⟨n,a,b,sa,sb,y5,y6,y7,y8,y9,y10,e,p,hn,ha,hb⟩:=pair_loop5 hP (s:=s) hk0 hk1 (upto 6) 1 [0] [0] (.ow (L [0])) (.ow (L [0])) .no .no .no .no .no .no (fun x hx=>by have:=mem_upto.mp hx; omega) hP.one (by omega) (.inr rfl) (.inr rfl)
 have hA:=(hP.beat p).1
 have hB:=(hP.beat p).2
 have hnp:0<n:=by have:=hA.pos; omega
 have hla:=hA.len
 have hlb:=hB.len
 simp only[L,List.map_cons,List.map_nil] at e
 have hr:rngOk 6=true:=by decide
 have h6:(6:Int).toNat=6:=rfl
 refine⟨n,Dv.isort (a.map fun x=>(x+cell s (k0+6)%n)%n),Dv.isort (b.map fun x=>(x+cell s (k0+7)%n)%n),false,?_,hP.swap (hP.turn _ (hP.swap (hP.turn _ p))),hn⟩
 have ht1:=turned_ok (by_:=cell s (k0+6)%n) (xs:=a) hnp (by omega)
 have ht2:=turned_ok (by_:=cell s (k0+7)%n) (xs:=b) hnp (by omega)
 simp only[F_Q0I,b_Q0I,b_Q0I_t5,b_Q0I_t4,b_Q0I_t3,b_Q0I_t2,b_Q0I_t1,Dv.fn,sCons,sSet,keep_int,keep_L,keep_one,Dv.give,sRet,sFor,iRange,eOp,eVar,eInt,eLst,eTup,lNil,lCons,eCall,Dv.all,R.bind,RL.bind,Dv.R.bindL,Dv.RL.bindL,Out.bind,get_sh,get_ow,scal_int,scal_lst,List.map_cons,List.map_nil,List.length_cons,List.length_nil,List.replicate,List.cons_append,List.nil_append,List.getElem?_cons_zero,List.getElem?_cons_succ,List.set_cons_zero,List.set_cons_succ,List.foldl_nil,Bool.and_true,Bool.and_false,if_true,Nat.reduceAdd,Nat.reduceSub,add_ok,Dv.flatL,hr,h6,range_upto,e,ha.get,hb.get,cell_ok (s:=s) (k:=k0+6) (by omega) (by omega),cell_ok (s:=s) (k:=k0+7) (by omega) (by omega),mod_ok hnp,ht1,ht2]
theorem at_last {xs:List Int}(h:xs≠[]):Dv.at? (xs.map D.int) (-1)=some (.int (xs.getLast h)):=by
 have hl:0<xs.length:=List.length_pos_iff.mpr h
 unfold Dv.at?
 rw[if_neg (by omega),if_pos (by simp; omega)]
 have:((-1:Int)+((xs.map D.int).length:Int)).toNat=xs.length-1:=by simp; omega
 rw[this,List.getElem?_map,List.getElem?_eq_getElem (by omega),List.getLast_eq_getElem]
 rfl
noncomputable def ones (c:List Int)(xs:List Int):List Int:=xs.foldl (fun c x=>c.set x.toNat 1) c
structure Up (m:Int)(xs:List Int):Prop where
 up:xs.Pairwise (·<·)
 rg:∀ x∈xs,0<=x/\x<m
open Bt Wm
theorem range_upL (lo:Int):∀ m:Nat,Dv.rangeL lo m=(Dv.upL lo m).map .int
 | 0=>rfl
 | m+1=>by unfold Dv.rangeL Dv.upL; rw[range_upL (lo+1) m]; rfl
theorem upL_len (lo:Int):∀ m:Nat,(Dv.upL lo m).length=m
 | 0=>rfl
 | m+1=>by unfold Dv.upL; rw[List.length_cons,upL_len]
theorem last_d {r:List Int}(h:r≠[]):r.getLastD 0=r.getLast h:=by
 cases r with
 | nil=>exact absurd rfl h
 | cons a t=>simp[List.getLastD]
section
variable {n:Int}{A:List Int}
theorem all_c1 {r:List Int}(hr:r≠[])(hl:r.length<=100)(b1:0<=r.getLastD 0)(b2:r.getLastD 0<n)(n2:n<=60){a1 a2 a3 a4:Option D} :
  ∃ f,c_Q09_1 [some (.int n),a1,a2,a3,a4,some (L r)]=.ok (LL ((Dv.upL (r.getLastD 0+1) (n-(r.getLastD 0+1)).toNat).map fun p=>r++[p])) f:=by
 have hit:iRange2 (eOp .add (eIx (eVar 5) (eNeg (eInt 1))) (eInt 1)) (eVar 0) [some (.int n),a1,a2,a3,a4,some (L r)]=.ok ((Dv.upL (r.getLastD 0+1) (n-(r.getLastD 0+1)).toNat).map .int) true:=by
  have e1:=at_last hr
  rw[<- last_d hr] at e1
  simp only[iRange2,eIx,Dv.ixD,eNeg,eOp,eVar,eInt,R.bind,RL.bind,Out.bind,scal_int,scal_lst,List.getElem?_cons_zero,List.getElem?_cons_succ,Bool.or_true,Bool.and_true,if_true,add_ok,L,e1,rng_ok (n:=n) (by omega) (by omega),rng_ok (n:=r.getLastD 0+1) (by omega) (by omega),range_upL]
 obtain⟨f,e,_⟩:=eComp_D (elt:=eOp .add (eVar 1) (eLst (lCons (eVar 0) lNil))) (is:=[5]) (g:=fun p=>L (r++[p])) (f:=true) hit (by rw[upL_len]; omega) (fun p _=>by
  have:=cat_ok (a:=r) (b:=[p]) (by simp; omega)
  simp only[L,List.map_cons,List.map_nil] at this
  simp only[eOp,eVar,eLst,lNil,lCons,Dv.pick,R.bind,RL.bind,Dv.R.bindL,Dv.RL.bindL,Out.bind,scal_int,scal_lst,List.map_cons,List.map_nil,List.getElem?_cons_zero,List.getElem?_cons_succ,Option.getD_some,Bool.and_true,L,this])
 refine⟨f,?_⟩
 unfold c_Q09_1
 rw[e]
 unfold LL
 rw[List.map_map]
 rfl
theorem cat_LL {a b:List (List Int)}(h:a.length+b.length<=100000):∃ f,opD .add (LL a) (LL b)=.ok (LL (a++b)) f:=by
 unfold LL opD
 simp only[List.length_map]
 rw[if_pos (by unfold Dv.mx; exact h)]
 exact⟨_,by rw[List.map_append]⟩
noncomputable def RowP (n:Int)(r:List Int):Prop:=r≠[]/\r.length<=100/\0<=r.getLastD 0/\r.getLastD 0<n
theorem all_in (n2:n<=60){a1 a2:D}{z3:Sl}:∀ (RR acc:List (List Int)) (z5:Sl),(∀ r∈RR,RowP n r)->acc.length+(ext n RR).length<=100000 ->
  ∃ y5,forGo 5 b_Q09_l1 (RR.map L) [.sh (.int n),.sh a1,.sh a2,z3,.sh (LL acc),z5]=.nx [.sh (.int n),.sh a1,.sh a2,z3,.sh (LL (acc++ext n RR)),y5]
 | [],acc,z5,_,_=>⟨z5,by simp[forGo,ext]⟩
 | r::RR,acc,z5,hr,hl=>by
  obtain⟨h1,h2,h3,h4⟩:=hr r (List.mem_cons_self ..)
  have e0:ext n (r::RR)=(Dv.upL (r.getLastD 0+1) (n-(r.getLastD 0+1)).toNat).map (fun p=>r++[p])++ext n RR:=by unfold ext; rw[List.flatMap_cons]
  rw[e0,List.length_append] at hl
  obtain⟨f,c1⟩:=all_c1 (n:=n) (r:=r) h1 h2 h3 h4 n2 (a1:=some a1) (a2:=some a2) (a3:=z3.shared) (a4:=some (LL acc))
  obtain⟨f2,c2⟩:=cat_LL (a:=acc) (b:=(Dv.upL (r.getLastD 0+1) (n-(r.getLastD 0+1)).toNat).map (fun p=>r++[p])) (by omega)
  obtain⟨y5,e⟩:=all_in n2 (a1:=a1) (a2:=a2) (z3:=z3) RR (acc++(Dv.upL (r.getLastD 0+1) (n-(r.getLastD 0+1)).toNat).map (fun p=>r++[p])) (.sh (L r)) (fun x hx=>hr x (List.mem_cons_of_mem _ hx)) (by rw[List.length_append]; omega)
  refine⟨y5,?_⟩
  rw[List.map_cons,forGo_nx (st':=[.sh (.int n),.sh a1,.sh a2,z3,.sh (LL (acc++(Dv.upL (r.getLastD 0+1) (n-(r.getLastD 0+1)).toNat).map (fun p=>r++[p]))),.sh (L r)]),e,e0,List.append_assoc]
  simp only[List.set_cons_succ,List.set_cons_zero]
  unfold b_Q09_l1
  simp only[sSetG,Dv.give,Dv.open_,give_sh,shared_sh,eOp,eVar,R.bind,RL.bind,Out.bind,List.map_cons,List.map_nil,List.getElem?_cons_zero,List.getElem?_cons_succ,List.set_cons_zero,List.set_cons_succ,List.foldl_cons,List.foldl_nil,Option.getD_some,c1,c2]
theorem rowP_of {k:Nat}(hn:1<=n)(n2:n<=60):∀ r∈rowsA n k,RowP n r:=fun r hr=>by
 obtain⟨b,_,hl⟩:=(mem_rowsA hn).mp hr
 have h1:=b.rg (r.getLast b.ne) (List.getLast_mem _)
 have h2:=b.len
 exact⟨b.ne,by omega,by rw[last_d b.ne]; omega,by rw[last_d b.ne]; omega⟩
theorem all_out (hn:1<=n)(n2:n<=12){a1:D}:∀ (ks:List Int) (k:Nat) (z3 z4 z5:Sl),
  ∃ y3 y4 y5,forGo 3 b_Q09_l2 (ks.map .int) [.sh (.int n),.sh a1,.sh (LL (rowsA n k)),z3,z4,z5]=.nx [.sh (.int n),.sh a1,.sh (LL (rowsA n (k+ks.length))),y3,y4,y5]
 | [],k,z3,z4,z5=>⟨z3,z4,z5,rfl⟩
 | j::ks,k,z3,z4,z5=>by
  have hlen:=rowsA_len n2 (k+1)
  obtain⟨w5,e1⟩:=all_in (n:=n) (by omega) (a1:=a1) (a2:=LL (rowsA n k)) (z3:=.sh (.int j)) (rowsA n k) [] z5 (rowP_of hn (by omega)) (by rw[rowsA_succ]; simp; omega)
  rw[List.nil_append,rowsA_succ] at e1
  obtain⟨y3,y4,y5,e⟩:=all_out hn n2 (a1:=a1) ks (k+1) (.sh (.int j)) (.sh (LL (rowsA n (k+1)))) w5
  refine⟨y3,y4,y5,?_⟩
  rw[List.map_cons,forGo_nx (st':=[.sh (.int n),.sh a1,.sh (LL (rowsA n (k+1))),.sh (.int j),.sh (LL (rowsA n (k+1))),w5]),e]
  ·rw[List.length_cons,show k+1+ks.length=k+(ks.length+1) by omega]
  ·simp only[List.set_cons_succ,List.set_cons_zero]
   unfold b_Q09_l2
   have e2:LL ([]:List (List Int))=.lst []:=rfl
   rw[e2] at e1
   unfold LL at e1 ⊢
   simp only[sCons,sSetG,Dv.give,Dv.open_,give_sh,shared_sh,sFor,iSeq,eVar,eLst,lNil,R.bind,RL.bind,Out.bind,scal_lst,List.map_cons,List.map_nil,List.getElem?_cons_zero,List.getElem?_cons_succ,List.set_cons_zero,List.set_cons_succ,List.foldl_cons,List.foldl_nil,Option.getD_some,e1]
theorem fills_is:F_Q0F=F_Q0E:=rfl
theorem comp_rows {cond:EE}{free:Dv.Env}{c:List Int->Bool}:∀ {R:List (List Int)},(∀ r∈R,cond (some (L r)::free)=.ok (.bl (c r)) true)->∃ f,compGo (eVar 0) cond free (R.map L)=.ok ((R.filter c).map L) f
 | [],_=>⟨true,rfl⟩
 | r::R,h=>by
  obtain⟨f,e⟩:=comp_rows (R:=R) fun x hx=>h x (List.mem_cons_of_mem _ hx)
  rw[List.map_cons]
  unfold compGo
  rw[h r (List.mem_cons_self ..),List.filter_cons]
  cases q:c r with
  | true =>
   have:(eVar 0) (some (L r)::free)=.ok (L r) false:=rfl
   simp only[this,e,if_true]
   exact⟨_,rfl⟩
  | false =>
   simp only[e,Bool.false_eq_true,if_false]
   exact⟨_,rfl⟩
theorem law_all_ok (h:Beat n A)(n2:n<=12){k:Nat}(hQ:((A.length*(k+1):Nat):Int)=n):∃ f,F_Q09 [.int n,L A]=.ok (LL (lawA n A k)) f:=by
 have hp:=h.pos
 have hl:=h.len1
 have hle:=h.len
 have hz:n%(A.length:Int)=0:=by
  rw[<- hQ,Int.natCast_mul]; exact Int.mul_emod_right ..
 have hdv:n/(A.length:Int)-1=(k:Int):=by
  have:n/(A.length:Int)=((k+1:Nat):Int):=by
   rw[<- hQ,Int.natCast_mul]; exact Int.mul_ediv_cancel_left _ (by omega)
  omega
 obtain⟨y3,y4,y5,e⟩:=all_out hp n2 (a1:=L A) (upto k) 0 .no .no .no
 rw[upto_len,Nat.zero_add] at e
 have e0:rowsA n 0=[[0]]:=by simp[rowsA,G]
 rw[e0] at e
 have hk:k<=12:=by
  have:A.length*(k+1)<=12:=by omega
  have:=Nat.le_mul_of_pos_left (k+1) hl
  omega
 obtain⟨f,c2⟩:∃ f,c_Q09_2 [some (.int n),some (L A),some (LL (rowsA n k)),y3.get,y4.get,y5.get]=.ok (LL (lawA n A k)) f:=by
  have hlen:=rowsA_len n2 k
  obtain⟨f,e⟩:=comp_rows (cond:=eCall F_Q0F (lCons (eVar 1) (lCons (eVar 2) (lCons (eVar 0) lNil)))) (free:=[some (.int n),some (L A)]) (c:=fun B=>decide (tally n.toNat (hits n A B)=List.replicate n.toNat 1)) (R:=rowsA n k) (fun r _=>by
   rw[fills_is]
   simp only[eVar,lNil,lCons,eCall,R.bind,RL.bind,Dv.R.bindL,Dv.RL.bindL,Out.bind,scal_int,scal_lst,List.getElem?_cons_zero,List.getElem?_cons_succ,Bool.and_true,Bool.and_false,filled_ok (show 0<n by omega) (show n<=60 by omega)])
  refine⟨f,?_⟩
  unfold c_Q09_2 eComp
  have hi:iSeq (eVar 2) [some (.int n),some (L A),some (LL (rowsA n k)),y3.get,y4.get,y5.get]=.ok ((rowsA n k).map L) false:=rfl
  rw[hi]
  simp only
  rw[if_pos (by rw[List.length_map]; unfold Dv.mx; omega)]
  have hpk:Dv.pick [some (.int n),some (L A),some (LL (rowsA n k)),y3.get,y4.get,y5.get] [0,1]=[some (.int n),some (L A)]:=rfl
  rw[hpk,e]
  rfl
 refine⟨f,?_⟩
 have e1:LL [[0]]=.lst [.lst [.int 0]]:=rfl
 rw[e1] at e
 simp only[F_Q09,b_Q09,b_Q09_t1,b_Q09_t2,b_Q09_t3,Dv.fn,sCons,sNil,sSetG,Dv.give,Dv.open_,give_sh,shared_no,shared_sh,sIf,sRet,sFor,iRange,eB1,Dv.lenD,eCm,eOp,eVar,eInt,eLst,lNil,lCons,Dv.all,R.bind,RL.bind,Dv.R.bindL,Dv.RL.bindL,Out.bind,get_no,get_sh,scal_int,scal_lst,List.map_cons,List.map_nil,List.length_cons,List.length_nil,List.replicate,List.cons_append,List.nil_append,List.getElem?_cons_zero,List.getElem?_cons_succ,List.set_cons_zero,List.set_cons_succ,List.foldl_cons,List.foldl_nil,Option.getD_some,Bool.and_true,Bool.not_true,if_true,Nat.reduceAdd,Nat.reduceSub,decide_true,sub_ok,cm_neI,List.length_map,L,mod_ok (j:=(A.length:Int)) (by omega),hz,decide_true,fdiv_ok (i:=n) (j:=(A.length:Int)) (by omega) (by omega),hdv,rng_ok (n:=(k:Int)) (by omega) (by omega),Int.toNat_natCast,range_upto]
 simp only[L] at e c2
 simp only[get_sh,List.map_cons,List.map_nil,e,c2]
theorem law_all_no (h:Beat n A)(hz:n%(A.length:Int)≠0):F_Q09 [.int n,L A]=.ok (LL []) true:=by
 have hl:=h.len1
 simp only[F_Q09,b_Q09,b_Q09_t3,b_Q09_t2,b_Q09_t1,Dv.fn,sCons,sIf,sRet,eB1,Dv.lenD,eCm,eOp,eVar,eInt,eLst,lNil,Dv.all,R.bind,RL.bind,Out.bind,get_no,get_sh,scal_int,scal_lst,List.map_cons,List.map_nil,List.length_cons,List.length_nil,List.replicate,List.cons_append,List.nil_append,List.getElem?_cons_zero,List.getElem?_cons_succ,Bool.not_false,Nat.reduceAdd,Nat.reduceSub,cm_neI,List.length_map,L,mod_ok (j:=(A.length:Int)) (by omega),decide_eq_false hz]
 rfl
end
theorem rows_loop:∀ (a b:List (List Int)) (A B:D) (y z:Sl),a.length=b.length->∃ st',Dv.forGoT (Dv.tupTo [2,3]) b_Q0J_l1 (List.zipWith (fun x y=>D.tup [x,y]) (a.map L) (b.map L)) [.sh A,.sh B,y,z]=(if a=b then .nx st' else .ret (.bl false) true)
 | [],[],A,B,y,z,_=>⟨_,rfl⟩
 | [],_::_,_,_,_,_,h=>by simp at h
 | _::_,[],_,_,_,_,h=>by simp at h
 | x::a,w::b,A,B,y,z,h=>by
  obtain⟨st',e⟩:=rows_loop a b A B (.sh (L x)) (.sh (L w)) (by simpa using h)
  rw[List.map_cons,List.map_cons,List.zipWith_cons_cons]
  by_cases q:x=w
  ·subst q
   refine⟨st',?_⟩
   rw[forGoT_nx (st1:=[.sh A,.sh B,.sh (L x),.sh (L x)]) (st':=[.sh A,.sh B,.sh (L x),.sh (L x)]) rfl,e]
   ·simp
   ·simp only[b_Q0J_l1,sNil,sIf,eNot,eVar,lNil,lCons,eCall,Dv.all,R.bind,RL.bind,Dv.R.bindL,Dv.RL.bindL,Out.bind,get_sh,scal_lst,List.map_cons,List.map_nil,List.getElem?_cons_zero,List.getElem?_cons_succ,Bool.and_true,Bool.and_false,Bool.not_true,decide_true,beat_is_ok,decide_true]
  ·refine⟨[],?_⟩
   rw[forGoT_ret (st1:=[.sh A,.sh B,.sh (L x),.sh (L w)]) (v:=.bl false) (f:=true) rfl,if_neg (by intro z; cases z; exact q rfl)]
   simp only[b_Q0J_l1,sIf,sRet,eNot,eVar,eBl,lNil,lCons,eCall,Dv.all,R.bind,RL.bind,Dv.R.bindL,Dv.RL.bindL,Out.bind,get_sh,scal_lst,List.map_cons,List.map_nil,List.getElem?_cons_zero,List.getElem?_cons_succ,Bool.and_true,Bool.and_false,Bool.not_false,beat_is_ok,decide_eq_false q]
theorem rows_ok (a b:List (List Int)):F_Q0J [LL a,LL b]=.ok (.bl (decide (a=b))) true:=by
 have hI:((a.length:Int)=(b.length:Int))=(a.length=b.length):=by simp; omega
 by_cases hl:a.length=b.length
 ·obtain⟨st',e⟩:=rows_loop a b (LL a) (LL b) .no .no hl
  unfold LL at e
  by_cases q:a=b
  ·rw[if_pos q] at e
   simp only[F_Q0J,b_Q0J,b_Q0J_t1,b_Q0J_t2,Dv.fn,sCons,sNil,Dv.give,Dv.open_,give_sh,shared_no,shared_sh,sIf,sRet,sForT,iZip,eB1,Dv.lenD,Dv.isListD,eOr,eNot,eCm,eVar,eBl,Dv.all,R.bind,RL.bind,Out.bind,get_no,get_sh,scal_lst,List.map_cons,List.map_nil,List.length_cons,List.length_nil,List.replicate,List.cons_append,List.nil_append,List.getElem?_cons_zero,List.getElem?_cons_succ,List.set_cons_zero,List.set_cons_succ,List.foldl_cons,List.foldl_nil,Option.getD_some,Bool.not_true,Nat.reduceAdd,Nat.reduceSub,decide_true,cm_neI,List.length_map,LL,hl,e,decide_eq_true q,decide_true]
  ·rw[if_neg q] at e
   simp only[F_Q0J,b_Q0J,b_Q0J_t1,b_Q0J_t2,Dv.fn,sCons,sNil,Dv.give,Dv.open_,give_sh,shared_no,shared_sh,sIf,sForT,iZip,eB1,Dv.lenD,Dv.isListD,eOr,eNot,eCm,eVar,Dv.all,R.bind,RL.bind,Out.bind,get_no,get_sh,scal_lst,List.map_cons,List.map_nil,List.length_cons,List.length_nil,List.replicate,List.cons_append,List.nil_append,List.getElem?_cons_zero,List.getElem?_cons_succ,List.set_cons_zero,List.set_cons_succ,List.foldl_cons,List.foldl_nil,Option.getD_some,Bool.not_true,Nat.reduceAdd,Nat.reduceSub,decide_true,cm_neI,List.length_map,LL,hl,e,decide_eq_false q,decide_true]
 ·have q:¬ a=b:=fun z=>hl (by rw[z])
  have hl2:¬ (a.length:Int)=(b.length:Int):=by omega
  simp only[F_Q0J,b_Q0J,b_Q0J_t2,b_Q0J_t1,Dv.fn,sCons,sIf,sRet,eB1,Dv.lenD,Dv.isListD,eOr,eNot,eCm,eVar,eBl,Dv.all,R.bind,RL.bind,Out.bind,get_no,get_sh,scal_lst,List.map_cons,List.map_nil,List.length_cons,List.length_nil,List.replicate,List.cons_append,List.nil_append,List.getElem?_cons_zero,List.getElem?_cons_succ,Bool.not_true,Bool.not_false,Nat.reduceAdd,Nat.reduceSub,cm_neI,List.length_map,LL,decide_eq_false hl2,decide_eq_false q]
theorem drop1_ok (b:List Int)(f:Bool):∃ f',Dv.sliceD (L b) f (some 1) none=.ok (L (b.drop 1)) f':=by
 refine⟨f || Dv.flatL (Dv.cutL (b.map .int) (some 1) none),?_⟩
 unfold Dv.sliceD L
 simp only
 congr 2
 unfold Dv.cutL Dv.cutI
 simp only[List.length_map]
 rw[if_neg (by omega)]
 cases b with
 | nil=>rfl
 | cons x r =>
  simp only[List.length_cons,List.map_cons,List.drop_succ_cons,List.drop_zero,List.map_cons]
  have:min (1:Int).toNat (r.length+1)=1:=by show min 1 _=1; omega
  rw[this]
  simp only[Nat.add_sub_cancel,List.drop_succ_cons,List.drop_zero]
  exact List.take_of_length_le (by simp)
theorem other_beat {n:Int}{b:List Int}(h:Beat n b){p:Int}(hp:0<=p/\p<n)(hn:p∉b):Beat n (Dv.isort (b.drop 1++[p])):=by
 refine sort_beat (by simp) (List.nodup_append.mpr ⟨h.nd.sublist (List.drop_sublist _ _),by simp,fun x hx y hy e=>?_⟩) fun x hx=>?_
 ·simp at hy; subst hy; subst e; exact hn (List.mem_of_mem_drop hx)
 ·rcases List.mem_append.mp hx with hx|hx
  ·exact h.rg x (List.mem_of_mem_drop hx)
  ·simp at hx; subst hx; exact hp
theorem case4_ok {s:List Int}(hs:Sm s):∃ n b f,F_Q0C [L s]=.ok (.lst [.int n,L b]) f/\Beat n b/\n<=12:=by
 have c0:=cell_ok (s:=s) (k:=0) (by omega) (by omega)
 obtain⟨n,p,q,f,e,⟨hp,_⟩,n2⟩:=pair5_ok pairBeat (s:=s) (k0:=1) (by omega) (by omega)
 have hpos:=hp.pos
 have r4:=mod_rg (n:=4) (a:=cell s 0) (by omega)
 generalize hq:cell s 0%4=kind at *
 by_cases h1:kind=1
 ·have hm:=mod_rg (n:=10) (a:=cell s 0/4) (by omega)
  have n1:1<=1+cell s 0/4%10:=by omega
  have so:=some_ok hs (k:=9) (n:=1+cell s 0/4%10) (by omega) (by omega) n1 (by omega)
  have h2:¬ kind=2:=by omega
  refine⟨1+cell s 0/4%10,someOf s 9 (1+cell s 0/4%10),false,?_,some_beat s 9 n1,by omega⟩
  simp only[F_Q0C,b_Q0C,b_Q0C_t1,b_Q0C_t2,b_Q0C_t3,b_Q0C_t4,Dv.fn,sCons,sNil,sSet,keep_int,keep_L,Dv.give,Dv.open_,give_sh,shared_no,shared_sh,sIf,sRet,sUnpack,Dv.setAll,eCm,eOp,eVar,eInt,eLst,lNil,lCons,eCall,Dv.all,R.bind,RL.bind,Dv.R.bindL,Dv.RL.bindL,Out.bind,get_no,get_sh,get_ow,scal_int,scal_lst,List.map_cons,List.map_nil,List.length_cons,List.length_nil,List.replicate,List.cons_append,List.nil_append,List.getElem?_cons_zero,List.getElem?_cons_succ,List.set_cons_zero,List.set_cons_succ,List.foldl_cons,List.foldl_nil,Option.getD_some,Bool.and_true,Bool.and_false,if_true,Nat.reduceAdd,Nat.reduceSub,add_ok,cm_eqI,e,c0,mod_ok (j:=4) (by decide),hq,decide_eq_true h1,fdiv_ok (j:=4) (by decide) (by decide),mod_ok (j:=10) (by decide),so,decide_eq_false h2]
 ·by_cases h2:kind=2
  ·have hm:=mod_rg (n:=n) (a:=cell s 0/4) (by omega)
   by_cases hin:cell s 0/4%n∈p
   ·refine⟨n,p,false,?_,hp,n2⟩
    simp only[F_Q0C,b_Q0C,b_Q0C_t1,b_Q0C_t2,b_Q0C_t3,b_Q0C_t4,Dv.fn,sCons,sNil,sSet,keep_int,Dv.give,Dv.open_,give_sh,shared_no,shared_sh,sIf,sRet,sUnpack,Dv.setAll,eCm,eOp,eVar,eInt,eLst,lNil,lCons,eCall,Dv.all,R.bind,RL.bind,Dv.R.bindL,Dv.RL.bindL,Out.bind,get_no,get_sh,scal_int,scal_lst,List.map_cons,List.map_nil,List.length_cons,List.length_nil,List.replicate,List.cons_append,List.nil_append,List.getElem?_cons_zero,List.getElem?_cons_succ,List.set_cons_zero,List.set_cons_succ,List.foldl_cons,List.foldl_nil,Option.getD_some,Bool.and_true,Bool.and_false,Bool.not_true,if_true,Nat.reduceAdd,Nat.reduceSub,cm_eqI,cm_notin,e,c0,mod_ok (j:=4) (by decide),hq,decide_eq_false h1,decide_eq_true h2,fdiv_ok (j:=4) (by decide) (by decide),mod_ok (j:=n) (by omega),decide_eq_true hin]
   ·have hl:=hp.len
    obtain⟨f',ed⟩:=drop1_ok p false
    have ec:=cat_ok (a:=p.drop 1) (b:=[cell s 0/4%n]) (by simp; omega)
    have es:=sort_ok (xs:=p.drop 1++[cell s 0/4%n]) (by simp; omega) true
    have e1:L [cell s 0/4%n]=.lst [.int (cell s 0/4%n)]:=rfl
    rw[e1] at ec
    refine⟨n,Dv.isort (p.drop 1++[cell s 0/4%n]),false,?_,other_beat hp hm hin,n2⟩
    simp only[F_Q0C,b_Q0C,b_Q0C_t1,b_Q0C_t2,b_Q0C_t3,b_Q0C_t4,Dv.fn,sCons,sNil,sSet,keep_int,keep_L,Dv.give,Dv.open_,give_sh,shared_no,shared_sh,sIf,sRet,sUnpack,Dv.setAll,eB1,eCm,eOp,eVar,eInt,eLst,lNil,lCons,eCall,eSlice,ePart,Dv.all,R.bind,RL.bind,Dv.R.bindL,Dv.RL.bindL,Out.bind,get_no,get_sh,get_ow,scal_int,scal_lst,List.map_cons,List.map_nil,List.length_cons,List.length_nil,List.replicate,List.cons_append,List.nil_append,List.getElem?_cons_zero,List.getElem?_cons_succ,List.set_cons_zero,List.set_cons_succ,List.foldl_cons,List.foldl_nil,Option.getD_some,Bool.and_true,Bool.and_false,Bool.not_false,if_true,Nat.reduceAdd,Nat.reduceSub,cm_eqI,cm_notin,e,c0,mod_ok (j:=4) (by decide),hq,decide_eq_false h1,decide_eq_true h2,fdiv_ok (j:=4) (by decide) (by decide),mod_ok (j:=n) (by omega),decide_eq_false hin,ed,ec,es]
  ·refine⟨n,p,false,?_,hp,n2⟩
   simp only[F_Q0C,b_Q0C,b_Q0C_t1,b_Q0C_t2,b_Q0C_t3,b_Q0C_t4,Dv.fn,sCons,sNil,sSet,keep_int,Dv.give,Dv.open_,give_sh,shared_no,shared_sh,sIf,sRet,sUnpack,Dv.setAll,eCm,eOp,eVar,eInt,eLst,lNil,lCons,eCall,Dv.all,R.bind,RL.bind,Dv.R.bindL,Dv.RL.bindL,Out.bind,get_no,get_sh,scal_int,scal_lst,List.map_cons,List.map_nil,List.length_cons,List.length_nil,List.replicate,List.cons_append,List.nil_append,List.getElem?_cons_zero,List.getElem?_cons_succ,List.set_cons_zero,List.set_cons_succ,List.foldl_cons,List.foldl_nil,Option.getD_some,Bool.and_true,Bool.and_false,if_true,Nat.reduceAdd,Nat.reduceSub,cm_eqI,e,c0,mod_ok (j:=4) (by decide),hq,decide_eq_false h1,decide_eq_false h2]
theorem bnd_tab:((List.range 13).all fun a=>(List.range 13).all fun k=>decide (a*(k+1) > 12) || (decide (bnd a k<=2000)&&decide (a ^ k<64)))=true:=by decide +kernel
theorem bnd_12 {a k:Nat}(ha:1<=a)(h:a*(k+1)<=12):bnd a k<=2000/\a ^ k<64:=by
 have h1:a<13:=by have:=Nat.le_mul_of_pos_right a (show 0<k+1 by omega); omega
 have h2:k<13:=by have:=Nat.le_mul_of_pos_left (k+1) ha; omega
 have:=List.all_eq_true.mp (List.all_eq_true.mp bnd_tab a (List.mem_range.mpr h1)) k (List.mem_range.mpr h2)
 simp only[Bool.or_eq_true,Bool.and_eq_true,decide_eq_true_eq] at this
 rcases this with h' | h'
 ·omega
 ·exact h'
theorem both_ok {n:Int}{A:List Int}(h:Beat n A)(n2:n<=12):∃ X f,F_Q00 [.int n,L A]=.ok (LL X) true/\F_Q09 [.int n,L A]=.ok (LL X) f/\X.length<=100/\∀ r∈X,r.length<=100:=by
 have hp:=h.pos
 have hl:=h.len1
 by_cases hz:n%(A.length:Int)=0
 ·obtain⟨k,hk⟩:∃ k:Nat,((A.length*(k+1):Nat):Int)=n:=by
   obtain⟨c,hc⟩:=Int.dvd_of_emod_eq_zero hz
   have hc1:1<=c:=by
    by_cases z:1<=c
    ·exact z
    ·have:(A.length:Int)*c<=(A.length:Int)*0:=Int.mul_le_mul_of_nonneg_left (by omega) (by omega)
     omega
   refine⟨(c-1).toNat,?_⟩
   rw[Int.natCast_mul,hc]
   congr 1
   omega
  have ⟨b1,b2⟩:=bnd_12 hl (show A.length*(k+1)<=12 by omega)
  have c1:=cas_le h (k+1) [0]
  have c2:=dfs_len h (k+1) [0]
  simp only[Nat.add_sub_cancel] at c1 c2
  have e1:=partners_ok h (by omega) hk (by omega) (by omega)
  obtain⟨f,e2⟩:=law_all_ok h n2 hk
  refine⟨lawA n A k,f,?_,e2,?_,fun r hr=>?_⟩
  ·rw[e1,lawA_eq h hk]
  ·rw[<- lawA_eq h hk,(Dv.lsort_perm _).length_eq]; omega
  ·unfold lawA at hr
   have:=(mem_rowsA hp).mp (List.mem_filter.mp hr).1
   have:=this.1.len
   omega
 ·exact⟨[],true,partners_no h (by omega) hz,law_all_no h hz,by simp,fun r hr=>by cases hr⟩
theorem shape_LL:∀ {X:List (List Int)},(∀ r∈X,r.length<=100)->∃ m,Dv.shapeL (X.map L)=some m/\m<=100
 | [],_=>⟨0,rfl,by omega⟩
 | r::X,h=>by
  obtain⟨m,e,hm⟩:=shape_LL (X:=X) fun x hx=>h x (List.mem_cons_of_mem _ hx)
  have:=h r (List.mem_cons_self ..)
  refine⟨max r.length m,?_,by omega⟩
  rw[List.map_cons]
  unfold L
  unfold Dv.shapeL
  unfold L at e
  rw[e,flat_L]
  simp
theorem law43_ok {s:List Int}(hs:Sm s):F_Q0G [L s]=.ok (.bl true) true:=by
 obtain⟨n,A,f0,e0,h,n2⟩:=case4_ok hs
 have hp:=h.pos
 have hl:=h.len
 obtain⟨X,f1,e1,e2,x1,x2⟩:=both_ok h n2
 have h1:Beat n (Dv.isort (A.map fun x=>(x+1)%n)):=turn_beat h
 obtain⟨Y,f2,e3,e4,_,_⟩:=both_ok h1 n2
 have et:=turned_ok (n:=n) (by_:=1) (xs:=A) (by omega) (by omega)
 obtain⟨m,sm,hm⟩:=shape_LL x2
 have rx:=rows_ok X X
 have ry:=rows_ok Y Y
 rw[decide_eq_true rfl] at rx ry
 have hk:(decide (m<2000)&&decide ((X.map L).length<=2000))=true:=by
  rw[List.length_map,Bool.and_eq_true]; exact⟨decide_eq_true (by omega),decide_eq_true (by omega)⟩
 have ls:Dv.listD (L A) false=.ok (L A) true:=by
  unfold Dv.listD L
  simp[flat_L]
 have sk:∀ (z0 z1 z2 z3 z4 z7:Sl),sKillRows 5 6 [z0,z1,z2,z3,z4,.dp (LL X),.no,z7]=.nx [z0,z1,z2,z3,z4,.no,.no,z7]:=by
  intro z0 z1 z2 z3 z4 z7
  unfold sKillRows LL
  simp only[List.getElem?_cons_succ,List.getElem?_cons_zero,sm,hk,Bool.true_and]
  rfl
 simp only[F_Q0G,b_Q0G,b_Q0G_t1,b_Q0G_t2,b_Q0G_t3,b_Q0G_t4,b_Q0G_t5,b_Q0G_t6,b_Q0G_t7,b_Q0G_t8,Dv.fn,sCons,sNil,sSet,sSetG,keep_L,Dv.give,Dv.open_,give_sh,shared_no,shared_sh,sIf,sRet,sUnpackL,Dv.setAll,eB1,Dv.listD,eOr,eNot,eCm,eVar,eInt,lNil,lCons,eCall,Dv.all,R.bind,RL.bind,Dv.R.bindL,Dv.RL.bindL,Out.bind,get_no,get_sh,get_ow,get_dp,sSetD,scal_int,scal_lst,List.map_cons,List.map_nil,List.length_cons,List.length_nil,List.replicate,List.cons_append,List.nil_append,List.getElem?_cons_zero,List.getElem?_cons_succ,List.set_cons_zero,List.set_cons_succ,List.foldl_cons,List.foldl_nil,Option.getD_some,Bool.or_true,Bool.and_true,Bool.true_and,Bool.and_false,Bool.not_true,if_true,Nat.reduceAdd,Nat.reduceSub,decide_true,cm_neL,flat_L,e0,e2,ls,e1,rx,decide_true,sk,et,e3,e4,ry]
end Cw
noncomputable def PySem.W.Fast.tw15241649950060503278:PySem.Program:=PySem.Challenge.pw_canonwheel_k43_all_partners
theorem PySem.W.Fast.te15241649950060503278:PySem.Challenge.pw_canonwheel_k43_all_partners=PySem.W.Fast.tw15241649950060503278:=rfl
def PySem.W.Fast.tw7215049559636585747 : Unit := ()
def PySem.W.Fast.tw17308326078237203587 : Unit := ()
def PySem.W.Fast.tw9204604565370473191 : Unit := ()
def PySem.W.Fast.tw891341428656681982 : Unit := ()
open PySem PySem.W PyProof.Rows
set_option maxRecDepth 100000 in
set_option maxHeartbeats 0 in
theorem PySem.Challenge.cw_canonwheel_k43_all_partners_holds : PySem.Challenge.rw_canonwheel_k43_all_partners.Holds := by
 w_on; o_law; k_head; (case hw => w_witness2)
 k_fill
 refine Sd.walkD (l := PySem.Challenge.rw_canonwheel_k43_all_partners) (k := 8) (x := "_law_script") (CX := fun w => Sd.CXe PySem.Challenge.rw_canonwheel_k43_all_partners.prog w) (Fl := Cw.F_Q0G) rfl rfl ⟨rfl,by decide,by decide⟩ (fun w h Y => PySem.W.kIn_of Y) (fun w => Sd.cxe_ok) ?F ?S
 case F =>
  intro w mg fa h KX G hmg
  refine' Lk43.all_mk KX G hmg ?a_Q04 ?l_Q04 ?c_Q04 ?k_Q04 ?a_Q03 ?l_Q03 ?c_Q03 ?k_Q03 ?a_Q02 ?l_Q02 ?c_Q02 ?k_Q02 ?a_Q0N ?l_Q0N ?c_Q0N ?k_Q0N ?a_Q0Q ?l_Q0Q ?c_Q0Q ?k_Q0Q ?t_turned ?a_Q0P ?l_Q0P ?c_Q0P ?k_Q0P ?a_Q0R ?l_Q0R ?c_Q0R ?k_Q0R ?a_Q05 ?l_Q05 ?c_Q05 ?k_Q05 ?a_Q0D ?l_Q0D ?c_Q0D ?k_Q0D ?a_Q0M ?l_Q0M ?c_Q0M ?k_Q0M ?a_Q0A ?l_Q0A ?c_Q0A ?k_Q0A ?a_Q0K ?l_Q0K ?c_Q0K ?k_Q0K ?a_Q0L ?l_Q0L ?c_Q0L ?k_Q0L ?a_Q08 ?l_Q08 ?c_Q08 ?k_Q08 ?a_Q0H ?l_Q0H ?c_Q0H ?k_Q0H ?a_Q0F ?l_Q0F ?c_Q0F ?k_Q0F ?a_Q09 ?l_Q09 ?c_Q09 ?k_Q09 ?a_Q0B ?l_Q0B ?c_Q0B ?k_Q0B ?a_Q0J ?l_Q0J ?c_Q0J ?k_Q0J ?a_Q01 ?l_Q01 ?c_Q01 ?k_Q01 ?a_Q0O ?l_Q0O ?c_Q0O ?k_Q0O ?a_Q00 ?l_Q00 ?c_Q00 ?k_Q00 ?a_Q07 ?l_Q07 ?c_Q07 ?k_Q07 ?z_len ?z_sorted ?z_range ?z_isinstance ?z_int ?z_bool ?z_list ?z_zip ?z_max ?z_min ?n_LONGEST ?n_MOST_CASES ?a_Walk ?pg_Walk ?hd_Walk ?po_Walk ?sa_Walk ?mk_Walk ?kc_Walk ?na_Walk_ways ?na_Walk_waiting ?na_Walk_rows ?na_Walk_gone ?a_Case ?pg_Case ?hd_Case ?po_Case ?sa_Case ?mk_Case ?kc_Case ?na_Case_laid ?na_Case_answers ?na_Case_at ?a_Case_init ?i_Case_init ?l_Case_init ?c_Case_init ?k_Case_init ?a_Walk_init ?i_Walk_init ?l_Walk_init ?c_Walk_init ?k_Walk_init ?a_Q0S ?i_write_row ?l_Q0S ?c_Q0S ?k_Q0S ?a_Q06 ?i_go_on ?l_Q06 ?c_Q06 ?k_Q06 ?a_3 ?x_3 ?g1_3 ?g2_3 ?g3_3 ?v_3 ?y_3 ?a_1 ?x_1 ?g1_1 ?g2_1 ?g3_1 ?v_1 ?y_1 ?a_0 ?x_0 ?g1_0 ?g2_0 ?g3_0 ?v_0 ?y_0 ?a_2 ?x_2 ?g1_2 ?g2_2 ?g3_2 ?v_2 ?y_2 ?s_33 ?s_31 ?s_30 ?s_32 ?s_13 ?s_11 ?s_10 ?s_12 ?s_03 ?s_01 ?s_00 ?s_02 ?s_23 ?s_21 ?s_20 ?s_22
  (case a_Q04 | l_Q04 | c_Q04 | k_Q04 | a_Q03 | l_Q03 | c_Q03 | k_Q03 | a_Q02 | l_Q02 | c_Q02 | k_Q02 | a_Q0N | l_Q0N | c_Q0N | k_Q0N | a_Q0Q | l_Q0Q | c_Q0Q | k_Q0Q | t_turned | a_Q0P | l_Q0P | c_Q0P | k_Q0P | a_Q0R | l_Q0R | c_Q0R | k_Q0R | a_Q05 | l_Q05 | c_Q05 | k_Q05 | a_Q0D | l_Q0D | c_Q0D | k_Q0D | a_Q0M | l_Q0M | c_Q0M | k_Q0M | a_Q0A | l_Q0A | c_Q0A | k_Q0A | a_Q0K | l_Q0K | c_Q0K | k_Q0K | a_Q0L | l_Q0L | c_Q0L | k_Q0L | a_Q08 | l_Q08 | c_Q08 | k_Q08 | a_Q0H | l_Q0H | c_Q0H | k_Q0H | a_Q0F | l_Q0F | c_Q0F | k_Q0F | a_Q09 | l_Q09 | c_Q09 | k_Q09 | a_Q0B | l_Q0B | c_Q0B | k_Q0B | a_Q0J | l_Q0J | c_Q0J | k_Q0J | a_Q01 | l_Q01 | c_Q01 | k_Q01 | a_Q0O | l_Q0O | c_Q0O | k_Q0O | a_Q00 | l_Q00 | c_Q00 | k_Q00 | a_Q07 | l_Q07 | c_Q07 | k_Q07 | z_len | z_sorted | z_range | z_isinstance | z_int | z_bool | z_list | z_zip | z_max | z_min | n_LONGEST | n_MOST_CASES | a_Walk | pg_Walk | hd_Walk | po_Walk | sa_Walk | mk_Walk | kc_Walk | na_Walk_ways | na_Walk_waiting | na_Walk_rows | na_Walk_gone | a_Case | pg_Case | hd_Case | po_Case | sa_Case | mk_Case | kc_Case | na_Case_laid | na_Case_answers | na_Case_at | a_Case_init | i_Case_init | l_Case_init | c_Case_init | k_Case_init | a_Walk_init | i_Walk_init | l_Walk_init | c_Walk_init | k_Walk_init | a_Q0S | i_write_row | l_Q0S | c_Q0S | k_Q0S | a_Q06 | i_go_on | l_Q06 | c_Q06 | k_Q06 | a_3 => show _ = _; k_is)
  (case x_3 => k_exc)
  (case g1_3 | g2_3 | g3_3 => show _ = _; k_is)
  (case v_3 => show _ = _; kit_is)
  (case y_3 | a_1 => show _ = _; k_is)
  (case x_1 => k_exc)
  (case g1_1 | g2_1 | g3_1 => show _ = _; k_is)
  (case v_1 => show _ = _; kit_is)
  (case y_1 | a_0 => show _ = _; k_is)
  (case x_0 => k_exc)
  (case g1_0 | g2_0 | g3_0 => show _ = _; k_is)
  (case v_0 => show _ = _; kit_is)
  (case y_0 | a_2 => show _ = _; k_is)
  (case x_2 => k_exc)
  (case g1_2 | g2_2 | g3_2 => show _ = _; k_is)
  (case v_2 => show _ = _; kit_is)
  (case y_2 => show _ = _; k_is)
  (case s_33 | s_31 | s_30 | s_32 | s_13 | s_11 | s_10 | s_12 | s_03 | s_01 | s_00 | s_02 | s_23 | s_21 | s_20 | s_22 => show _ = _; kit_is)
 case S => exact fun ns _ hb => Cw.law43_ok hb
