import PyProof.Rows.All
import Wide.All
import OpenK.AllK
import Wide.FinOn
import Lean
import PyProof.EqAt
import PyProof.EqKinds
import PyProof.TupleCall
import KE.BitLaws
import KE.KRevIter
import PyProof.P3In
import PySem.Challenge.RW_canonwheel_k32_whole_made_partner
set_option Elab.async false
set_option compiler.extract_closed false
set_option genSizeOf false
set_option genSizeOfSpec false
set_option bootstrap.genMatcherCode false
set_option linter.all false
set_option maxRecDepth 100000
namespace Au
theorem h1 (h:True:=by first|exact .inl rfl|exact .inr rfl|assumption):True:=h
theorem h2 (h:True:=by decide):True:=h
theorem h3 (h:True:=by intro _; rfl):True:=h
theorem h4 (h:True:=by rfl):True:=h
theorem h5 (h:True:=by intros; rfl):True:=h
theorem h6 (h:True:=by intro _ _ z; cases z):True:=h
theorem h7 (h:True:=by first|exact Or.inl rfl|exact Or.inr (Or.inl rfl)|exact Or.inr (Or.inr rfl)):True:=h
theorem h8 (h:True:=by intro _ _; rfl):True:=h
theorem h9 (h:True:=by with_unfolding_all rfl):True:=h
end Au
namespace L2
open PySem PySem.Spec PyProof.Rows
noncomputable abbrev Key:=Sum Int Str
noncomputable def keyIs:Key->Value->Bool
 | .inl k,v=>Value.isInt k v
 | .inr x,v=>Value.isStrOf x v
noncomputable def keyH (w:World):Key->Int
 | .inl k=>hashInt k
 | .inr x=>hashStr w x
theorem keyIs_shape:∀ {k:Key} {v:Value},keyIs k v=true->(∃ i t,k=Sum.inl i/\v=Value.int i t)\/(∃ x t,k=Sum.inr x/\v=Value.str x t)
 | .inl i,v,h=>by
  obtain⟨t,e⟩:=Value.isInt_shape (k:=i) (v:=v) h
  exact .inl ⟨i,t,rfl,e⟩
 | .inr x,v,h=>by
  obtain⟨t,e⟩:=Value.isStrOf_shape (x:=x) (v:=v) h
  exact .inr ⟨x,t,rfl,e⟩
theorem keyIs_int (i:Int)(t:Tok):keyIs (.inl i) (.int i t)=true:=by simp[keyIs,Value.isInt]
theorem keyIs_str (x:Str)(t:Tok):keyIs (.inr x) (.str x t)=true:=by simp[keyIs,Value.isStrOf]
theorem key_ll (a b:Int):decide ((Sum.inl a:Key)=Sum.inl b)=(a == b):=by
 by_cases e:a=b
 ·subst e; simp
 ·have h:¬ (Sum.inl a:Key)=Sum.inl b:=fun q=>e (Sum.inl.inj q)
  rw[decide_eq_false h]
  exact(beq_eq_false_iff_ne.mpr e).symm
theorem key_rr (a b:Str):decide ((Sum.inr a:Key)=Sum.inr b)=decide (a=b):=by
 by_cases e:a=b
 ·subst e; simp
 ·have h:¬ (Sum.inr a:Key)=Sum.inr b:=fun q=>e (Sum.inr.inj q)
  rw[decide_eq_false h,decide_eq_false e]
theorem key_lr (a:Int)(b:Str):decide ((Sum.inl a:Key)=Sum.inr b)=false:=decide_eq_false (fun q=>nomatch q)
theorem key_rl (a:Str)(b:Int):decide ((Sum.inr a:Key)=Sum.inl b)=false:=decide_eq_false (fun q=>nomatch q)
noncomputable def mixKind (prog:Program)(w:World):PySem.KeyKind prog w Key where
 is:=keyIs
 hash:=keyH w
 inj:=fun v a b ha hb=>by
  rcases keyIs_shape ha with ⟨i,t,rfl,rfl⟩|⟨x,t,rfl,rfl⟩
  ·rcases keyIs_shape hb with ⟨j,u,rfl,e⟩|⟨y,u,rfl,e⟩
   ·injection e with e1 _; rw[e1]
   ·exact nomatch e
  ·rcases keyIs_shape hb with ⟨j,u,rfl,e⟩|⟨y,u,rfl,e⟩
   ·exact nomatch e
   ·injection e with e1 _; rw[e1]
 byValue:=fun k v h=>by
  rcases keyIs_shape h with ⟨i,t,rfl,rfl⟩|⟨x,t,rfl,rfl⟩ <;>rfl
 pyHash:=fun hv h=>by
  rcases keyIs_shape hv with ⟨i,t,rfl,rfl⟩|⟨x,t,rfl,rfl⟩
  ·exact wpAny_pyHash_int h
  ·exact wpAny_pyHash_str h
 eqBool:=fun hu hv h=>by
  rcases keyIs_shape hu with ⟨i,t,rfl,rfl⟩|⟨x,t,rfl,rfl⟩
  ·rcases keyIs_shape hv with ⟨j,u,rfl,rfl⟩|⟨y,u,rfl,rfl⟩
   ·rw[key_ll] at h; exact wpAny_eqBool_int h
   ·rw[key_lr] at h; exact SeqAt.EqAt.int_str i t y u _ _ _ _ h
  ·rcases keyIs_shape hv with ⟨j,u,rfl,rfl⟩|⟨y,u,rfl,rfl⟩
   ·rw[key_rl] at h; exact SeqAt.EqAt.str_int x t j u _ _ _ _ h
   ·rw[key_rr] at h; exact wpAny_eqBool_str h
 «strs»:=fun k x t v h=>by
  rcases keyIs_shape h with ⟨i,u,rfl,e⟩|⟨y,u,rfl,e⟩
  ·exact nomatch e
  ·injection e with e1 _
   subst e1
   cases v <;>rfl
theorem mixKind_int (prog:Program)(w:World)(i:Int)(t:Tok):(mixKind prog w).is (.inl i) (.int i t)=true:=keyIs_int i t
theorem mixKind_str (prog:Program)(w:World)(x:Str)(t:Tok):(mixKind prog w).is (.inr x) (.str x t)=true:=keyIs_str x t
inductive V where
 | non|bl (b:Bool)|int (i:Int)|str (x:Str)|byt (b:Array UInt8)|flt (b:UInt64)|ref (a:Addr)|ty (n:String)
 deriving DecidableEq
noncomputable def RelV:V->Value->Prop
 | .non,u=>u=Value.none
 | .bl b,u=>u=Value.bool b
 | .int i,u=>∃ t,u=Value.int i t
 | .str x,u=>∃ t,u=Value.str x t
 | .byt b,u=>∃ t,u=Value.bytes b t
 | .flt b,u=>∃ t,u=Value.float b t
 | .ref a,u=>u=Value.ref a
 | .ty n,u=>u=Value.type n
noncomputable abbrev Vals:List V->List Value->Prop:=Paired RelV
theorem Vals.length {xs:List V}{us:List Value}(r:Vals xs us):xs.length=us.length:=Paired.length r
theorem Vals.get:∀ {xs:List V} {us:List Value} {i:Nat} {x:V},Vals xs us->xs[i]?=some x->∃ u,us[i]?=some u/\RelV x u
 | _,_,_,_,.nil,e=>by simp at e
 | _,_,0,_,.cons r _,e=>by simp at e; subst e; exact⟨_,rfl,r⟩
 | _,_,i+1,x,.cons _ t,e=>by
  obtain⟨u,h1,h2⟩:=Vals.get (i:=i) (x:=x) t (by simpa using e)
  exact⟨u,by simpa using h1,h2⟩
theorem Vals.set {x:V}{u:Value}(r:RelV x u):∀ {xs:List V} {us:List Value} (i:Nat),Vals xs us->Vals (xs.set i x) (us.set i u)
 | _,_,_,.nil=>.nil
 | _,_,0,.cons _ t=>.cons r t
 | _,_,i+1,.cons q t=>.cons q (Vals.set r i t)
theorem Vals.append {xs ys:List V}{us ws:List Value}(q:Vals xs us)(s:Vals ys ws):Vals (xs++ys) (us++ws):=by
 induction q with
 | nil=>exact s
 | cons r t ih=>exact .cons r ih
theorem Vals.take:∀ {xs:List V} {us:List Value} (n:Nat),Vals xs us->Vals (xs.take n) (us.take n)
 | _,_,0,_=>.nil
 | _,_,_+1,.nil=>.nil
 | _,_,n+1,.cons r t=>.cons r (Vals.take n t)
theorem Vals.drop:∀ {xs:List V} {us:List Value} (n:Nat),Vals xs us->Vals (xs.drop n) (us.drop n)
 | _,_,0,r=>r
 | _,_,_+1,.nil=>.nil
 | _,_,n+1,.cons _ t=>Vals.drop n t
noncomputable def RelO:Option V->Option Value->Prop
 | some v,some u=>RelV v u
 | none,none=>True
 | _,_=>False
noncomputable def KV {κ:Type}:List (κ × V)->List (κ × Value)->Prop:=Paired fun (p:κ × V) (q:κ × Value)=>p.1=q.1/\RelV p.2 q.2
noncomputable def kV:Key->V
 | .inl i=>.int i
 | .inr x=>.str x
inductive HO where
  | lst (xs:List V)
  | tup (xs:List V)
  | dK (kvs:List (Key × V))|dT (kvs:List (List Key × V))
  | set (S:Int->Bool) (n:Nat)
  | ins (C dx:Addr) (fs:List (Str × V))
  | own (x:Addr)
  | xd (fs:List (Str × V))
  | met (f x:Addr)
  | rng (lo hi:Int)
  | frz (o:Obj) (u:HO)
  | tbl (ps:Array Value)
  | ext (φ:Heap->Prop)
noncomputable abbrev Hp:=Addr->Option HO
noncomputable def upd (H:Hp)(a:Addr)(o:HO):Hp:=fun b=>if b=a then some o else H b
theorem upd_same {H:Hp}{a:Addr}{o:HO}:upd H a o a=some o:=by unfold upd; rw[if_pos rfl]
theorem upd_ne {H:Hp}{a b:Addr}{o:HO}(h:b≠a):upd H a o b=H b:=by unfold upd; rw[if_neg h]
theorem ne_of {H:Hp}{a b:Addr}{o u:HO}(h:H a=some o)(h':H b=some u)(d:o≠u):a≠b:=by
 intro e; subst e; rw[h] at h'; exact d (Option.some.inj h')
theorem ne_of_none {H:Hp}{a b:Addr}{o:HO}(h:H a=some o)(h':H b=none):a≠b:=by
 intro e; subst e; rw[h] at h'; cases h'
section
variable (P:Program)(w:World)
noncomputable def ObjOk (H:Hp)(h:Heap)(a:Addr):HO->Prop
 | .lst xs=>xs.length<=sizeLine/\∃ (its:List Value) (n:Nat),Vals xs its/\h.get? a=some { cls:=.type "list",data:=.seq its.toArray n }
 | .tup xs=>xs.length<=sizeLine/\∃ its:List Value,Vals xs its/\IsTup h a its.toArray
 | .dK kvs=>kvs.length<=sizeLine/\(a == sysModules)=false/\∃ vs,KV kvs vs/\h.DictOf (mixKind P w) a vs
 | .dT kvs=>kvs.length<=sizeLine/\(a == sysModules)=false/\∃ xs:List (List Key × Addr × Value),
   Paired (fun (p:List Key × V) (q:List Key × Addr × Value)=>p.1=q.1/\H q.2.1=some (.tup (p.1.map kV))/\RelV p.2 q.2.2) kvs xs /\
   ∃ o es ep,h.get? a=some o/\o.ExactDict/\o.data=.dict es ep/\es.toList=xs.map (entryOfKey (tupleKind (mixKind P w)))/\(xs.map (·.1)).Nodup
 | .set S n=>h.SetOf (intKind P w) a S n
 | .ins C dx fs=>H dx=some (.own a)/\fs.length<=1000/\dx≠a/\h.get? a=some (PySem.W.instObj C dx) /\
   ∃ mA,h.Ns1 dx mA/\(∀ f,RelO (fs.lookup f) (mA f))/\PySem.Within mA (fs.map (·.1))
 | .own _=>∃ o,h.get? a=some o
 | .xd fs=>∃ mA,h.Ns1 a mA/\∀ f,RelO (fs.lookup f) (mA f)
 | .rng lo hi=>∃ t u v,h.get? a=some { cls:=.type "range",data:=.fields #[.int lo t,.int hi u,.int 1 v] }
 | .frz o u=>h.get? a=some o/\ObjOk H h a u
 | .tbl ps=>h.get? a=some { cls:=.none,data:=.fields ps }
 | .met f x=>h.get? a=some (PySem.W.methodObj (.ref f) (.ref x))
 | .ext φ=>φ h/\(∃ o,h.get? a=some o)/\∀ h1 h2:Heap,φ h1->(∀ o,h1.get? a=some o->h2.get? a=some o)->φ h2
noncomputable def HOk (H:Hp)(h:Heap):Prop:=∀ a o,H a=some o->ObjOk P w H h a o
end
section
variable {P:Program}{w:World}{H H':Hp}{h h':Heap}{a:Addr}{o:HO}
theorem ObjOk.lt (x:ObjOk P w H h a o):a<h.objs.size:=by
 cases o with
 | lst xs=>obtain⟨_,_,_,_,e⟩:=x; exact Heap.lt_size e
 | tup xs=>obtain⟨_,_,_,p⟩:=x; exact p.lt
 | dK kvs=>obtain⟨_,_,_,_,o,_,_,e,_⟩:=x; exact Heap.lt_size e
 | dT kvs=>obtain⟨_,_,_,_,o,_,_,e,_⟩:=x; exact Heap.lt_size e
 | set S n=>obtain⟨o,_,_,_,e,_⟩:=x; exact Heap.lt_size e
 | ins C dx fs=>obtain⟨_,_,_,e,_⟩:=x; exact Heap.lt_size e
 | own y=>obtain⟨_,e⟩:=x; exact Heap.lt_size e
 | xd fs=>obtain⟨_,⟨_,_,_,e,_⟩,_⟩:=x; exact Heap.lt_size e
 | rng lo hi=>obtain⟨_,_,_,e⟩:=x; exact Heap.lt_size e
 | frz ob u=>obtain⟨e,_⟩:=x; exact Heap.lt_size e
 | tbl ps=>exact Heap.lt_size (show h.get? a=some _ from x)
 | met f y=>exact Heap.lt_size (show h.get? a=some _ from x)
 | ext φ=>obtain⟨_,⟨_,e⟩,_⟩:=x; exact Heap.lt_size e
theorem Paired.mapP {α β:Type}{F G:α->β->Prop}{l₁:List α}{l₂:List β}(q:Paired F l₁ l₂)(f:∀ a b,F a b->G a b):Paired G l₁ l₂:=by
 induction q with
 | nil=>exact .nil
 | cons r t ih=>exact .cons (f _ _ r) ih
theorem ObjOk.stay (x:ObjOk P w H h a o)(k:∀ b u,(b=a\/H b=some (.own a))->h.get? b=some u->h'.get? b=some u)
  (ho:∀ b,H b=some (.own a)->H' b=some (.own a)) (ht:∀ b xs,H b=some (.tup xs)->H' b=some (.tup xs)):ObjOk P w H' h' a o:=by
 induction o with
 | lst xs=>obtain⟨z,its,n,r,e⟩:=x; exact⟨z,its,n,r,k _ _ (.inl rfl) e⟩
 | tup xs=>obtain⟨z,its,r,ob,e,c⟩:=x; exact⟨z,its,r,ob,k _ _ (.inl rfl) e,c⟩
 | dK kvs=>obtain⟨z,y,vs,r,ob,es,ep,e,c⟩:=x; exact⟨z,y,vs,r,ob,es,ep,k _ _ (.inl rfl) e,c⟩
 | dT kvs =>
  obtain⟨z,y,xs,r,ob,es,ep,e,c⟩:=x
  exact⟨z,y,xs,Paired.mapP r fun p q z=>⟨z.1,ht _ _ z.2.1,z.2.2⟩,ob,es,ep,k _ _ (.inl rfl) e,c⟩
 | set S n=>obtain⟨ob,es,ep,t,e,c⟩:=x; exact⟨ob,es,ep,t,k _ _ (.inl rfl) e,c⟩
 | ins C dx fs =>
  obtain⟨d,z,ne,e,mA,⟨od,es,ep,e2,c⟩,r⟩:=x
  exact⟨ho _ d,z,ne,k _ _ (.inl rfl) e,mA,⟨od,es,ep,k _ _ (.inr d) e2,c⟩,r⟩
 | own y=>obtain⟨ob,e⟩:=x; exact⟨ob,k _ _ (.inl rfl) e⟩
 | xd fs=>obtain⟨mA,⟨od,es,ep,e,c⟩,r⟩:=x; exact⟨mA,⟨od,es,ep,k _ _ (.inl rfl) e,c⟩,r⟩
 | rng lo hi=>obtain⟨t,u,v,e⟩:=x; exact⟨t,u,v,k _ _ (.inl rfl) e⟩
 | frz ob u ih=>obtain⟨e,q⟩:=x; exact⟨k _ _ (.inl rfl) e,ih q⟩
 | tbl ps =>
  have e:h.get? a=some { cls:=.none,data:=.fields ps }:=x
  show h'.get? a=some { cls:=.none,data:=.fields ps }
  exact k a _ (.inl rfl) e
 | met f y =>
  have e:h.get? a=some (PySem.W.methodObj (.ref f) (.ref y)):=x
  show h'.get? a=some (PySem.W.methodObj (.ref f) (.ref y))
  exact k a _ (.inl rfl) e
 | ext φ=>obtain⟨p,⟨o,e⟩,st⟩:=x; exact⟨st _ _ p fun o q=>k _ _ (.inl rfl) q,⟨o,k _ _ (.inl rfl) e⟩,st⟩
theorem HOk.lt (x:HOk P w H h)(e:H a=some o):a<h.objs.size:=(x a o e).lt
theorem HOk.fresh (x:HOk P w H h)(e:h.objs.size<=a):H a=none:=by
 cases q:H a with
 | none=>rfl
 | some u=>exact absurd (Nat.lt_of_lt_of_le (x.lt q) e) (Nat.lt_irrefl _)
theorem HOk.kept (x:HOk P w H h)(k:∀ b u,h.get? b=some u->h'.get? b=some u):HOk P w H h':=fun a o e =>
 (x a o e).stay (fun b u _ q=>k b u q) (fun _ q=>q) fun _ _ q=>q
theorem HOk.laid (x:HOk P w H h)(k:∀ b u,h.get? b=some u->h'.get? b=some u)(hp:h.objs.size<=a)(new:ObjOk P w (upd H a o) h' a o):HOk P w (upd H a o) h':=fun b u e=>by
 have hn:=x.fresh hp
 by_cases hb:b=a
 ·subst hb; rw[upd_same] at e; cases e; exact new
 ·rw[upd_ne hb] at e
  exact(x b u e).stay (fun c v _ q=>k c v q) (fun c q=>by rw[upd_ne (ne_of_none q hn)]; exact q) fun c xs q=>by rw[upd_ne (ne_of_none q hn)]; exact q
end
noncomputable def Rd (H:Hp)(a:Addr)(u:HO):Prop:=H a=some u\/∃ o,H a=some (.frz o u)
theorem Rd.ok {P:Program}{w:World}{H:Hp}{h:Heap}{a:Addr}{u:HO}(r:Rd H a u)(x:HOk P w H h):ObjOk P w H h a u:=by
 rcases r with r|⟨o,r⟩
 ·exact x a u r
 ·obtain⟨_,q⟩:=x a _ r
  exact q
noncomputable def Mut:Option HO->Prop
 | some (.lst _)=>True
 | some (.dK _)=>True
 | some (.dT _)=>True
 | some (.set _ _)=>True
 | some (.ins _ _ _)=>True
 | some (.ext _)=>True
 | _=>False
section
variable {P:Program}{w:World}{H:Hp}{h h':Heap}{x e:Addr}{o':HO}
theorem HOk.write (ok:HOk P w H h)(mu:Mut (H x))(he:e=x\/H e=some (.own x))(k:∀ b u,b≠e->h.get? b=some u->h'.get? b=some u)(heo:∃ u,h'.get? e=some u)
  (new:ObjOk P w (upd H x o') h' x o'):HOk P w (upd H x o') h':=fun b u q=>by
 have nown:∀ c y,H c=some (.own y)->c≠x:=fun c y r z=>by subst z; rw[r] at mu; exact mu
 have ntup:∀ c xs,H c=some (.tup xs)->c≠x:=fun c xs r z=>by subst z; rw[r] at mu; exact mu
 by_cases hb:b=x
 ·subst hb; rw[upd_same] at q; cases q; exact new
 ·rw[upd_ne hb] at q
  by_cases hbe:b=e
  ·have q':H b=some (.own x):=by
    rcases he with z|z
    ·exact absurd (hbe.trans z) hb
    ·rw[hbe]; exact z
   rw[q] at q'; cases q'
   obtain⟨v,hv⟩:=heo
   exact⟨v,by rw[hbe]; exact hv⟩
  ·refine(ok b u q).stay (fun c v hc r=>k c v ?_ r) (fun c r=>by rw[upd_ne (nown c b r)]; exact r) fun c xs r=>by rw[upd_ne (ntup c xs r)]; exact r
   rcases hc with rfl|hc
   ·exact hbe
   ·rintro rfl
    rcases he with z|z
    ·exact nown c b hc z
    ·rw[hc] at z; cases z; exact hb rfl
end
structure Un (fs ex:List Addr)(H H':Hp)(h h':Heap):Prop where
 keep:∀ b o,h.get? b=some o->H b=none->b∉fs->b∉ex->h'.get? b=some o
 slot:∀ b o,h.get? b=some o->H b=none->b∈fs->b∉ex->∃ sl,h'.get? b=some { o with slots:=sl }
 free:∀ b o,h.get? b=some o->H b=none->b∉ex->H' b=none
 there:∀ b o,h.get? b=some o->b∉ex->∃ o',h'.get? b=some o'
 tups:∀ b xs,H b=some (.tup xs)->H' b=some (.tup xs)
 frzs:∀ b o u,H b=some (.frz o u)->H' b=some (.frz o u)
 tbls:∀ b ps,H b=some (.tbl ps)->∃ more,H' b=some (.tbl (ps++more))
section
variable {fs fs' ex ex':List Addr}{H H1 H2:Hp}{h h1 h2 h':Heap}{a x e:Addr}{o:HO}
theorem Un.any (u:Un fs ex H H1 h h1){b:Addr}{ob:Obj}(q:h.get? b=some ob)(n:H b=none)(hx:b∉ex):∃ sl,h1.get? b=some { ob with slots:=sl }:=by
 by_cases hb:b∈fs
 ·exact u.slot b ob q n hb hx
 ·exact⟨ob.slots,u.keep b ob q n hb hx⟩
theorem Un.kept (k:∀ b u,h.get? b=some u->h'.get? b=some u):Un fs ex H H h h' :=
 ⟨fun b ob q _ _ _=>k b ob q,fun b ob q _ _ _=>⟨ob.slots,k b ob q⟩,fun _ _ _ n _=>n,fun b ob q _=>⟨ob,k b ob q⟩,fun _ _ q=>q,fun _ _ _ q=>q,fun _ ps q=>⟨#[],by rw[q]; simp⟩⟩
theorem Un.refl:Un fs ex H H h h:=Un.kept fun _ _ q=>q
theorem Un.laid (k:∀ b u,h.get? b=some u->h'.get? b=some u)(hp:h.objs.size<=a)(hn:H a=none):Un fs ex H (upd H a o) h h' where
 keep:=fun b u q _ _ _=>k b u q
 slot:=fun b u q _ _ _=>⟨u.slots,k b u q⟩
 free:=fun b u q n _=>by rw[upd_ne (Nat.ne_of_lt (Nat.lt_of_lt_of_le (Heap.lt_size q) hp))]; exact n
 there:=fun b u q _=>⟨u,k b u q⟩
 tups:=fun b xs q=>by rw[upd_ne (ne_of_none q hn)]; exact q
 frzs:=fun b u xs q=>by rw[upd_ne (ne_of_none q hn)]; exact q
 tbls:=fun b ps q=>⟨#[],by rw[upd_ne (ne_of_none q hn),q]; simp⟩
theorem Un.write (mu:Mut (H x))(he:e=x\/H e=some (.own x))(k:∀ b u,b≠e->h.get? b=some u->h'.get? b=some u)(heo:∃ u,h'.get? e=some u):Un fs ex H (upd H x o) h h':=by
 have hx:∀ b,H b=none->b≠x:=fun b n z=>by subst z; rw[n] at mu; exact mu
 have hb:∀ b,H b=none->b≠e:=fun b n z=>by
  subst z
  rcases he with r|r
  ·exact hx b n r
  ·rw[n] at r; cases r
 have hm:∀ b u,H b=some u->¬ Mut (some u)->b≠x:=fun b u q nm z=>by subst z; rw[q] at mu; exact nm mu
 refine⟨fun b u q n _ _=>k b u (hb b n) q,fun b u q n _ _=>⟨u.slots,k b u (hb b n) q⟩,fun b u q n _=>by rw[upd_ne (hx b n)]; exact n,fun b u q _=>?_,
  fun b xs q=>by rw[upd_ne (hm b _ q fun z=>z)]; exact q,fun b u xs q=>by rw[upd_ne (hm b _ q fun z=>z)]; exact q,fun b ps q=>⟨#[],by rw[upd_ne (hm b _ q fun z=>z),q]; simp⟩⟩
 by_cases hbe:b=e
 ·subst hbe; exact heo
 ·exact⟨u,k b u hbe q⟩
end
noncomputable def trk (h:Heap)(H:Hp):List Addr:=(List.range h.objs.size).filter fun a=>(H a).isSome
noncomputable def hidT (h:Heap)(H:Hp):Heap:=PySem.W.hideAll h (trk h H)
theorem hidT_size (h:Heap)(H:Hp):(hidT h H).objs.size=h.objs.size:=PySem.W.hideAll_size _ _
theorem hidT_get {h:Heap}{H:Hp}{b:Addr}{o:Obj}(e:h.get? b=some o)(n:H b=none):(hidT h H).get? b=some o :=
 PySem.W.hideAll_get _ e fun hm=>by
  have q:(H b).isSome=true:=(List.mem_filter.mp hm).2
  rw[n] at q; simp at q
theorem of_hidT {h:Heap}{H:Hp}{b:Addr}{o:Obj}(e:(hidT h H).get? b=some o):h.get? b=some o/\H b=none:=by
 have e':h.get? b=some o:=PySem.W.of_hideAll (trk h H) e
 refine⟨e',?_⟩
 cases q:H b with
 | none=>rfl
 | some x =>
  have hm:b∈trk h H:=List.mem_filter.mpr ⟨List.mem_range.mpr (Heap.lt_size e'),by simp[q]⟩
  have z:(hidT h H).get? b=none:=PySem.W.hideAll_none (trk h H) hm
  rw[z] at e; cases e
noncomputable def allNews (g h:Heap)(L:Addr):List (Addr × Obj):=(List.range h.objs.size).filterMap fun a=>if a=L\/(g.get? a).isSome=true then none else (h.get? a).map fun o=>(a,o)
noncomputable def rest (g h:Heap)(L d:Addr):List (Addr × Obj):=(allNews g h L).filter fun p=>decide (p.1≠d)
structure Mod (K:PySem.W.Frag)(mg:Str->Option Value)(base:Heap):Prop where
 kin:K.In base
 glob:base.Ns mainGlobals mg
 blt:∃ mb,base.Ns builtinsNs mb/\∀ x:Str,x≠"__name__"->mb x=bootBuiltins x
 nolimit:base.NoLimit
/-- the context: a def's body (or a comprehension's block) running. base: fixed through the whole law; s₀,H₀: the entry; outer: the frames whose slots others may change (a def's callers); stack: all frames that run;
   ex: iterators that were made ahead of the entry and are walked here (a comprehension's); fn: the names whose cells were made at the entry (a def: all; a comprehension's block: its own); calm: not within an except suite; pn: pins that every state bears; xe: what is wanted of an exception that leaves the code -/
structure Cx where
 prog:Program
 w:World
 K:PySem.W.Frag
 mg:Str->Option Value
 base:Heap
 A:Around
 N:List Str
 s₀:Shared
 H₀:Hp
 env:Env
 outer:List Env
 stack:List Env
 ex:List Addr
 fn:Str->Bool
 calm:Bool
 pn:List (Addr × Obj)
 xe:Value->Shared->Prop
noncomputable def frs (l:List Env):List Addr:=l.filterMap (·.frame)
noncomputable abbrev Cx.fs (X:Cx):List Addr:=frs X.outer
noncomputable def Vis (sc:Scope)(x:Str):Prop:=sc.names.lookup x=some .local\/sc.names.lookup x=some .cell\/sc.names.lookup x=some .free
noncomputable def Loc (sc:Scope)(x:Str):Prop:=sc.names.lookup x=some .local\/sc.names.lookup x=some .cell
noncomputable def Look (env:Env)(h:Heap)(m:Str->Option Value)(x:Str)(u:Value):Prop :=
 (env.kindOf x=some .local/\m x=some u)\/((env.kindOf x=some .cell\/env.kindOf x=some .free)/\∃ c,env.cells.lookup x=some c/\h.IsCell c (some u))
structure Cx.Ok (X:Cx):Prop where
 mod:Mod X.K X.mg X.base
 kind:X.env.scope.kind=.function
 glob:X.env.globals=mainGlobals
 blt:X.env.builtins=builtinsNs
 above:X.s₀.heap.objs.size<=X.env.locals
 inj:∀ x y c,X.env.cells.lookup x=some c->X.env.cells.lookup y=some c->x=y
 has:∀ x,(X.env.kindOf x=some .cell\/X.env.kindOf x=some .free)->∃ c,X.env.cells.lookup x=some c
 cab:∀ x c,X.fn x=true->X.env.cells.lookup x=some c->X.s₀.heap.objs.size<=c
 hd:X.calm=true->X.A.handled=none
 frames:X.A.frames=some X.stack
 stk:X.stack=X.outer\/(X.stack=X.env::X.outer/\X.env.frame=some X.env.locals)
 exf:∀ b∈X.ex,b≠X.env.locals/\∀ x c,X.env.cells.lookup x=some c->c≠b
 bs:∀ b o,X.base.get? b=some o->X.s₀.heap.get? b=some o/\X.H₀ b=none
 bsz:X.base.objs.size<=X.s₀.heap.objs.size
 noex:∀ b o,X.base.get? b=some o->b∉X.ex
 exfs:∀ b∈X.ex,b∉X.fs
 funs:X.s₀.heap.FunFrames X.base X.outer
 frf:∀ b∈X.fs,X.H₀ b=none
structure Inv (X:Cx)(pins:List (Addr × Obj))(σ:List (Option V))(H:Hp)(s:Shared):Prop where
 ok:X.Ok
 os:s.os=X.s₀.os
 bare:AllBare s.gens
 base:Un X.fs X.ex X.H₀ H X.s₀.heap s.heap
 loc:∃ m,s.heap.Ns X.env.locals m/\∀ (i:Nat) (x:Str) (v:V),X.N[i]?=some x->σ[i]?=some (some v)->Vis X.env.scope x->∃ u,RelV v u/\Look X.env s.heap m x u
 cell:∀ x c,X.env.cells.lookup x=some c->∃ v,s.heap.IsCell c v
 free:H X.env.locals=none
 freeC:∀ x c,X.env.cells.lookup x=some c->H c=none
 pin:∀ p∈X.pn++pins,s.heap.get? p.1=some p.2/\H p.1=none/\p.1≠X.env.locals/\p.1∉X.fs/\∀ v,p.2.data≠.cell v
 hok:HOk X.prog X.w H s.heap
 len:σ.length=X.N.length
section
variable {X:Cx}{pins:List (Addr × Obj)}{σ:List (Option V)}{H H':Hp}{s:Shared}{h':Heap}
theorem Cx.Ok.nofr (ok:X.Ok){b:Addr}{o:Obj}(e:X.base.get? b=some o):b∉X.fs:=fun hb=>by
 have:=(ok.funs.mem hb).1
 rw[e] at this; cases this
theorem Inv.bs (I:Inv X pins σ H s):∀ b o,X.base.get? b=some o->s.heap.get? b=some o/\H b=none:=fun b o e =>
 ⟨I.base.keep b o (I.ok.bs b o e).1 (I.ok.bs b o e).2 (I.ok.nofr e) (I.ok.noex b o e),I.base.free b o (I.ok.bs b o e).1 (I.ok.bs b o e).2 (I.ok.noex b o e)⟩
theorem Inv.bk (I:Inv X pins σ H s):∀ b o,X.base.get? b=some o->s.heap.get? b=some o:=fun b o e=>(I.bs b o e).1
theorem Inv.mod (I:Inv X pins σ H s):Mod X.K X.mg X.base:=I.ok.mod
theorem Inv.kIn (I:Inv X pins σ H s):X.K.In s.heap:=I.ok.mod.kin.keeps I.bk
theorem Inv.lt (I:Inv X pins σ H s):X.env.locals<s.heap.objs.size:=let ⟨_,hn,_⟩:=I.loc; hn.lt
theorem Inv.sz (I:Inv X pins σ H s):X.s₀.heap.objs.size<=s.heap.objs.size:=Nat.le_trans I.ok.above (Nat.le_of_lt I.lt)
theorem Inv.nofs (I:Inv X pins σ H s){a:Addr}(h:s.heap.objs.size<=a):a∉X.fs:=fun hb=>by
 obtain⟨_,o,ho,_⟩:=I.ok.funs.mem hb
 exact absurd (Nat.lt_of_lt_of_le (Heap.lt_size ho) (Nat.le_trans I.sz h)) (Nat.lt_irrefl _)
theorem Inv.cne (I:Inv X pins σ H s):∀ x c,X.env.cells.lookup x=some c->c≠X.env.locals:=fun x c e z=>by
 obtain⟨v,o,ho,hd⟩:=I.cell x c e
 obtain⟨m,⟨o',es,ep,ho',hd',_⟩,_⟩:=I.loc
 rw[z,ho'] at ho; cases ho; rw[hd'] at hd; cases hd
theorem Inv.funs (I:Inv X pins σ H s):s.heap.FunFrames X.base X.outer:=by
 have all:∀ (l:List Env),(∀ b∈frs l,b∈X.fs)->X.s₀.heap.FunFrames X.base l->s.heap.FunFrames X.base l:=by
  intro l
  induction l with
  | nil=>intro _ _; trivial
  | cons env r ih =>
   intro hs hl
   obtain⟨hk,⟨L,o,hf,hn,ho,hd⟩,hr⟩:=hl
   have hL:L∈X.fs:=hs L (by unfold frs; rw[List.filterMap_cons,hf]; exact List.mem_cons_self)
   obtain⟨sl,e⟩:=I.base.slot L o ho (I.ok.frf L hL) hL fun z=>I.ok.exfs L z hL
   exact⟨hk,⟨L,_,hf,hn,e,hd⟩,ih (fun b hb=>hs b (by unfold frs; rw[List.filterMap_cons,hf]; exact List.mem_cons_of_mem _ hb)) hr⟩
 exact all X.outer (fun _ hb=>hb) I.ok.funs
theorem Inv.stack (I:Inv X pins σ H s):s.heap.FunFrames X.base X.stack:=by
 rcases I.ok.stk with e|⟨e,hf⟩
 ·rw[e]; exact I.funs
 ·rw[e]
  obtain⟨m,hn,_⟩:=I.loc
  refine .cons (by rw[I.ok.kind]; decide) hf hn ?_ I.funs
  exact Heap.get?_none_of_le (Nat.le_trans I.ok.bsz I.ok.above)
theorem Inv.stkSub (I:Inv X pins σ H s):∀ b∈frs X.stack,b∈X.env.locals::X.fs:=fun b hb=>by
 rcases I.ok.stk with e|⟨e,hf⟩
 ·rw[e] at hb; exact List.mem_cons_of_mem _ hb
 ·rw[e] at hb
  unfold frs at hb
  rw[List.filterMap_cons,hf] at hb
  exact hb
theorem Inv.stkFree (I:Inv X pins σ H s):∀ b∈frs X.stack,H b=none:=fun b hb=>by
 rcases List.mem_cons.mp (I.stkSub b hb) with e|hb
 ·rw[e]; exact I.free
 ·obtain⟨_,o,ho,_⟩:=I.ok.funs.mem hb
  exact I.base.free b o ho (I.ok.frf b hb) fun z=>I.ok.exfs b z hb
theorem Inv.step {g':Array GenState}{t':Nat}{d':Drawn}{ch:List Addr}(I:Inv X pins σ H s)
  (hch:∀ b∈ch,(b∈X.ex\/X.s₀.heap.objs.size<=b)/\b≠X.env.locals/\(∀ x c,X.env.cells.lookup x=some c->c≠b)/\∀ p∈X.pn++pins,p.1≠b)
  (keep:∀ b o,b≠X.env.locals->b∉X.fs->b∉ch->s.heap.get? b=some o->H b=none->h'.get? b=some o)
  (slot:∀ b o,b≠X.env.locals->b∈X.fs->b∉ch->s.heap.get? b=some o->H b=none->∃ sl,h'.get? b=some { o with slots:=sl }) (free:∀ b o,b∉ch->s.heap.get? b=some o->H b=none->H' b=none)
  (there:∀ b o,b∉ch->s.heap.get? b=some o->∃ o',h'.get? b=some o')
  (tups:∀ b xs,H b=some (.tup xs)->H' b=some (.tup xs)) (frzs:∀ b o u,H b=some (.frz o u)->H' b=some (.frz o u)) (tbls:∀ b ps,H b=some (.tbl ps)->∃ more,H' b=some (.tbl (ps++more)))
  (ns:∀ m,s.heap.Ns X.env.locals m->h'.Ns X.env.locals m) (hok:HOk X.prog X.w H' h') (hg:AllBare g') :
  Inv X pins σ H' { s with heap:=h',gens:=g',drawn:=d',toks:=t' }:=by
 have neL:∀ b o,X.s₀.heap.get? b=some o->b≠X.env.locals:=fun b o e=>Nat.ne_of_lt (Nat.lt_of_lt_of_le (Heap.lt_size e) I.ok.above)
 have neC:∀ b o,X.s₀.heap.get? b=some o->b∉X.ex->b∉ch:=fun b o e hx hb=>by
  rcases (hch b hb).1 with z|z
  ·exact hx z
  ·exact absurd (Nat.lt_of_lt_of_le (Heap.lt_size e) z) (Nat.lt_irrefl _)
 have cellK:∀ x c,X.env.cells.lookup x=some c->∀ v,s.heap.IsCell c v->h'.IsCell c v:=fun x c e v ⟨o,ho,hd⟩=>by
  have nch:c∉ch:=fun z=>(hch c z).2.2.1 x c e rfl
  by_cases hc:c∈X.fs
  ·obtain⟨sl,q⟩:=slot c o (I.cne x c e) hc nch ho (I.freeC x c e)
   exact⟨_,q,hd⟩
  ·exact⟨o,keep c o (I.cne x c e) hc nch ho (I.freeC x c e),hd⟩
 refine⟨I.ok,I.os,hg,⟨fun b o e n hb hx=>?_,fun b o e n hb hx=>?_,fun b o e n hx=>?_,fun b o e hx=>?_,fun b xs e=>tups b xs (I.base.tups b xs e),fun b o xs e=>frzs b o xs (I.base.frzs b o xs e),fun b ps e=>?_⟩,?_,fun x c e=>?_,?_,fun x c e=>?_,fun p hp=>?_,hok,I.len⟩
 ·exact keep b o (neL b o e) hb (neC b o e hx) (I.base.keep b o e n hb hx) (I.base.free b o e n hx)
 ·obtain⟨sl,e1⟩:=I.base.slot b o e n hb hx
  obtain⟨sl',e2⟩:=slot b _ (neL b o e) hb (neC b o e hx) e1 (I.base.free b o e n hx)
  exact⟨sl',e2⟩
 ·obtain⟨o',e1⟩:=I.base.there b o e hx
  exact free b o' (neC b o e hx) e1 (I.base.free b o e n hx)
 ·obtain⟨o',e1⟩:=I.base.there b o e hx
  exact there b o' (neC b o e hx) e1
 ·obtain⟨m1,e1⟩:=I.base.tbls b ps e
  obtain⟨m2,e2⟩:=tbls b _ e1
  exact⟨m1++m2,by rw[e2,Array.append_assoc]⟩
 ·obtain⟨m,hn,hl⟩:=I.loc
  refine⟨m,ns m hn,fun i x v e1 e2 e3=>?_⟩
  obtain⟨u,r,l⟩:=hl i x v e1 e2 e3
  refine⟨u,r,?_⟩
  rcases l with l|⟨k,c,e,z⟩
  ·exact .inl l
  ·exact .inr ⟨k,c,e,cellK x c e _ z⟩
 ·obtain⟨v,z⟩:=I.cell x c e
  exact⟨v,cellK x c e v z⟩
 ·obtain⟨m,⟨o,_,_,ho,_⟩,_⟩:=I.loc
  exact free _ o (fun z=>(hch _ z).2.1 rfl) ho I.free
 ·obtain⟨v,o,ho,hd⟩:=I.cell x c e
  exact free c o (fun z=>(hch c z).2.2.1 x c e rfl) ho (I.freeC x c e)
 ·obtain⟨e,n,ne,nf,d⟩:=I.pin p hp
  have nch:p.1∉ch:=fun z=>(hch p.1 z).2.2.2 p hp rfl
  exact⟨keep p.1 p.2 ne nf nch e n,free p.1 p.2 nch e n,ne,nf,d⟩
theorem Inv.un {t':Nat}(I:Inv X pins σ H s)(u:Un X.fs [] H H' s.heap h')(hok:HOk X.prog X.w H' h'):Inv X pins σ H' { s with heap:=h',toks:=t' }:=by
 obtain⟨m,⟨o,es,ep,ho,r⟩,_⟩:=id I.loc
 obtain⟨sl,hL⟩:=u.any ho I.free (by simp)
 exact I.step (g':=s.gens) (d':=s.drawn) (ch:=[]) (fun _ z=>nomatch z) (fun b o _ hb _ e n=>u.keep b o e n hb (by simp)) (fun b o _ hb _ e n=>u.slot b o e n hb (by simp)) (fun b o _ e n=>u.free b o e n (by simp)) (fun b o _ e=>u.there b o e (by simp)) u.tups u.frzs u.tbls (fun m' hm=>by
  obtain⟨o',es',ep',ho',r'⟩:=hm
  rw[ho] at ho'; cases ho'
  exact⟨_,es',ep',hL,r'⟩) hok I.bare
theorem Inv.call {g':Array GenState}{t':Nat}{d':Drawn}{ch:List Addr}(I:Inv X pins σ H s)(u:Un (frs X.stack) ch H H' s.heap h')(hok:HOk X.prog X.w H' h')(hg:AllBare g')
  (hch:∀ b∈ch,(b∈X.ex\/X.s₀.heap.objs.size<=b)/\b≠X.env.locals/\(∀ x c,X.env.cells.lookup x=some c->c≠b)/\∀ p∈X.pn++pins,p.1≠b) :
  Inv X pins σ H' { s with heap:=h',gens:=g',drawn:=d',toks:=t' }:=by
 obtain⟨m,⟨o,es,ep,ho,r⟩,_⟩:=id I.loc
 obtain⟨sl,hL⟩:=u.any ho I.free fun z=>(hch _ z).2.1 rfl
 exact I.step (ch:=ch) hch (fun b o hL hb hc e n=>u.keep b o e n (fun z=>(List.mem_cons.mp (I.stkSub b z)).elim hL hb) hc) (fun b o _ _ hc e n=>u.any e n hc) (fun b o hc e n=>u.free b o e n hc) (fun b o hc e=>u.there b o e hc) u.tups u.frzs u.tbls (fun m' hm=>by
  obtain⟨o',es',ep',ho',r'⟩:=hm
  rw[ho] at ho'; cases ho'
  exact⟨_,es',ep',hL,r'⟩) hok hg
theorem Inv.turned {t':Nat}{it:Addr}(I:Inv X pins σ H s)(k:∀ b o,b≠it->s.heap.get? b=some o->h'.get? b=some o)(hn:H it=none)(hL:it≠X.env.locals)
  (h1:it∈X.ex\/X.s₀.heap.objs.size<=it) (h2:∀ x c,X.env.cells.lookup x=some c->c≠it) (h3:∀ p∈X.pn++pins,p.1≠it):Inv X pins σ H { s with heap:=h',toks:=t' }:=by
 have nit:∀ b u,H b=some u->b≠it:=fun b u e z=>by rw[z,hn] at e; cases e
 refine I.step (g':=s.gens) (d':=s.drawn) (ch:=[it]) (fun b hb=>?_) (fun b o _ _ hc e _=>k b o (fun z=>hc (by simp[z])) e) (fun b o _ _ hc e _=>⟨o.slots,k b o (fun z=>hc (by simp[z])) e⟩) (fun _ _ _ _ n=>n)
  (fun b o hc e=>⟨o,k b o (fun z=>hc (by simp[z])) e⟩) (fun _ _ e=>e) (fun _ _ _ e=>e) (fun b ps e=>⟨#[],by rw[e]; simp⟩) (fun m hm=>?_) (fun b u e=>?_) I.bare
 ·have e:b=it:=by simpa using hb
  subst e
  exact⟨h1,hL,h2,h3⟩
 ·obtain⟨o,es,ep,ho,r⟩:=hm
  exact⟨o,es,ep,k _ o (Ne.symm hL) ho,r⟩
 ·refine(I.hok b u e).stay (fun c v hc q=>k c v ?_ q) (fun _ q=>q) fun _ _ q=>q
  rcases hc with z|z
  ·rw[z]; exact nit b u e
  ·exact nit c _ z
theorem Inv.tok (I:Inv X pins σ H s)(t:Nat):Inv X pins σ H { s with toks:=t }:=I.un (h':=s.heap) (t':=t) Un.refl I.hok
theorem Inv.kept {t':Nat}(I:Inv X pins σ H s)(k:∀ b u,s.heap.get? b=some u->h'.get? b=some u):Inv X pins σ H { s with heap:=h',toks:=t' }:=I.un (Un.kept k) (I.hok.kept k)
theorem Inv.laid {a:Addr}{o:HO}{t':Nat}(I:Inv X pins σ H s)(k:∀ b u,s.heap.get? b=some u->h'.get? b=some u)(hp:s.heap.objs.size<=a)(new:ObjOk X.prog X.w (upd H a o) h' a o) :
  Inv X pins σ (upd H a o) { s with heap:=h',toks:=t' }:=I.un (Un.laid k hp (I.hok.fresh hp)) (I.hok.laid k hp new)
theorem Inv.write {x e:Addr}{o:HO}{t':Nat}(I:Inv X pins σ H s)(mu:Mut (H x))(he:e=x\/H e=some (.own x))(k:∀ b u,b≠e->s.heap.get? b=some u->h'.get? b=some u)(heo:∃ u,h'.get? e=some u)
  (new:ObjOk X.prog X.w (upd H x o) h' x o):Inv X pins σ (upd H x o) { s with heap:=h',toks:=t' }:=I.un (Un.write mu he k heo) (I.hok.write mu he k heo new)
theorem Inv.pins_of {pins':List (Addr × Obj)}(I:Inv X pins σ H s)(h:∀ p∈pins',s.heap.get? p.1=some p.2/\H p.1=none/\p.1≠X.env.locals/\p.1∉X.fs/\∀ v,p.2.data≠.cell v):Inv X pins' σ H s :=
 ⟨I.ok,I.os,I.bare,I.base,I.loc,I.cell,I.free,I.freeC,fun p hp=>(List.mem_append.mp hp).elim (fun z=>I.pin p (List.mem_append_left _ z)) (h p),I.hok,I.len⟩
theorem nodup_ix {N:List Str}(hN:N.Nodup){i j:Nat}{x:Str}(a:N[i]?=some x)(b:N[j]?=some x):i=j:=by
 obtain⟨h1,e1⟩:=List.getElem?_eq_some_iff.mp a
 obtain⟨h2,e2⟩:=List.getElem?_eq_some_iff.mp b
 exact(List.getElem_inj hN).mp (e1.trans e2.symm)
theorem store_ok2 {M:Model}{A:Around}{E:Value->Shared->Prop}{i:Nat}{x:Str}{v:V}{u:Value}{Q:Unit->Shared->Prop}(I:Inv X pins σ H s)(hN:X.N.Nodup)(hi:X.N[i]?=some x)(hx:Loc X.env.scope x)(r:RelV v u)
  (h:∀ s',Inv X pins (σ.set i (some v)) H s'->(∃ a,Heap.SameBut a s.heap s'.heap/\(a=X.env.locals\/X.env.cells.lookup x=some a))->Q () s') (hf:autoParam (X.fn x=true\/X.env.scope.names.lookup x=some .local) Au.h1._auto_1):wpAny M A (storeName X.env x u) Q E s:=by
 obtain⟨m,hn,hl⟩:=id I.loc
 have hcls:(X.env.scope.kind == .class || (X.env.scope.kind == .module&&X.env.locals != X.env.globals))=false:=by rw[I.ok.kind]; rfl
 have hiσ:i<σ.length:=by rw[I.len]; exact(List.getElem?_eq_some_iff.mp hi).1
 have cne:=I.cne
 have tracked:∀ {a:Addr} {h':Heap},(∃ o,s.heap.get? a=some o/\H a=none)->Heap.SameBut a s.heap h'->HOk X.prog X.w H h':=fun {a h'} ha hs b ob e=>by
  obtain⟨_,_,hfree⟩:=ha
  refine(I.hok b ob e).stay (fun c w' hc q=>(hs.2 c ?_).trans q) (fun _ q=>q) fun _ _ q=>q
  rintro rfl
  rcases hc with rfl|hc
  ·rw[hfree] at e; cases e
  ·rw[hfree] at hc; cases hc
 rcases hx with hk|hk
 ·refine wpAny_storeName_local hk hn (fun h' hn' hs=>?_) hcls
  obtain⟨oL,_,_,hoL,_⟩:=id hn
  refine h _ ⟨I.ok,I.os,I.bare,⟨fun b o e n hb hx=>?_,fun b o e n hb hx=>?_,I.base.free,fun b o e hx=>?_,I.base.tups,I.base.frzs,I.base.tbls⟩,⟨_,hn',fun j y v' e1 e2 e3=>?_⟩,fun y c e=>?_,I.free,I.freeC,fun p hp=>?_,tracked ⟨oL,hoL,I.free⟩ hs,by simpa using I.len⟩ ⟨_,hs,.inl rfl⟩
  ·exact(hs.2 b (Nat.ne_of_lt (Nat.lt_of_lt_of_le (Heap.lt_size e) I.ok.above))).trans (I.base.keep b o e n hb hx)
  ·obtain⟨sl,e1⟩:=I.base.slot b o e n hb hx
   exact⟨sl,(hs.2 b (Nat.ne_of_lt (Nat.lt_of_lt_of_le (Heap.lt_size e) I.ok.above))).trans e1⟩
  ·obtain⟨o',e1⟩:=I.base.there b o e hx
   exact⟨o',(hs.2 b (Nat.ne_of_lt (Nat.lt_of_lt_of_le (Heap.lt_size e) I.ok.above))).trans e1⟩
  ·by_cases hj:j=i
   ·subst hj
    rw[hi] at e1; cases e1
    rw[List.getElem?_set_self hiσ] at e2
    cases e2
    exact⟨u,r,.inl ⟨hk,by simp⟩⟩
   ·rw[List.getElem?_set_ne (Ne.symm hj)] at e2
    obtain⟨u',r',q⟩:=hl j y v' e1 e2 e3
    refine⟨u',r',?_⟩
    rcases q with ⟨k,e⟩|⟨k,c,e,z⟩
    ·refine .inl ⟨k,?_⟩
     have:y≠x:=fun e=>hj (nodup_ix hN e1 (e▸hi))
     simp[this,e]
    ·exact .inr ⟨k,c,e,z.sameBut hs (cne y c e)⟩
  ·obtain⟨w',z⟩:=I.cell y c e
   exact⟨w',z.sameBut hs (cne y c e)⟩
  ·obtain⟨e,n,ne,nf,d⟩:=I.pin p hp
   exact⟨(hs.2 p.1 ne).trans e,n,ne,nf,d⟩
 ·have hfn:X.fn x=true:=by
   rcases hf with z|z
   ·exact z
   ·rw[z] at hk; cases hk
  obtain⟨c,hc⟩:=I.ok.has x (.inl hk)
  obtain⟨w',z⟩:=I.cell x c hc
  refine wpAny_storeName_cell I.ok.kind hk hc z (fun h' hc' hs=>?_)
  obtain⟨oc,hoc,hocd⟩:=id z
  refine h { s with heap:=h' } ⟨I.ok,I.os,I.bare,⟨fun b o e n hb hx=>?_,fun b o e n hb hx=>?_,I.base.free,fun b o e hx=>?_,I.base.tups,I.base.frzs,I.base.tbls⟩,⟨m,hn.sameBut hs (Ne.symm (cne x c hc)),fun j y v' e1 e2 e3=>?_⟩,fun y c' e=>?_,I.free,I.freeC,fun p hp=>?_,tracked ⟨oc,hoc,I.freeC x c hc⟩ hs,by simpa using I.len⟩ ⟨c,hs,.inr hc⟩
  ·exact(hs.2 b (Nat.ne_of_lt (Nat.lt_of_lt_of_le (Heap.lt_size e) (I.ok.cab x c hfn hc)))).trans (I.base.keep b o e n hb hx)
  ·obtain⟨sl,e1⟩:=I.base.slot b o e n hb hx
   exact⟨sl,(hs.2 b (Nat.ne_of_lt (Nat.lt_of_lt_of_le (Heap.lt_size e) (I.ok.cab x c hfn hc)))).trans e1⟩
  ·obtain⟨o',e1⟩:=I.base.there b o e hx
   exact⟨o',(hs.2 b (Nat.ne_of_lt (Nat.lt_of_lt_of_le (Heap.lt_size e) (I.ok.cab x c hfn hc)))).trans e1⟩
  ·by_cases hj:j=i
   ·subst hj
    rw[hi] at e1; cases e1
    rw[List.getElem?_set_self hiσ] at e2
    cases e2
    exact⟨u,r,.inr ⟨.inl hk,c,hc,hc'⟩⟩
   ·rw[List.getElem?_set_ne (Ne.symm hj)] at e2
    obtain⟨u',r',q⟩:=hl j y v' e1 e2 e3
    refine⟨u',r',?_⟩
    rcases q with q|⟨k,c',e,z'⟩
    ·exact .inl q
    ·refine .inr ⟨k,c',e,z'.sameBut hs ?_⟩
     rintro rfl
     exact hj (nodup_ix hN e1 (I.ok.inj _ _ _ e hc▸hi))
  ·by_cases hcc:c'=c
   ·subst hcc; exact⟨_,hc'⟩
   ·obtain⟨w2,z2⟩:=I.cell y c' e
    exact⟨w2,z2.sameBut hs hcc⟩
  ·obtain⟨e,n,ne,nf,d⟩:=I.pin p hp
   refine⟨(hs.2 p.1 ?_).trans e,n,ne,nf,d⟩
   intro q
   rw[q,hoc] at e
   have q':oc=p.2:=Option.some.inj e
   exact d w' (by rw[<- q']; exact hocd)
theorem store_ok {M:Model}{A:Around}{E:Value->Shared->Prop}{i:Nat}{x:Str}{v:V}{u:Value}{Q:Unit->Shared->Prop}(I:Inv X pins σ H s)(hN:X.N.Nodup)(hi:X.N[i]?=some x)(hx:Loc X.env.scope x)(r:RelV v u)
  (h:∀ s',Inv X pins (σ.set i (some v)) H s'->Q () s') (hf:autoParam (X.fn x=true\/X.env.scope.names.lookup x=some .local) Au.h1._auto_1):wpAny M A (storeName X.env x u) Q E s :=
 store_ok2 I hN hi hx r (fun s' I' _=>h s' I') hf
theorem Inv.call' {s':Shared}{ch:List Addr}(I:Inv X pins σ H s)(ho:s'.os=s.os)(u:Un (frs X.stack) ch H H' s.heap s'.heap)(hok:HOk X.prog X.w H' s'.heap)(hg:AllBare s'.gens)
  (hch:∀ b∈ch,(b∈X.ex\/X.s₀.heap.objs.size<=b)/\b≠X.env.locals/\(∀ x c,X.env.cells.lookup x=some c->c≠b)/\∀ p∈X.pn++pins,p.1≠b):Inv X pins σ H' s':=by
 obtain⟨h',g',d',t',o'⟩:=s'
 have e:o'=s.os:=ho
 subst e
 exact I.call (g':=g') (t':=t') (d':=d') u hok hg hch
end
noncomputable abbrev XK:=Value->Option Addr->Hp->Prop
noncomputable abbrev St:=List (Option V)
noncomputable abbrev VK:=V->Hp->Prop
noncomputable abbrev TE:=St->Hp->VK->Prop
noncomputable abbrev TT:=St->Hp->(Bool->Hp->Prop)->Prop
noncomputable abbrev TA:=St->Hp->(List V->Hp->Prop)->Prop
structure Ends where
 nx:St->Hp->Prop
 rt:VK
 bk:St->Hp->Prop:=fun _ _=>False
 ct:St->Hp->Prop:=fun _ _=>False
noncomputable abbrev TS:=Ends->St->Hp->Prop
noncomputable def EP (X:Cx)(pins:List (Addr × Obj))(σ:St)(Q:VK)(u:Value)(s':Shared):Prop:=∃ v H',Inv X pins σ H' s'/\RelV v u/\Q v H'
noncomputable def TP (X:Cx)(pins:List (Addr × Obj))(σ:St)(Q:Bool->Hp->Prop)(b:Bool)(s':Shared):Prop:=∃ H',Inv X pins σ H' s'/\Q b H'
noncomputable def AP (X:Cx)(pins:List (Addr × Obj))(σ:St)(Q:List V->Hp->Prop)(us:List Value)(s':Shared):Prop:=∃ vs H',Inv X pins σ H' s'/\Vals vs us/\Q vs H'
noncomputable def SP (X:Cx)(pins:List (Addr × Obj))(D:Ends)(f:Flow)(s':Shared):Prop :=
 match f with
 | .next=>∃ σ' H',Inv X pins σ' H' s'/\D.nx σ' H'
 | .brk=>∃ σ' H',Inv X pins σ' H' s'/\D.bk σ' H'
 | .cont=>∃ σ' H',Inv X pins σ' H' s'/\D.ct σ' H'
 | .ret u=>∃ v σ' H',Inv X pins σ' H' s'/\RelV v u/\D.rt v H'
noncomputable def PE (X:Cx)(e:Expr)(t:TE):Prop :=
 ∀ (pins:List (Addr × Obj)) (s:Shared) (σ:St) (H:Hp) (Q:VK),Inv X pins σ H s->t σ H Q->wpAny (model X.prog X.w) X.A (eval e X.env) (EP X pins σ Q) X.xe s
noncomputable def PT (X:Cx)(e:Expr)(t:TT):Prop :=
 ∀ (pins:List (Addr × Obj)) (s:Shared) (σ:St) (H:Hp) (Q:Bool->Hp->Prop),Inv X pins σ H s->t σ H Q->wpAny (model X.prog X.w) X.A (isTrue e X.env (eval e X.env)) (TP X pins σ Q) X.xe s
noncomputable def PW (X:Cx)(e:Expr)(t:TT):Prop :=
 ∀ (whole:Sem Value) (pins:List (Addr × Obj)) (s:Shared) (σ:St) (H:Hp) (Q:Bool->Hp->Prop),Inv X pins σ H s->t σ H Q->wpAny (model X.prog X.w) X.A (isTrue e X.env whole) (TP X pins σ Q) X.xe s
theorem PW.pt {X:Cx}{e:Expr}{t:TT}(h:PW X e t):PT X e t:=h _
noncomputable def PA (X:Cx)(es:List Expr)(t:TA):Prop :=
 ∀ (pos:Pos) (pins:List (Addr × Obj)) (s:Shared) (σ:St) (H:Hp) (Q:List V->Hp->Prop),Inv X pins σ H s->t σ H Q->wpAny (model X.prog X.w) X.A (spliced (backTo pos (starEach es X.env))) (AP X pins σ Q) X.xe s
noncomputable def PS (X:Cx)(st:Stmt)(t:TS):Prop :=
 ∀ (pins:List (Addr × Obj)) (s:Shared) (σ:St) (H:Hp) (D:Ends),Inv X pins σ H s->t D σ H->wpAny (model X.prog X.w) X.A (exec st X.env) (SP X pins D) X.xe s
noncomputable def PSs (X:Cx)(st:List Stmt)(t:TS):Prop :=
 ∀ (pins:List (Addr × Obj)) (s:Shared) (σ:St) (H:Hp) (D:Ends),Inv X pins σ H s->t D σ H->wpAny (model X.prog X.w) X.A (execs st X.env) (SP X pins D) X.xe s
theorem thn {α:Type}{t:Sem α}{Q Q':α->Shared->Prop}{M:Model}{A:Around}{E:Value->Shared->Prop}{s:Shared}(h:wpAny M A t Q E s)(hQ:∀ a s,Q a s->Q' a s):wpAny M A t Q' E s:=wpAny_mono h hQ fun _ _ x=>x
section
variable {X:Cx}
noncomputable def tVar (i:Nat):TE:=fun σ H Q=>∃ v,σ[i]?=some (some v)/\Q v H
noncomputable def tC (v:V):TE:=fun _ H Q=>Q v H
theorem pe_var {i:Nat}{x:Str}{pos:Pos}(hN:X.N[i]?=some x)(hv:Vis X.env.scope x)(hd:autoParam ((x == ("__debug__":Str))=false) Au.h2._auto_1)(hcd:autoParam ((x == ("__classdict__":Str))=false) Au.h2._auto_1):PE X (.Name x pos) (tVar i):=by
 intro pins s σ H Q I h
 obtain⟨v,e,h⟩:=h
 obtain⟨m,hn,hl⟩:=I.loc
 obtain⟨u,r,l⟩:=hl i x v hN e hv
 have fin:EP X pins σ Q u s:=⟨v,H,I,r,h⟩
 rcases l with ⟨hk,hm⟩|⟨hk,c,hc,hcell⟩
 ·exact wpAny_Name (wpAny_loadName_local I.ok.kind hk hn hm fin) hd
 ·rcases hk with hk|hk
  ·exact wpAny_Name (wpAny_loadName_cell I.ok.kind hk hc hcell fin) hd
  ·exact wpAny_Name (wpAny_loadName_free I.ok.kind hk hc hcell fin hcd) hd
theorem pe_int {i j pos}:PE X (.Constant (.int i) j pos) (tC (.int i)):=fun _ _ _ H _ I h=>wpAny_Constant_int ⟨.int i,H,I.tok _,⟨_,rfl⟩,h⟩
theorem pe_bl {b j pos}:PE X (.Constant (.bool b) j pos) (tC (.bl b)):=fun _ _ _ H _ I h=>Constant_bool ⟨.bl b,H,I,rfl,h⟩
theorem pe_str {x j pos}:PE X (.Constant (.str x) j pos) (tC (.str x)):=fun _ _ _ H _ I h=>Calls.Constant_str ⟨.str x,H,I.tok _,⟨_,rfl⟩,h⟩
noncomputable def Gl (X:Cx)(x:Str):Prop:=X.env.kindOf x=some .globalImplicit
theorem ld_glob {E:Value->Shared->Prop}{pins:List (Addr × Obj)}{s:Shared}{σ:St}{H:Hp}{x:Str}{u:Value}{pos:Pos}{Q:Value->Shared->Prop}(I:Inv X pins σ H s)(hg:Gl X x)(hm:X.mg x=some u)(h:Q u s)
  (hd:autoParam ((x == ("__debug__":Str))=false) Au.h2._auto_1):wpAny (model X.prog X.w) X.A (eval (.Name x pos) X.env) Q E s :=
 Calls.Name_function_global I.ok.kind hg (Calls.loadGlobal_global (by rw[I.ok.glob]; exact I.mod.glob.keeps I.bk) hm h) hd
theorem ld_blt {E:Value->Shared->Prop}{pins:List (Addr × Obj)}{s:Shared}{σ:St}{H:Hp}{x:Str}{u:Value}{pos:Pos}{Q:Value->Shared->Prop}(I:Inv X pins σ H s)(hg:Gl X x)(hm:X.mg x=none)(hv:bootBuiltins x=some u)(h:Q u s)
  (hn:autoParam (x≠"__name__") Au.h2._auto_1) (hd:autoParam ((x == ("__debug__":Str))=false) Au.h2._auto_1):wpAny (model X.prog X.w) X.A (eval (.Name x pos) X.env) Q E s:=by
 obtain⟨mb,h1,h2⟩:=I.mod.blt
 exact Calls.Name_function_global I.ok.kind hg (Calls.loadGlobal_builtin (by rw[I.ok.glob]; exact I.mod.glob.keeps I.bk) hm (by rw[I.ok.blt]; exact h1.keeps I.bk) ((h2 x hn).trans hv) h) hd
theorem pe_glob {x:Str}{v:V}{u:Value}{pos:Pos}(hg:Gl X x)(hm:X.mg x=some u)(r:RelV v u)(hd:autoParam ((x == ("__debug__":Str))=false) Au.h2._auto_1):PE X (.Name x pos) (tC v) :=
 fun _ _ _ H _ I h=>ld_glob I hg hm ⟨v,H,I,r,h⟩ hd
theorem pe_bltn {x:Str}{v:V}{u:Value}{pos:Pos}(hg:Gl X x)(hm:X.mg x=none)(hv:bootBuiltins x=some u)(r:RelV v u)(hn:autoParam (x≠"__name__") Au.h2._auto_1)(hd:autoParam ((x == ("__debug__":Str))=false) Au.h2._auto_1):PE X (.Name x pos) (tC v) :=
 fun _ _ _ H _ I h=>ld_blt I hg hm hv ⟨v,H,I,r,h⟩ hn hd
variable {a b:Expr}{ta tb:TE}{pos:Pos}
noncomputable def tB (t:TE):TT:=fun σ H Q=>t σ H fun x H1=>∃ c,x=.bl c/\Q c H1
theorem pt_val {e:Expr}{t:TE}(h:PE X e t)(he:autoParam (∀ whole,isTrue e X.env whole=(do let v <- whole; standAt e.pos; holding [v] (truthy v))) Au.h3._auto_1):PT X e (tB t):=by
 intro pins s σ H Q I hw
 refine isTrue_plain (thn (h pins s σ H _ I hw) fun v s1 ⟨x,H1,I1,r1,q1⟩=>?_) (he _)
 obtain⟨d,rfl,q⟩:=q1
 cases r1
 exact wpAny_truthy_bool ⟨H1,I1,q⟩
variable {tA tB':TT}{rest:List Expr}
noncomputable def tAnd (t u:TT):TT:=fun σ H Q=>t σ H fun c H1=>if c=true then u σ H1 Q else Q false H1
noncomputable def tOr (t u:TT):TT:=fun σ H Q=>t σ H fun c H1=>if c=true then Q true H1 else u σ H1 Q
noncomputable def tNot (t:TT):TT:=fun σ H Q=>t σ H fun c H1=>Q (!c) H1
theorem pw_and1 (ha:PT X a tA):PW X (.BoolOp .And [a] pos) tA:=by
 intro wh pins s σ H Q I h
 refine isTrue_and (thn (ha pins s σ H Q I h) fun c s1 e=>?_)
 cases c with
 | true=>exact isTrue_and_nil e
 | false=>exact e
theorem pw_or1 (ha:PT X a tA):PW X (.BoolOp .Or [a] pos) tA:=by
 intro wh pins s σ H Q I h
 refine isTrue_or (thn (ha pins s σ H Q I h) fun c s1 e=>?_)
 cases c with
 | false=>exact isTrue_or_nil e
 | true=>exact e
theorem pw_and (ha:PT X a tA)(hb:PW X (.BoolOp .And (b::rest) pos) tB'):PW X (.BoolOp .And (a::b::rest) pos) (tAnd tA tB'):=by
 intro wh pins s σ H Q I h
 refine isTrue_and (thn (ha pins s σ H _ I h) fun c s1 ⟨H1,I1,q1⟩=>?_)
 cases c with
 | true=>exact hb wh pins s1 σ H1 Q I1 q1
 | false=>exact⟨H1,I1,q1⟩
theorem pw_or (ha:PT X a tA)(hb:PW X (.BoolOp .Or (b::rest) pos) tB'):PW X (.BoolOp .Or (a::b::rest) pos) (tOr tA tB'):=by
 intro wh pins s σ H Q I h
 refine isTrue_or (thn (ha pins s σ H _ I h) fun c s1 ⟨H1,I1,q1⟩=>?_)
 cases c with
 | true=>exact⟨H1,I1,q1⟩
 | false=>exact hb wh pins s1 σ H1 Q I1 q1
theorem pt_not (ha:PT X a tA):PT X (.UnaryOp .Not a pos) (tNot tA):=by
 intro pins s σ H Q I h
 exact isTrue_not (ha pins s σ H (fun c H1=>Q (!c) H1) I h)
noncomputable def tAndV (ta tb:TE):TE:=fun σ H Q=>ta σ H fun x H1=>∃ c,x=.bl c/\if c=true then tb σ H1 Q else Q (.bl false) H1
noncomputable def tNotV (ta:TE):TE:=fun σ H Q=>ta σ H fun x H1=>∃ c,x=.bl c/\Q (.bl (!c)) H1
theorem pe_one {op}{t:TE}(h:PE X a t):PE X (.BoolOp op [a] pos) t:=fun pins s σ H Q I hw=>BoolOp_one (h pins s σ H Q I hw)
theorem pe_and (ha:PE X a ta)(hb:PE X (.BoolOp .And (b::rest) pos) tb):PE X (.BoolOp .And (a::b::rest) pos) (tAndV ta tb):=by
 intro pins s σ H Q I h
 refine BoolOp_and (thn (ha pins s σ H _ I h) fun v s1 ⟨x,H1,I1,r1,q1⟩=>?_)
 obtain⟨c,rfl,q1⟩:=q1
 cases r1
 refine wpAny_truthy_bool ?_
 cases c with
 | true=>exact hb pins s1 σ H1 Q I1 q1
 | false=>exact⟨.bl false,H1,I1,rfl,q1⟩
theorem pe_not (ha:PE X a ta):PE X (.UnaryOp .Not a pos) (tNotV ta):=by
 intro pins s σ H Q I h
 refine UnaryOp_ (thn (ha pins s σ H _ I h) fun v s1 ⟨x,H1,I1,r1,q1⟩=>?_)
 obtain⟨c,rfl,q1⟩:=q1
 cases r1
 exact not_of (wpAny_truthy_bool ⟨.bl (!c),H1,I1,rfl,q1⟩)
end
noncomputable def SqL (K:PySem.W.Frag)(H:Hp)(a:Addr)(xs:List V):Prop :=
 Rd H a (.lst xs) \/
  ∃ (o:Obj) (its:Array Value) (n:Nat),K.lookup a=some o/\o.cls=.type "list"/\o.dict=none/\o.data=.seq its n/\its.size<=sizeLine/\Vals xs its.toList
noncomputable def SqT (K:PySem.W.Frag)(H:Hp)(a:Addr)(xs:List V):Prop :=
 Rd H a (.tup xs) \/
  ∃ (o:Obj) (its:Array Value) (n:Nat),K.lookup a=some o/\o.cls=.type "tuple"/\o.data=.seq its n/\its.size<=sizeLine/\Vals xs its.toList
noncomputable def absV:Value->Option V
 | .none=>some .non
 | .bool b=>some (.bl b)
 | .int i _=>some (.int i)
 | .str x _=>some (.str x)
 | .bytes b _=>some (.byt b)
 | .float b _=>some (.flt b)
 | .ref a=>some (.ref a)
 | .type n=>some (.ty n)
 | _=>none
theorem RelV.abs {x:V}{u:Value}(r:RelV x u):absV u=some x:=by
 cases x with
 | non=>cases r; rfl
 | bl _=>cases r; rfl
 | int _=>obtain⟨t,rfl⟩:=r; rfl
 | str _=>obtain⟨t,rfl⟩:=r; rfl
 | byt _=>obtain⟨t,rfl⟩:=r; rfl
 | flt _=>obtain⟨t,rfl⟩:=r; rfl
 | ref _=>cases r; rfl
 | ty _=>cases r; rfl
theorem RelV.inj {x y:V}{u:Value}(r:RelV x u)(q:RelV y u):x=y:=Option.some.inj (r.abs.symm.trans q.abs)
theorem Vals.inj {xs ys:List V}{us:List Value}(q:Vals xs us)(p:Vals ys us):xs=ys:=by
 induction q generalizing ys with
 | nil=>cases p; rfl
 | cons r t ih =>
  cases p with
  | cons r' t'=>rw[r.inj r',ih t']
section
variable {X:Cx}{pins:List (Addr × Obj)}{σ:St}{H:Hp}{s:Shared}{a:Addr}{xs ys:List V}
theorem SqL.of {K:PySem.W.Frag}(h:H a=some (.lst xs)):SqL K H a xs:=.inl (.inl h)
theorem Inv.list (I:Inv X pins σ H s)(h:SqL X.K H a xs):∃ its:List Value,Vals xs its/\PlainL s.heap a its.toArray/\xs.length<=sizeLine:=by
 rcases h with h|⟨o,its,n,hk,hc,hd,hs,hz,r⟩
 ·obtain⟨z,its,n,r,e⟩:=h.ok I.hok
  exact⟨its,r,⟨_,n,e,rfl,rfl,rfl⟩,z⟩
 ·refine⟨its.toList,r,⟨o,n,I.kIn a o hk,hc,hd,by simpa using hs⟩,?_⟩
  have e:=r.length
  simp only[Array.length_toList] at e
  omega
theorem Inv.tuple (I:Inv X pins σ H s)(h:SqT X.K H a xs):∃ its:List Value,Vals xs its/\IsTup s.heap a its.toArray/\xs.length<=sizeLine:=by
 rcases h with h|⟨o,its,n,hk,hc,hs,hz,r⟩
 ·obtain⟨z,its,r,p⟩:=h.ok I.hok
  exact⟨its,r,p,z⟩
 ·refine⟨its.toList,r,⟨o,I.kIn a o hk,hc,n,by simpa using hs⟩,?_⟩
  have e:=r.length
  simp only[Array.length_toList] at e
  omega
theorem Inv.list_inj (I:Inv X pins σ H s)(h:SqL X.K H a xs)(h':SqL X.K H a ys):xs=ys:=by
 obtain⟨its,r,⟨o,n,e,_,_,d⟩,_⟩:=I.list h
 obtain⟨its',r',⟨o',n',e',_,_,d'⟩,_⟩:=I.list h'
 rw[e] at e'; cases e'
 rw[d] at d'
 injection d' with d1 _
 have:its=its':=by simpa using congrArg Array.toList d1
 subst this
 exact r.inj r'
end
noncomputable abbrev Cx.wish (X:Cx)(E:Value->Shared->Prop):Cx:={ X with xe:=E }
noncomputable abbrev Cx.nox (X:Cx):Cx:=X.wish fun _ _=>False
theorem Cx.Ok.wish {X:Cx}(ok:X.Ok)(E:Value->Shared->Prop):(X.wish E).Ok :=
 ⟨ok.mod,ok.kind,ok.glob,ok.blt,ok.above,ok.inj,ok.has,ok.cab,ok.hd,ok.frames,ok.stk,ok.exf,ok.bs,ok.bsz,ok.noex,ok.exfs,ok.funs,ok.frf⟩
theorem Cx.Ok.unwish {X:Cx}{E:Value->Shared->Prop}(ok:(X.wish E).Ok):X.Ok :=
 ⟨ok.mod,ok.kind,ok.glob,ok.blt,ok.above,ok.inj,ok.has,ok.cab,ok.hd,ok.frames,ok.stk,ok.exf,ok.bs,ok.bsz,ok.noex,ok.exfs,ok.funs,ok.frf⟩
section
variable {X:Cx}{pins:List (Addr × Obj)}{σ:St}{H:Hp}{s:Shared}{E:Value->Shared->Prop}
theorem Inv.wish (I:Inv X pins σ H s)(E:Value->Shared->Prop):Inv (X.wish E) pins σ H s:=⟨I.ok.wish E,I.os,I.bare,I.base,I.loc,I.cell,I.free,I.freeC,I.pin,I.hok,I.len⟩
theorem Inv.unwish (I:Inv (X.wish E) pins σ H s):Inv X pins σ H s:=⟨I.ok.unwish,I.os,I.bare,I.base,I.loc,I.cell,I.free,I.freeC,I.pin,I.hok,I.len⟩
theorem SP.unwish {D:Ends}{f:Flow}{s':Shared}(h:SP (X.wish E) pins D f s'):SP X pins D f s':=by
 cases f with
 | next=>obtain⟨σ',H',I,q⟩:=h; exact⟨σ',H',I.unwish,q⟩
 | brk=>obtain⟨σ',H',I,q⟩:=h; exact⟨σ',H',I.unwish,q⟩
 | cont=>obtain⟨σ',H',I,q⟩:=h; exact⟨σ',H',I.unwish,q⟩
 | ret u=>obtain⟨v,σ',H',I,r,q⟩:=h; exact⟨v,σ',H',I.unwish,r,q⟩
theorem PE.nox {e:Expr}{t:TE}(h:PE X.nox e t):PE X e t:=fun pins s σ H Q I hw =>
 wpAny_mono (h pins s σ H Q (I.wish _) hw) (fun _ _ ⟨v,H',I',r,q⟩=>⟨v,H',I'.unwish,r,q⟩) fun _ _ z=>False.elim z
theorem PT.nox {e:Expr}{t:TT}(h:PT X.nox e t):PT X e t:=fun pins s σ H Q I hw =>
 wpAny_mono (h pins s σ H Q (I.wish _) hw) (fun _ _ ⟨H',I',q⟩=>⟨H',I'.unwish,q⟩) fun _ _ z=>False.elim z
theorem PSs.nox {st:List Stmt}{t:TS}(h:PSs X.nox st t):PSs X st t:=fun pins s σ H D I hw =>
 wpAny_mono (h pins s σ H D (I.wish _) hw) (fun _ _ q=>q.unwish) fun _ _ z=>False.elim z
end
section
variable {X:Cx}{st:Stmt}{rest:List Stmt}{t u:TS}{e:Expr}{te:TE}{pos:Pos}
noncomputable def tNext:TS:=fun D σ H=>D.nx σ H
noncomputable def tSeq (t u:TS):TS:=fun D σ H=>t { D with nx:=u D } σ H
theorem pss_nil:PSs X [] tNext:=fun _ _ σ H _ I h=>wpAny_execs_nil ⟨σ,H,I,h⟩
theorem pss_cons (h1:PS X st t)(h2:PSs X rest u):PSs X (st::rest) (tSeq t u):=by
 intro pins s σ H D I h
 refine wpAny_execs_cons (thn (h1 pins s σ H { D with nx:=u D } I h) fun f s1 q=>?_)
 cases f with
 | next =>
  obtain⟨σ',H',I',q⟩:=q
  exact h2 pins s1 σ' H' D I' q
 | ret v=>exact q
 | brk=>exact q
 | cont=>exact q
theorem pss_one (h1:PS X st t):PSs X [st] t:=by
 intro pins s σ H D I h
 refine wpAny_execs_cons (thn (h1 pins s σ H D I h) fun f s1 q=>?_)
 cases f with
 | next=>exact wpAny_execs_nil q
 | ret v=>exact q
 | brk=>exact q
 | cont=>exact q
theorem Inv.quiet {pins:List (Addr × Obj)}{σ:St}{H:Hp}{s:Shared}(I:Inv X pins σ H s):interactive X.env=false:=by simp[interactive,I.ok.kind]
noncomputable def tDrop (te:TE):TS:=fun D σ H=>te σ H fun _ H1=>D.nx σ H1
theorem ps_expr (he:PE X e te)(hs:autoParam (swapsWith e none pos.line X.env=pure false) Au.h4._auto_1):PS X (.Expr e pos) (tDrop te):=by
 intro pins s σ H D I h
 exact wpAny_Expr_any (thn (he pins s σ H _ I h) fun v s1 ⟨x,H1,I1,r1,q1⟩=>⟨σ,H1,I1,q1⟩) I.quiet hs
noncomputable def tRet (te:TE):TS:=fun D σ H=>te σ H D.rt
theorem ps_ret (he:PE X e te):PS X (.Return (some e) pos) (tRet te):=by
 intro pins s σ H D I h
 exact wpAny_Return_some (thn (he pins s σ H _ I h) fun v s1 ⟨x,H1,I1,r1,q1⟩=>⟨x,σ,H1,I1,r1,q1⟩)
noncomputable def tIfS (c:TT)(t u:TS):TS:=fun D σ H=>c σ H fun b H1=>if b=true then t D σ H1 else u D σ H1
theorem ps_if {c:Expr}{a b:List Stmt}{tc:TT}(hc:PT X c tc)(ha:PSs X a t)(hb:PSs X b u):PS X (.If c a b pos) (tIfS tc t u):=by
 intro pins s σ H D I h
 refine wpAny_If (thn (hc pins s σ H _ I h) fun d s1 ⟨H1,I1,q1⟩=>?_)
 cases d with
 | true=>exact ha pins s1 σ H1 D I1 q1
 | false=>exact hb pins s1 σ H1 D I1 q1
end
noncomputable abbrev TG:=V->St->Hp->(St->Hp->Prop)->Prop
noncomputable abbrev TGs:=List V->St->Hp->(St->Hp->Prop)->Prop
noncomputable def PG (X:Cx)(target:Expr)(t:TG):Prop :=
 ∀ (pins:List (Addr × Obj)) (s:Shared) (σ:St) (H:Hp) (v:V) (u:Value) (Q:St->Hp->Prop),Inv X pins σ H s->RelV v u->t v σ H Q ->
  wpAny (model X.prog X.w) X.A (assign target X.env u) (fun _ s'=>∃ σ' H',Inv X pins σ' H' s'/\Q σ' H') X.xe s
noncomputable def PGs (X:Cx)(ts:List Expr)(t:TGs):Prop :=
 ∀ (pins:List (Addr × Obj)) (s:Shared) (σ:St) (H:Hp) (vs:List V) (us:List Value) (Q:St->Hp->Prop),Inv X pins σ H s->Vals vs us->t vs σ H Q ->
  wpAny (model X.prog X.w) X.A (assignInOrder ((assignEach ts X.env).map (·.2)) us) (fun _ s'=>∃ σ' H',Inv X pins σ' H' s'/\Q σ' H') X.xe s
noncomputable abbrev TSet:=V->V->V->Hp->(Hp->Prop)->Prop
noncomputable def PSet (X:Cx)(t:TSet):Prop :=
 ∀ (pins:List (Addr × Obj)) (s:Shared) (σ:St) (H:Hp) (o i v:V) (ov iv u:Value) (Q:Hp->Prop),Inv X pins σ H s->RelV o ov->RelV i iv->RelV v u->t o i v H Q ->
  wpAny (model X.prog X.w) X.A (setItem ov iv u) (fun _ s'=>∃ H',Inv X pins σ H' s'/\Q H') X.xe s
noncomputable abbrev TIp:=V->V->Hp->VK->Prop
noncomputable def PIp (X:Cx)(op:Operator)(t:TIp):Prop :=
 ∀ (pins:List (Addr × Obj)) (s:Shared) (σ:St) (H:Hp) (x y:V) (v u:Value) (Q:VK),Inv X pins σ H s->RelV x v->RelV y u->t x y H Q ->
  wpAny (model X.prog X.w) X.A (inplaceOp op v u) (EP X pins σ Q) X.xe s
section
variable {X:Cx}{pos:Pos}
noncomputable def gName (i:Nat):TG:=fun v σ H Q=>Q (σ.set i (some v)) H
theorem pg_name {i:Nat}{x:Str}(hN:X.N.Nodup)(hi:X.N[i]?=some x)(hx:Loc X.env.scope x)(hf:autoParam (X.fn x=true\/X.env.scope.names.lookup x=some .local) Au.h1._auto_1):PG X (.Name x pos) (gName i):=by
 intro pins s σ H v u Q I r h
 exact wpAny_assign_Name (store_ok I hN hi hx r (fun s' I'=>⟨_,H,I',h⟩) hf)
noncomputable def gNil:TGs:=fun vs σ H Q=>vs=[]/\Q σ H
noncomputable def gCons (t:TG)(u:TGs):TGs:=fun vs σ H Q=>∃ v r,vs=v::r/\t v σ H fun σ' H'=>u r σ' H' Q
theorem pgs_nil:PGs X [] gNil:=by
 intro pins s σ H vs us Q I r h
 obtain⟨e,h⟩:=h
 subst e
 cases r
 exact assignInOrder_nil ⟨σ,H,I,h⟩
theorem pgs_cons {e:Expr}{es:List Expr}{t:TG}{u:TGs}(h1:PG X e t)(h2:PGs X es u)
  (hs:autoParam ((assignEach (e::es) X.env).map (·.2)=assign e X.env::(assignEach es X.env).map (·.2)) Au.h4._auto_1):PGs X (e::es) (gCons t u):=by
 intro pins s σ H vs us Q I r h
 obtain⟨v,vr,e1,h⟩:=h
 subst e1
 cases r with
 | cons r rr =>
  rw[hs]
  refine assignInOrder_cons (thn (h1 pins s σ H _ _ _ I r h) fun _ s1 ⟨σ1,H1,I1,q1⟩=>?_)
  exact h2 pins s1 σ1 H1 _ _ Q I1 rr q1
noncomputable def gTup (K:PySem.W.Frag)(n:Nat)(t:TGs):TG:=fun v σ H Q=>∃ a xs,v=.ref a/\SqT K H a xs/\xs.length=n/\t xs σ H Q
theorem pg_tup {es:List Expr}{k:Nat}{t:TGs}{n:Nat}(hc:X.calm=true)(h:PGs X es t)
  (hn:autoParam ((assignEach es X.env).length=n) Au.h4._auto_1) (hst:autoParam ((assignEach es X.env).findIdx? (·.1)=none) Au.h4._auto_1):PG X (.Tuple es k pos) (gTup X.K n t):=by
 intro pins s σ H v u Q I r hw
 obtain⟨a,xs,e1,hq,hl,hw⟩:=hw
 subst e1
 cases r
 obtain⟨its,rv,ht,hz⟩:=I.tuple hq
 refine assign_Tuple_tuple (I.ok.hd hc) ht (by simp[hn,<- hl,rv.length]) hst fun h' hx=>?_
 have I1:Inv X pins σ H { s with heap:=h' }:=I.kept (t':=s.toks) fun b o e=>hx b o (Nat.ne_of_lt (Heap.lt_size e)) e
 exact h pins _ σ H xs _ Q I1 (by simpa using rv) hw
noncomputable def gSub (to ti:TE)(t:TSet):TG:=fun v σ H Q=>to σ H fun o H1=>ti σ H1 fun i H2=>t o i v H2 fun H3=>Q σ H3
theorem pg_sub {o i:Expr}{to ti:TE}{t:TSet}(ho:PE X o to)(hi:PE X i ti)(hs:PSet X t)
  (ha:autoParam (∀ v,assign (.Subscript o i pos) X.env v=(do
   let ov <- holding [v] (eval o X.env)
   let iv <- holding [v,ov] (eval i X.env)
   standAt pos
   holding [v,ov,iv] (setItem ov iv v)
   release [v,ov,iv] [])) Au.h3._auto_1):PG X (.Subscript o i pos) (gSub to ti t):=by
 intro pins s σ H v u Q I r h
 rw[ha]
 refine wpAny_bind (wpAny_holding (thn (ho pins s σ H _ I h) fun ov s1 ⟨x,H1,I1,r1,q1⟩=>?_))
 refine wpAny_bind (wpAny_holding (thn (hi pins s1 σ H1 _ I1 q1) fun iv s2 ⟨y,H2,I2,r2,q2⟩=>?_))
 refine wpAny_bind (wpAny_standAt (wpAny_bind (wpAny_holding (thn (hs pins s2 σ H2 x y v ov iv u _ I2 r1 r2 r q2) fun _ s3 ⟨H3,I3,q3⟩=>?_))))
 exact wpAny_release ⟨σ,H3,I3,q3⟩
noncomputable def tAsg (te:TE)(g:TG):TS:=fun D σ H=>te σ H fun x H1=>g x σ H1 D.nx
theorem ps_asg {tg e:Expr}{te:TE}{g:TG}(he:PE X e te)(hg:PG X tg g)(hs:autoParam (swapsWithSole [tg] e pos.line X.env=pure false) Au.h4._auto_1)(hw:autoParam (swappedStores [tg] e X.env=pure none) Au.h4._auto_1)
  (h1:autoParam ((assignEach [tg] X.env).map (·.2)=[assign tg X.env]) Au.h4._auto_1):PS X (.Assign [tg] e pos) (tAsg te g):=by
 intro pins s σ H D I h
 refine wpAny_Assign_stores (thn (he pins s σ H _ I h) fun v s1 ⟨x,H1,I1,r1,q1⟩=>?_) hs hw
 rw[h1]
 exact thn (hg pins s1 σ H1 x v _ I1 r1 q1) fun _ s2 q=>q
theorem ps_set {i:Nat}{x:Str}{e:Expr}{te:TE}{pos':Pos}(hN:X.N.Nodup)(hi:X.N[i]?=some x)(hx:Loc X.env.scope x)(he:PE X e te)(hs:autoParam (swapsWith e (some (.Name x pos')) pos.line X.env=pure false) Au.h4._auto_1)(hf:autoParam (X.fn x=true\/X.env.scope.names.lookup x=some .local) Au.h1._auto_1) :
  PS X (.Assign [.Name x pos'] e pos) (tAsg te (gName i)):=by
 intro pins s σ H D I h
 refine wpAny_Assign_Name (thn (he pins s σ H _ I h) fun v s1 ⟨y,H1,I1,r1,q1⟩=>?_) hs
 exact store_ok I1 hN hi hx r1 (fun s2 I2=>⟨_,H1,I2,q1⟩) hf
noncomputable def tPar (i j:Nat)(ta:TA):TS:=fun D σ H=>ta σ H fun vs H1=>∃ v w,vs=[v,w]/\D.nx ((σ.set i (some v)).set j (some w)) H1
theorem ps_par {i j:Nat}{x y:Str}{a b:Expr}{ta:TA}{px py pt:Pos}{kt k2 pt2}(hc:X.calm=true)(hN:X.N.Nodup)(hi:X.N[i]?=some x)(hj:X.N[j]?=some y)(hij:i≠j)
  (hx:X.env.scope.names.lookup x=some .local) (hy:X.env.scope.names.lookup y=some .local) (ha:PA X [a,b] ta)
  (hw:swappedStores [.Tuple [.Name x px,.Name y py] kt pt] (.Tuple [a,b] k2 pt2) X.env=pure (some [x,y]))
  (hs:autoParam (swapsWithSole [.Tuple [.Name x px,.Name y py] kt pt] (.Tuple [a,b] k2 pt2) pos.line X.env=pure false) Au.h4._auto_1) :
  PS X (.Assign [.Tuple [.Name x px,.Name y py] kt pt] (.Tuple [a,b] k2 pt2) pos) (tPar i j ta):=by
 intro pins s σ H D I h
 rw[exec_Assign_arm]
 refine wpAny_bind (wpAny_standAt ?_)
 rw[hs]
 refine wpAny_bind (wpAny_pure ?_)
 rw[if_neg (by decide)]
 refine wpAny_bind (Tuple_ (thn (ha _ pins s σ H _ I h) fun us s1 ⟨vs,H1,I1,r1,q1⟩=>?_))
 obtain⟨v,w,e1,q1⟩:=q1
 subst e1
 obtain⟨u1,u2,rfl,rv,rw'⟩:∃ u1 u2,us=[u1,u2]/\RelV v u1/\RelV w u2:=by
  cases r1 with
  | cons p q =>
   cases q with
   | cons p' q' =>
    cases q'
    exact⟨_,_,rfl,p,p'⟩
 refine wpAny_newObj_type ?_ (by show 2<=sizeLine; decide)
 have I2:Inv X pins σ H1 { s1 with heap:=s1.heap.push { cls:=.type "tuple",data:=.seq [u1,u2].toArray } }:=I1.kept (t':=s1.toks) fun b o e=>Heap.get?_push_of_some _ e
 rw[hw]
 refine wpAny_bind (wpAny_pure ?_)
 show wpAny (model X.prog X.w) X.A (do rule "assign.swapped-stores"; let items <- unpackItems (.ref s1.heap.objs.size) 2 none; assignInOrder [fun v=>bindName X.env y v,fun v=>bindName X.env x v] items.reverse; pure Flow.next) _ _ _
 refine wpAny_bind (wpAny_rule (wpAny_bind (unpackItems_tuple (items:=#[u1,u2]) (I.ok.hd hc) (IsTup.new s1.heap _) fun h' hx'=>?_)))
 have I3:=I2.kept (h':=h') (t':=s1.toks) fun b o e=>hx' b o (Nat.ne_of_lt (Heap.lt_size e)) e
 show wpAny _ _ (assignInOrder [fun v=>bindName X.env y v,fun v=>bindName X.env x v] [u2,u1] >>= fun _=>pure Flow.next) _ _ _
 refine wpAny_bind (assignInOrder_cons (wpAny_bindName (store_ok I3 hN hj (.inl hy) rw' (fun s2 I4=>?_) (.inr hy))))
 refine assignInOrder_cons (wpAny_bindName (store_ok I4 hN hi (.inl hx) rv (fun s3 I5=>assignInOrder_nil (wpAny_pure ?_)) (.inr hx)))
 rw[List.set_comm _ _ (Ne.symm hij)] at I5
 exact⟨_,H1,I5,q1⟩
noncomputable def tAug (i:Nat)(te:TE)(ti:TIp):TS:=fun D σ H=>∃ x,σ[i]?=some (some x)/\te σ H fun y H1=>ti x y H1 fun z H2=>D.nx (σ.set i (some z)) H2
theorem ps_aug {i:Nat}{x:Str}{e:Expr}{te:TE}{op:Operator}{ti:TIp}{pos':Pos}(hN:X.N.Nodup)(hi:X.N[i]?=some x)(hx:Loc X.env.scope x)(he:PE X e te)(ho:PIp X op ti)(hf:autoParam (X.fn x=true\/X.env.scope.names.lookup x=some .local) Au.h1._auto_1) :
  PS X (.AugAssign (.Name x pos') op e pos) (tAug i te ti):=by
 intro pins s σ H D I h
 obtain⟨v,e1,h⟩:=h
 obtain⟨m,hn,hl⟩:=I.loc
 have vis:Vis X.env.scope x:=by rcases hx with k|k; exact .inl k; exact .inr (.inl k)
 obtain⟨u,r,l⟩:=hl i x v hi e1 vis
 refine wpAny_AugAssign_Name ?_
 have go:wpAny (model X.prog X.w) X.A (eval e X.env) (fun w s₂=>wpAny (model X.prog X.w) X.A (inplaceOp op u w) (fun r s₃=>wpAny (model X.prog X.w) X.A (storeName X.env x r) (fun _=>SP X pins D .next) X.xe s₃) X.xe s₂) X.xe s:=by
  refine thn (he pins s σ H _ I h) fun w s1 ⟨y,H1,I1,r1,q1⟩=>?_
  refine thn (ho pins s1 σ H1 v y u w _ I1 r r1 q1) fun z s2 ⟨zv,H2,I2,r2,q2⟩=>?_
  exact store_ok I2 hN hi hx r2 (fun s3 I3=>⟨_,H2,I3,q2⟩) hf
 rcases l with ⟨hk,hm⟩|⟨hk,c,hc,hcell⟩
 ·exact wpAny_loadName_local I.ok.kind hk hn hm go
 ·rcases hk with hk|hk
  ·exact wpAny_loadName_cell I.ok.kind hk hc hcell go
  ·rcases hx with k|k
   ·have:X.env.scope.names.lookup x=some .free:=hk
    rw[k] at this; cases this
   ·have:X.env.scope.names.lookup x=some .free:=hk
    rw[k] at this; cases this
noncomputable def tAugS (to ti te:TE)(tget:V->V->Hp->VK->Prop)(tip:TIp)(tset:TSet):TS:=fun D σ H=>to σ H fun o H1=>ti σ H1 fun i H2=>tget o i H2 fun x H3=>te σ H3 fun y H4=>tip x y H4 fun z H5=>tset o i z H5 fun H6=>D.nx σ H6
noncomputable def PGet (X:Cx)(t:V->V->Hp->VK->Prop):Prop :=
 ∀ (pins:List (Addr × Obj)) (s:Shared) (σ:St) (H:Hp) (o i:V) (ov iv:Value) (Q:VK),Inv X pins σ H s->RelV o ov->RelV i iv->t o i H Q ->
  wpAny (model X.prog X.w) X.A (getItem ov iv) (EP X pins σ Q) X.xe s
theorem ps_augS {o i e:Expr}{to ti te:TE}{tget:V->V->Hp->VK->Prop}{tip:TIp}{tset:TSet}{op:Operator}{tpos:Pos}(ho:PE X o to)(hi:PE X i ti)(hg:PGet X tget)(he:PE X e te)(hp:PIp X op tip)(hs:PSet X tset)
  (ha:autoParam (∀ ov iv new,augStore i ov iv new=(do holding [new,ov,iv] (setItem ov iv new); release [new,ov,iv] []; pure .next)) Au.h5._auto_1):PS X (.AugAssign (.Subscript o i tpos) op e pos) (tAugS to ti te tget tip tset):=by
 intro pins s σ H D I h
 refine wpAny_AugAssign_SubscriptAny (thn (ho pins s σ H _ I h) fun ov s1 ⟨x1,H1,I1,r1,q1⟩=>?_) ha
 refine thn (hi pins s1 σ H1 _ I1 q1) fun iv s2 ⟨x2,H2,I2,r2,q2⟩=>?_
 refine thn (hg pins s2 σ H2 x1 x2 ov iv _ I2 r1 r2 q2) fun old s3 ⟨x3,H3,I3,r3,q3⟩=>?_
 refine thn (he pins s3 σ H3 _ I3 q3) fun v s4 ⟨x4,H4,I4,r4,q4⟩=>?_
 refine thn (hp pins s4 σ H4 x3 x4 old v _ I4 r3 r4 q4) fun new s5 ⟨x5,H5,I5,r5,q5⟩=>?_
 exact thn (hs pins s5 σ H5 x1 x2 x5 ov iv new _ I5 r1 r2 r5 q5) fun _ s6 ⟨H6,I6,q6⟩=>⟨σ,H6,I6,q6⟩
noncomputable def ipI (f:Int->Int->Int):TIp:=fun x y H Q=>∃ i j,x=.int i/\y=.int j/\Q (.int (f i j)) H
theorem ip_sub:PIp X .Sub (ipI fun i j=>i-j):=by
 intro pins s σ H x y v u Q I r1 r2 h
 obtain⟨i,j,e1,e2,q⟩:=h
 subst e1; subst e2
 obtain⟨t,rfl⟩:=r1
 obtain⟨t',rfl⟩:=r2
 exact isub_int ⟨.int _,H,I.tok _,⟨_,rfl⟩,q⟩
end
section
variable {X:Cx}{pos:Pos}
noncomputable def tWhile (c:TT)(tb:TS):TS:=fun D σ H=>∃ W:Nat->St->Hp->Prop,(∃ m,W m σ H)/\∀ m σ H,W m σ H ->
 c σ H fun b H1=>if b=true then ∃ N:St->Hp->Prop,(∀ σ' H',N σ' H'->∃ m',m'<m/\W m' σ' H')/\tb { D with nx:=N,ct:=N,bk:=D.nx } σ H1 else D.nx σ H1
theorem ps_while {c:Expr}{body:List Stmt}{tc:TT}{tb:TS}(hp:PassesOwn (model X.prog X.w) X.A X.env X.xe)(hc:PT X c tc)(hb:PSs X body tb):PS X (.While c body [] pos) (tWhile tc tb):=by
 intro pins s σ H D I h
 obtain⟨W,⟨m0,w0⟩,turn⟩:=h
 refine wpAny_While (codeAny_whileLoop (fun n s'=>∃ σ' H',Inv X pins σ' H' s'/\W n σ' H') ?_ m0 ⟨σ,H,I,w0⟩)
 rintro n s1 ⟨σ1,H1,I1,w1⟩
 refine wpAny_passesOwn hp (thn (hc pins s1 σ1 H1 _ I1 (turn n σ1 H1 w1)) fun b s2 ⟨H2,I2,q2⟩=>?_)
 cases b with
 | true =>
  obtain⟨N,hN,q2⟩:=q2
  rw[if_pos rfl]
  refine wpAny_passesOwn hp (thn (hb pins s2 σ1 H2 _ I2 q2) fun f s3 q3=>?_)
  cases f with
  | next =>
   obtain⟨σ3,H3,I3,n3⟩:=q3
   obtain⟨m',hm,w3⟩:=hN σ3 H3 n3
   exact⟨m',hm,σ3,H3,I3,w3⟩
  | cont =>
   obtain⟨σ3,H3,I3,n3⟩:=q3
   obtain⟨m',hm,w3⟩:=hN σ3 H3 n3
   exact⟨m',hm,σ3,H3,I3,w3⟩
  | brk=>exact q3
  | ret v=>exact q3
 | false =>
  rw[if_neg Bool.false_ne_true]
  exact wpAny_execs_nil ⟨σ1,H2,I2,q2⟩
end
structure It where
 go:Nat->Hp->Prop
 yld:Nat->Hp->V->Hp->Prop
 stop:Nat->Hp->Prop
noncomputable def FpOk (X:Cx)(pins:List (Addr × Obj))(H:Hp)(b:Addr):Prop :=
 H b=none/\b≠X.env.locals/\b∉X.fs/\(b∈X.ex\/X.s₀.heap.objs.size<=b)/\(∀ x c,X.env.cells.lookup x=some c->c≠b)/\∀ p∈X.pn++pins,p.1≠b
theorem Inv.fpOk {X:Cx}{pins:List (Addr × Obj)}{σ:St}{H H':Hp}{s:Shared}{b:Addr}(I:Inv X pins σ H s)(hb:s.heap.objs.size<=b)(hn:H' b=none):FpOk X pins H' b:=by
 refine⟨hn,Nat.ne_of_gt (Nat.lt_of_lt_of_le I.lt hb),I.nofs hb,.inr (Nat.le_trans I.sz hb),fun x c e z=>?_,fun p hp z=>?_⟩
 ·obtain⟨v,q⟩:=I.cell x c e
  exact absurd (Nat.lt_of_lt_of_le q.lt (by rw[z]; exact hb)) (Nat.lt_irrefl _)
 ·exact absurd (Nat.lt_of_lt_of_le (Heap.lt_size (I.pin p hp).1) (by rw[z]; exact hb)) (Nat.lt_irrefl _)
structure Turn (P:Program)(w:World)(K:PySem.W.Frag)(tg:Expr)(J:It)(fp:List Addr)(it:Addr)(tn:Nat->Heap->Prop):Prop where
 mem:it∈fp
 obj:∀ i h,tn i h->∀ b∈fp,∃ o,h.get? b=some o/\∀ v,o.data≠.cell v
 keep:∀ i h h',tn i h->(∀ b∈fp,∀ o,h.get? b=some o->h'.get? b=some o)->tn i h'
 item:∀ (X:Cx),X.prog=P->X.w=w->X.K=K->X.calm=true->∀ (i:Nat) (pins:List (Addr × Obj)) (s:Shared) (σ:St) (H:Hp) (E:Value->Shared->Prop),Inv X pins σ H s->(∀ b∈fp,FpOk X pins H b)->tn i s.heap->J.go i H ->
  wpAny (model P w) X.A (pyNext (.ref it)) (fun r s1=>∃ u,r=some u /\
   wpAny (model P w) X.A (letOwnedTupleGo tg (.ref it) u) (fun _ s2=>∃ x H',Inv X pins σ H' s2/\RelV x u/\J.yld i H x H'/\tn (i+1) s2.heap/\∀ b∈fp,H' b=none) E s1) E s
 done:∀ (X:Cx),X.prog=P->X.w=w->X.K=K->X.calm=true->∀ (i:Nat) (pins:List (Addr × Obj)) (s:Shared) (σ:St) (H:Hp) (E:Value->Shared->Prop),Inv X pins σ H s->(∀ b∈fp,FpOk X pins H b)->tn i s.heap->J.stop i H ->
  wpAny (model P w) X.A (pyNext (.ref it)) (fun r s1=>r=none/\Inv X pins σ H s1) E s
 self:∀ (A:Around) (i:Nat) (s:Shared) (Q:Value->Shared->Prop) (E:Value->Shared->Prop),tn i s.heap->Q (.ref it) s->wpAny (model P w) A (pyIter (.ref it)) Q E s
noncomputable abbrev TI:=St->Hp->(It->Hp->Prop)->Prop
noncomputable def PIE (X:Cx)(pins:List (Addr × Obj))(σ:St)(tg:Expr)(R:It->Hp->Prop)(itv:Value)(s2:Shared):Prop :=
 ∃ (it:Addr) (fp:List Addr) (tn:Nat->Heap->Prop) (J:It) (H':Hp),itv=.ref it/\Inv X pins σ H' s2/\Turn X.prog X.w X.K tg J fp it tn/\tn 0 s2.heap/\(∀ b∈fp,FpOk X pins H' b)/\R J H'
noncomputable def PI (X:Cx)(tg iter:Expr)(wi:TI):Prop :=
 ∀ (pins:List (Addr × Obj)) (s:Shared) (σ:St) (H:Hp) (R:It->Hp->Prop),Inv X pins σ H s->wi σ H R ->
  wpAny (model X.prog X.w) X.A (eval iter X.env) (fun v s1=>wpAny (model X.prog X.w) X.A (pyIter v) (PIE X pins σ tg R) X.xe s1) X.xe s
theorem go_of {M:Model}{A:Around}{E:Value->Shared->Prop}{s:Shared}{tg:Expr}{it:Addr}{u:Value}{o:Obj}{n:String}{vs:Array Value}{Q:Unit->Shared->Prop}(ho:s.heap.get? it=some o)(hc:o.cls=.type n)(hd:o.data=.fields vs)
    (hn:["enumerate","zip","dict_itemiterator","dict_reverseitemiterator","odict_iterator","itertools.zip_longest","itertools.pairwise"].contains n=false) (hQ:Q () s):wpAny M A (letOwnedTupleGo tg (.ref it) u) Q E s:=by
  unfold letOwnedTupleGo
  cases tg <;>first
    | exact wpAny_pure hQ
    | (cases u <;>first
        | exact wpAny_pure hQ
        | (refine wpAny_bind (wpAny_load ho ?_)
           rw[hc,hd]
           show wpAny M A (if (["enumerate","zip","dict_itemiterator","dict_reverseitemiterator","odict_iterator","itertools.zip_longest","itertools.pairwise"].contains n&&vs[0]? == some (rawInt _))=true then _ else _) Q E s
           rw[if_neg (by intro h; rw[hn,Bool.false_and] at h; cases h)]
           exact wpAny_pure hQ))
noncomputable def Itl (K:PySem.W.Frag)(a:Addr):It :=
 ⟨fun i H=>∃ xs x,SqL K H a xs/\xs[i]?=some x,fun i H x H'=>H'=H/\∀ xs,SqL K H a xs->xs[i]?=some x,fun i H=>∃ xs,SqL K H a xs/\xs.length<=i⟩
noncomputable def Itr (lo:Int)(n:Nat):It:=⟨fun i _=>i<n,fun i H x H'=>H'=H/\x=.int (lo+i),fun i _=>n<=i⟩
theorem turn_list {P:Program}{w:World}{K:PySem.W.Frag}{tg:Expr}(a it:Addr):Turn P w K tg (Itl K a) [it] it (fun i h=>h.IsListIter it a i) where
 mem:=by simp
 obj:=fun i h st b hb=>by
  have e:b=it:=by simpa using hb
  subst e
  obtain⟨o,e,c,d⟩:=st
  exact⟨o,e,fun v z=>by rw[d] at z; cases z⟩
 keep:=fun i h h' st k=>st.at fun o e=>k it (by simp) o e
 item:=by
  intro X hP hw hK hc i pins s σ H E I hf st hg
  subst hP hw hK
  obtain⟨xs,x,hq,hx⟩:=hg
  obtain⟨its,rv,p,hz⟩:=I.list hq
  obtain⟨u,hu,ru⟩:=rv.get hx
  obtain⟨f0,f1,f2,f3,f4,f5⟩:=hf it (by simp)
  refine wpAny_pyNext_list_item st p.isList (x:=u) (by simpa using hu) fun h' st' sb=>?_
  have I1:Inv X pins σ H { s with heap:=h' }:=I.turned (t':=s.toks) (fun b o hb e=>(sb.2 b hb).trans e) f0 f1 f3 f4 f5
  obtain⟨o,e,c,d⟩:=id st'
  exact⟨u,rfl,go_of (s:={ s with heap:=h' }) e c d (by decide) ⟨x,H,I1,ru,⟨rfl,fun ys hy=>by rw[I.list_inj hy hq]; exact hx⟩,st',fun b hb=>(hf b hb).1⟩⟩
 done:=by
  intro X hP hw hK hc i pins s σ H E I hf st hg
  subst hP hw hK
  obtain⟨xs,hq,hx⟩:=hg
  obtain⟨its,rv,p,hz⟩:=I.list hq
  obtain⟨f0,f1,f2,f3,f4,f5⟩:=hf it (by simp)
  have hl:=rv.length
  exact wpAny_pyNext_list_end (I.ok.hd hc) st p.isList (by simp; omega) fun h' eb=>⟨rfl,I.turned (t':=s.toks) (fun b o hb e=>eb b o hb e) f0 f1 f3 f4 f5⟩
 self:=fun _ _ _ _ _ st h=>wpAny_pyIter_listiter st h
theorem turn_range {P:Program}{w:World}{K:PySem.W.Frag}{tg:Expr}(it:Addr)(lo:Int)(n:Nat):Turn P w K tg (Itr lo n) [it] it (fun i h=>IsRangeIter h it (lo+(i:Nat)*1) ((n:Int)-(i:Nat)) 1) where
 mem:=by simp
 obj:=fun i h st b hb=>by
  have e:b=it:=by simpa using hb
  subst e
  exact⟨_,st,fun v z=>by
   have z':Data.fields _=Data.cell v:=z
   cases z'⟩
 keep:=fun i h h' st k=>k it (by simp) _ st
 item:=by
  intro X hP hw hK hc i pins s σ H E I hf st hg
  subst hP hw hK
  obtain⟨f0,f1,f2,f3,f4,f5⟩:=hf it (by simp)
  have W:=Walks.range (prog:=X.prog) (w:=X.w) (I.ok.hd hc) it lo 1 n
  refine W.item i s _ _ hg st fun v h' tk hv st' kk=>?_
  obtain⟨t,rfl⟩:=hv
  have I1:Inv X pins σ H { s with heap:=h',toks:=tk }:=I.turned (fun b o hb e=>kk b o (by simpa using hb) e) f0 f1 f3 f4 f5
  refine⟨_,rfl,go_of (s:={ s with heap:=h',toks:=tk }) (n:="range_iterator") st' rfl rfl (by decide) ⟨.int (lo+i),H,I1,⟨t,?_⟩,⟨rfl,rfl⟩,st',fun b hb=>(hf b hb).1⟩⟩
  rw[Int.mul_one]
 done:=by
  intro X hP hw hK hc i pins s σ H E I hf st hg
  subst hP hw hK
  obtain⟨f0,f1,f2,f3,f4,f5⟩:=hf it (by simp)
  exact wpAny_pyNext_range_end (I.ok.hd hc) st (by have:n<=i:=hg; omega) fun h' eb=>⟨rfl,I.turned (t':=s.toks) (fun b o hb e=>eb b o hb e) f0 f1 f3 f4 f5⟩
 self:=fun _ _ _ _ _ st h=>wpAny_pyIter_rangeiter st h
section
variable {X:Cx}{tg:Expr}
noncomputable def iList (K:PySem.W.Frag)(tl:TE):TI:=fun σ H R=>tl σ H fun x H1=>∃ a,x=.ref a/\(∃ xs,SqL K H1 a xs)/\R (Itl K a) H1
theorem pi_list {l:Expr}{tl:TE}(hl:PE X l tl):PI X tg l (iList X.K tl):=by
 intro pins s σ H R I h
 refine thn (hl pins s σ H _ I h) fun v s1 ⟨x,H1,I1,r1,q1⟩=>?_
 obtain⟨a,e,⟨xs,hq⟩,q⟩:=q1
 subst e
 cases r1
 obtain⟨its,rv,p,hz⟩:=I1.list hq
 refine wpAny_pyIter_list p.isList ?_
 refine⟨s1.heap.objs.size,[s1.heap.objs.size],_,_,H1,rfl,I1.kept (t':=s1.toks) fun b o e=>Heap.get?_push_of_some _ e,turn_list a _,⟨_,Heap.get?_push_size _ rfl,rfl,rfl⟩,fun b hb=>?_,q⟩
 have e:b=s1.heap.objs.size:=by simpa using hb
 subst e
 exact I1.fpOk (Nat.le_refl _) (I1.hok.fresh (Nat.le_refl _))
theorem range_it {pins:List (Addr × Obj)}{σ:St}{H:Hp}{s:Shared}{R:It->Hp->Prop}{E:Value->Shared->Prop}{lo hi:Int}{t u v:Tok}{tk:Nat}(I:Inv X pins σ H s)(h1:-(2 ^ 62)<=lo)(h2:lo<2 ^ 62)(h3:-(2 ^ 62)<=hi)(h4:hi<2 ^ 62)
  (q:R (Itr lo (hi-lo).toNat) H):wpAny (model X.prog X.w) X.A (pyIter (.ref s.heap.objs.size)) (PIE X pins σ tg R) E { s with heap:=s.heap.push { cls:=.type "range",data:=.fields #[.int lo t,.int hi u,.int 1 v] },toks:=tk }:=by
 refine wpAny_pyIter_range (IsRange.new ..) (small_one h1 h2 h3 h4) ?_
 have I1:Inv X pins σ H { s with heap:=s.heap.push { cls:=.type "range",data:=.fields #[.int lo t,.int hi u,.int 1 v] },toks:=tk }:=I.kept fun b o e=>Heap.get?_push_of_some _ e
 refine⟨(s.heap.push { cls:=.type "range",data:=.fields #[.int lo t,.int hi u,.int 1 v] }).objs.size,[(s.heap.push { cls:=.type "range",data:=.fields #[.int lo t,.int hi u,.int 1 v] }).objs.size],_,_,H,rfl,
  I1.kept (t':=tk) fun b o e=>Heap.get?_push_of_some _ e,turn_range _ lo (hi-lo).toNat,?_,fun b hb=>?_,q⟩
 ·have e1:lo+((0:Nat):Int)*1=lo:=by simp
  have e2:(((hi-lo).toNat:Nat):Int)-((0:Nat):Int)=Builtin.Range.rangeSize lo hi 1:=by rw[rangeSize_one]; split <;>omega
  show IsRangeIter _ _ (lo+((0:Nat):Int)*1) ((((hi-lo).toNat:Nat):Int)-((0:Nat):Int)) 1
  rw[e1,e2]
  exact Heap.get?_push_size _ rfl
 ·have e:b=(s.heap.push { cls:=.type "range",data:=.fields #[.int lo t,.int hi u,.int 1 v] }).objs.size:=by simpa using hb
  subst e
  exact I1.fpOk (Nat.le_refl _) (I1.hok.fresh (Nat.le_refl _))
noncomputable def iRng1 (ta:TA):TI:=fun σ H R=>ta σ H fun vs H1=>∃ j:Int,vs=[.int j]/\-(2 ^ 62)<=j/\j<2 ^ 62/\R (Itr 0 j.toNat) H1
noncomputable def iRng2 (ta:TA):TI:=fun σ H R=>ta σ H fun vs H1=>∃ i j:Int,vs=[.int i,.int j]/\(-(2 ^ 62)<=i/\i<2 ^ 62/\-(2 ^ 62)<=j/\j<2 ^ 62)/\R (Itr i (j-i).toNat) H1
theorem pi_range1 {a:Expr}{ta:TA}{p pos:Pos}(hg:Gl X "range")(hm:X.mg "range"=none)(ha:PA X [a] ta)(hs:autoParam (starEach [a] X.env=[(false,eval a X.env)]) Au.h4._auto_1):PI X tg (.Call (.Name "range" p) [a] [] pos) (iRng1 ta):=by
 intro pins s σ H R I h
 refine Call_ (ld_blt I hg hm boot_range (PyProof.Rows.callWith_type1 (thn (ha pos pins s σ H _ I h) fun us s1 ⟨vs,H1,I1,r1,q1⟩=>?_) hs rfl))
 obtain⟨j,e,q1,q2,q⟩:=q1
 subst e
 cases r1 with
 | cons r rr =>
  cases rr
  obtain⟨t,rfl⟩:=r
  exact call_range_1 (range_it I1 (by omega) (by omega) q1 q2 (by simpa using q))
theorem pi_range2 {a b:Expr}{ta:TA}{p pos:Pos}(hg:Gl X "range")(hm:X.mg "range"=none)(ha:PA X [a,b] ta)(hs:autoParam (starEach [a,b] X.env=[(false,eval a X.env),(false,eval b X.env)]) Au.h4._auto_1)(hs2:autoParam (starEach [b] X.env=[(false,eval b X.env)]) Au.h4._auto_1) :
  PI X tg (.Call (.Name "range" p) [a,b] [] pos) (iRng2 ta):=by
 intro pins s σ H R I h
 refine Call_ (ld_blt I hg hm boot_range (PyProof.Rows.callWith_type1 (thn (ha pos pins s σ H _ I h) fun us s1 ⟨vs,H1,I1,r1,q1⟩=>?_) (by rw[hs,hs2]) (by rw[hs2]; rfl)))
 obtain⟨i,j,e,⟨q1,q2,q3,q4⟩,q⟩:=q1
 subst e
 cases r1 with
 | cons r rr =>
  cases rr with
  | cons r' rr =>
   cases rr
   obtain⟨t,rfl⟩:=r
   obtain⟨t',rfl⟩:=r'
   exact call_range_2 (range_it I1 q1 q2 q3 q4 q)
noncomputable def tFor (wi:TI)(g:TG)(tb:TS):TS:=fun D σ H=>wi σ H fun J H1=>∃ W:Nat->Nat->St->Hp->Prop,(∃ m,W 0 m σ H1)/\∀ i m σ H,W i m σ H ->
 (J.stop i H/\D.nx σ H)\/(J.go i H/\∃ N:St->Hp->Prop,(∀ σ' H',N σ' H'->∃ m',m'<m/\W (i+1) m' σ' H')/\∀ x H',J.yld i H x H'->g x σ H' fun σ2 H2=>tb { D with nx:=N,ct:=N,bk:=D.nx } σ2 H2)
noncomputable def pinsAt (fp:List Addr)(h:Heap):List (Addr × Obj):=fp.filterMap fun b=>(h.get? b).map fun o=>(b,o)
theorem mem_pinsAt {fp:List Addr}{h:Heap}{b:Addr}{o:Obj}(hb:b∈fp)(e:h.get? b=some o):(b,o)∈pinsAt fp h:=List.mem_filterMap.mpr ⟨b,hb,by rw[e]; rfl⟩
theorem of_pinsAt {fp:List Addr}{h:Heap}{p:Addr × Obj}(hp:p∈pinsAt fp h):p.1∈fp/\h.get? p.1=some p.2:=by
 obtain⟨b,hb,e⟩:=List.mem_filterMap.mp hp
 cases q:h.get? b with
 | none=>rw[q] at e; cases e
 | some o =>
  rw[q] at e
  have e':(b,o)=p:=Option.some.inj e
  subst e'
  exact⟨hb,q⟩
theorem Inv.pinned {pins:List (Addr × Obj)}{σ:St}{H:Hp}{s:Shared}{fp:List Addr}(I:Inv X pins σ H s)(hf:∀ b∈fp,FpOk X pins H b)(ho:∀ b∈fp,∃ o,s.heap.get? b=some o/\∀ v,o.data≠.cell v):Inv X (pins++pinsAt fp s.heap) σ H s :=
 I.pins_of fun p hp=>(List.mem_append.mp hp).elim (fun z=>I.pin p (List.mem_append_right _ z)) fun z=>by
  obtain⟨hb,e⟩:=of_pinsAt z
  obtain⟨f0,f1,f2,_⟩:=hf p.1 hb
  obtain⟨o,e',d⟩:=ho p.1 hb
  rw[e] at e'; cases e'
  exact⟨e,f0,f1,f2,d⟩
theorem Inv.unpinned {pins pl:List (Addr × Obj)}{σ:St}{H:Hp}{s:Shared}(I:Inv X (pins++pl) σ H s):Inv X pins σ H s:=I.pins_of fun p hp=>I.pin p (List.mem_append_right _ (List.mem_append_left _ hp))
theorem ps_for {iter:Expr}{body:List Stmt}{wi:TI}{g:TG}{tb:TS}{pos:Pos}(hp:PassesOwn (model X.prog X.w) X.A X.env X.xe)(hc:X.calm=true)(hi:PI X tg iter wi)(hg:PG X tg g)(hb:PSs X body tb)
  (hs:autoParam (∀ x,foldedSetIterable iter X.env x=pure x) Au.h3._auto_1):PS X (.For tg iter body [] pos) (tFor wi g tb):=by
 intro pins s σ H D I h
 refine wpAny_For (thn (hi pins s σ H _ I h) fun v s1 h1=>thn h1 fun itv s2 h2=>?_) hs
 obtain⟨it,fp,tn,J,H2,e,I2,T,st2,f2,W,⟨m0,w0⟩,turn⟩:=h2
 subst e
 have stat:∀ {H':Hp},(∀ b∈fp,H' b=none)->∀ b∈fp,FpOk X pins H' b:=fun hn b hb=>⟨hn b hb,(f2 b hb).2⟩
 refine codeAny_forLoop_any (fun n s'=>∃ i σ' H',Inv X pins σ' H' s'/\tn i s'.heap/\(∀ b∈fp,H' b=none)/\W i n σ' H') ?_ m0 ⟨0,σ,H2,I2,st2,fun b hb=>(f2 b hb).1,w0⟩
 rintro n s3 ⟨i,σ3,H3,I3,st3,fr3,w3⟩
 rcases turn i n σ3 H3 w3 with ⟨stop,qn⟩|⟨go,N,hN,step⟩
 ·refine wpAny_passesOwn hp (thn (T.done X rfl rfl rfl hc i pins s3 σ3 H3 X.xe I3 (stat fr3) st3 stop) fun r s4 ⟨hr,I4⟩=>?_)
  subst hr
  exact wpAny_execs_nil ⟨σ3,H3,I4,qn⟩
 ·refine wpAny_passesOwn hp (thn (T.item X rfl rfl rfl hc i pins s3 σ3 H3 X.xe I3 (stat fr3) st3 go) fun r s4 ⟨u,hr,h4⟩=>?_)
  subst hr
  refine wpAny_passesOwn hp (thn h4 fun _ s5 ⟨x,H5,I5,r5,y5,st5,fr5⟩=>?_)
  have I5':=I5.pinned (stat fr5) (T.obj _ _ st5)
  refine wpAny_passesOwn hp (thn (hg _ s5 σ3 H5 x u _ I5' r5 (step x H5 y5)) fun _ s6 ⟨σ6,H6,I6,q6⟩=>?_)
  refine wpAny_passesOwn hp (thn (hb _ s6 σ6 H6 _ I6 q6) fun f s7 q7=>?_)
  have again:∀ {σ7:St} {H7:Hp},Inv X (pins++pinsAt fp s5.heap) σ7 H7 s7->N σ7 H7->∃ m,m<n/\∃ i σ' H',Inv X pins σ' H' s7/\tn i s7.heap/\(∀ b∈fp,H' b=none)/\W i m σ' H':=fun {σ7 H7} I7 n7=>by
   obtain⟨m',hm,w7⟩:=hN σ7 H7 n7
   refine⟨m',hm,i+1,σ7,H7,I7.unpinned,T.keep _ _ _ st5 fun b hb o e=>(I7.pin (b,o) (List.mem_append_right _ (List.mem_append_right _ (mem_pinsAt hb e)))).1,fun b hb=>?_,w7⟩
   obtain⟨o,e,d⟩:=T.obj _ _ st5 b hb
   exact(I7.pin (b,o) (List.mem_append_right _ (List.mem_append_right _ (mem_pinsAt hb e)))).2.1
  cases f with
  | next=>obtain⟨σ7,H7,I7,n7⟩:=q7; exact again I7 n7
  | cont=>obtain⟨σ7,H7,I7,n7⟩:=q7; exact again I7 n7
  | brk=>obtain⟨σ7,H7,I7,q7⟩:=q7; exact⟨σ7,H7,I7.unpinned,q7⟩
  | ret v=>obtain⟨x7,σ7,H7,I7,r7,q7⟩:=q7; exact⟨x7,σ7,H7,I7.unpinned,r7,q7⟩
end
noncomputable abbrev R2:=V->V->Hp->VK->Prop
noncomputable def OpR (X:Cx)(f:Value->Value->Sem Value)(r:R2):Prop :=
 ∀ (pins:List (Addr × Obj)) (s:Shared) (σ:St) (H:Hp) (x y:V) (v u:Value) (Q:VK),Inv X pins σ H s->RelV x v->RelV y u->r x y H Q ->
  wpAny (model X.prog X.w) X.A (f v u) (EP X pins σ Q) X.xe s
noncomputable def UnR (X:Cx)(f:Value->Sem Value)(r:V->Hp->VK->Prop):Prop :=
 ∀ (pins:List (Addr × Obj)) (s:Shared) (σ:St) (H:Hp) (x:V) (v:Value) (Q:VK),Inv X pins σ H s->RelV x v->r x H Q ->
  wpAny (model X.prog X.w) X.A (f v) (EP X pins σ Q) X.xe s
noncomputable def CallR (X:Cx)(f:Value)(r:List V->Hp->VK->Prop):Prop :=
 ∀ (pins:List (Addr × Obj)) (s:Shared) (σ:St) (H:Hp) (xs:List V) (us:List Value) (Q:VK),Inv X pins σ H s->Vals xs us->r xs H Q ->
  wpAny (model X.prog X.w) X.A (call f us) (EP X pins σ Q) X.xe s
noncomputable def tOp (r:R2)(ta tb:TE):TE:=fun σ H Q=>ta σ H fun x H1=>tb σ H1 fun y H2=>r x y H2 Q
noncomputable def tUn (r:V->Hp->VK->Prop)(ta:TE):TE:=fun σ H Q=>ta σ H fun x H1=>r x H1 Q
noncomputable def rI (C:Int->Int->Prop)(g:Int->Int->V):R2:=fun x y H Q=>∃ i j,x=.int i/\y=.int j/\C i j/\Q (g i j) H
noncomputable def rI0 (g:Int->Int->V):R2:=fun x y H Q=>∃ i j,x=.int i/\y=.int j/\Q (g i j) H
noncomputable def rU (g:Int->V):V->Hp->VK->Prop:=fun x H Q=>∃ i,x=.int i/\Q (g i) H
section
variable {X:Cx}{a b c:Expr}{ta tb tc:TE}{pos:Pos}
theorem binT (ha:PE X a ta)(hb:PE X b tb){pins:List (Addr × Obj)}{s:Shared}{σ:St}{H:Hp}{R:V->V->Hp->Prop}(I:Inv X pins σ H s)
  (h:ta σ H fun x H1=>tb σ H1 fun y H2=>R x y H2) {Q:Value->Shared->Prop} {f:Value->Value->Sem Value}
  (hf:∀ v u s2 x y H2,Inv X pins σ H2 s2->RelV x v->RelV y u->R x y H2->wpAny (model X.prog X.w) X.A (f v u) Q X.xe s2) :
  wpAny (model X.prog X.w) X.A (eval a X.env) (fun v s₁=>wpAny (model X.prog X.w) X.A (eval b X.env) (fun u s₂=>wpAny (model X.prog X.w) X.A (f v u) Q X.xe s₂) X.xe s₁) X.xe s:=by
 refine thn (ha pins s σ H _ I h) fun v s1 ⟨x,H1,I1,r1,q1⟩=>?_
 refine thn (hb pins s1 σ H1 _ I1 q1) fun u s2 ⟨y,H2,I2,r2,q2⟩=>?_
 exact hf v u s2 x y H2 I2 r1 r2 q2
theorem pe_op {op:Operator}{r:R2}(ho:OpR X (binaryOp op) r)(ha:PE X a ta)(hb:PE X b tb):PE X (.BinOp a op b pos) (tOp r ta tb):=by
 intro pins s σ H Q I h
 exact wpAny_BinOp (binT ha hb I h fun v u s2 x y H2 I2 rx ry q=>ho pins s2 σ H2 x y v u Q I2 rx ry q)
theorem pe_un {op:UnaryOp}{r:V->Hp->VK->Prop}(ho:UnR X (unaryOp op) r)(ha:PE X a ta):PE X (.UnaryOp op a pos) (tUn r ta):=by
 intro pins s σ H Q I h
 exact UnaryOp_ (thn (ha pins s σ H _ I h) fun v s1 ⟨x,H1,I1,r1,q1⟩=>ho pins s1 σ H1 x v Q I1 r1 q1)
theorem opI {f:Value->Value->Sem Value}{C:Int->Int->Prop}{g:Int->Int->Int}
  (rule:∀ (i j:Int) (t u:Tok) (s:Shared) (Q:Value->Shared->Prop) (E:Value->Shared->Prop),C i j->Q (.int (g i j) s.toks) { s with toks:=s.toks+1 }->wpAny (model X.prog X.w) X.A (f (.int i t) (.int j u)) Q E s) :
  OpR X f (rI C fun i j=>.int (g i j)):=by
 intro pins s σ H x y v u Q I rx ry h
 obtain⟨i,j,rfl,rfl,hc,q⟩:=h
 obtain⟨t,rfl⟩:=rx
 obtain⟨t',rfl⟩:=ry
 exact rule i j t t' s _ _ hc ⟨.int (g i j),H,I.tok _,⟨_,rfl⟩,q⟩
theorem opI0 {f:Value->Value->Sem Value}{g:Int->Int->Int}
  (rule:∀ (i j:Int) (t u:Tok) (s:Shared) (Q:Value->Shared->Prop) (E:Value->Shared->Prop),Q (.int (g i j) s.toks) { s with toks:=s.toks+1 }->wpAny (model X.prog X.w) X.A (f (.int i t) (.int j u)) Q E s) :
  OpR X f (rI0 fun i j=>.int (g i j)):=by
 intro pins s σ H x y v u Q I rx ry h
 obtain⟨i,j,rfl,rfl,q⟩:=h
 obtain⟨t,rfl⟩:=rx
 obtain⟨t',rfl⟩:=ry
 exact rule i j t t' s _ _ ⟨.int (g i j),H,I.tok _,⟨_,rfl⟩,q⟩
theorem opB0 {f:Value->Value->Sem Value}{g:Int->Int->Bool}
  (rule:∀ (i j:Int) (t u:Tok) (s:Shared) (Q:Value->Shared->Prop) (E:Value->Shared->Prop),Q (.bool (g i j)) s->wpAny (model X.prog X.w) X.A (f (.int i t) (.int j u)) Q E s) :
  OpR X f (rI0 fun i j=>.bl (g i j)):=by
 intro pins s σ H x y v u Q I rx ry h
 obtain⟨i,j,rfl,rfl,q⟩:=h
 obtain⟨t,rfl⟩:=rx
 obtain⟨t',rfl⟩:=ry
 exact rule i j t t' s _ _ ⟨.bl (g i j),H,I,rfl,q⟩
noncomputable def CPow (i j:Int):Prop:=0<=j/\j<=1000000/\i.natAbs<2 ^ 64
noncomputable def CMul (i j:Int):Prop:=(-(2 ^ 64)<i/\i<2 ^ 64)\/(-(2 ^ 64)<j/\j<2 ^ 64)
theorem CMul.ok {i j:Int}(h:CMul i j):IntMulOk i j:=by
 rcases h with ⟨h1,h2⟩|⟨h1,h2⟩
 ·exact .of_left (intBits_le_64 h1 h2)
 ·exact .of_right (intBits_le_64 h1 h2)
theorem op_add:OpR X (binaryOp .Add) (rI0 fun i j=>.int (i+j)):=opI0 fun _ _ _ _ _ _ _ q=>add_int q
theorem op_sub:OpR X (binaryOp .Sub) (rI0 fun i j=>.int (i-j)):=opI0 fun _ _ _ _ _ _ _ q=>sub_int q
theorem op_mod:OpR X (binaryOp .Mod) (rI (fun _ j=>0<j) fun i j=>.int (i%j)):=opI fun i j _ _ _ _ _ hc q=>by
 have h1:(0:Int)<j:=hc
 exact mod_int' (by omega) (by rw[Int.fmod_eq_emod_of_nonneg i (by omega)]; exact q)
theorem op_pow:OpR X (binaryOp .Pow) (rI CPow fun i j=>.int (i ^ j.toNat)):=opI fun _ _ _ _ _ _ _ hc q=>pow_int_small hc.1 hc.2.1 hc.2.2 q
theorem unI {f:Value->Sem Value}{g:Int->Int}
  (rule:∀ (i:Int) (t:Tok) (s:Shared) (Q:Value->Shared->Prop) (E:Value->Shared->Prop),Q (.int (g i) s.toks) { s with toks:=s.toks+1 }->wpAny (model X.prog X.w) X.A (f (.int i t)) Q E s) :
  UnR X f (rU fun i=>.int (g i)):=by
 intro pins s σ H x v Q I rx h
 obtain⟨i,rfl,q⟩:=h
 obtain⟨t,rfl⟩:=rx
 exact rule i t s _ _ ⟨.int (g i),H,I.tok _,⟨_,rfl⟩,q⟩
theorem un_neg:UnR X (unaryOp .USub) (rU fun i=>.int (-i)):=unI fun _ _ _ _ _ q=>neg_int q
end
noncomputable def scal:V->V->Bool
 | .non,.non=>true | .non,.int _=>true | .int _,.non=>true | .non,.bl _=>true | .bl _,.non=>true | .non,.str _=>true | .str _,.non=>true
 | .int _,.int _=>true | .bl _,.bl _=>true | .str _,.str _=>true | .byt _,.byt _=>true
 | .int _,.str _=>true | .str _,.int _=>true | .bl _,.str _=>true | .str _,.bl _=>true
 | _,_=>false
section
variable {X:Cx}{a b c:Expr}{ta tb tc:TE}{pos:Pos}
theorem op_lt:OpR X (compareOp .Lt) (rI0 fun i j=>.bl (decide (i<j))):=opB0 fun _ _ _ _ _ _ _ q=>lt_int q
theorem op_le:OpR X (compareOp .LtE) (rI0 fun i j=>.bl (decide (i<=j))):=opB0 fun _ _ _ _ _ _ _ q=>le_int q
theorem op_gt:OpR X (compareOp .Gt) (rI0 fun i j=>.bl (decide (j<i))):=opB0 fun _ _ _ _ _ _ _ q=>gt_int q
theorem op_ge:OpR X (compareOp .GtE) (rI0 fun i j=>.bl (decide (j<=i))):=opB0 fun _ _ _ _ _ _ _ q=>ge_int q
theorem OpR.or {f:Value->Value->Sem Value}{r r':R2}(h:OpR X f r)(h':OpR X f r'):OpR X f (fun x y H Q=>r x y H Q\/r' x y H Q):=by
 intro pins s σ H x y v u Q I rx ry q
 rcases q with q|q
 ·exact h pins s σ H x y v u Q I rx ry q
 ·exact h' pins s σ H x y v u Q I rx ry q
theorem nomark (b:Expr){op:CmpOp}(h:autoParam (op≠.In) Au.h2._auto_1)(h2:autoParam (op≠.NotIn) Au.h2._auto_1):behindInMarks op b=false:=by
 have e1:(op == CmpOp.In)=false:=by cases op <;>first|rfl|exact absurd rfl h
 have e2:(op == CmpOp.NotIn)=false:=by cases op <;>first|rfl|exact absurd rfl h2
 cases b <;>simp[behindInMarks,e1,e2]
theorem pe_cmpR {op:CmpOp}{r:R2}(ho:OpR X (compareOp op) r)(ha:PE X a ta)(hb:PE X b tb)(hm:behindInMarks op b=false):PE X (.Compare a [op] [b] pos) (tOp r ta tb):=by
 intro pins s σ H Q I h
 exact wpAny_Compare1 (binT ha hb I h fun v u s2 x y H2 I2 rx ry q=>ho pins s2 σ H2 x y v u Q I2 rx ry q) hm
noncomputable def tTest (t:TE):TT:=fun σ H Q=>t σ H fun x H'=>∃ k,x=.bl k/\Q k H'
theorem pt_cmpR {op:CmpOp}{r:R2}(ho:OpR X (compareOp op) r)(ha:PE X a ta)(hb:PE X b tb)(hm:behindInMarks op b=false):PT X (.Compare a [op] [b] pos) (tTest (tOp r ta tb)):=by
 intro pins s σ H Q I h
 refine wpAny_isTrue_Compare1 (thn (ha pins s σ H _ I h) fun v s1 ⟨x,H1,I1,r1,q1⟩=>thn (hb pins s1 σ H1 _ I1 q1) fun u s2 ⟨y,H2,I2,r2,q2⟩ =>
  thn (ho pins s2 σ H2 x y v u _ I2 r1 r2 q2) fun c s3 ⟨z,H3,I3,r3,k,e,q3⟩=>?_) hm
 subst e
 cases r3
 exact wpAny_truthy_bool ⟨H3,I3,q3⟩
theorem line63:(sizeLine:Nat)<2 ^ 63:=by rw[sizeLine_eq]; decide
theorem vals1 {x:V}{us:List Value}(r:Vals [x] us):∃ u,us=[u]/\RelV x u:=by
 cases r with
 | cons r1 r2=>cases r2; exact⟨_,rfl,r1⟩
theorem vals2 {x y:V}{us:List Value}(r:Vals [x,y] us):∃ u w',us=[u,w']/\RelV x u/\RelV y w':=by
 cases r with
 | cons r1 r2 =>
  cases r2 with
  | cons r3 r4=>cases r4; exact⟨_,_,rfl,r1,r3⟩
theorem call_max2 (hc:X.calm=true):CallR X (.builtin "max") (fun xs H Q=>∃ i j,xs=[.int i,.int j]/\Q (.int (if j > i then j else i)) H):=by
 intro pins s σ H xs us Q I r h
 obtain⟨i,j,rfl,q⟩:=h
 obtain⟨u,w',rfl,⟨t,rfl⟩,⟨t',rfl⟩⟩:=vals2 r
 refine max_two_ints (I.ok.hd hc) fun h' tk k=>⟨_,H,I.kept k,?_,q⟩
 by_cases hj:j > i
 ·rw[if_pos hj,if_pos hj]; exact⟨_,rfl⟩
 ·rw[if_neg hj,if_neg hj]; exact⟨_,rfl⟩
theorem call_min2 (hc:X.calm=true):CallR X (.builtin "min") (fun xs H Q=>∃ i j,xs=[.int i,.int j]/\Q (.int (if j<i then j else i)) H):=by
 intro pins s σ H xs us Q I r h
 obtain⟨i,j,rfl,q⟩:=h
 obtain⟨u,w',rfl,⟨t,rfl⟩,⟨t',rfl⟩⟩:=vals2 r
 refine min_two_ints (I.ok.hd hc) fun h' tk k=>⟨_,H,I.kept k,?_,q⟩
 by_cases hj:j<i
 ·rw[if_pos hj,if_pos hj]; exact⟨_,rfl⟩
 ·rw[if_neg hj,if_neg hj]; exact⟨_,rfl⟩
theorem call_int1:CallR X (.type "int") (fun xs H Q=>(∃ i,xs=[.int i]/\Q (.int i) H)\/∃ k,xs=[.bl k]/\Q (.int (if k then 1 else 0)) H):=by
 intro pins s σ H xs us Q I r h
 rcases h with ⟨i,rfl,q⟩|⟨k,rfl,q⟩
 ·obtain⟨u,rfl,t,rfl⟩:=vals1 r
  exact call_int_int ⟨.int i,H,I,⟨_,rfl⟩,q⟩
 ·obtain⟨u,rfl,r1⟩:=vals1 r
  cases r1
  exact call_int_bool ⟨.int (if k then 1 else 0),H,I.tok _,⟨_,rfl⟩,q⟩
end
structure ObjM (h:Heap)(x dx C:Addr)(mA:Str->Option Value):Prop where
 obj:h.get? x=some (PySem.W.instObj C dx)
 ns:h.Ns1 dx mA
 ne:dx≠x
section
variable {prog:Program}{w:World}{A:Around}{E:Value->Shared->Prop}{s:Shared}{K:PySem.W.Frag}{x dx C f:Addr}{mA:Str->Option Value}{name:Str}{v:Value}
end
theorem RelO.some_of {v:V}{o:Option Value}(r:RelO (some v) o):∃ u,o=some u/\RelV v u:=by
 cases o with
 | none=>exact(show False from r).elim
 | some u=>exact⟨u,rfl,r⟩
section
variable {P:Program}{w:World}{H H':Hp}{h h':Heap}{a C dx:Addr}{fs fs':List (Str × V)}
end
structure Cls (K:PySem.W.Frag)(C:Addr):Prop where
 pg:PySem.W.plainGet K C Str.empty=true
 hd:PySem.W.hasDictIn K C=true
 po:PySem.W.plainOver K C=true
 sa:PySem.W.findIn K (.ref C) "__setattr__"=some (some (.builtin "object.__setattr__"))
theorem Cls.get {K:PySem.W.Frag}{C:Addr}(c:Cls K C)(f:Str):PySem.W.plainGet K C f=true:=c.pg
structure Con (K:PySem.W.Frag)(C:Addr)(f:Str)(v:V)(u:Value):Prop where
 at_:PySem.W.findIn K (.ref C) f=some (some u)
 rel:RelV v u
 get:PySem.W.specialIn K u "__get__"=some none
 cp:PySem.W.copiedNames.contains f=false
structure Meth (K:PySem.W.Frag)(C:Addr)(m:Str)(f:Addr):Prop where
 at_:PySem.W.findIn K (.ref C) m=some (some (.ref f))
 fn:PySem.W.isFn K (.ref f)=true
 kp:PySem.W.keepIn K (.ref f)=true
section
variable {X:Cx}{pins:List (Addr × Obj)}{σ:St}{H:Hp}{s:Shared}{a C dx:Addr}{fs:List (Str × V)}{f:Str}{v:V}{A:Around}{E:Value->Shared->Prop}
end
section
variable {X:Cx}{o e value:Expr}{f:Str}{pos pos' tpos:Pos}{ta tv:TE}
end
section
variable {X:Cx}{pins:List (Addr × Obj)}{σ:St}{H:Hp}{s:Shared}{A:Around}{E:Value->Shared->Prop}{Q:Value->Shared->Prop}{c:Value}{b:Bool}
inductive TyOf (K:PySem.W.Frag)(H:Hp):V->Value->Prop where
 | non:TyOf K H .non (.type "NoneType")
 | bl (x:Bool):TyOf K H (.bl x) (.type "bool")
 | int (i:Int):TyOf K H (.int i) (.type "int")
 | str (x:Str):TyOf K H (.str x) (.type "str")
 | flt (x:UInt64):TyOf K H (.flt x) (.type "float")
 | lst {a:Addr} {xs:List V} (e:H a=some (.lst xs)):TyOf K H (.ref a) (.type "list")
 | frz {a:Addr} {o:Obj} {xs:List V} (e:H a=some (.frz o (.lst xs))):TyOf K H (.ref a) (.type "list")
 | tup {a:Addr} {xs:List V} (e:H a=some (.tup xs)):TyOf K H (.ref a) (.type "tuple")
 | dK {a:Addr} {kvs:List (Key × V)} (e:H a=some (.dK kvs)):TyOf K H (.ref a) (.type "dict")
 | dT {a:Addr} {kvs:List (List Key × V)} (e:H a=some (.dT kvs)):TyOf K H (.ref a) (.type "dict")
 | ins {a C dx:Addr} {fs:List (Str × V)} (e:H a=some (.ins C dx fs)) (cl:Cls K C) (ha:PySem.W.findIn K (.ref C) "__class__"=some (some (.builtin "object.__class__")))
   (hn:PySem.W.specialIn K (.builtin "object.__class__") "__get__"=some (some (.builtin "getset_descriptor.__get__"))) (htk:PySem.W.takesIn K (.builtin "object.__class__")=some true)
   (hm:PySem.W.mroIn K C (.type "object")=some true):TyOf K H (.ref a) (.ref C)
end
structure Room (k:Nat)(A:Around):Prop where
 hd:A.handled=none
 dp:A.depth+3*k+5<recursionLimit
 un:A.units+16*k+200<cLine
theorem Room.mono {j k:Nat}{A:Around}(r:Room k A)(h:j<=k):Room j A:=⟨r.hd,by have:=r.dp; omega,by have:=r.un; omega⟩
theorem Room.deeper {k:Nat}{A:Around}(r:Room (k+1) A)(env:Env):Room k (A.deeper env) :=
 ⟨r.hd,by have:=r.dp; show A.depth+1+3*k+5<_; omega,by have:=r.un; show A.units+3+16*k+200<_; omega⟩
theorem Room.depth {k:Nat}{A:Around}(r:Room k A):A.depth<recursionLimit:=by have:=r.dp; omega
theorem Room.units {k:Nat}{A:Around}(r:Room k A):A.units+64<cLine:=by have:=r.un; omega
noncomputable def tNil:TA:=fun _ H Q=>Q [] H
noncomputable def tCons (ta:TE)(tr:TA):TA:=fun σ H Q=>ta σ H fun x H1=>tr σ H1 fun xs H2=>Q (x::xs) H2
section
variable {X:Cx}{e:Expr}{es:List Expr}{te:TE}{t:TA}{pos:Pos}
theorem pa_nil:PA X [] tNil:=fun _ _ _ _ H Q I h=>Calls.spliced_nil ⟨[],H,I,.nil,h⟩
theorem pa_cons (ha:PE X e te)(hr:PA X es t)(hs:autoParam (starEach (e::es) X.env=(false,eval e X.env)::starEach es X.env) Au.h4._auto_1):PA X (e::es) (tCons te t):=by
 intro pos pins s σ H Q I h
 rw[hs]
 show wpAny _ _ (spliced ((false,eval e X.env)::backTo pos (starEach es X.env))) _ _ s
 refine Calls.spliced_cons (thn (ha pins s σ H _ I h) fun u s1 ⟨x,H1,I1,r1,q1⟩=>?_)
 exact thn (hr pos pins s1 σ H1 _ I1 q1) fun us s2 ⟨xs,H2,I2,r2,q2⟩=>⟨x::xs,H2,I2,.cons r1 r2,q2⟩
noncomputable def tTup (t:TA):TE:=fun σ H Q=>t σ H fun xs H1=>xs.length<=sizeLine/\∀ p,H1 p=none->Q (.ref p) (upd H1 p (.tup xs))
noncomputable def tLst (t:TA):TE:=fun σ H Q=>t σ H fun xs H1=>xs.length<=sizeLine/\∀ p,H1 p=none->Q (.ref p) (upd H1 p (.lst xs))
theorem pe_tup {x1}(h:PA X es t):PE X (.Tuple es x1 pos) (tTup t):=by
 intro pins s σ H Q I hq
 refine wpAny_Tuple_spliced (thn (h pos pins s σ H _ I hq) fun us s1 ⟨xs,H1,I1,r,z,q⟩=>⟨by rw[<- r.length]; exact z,?_⟩)
 have hf:H1 s1.heap.objs.size=none:=I1.hok.fresh (Nat.le_refl _)
 refine⟨.ref s1.heap.objs.size,upd H1 s1.heap.objs.size (.tup xs),I1.laid (t':=s1.toks) (fun b u e=>Heap.get?_push_of_some _ e) (Nat.le_refl _) ?_,rfl,q _ hf⟩
 exact⟨z,us,r,⟨_,Heap.get?_push_size _ rfl,rfl,_,rfl⟩⟩
theorem pe_lst (h:PA X es t):PE X (.List es pos) (tLst t):=by
 intro pins s σ H Q I hq
 refine wpAny_List_spliced (thn (h pos pins s σ H _ I hq) fun us s1 ⟨xs,H1,I1,r,z,q⟩=>⟨by rw[<- r.length]; exact z,?_⟩)
 have hf:H1 s1.heap.objs.size=none:=I1.hok.fresh (Nat.le_refl _)
 refine⟨.ref s1.heap.objs.size,upd H1 s1.heap.objs.size (.lst xs),I1.laid (t':=s1.toks) (fun b u e=>Heap.get?_push_of_some _ e) (Nat.le_refl _) ?_,rfl,q _ hf⟩
 exact⟨z,us,0,r,Heap.get?_push_size _ rfl⟩
end
noncomputable abbrev Sp:=List V->Hp->VK->XK->Prop
noncomputable abbrev CXT:=List Env->Hp->Shared->XK->Value->Shared->Prop
structure Env0 (P:Program)(w:World)(K:PySem.W.Frag)(mg:Str->Option Value)(base:Heap)(A:Around)(outer:List Env)(s:Shared)(H:Hp):Prop where
 frames:A.frames=some outer
 mod:Mod K mg base
 bs:∀ b o,base.get? b=some o->s.heap.get? b=some o/\H b=none
 bsz:base.objs.size<=s.heap.objs.size
 funs:s.heap.FunFrames base outer
 frf:∀ b∈frs outer,H b=none
 hok:HOk P w H s.heap
 bare:AllBare s.gens
noncomputable def CE (outer:List Env)(P:Program)(w:World)(H:Hp)(s:Shared)(Q:VK)(u:Value)(s':Shared):Prop :=
 ∃ v H',s'.os=s.os/\AllBare s'.gens/\Un (frs outer) [] H H' s.heap s'.heap/\HOk P w H' s'.heap/\RelV v u/\Q v H'
noncomputable def CR (CX:CXT)(outer:List Env)(P:Program)(w:World)(H:Hp)(s:Shared)(Q:VK)(E:XK)(r:Result)(s':Shared):Prop :=
 match r with
 | .ok (.ret u)=>CE outer P w H s Q u s'
 | .ok _=>False
 | .error e=>CX outer H s E e s'
structure FnOk (P:Program)(w:World)(K:PySem.W.Frag)(mg:Str->Option Value)(base:Heap)(CX:CXT)(k:Nat)(f:Addr)(fd:FuncData)(ps:List Str)(sp:Sp):Prop where
 len:∀ vs H Q E,sp vs H Q E->vs.length=ps.length
 run:∀ (A:Around) (outer:List Env) (s:Shared) (H:Hp) (args:Args) (us:List Value) (vs:List V) (Q:VK) (E:XK),Room k A->Env0 P w K mg base A outer s H->BindsTo s fd args (ps.zip us)->Vals vs us->sp vs H Q E ->
  codeAny (model P w) A (.call (.ref f) args) (CR CX outer P w H s Q E) s
theorem FnOk.mono {P:Program}{w:World}{K:PySem.W.Frag}{mg:Str->Option Value}{base:Heap}{CX:CXT}{j k:Nat}{f:Addr}{fd:FuncData}{ps:List Str}{sp:Sp}(F:FnOk P w K mg base CX j f fd ps sp)(h:j<=k) :
  FnOk P w K mg base CX k f fd ps sp:=⟨F.len,fun A outer s H args us vs Q E hr=>F.run A outer s H args us vs Q E (hr.mono h)⟩
section
variable {X:Cx}{pins:List (Addr × Obj)}{σ:St}{H:Hp}{s s':Shared}
theorem Inv.env0 (I:Inv X pins σ H s):Env0 X.prog X.w X.K X.mg X.base X.A X.stack s H :=
 ⟨I.ok.frames,I.ok.mod,I.bs,Nat.le_trans I.ok.bsz I.sz,I.stack,I.stkFree,I.hok,I.bare⟩
theorem Inv.after {Q:VK}{u:Value}(I:Inv X pins σ H s)(h:CE X.stack X.prog X.w H s Q u s'):EP X pins σ Q u s':=by
 obtain⟨v,H',os,bare,un,hok,r,q⟩:=h
 obtain⟨hh,g,d,t,os'⟩:=s'
 obtain rfl:os'=s.os:=os
 exact⟨v,H',I.call (h':=hh) (g':=g) (d':=d) (t':=t) (ch:=[]) un hok bare (fun b z=>absurd z (by simp)),r,q⟩
end
noncomputable def Binds (K:PySem.W.Frag)(fd:FuncData)(ps:List Str)(ds:List Value):Prop :=
 ∀ (s:Shared) (us:List Value),K.In s.heap->(us++ds).length=ps.length->BindsTo s fd ⟨us,[]⟩ (ps.zip (us++ds))
theorem Binds.all {K:PySem.W.Frag}{fd:FuncData}{ps:List Str}(h:∀ us:List Value,us.length=ps.length->bindArgs fd ⟨us,[]⟩=pure (ps.zip us)):Binds K fd ps []:=fun s us _ hl=>by
 rw[List.append_nil] at hl ⊢
 exact .of_eq (h us hl)
section
variable {X:Cx}{CX:CXT}{k:Nat}{f C:Addr}{fd:FuncData}{ps:List Str}{sp:Sp}{dvs:List V}{ds:List Value}{E:XK}{x m:Str}{p pos apos:Pos}{e o:Expr}{es:List Expr}{ta:TE}{t:TA}
structure Mk (K:PySem.W.Frag)(C f:Addr):Prop where
 makes:PySem.W.makesIn K C=true
 init:PySem.W.findIn K (.ref C) "__init__"=some (some (.ref f))
 fn:PySem.W.isFn K (.ref f)=true
 kp:PySem.W.keepIn K (.ref C)=true
end
section
variable {X:Cx}{CX:CXT}{k:Nat}{f C:Addr}{fd:FuncData}{ps ks:List Str}{sp:Sp}{E:XK}{x m:Str}{p pos apos kpos:Pos}{e o:Expr}{es:List Expr}{kws:List Keyword}{te ta:TE}{t tk:TA}{nm:Option Str}
structure KBinds (K:PySem.W.Frag)(fd:FuncData)(ps ks:List Str)(g:List Value->List Value->List Value)(gV:List V->List V->List V):Prop where
 to:∀ (s:Shared) (us ws:List Value),K.In s.heap->(g us ws).length=ps.length->BindsTo s fd ⟨us,ks.zip ws⟩ (ps.zip (g us ws))
 rel:∀ {vs:List V} {us:List Value} {zs:List V} {ws:List Value},Vals vs us->Vals zs ws->Vals (gV vs zs) (g us ws)
variable {g:List Value->List Value->List Value}{gV:List V->List V->List V}
end
structure FnScope (N P:List Str)(sc:Scope):Prop where
 kind:sc.kind=.function
 co:sc.isCoroutine=false
 gen:sc.isGenerator=false
 nd:N.Nodup
 pre:N.take P.length=P
 par:∀ x∈P,sc.names.lookup x=some .local\/sc.names.lookup x=some .cell
 nofree:∀ y∈sc.names,y.2≠.free
theorem bindL_out {kindOf:Str->Option NameKind}{x:Str}:∀ {binds:List (Str × Value)} {m:Str->Option Value},(∀ v,(x,v)∉binds)->bindL kindOf binds m x=m x
 | [],_,_=>rfl
 | (n,v)::r,m,h=>by
  unfold bindL
  rw[bindL_out fun w hw=>h w (List.mem_cons_of_mem _ hw)]
  split
  ·have:x≠n:=by rintro rfl; exact h v List.mem_cons_self
   simp[this]
  ·rfl
theorem bindC_out {kindOf:Str->Option NameKind}{x:Str}:∀ {binds:List (Str × Value)} {m:Str->Option Value},(∀ v,(x,v)∉binds)->bindC kindOf binds m x=m x
 | [],_,_=>rfl
 | (n,v)::r,m,h=>by
  unfold bindC
  rw[bindC_out fun w hw=>h w (List.mem_cons_of_mem _ hw)]
  split
  ·rfl
  ·have:x≠n:=by rintro rfl; exact h v List.mem_cons_self
   simp[this]
theorem bindL_get {kindOf:Str->Option NameKind}{x:Str}{v:Value}:∀ {P:List Str} {vs:List Value} {i:Nat} {m:Str->Option Value},P.Nodup->P[i]?=some x->vs[i]?=some v->kindOf x=some .local ->
  bindL kindOf (P.zip vs) m x=some v
 | [],_,_,_,_,h,_,_=>by simp at h
 | _::_,[],_,_,_,_,h,_=>by simp at h
 | p::P,w::vs,0,m,nd,h1,h2,hk=>by
  simp at h1 h2; subst h1; subst h2
  show bindL kindOf ((p,w)::P.zip vs) m p=_
  unfold bindL
  rw[bindL_out fun v hv=>(List.nodup_cons.mp nd).1 (List.of_mem_zip hv).1,if_pos hk]
  simp
 | p::P,w::vs,i+1,m,nd,h1,h2,hk=>by
  show bindL kindOf ((p,w)::P.zip vs) m x=_
  unfold bindL
  exact bindL_get (i:=i) (List.nodup_cons.mp nd).2 (by simpa using h1) (by simpa using h2) hk
theorem bindC_get {kindOf:Str->Option NameKind}{x:Str}{v:Value}:∀ {P:List Str} {vs:List Value} {i:Nat} {m:Str->Option Value},P.Nodup->P[i]?=some x->vs[i]?=some v->kindOf x≠some .local ->
  bindC kindOf (P.zip vs) m x=some v
 | [],_,_,_,_,h,_,_=>by simp at h
 | _::_,[],_,_,_,_,h,_=>by simp at h
 | p::P,w::vs,0,m,nd,h1,h2,hk=>by
  simp at h1 h2; subst h1; subst h2
  show bindC kindOf ((p,w)::P.zip vs) m p=_
  unfold bindC
  rw[bindC_out fun v hv=>(List.nodup_cons.mp nd).1 (List.of_mem_zip hv).1,if_neg hk]
  simp
 | p::P,w::vs,i+1,m,nd,h1,h2,hk=>by
  show bindC kindOf ((p,w)::P.zip vs) m x=_
  unfold bindC
  exact bindC_get (i:=i) (List.nodup_cons.mp nd).2 (by simpa using h1) (by simpa using h2) hk
noncomputable def start (N:List Str)(vs:List V):St:=vs.map some++List.replicate (N.length-vs.length) none
noncomputable def cxOf (CX:CXT)(P:Program)(w:World)(K:PySem.W.Frag)(mg:Str->Option Value)(base:Heap)(N:List Str)(qual:Str)(scope:Scope)(f:Addr)(cd:Value)(A:Around)(outer:List Env)(s:Shared)(H:Hp)(E:XK):Cx where
 prog:=P
 w:=w
 K:=K
 mg:=mg
 base:=base
 A:=A.deeper (envOfC qual scope s.heap.objs.size f cd)
 N:=N
 s₀:=s
 H₀:=H
 env:=envOfC qual scope s.heap.objs.size f cd
 outer:=outer
 stack:=envOfC qual scope s.heap.objs.size f cd::outer
 ex:=[]
 calm:=true
 fn:=fun _=>true
 pn:=[]
 xe:=fun e s'=>wpAny (model P w) (A.deeper (envOfC qual scope s.heap.objs.size f cd)) (leaving (envOfC qual scope s.heap.objs.size f cd) e) (fun _ s''=>CX outer H s E e s'') (fun e' s''=>CX outer H s E e' s'') s'
theorem cell_has {sc:Scope}{n:Nat}{x:Str}(h:sc.names.lookup x=some .cell):∃ c,(cellsFrom n sc.names []).lookup x=some c:=by
 have q:=PySem.W.cellsFrom_some sc.names n [] (.inl h)
 exact Option.isSome_iff_exists.mp q
theorem inv_start {CX:CXT}{P:Program}{w:World}{K:PySem.W.Frag}{mg:Str->Option Value}{base:Heap}{N ps:List Str}{qual:Str}{scope:Scope}{f:Addr}{cd:Value}{A:Around}{outer:List Env}{s s1:Shared}{H:Hp}{E:XK}{us:List Value}{vs:List V}
  (S:FnScope N ps scope) (hd:A.handled=none) (e0:Env0 P w K mg base A outer s H) (hl:vs.length=ps.length) (r:Vals vs us)
  (x:InCallC s s.heap.objs.size (bindL (envOfC qual scope s.heap.objs.size f cd).kindOf (ps.zip us) fun _=>none) (cellsFrom (s.heap.objs.size+1) scope.names []) (bindC (envOfC qual scope s.heap.objs.size f cd).kindOf (ps.zip us) fun _=>none) s1) :
  Inv (cxOf CX P w K mg base N qual scope f cd A outer s H E) [] (start N vs) H s1:=by
 have hpl:ps.length<=N.length:=by have:=congrArg List.length S.pre; rw[List.length_take] at this; omega
 obtain⟨h1,tk,rfl,hk⟩:=x.done
 have noA:∀ b:Addr,b∉(cxOf CX P w K mg base N qual scope f cd A outer s H E).ex:=fun b z=>absurd (show b∈([]:List Addr) from z) (by simp)
 refine⟨⟨e0.mod,S.kind,rfl,rfl,Nat.le_refl _,fun y z c h1 h2=>?_,fun y hy=>?_,fun y c _ h=>?_,fun _=>hd,Around.frames_deeper e0.frames,.inr ⟨rfl,rfl⟩,fun b z=>absurd z (noA b),e0.bs,e0.bsz,fun b _ _=>noA b,fun b z=>absurd z (noA b),e0.funs,e0.frf⟩,
  rfl,e0.bare,Un.kept hk,⟨_,x.toInCall.ns,fun i y v h1 h2 h3=>?_⟩,fun y c h=>⟨_,x.cell y c h⟩,e0.hok.fresh (Nat.le_refl _),fun y c h=>?_,fun p hp=>absurd (show p∈([]:List (Addr × Obj)) from hp) (by simp),e0.hok.kept hk,?_⟩
 ·exact name_of_addr x.apart (PySem.mem_of_lookup h1) (PySem.mem_of_lookup h2)
 ·have hy:scope.names.lookup y=some .cell\/scope.names.lookup y=some .free:=hy
  rcases hy with hy|hy
  ·exact cell_has hy
  ·exact absurd rfl (S.nofree _ (PySem.mem_of_lookup hy))
 ·exact Nat.le_of_lt (x.above y c (PySem.mem_of_lookup h))
 ·have hi:i<vs.length:=by
   unfold start at h2
   by_cases hi:i<vs.length
   ·exact hi
   ·rw[List.getElem?_append_right (by simpa using hi)] at h2
    rw[List.getElem?_replicate] at h2
    split at h2 <;>cases h2
  have ha:vs[i]?=some v:=by
   unfold start at h2
   rw[List.getElem?_append_left (by simpa using hi),List.getElem?_map] at h2
   cases e:vs[i]? with
   | none=>rw[e] at h2; cases h2
   | some a=>rw[e] at h2; cases h2; rfl
  obtain⟨u,hu,rv⟩:=r.get ha
  have hp:ps[i]?=some y:=by
   rw[<- S.pre,List.getElem?_take_of_lt (by omega)]; exact h1
  have ndP:ps.Nodup:=by rw[<- S.pre]; exact S.nd.sublist (List.take_sublist _ _)
  refine⟨u,rv,?_⟩
  rcases S.par y (List.mem_of_getElem? hp) with k|k
  ·exact .inl ⟨k,bindL_get ndP hp hu k⟩
  ·obtain⟨c,e⟩:=cell_has (n:=s.heap.objs.size+1) k
   refine .inr ⟨.inl k,c,e,?_⟩
   have q:=x.cell y c e
   rw[bindC_get ndP hp hu (by show scope.names.lookup y≠_; rw[k]; decide)] at q
   exact q
 ·exact e0.hok.fresh (Nat.le_of_lt (x.above y c (PySem.mem_of_lookup h)))
 ·unfold start
  show _=N.length
  rw[List.length_append,List.length_map,List.length_replicate]
  omega
theorem fn_of {CX:CXT}{P:Program}{w:World}{K:PySem.W.Frag}{mg:Str->Option Value}{base:Heap}{k:Nat}{f:Addr}{name qual:Str}{params:Arguments}{body:List Stmt}{scope:Scope}{dV kV doc pm cdv ct oc:Value}{an od:Option Addr}
  {osl:Array (Option Value)} {N ps:List Str} {sp:Sp} (lk:K.lookup f=some ⟨oc,od,.func (PySem.W.fnOf name qual params body scope dV kV doc pm an cdv ct),osl⟩) (hcd:PySem.W.codeIn K cdv qual=true) (S:FnScope N ps scope)
  (len:∀ vs H Q E,sp vs H Q E->vs.length=ps.length)
  (hbody:∀ (A:Around) (outer:List Env) (s:Shared) (H:Hp) (vs:List V) (Q:VK) (E:XK),Room k (A.deeper (envOfC qual scope s.heap.objs.size f cdv))->sp vs H Q E ->
   ∃ t,PSs (cxOf CX P w K mg base N qual scope f cdv A outer s H E) body t/\t { nx:=fun _ H'=>Q .non H',rt:=Q } (start N vs) H) :
  FnOk P w K mg base CX (k+1) f (PySem.W.fnOf name qual params body scope dV kV doc pm an cdv ct) ps sp:=by
 refine⟨len,fun A outer s H args us vs Q E hr e0 hb r hsp=>?_⟩
 have hl:=len _ _ _ _ hsp
 have KX:K.In s.heap:=e0.mod.kin.keeps fun b o e=>(e0.bs b o e).1
 have lim:s.heap.NoLimit:=e0.mod.nolimit.keeps fun b o e=>(e0.bs b o e).1
 have hkind:∀ y∈ps.zip us,scope.names.lookup y.1=some .local\/(scope.names.lookup y.1=some .cell/\((cellsFrom (s.heap.objs.size+1) scope.names []).lookup y.1).isSome=true):=fun ⟨n,v⟩ hy=>by
  rcases S.par n (List.of_mem_zip hy).1 with q|q
  ·exact .inl q
  ·exact .inr ⟨q,PySem.W.cellsFrom_some _ _ _ (.inl q)⟩
 refine codeAny_call_function hr.depth (KX _ _ lk) rfl S.co S.gen rfl (PySem.W.codeRec_of KX hcd) (hb _ _ _ _ ?_)
 refine wpAny_newFunctionEnv_cells S.kind hkind fun env he s1 x=>?_
 subst he
 refine⟨lim.keeps x.toInCall.keep,codeAny_func ?_⟩
 obtain⟨t,ht,hq⟩:=hbody A outer s H vs Q E (hr.deeper _) hsp
 have I:Inv (cxOf CX P w K mg base N qual scope f cdv A outer s H E) [] (start N vs) H s1:=inv_start S hr.hd e0 hl r x
 refine wpAny_mono (ht [] s1 (start N vs) H _ I hq) (fun fl s' hs=>?_) fun e s' hs=>hs
 have fin:∀ {σ':St} {H':Hp} {v:V} {u:Value},Inv (cxOf CX P w K mg base N qual scope f cdv A outer s H E) [] σ' H' s'->RelV v u->Q v H'->CE outer P w H s Q u s' :=
  fun {σ' H' v u} J rv q=>⟨v,H',J.os,J.bare,J.base,J.hok,rv,q⟩
 cases fl with
 | ret u =>
  obtain⟨v,σ',H',J,rv,q⟩:=hs
  exact fin J rv q
 | next =>
  obtain⟨σ',H',J,q⟩:=hs
  exact fin (v:=V.non) (u:=Value.none) J rfl q
 | brk =>
  obtain⟨_,_,_,q⟩:=hs
  exact False.elim q
 | cont =>
  obtain⟨_,_,_,q⟩:=hs
  exact False.elim q
section
variable {X:Cx}{x:Str}{p pos:Pos}{e:Expr}{es:List Expr}{t:TA}{id T:String}{r:List V->Hp->VK->Prop}
noncomputable def tCB (r:List V->Hp->VK->Prop)(t:TA):TE:=fun σ H Q=>t σ H fun vs H1=>r vs H1 Q
theorem pe_callB (hc:CallR X (.builtin id) r)(hg:Gl X x)(hm:X.mg x=none)(hv:bootBuiltins x=some (.builtin id))(ha:PA X (e::es) t)(hn:autoParam (x≠"__name__") Au.h2._auto_1)(hdb:autoParam ((x == ("__debug__":Str))=false) Au.h2._auto_1)
  (he:autoParam (starEach (e::es) X.env=(false,eval e X.env)::starEach es X.env) Au.h4._auto_1) (hpl:autoParam ((backTo pos (starEach es X.env)).any (·.1)=false) Au.h4._auto_1):PE X (.Call (.Name x p) (e::es) [] pos) (tCB r t):=by
 intro pins s σ H Q I h
 refine wpAny_Call_Name_kw (ld_blt I hg hm hv ?_ hn hdb)
 exact PyProof.Rows.callWith_builtin1 (thn (ha pos pins s σ H _ I h) fun us s1 ⟨vs,H1,I1,r1,q1⟩=>hc pins s1 σ H1 vs us Q I1 r1 q1) he hpl
theorem pe_callTy (hc:CallR X (.type T) r)(hg:Gl X x)(hm:X.mg x=none)(hv:bootBuiltins x=some (.type T))(ha:PA X (e::es) t)(hn:autoParam (x≠"__name__") Au.h2._auto_1)(hdb:autoParam ((x == ("__debug__":Str))=false) Au.h2._auto_1)
  (he:autoParam (starEach (e::es) X.env=(false,eval e X.env)::starEach es X.env) Au.h4._auto_1) (hpl:autoParam ((backTo pos (starEach es X.env)).any (·.1)=false) Au.h4._auto_1):PE X (.Call (.Name x p) (e::es) [] pos) (tCB r t):=by
 intro pins s σ H Q I h
 refine wpAny_Call_Name_kw (ld_blt I hg hm hv ?_ hn hdb)
 exact PyProof.Rows.callWith_type1 (thn (ha pos pins s σ H _ I h) fun us s1 ⟨vs,H1,I1,r1,q1⟩=>hc pins s1 σ H1 vs us Q I1 r1 q1) he hpl
end
end L2
namespace HT
open PySem PyProof.Rows
noncomputable def lexLt:List Int->List Int->Bool
 | [],[]=>false
 | [],_::_=>true
 | _::_,[]=>false
 | x::xs,y::ys=>if x=y then lexLt xs ys else decide (x<y)
section
open PySem.SeqAt
open PySem.AutoSeq1 (wpAny_loadPart')
open PySem.MeetsSeq PySem.MeetsSeq2 PySem.MeetsSeq3
end
section
variable {prog:Program}{w:World}{A:Around}{E:Value->Shared->Prop}{s:Shared}
noncomputable def sIx (n d:Nat):Option Int->Nat
 | none=>d
 | some v=>if v<0 then (v+(n:Int)).toNat else min v.toNat n
end
end HT
namespace L2
open PySem PySem.Spec PyProof.Rows
noncomputable abbrev TO:=St->Hp->(Option Int->Hp->Prop)->Prop
noncomputable def PO (X:Cx)(e:Option Expr)(t:TO):Prop :=
 ∀ (pins:List (Addr × Obj)) (s:Shared) (σ:St) (H:Hp) (Q:Option Int->Hp->Prop),Inv X pins σ H s->t σ H Q ->
  wpAny (model X.prog X.w) X.A (evalPart e X.env) (fun u s'=>∃ o H',Inv X pins σ H' s'/\IsPart u o/\Q o H') X.xe s
noncomputable def tNoPart:TO:=fun _ H Q=>Q none H
noncomputable def tPart (t:TE):TO:=fun σ H Q=>t σ H fun x H1=>∃ i,x=.int i/\Q (some i) H1
theorem intsAre_of {ns:List Int}:∀ {us:List Value},Vals (ns.map V.int) us->IntsAre us ns:=by
 induction ns with
 | nil=>intro us r; rw[List.map_nil] at r; cases r; exact .nil
 | cons n ns ih =>
  intro us r
  rw[List.map_cons] at r
  cases r with
  | cons r1 r2 =>
   obtain⟨t,e⟩:=r1
   subst e
   exact .cons n t (ih r2)
section
variable {X:Cx}{e:Expr}{te:TE}{lo hi:Option Expr}{tl th:TO}{pos p2:Pos}
theorem po_none:PO X none tNoPart:=by
 intro pins s σ H Q I h
 rw[evalPart_none]
 exact wpAny_pure ⟨none,H,I,.none,h⟩
theorem po_some (h:PE X e te):PO X (some e) (tPart te):=by
 intro pins s σ H Q I hw
 rw[evalPart_some]
 refine thn (h pins s σ H _ I hw) fun u s1 ⟨x,H1,I1,r1,q1⟩=>?_
 obtain⟨i,rfl,q⟩:=q1
 obtain⟨t,rfl⟩:=r1
 exact⟨some i,H1,I1,.int i t,q⟩
noncomputable def SlR (X:Cx)(r:V->Option Int->Option Int->Hp->VK->Prop):Prop :=
 ∀ (pins:List (Addr × Obj)) (s:Shared) (σ:St) (H:Hp) (x:V) (v vl vu:Value) (lo hi:Option Int) (sl:Addr) (Q:VK),Inv X pins σ H s->RelV x v->s.heap.IsSliceOf sl vl vu .none->IsPart vl lo->IsPart vu hi->r x lo hi H Q ->
  ∃ T id,typeLookup (.type T) "__getitem__"=pure (some (.builtin id))/\s.TypeIs v T/\wpAny (model X.prog X.w) X.A (getItem v (.ref sl)) (EP X pins σ Q) X.xe s
noncomputable def tSl (r:V->Option Int->Option Int->Hp->VK->Prop)(te:TE)(tl th:TO):TE:=fun σ H Q=>te σ H fun x H1=>tl σ H1 fun l H2=>th σ H2 fun u H3=>r x l u H3 Q
theorem pe_slice {r:V->Option Int->Option Int->Hp->VK->Prop}(hr:SlR X r)(he:PE X e te)(hl:PO X lo tl)(hu:PO X hi th):PE X (.Subscript e (.Slice lo hi none p2) pos) (tSl r te tl th):=by
 intro pins s σ H Q I h
 refine Subscript_ (thn (he pins s σ H _ I h) fun v s1 ⟨x,H1,I1,r1,q1⟩=>?_)
 refine wpAny_Slice (thn (hl pins s1 σ H1 _ I1 q1) fun vl s2 ⟨l,H2,I2,pl,q2⟩=>thn (hu pins s2 σ H2 _ I2 q2) fun vu s3 ⟨u,H3,I3,pu,q3⟩=>?_)
 rw[evalPart_none]
 refine wpAny_pure ?_
 have I4:Inv X pins σ H3 { s3 with heap:=s3.heap.push { cls:=.type "slice",data:=.fields #[vl,vu,.none] } }:=I3.kept (t':=s3.toks) fun b ob q=>Heap.get?_push_of_some _ q
 obtain⟨T,id,hT,ht,hg⟩:=hr pins { s3 with heap:=s3.heap.push { cls:=.type "slice",data:=.fields #[vl,vu,.none] } } σ H3 x v vl vu l u s3.heap.objs.size Q I4 r1 (Heap.IsSliceOf.new ..) pl pu q3
 show wpAny (model X.prog X.w) X.A (subscriptTail e (.Slice lo hi none p2) v (.ref s3.heap.objs.size)) (EP X pins σ Q) X.xe { s3 with heap:=s3.heap.push { cls:=.type "slice",data:=.fields #[vl,vu,.none] } }
 exact tail_any (ops:=[.ref s3.heap.objs.size,v]) ht hT hg (by with_unfolding_all rfl)
noncomputable def cutV (xs:List V)(lo hi:Option Int):List V:=(xs.drop (HT.sIx xs.length 0 lo)).take (HT.sIx xs.length xs.length hi-HT.sIx xs.length 0 lo)
theorem cutV_length (xs:List V)(lo hi:Option Int):(cutV xs lo hi).length<=xs.length:=by
 unfold cutV
 rw[List.length_take,List.length_drop]
 omega
end
noncomputable def ixN (n:Nat)(i:Int):Option Nat:=if 0<=i then (if i<n then some i.toNat else none) else if -(n:Int)<=i then some (i+n).toNat else none
noncomputable def atI {α:Type}(xs:List α)(i:Int):Option α:=(ixN xs.length i).bind fun j=>xs[j]?
theorem ixN_seq {n:Nat}{i:Int}{j:Nat}(h:ixN n i=some j):seqIndex? i n=some j/\j<n/\-(n:Int)<=i/\i<n:=by
 unfold ixN at h
 by_cases h0:0<=i
 ·rw[if_pos h0] at h
  by_cases h1:i<n
  ·rw[if_pos h1] at h
   have e:i.toNat=j:=Option.some.inj h
   exact⟨by rw[seqIndex_of h0 h1,e],by omega,by omega,h1⟩
  ·rw[if_neg h1] at h; cases h
 ·rw[if_neg h0] at h
  by_cases h1:-(n:Int)<=i
  ·rw[if_pos h1] at h
   have e:(i+n).toNat=j:=Option.some.inj h
   exact⟨by rw[seqIndex_neg (by omega) h1,e],by omega,h1,by omega⟩
  ·rw[if_neg h1] at h; cases h
theorem atI_get {α:Type}{xs:List α}{i:Int}{v:α}(h:atI xs i=some v):∃ j,seqIndex? i xs.length=some j/\xs[j]?=some v/\j<xs.length/\-(xs.length:Int)<=i/\i<xs.length:=by
 unfold atI at h
 cases e:ixN xs.length i with
 | none=>rw[e] at h; cases h
 | some j =>
  rw[e] at h
  obtain⟨h1,h2,h3,h4⟩:=ixN_seq e
  exact⟨j,h1,h,h2,h3,h4⟩
noncomputable def PlainIx (b:Expr):Prop:=∀ o i,subscripted b false o i=operate [o,i] (getItem o i)
noncomputable def IxR (X:Cx)(r:R2):Prop :=
 ∀ (value slice:Expr) (pins:List (Addr × Obj)) (s:Shared) (σ:St) (H:Hp) (x y:V) (v u:Value) (Q:VK),Inv X pins σ H s->RelV x v->RelV y u->r x y H Q ->
  subscripted slice false v u=operate [v,u] (getItem v u)->wpAny (model X.prog X.w) X.A (subscriptTail value slice v u) (EP X pins σ Q) X.xe s
noncomputable def MtR (X:Cx)(id:String)(r:V->List V->Hp->VK->Prop):Prop :=
 ∀ (pins:List (Addr × Obj)) (s:Shared) (σ:St) (H:Hp) (x:V) (xs:List V) (v:Value) (us:List Value) (Q:VK),Inv X pins σ H s->RelV x v->Vals xs us->r x xs H Q ->
  wpAny (model X.prog X.w) X.A (call (.builtin id) (v::us)) (EP X pins σ Q) X.xe s
section
variable {X:Cx}{a b:Expr}{ta tb:TE}{pos:Pos}
theorem IxR.or {r r':R2}(h:IxR X r)(h':IxR X r'):IxR X (fun x y H Q=>r x y H Q\/r' x y H Q):=by
 intro value slice pins s σ H x y v u Q I rx ry q hs
 rcases q with q|q
 ·exact h value slice pins s σ H x y v u Q I rx ry q hs
 ·exact h' value slice pins s σ H x y v u Q I rx ry q hs
theorem pe_ix {r:R2}(hr:IxR X r)(ha:PE X a ta)(hb:PE X b tb)(hs:PlainIx b):PE X (.Subscript a b pos) (tOp r ta tb):=by
 intro pins s σ H Q I h
 exact Subscript_ (binT ha hb I h fun v u s2 x y H2 I2 rx ry q=>hr a b pins s2 σ H2 x y v u Q I2 rx ry q (hs _ _))
noncomputable def rIxL (K:PySem.W.Frag):R2:=fun x y H Q=>∃ p xs i v,x=.ref p/\y=.int i/\SqL K H p xs/\atI xs i=some v/\Q v H
noncomputable def rIxT (K:PySem.W.Frag):R2:=fun x y H Q=>∃ p xs i v,x=.ref p/\y=.int i/\SqT K H p xs/\atI xs i=some v/\Q v H
theorem ix_list:IxR X (rIxL X.K):=by
 intro value slice pins s σ H x y v u Q I rx ry h hs
 obtain⟨p,xs,i,z,rfl,rfl,hq,he,q⟩:=h
 cases rx
 obtain⟨t,rfl⟩:=ry
 obtain⟨its,r,pl,hz⟩:=I.list hq
 obtain⟨j,h1,h2,h3,h4,h5⟩:=atI_get he
 obtain⟨w,ew,rw'⟩:=r.get h2
 have hl:=r.length
 have hn:=line63
 have fin:EP X pins σ Q w s:=⟨z,H,I,rw',q⟩
 by_cases h0:0<=i
 ·have hj:i.toNat=j:=by
   rw[seqIndex_of h0 h5] at h1
   exact Option.some.inj h1
  exact item_listR pl.isList h0 (by omega) (by rw[hj]; simpa using ew) fin hs
 ·have hj:(i+(its.toArray.size:Int)).toNat=j:=by
   rw[seqIndex_neg (by omega) h4] at h1
   rw[List.size_toArray,<- hl]
   exact Option.some.inj h1
  exact subscriptTail_builtinR (x:=w) pl.isList.typeIs slot_list_getitem.lookup
   (wpAny_getItem_list_neg (Q:=fun r s'=>r=w/\EP X pins σ Q r s') pl.isList (by omega) (by rw[List.size_toArray] <;>omega) (by omega) (by rw[hj]; simpa using ew) ⟨rfl,fin⟩) hs
theorem ix_tup:IxR X (rIxT X.K):=by
 intro value slice pins s σ H x y v u Q I rx ry h hs
 obtain⟨p,xs,i,z,rfl,rfl,hq,he,q⟩:=h
 cases rx
 obtain⟨t,rfl⟩:=ry
 obtain⟨its,r,pl,hz⟩:=I.tuple hq
 obtain⟨j,h1,h2,h3,h4,h5⟩:=atI_get he
 obtain⟨w,ew,rw'⟩:=r.get h2
 have hl:=r.length
 have hn:=line63
 have fin:EP X pins σ Q w s:=⟨z,H,I,rw',q⟩
 exact subscriptTail_builtinR (x:=w) pl.typeIs slot_tuple_getitem.lookup
  (getItem_tuple (j:=j) (Q:=fun r s'=>r=w/\EP X pins σ Q r s') pl (by omega) (by omega) (by rw[List.size_toArray,<- hl]; exact h1) (by simpa using ew) ⟨rfl,fin⟩) hs
theorem mapSeq_set (its:List Value)(n j:Nat)(u:Value):Obj.mapSeq (·.setIfInBounds j u) { cls:=.type "list",data:=.seq its.toArray n }={ cls:=.type "list",data:=.seq (its.set j u).toArray n }:=by
 simp[Obj.mapSeq]
theorem Inv.lst {pins:List (Addr × Obj)}{σ:St}{H:Hp}{s:Shared}{p:Addr}{xs:List V}(I:Inv X pins σ H s)(h:H p=some (.lst xs)) :
  ∃ (its:List Value) (n:Nat),Vals xs its/\s.heap.get? p=some { cls:=.type "list",data:=.seq its.toArray n }/\xs.length<=sizeLine:=by
 obtain⟨z,its,n,r,e⟩:=I.hok p _ h
 exact⟨its,n,r,e,z⟩
theorem Inv.lstUpd {pins:List (Addr × Obj)}{σ:St}{H:Hp}{s:Shared}{p:Addr}{xs ys:List V}{its its':List Value}{n n':Nat}{f:Obj->Obj}(I:Inv X pins σ H s)(h:H p=some (.lst xs))
  (ho:s.heap.get? p=some { cls:=.type "list",data:=.seq its.toArray n }) (hf:f { cls:=.type "list",data:=.seq its.toArray n }={ cls:=.type "list",data:=.seq its'.toArray n' }) (r:Vals ys its') (hz:ys.length<=sizeLine) (t:Nat) :
  Inv X pins σ (upd H p (.lst ys)) { s with heap:=s.heap.update p f,toks:=t }:=by
 have e:(s.heap.update p f).get? p=some { cls:=.type "list",data:=.seq its'.toArray n' }:=by
  rw[Heap.get?_update_self f ho (by rw[hf] <;>rfl),hf]
 refine I.write (x:=p) (e:=p) (by rw[h]; trivial) (.inl rfl) (fun b u hb q=>(Heap.get?_update_other _ _ (Ne.symm hb)).trans q) ⟨_,e⟩ ?_
 exact⟨hz,its',n',r,e⟩
noncomputable def rSetL:V->V->V->Hp->(Hp->Prop)->Prop:=fun o i v H Q=>∃ p xs k j,o=.ref p/\i=.int k/\H p=some (.lst xs)/\ixN xs.length k=some j/\Q (upd H p (.lst (xs.set j v)))
theorem set_list:PSet X rSetL:=by
 intro pins s σ H o i v ov iv u Q I ro ri rv h
 obtain⟨p,xs,k,j,rfl,rfl,hp,hj,q⟩:=h
 cases ro
 obtain⟨t,rfl⟩:=ri
 obtain⟨its,n,r,ho,hz⟩:=I.lst hp
 obtain⟨h1,h2,h3,h4⟩:=ixN_seq hj
 have hl:=r.length
 have hn:=line63
 have I':Inv X pins σ (upd H p (.lst (xs.set j v))) { s with heap:=s.heap.update p (Obj.mapSeq (·.setIfInBounds j u)) } :=
  I.lstUpd hp ho (mapSeq_set its n j u) (r.set rv j) (by rw[List.length_set]; exact hz) s.toks
 by_cases h0:0<=k
 ·have hk:k.toNat=j:=by
   rw[seqIndex_of h0 h4] at h1
   exact Option.some.inj h1
  exact PySem.W.ki_setAt ho h0 (by omega) (by rw[List.size_toArray,<- hl]; exact h4) (by rw[hk]; exact⟨_,I',q⟩)
 ·have hk:(k+(its.toArray.size:Int)).toNat=j:=by
   rw[seqIndex_neg (by omega) h3] at h1
   rw[List.size_toArray,<- hl]
   exact Option.some.inj h1
  exact PySem.W.ki_setBack ho (by omega) (by rw[List.size_toArray,<- hl]; exact h3) (by omega) (by rw[hk]; exact⟨_,I',q⟩)
theorem slice_bounds (lo hi:Option Int)(n:Nat):(sliceBounds lo hi none n).1=((HT.sIx n 0 lo:Nat):Int)/\(sliceBounds lo hi none n).2.1=((HT.sIx n n hi:Nat):Int)/\(sliceBounds lo hi none n).2.2=1:=by
 refine⟨?_,?_,rfl⟩
 ·cases lo with
  | none=>simp[sliceBounds,HT.sIx]
  | some i =>
   simp only[sliceBounds,HT.sIx,Option.getD_none,show (1:Int) > 0 by decide,if_true]
   by_cases h:i<0
   ·simp only[h,if_true] <;>omega
   ·simp only[h,if_false] <;>omega
 ·cases hi with
  | none=>simp[sliceBounds,HT.sIx]
  | some i =>
   simp only[sliceBounds,HT.sIx,Option.getD_none,show (1:Int) > 0 by decide,if_true]
   by_cases h:i<0
   ·simp only[h,if_true] <;>omega
   ·simp only[h,if_false] <;>omega
theorem slicePick_cut (its:List Value)(lo hi:Option Int):slicePick its.toArray lo hi none=((its.drop (HT.sIx its.length 0 lo)).take (HT.sIx its.length its.length hi-HT.sIx its.length 0 lo)).toArray:=by
 obtain⟨h1,h2,h3⟩:=slice_bounds lo hi its.toArray.size
 unfold slicePick
 rw[h1,h2,h3]
 simp only[sliceRange_one,pick_run,List.size_toArray] <;>rfl
noncomputable def rSlL (K:PySem.W.Frag):V->Option Int->Option Int->Hp->VK->Prop:=fun x lo hi H Q=>∃ a xs,x=.ref a/\SqL K H a xs/\∀ p,H p=none->Q (.ref p) (upd H p (.lst (cutV xs lo hi)))
theorem sl_list:SlR X (rSlL X.K):=by
 intro pins s σ H x v vl vu lo hi sl Q I rx hs pl pu h
 obtain⟨a,xs,rfl,hx,q⟩:=h
 cases rx
 obtain⟨its,r,ht,hz⟩:=I.list hx
 have hlen:=r.length
 refine⟨"list",_,slot_list_getitem.lookup,ht.isList.typeIs,?_⟩
 refine wpAny_getItem_list_slice ht.isList hs pl pu .none (by simp) ?_ (by rw[List.size_toArray] <;>omega)
 rw[slicePick_cut,<- hlen]
 refine⟨.ref s.heap.objs.size,_,I.laid (t':=s.toks) (o:=.lst (cutV xs lo hi)) (fun b ob q=>Heap.get?_push_of_some _ q) (Nat.le_refl _) ?_,rfl,q _ (I.hok.fresh (Nat.le_refl _))⟩
 exact⟨Nat.le_trans (cutV_length xs lo hi) hz,_,0,(r.drop (HT.sIx xs.length 0 lo)).take (HT.sIx xs.length xs.length hi-HT.sIx xs.length 0 lo),Heap.get?_push_size _ rfl⟩
noncomputable def flatV:V->Bool
 | .non=>true
 | .bl _=>true
 | .int _=>true
 | .str _=>true
 | _=>false
noncomputable def eqV:V->V->Bool
 | .non,.non=>true
 | .bl a,.bl b=>a == b
 | .bl a,.int b=>(if a then 1 else 0) == b
 | .int a,.bl b=>a == (if b then 1 else 0)
 | .int a,.int b=>a == b
 | .str a,.str b=>a == b
 | _,_=>false
theorem eqAt_V {A:Around}{s:Shared}{y x:V}{u v:Value}(ry:RelV y u)(rx:RelV x v)(fy:flatV y=true)(fx:flatV x=true):SeqAt.EqAt A s u v (eqV y x):=by
 cases y with
 | non =>
  cases ry
  cases x with
  | non=>cases rx; exact SeqAt.EqAt.same _
  | bl b=>cases rx; exact SeqAt.EqAt.none_bool b
  | int b=>obtain⟨t,rfl⟩:=rx; exact SeqAt.EqAt.none_int b t
  | str b=>obtain⟨t,rfl⟩:=rx; exact SeqAt.EqAt.none_str b t
  | _=>exact absurd (show false=true from fx) Bool.false_ne_true
 | bl a =>
  cases ry
  cases x with
  | non=>cases rx; exact SeqAt.EqAt.bool_none a
  | bl b=>cases rx; exact SeqAt.EqAt.bool_bool a b
  | int b=>obtain⟨t,rfl⟩:=rx; exact SeqAt.EqAt.bool_int a b t
  | str b=>obtain⟨t,rfl⟩:=rx; exact SeqAt.EqAt.bool_str a b t
  | _=>exact absurd (show false=true from fx) Bool.false_ne_true
 | int a =>
  obtain⟨t',rfl⟩:=ry
  cases x with
  | non=>cases rx; exact SeqAt.EqAt.int_none a t'
  | bl b=>cases rx; exact SeqAt.EqAt.int_bool a t' b
  | int b=>obtain⟨t,rfl⟩:=rx; exact SeqAt.EqAt.int_int a t' b t
  | str b=>obtain⟨t,rfl⟩:=rx; exact SeqAt.EqAt.int_str a t' b t
  | _=>exact absurd (show false=true from fx) Bool.false_ne_true
 | str a =>
  obtain⟨t',rfl⟩:=ry
  cases x with
  | non=>cases rx; exact SeqAt.EqAt.str_none a t'
  | bl b=>cases rx; exact SeqAt.EqAt.str_bool a t' b
  | int b=>obtain⟨t,rfl⟩:=rx; exact SeqAt.EqAt.str_int a t' b t
  | str b=>obtain⟨t,rfl⟩:=rx; exact SeqAt.EqAt.str_str a t' b t
  | _=>exact absurd (show false=true from fx) Bool.false_ne_true
 | _=>exact absurd (show false=true from fy) Bool.false_ne_true
noncomputable def eqU (x:V)(u:Value):Bool:=match u with
 | .none=>eqV .non x
 | .bool b=>eqV (.bl b) x
 | .int i _=>eqV (.int i) x
 | .str z _=>eqV (.str z) x
 | _=>false
theorem eqU_of {x y:V}{u:Value}(r:RelV y u)(f:flatV y=true):eqU x u=eqV y x:=by
 cases y with
 | non=>cases r; rfl
 | bl b=>cases r; rfl
 | int i=>obtain⟨t,rfl⟩:=r; rfl
 | str z=>obtain⟨t,rfl⟩:=r; rfl
 | _=>exact absurd (show false=true from f) Bool.false_ne_true
theorem any_eqU {x:V}:∀ {xs:List V} {us:List Value},Vals xs us->xs.all flatV=true->us.any (eqU x)=xs.any fun y=>eqV y x
 | _,_,.nil,_=>rfl
 | y::xs,u::us,.cons r t,f=>by
  rw[List.all_cons,Bool.and_eq_true] at f
  rw[List.any_cons,List.any_cons,eqU_of r f.1,any_eqU t f.2]
theorem mem_eqAt {A:Around}{s:Shared}{x:V}{v:Value}(rx:RelV x v)(fx:flatV x=true):∀ {xs:List V} {us:List Value},Vals xs us->xs.all flatV=true->∀ u∈us,SeqAt.EqAt A s u v (eqU x u)
 | _,_,.nil,_=>fun u hu=>by cases hu
 | y::xs,u::us,.cons r t,f=>fun u' hu=>by
  rw[List.all_cons,Bool.and_eq_true] at f
  rcases List.mem_cons.mp hu with rfl|hu
  ·rw[eqU_of r f.1]; exact eqAt_V r rx f.1 fx
  ·exact mem_eqAt rx fx t f.2 u' hu
noncomputable def inV (x:V)(xs:List V):Bool:=xs.any fun y=>eqV y x
noncomputable def rIn (K:PySem.W.Frag)(neg:Bool):R2:=fun x y H Q=>∃ p xs,y=.ref p/\(SqL K H p xs\/SqT K H p xs)/\flatV x=true/\xs.all flatV=true/\Q (.bl (if neg then !inV x xs else inV x xs)) H
theorem op_in_seq:OpR X (compareOp .In) (rIn X.K false):=by
 intro pins s σ H x y v u Q I rx ry h
 obtain⟨p,xs,rfl,hq,fx,fs,q⟩:=h
 cases ry
 rcases hq with hq|hq
 ·obtain⟨its,r,pl,hz⟩:=I.list hq
  refine SeqAt.in_listAt (eqU x) pl.isList (fun w hw=>mem_eqAt rx fx r fs w (by simpa using hw)) ⟨.bl _,H,I,rfl,?_⟩
  rw[show its.toArray.any (eqU x)=its.any (eqU x) by simp,any_eqU r fs]
  exact q
 ·obtain⟨its,r,pl,hz⟩:=I.tuple hq
  refine SeqAt.in_tupleAt (eqU x) pl (fun w hw=>mem_eqAt rx fx r fs w (by simpa using hw)) ⟨.bl _,H,I,rfl,?_⟩
  rw[show its.toArray.any (eqU x)=its.any (eqU x) by simp,any_eqU r fs]
  exact q
theorem op_notIn_seq:OpR X (compareOp .NotIn) (rIn X.K true):=by
 intro pins s σ H x y v u Q I rx ry h
 obtain⟨p,xs,rfl,hq,fx,fs,q⟩:=h
 cases ry
 rcases hq with hq|hq
 ·obtain⟨its,r,pl,hz⟩:=I.list hq
  refine SeqAt.notIn_listAt (eqU x) pl.isList (fun w hw=>mem_eqAt rx fx r fs w (by simpa using hw)) ⟨.bl _,H,I,rfl,?_⟩
  rw[show its.toArray.any (eqU x)=its.any (eqU x) by simp,any_eqU r fs]
  exact q
 ·obtain⟨its,r,pl,hz⟩:=I.tuple hq
  refine SeqAt.notIn_tupleAt (eqU x) pl (fun w hw=>mem_eqAt rx fx r fs w (by simpa using hw)) ⟨.bl _,H,I,rfl,?_⟩
  rw[show its.toArray.any (eqU x)=its.any (eqU x) by simp,any_eqU r fs]
  exact q
theorem call_len_seq:CallR X (.builtin "len") (fun xs H Q=>∃ p ys,xs=[.ref p]/\(SqL X.K H p ys\/SqT X.K H p ys)/\Q (.int ys.length) H):=by
 intro pins s σ H xs us Q I r h
 obtain⟨p,ys,rfl,hq,q⟩:=h
 obtain⟨u,rfl,rx⟩:=vals1 r
 cases rx
 have hn:=line63
 rcases hq with hq|hq
 ·obtain⟨its,r',pl,hz⟩:=I.list hq
  have hlen:=r'.length
  exact Calls.call_len_list pl.isList (by simp only[List.size_toArray] <;>omega) ⟨.int ys.length,H,I.tok _,⟨s.toks+1,by rw[List.size_toArray,hlen]⟩,q⟩
 ·obtain⟨its,r',pl,hz⟩:=I.tuple hq
  have hlen:=r'.length
  exact len_tuple pl (by simp only[List.size_toArray] <;>omega) ⟨.int ys.length,H,I.tok _,⟨s.toks+1,by rw[List.size_toArray,hlen]⟩,q⟩
theorem call_list_of:CallR X (.type "list") (fun xs H Q=>∃ p ys,xs=[.ref p]/\(SqL X.K H p ys\/SqT X.K H p ys)/\∀ l,H l=none->Q (.ref l) (upd H l (.lst ys))):=by
 intro pins s σ H xs us Q I r h
 obtain⟨p,ys,rfl,hq,q⟩:=h
 obtain⟨u,rfl,rx⟩:=vals1 r
 cases rx
 have fin:∀ (its:List Value),Vals ys its->ys.length<=sizeLine->∀ (h':Heap) (c':Nat),(∀ b o',s.heap.get? b=some o'->h'.get? b=some o') ->
   h'.get? s.heap.objs.size=some { cls:=.type "list",dict:=none,data:=.seq its.toArray c',slots:=#[] }->EP X pins σ Q (.ref s.heap.objs.size) { s with heap:=h' }:=fun its r' hz h' c' kp e =>
  ⟨.ref s.heap.objs.size,_,I.laid (t':=s.toks) kp (Nat.le_refl _) (show ObjOk X.prog X.w _ h' _ (.lst ys) from ⟨hz,its,c',r',e⟩),rfl,q _ (I.hok.fresh (Nat.le_refl _))⟩
 rcases hq with hq|hq
 ·obtain⟨its,r',pl,hz⟩:=I.list hq
  have hlen:=r'.length
  obtain⟨o,ho,hc,n,hd⟩:=pl.isList
  exact call_list_seq p (.inl rfl) ho hc hd (fun h' c' kp e=>fin its r' hz h' c' kp e) (by simp only[List.size_toArray] <;>omega)
 ·obtain⟨its,r',pl,hz⟩:=I.tuple hq
  have hlen:=r'.length
  obtain⟨o,ho,hc,n,hd⟩:=pl
  exact call_list_seq p (.inr rfl) ho hc hd (fun h' c' kp e=>fin its r' hz h' c' kp e) (by simp only[List.size_toArray] <;>omega)
noncomputable def tyV (K:PySem.W.Frag)(T:String)(x:V)(H:Hp):Prop:=match x with
 | .str _=>T="str"
 | .int _=>T="int"
 | .ref p=>(T="list"/\∃ xs,SqL K H p xs)\/(T="tuple"/\∃ o,K.lookup p=some o/\o.cls=.type "tuple"/\o.dict=none) \/
   (T="dict"/\((∃ kvs,H p=some (.dK kvs))\/∃ kvs,H p=some (.dT kvs)))\/(T="set"/\∃ S n,H p=some (.set S n))
 | _=>False
theorem tyV_is {pins:List (Addr × Obj)}{σ:St}{H:Hp}{s:Shared}{T:String}{x:V}{v:Value}(I:Inv X pins σ H s)(r:RelV x v)(ty:tyV X.K T x H) :
  s.TypeIs v T/\∀ a,v=.ref a->∃ ob,s.heap.get? a=some ob/\ob.dict=none:=by
 cases x with
 | str z =>
  obtain⟨t,rfl⟩:=r
  cases (show T="str" from ty)
  exact⟨typeIs_str s z t,fun _ e=>nomatch e⟩
 | int i =>
  obtain⟨t,rfl⟩:=r
  cases (show T="int" from ty)
  exact⟨typeIs_int s i t,fun _ e=>nomatch e⟩
 | ref p =>
  cases r
  rcases ty with ⟨rfl,xs,hq⟩|⟨rfl,o,hk,hc,hd⟩|⟨rfl,hk⟩|⟨rfl,S,n,hk⟩
  ·obtain⟨its,_,pl,_⟩:=I.list hq
   refine⟨pl.isList.typeIs,fun a e=>?_⟩
   cases e
   obtain⟨o,n,e,c,hd,_⟩:=pl
   exact⟨o,e,hd⟩
  ·refine⟨⟨o,I.kIn p o hk,hc⟩,fun a e=>?_⟩
   cases e
   exact⟨o,I.kIn _ o hk,hd⟩
  ·have z:∃ o,s.heap.get? p=some o/\o.ExactDict:=by
    rcases hk with ⟨kvs,hk⟩|⟨kvs,hk⟩
    ·obtain⟨_,_,_,_,o,_,_,e,ex,_⟩:=I.hok p _ hk
     exact⟨o,e,ex⟩
    ·obtain⟨_,_,_,_,o,_,_,e,ex,_⟩:=I.hok p _ hk
     exact⟨o,e,ex⟩
   obtain⟨o,e,ex⟩:=z
   refine⟨⟨o,e,ex.1⟩,fun a e2=>?_⟩
   cases e2
   exact⟨o,e,ex.2.1⟩
  ·obtain⟨o,_,_,_,e,ex,_⟩:=I.hok p _ hk
   refine⟨⟨o,e,ex.1⟩,fun a e2=>?_⟩
   cases e2
   exact⟨o,e,ex.2.1⟩
 | _=>exact False.elim ty
noncomputable def tBM (K:PySem.W.Frag)(T:String)(r:V->List V->Hp->VK->Prop)(to:TE)(t:TA):TE:=fun σ H Q=>to σ H fun x H1=>tyV K T x H1/\t σ H1 fun xs H2=>r x xs H2 Q
variable {o e:Expr}{es:List Expr}{to:TE}{t:TA}{name:Str}{apos cpos:Pos}{T id:String}{r:V->List V->Hp->VK->Prop}
theorem pe_bm (pa:PlainAttrs T)(slot:Slot T name id)(hty:typeOf (.builtin id)=pure (.type "method_descriptor"))(hm:MtR X id r)(ho:PE X o to)(ha:PA X (e::es) t)
  (hbase:autoParam (attributeBase o name X.env (eval o X.env)=eval o X.env) Au.h4._auto_1)
  (hfew:autoParam (((backTo cpos (starEach (e::es) X.env)).all (fun x=>!x.1)&&(backToKw cpos (keywordEach [] X.env)).all (fun x=>x.1.isSome)
   && decide ((e::es).length+([]:List Keyword).length+(if ([]:List Keyword).isEmpty then 0 else 1)<30))=true) Au.h4._auto_1)
  (hline:autoParam ((apos.endLine == cpos.line)=true) Au.h4._auto_1) (hs:autoParam (starEach (e::es) X.env=(false,eval e X.env)::starEach es X.env) Au.h4._auto_1) (hplain:autoParam ((backTo cpos (starEach es X.env)).any (·.1)=false) Au.h4._auto_1) :
  PE X (.Call (.Attribute o name apos) (e::es) [] cpos) (tBM X.K T r to t):=by
 intro pins s σ H Q I h
 refine wpAny_Call_method_late hbase hfew hline rfl (thn (ho pins s σ H _ I h) fun v s1 ⟨x,H1,I1,r1,ty,q1⟩=>?_)
 obtain⟨h1,h2⟩:=tyV_is I1 r1 ty
 refine⟨T,id,pa,slot,hty,h1,h2,?_⟩
 have hA:=ha cpos pins s1 σ H1 _ I1 q1
 rw[hs] at hA ⊢
 refine Calls.callWith_builtin (by show (false || (backTo cpos (starEach es X.env)).any (·.1))=false; rw[hplain] <;>rfl) (Calls.evalArgs_plain ?_)
 exact thn hA fun us s2 ⟨vs,H2,I2,r2,q2⟩=>hm pins s2 σ H2 x vs v us Q I2 r1 r2 q2
end
noncomputable def MtM (X:Cx)(id:String)(r:V->List V->Hp->VK->Prop):Prop :=
 ∀ (pins:List (Addr × Obj)) (s:Shared) (σ:St) (H:Hp) (x:V) (xs:List V) (v:Value) (us:List Value) (Q:VK),Inv X pins σ H s->RelV x v->Vals xs us->r x xs H Q ->
  wpAny (model X.prog X.w) X.A (call (.builtin id) (v::us)) (EP X pins σ Q) X.xe s
theorem Vals.one {x:V}{us:List Value}(r:Vals [x] us):∃ u,us=[u]/\RelV x u:=by
 cases r with
 | cons r1 r2=>cases r2; exact⟨_,rfl,r1⟩
theorem Vals.rep {xs:List V}{us:List Value}(h:Vals xs us):∀ k:Nat,Vals (List.replicate k xs).flatten (List.replicate k us).flatten
 | 0=>.nil
 | k+1=>by
  rw[List.replicate_succ,List.replicate_succ,List.flatten_cons,List.flatten_cons]
  exact Vals.append h (Vals.rep h k)
theorem foldl_rep (its:List Value):∀ (k:Nat) (acc:List Value),
  List.foldl (fun x1 x2=>x1++x2) acc.toArray (List.replicate k its.toArray)=(acc++(List.replicate k its).flatten).toArray
 | 0,acc=>by simp
 | k+1,acc=>by
  have e:acc.toArray++its.toArray=(acc++its).toArray:=by simp
  have e2:(acc++its)++(List.replicate k its).flatten=acc++(List.replicate (k+1) its).flatten:=by
   rw[List.replicate_succ,List.flatten_cons,List.append_assoc]
  rw[<- e2,<- foldl_rep its k (acc++its),<- e,List.replicate_succ,List.foldl_cons]
section
variable {X:Cx}{pins:List (Addr × Obj)}{σ:St}{H:Hp}{s:Shared}{l b:Addr}{xs ys zs:List V}
theorem Inv.lset {its its':List Value}{n:Nat}{f:Array Value->Array Value}{t':Nat}(I:Inv X pins σ H s)(hH:H l=some (.lst xs))
  (e:s.heap.get? l=some { cls:=.type "list",data:=.seq its.toArray n }) (hf:f its.toArray=its'.toArray) (hv:Vals ys its') (hz:ys.length<=sizeLine) :
  Inv X pins σ (upd H l (.lst ys)) { s with heap:=s.heap.update l (Obj.mapSeq f),toks:=t' }:=by
 have q:=PySem.IsL.update e f
 rw[hf] at q
 refine I.write (x:=l) (e:=l) (by rw[hH]; exact trivial) (.inl rfl) (fun b' u hb hu=>(Heap.get?_update_other s.heap (Obj.mapSeq f) (Ne.symm hb)).trans hu) ⟨_,q⟩ ?_
 exact⟨hz,its',_,hv,q⟩
theorem Inv.lnew {its:List Value}{t':Nat}(I:Inv X pins σ H s)(hv:Vals ys its)(hz:ys.length<=sizeLine) :
  Inv X pins σ (upd H s.heap.objs.size (.lst ys)) { s with heap:=s.heap.push { cls:=.type "list",data:=.seq its.toArray },toks:=t' } :=
 I.laid (fun _ _ q=>Heap.get?_push_of_some _ q) (Nat.le_refl _) ⟨hz,its,0,hv,Heap.get?_push_size _ rfl⟩
theorem Inv.fresh (I:Inv X pins σ H s):H s.heap.objs.size=none:=I.hok.fresh (Nat.le_refl _)
theorem Inv.lstM (I:Inv X pins σ H s)(hH:H l=some (.lst xs)):xs.length<=sizeLine/\∃ (its:List Value) (n:Nat),Vals xs its/\xs.length=its.length/\s.heap.get? l=some { cls:=.type "list",data:=.seq its.toArray n }:=by
 obtain⟨z,its,n,r,e⟩:=I.hok l _ hH
 exact⟨z,its,n,r,r.length,e⟩
theorem notLongL {n:Nat}(h:n<=sizeLine):Builtin.List.listTooLong n=false:=by
 unfold Builtin.List.listTooLong
 exact decide_eq_false (by omega)
end
section
variable {X:Cx}
noncomputable def rAppend:V->List V->Hp->VK->Prop:=fun x vs H Q=>∃ l xs y,x=.ref l/\vs=[y]/\H l=some (.lst xs)/\xs.length<sizeLine/\Q .non (upd H l (.lst (xs++[y])))
theorem mt_append:MtM X "list.append" rAppend:=by
 intro pins s σ H x vs v us Q I rx rv h
 obtain⟨l,xs,y,rfl,rfl,hH,hz,q⟩:=h
 cases rx
 obtain⟨u,rfl,ru⟩:=rv.one
 obtain⟨z,its,n,r,hl,e⟩:=I.lstM hH
 refine call_meets F.slot_list_append ⟨_,e,rfl⟩ F.entry_list_append (F.args_list_append_2 _ _) (PySem.list_append l its.toArray n u (by rw[List.size_toArray]; omega)) ⟨e,?_⟩
 refine⟨.non,_,I.lset (its':=its++[u]) hH e (by simp) (r.append (.cons ru .nil)) ?_,rfl,q⟩
 rw[List.length_append,List.length_singleton]
 omega
noncomputable def rExtend:V->List V->Hp->VK->Prop:=fun x vs H Q=>∃ l b xs zs,x=.ref l/\vs=[.ref b]/\H l=some (.lst xs)/\H b=some (.lst zs)/\xs.length+zs.length<=sizeLine/\Q .non (upd H l (.lst (xs++zs)))
theorem mt_extend:MtM X "list.extend" rExtend:=by
 intro pins s σ H x vs v us Q I rx rv h
 obtain⟨l,b,xs,zs,rfl,rfl,hH,hB,hz,q⟩:=h
 cases rx
 obtain⟨u,rfl,ru⟩:=rv.one
 cases ru
 obtain⟨z,its,n,r,hl,e⟩:=I.lstM hH
 obtain⟨z2,its2,n2,r2,hl2,e2⟩:=I.lstM hB
 have hsz:its.toArray.size+its2.toArray.size<=sizeLine:=by rw[List.size_toArray,List.size_toArray]; omega
 have hlong:¬ (!its.toArray.isEmpty&&Builtin.List.listTooLong (its.toArray.size+its2.toArray.size))=true:=by
  rw[notLongL hsz,Bool.and_false]
  exact Bool.false_ne_true
 refine call_meets F.slot_list_extend ⟨_,e,rfl⟩ F.entry_list_extend (F.args_list_extend_2 _ _)
  (AutoSeq1.list_extend_list_list_0 l its.toArray n b its2.toArray n2 hlong (by rw[List.size_toArray]; omega) (by omega)) ⟨e,e2,?_⟩
 refine⟨.non,_,I.lset (its':=its++its2) hH e (by simp) (r.append r2) ?_,rfl,q⟩
 rw[List.length_append]
 omega
theorem len_rep {α:Type}(xs:List α)(k:Nat):(List.replicate k xs).flatten.length=k*xs.length:=by
 induction k with
 | zero=>simp
 | succ k ih=>rw[List.replicate_succ,List.flatten_cons,List.length_append,ih,Nat.succ_mul,Nat.add_comm]
end
section
variable {prog:Program}{w:World}{A:Around}{E:Value->Shared->Prop}{s:Shared}
end
section
variable {X:Cx}
end
end L2
namespace Att
open PySem PySem.W PySem.Calls PyProof.Rows
theorem ints_of_wellAll {P:Params}{h:Heap}:∀ (ns:List Int) (vs:List Value),WellAll P h vs (ns.map WData.int)->IntsAre vs ns:=by
 intro ns
 induction ns with
 | nil =>
  intro vs w
  rw[List.map_nil] at w
  cases w
  exact .nil
 | cons n ns ih =>
  intro vs w
  rw[List.map_cons] at w
  cases w with
  | cons a b =>
   cases a
   exact .cons _ _ (ih _ b)
theorem script_of {l:OpenLaw}{n:Nat}(hn:l.most=some n){P:Params}{h:Heap}{args:List WData}{vals:List Value}
  (hpre:l.row.toRowW.claim.pre args=true) (hwl:WellAll P h vals args) :
  ∃ a vs ns,vals=[Value.ref a]/\args=[WData.list (ns.map WData.int)]/\h.get? a=some { cls:=.type "list",data:=.seq vs.toArray }/\IntsAre vs ns/\ns.length<=n:=by
 have hsh:WShape.hasAll [] args [.list .int]=true:=(pre_splitW hpre).1
 have hc:l.pre.holds [] { args:=args }=true:=(pre_splitW hpre).2
 obtain⟨d,r,rfl,h1,h2⟩:=hasAllW_cons hsh
 obtain rfl:=hasAllW_nil h2
 obtain⟨xs,rfl,h3⟩:=hasW_list h1
 obtain⟨ns,rfl⟩:=items_int h3
 have hlen:ns.length<=n:=by
  unfold OpenLaw.pre at hc
  have h4:(WTm.not (.lt (.lit (.int (n:Int))) (.len (.arg 0)))).holds [] { args:=[.list (ns.map .int)] }=true:=by
   have h4:=(holds_andW hc).1
   rw[hn] at h4
   exact h4
  have h5:=condW_of h4 (w_not (w_lt w_lit (w_len_list (w_arg rfl))))
  rw[List.length_map] at h5
  refine Nat.le_of_not_lt fun q=>?_
  have q':(n:Int)<((ns.length:Nat):Int):=by omega
  first
   | (rw[decide_eq_true q'] at h5; exact absurd h5 (by decide))
   | (simp at h5; omega)
 cases hwl with
 | cons w1 w2 =>
  cases w2
  cases w1 with
  | list ho hall=>exact⟨_,_,ns,rfl,rfl,ho,ints_of_wellAll ns _ hall,hlen⟩
theorem post_true (l:OpenLaw)(args:List WData):l.row.toRowW.claim.post args (.bool true) args=true :=
 postW_of (r:=l.row.toRowW) (X:=(true == true))
  (show WShape.has [] (.bool true) .bool=true by first|rfl|decide|simp[WShape.has,WShape.arms,WShape.armsAll])
  (show (WTm.eq .res (.lit (.bool true))).value [] { args:=args,res:=some (.bool true),after:=args }=some (.bool (true == true)) from w_eq_bool (w_res rfl) w_lit) rfl
section
variable {prog:Program}{w:World}{A:Around}{E:Value->Shared->Prop}{s:Shared}{K:Frag}
noncomputable def ledger (h:Heap)(L d:Addr):List (Addr × Obj):=(List.range h.objs.size).filterMap fun a=>if a=L\/a=d then none else (h.get? a).map fun o=>(a,o)
end
end Att
namespace L2
open PySem PySem.Spec PyProof.Rows
theorem vals_ints:∀ {vs:List Value} {ns:List Int},IntsAre vs ns->Vals (ns.map V.int) vs
 | _,_,.nil=>.nil
 | _,_,.cons n t h=>.cons ⟨t,rfl⟩ (vals_ints h)
noncomputable def Only (H:Hp):Prop:=∀ b,H b=none\/∃ o xs,H b=some (.frz o (.lst xs))
theorem law_call {P:Program}{w:World}{K:PySem.W.Frag}{mg mb:Str->Option Value}{CX:CXT}{k:Nat}{fa a:Addr}{fd:FuncData}{x:Str}{sp:Sp}{s₁:Shared}{vs:List Value}{ns:List Int}
  (KX:K.In s₁.heap) (hns:s₁.heap.Ns mainGlobals mg) (hb:s₁.heap.Ns builtinsNs mb) (hbb:∀ x:Str,x≠"__name__"->mb x=bootBuiltins x) (hlim:s₁.heap.NoLimit) (hg:s₁.gens=#[])
  (ha:s₁.heap.get? a=some { cls:=.type "list",data:=.seq vs.toArray }) (hi:IntsAre vs ns) (hl:ns.length<=sizeLine) (hr:Room k callerA)
  (F:∀ base:Heap,K.In base->base.Ns mainGlobals mg->FnOk P w K mg base CX k fa fd [x] sp) (hbind:∀ (s:Shared) (u:Value),BindsTo s fd ⟨[u],[]⟩ [(x,u)])
  (hsp:∀ H:Hp,Only H->SqL K H a (ns.map V.int)->sp [.ref a] H (fun v _=>v=.bl true) fun _ _ _=>False)
  (hCX:∀ H e s',CX [] H s₁ (fun _ _ _=>False) e s'->False) :
  codeAny (model P w) callerA (.call (.ref fa) ⟨[.ref a],[]⟩) (fun r s'=>r=.ok (.ret (.bool true))/\OldK s₁.heap s'.heap/\s'.os=s₁.os/\AllBare s'.gens) s₁:=by
 have rv:=vals_ints hi
 have lenV:=hi.length
 have core:∀ H:Hp,Only H->SqL K H a (ns.map V.int)->HOk P w H s₁.heap->(∀ b,H b≠none->b=a)->(H a≠none->K.lookup a=none) ->
   codeAny (model P w) callerA (.call (.ref fa) ⟨[.ref a],[]⟩) (fun r s'=>r=.ok (.ret (.bool true))/\OldK s₁.heap s'.heap/\s'.os=s₁.os/\AllBare s'.gens) s₁:=by
  intro H hO hS hok hA hK
  have base_of:∀ {b:Addr} {o:Obj},s₁.heap.get? b=some o->H b=none->(hidT s₁.heap H).get? b=some o:=fun e n=>hidT_get e n
  have noA:∀ {b:Addr} {o:Obj} {es:Array DictEntry} {ep:Nat},s₁.heap.get? b=some o->o.data=.dict es ep->H b=none:=fun {b o es ep} e d=>by
   cases q:H b with
   | none=>rfl
   | some u =>
    have e':b=a:=hA b (by rw[q]; simp)
    subst e'
    rw[ha] at e; cases e
    have d':Data.seq vs.toArray _=Data.dict es ep:=d
    cases d'
  have nsK:∀ {b:Addr} {m:Str->Option Value},s₁.heap.Ns b m->(hidT s₁.heap H).Ns b m:=fun {b m} ⟨o,es,ep,e,d,r⟩=>⟨o,es,ep,base_of e (noA e d),d,r⟩
  have hKb:K.In (hidT s₁.heap H):=fun b o e=>base_of (KX b o e) (by
   cases q:H b with
   | none=>rfl
   | some u =>
    have e':b=a:=hA b (by rw[q]; simp)
    subst e'
    rw[hK (by rw[q]; simp)] at e; cases e)
  have hM:Mod K mg (hidT s₁.heap H):=⟨hKb,nsK hns,⟨mb,nsK hb,hbb⟩,let ⟨mc,h1,h2⟩:=hlim; ⟨mc,nsK h1,h2⟩⟩
  have e0:Env0 P w K mg (hidT s₁.heap H) callerA [] s₁ H:=⟨rfl,hM,fun b o e=>of_hidT e,Nat.le_of_eq (hidT_size _ _),trivial,fun b hb=>absurd (show b∈([]:List Addr) from hb) (by simp),hok,.of_eq hg⟩
  refine codeAny_mono ((F _ hKb (nsK hns)).run callerA [] s₁ H ⟨[.ref a],[]⟩ [.ref a] [.ref a] _ _ hr e0 (hbind s₁ (.ref a)) (.cons rfl .nil) (hsp H hO hS)) fun r s' h=>?_
  cases r with
  | error e=>exact(hCX H e s' h).elim
  | ok fl =>
   cases fl with
   | next=>exact False.elim h
   | brk=>exact False.elim h
   | cont=>exact False.elim h
   | ret u =>
    obtain⟨v,H',os,bare,un,hok',r',q⟩:=h
    have q':v=.bl true:=q
    subst q'
    obtain rfl:u=Value.bool true:=r'
    refine⟨rfl,OldK.of_keep fun b o e=>?_,os,bare⟩
    cases q:H b with
    | none=>exact un.keep b o e q (by intro z; exact absurd (show b∈([]:List Addr) from z) (by simp)) (by simp)
    | some u =>
     rcases hO b with z|⟨ob,xs,z⟩
     ·rw[q] at z; cases z
     ·have z2:=un.frzs b ob _ z
      obtain⟨e1,_⟩:=hok b _ z
      obtain⟨e2,_⟩:=hok' b _ z2
      rw[e] at e1; cases e1
      exact e2
 cases hk:K.lookup a with
 | some o =>
  have e:=KX a o hk
  rw[ha] at e
  cases e
  refine core (fun _=>none) (fun _=>.inl rfl) (.inr ⟨_,vs.toArray,_,hk,rfl,rfl,rfl,by rw[List.size_toArray,lenV]; exact hl,by simpa using rv⟩) (fun b u z=>by have z':(none:Option HO)=some u:=z; cases z') (fun b z=>absurd rfl z) fun z=>absurd rfl z
 | none =>
  refine core (fun b=>if b=a then some (.frz { cls:=.type "list",data:=.seq vs.toArray } (.lst (ns.map V.int))) else none) (fun b=>?_) (.inl (.inr ⟨{ cls:=.type "list",data:=.seq vs.toArray },if_pos rfl⟩)) (fun b u z=>?_) (fun b z=>?_) fun _=>hk
  ·by_cases hb:b=a
   ·exact .inr ⟨_,_,if_pos hb⟩
   ·exact .inl (if_neg hb)
  ·by_cases hb:b=a
   ·have z':=(if_pos hb).symm.trans z
    cases z'
    subst hb
    exact⟨ha,by rw[List.length_map]; exact hl,vs,_,rv,ha⟩
   ·have z':=(if_neg hb).symm.trans z
    cases z'
  ·by_cases hb:b=a
   ·exact hb
   ·exact absurd (if_neg hb) z
noncomputable def defArgs (s:Stmt):Arguments:=match s with
 | .FunctionDef _ a _ _ _ _ _ _ _ _=>a
 | _=>{ posonlyargs:=[],args:=[],vararg:=none,kwonlyargs:=[],kw_defaults:=[],kwarg:=none,defaults:=[] }
noncomputable def defBody (s:Stmt):List Stmt:=match s with
 | .FunctionDef _ _ b _ _ _ _ _ _ _=>b
 | _=>[]
noncomputable def defScope (s:Stmt):Scope:=match s with
 | .FunctionDef _ _ _ _ _ _ sc _ _ _=>sc
 | _=>{ kind:=.function,names:=[],isGenerator:=false,isCoroutine:=false }
noncomputable abbrev CX0:CXT:=fun _ _ _ _ _ _=>False
noncomputable abbrev E0:XK:=fun _ _ _=>False
structure Fun (K:PySem.W.Frag)(x qual:Str)(st:Stmt)(f:Addr)(fd:FuncData):Prop where
 ex:∃ (oc:Value) (od:Option Addr) (kV doc pm:Value) (an:Option Addr) (cdv ct:Value) (osl:Array (Option Value)),
  fd=PySem.W.fnOf x qual (defArgs st) (defBody st) (defScope st) .none kV doc pm an cdv ct/\K.lookup f=some ⟨oc,od,.func fd,osl⟩/\PySem.W.codeIn K cdv qual=true
 kp:PySem.W.keepIn K (.ref f)=true
section
variable {P:Program}{w:World}{K:PySem.W.Frag}{mg:Str->Option Value}{base:Heap}
theorem Fun.ok {x qual:Str}{st:Stmt}{f:Addr}{fd:FuncData}{N ps:List Str}{k:Nat}{sp:Sp}(F:Fun K x qual st f fd)(S:FnScope N ps (defScope st))(len:∀ vs H Q E,sp vs H Q E->vs.length=ps.length)
  (hbody:∀ (cdv:Value) (A:Around) (outer:List Env) (s:Shared) (H:Hp) (vs:List V) (Q:VK) (E:XK),Room k (A.deeper (envOfC qual (defScope st) s.heap.objs.size f cdv))->sp vs H Q E ->
   ∃ t,PSs (cxOf CX0 P w K mg base N qual (defScope st) f cdv A outer s H E).nox (defBody st) t/\t { nx:=fun _ H'=>Q .non H',rt:=Q } (start N vs) H):FnOk P w K mg base CX0 (k+1) f fd ps sp:=by
 obtain⟨oc,od,kV,doc,pm,an,cdv,ct,osl,rfl,lk,hcd⟩:=F.ex
 refine fn_of lk hcd S len fun A outer s H vs Q E hr hsp=>?_
 obtain⟨t,h,q⟩:=hbody cdv A outer s H vs Q E hr hsp
 exact⟨t,h.nox,q⟩
end
section
variable {X:Cx}
end
theorem iteF {A B:Prop}(h:B):if false=true then A else B:=by
 rw[if_neg Bool.false_ne_true]
 exact h
theorem iteT {A B:Prop}(h:A):if true=true then A else B:=by
 rw[if_pos rfl]
 exact h
noncomputable def Same (H H':Hp):Prop:=∀ b o,H b=some o->H' b=some o
theorem Same.refl (H:Hp):Same H H:=fun _ _ h=>h
theorem Same.trans {H H1 H2:Hp}(a:Same H H1)(b:Same H1 H2):Same H H2:=fun c o h=>b c o (a c o h)
theorem Same.free {H H':Hp}(e:Same H H'){l:Addr}(h:H' l=Option.none):H l=Option.none:=by
 cases q:H l with
 | none=>rfl
 | some o =>
  rw[e l o q] at h
  cases h
section
variable {κ:Type}[DecidableEq κ]
noncomputable def valV (kvs:List (κ × V))(k:κ):Option V:=(kvs.find? fun kv=>decide (kv.1=k)).map (·.2)
noncomputable def putK (kvs:List (κ × V))(k:κ)(v:V):List (κ × V) :=
 if (kvs.any fun kv=>decide (kv.1=k))=true then kvs.map (fun kv=>if kv.1=k then (kv.1,v) else kv) else kvs++[(k,v)]
theorem valV_pos {p:κ × V}{r:List (κ × V)}{k:κ}(e:p.1=k):valV (p::r) k=some p.2:=by simp[valV,List.find?_cons,e]
theorem valV_neg {p:κ × V}{r:List (κ × V)}{k:κ}(e:¬ p.1=k):valV (p::r) k=valV r k:=by simp[valV,List.find?_cons,e]
theorem valV_any (k:κ):∀ kvs:List (κ × V),(kvs.any fun kv=>decide (kv.1=k))=(valV kvs k).isSome
 | []=>rfl
 | p::r=>by
  rw[List.any_cons]
  by_cases e:p.1=k
  ·simp only[valV_pos e,decide_eq_true e,Bool.true_or,Option.isSome_some]
  ·rw[valV_neg e,decide_eq_false e,Bool.false_or]; exact valV_any k r
theorem length_putK (kvs:List (κ × V))(k:κ)(v:V):(putK kvs k v).length<=kvs.length+1:=by
 unfold putK
 split
 ·rw[List.length_map]; omega
 ·rw[List.length_append,List.length_cons,List.length_nil]; omega
theorem RelO.isSome_eq {o:Option V}{u:Option Value}(r:RelO o u):o.isSome=u.isSome:=by
 cases o with
 | none=>cases u with
  | none=>rfl
  | some _=>exact(show False from r).elim
 | some _=>cases u with
  | none=>exact(show False from r).elim
  | some _=>rfl
theorem RelO.getD {o:Option V}{u:Option Value}{d:V}{d':Value}(r:RelO o u)(rd:RelV d d'):RelV (o.getD d) (u.getD d'):=by
 cases o with
 | none=>cases u with
  | none=>exact rd
  | some _=>exact(show False from r).elim
 | some _=>cases u with
  | none=>exact(show False from r).elim
  | some _=>exact r
theorem KV.val {kvs:List (κ × V)}{vs:List (κ × Value)}(r:KV kvs vs)(k:κ):RelO (valV kvs k) (valueAt vs k):=by
 unfold KV at r
 induction r with
 | nil=>exact True.intro
 | @cons p q ps qs h t ih =>
  obtain⟨h1,h2⟩:=h
  by_cases e:p.1=k
  ·have e':q.1=k:=h1.symm.trans e
   have b:valueAt (q::qs) k=some q.2:=by simp[valueAt,List.find?_cons,e']
   rw[valV_pos e,b]; exact h2
  ·have e':¬ q.1=k:=fun z=>e (h1.trans z)
   have b:valueAt (q::qs) k=valueAt qs k:=by simp[valueAt,List.find?_cons,e']
   rw[valV_neg e,b]; exact ih
theorem KV.any {kvs:List (κ × V)}{vs:List (κ × Value)}(r:KV kvs vs)(k:κ):(kvs.any fun kv=>decide (kv.1=k))=vs.any fun kv=>decide (kv.1=k):=by
 unfold KV at r
 induction r with
 | nil=>rfl
 | cons h t ih=>rw[List.any_cons,List.any_cons,ih,h.1]
theorem KV.repl {kvs:List (κ × V)}{vs:List (κ × Value)}(r:KV kvs vs)(k:κ){y:V}{u:Value}(ry:RelV y u) :
  KV (kvs.map fun kv=>if kv.1=k then (kv.1,y) else kv) (vs.map fun kv=>if kv.1=k then (kv.1,u) else kv):=by
 unfold KV at r ⊢
 induction r with
 | nil=>exact .nil
 | @cons p q ps qs h t ih =>
  rw[List.map_cons,List.map_cons]
  refine .cons ?_ ih
  obtain⟨h1,h2⟩:=h
  by_cases e:p.1=k
  ·rw[if_pos e,if_pos (h1.symm.trans e)]; exact⟨h1,ry⟩
  ·rw[if_neg e,if_neg (fun z=>e (h1.trans z))]; exact⟨h1,h2⟩
theorem KV.put {kvs:List (κ × V)}{vs:List (κ × Value)}(r:KV kvs vs)(k:κ){y:V}{u:Value}(ry:RelV y u):KV (putK kvs k y) (stored vs k u):=by
 unfold putK stored
 rw[r.any k]
 by_cases e:(vs.any fun kv=>decide (kv.1=k))=true
 ·rw[if_pos e,if_pos e]; exact r.repl k ry
 ·rw[if_neg e,if_neg e]; exact Paired.snoc r ⟨rfl,ry⟩
theorem KV.length {kvs:List (κ × V)}{vs:List (κ × Value)}(r:KV kvs vs):kvs.length=vs.length:=Paired.length r
end
theorem kV_is {P:Program}{w:World}{k:Key}{u:Value}(r:RelV (kV k) u):(mixKind P w).is k u=true:=by
 cases k with
 | inl i=>obtain⟨t,e⟩:=(show ∃ t,u=Value.int i t from r); subst e; exact mixKind_int P w i t
 | inr x=>obtain⟨t,e⟩:=(show ∃ t,u=Value.str x t from r); subst e; exact mixKind_str P w x t
theorem items_are {P:Program}{w:World}:∀ {ks:List Key} {us:List Value},Vals (ks.map kV) us->ItemsAre (mixKind P w) ks us
 | [],_,r=>by rw[List.map_nil] at r; cases r; exact .nil
 | k::ks,_,r=>by
  rw[List.map_cons] at r
  cases r with
  | cons h t=>exact .cons (kV_is h) (items_are t)
noncomputable abbrev KT (H:Hp):List (List Key × V)->List (List Key × Addr × Value)->Prop:=Paired fun p q=>p.1=q.1/\H q.2.1=some (.tup (p.1.map kV))/\RelV p.2 q.2.2
theorem KT.val {H:Hp}{kvs:List (List Key × V)}{xs:List (List Key × Addr × Value)}(r:KT H kvs xs)(k:List Key):RelO (valV kvs k) ((atKey xs k).map (·.2)):=by
 induction r with
 | nil=>exact True.intro
 | @cons p q ps qs h t ih =>
  obtain⟨h1,_,h2⟩:=h
  by_cases e:p.1=k
  ·have e':q.1=k:=h1.symm.trans e
   have b:atKey (q::qs) k=some q.2:=by simp[atKey,List.find?_cons,e']
   rw[valV_pos e,b]; exact h2
  ·have e':¬ q.1=k:=fun z=>e (h1.trans z)
   have b:atKey (q::qs) k=atKey qs k:=by simp[atKey,List.find?_cons,e']
   rw[valV_neg e,b]; exact ih
theorem KT.repl {H:Hp}{kvs:List (List Key × V)}{xs:List (List Key × Addr × Value)}(r:KT H kvs xs)(k:List Key){y:V}{u:Value}(ry:RelV y u) :
  KT H (kvs.map fun kv=>if kv.1=k then (kv.1,y) else kv) (xs.map (putAt k u)):=by
 induction r with
 | nil=>exact .nil
 | @cons p q ps qs h t ih =>
  rw[List.map_cons,List.map_cons]
  refine .cons ?_ ih
  obtain⟨h1,h2,h3⟩:=h
  unfold putAt
  by_cases e:p.1=k
  ·rw[if_pos e,if_pos (h1.symm.trans e)]; exact⟨h1,h2,ry⟩
  ·rw[if_neg e,if_neg (fun z=>e (h1.trans z))]; exact⟨h1,h2,h3⟩
theorem KT.put {H:Hp}{kvs:List (List Key × V)}{xs:List (List Key × Addr × Value)}(r:KT H kvs xs)(k:List Key){b:Addr}{y:V}{u:Value}(hb:H b=some (.tup (k.map kV)))(ry:RelV y u) :
  KT H (putK kvs k y) (storedH xs k b u):=by
 have e:(kvs.any fun kv=>decide (kv.1=k))=(atKey xs k).isSome:=by
  rw[valV_any,(r.val k).isSome_eq,Option.isSome_map]
 unfold putK storedH
 rw[e]
 by_cases q:(atKey xs k).isSome=true
 ·rw[if_pos q,if_pos q]; exact r.repl k ry
 ·rw[if_neg q,if_neg q]; exact Paired.snoc r ⟨rfl,hb,ry⟩
theorem KT.keeps {H H':Hp}{kvs:List (List Key × V)}{xs:List (List Key × Addr × Value)}(r:KT H kvs xs)(ht:∀ b ys,H b=some (.tup ys)->H' b=some (.tup ys)):KT H' kvs xs :=
 Paired.mapP r fun _ _ z=>⟨z.1,ht _ _ z.2.1,z.2.2⟩
section
variable {P:Program}{w:World}{H:Hp}{h:Heap}{a:Addr}
theorem rd_of {u:HO}(ok:HOk P w H h)(e:Rd H a u):ObjOk P w H h a u:=e.ok ok
theorem dk_rd {kvs:List (Key × V)}(ok:HOk P w H h)(e:Rd H a (.dK kvs)):kvs.length<=sizeLine/\(a == sysModules)=false/\∃ vs,KV kvs vs/\h.DictOf (mixKind P w) a vs :=
 show ObjOk P w H h a (.dK kvs) from rd_of ok e
theorem dk_of {kvs:List (Key × V)}(ok:HOk P w H h)(e:H a=some (.dK kvs)):kvs.length<=sizeLine/\(a == sysModules)=false/\∃ vs,KV kvs vs/\h.DictOf (mixKind P w) a vs:=dk_rd ok (.inl e)
theorem key_of {ks:List Key}(ok:HOk P w H h)(e:H a=some (.tup (ks.map kV))):(tupleKind (mixKind P w)).is h ks a:=by
 obtain⟨_,its,r,o,h1,h2,n,h3⟩:=(show ObjOk P w H h a (.tup (ks.map kV)) from ok a _ e)
 exact⟨o,its.toArray,n,h1,h2,h3,by simpa using items_are r⟩
theorem dt_rd {kvs:List (List Key × V)}(ok:HOk P w H h)(e:Rd H a (.dT kvs)):kvs.length<=sizeLine/\(a == sysModules)=false /\
  ∃ xs,KT H kvs xs/\h.DictOfH (tupleKind (mixKind P w)) a xs:=by
 obtain⟨z,y,xs,r,o,es,ep,h1,h2,h3,h4,h5⟩:=(show ObjOk P w H h a (.dT kvs) from rd_of ok e)
 refine⟨z,y,xs,r,o,es,ep,h1,h2,h3,h4,fun x hx=>?_,h5⟩
 have all:∀ {l:List (List Key × V)} {m:List (List Key × Addr × Value)},KT H l m->∀ x∈m,(tupleKind (mixKind P w)).is h x.1 x.2.1:=by
  intro l m q
  induction q with
  | nil=>intro x hx; exact nomatch hx
  | @cons p q ps qs hq t ih =>
   intro x hx
   rcases List.mem_cons.mp hx with e|hx
   ·subst e
    exact key_of ok (by rw[<- hq.1]; exact hq.2.1)
   ·exact ih x hx
 exact all r x hx
theorem dt_of {kvs:List (List Key × V)}(ok:HOk P w H h)(e:H a=some (.dT kvs)):kvs.length<=sizeLine/\(a == sysModules)=false /\
  ∃ xs,KT H kvs xs/\h.DictOfH (tupleKind (mixKind P w)) a xs:=dt_rd ok (.inl e)
end
noncomputable def DGet (H:Hp)(a:Addr)(y:V)(r:Option V):Prop :=
 (∃ kvs k,Rd H a (.dK kvs)/\y=kV k/\r=valV kvs k)\/∃ kvs k b,Rd H a (.dT kvs)/\y=.ref b/\H b=some (.tup (k.map kV))/\r=valV kvs k
noncomputable def DPut (H:Hp)(a:Addr)(y v:V)(H':Hp):Prop :=
 (∃ kvs k,H a=some (.dK kvs)/\y=kV k/\kvs.length<sizeLine/\H'=upd H a (.dK (putK kvs k v))) \/
 ∃ kvs k b,H a=some (.dT kvs)/\y=.ref b/\H b=some (.tup (k.map kV))/\kvs.length<sizeLine/\H'=upd H a (.dT (putK kvs k v))
section
variable {X:Cx}{pins:List (Addr × Obj)}{σ:St}{H:Hp}{s:Shared}{a:Addr}{y v:V}{u r:Value}{o:Option V}{A:Around}{E:Value->Shared->Prop}
theorem Inv.big (I:Inv X pins σ H s):sysModules<s.heap.objs.size:=by
 have h:mainGlobals<s.heap.objs.size:=(I.mod.glob.keeps I.bk).lt
 exact Nat.lt_trans (by decide) h
theorem d_getItem {Q:Value->Shared->Prop}(hu:A.units+1<cLine)(I:Inv X pins σ H s)(g:DGet H a y (some v))(ry:RelV y u)(h:∀ w' s',Inv X pins σ H s'->RelV v w'->Q w' s') :
  wpAny (model X.prog X.w) A (getItem (.ref a) u) Q E s:=by
 rcases g with ⟨kvs,k,e,ey,l⟩|⟨kvs,k,b,e,ey,eb,l⟩
 ·subst ey
  obtain⟨z,hd,vs,rel,dd⟩:=dk_rd I.hok e
  obtain⟨w',hw,rw'⟩:=RelO.some_of (v:=v) (o:=valueAt vs k) (by rw[l]; exact rel.val k)
  exact wpAny_getItem_of (kV_is ry) dd.mapOf hw (h w' _ (I.tok _) rw')
 ·subst ey
  cases (show u=Value.ref b from ry)
  obtain⟨z,hd,xs,rel,dd⟩:=dt_rd I.hok e
  obtain⟨w',hw,rw'⟩:=RelO.some_of (v:=v) (o:=(atKey xs k).map (·.2)) (by rw[l]; exact rel.val k)
  obtain⟨p,hp,hp2⟩:=Option.map_eq_some_iff.mp hw
  refine wpAny_getItem_heap (tupleKind_room_in1 hu) (key_of I.hok eb) dd hp ?_
  rw[hp2]
  exact h w' _ (I.tok _) rw'
theorem d_write {h':Heap}{t':Nat}{ob:HO}(I:Inv X pins σ H s)(mu:Mut (H a))(hs:Heap.SameBut a s.heap h')(he:∃ q,h'.get? a=some q)(new:ObjOk X.prog X.w (upd H a ob) h' a ob) :
  Inv X pins σ (upd H a ob) { s with heap:=h',toks:=t' } :=
 I.write (x:=a) (e:=a) mu (.inl rfl) (fun b q hb z=>(hs.2 b hb).trans z) he new
theorem dk_new {P:Program}{w:World}{H':Hp}{h':Heap}{kvs:List (Key × V)}{vs:List (Key × Value)}(z:kvs.length<=sizeLine)(hd:(a == sysModules)=false)(rel:KV kvs vs)(dd:h'.DictOf (mixKind P w) a vs) :
  ObjOk P w H' h' a (.dK kvs):=⟨z,hd,vs,rel,dd⟩
theorem d_setItem {H':Hp}{Q:Unit->Shared->Prop}(hu:A.units+1<cLine)(I:Inv X pins σ H s)(g:DPut H a y v H')(ry:RelV y u)(rv:RelV v r)(h:∀ s',Inv X pins σ H' s'->Q () s') :
  wpAny (model X.prog X.w) A (setItem (.ref a) u r) Q E s:=by
 rcases g with ⟨kvs,k,e,ey,l,eH⟩|⟨kvs,k,b,e,ey,eb,l,eH⟩
 ·subst ey eH
  obtain⟨z,hd,vs,rel,dd⟩:=dk_of I.hok e
  have hz:vs.length<=sizeLine:=by rw[<- rel.length]; exact z
  have hl:(putK kvs k v).length<=sizeLine:=by have:=length_putK kvs k v; omega
  refine wpAny_setItem_pairs (hsz:=hz) (kV_is ry) dd fun h' dd' hs=>h _ ?_
  have he:∃ q,h'.get? a=some q:=let ⟨q,_,_,hq,_⟩:=dd'; ⟨q,hq⟩
  exact d_write I (by rw[e]; exact True.intro) hs he (dk_new hl hd (rel.put k rv) dd')
 ·subst ey eH
  cases (show u=Value.ref b from ry)
  obtain⟨z,hd,xs,rel,dd⟩:=dt_of I.hok e
  have hz:xs.length<=sizeLine:=by rw[<- Paired.length rel]; exact z
  have hl:(putK kvs k v).length<=sizeLine:=by have:=length_putK kvs k v; omega
  refine wpAny_setItem_heap (hsz:=hz) (tupleKind_room_in1 hu) (key_of I.hok eb) dd fun h' dd' hs=>h _ ?_
  obtain⟨q,es,ep,hq,h2,h3,h4,_,h5⟩:=dd'
  refine d_write I (by rw[e]; exact True.intro) hs ⟨q,hq⟩ ⟨hl,hd,_,(rel.put k eb rv).keeps fun c ys ec=>?_,q,es,ep,hq,h2,h3,h4,h5⟩
  rw[upd_ne (ne_of ec e (fun z=>nomatch z))]
  exact ec
end
section
variable {X:Cx}{pins:List (Addr × Obj)}{σ:St}{H:Hp}{s:Shared}{a:Addr}{kvs:List (Key × V)}{k:Key}{u:Value}{A:Around}{E:Value->Shared->Prop}
end
noncomputable def NoSl (i:Expr):Prop:=∀ ov iv,subscripted i false ov iv=operate [ov,iv] (getItem ov iv)
theorem subD_of {prog:Program}{w:World}{A:Around}{E:Value->Shared->Prop}{s:Shared}{env:Env}{value slice:Expr}{pos:Pos}{T id:String}{Q:Value->Shared->Prop}
  (hl:typeLookup (.type T) "__getitem__"=pure (some (.builtin id))) (hs:NoSl slice)
  (h:wpAny (model prog w) A (eval value env) (fun o s₁=>wpAny (model prog w) A (eval slice env) (fun i s₂=>s₂.TypeIs o T/\wpAny (model prog w) A (getItem o i) Q E s₂) E s₁) E s) :
  wpAny (model prog w) A (eval (.Subscript value slice pos) env) Q E s:=by
 refine Subscript_ (wpAny_mono h (fun o s₁ h₁=>wpAny_mono h₁ (fun i s₂ h₂=>?_) fun _ _ x=>x) fun _ _ x=>x)
 obtain⟨hT,h₂⟩:=h₂
 unfold subscriptTail
 refine wpAny_bind ?_
 rw[getitemInPython_of_ne hT.not_modules]
 refine wpAny_bind (wpAny_specialOf hT hl ?_)
 have fin:wpAny (model prog w) A (subscripted slice false o i) (fun r s₃=>wpAny (model prog w) A (letTemporaryGo value o r >>= fun _=>pure r) Q E s₃) E s₂:=by
  rw[hs o i]
  exact wpAny_operating (wpAny_mono h₂ (fun r s₃ h₃=>wpAny_bind (wpAny_letTemporaryGo (wpAny_pure h₃))) fun _ _ x=>x)
 first
  | exact wpAny_pure (wpAny_bind fin)
  | exact wpAny_bind (wpAny_pure (wpAny_bind fin))
  | exact wpAny_bind fin
theorem dict_typeIs {X:Cx}{pins:List (Addr × Obj)}{σ:St}{H:Hp}{s:Shared}{a:Addr}{y:V}{o:Option V}(I:Inv X pins σ H s)(g:DGet H a y o):s.TypeIs (.ref a) "dict":=by
 rcases g with ⟨kvs,k,e,_,_⟩|⟨kvs,k,b,e,_,_,_⟩
 ·obtain⟨_,_,vs,_,dd⟩:=dk_rd I.hok e
  exact dd.typeIs
 ·obtain⟨_,_,xs,_,dd⟩:=dt_rd I.hok e
  exact dd.typeIs
noncomputable def tDGet (td ty:TE):TE:=fun σ H Q=>td σ H fun x H1=>ty σ H1 fun y H2=>∃ a v,x=.ref a/\DGet H2 a y (some v)/\Q v H2
noncomputable def sDPut (td ty tv:TE):TS:=fun D σ H=>tv σ H fun v H1=>td σ H1 fun x H2=>ty σ H2 fun y H3=>∃ a H4,x=.ref a/\DPut H3 a y v H4/\D.nx σ H4
section
variable {X:Cx}{o i e value:Expr}{pos pos' tpos:Pos}{td ty tv:TE}
theorem pe_dget (hu:X.A.units+1<cLine)(ho:PE X o td)(hi:PE X i ty)(hs:NoSl i):PE X (.Subscript o i pos) (tDGet td ty):=by
 intro pins s σ H Q I h
 refine subD_of PySem.F.slot_dict_getitem.lookup hs (thn (ho pins s σ H _ I h) fun u s1 ⟨x,H1,I1,rx,q1⟩=>thn (hi pins s1 σ H1 _ I1 q1) fun iv s2 ⟨y,H2,I2,ry,a,v,ex,g,q2⟩=>?_)
 subst ex
 obtain rfl:u=Value.ref a:=rx
 exact⟨dict_typeIs I2 g,d_getItem hu I2 g ry fun w' s3 I3 rw'=>⟨v,H2,I3,rw',q2⟩⟩
theorem ps_dput (hu:X.A.units+1<cLine)(ho:PE X o td)(hi:PE X i ty)(hv:PE X value tv)(hs:swapsWith value (some (.Subscript o i pos')) pos.line X.env=pure false) :
  PS X (.Assign [.Subscript o i pos'] value pos) (sDPut td ty tv):=by
 intro pins s σ H D I h
 refine wpAny_Assign_Subscript (thn (hv pins s σ H _ I h) fun r s1 ⟨v,H1,I1,rv,q1⟩=>thn (ho pins s1 σ H1 _ I1 q1) fun u s2 ⟨x,H2,I2,rx,q2⟩=>thn (hi pins s2 σ H2 _ I2 q2) fun iv s3 ⟨y,H3,I3,ry,a,H4,ex,g,q3⟩=>?_) hs
 subst ex
 obtain rfl:u=Value.ref a:=rx
 exact d_setItem hu I3 g ry rv fun s4 I4=>⟨σ,H4,I4,q3⟩
end
theorem dk_empty {P:Program}{w:World}{H:Hp}(h:Heap)(hb:sysModules<h.objs.size):ObjOk P w H (h.push { cls:=.type "dict",data:=.dict #[] }) h.objs.size (.dK []) :=
 ⟨Nat.zero_le _,beq_eq_false_iff_ne.mpr (Ne.symm (Nat.ne_of_lt hb)),[],.nil,Heap.DictOf.new h⟩
noncomputable def tDNewK:TE:=fun _ H Q=>∀ p,H p=none->Q (.ref p) (upd H p (.dK []))
section
variable {X:Cx}{pos:Pos}
theorem pe_dnewK:PE X (.Dict [] [] pos) tDNewK:=fun pins s σ H Q I h =>
 wpAny_Dict_empty ⟨.ref s.heap.objs.size,_,I.laid (a:=s.heap.objs.size) (o:=.dK []) (t':=s.toks) (fun _ _ q=>Heap.get?_push_of_some _ q) (Nat.le_refl _) (dk_empty s.heap I.big),rfl,h _ (I.hok.fresh (Nat.le_refl _))⟩
end
structure M1 (X:Cx)(o:Expr)(m:Str)(apos:Pos)(e:Expr)(cpos:Pos):Prop where
 base:attributeBase o m X.env (eval o X.env)=eval o X.env
 few:((backTo cpos (starEach [e] X.env)).all (fun x=>!x.1)&&(backToKw cpos (keywordEach [] X.env)).all (fun x=>x.1.isSome)
  && decide (([e]:List Expr).length+([]:List Keyword).length+(if ([]:List Keyword).isEmpty then 0 else 1)<30))=true
 line:(apos.endLine == cpos.line)=true
 trees:backTo cpos (starEach [e] X.env)=[(false,eval e X.env)]
structure M2 (X:Cx)(o:Expr)(m:Str)(apos:Pos)(e f:Expr)(cpos:Pos):Prop where
 base:attributeBase o m X.env (eval o X.env)=eval o X.env
 few:((backTo cpos (starEach [e,f] X.env)).all (fun x=>!x.1)&&(backToKw cpos (keywordEach [] X.env)).all (fun x=>x.1.isSome)
  && decide (([e,f]:List Expr).length+([]:List Keyword).length+(if ([]:List Keyword).isEmpty then 0 else 1)<30))=true
 line:(apos.endLine == cpos.line)=true
 trees:backTo cpos (starEach [e,f] X.env)=[(false,eval e X.env),(false,eval f X.env)]
noncomputable def IsD (H:Hp)(a:Addr):Prop:=(∃ kvs,Rd H a (.dK kvs))\/∃ kvs,Rd H a (.dT kvs)
theorem isD_at {X:Cx}{pins:List (Addr × Obj)}{σ:St}{H:Hp}{s:Shared}{a:Addr}(I:Inv X pins σ H s)(d:IsD H a) :
  s.TypeIs (.ref a) "dict"/\(∀ b,Value.ref a=.ref b->∃ ob,s.heap.get? b=some ob/\ob.dict=none)/\(a == sysModules)=false:=by
 rcases d with ⟨kvs,e⟩|⟨kvs,e⟩
 ·obtain⟨_,hd,vs,_,dd⟩:=dk_rd I.hok e
  refine⟨dd.typeIs,fun b q=>?_,hd⟩
  cases q
  obtain⟨ob,_,_,h1,h2,_⟩:=dd
  exact⟨ob,h1,h2.2.1⟩
 ·obtain⟨_,hd,xs,_,dd⟩:=dt_rd I.hok e
  refine⟨dd.typeIs,fun b q=>?_,hd⟩
  cases q
  obtain⟨ob,_,_,h1,h2,_⟩:=dd
  exact⟨ob,h1,h2.2.1⟩
section
variable {X:Cx}{pins:List (Addr × Obj)}{σ:St}{H:Hp}{s:Shared}{a:Addr}{y d:V}{u r:Value}{o:Option V}{A:Around}{E:Value->Shared->Prop}
end
section
variable {X:Cx}{o e f:Expr}{apos cpos:Pos}{td ty tx:TE}
end
section
variable {X:Cx}{pins:List (Addr × Obj)}{σ:St}{H:Hp}{s:Shared}{a:Addr}{kvs:List (Key × V)}{A:Around}{E:Value->Shared->Prop}
end
section
variable {X:Cx}{pins:List (Addr × Obj)}{σ:St}{H:Hp}{s:Shared}{a:Addr}{y:V}{u:Value}{A:Around}{E:Value->Shared->Prop}
end
end L2
namespace Dv
inductive D where
 | non
 | bl (b:Bool)
 | int (i:Int)
  | str (x:List Nat)
 | lst (ds:List D)
 | tup (ds:List D)
  | exn (c:String)
  | raw (a:Nat)
  | tab (rows:List (List Int))
  | dct (ks:List Int) (ds:List D)
noncomputable def scal:D->Bool
 | .lst _=>false
 | .tup _=>false
 | .exn _=>false
 | .raw _=>false
 | .tab _=>false
 | .dct _ _=>false
 | _=>true
noncomputable def noTy:D->Bool
 | .exn _=>true
 | .raw _=>true
 | .tab _=>true
 | _=>false
noncomputable def flatL:List D->Bool
 | []=>true
 | d::r=>scal d&&flatL r
noncomputable def clipS (x:List Nat):List Nat:=x.map (·%1114112)
mutual
noncomputable def eqD:D->D->Option Bool
 | .non,.non=>some true
 | .bl a,.bl b=>some (a == b)
 | .int a,.int b=>some (decide (a=b))
 | .str a,.str b=>some (decide (clipS a=clipS b))
 | .lst a,.lst b=>eqDL a b
 | .tup a,.tup b=>eqDL a b
 | _,_=>none
noncomputable def eqDL:List D->List D->Option Bool
 | [],[]=>some true
 | [],_::_=>some false
 | _::_,[]=>some false
 | a::x,b::y =>
  match eqD a b,eqDL x y with
  | some p,some q=>some (p&&q)
  | _,_=>none
end
mutual
noncomputable def depthD:D->Nat
 | .lst ds=>depthL ds+1
 | .tup ds=>depthL ds+1
 | .exn _=>100
 | .raw _=>100
 | .tab _=>100
 | .dct _ _=>100
 | _=>0
noncomputable def depthL:List D->Nat
 | []=>0
 | d::r=>max (depthD d) (depthL r)
end
noncomputable def intsOf:List D->Option (List Int)
 | []=>some []
 | .int i::r=>(intsOf r).map (i::·)
 | _::_=>none
noncomputable def bits (a:Int):Nat:=if a=0 then 0 else a.natAbs.log2+1
noncomputable def mulOk (i j:Int):Bool:=decide (bits i<=64) || decide (bits j<=64) || (decide (bits i<=1048576)&&decide (bits j<=1048576))
noncomputable def divOk (j:Int):Bool:=decide (0<j)&&decide (j.natAbs.log2<9000)
noncomputable def ins (i:Int):List Int->List Int
 | []=>[i]
 | j::r=>if i<=j then i::j::r else j::ins i r
noncomputable def isort:List Int->List Int
 | []=>[]
 | i::r=>ins i (isort r)
inductive R where
 | ok (d:D) (fr:Bool)
 | exc (c:String)
 | bad
inductive RL where
 | ok (ds:List D) (fr:Bool)
 | exc (c:String)
 | bad
noncomputable abbrev R.bind (r:R)(k:D->Bool->R):R:=match r with
 | .ok d fr=>k d fr
 | .exc c=>.exc c
 | .bad=>.bad
noncomputable abbrev RL.bind (r:RL)(k:List D->Bool->R):R:=match r with
 | .ok d fr=>k d fr
 | .exc c=>.exc c
 | .bad=>.bad
noncomputable abbrev R.bindL (r:R)(k:D->Bool->RL):RL:=match r with
 | .ok d fr=>k d fr
 | .exc c=>.exc c
 | .bad=>.bad
noncomputable abbrev RL.bindL (r:RL)(k:List D->Bool->RL):RL:=match r with
 | .ok d fr=>k d fr
 | .exc c=>.exc c
 | .bad=>.bad
noncomputable abbrev Env:=List (Option D)
noncomputable abbrev EE:=Env->R
noncomputable abbrev EL:=Env->RL
inductive Op where
 | add|sub|mul|mod|fdiv|pow|shr|band
inductive Cm where
 | lt|le|gt|ge|eq|ne|isin|notin|isT|isNotT
noncomputable def mx:Nat:=100000
noncomputable def opD:Op->D->D->R
 | .add,.int i,.int j=>.ok (.int (i+j)) true
 | .add,.lst a,.lst b=>if a.length+b.length<=mx then .ok (.lst (a++b)) (flatL a&&flatL b) else .bad
 | .sub,.int i,.int j=>.ok (.int (i-j)) true
 | .mul,.int i,.int j=>if mulOk i j then .ok (.int (i*j)) true else .bad
 | .mul,.lst a,.int j=>if decide (-100000<=j)&&decide (j<=mx)&&decide (a.length*j.toNat<=mx) then .ok (.lst (List.replicate j.toNat a).flatten) (flatL a) else .bad
 | .mod,.int i,.int j=>if decide (0<j) then .ok (.int (i%j)) true else .bad
 | .fdiv,.int i,.int j=>if divOk j then .ok (.int (i/j)) true else .bad
 | .pow,.int i,.int j=>if decide (0<=j)&&decide (j<=1000)&&decide (i.natAbs<1000000) then .ok (.int (i ^ j.toNat)) true else .bad
 | .band,.int i,.int j=>if decide (j=1) then .ok (.int (i%2)) true else .bad
 | .shr,.int i,.int j=>if decide (0<=j) then .ok (.int (i/2 ^ j.toNat)) true else .bad
 | _,_,_=>.bad
theorem opD_ai (i j:Int):opD .add (.int i) (.int j)=.ok (.int (i+j)) true:=rfl
theorem opD_al (a b:List D):opD .add (.lst a) (.lst b)=if a.length+b.length<=mx then .ok (.lst (a++b)) (flatL a&&flatL b) else .bad:=rfl
theorem opD_su (i j:Int):opD .sub (.int i) (.int j)=.ok (.int (i-j)) true:=rfl
theorem opD_mi (i j:Int):opD .mul (.int i) (.int j)=if mulOk i j then .ok (.int (i*j)) true else .bad:=rfl
theorem opD_ml (a:List D)(j:Int):opD .mul (.lst a) (.int j)=if decide (-100000<=j)&&decide (j<=mx)&&decide (a.length*j.toNat<=mx) then .ok (.lst (List.replicate j.toNat a).flatten) (flatL a) else .bad:=rfl
theorem opD_mo (i j:Int):opD .mod (.int i) (.int j)=if decide (0<j) then .ok (.int (i%j)) true else .bad:=rfl
theorem opD_fd (i j:Int):opD .fdiv (.int i) (.int j)=if divOk j then .ok (.int (i/j)) true else .bad:=rfl
theorem opD_po (i j:Int):opD .pow (.int i) (.int j)=if decide (0<=j)&&decide (j<=1000)&&decide (i.natAbs<1000000) then .ok (.int (i ^ j.toNat)) true else .bad:=rfl
theorem opD_ba (i j:Int):opD .band (.int i) (.int j)=if decide (j=1) then .ok (.int (i%2)) true else .bad:=rfl
theorem opD_sh (i j:Int):opD .shr (.int i) (.int j)=if decide (0<=j) then .ok (.int (i/2 ^ j.toNat)) true else .bad:=rfl
noncomputable def inD (i:Int):List D->Option Bool
 | []=>some false
 | .int j::r=>(inD i r).map (decide (j=i) || ·)
 | _::_=>none
noncomputable def optB:Option Bool->R
 | some b=>.ok (.bl b) true
 | none=>.bad
noncomputable def cmD:Cm->D->D->R
 | .eq,a,b=>if decide (depthD a<=9)&&decide (depthD b<=9) then optB (eqD a b) else .bad
 | .ne,a,b=>if decide (depthD a<=9)&&decide (depthD b<=9) then optB ((eqD a b).map (!·)) else .bad
 | .lt,.int i,.int j=>.ok (.bl (decide (i<j))) true
 | .le,.int i,.int j=>.ok (.bl (decide (i<=j))) true
 | .gt,.int i,.int j=>.ok (.bl (decide (j<i))) true
 | .ge,.int i,.int j=>.ok (.bl (decide (j<=i))) true
 | .isin,.int i,.lst b=>optB (inD i b)
 | .notin,.int i,.lst b=>optB ((inD i b).map (!·))
 | .isT,.bl a,.bl true=>.ok (.bl a) true
 | .isNotT,.bl a,.bl true=>.ok (.bl (!a)) true
 | _,_,_=>.bad
theorem cmD_eq (a b:D):cmD .eq a b=if decide (depthD a<=9)&&decide (depthD b<=9) then optB (eqD a b) else .bad:=rfl
theorem cmD_ne (a b:D):cmD .ne a b=if decide (depthD a<=9)&&decide (depthD b<=9) then optB ((eqD a b).map (!·)) else .bad:=rfl
theorem cmD_lt (i j:Int):cmD .lt (.int i) (.int j)=.ok (.bl (decide (i<j))) true:=rfl
theorem cmD_le (i j:Int):cmD .le (.int i) (.int j)=.ok (.bl (decide (i<=j))) true:=rfl
theorem cmD_gt (i j:Int):cmD .gt (.int i) (.int j)=.ok (.bl (decide (j<i))) true:=rfl
theorem cmD_ge (i j:Int):cmD .ge (.int i) (.int j)=.ok (.bl (decide (j<=i))) true:=rfl
theorem cmD_in (i:Int)(b:List D):cmD .isin (.int i) (.lst b)=optB (inD i b):=rfl
theorem cmD_ni (i:Int)(b:List D):cmD .notin (.int i) (.lst b)=optB ((inD i b).map (!·)):=rfl
theorem cmD_it (a:Bool):cmD .isT (.bl a) (.bl true)=.ok (.bl a) true:=rfl
theorem cmD_nt (a:Bool):cmD .isNotT (.bl a) (.bl true)=.ok (.bl (!a)) true:=rfl
noncomputable def eVar (i:Nat):EE:=fun ρ=>match ρ[i]? with
 | some (some d)=>.ok d (scal d)
 | _=>.bad
noncomputable def eInt (i:Int):EE:=fun _=>.ok (.int i) true
noncomputable def eBl (b:Bool):EE:=fun _=>.ok (.bl b) true
noncomputable def eOp (o:Op)(a b:EE):EE:=fun ρ=>(a ρ).bind fun x _=>(b ρ).bind fun y _=>opD o x y
noncomputable def eCm (o:Cm)(a b:EE):EE:=fun ρ=>(a ρ).bind fun x _=>(b ρ).bind fun y _=>cmD o x y
noncomputable def eNeg (a:EE):EE:=fun ρ=>(a ρ).bind fun x _=>match x with
 | .int i=>.ok (.int (-i)) true
 | _=>.bad
noncomputable def eAnd (a b:EE):EE:=fun ρ=>(a ρ).bind fun x _=>match x with
 | .bl true=>b ρ
 | .bl false=>.ok (.bl false) true
 | _=>.bad
noncomputable def eOr (a b:EE):EE:=fun ρ=>(a ρ).bind fun x _=>match x with
 | .bl true=>.ok (.bl true) true
 | .bl false=>b ρ
 | _=>.bad
noncomputable def eNot (a:EE):EE:=fun ρ=>(a ρ).bind fun x _=>match x with
 | .bl b=>.ok (.bl (!b)) true
 | _=>.bad
noncomputable def lNil:EL:=fun _=>.ok [] true
noncomputable def lCons (a:EE)(r:EL):EL:=fun ρ=>(a ρ).bindL fun d f=>(r ρ).bindL fun ds g=>.ok (d::ds) (f&&g)
noncomputable def eLst (a:EL):EE:=fun ρ=>(a ρ).bind fun ds f=>.ok (.lst ds) f
noncomputable def eTup (a:EL):EE:=fun ρ=>(a ρ).bind fun ds f=>.ok (.tup ds) f
noncomputable def at? (ds:List D)(i:Int):Option D:=if 0<=i then ds[i.toNat]? else if -(ds.length:Int)<=i then ds[(i+ds.length).toNat]? else none
noncomputable def ixD (a i:D)(f:Bool):R:=match a,i with
 | .lst ds,.int k=>match at? ds k with
  | some d=>.ok d (f || scal d)
  | none=>.bad
 | .tup ds,.int k=>match at? ds k with
  | some d=>.ok d (f || scal d)
  | none=>.bad
 | _,_=>.bad
noncomputable def eIx (a i:EE):EE:=fun ρ=>(a ρ).bind fun x f=>(i ρ).bind fun y _=>ixD x y f
noncomputable def eCall (F:List D->R)(a:EL):EE:=fun ρ=>(a ρ).bind fun ds _=>F ds
noncomputable def eB1 (F:D->Bool->R)(a:EE):EE:=fun ρ=>(a ρ).bind F
noncomputable def lenD:D->Bool->R
 | .lst ds,_=>.ok (.int ds.length) true
 | .tup ds,_=>.ok (.int ds.length) true
 | _,_=>.bad
noncomputable def sortedD:D->Bool->R
 | .lst ds,_=>match intsOf ds with
  | some ns=>if ns.length<64 then .ok (.lst ((isort ns).map .int)) true else .bad
  | none=>.bad
 | _,_=>.bad
noncomputable def listD:D->Bool->R
 | .lst ds,f=>.ok (.lst ds) (f || flatL ds)
 | .tup ds,f=>.ok (.lst ds) (f || flatL ds)
 | _,_=>.bad
noncomputable def cutI (n:Nat)(dflt:Nat):Option Int->Nat
 | none=>dflt
 | some i=>if i<0 then (i+(n:Int)).toNat else min i.toNat n
noncomputable def cutL {α:Type}(ds:List α)(lo hi:Option Int):List α:=(ds.drop (cutI ds.length 0 lo)).take (cutI ds.length ds.length hi-cutI ds.length 0 lo)
noncomputable def sliceD (a:D)(f:Bool)(lo hi:Option Int):R:=match a with
 | .lst ds=>.ok (.lst (cutL ds lo hi)) (f || flatL (cutL ds lo hi))
 | _=>.bad
noncomputable def ePart (p:Option EE)(ρ:Env)(k:Option Int->R):R:=match p with
 | none=>k none
 | some e=>(e ρ).bind fun d _=>match d with
  | .int i=>k (some i)
  | _=>.bad
noncomputable def eSlice (a:EE)(lo hi:Option EE):EE:=fun ρ=>(a ρ).bind fun x f=>ePart lo ρ fun i=>ePart hi ρ fun j=>sliceD x f i j
noncomputable def eB2 (F:D->D->R)(a b:EE):EE:=fun ρ=>(a ρ).bind fun x _=>(b ρ).bind fun y _=>F x y
noncomputable def max2D:D->D->R
 | .int i,.int j=>.ok (.int (if j > i then j else i)) true
 | _,_=>.bad
noncomputable def min2D:D->D->R
 | .int i,.int j=>.ok (.int (if j<i then j else i)) true
 | _,_=>.bad
noncomputable def intD:D->Bool->R
 | .int i,_=>.ok (.int i) true
 | .bl b,_=>.ok (.int (if b then 1 else 0)) true
 | _,_=>.bad
noncomputable def isListD:D->Bool->R
 | .exn _,_=>.bad
 | .raw _,_=>.bad
 | .tab _,_=>.bad
 | .lst _,_=>.ok (.bl true) true
 | _,_=>.ok (.bl false) true
noncomputable def isIntD:D->Bool->R
 | .exn _,_=>.bad
 | .raw _,_=>.bad
 | .tab _,_=>.bad
 | .int _,_=>.ok (.bl true) true
 | .bl _,_=>.ok (.bl true) true
 | _,_=>.ok (.bl false) true
noncomputable def isBoolD:D->Bool->R
 | .exn _,_=>.bad
 | .raw _,_=>.bad
 | .tab _,_=>.bad
 | .bl _,_=>.ok (.bl true) true
 | _,_=>.ok (.bl false) true
noncomputable def subX (c k:String):Bool:=c == k || k == "WheelError" || k == "ValueError"
inductive RI where
 | ok (ds:List D) (fr:Bool)
 | exc (c:String)
 | bad
noncomputable abbrev EI:=Env->RI
noncomputable def rangeL (lo:Int):Nat->List D
 | 0=>[]
 | n+1=>.int lo::rangeL (lo+1) n
noncomputable def iSeq (a:EE):EI:=fun ρ=>match a ρ with
 | .ok (.lst ds) f=>.ok ds f
 | .exc c=>.exc c
 | _=>.bad
noncomputable def rngOk (i:Int):Bool:=decide (-1000000<=i)&&decide (i<=1000000)
noncomputable def iRange (a:EE):EI:=fun ρ=>match a ρ with
 | .ok (.int j) _=>if rngOk j then .ok (rangeL 0 j.toNat) true else .bad
 | .exc c=>.exc c
 | _=>.bad
noncomputable def iRange2 (a b:EE):EI:=fun ρ=>match a ρ with
 | .ok (.int i) _=>match b ρ with
  | .ok (.int j) _=>if rngOk i&&rngOk j then .ok (rangeL i (j-i).toNat) true else .bad
  | .exc c=>.exc c
  | _=>.bad
 | .exc c=>.exc c
 | _=>.bad
noncomputable def iZip (a b:EE):EI:=fun ρ=>match a ρ with
 | .ok (.lst xs) _=>match b ρ with
  | .ok (.lst ys) _=>.ok (List.zipWith (fun x y=>.tup [x,y]) xs ys) true
  | .exc c=>.exc c
  | _=>.bad
 | .exc c=>.exc c
 | _=>.bad
noncomputable def compGo (elt:EE)(cond:EE)(free:Env):List D->RL
 | []=>.ok [] true
 | d::r=>match cond (some d::free) with
  | .ok (.bl true) _=>match elt (some d::free) with
   | .ok x f=>match compGo elt cond free r with
    | .ok xs g=>.ok (x::xs) (f&&g)
    | _=>.bad
   | _=>.bad
  | .ok (.bl false) _=>compGo elt cond free r
  | _=>.bad
noncomputable def pick (ρ:Env)(is:List Nat):Env:=is.map fun i=>(ρ[i]?).getD none
noncomputable def eComp (elt cond:EE)(is:List Nat)(it:EI):EE:=fun ρ=>match it ρ with
 | .ok ds _=>if ds.length<=mx then match compGo elt cond (pick ρ is) ds with
   | .ok xs f=>.ok (.lst xs) f
   | _=>.bad
  else .bad
 | .exc c=>.exc c
 | .bad=>.bad
inductive Sl where
 | no
 | sh (d:D)
 | ow (d:D)
  | dp (d:D)
  | jk (n m:Nat)
noncomputable abbrev St:=List Sl
noncomputable def Sl.get:Sl->Option D
 | .no=>none
 | .sh d=>some d
 | .ow d=>some d
 | .dp d=>some d
 | .jk _ _=>none
noncomputable def Sl.shared:Sl->Option D
 | .sh d=>some d
 | _=>none
noncomputable def Sl.give:Sl->Sl
 | .ow d=>.sh d
 | .dp d=>.sh d
 | s=>s
noncomputable def all (st:St):Env:=st.map Sl.get
noncomputable def open_ (st:St):Env:=st.map Sl.shared
noncomputable def give (is:List Nat)(st:St):St:=is.foldl (fun st i=>st.set i ((st[i]?.getD .no).give)) st
inductive Out where
 | nx (st:St)
 | ret (d:D) (nw:Bool)
 | brk (st:St)
 | cont (st:St)
 | exc (c:String) (st:St)
 | bad
noncomputable abbrev SS:=St->Out
noncomputable abbrev Out.bind (o:Out)(k:St->Out):Out:=match o with
 | .nx st=>k st
 | o=>o
noncomputable def sNil:SS:=fun st=>.nx st
noncomputable def sCons (a r:SS):SS:=fun st=>(a st).bind r
noncomputable def keepD (d:D)(f:Bool):Option Sl:=match d with
 | .lst ds=>if f&&flatL ds then some (.ow d) else none
 | .tup _=>none
 | .exn _=>none
 | .raw _=>none
 | .tab _=>none
 | .dct ks ds=>if f&&ks.isEmpty&&ds.isEmpty then some (.ow d) else none
 | _=>some (.sh d)
noncomputable def sSet (i:Nat)(e:EE):SS:=fun st=>match e (all st) with
 | .ok d f=>match keepD d f with
  | some s=>.nx (st.set i s)
  | none=>.bad
 | .exc c=>.exc c st
 | .bad=>.bad
noncomputable def sSetG (is:List Nat)(i:Nat)(e:EE):SS:=fun st=>match e (open_ (give is st)) with
 | .ok d _=>.nx ((give is st).set i (.sh d))
 | .exc c=>.exc c st
 | .bad=>.bad
noncomputable def sExpr (e:EE):SS:=fun st=>match e (all st) with
 | .ok _ _=>.nx st
 | .exc c=>.exc c st
 | .bad=>.bad
noncomputable def sRet (e:EE):SS:=fun st=>match e (all st) with
 | .ok d f=>.ret d f
 | .exc c=>.exc c st
 | .bad=>.bad
noncomputable def sRetO (i:Nat):SS:=fun st=>match st[i]? with
 | some (.ow (.lst ds))=>.ret (.lst ds) (flatL ds)
 | some (.ow (.dct ks ds))=>.ret (.dct ks ds) false
 | some (.dp d)=>.ret d true
 | some (.sh d)=>.ret d (scal d)
 | _=>.bad
noncomputable def sIf (c:EE)(a b:SS):SS:=fun st=>match c (all st) with
 | .ok (.bl true) _=>a st
 | .ok (.bl false) _=>b st
 | .exc c=>.exc c st
 | _=>.bad
noncomputable def sRaise (c:String):SS:=fun st=>.exc c st
noncomputable def sApp (i:Nat)(e:EE):SS:=fun st=>match st[i]? with
 | some (.ow (.lst ds))=>match e (all st) with
  | .ok d _=>if scal d&&decide (ds.length<mx) then .nx (st.set i (.ow (.lst (ds++[d])))) else .bad
  | .exc c=>.exc c st
  | .bad=>.bad
 | _=>.bad
noncomputable def sPut (i:Nat)(k e:EE):SS:=fun st=>match st[i]? with
 | some (.ow (.lst ds))=>match e (all st) with
  | .ok d _=>match k (all st) with
   | .ok (.int j) _=>if scal d&&decide (0<=j)&&decide (j<ds.length) then .nx (st.set i (.ow (.lst (ds.set j.toNat d)))) else .bad
   | .exc c=>.exc c st
   | _=>.bad
  | .exc c=>.exc c st
  | .bad=>.bad
 | _=>.bad
noncomputable def sAugIx (i:Nat)(o:Op)(k e:EE):SS:=fun st=>match st[i]? with
 | some (.ow (.lst ds))=>match k (all st) with
  | .ok (.int j) _=>if 0<=j then match at? ds j with
    | some x=>match e (all st) with
     | .ok y _=>match opD o x y with
      | .ok (.int z) _=>.nx (st.set i (.ow (.lst (ds.set j.toNat (.int z)))))
      | _=>.bad
     | .exc c=>.exc c st
     | .bad=>.bad
    | none=>.bad
   else .bad
  | .exc c=>.exc c st
  | _=>.bad
 | _=>.bad
noncomputable def sExt (i:Nat)(e:EE):SS:=fun st=>match st[i]? with
 | some (.ow (.lst ds))=>match e (all st) with
  | .ok (.lst es) f=>if f&&flatL es&&decide (ds.length+es.length<=mx) then .nx (st.set i (.ow (.lst (ds++es)))) else .bad
  | .exc c=>.exc c st
  | _=>.bad
 | _=>.bad
noncomputable def forGo (x:Nat)(body:SS):List D->SS
 | [],st=>.nx st
 | d::r,st=>match body (st.set x (.sh d)) with
  | .nx st'=>forGo x body r st'
  | .cont st'=>forGo x body r st'
  | .brk st'=>.nx st'
  | o=>o
noncomputable def sFor (is:List Nat)(x:Nat)(it:EI)(body:SS):SS:=fun st=>match it (open_ (give is st)) with
 | .ok ds _=>forGo x body ds (give is st)
 | .exc c=>.exc c st
 | .bad=>.bad
noncomputable def whileGo (c:EE)(body:SS):Nat->SS
 | 0,_=>.bad
 | n+1,st=>match c (all st) with
  | .ok (.bl true) _=>match body st with
   | .nx st'=>whileGo c body n st'
   | .cont st'=>whileGo c body n st'
   | .brk st'=>.nx st'
   | o=>o
  | .ok (.bl false) _=>.nx st
  | .exc c=>.exc c st
  | _=>.bad
noncomputable def sWhile (n:Nat)(c:EE)(body:SS):SS:=whileGo c body n
noncomputable def setAll:List Nat->List D->St->St
 | i::is,d::ds,st=>setAll is ds (st.set i (.sh d))
 | _,_,st=>st
noncomputable def sUnpack (is:List Nat)(xs:List Nat)(e:EE):SS:=fun st=>match e (open_ (give is st)) with
 | .ok (.tup ds) _=>if ds.length=xs.length then .nx (setAll xs ds (give is st)) else .bad
 | .exc c=>.exc c st
 | _=>.bad
noncomputable def sPar (is:List Nat)(x y:Nat)(a b:EE):SS:=fun st=>match a (open_ (give is st)) with
 | .ok d _=>match b (open_ (give is st)) with
  | .ok d' _=>.nx (((give is st).set x (.sh d)).set y (.sh d'))
  | .exc c=>.exc c st
  | .bad=>.bad
 | .exc c=>.exc c st
 | .bad=>.bad
noncomputable def forGoT (tgt:D->St->Option St)(body:SS):List D->SS
 | [],st=>.nx st
 | d::r,st=>match tgt d st with
  | none=>.bad
  | some st1=>match body st1 with
   | .nx st'=>forGoT tgt body r st'
   | .cont st'=>forGoT tgt body r st'
   | .brk st'=>.nx st'
   | o=>o
noncomputable def sForT (is:List Nat)(tgt:D->St->Option St)(it:EI)(body:SS):SS:=fun st=>match it (open_ (give is st)) with
 | .ok ds _=>forGoT tgt body ds (give is st)
 | .exc c=>.exc c st
 | .bad=>.bad
noncomputable def tupTo (xs:List Nat)(d:D)(s:St):Option St:=match d with
 | .tup ds=>if ds.length=xs.length then some (setAll xs ds s) else none
 | _=>none
noncomputable def fn (n:Nat)(body:SS)(ds:List D):R:=match body (ds.map .sh++List.replicate (n-ds.length) .no) with
 | .nx _=>.ok .non true
 | .ret d f=>.ok d f
 | .exc c _=>.exc c
 | _=>.bad
end Dv
namespace Sd
open PySem PySem.Spec PyProof.Rows L2
open Dv (D R RL EE EL EI RI)
noncomputable abbrev St:=L2.St
noncomputable def SqX (K:PySem.W.Frag)(H:Hp)(a:Addr)(xs:List V):Prop :=
 Rd H a (.lst xs)\/∃ (its:List Value) (n:Nat),K.lookup a=some { cls:=.type "list",data:=.seq its.toArray n }/\xs.length<=sizeLine/\Vals xs its
theorem SqX.seq {K:PySem.W.Frag}{H:Hp}{a:Addr}{xs:List V}(h:SqX K H a xs):SqL K H a xs:=by
 rcases h with h|⟨its,n,e,z,r⟩
 ·exact .inl h
 ·refine .inr ⟨_,its.toArray,n,e,rfl,rfl,rfl,?_,by simpa using r⟩
  rw[List.size_toArray,<- r.length]; exact z
theorem SqX.of {K:PySem.W.Frag}{H:Hp}{a:Addr}{xs:List V}(h:H a=some (.lst xs)):SqX K H a xs:=.inl (.inl h)
theorem Rd.same {H H':Hp}{a:Addr}{o:HO}(e:Same H H')(h:Rd H a o):Rd H' a o:=by
 rcases h with h|⟨u,h⟩
 ·exact .inl (e _ _ h)
 ·exact .inr ⟨u,e _ _ h⟩
theorem SqX.same {K:PySem.W.Frag}{H H':Hp}{a:Addr}{xs:List V}(e:Same H H')(h:SqX K H a xs):SqX K H' a xs:=by
 rcases h with h|h
 ·exact .inl (Rd.same e h)
 ·exact .inr h
theorem Inv.listX {X:Cx}{pins:List (Addr × Obj)}{σ:St}{H:Hp}{s:Shared}{a:Addr}{xs:List V}(I:Inv X pins σ H s)(h:SqX X.K H a xs) :
  ∃ (its:List Value) (n:Nat),Vals xs its/\s.heap.get? a=some { cls:=.type "list",data:=.seq its.toArray n }/\xs.length<=sizeLine:=by
 rcases h with h|⟨its,n,e,z,r⟩
 ·obtain⟨z,its,n,r,e⟩:=h.ok I.hok
  exact⟨its,n,r,e,z⟩
 ·exact⟨its,n,r,I.kIn a _ e,z⟩
noncomputable def ExcOf (a C:Addr):Heap->Prop:=fun h=>∃ o vs,h.get? a=some o/\o.cls=.ref C/\o.data=.fields vs
noncomputable def Tbr (H:Hp):List Addr->List (List Int)->Prop
 | [],[]=>True
 | b::bs,r::rs=>Rd H b (.lst (r.map V.int))/\Tbr H bs rs
 | _,_=>False
theorem Tbr.same {H H':Hp}(e:∀ {b:Addr} {o:HO},Rd H b o->Rd H' b o):∀ {bs:List Addr} {rows:List (List Int)},Tbr H bs rows->Tbr H' bs rows
 | [],[],_=>True.intro
 | b::bs,r::rs,h=>⟨e h.1,Tbr.same e h.2⟩
 | [],_::_,h=>h.elim
 | _::_,[],h=>h.elim
mutual
noncomputable def Rp (K:PySem.W.Frag)(H:Hp):D->V->Prop
 | .non,v=>v=.non
 | .bl b,v=>v=.bl b
 | .int i,v=>v=.int i
 | .str x,v=>v=.str ⟨(Dv.clipS x).toArray⟩
 | .lst ds,v=>∃ a vs,v=.ref a/\SqX K H a vs/\RpL K H ds vs
 | .tup ds,v=>∃ a vs,v=.ref a/\Rd H a (.tup vs)/\RpL K H ds vs
 | .exn c,v=>∃ a C,v=.ref a/\PySem.W.nsIn K mainGlobals (Str.ofString c)=some (some (.ref C))/\H a=some (.ext (ExcOf a C))
 | .raw a,v=>v=.ref a
 | .tab rows,v=>∃ t bs,v=.ref t/\Rd H t (.lst (bs.map V.ref))/\t∉bs/\bs.Nodup/\Tbr H bs rows
 | .dct ks ds,v=>∃ a vs,v=.ref a/\ks.length=ds.length/\Rd H a (.dK ((ks.map Sum.inl).zip vs))/\RpL K H ds vs
noncomputable def RpL (K:PySem.W.Frag)(H:Hp):List D->List V->Prop
 | [],vs=>vs=[]
 | d::r,vs=>∃ v ws,vs=v::ws/\Rp K H d v/\RpL K H r ws
end
mutual
theorem Rp.same {K:PySem.W.Frag}{H H':Hp}(e:Same H H'):∀ {d:D} {v:V},Rp K H d v->Rp K H' d v
 | .non,_,h=>by unfold Rp at h ⊢; exact h
 | .bl _,_,h=>by unfold Rp at h ⊢; exact h
 | .int _,_,h=>by unfold Rp at h ⊢; exact h
 | .str _,_,h=>by unfold Rp at h ⊢; exact h
 | .raw _,_,h=>by unfold Rp at h ⊢; exact h
 | .tab _,v,h=>by
  unfold Rp at h ⊢
  obtain⟨t,bs,h1,h2,h3,h4,h5⟩:=h
  exact⟨t,bs,h1,Rd.same e h2,h3,h4,h5.same fun q=>Rd.same e q⟩
 | .lst ds,v,h=>by
  unfold Rp at h ⊢
  obtain⟨a,vs,h1,h2,h3⟩:=h
  exact⟨a,vs,h1,h2.same e,RpL.same e h3⟩
 | .tup ds,v,h=>by
  unfold Rp at h ⊢
  obtain⟨a,vs,h1,h2,h3⟩:=h
  exact⟨a,vs,h1,Rd.same e h2,RpL.same e h3⟩
 | .exn c,v,h=>by
  unfold Rp at h ⊢
  obtain⟨a,C,h1,h2,h3⟩:=h
  exact⟨a,C,h1,h2,e _ _ h3⟩
 | .dct ks ds,v,h=>by
  unfold Rp at h ⊢
  obtain⟨a,vs,h1,h2,h3,h4⟩:=h
  exact⟨a,vs,h1,h2,Rd.same e h3,RpL.same e h4⟩
theorem RpL.same {K:PySem.W.Frag}{H H':Hp}(e:Same H H'):∀ {ds:List D} {vs:List V},RpL K H ds vs->RpL K H' ds vs
 | [],_,h=>by unfold RpL at h ⊢; exact h
 | d::r,vs,h=>by
  unfold RpL at h ⊢
  obtain⟨v,ws,h1,h2,h3⟩:=h
  exact⟨v,ws,h1,Rp.same e h2,RpL.same e h3⟩
end
theorem RpL.length {K:PySem.W.Frag}{H:Hp}:∀ {ds:List D} {vs:List V},RpL K H ds vs->vs.length=ds.length
 | [],_,h=>by unfold RpL at h; subst h; rfl
 | d::r,vs,h=>by
  unfold RpL at h
  obtain⟨v,ws,rfl,_,h3⟩:=h
  rw[List.length_cons,List.length_cons,RpL.length h3]
theorem Rp.scal {K K':PySem.W.Frag}{H H':Hp}{d:D}{v:V}(f:Dv.scal d=true)(h:Rp K H d v):Rp K' H' d v:=by
 cases d with
 | lst ds=>exact absurd f (by simp[Dv.scal])
 | tup ds=>exact absurd f (by simp[Dv.scal])
 | exn c=>exact absurd f (by simp[Dv.scal])
 | raw c=>exact absurd f (by simp[Dv.scal])
 | tab c=>exact absurd f (by simp[Dv.scal])
 | dct ks ds=>exact absurd f (by simp[Dv.scal])
 | _=>unfold Rp at h ⊢; exact h
theorem RpL.flat {K K':PySem.W.Frag}{H H':Hp}:∀ {ds:List D} {vs:List V},Dv.flatL ds=true->RpL K H ds vs->RpL K' H' ds vs
 | [],_,_,h=>by unfold RpL at h ⊢; exact h
 | d::r,vs,f,h=>by
  unfold Dv.flatL at f
  rw[Bool.and_eq_true] at f
  unfold RpL at h ⊢
  obtain⟨v,ws,h1,h2,h3⟩:=h
  exact⟨v,ws,h1,h2.scal f.1,RpL.flat f.2 h3⟩
theorem RpL.append {K:PySem.W.Frag}{H:Hp}:∀ {ds es:List D} {vs ws:List V},RpL K H ds vs->RpL K H es ws->RpL K H (ds++es) (vs++ws)
 | [],_,_,_,h,g=>by unfold RpL at h; subst h; exact g
 | d::r,es,vs,ws,h,g=>by
  unfold RpL at h
  obtain⟨v,vs',rfl,h2,h3⟩:=h
  rw[List.cons_append,List.cons_append]
  unfold RpL
  exact⟨v,_,rfl,h2,RpL.append h3 g⟩
theorem RpL.get {K:PySem.W.Frag}{H:Hp}:∀ {ds:List D} {vs:List V} {i:Nat} {d:D},RpL K H ds vs->ds[i]?=some d->∃ v,vs[i]?=some v/\Rp K H d v
 | [],_,_,_,_,e=>by simp at e
 | x::r,vs,0,d,h,e=>by
  unfold RpL at h
  obtain⟨v,ws,rfl,h2,_⟩:=h
  simp at e; subst e
  exact⟨v,rfl,h2⟩
 | x::r,vs,i+1,d,h,e=>by
  unfold RpL at h
  obtain⟨v,ws,rfl,_,h3⟩:=h
  obtain⟨u,h4,h5⟩:=RpL.get (i:=i) (d:=d) h3 (by simpa using e)
  exact⟨u,by simpa using h4,h5⟩
theorem RpL.cons {K:PySem.W.Frag}{H:Hp}{d:D}{v:V}{ds:List D}{vs:List V}(h:Rp K H d v)(g:RpL K H ds vs):RpL K H (d::ds) (v::vs):=by
 unfold RpL; exact⟨v,vs,rfl,h,g⟩
theorem RpL.nil {K:PySem.W.Frag}{H:Hp}:RpL K H [] []:=by unfold RpL; rfl
theorem RpL.set {K:PySem.W.Frag}{H:Hp}{d:D}{v:V}(g:Rp K H d v):∀ {ds:List D} {vs:List V} (i:Nat),RpL K H ds vs->RpL K H (ds.set i d) (vs.set i v)
 | [],_,i,h=>by unfold RpL at h; subst h; exact .nil
 | x::r,vs,0,h=>by
  unfold RpL at h
  obtain⟨u,ws,rfl,_,h3⟩:=h
  exact .cons g h3
 | x::r,vs,i+1,h=>by
  unfold RpL at h
  obtain⟨u,ws,rfl,h2,h3⟩:=h
  exact .cons h2 (RpL.set g i h3)
theorem RpL.ints {K:PySem.W.Frag}{H:Hp}:∀ {ds:List D} {vs:List V} {ns:List Int},Dv.intsOf ds=some ns->RpL K H ds vs->vs=ns.map V.int
 | [],vs,ns,e,h=>by
  simp[Dv.intsOf] at e; subst e
  unfold RpL at h; exact h
 | d::r,vs,ns,e,h=>by
  unfold RpL at h
  obtain⟨v,ws,rfl,h2,h3⟩:=h
  cases d with
  | int i =>
   simp only[Dv.intsOf,Option.map_eq_some_iff] at e
   obtain⟨ms,e1,rfl⟩:=e
   unfold Rp at h2
   subst h2
   rw[RpL.ints e1 h3,List.map_cons]
  | _=>simp[Dv.intsOf] at e
theorem RpL.ofInts {K:PySem.W.Frag}{H:Hp}:∀ (ns:List Int),RpL K H (ns.map .int) (ns.map V.int)
 | []=>.nil
 | n::r=>.cons (by unfold Rp; rfl) (RpL.ofInts r)
structure Ext (Hv H Hv' H':Hp):Prop where
 hh:Same H H'
 vv:Same Hv Hv'
 vh:Same Hv' H'
 new:∀ b o,Hv' b=some o->Hv b=none->H b=none
 all:∀ b,H b=none->Hv' b=H' b
 nf:∀ b o u,H b=none->H' b≠some (.frz o u)
theorem Ext.refl {Hv H:Hp}(e:Same Hv H):Ext Hv H Hv H:=⟨.refl _,.refl _,e,fun b o h n=>(by rw[n] at h; cases h),fun b h=>(by rw[h]; exact e.free h),fun b o u h=>by rw[h]; intro z; cases z⟩
theorem Ext.trans {Hv H Hv1 H1 Hv2 H2:Hp}(a:Ext Hv H Hv1 H1)(b:Ext Hv1 H1 Hv2 H2):Ext Hv H Hv2 H2 :=
 ⟨a.hh.trans b.hh,a.vv.trans b.vv,b.vh,fun c o h n=>(by
  cases q:Hv1 c with
  | some u=>exact a.new c u q n
  | none=>exact a.hh.free (b.new c o h q)),fun c h=>by
  cases q:H1 c with
  | none=>exact b.all c q
  | some o=>rw[b.hh c o q]; exact b.vv c o ((a.all c h).trans q),fun c o u h=>by
  cases q:H1 c with
  | none=>exact b.nf c o u q
  | some w=>rw[b.hh c w q,<- q]; exact a.nf c o u h⟩
theorem same_upd {H:Hp}{p:Addr}(h:H p=none)(o:HO):Same H (upd H p o):=fun b u q=>by rw[upd_ne (ne_of_none q h)]; exact q
theorem Ext.new1 {Hv H:Hp}(e:Same Hv H){p:Addr}(h:H p=none)(o:HO)(ho:autoParam (∀ a u,o≠.frz a u) Au.h6._auto_1):Ext Hv H (upd Hv p o) (upd H p o):=by
 refine⟨same_upd h o,same_upd (e.free h) o,fun b u q=>?_,fun b u q n=>?_,fun b q=>?_,fun b a u q=>?_⟩
 ·by_cases hb:b=p
  ·subst hb; rw[upd_same] at q ⊢; exact q
  ·rw[upd_ne hb] at q ⊢; exact e _ _ q
 ·by_cases hb:b=p
  ·subst hb; exact h
  ·rw[upd_ne hb,n] at q; cases q
 ·by_cases hb:b=p
  ·subst hb; rw[upd_same,upd_same]
  ·rw[upd_ne hb,upd_ne hb,q]; exact e.free q
 ·by_cases hb:b=p
  ·subst hb; rw[upd_same]; exact fun z=>ho a u (Option.some.inj z)
  ·rw[upd_ne hb,q]; intro z; cases z
noncomputable def Hnew (H H':Hp):Hp:=fun b=>match H b with
 | none=>H' b
 | some _=>none
theorem Hnew.mono {H H1 H2 H3:Hp}(a:Same H H1)(c:Same H2 H3):Same (Hnew H1 H2) (Hnew H H3):=fun b o h=>by
 unfold Hnew at h ⊢
 cases q:H b with
 | some u=>rw[a b u q] at h; cases h
 | none =>
  cases q1:H1 b with
  | some u=>rw[q1] at h; cases h
  | none=>rw[q1] at h; exact c b o h
theorem Ext.news {Hv H Hv' H':Hp}(x:Ext Hv H Hv' H'):Same (Hnew H H') Hv':=fun b o h=>by
 unfold Hnew at h
 cases q:H b with
 | some u=>rw[q] at h; cases h
 | none=>rw[q] at h; rw[x.all b q]; exact h
theorem Hnew.sub {H H':Hp}:Same (Hnew H H') H':=fun b o h=>by
 unfold Hnew at h
 cases q:H b with
 | some u=>rw[q] at h; cases h
 | none=>rw[q] at h; exact h
mutual
theorem Rp.frag {K:PySem.W.Frag}{H:Hp}:∀ {d:D} {v:V},Rp [] H d v->Rp K H d v
 | .non,_,h=>by unfold Rp at h ⊢; exact h
 | .bl _,_,h=>by unfold Rp at h ⊢; exact h
 | .int _,_,h=>by unfold Rp at h ⊢; exact h
 | .str _,_,h=>by unfold Rp at h ⊢; exact h
 | .raw _,_,h=>by unfold Rp at h ⊢; exact h
 | .tab _,_,h=>by unfold Rp at h ⊢; exact h
 | .lst ds,v,h=>by
  unfold Rp at h ⊢
  obtain⟨a,vs,h1,h2,h3⟩:=h
  refine⟨a,vs,h1,?_,RpL.frag h3⟩
  rcases h2 with h2|⟨its,n,e,_⟩
  ·exact .inl h2
  ·simp at e
 | .tup ds,v,h=>by
  unfold Rp at h ⊢
  obtain⟨a,vs,h1,h2,h3⟩:=h
  exact⟨a,vs,h1,h2,RpL.frag h3⟩
 | .exn c,v,h=>by
  unfold Rp at h
  obtain⟨a,C,h1,h2,h3⟩:=h
  simp[PySem.W.nsIn] at h2
 | .dct ks ds,v,h=>by
  unfold Rp at h ⊢
  obtain⟨a,vs,h1,h2,h3,h4⟩:=h
  exact⟨a,vs,h1,h2,h3,RpL.frag h4⟩
theorem RpL.frag {K:PySem.W.Frag}{H:Hp}:∀ {ds:List D} {vs:List V},RpL [] H ds vs->RpL K H ds vs
 | [],_,h=>by unfold RpL at h ⊢; exact h
 | d::r,vs,h=>by
  unfold RpL at h ⊢
  obtain⟨v,ws,h1,h2,h3⟩:=h
  exact⟨v,ws,h1,Rp.frag h2,RpL.frag h3⟩
end
theorem Hnew.at {H:Hp}{p:Addr}(h:H p=none)(o:HO):Hnew H (upd H p o) p=some o:=by
 unfold Hnew; rw[h]; exact upd_same
noncomputable def Ok (K:PySem.W.Frag)(Hv H:Hp)(W:XK)(cls:String->Value)(r:R)(Q:VK):Prop:=match r with
 | .ok d fr=>∀ v Hv' H',Ext Hv H Hv' H'->Rp K Hv' d v->(fr=true->Rp [] (Hnew H H') d v)->Q v H'
 | .exc c=>∀ Hv' H',Ext Hv H Hv' H'->W (cls c) none H'
 | .bad=>False
noncomputable def OkL (K:PySem.W.Frag)(Hv H:Hp)(W:XK)(cls:String->Value)(r:RL)(Q:List V->Hp->Prop):Prop:=match r with
 | .ok ds fr=>∀ vs Hv' H',Ext Hv H Hv' H'->RpL K Hv' ds vs->(fr=true->RpL [] (Hnew H H') ds vs)->Q vs H'
 | .exc c=>∀ Hv' H',Ext Hv H Hv' H'->W (cls c) none H'
 | .bad=>False
noncomputable def EnvR (K:PySem.W.Frag)(Hv:Hp)(ρ:Dv.Env)(σ:St):Prop:=∀ (i:Nat) (d:D),ρ[i]?=some (some d)->∃ v,σ[i]?=some (some v)/\Rp K Hv d v
theorem EnvR.same {K:PySem.W.Frag}{Hv Hv':Hp}{ρ:Dv.Env}{σ:St}(e:Same Hv Hv')(h:EnvR K Hv ρ σ):EnvR K Hv' ρ σ:=fun i d q =>
 let ⟨v,h1,h2⟩:=h i d q; ⟨v,h1,h2.same e⟩
structure Ctx where
 X:Cx
 W:St->XK
 cls:String->Value
 CX:CXT
 un:X.A.units+64<cLine
 own:PassesOwn (model X.prog X.w) X.A X.env X.xe
 pass:∀ (pins:List (Addr × Obj)) (σ:St) (H:Hp) (s:Shared) (e:Value) (s':Shared),Inv X pins σ H s->CX X.stack H s (W σ) e s'->X.xe e s'
 cxF:∀ (outer:List PySem.Env) (H:Hp) (s:Shared) (e:Value) (s':Shared),CX outer H s (fun _ _ _=>False) e s'->False
noncomputable def Tak (C:Ctx)(t:TE)(f:EE):Prop:=∀ σ H Hv ρ Q,EnvR C.X.K Hv ρ σ->Same Hv H->Ok C.X.K Hv H (C.W σ) C.cls (f ρ) Q->t σ H Q
noncomputable def TakL (C:Ctx)(t:TA)(f:EL):Prop:=∀ σ H Hv ρ Q,EnvR C.X.K Hv ρ σ->Same Hv H->OkL C.X.K Hv H (C.W σ) C.cls (f ρ) Q->t σ H Q
noncomputable def SE (C:Ctx)(e:Expr)(f:EE):Prop:=∃ t:TE,PE C.X e t/\Tak C t f
noncomputable def SL (C:Ctx)(es:List Expr)(f:EL):Prop:=∃ t:TA,PA C.X es t/\TakL C t f/\∀ ρ ds fr,f ρ=.ok ds fr->ds.length=es.length
noncomputable def SC (C:Ctx)(e:Expr)(f:EE):Prop :=
 ∃ t:TT,PT C.X e t/\∀ σ H Hv ρ Q,EnvR C.X.K Hv ρ σ->Same Hv H->Ok C.X.K Hv H (C.W σ) C.cls (f ρ) (fun v H'=>∃ b,v=.bl b/\Q b H')->t σ H Q
theorem Ok.later {K:PySem.W.Frag}{Hv H Hv1 H1:Hp}{W:XK}{cls:String->Value}{r:R}{Q:VK}(x:Ext Hv H Hv1 H1)(h:Ok K Hv H W cls r Q):Ok K Hv1 H1 W cls r Q:=by
 cases r with
 | ok d fr=>exact fun v Hv' H' y r n=>h v Hv' H' (x.trans y) r fun z=>(n z).same (Hnew.mono x.hh (.refl _))
 | exc c=>exact fun Hv' H' y=>h Hv' H' (x.trans y)
 | bad=>exact h
theorem Ok.now {K:PySem.W.Frag}{Hv H:Hp}{W:XK}{cls:String->Value}{d:D}{fr:Bool}{Q:VK}{v:V}(h:Ok K Hv H W cls (.ok d fr) Q)(e:Same Hv H)(r:Rp K Hv d v)(z:Dv.scal d=true):Q v H :=
 h v Hv H (.refl e) r fun _=>r.scal z
theorem Ok.at {K:PySem.W.Frag}{Hv H Hv1 H1:Hp}{W:XK}{cls:String->Value}{d:D}{fr:Bool}{Q:VK}{v:V}(h:Ok K Hv H W cls (.ok d fr) Q)(x:Ext Hv H Hv1 H1)(r:Rp K Hv1 d v)(z:Dv.scal d=true):Q v H1 :=
 h v Hv1 H1 x r fun _=>r.scal z
theorem Ok.newL {K:PySem.W.Frag}{Hv H Hv1 H1:Hp}{W:XK}{cls:String->Value}{ds:List D}{fr:Bool}{Q:VK}{vs:List V}(h:Ok K Hv H W cls (.ok (.lst ds) fr) Q)(x:Ext Hv H Hv1 H1)(r:RpL K Hv1 ds vs)
  (n:fr=true->RpL [] (Hnew H H1) ds vs) (p:Addr) (hp:H1 p=none):Q (.ref p) (upd H1 p (.lst vs)):=by
 have y:=Ext.new1 x.vh hp (.lst vs)
 refine h _ _ _ (x.trans y) ?_ fun z=>?_
 ·unfold Rp
  exact⟨p,vs,rfl,SqX.of upd_same,r.same y.vv⟩
 ·unfold Rp
  have hH:H p=none:=x.hh.free hp
  refine⟨p,vs,rfl,SqX.of (by unfold Hnew; rw[hH]; exact upd_same),(n z).same (Hnew.mono (.refl _) y.hh)⟩
theorem Ok.newT {K:PySem.W.Frag}{Hv H Hv1 H1:Hp}{W:XK}{cls:String->Value}{ds:List D}{fr:Bool}{Q:VK}{vs:List V}(h:Ok K Hv H W cls (.ok (.tup ds) fr) Q)(x:Ext Hv H Hv1 H1)(r:RpL K Hv1 ds vs)
  (n:fr=true->RpL [] (Hnew H H1) ds vs) (p:Addr) (hp:H1 p=none):Q (.ref p) (upd H1 p (.tup vs)):=by
 have y:=Ext.new1 x.vh hp (.tup vs)
 refine h _ _ _ (x.trans y) ?_ fun z=>?_
 ·unfold Rp
  exact⟨p,vs,rfl,.inl upd_same,r.same y.vv⟩
 ·unfold Rp
  have hH:H p=none:=x.hh.free hp
  refine⟨p,vs,rfl,.inl (by unfold Hnew; rw[hH]; exact upd_same),(n z).same (Hnew.mono (.refl _) y.hh)⟩
section
variable {C:Ctx}{a b c:Expr}{es:List Expr}{f g h:EE}{fl:EL}{ta tb tc:TE}{tl:TA}{pos:Pos}
theorem Tak.step (qa:Tak C ta f){σ:St}{H Hv Hv1 H1:Hp}{ρ:Dv.Env}{Q T:VK}{k:D->Bool->R}(e:EnvR C.X.K Hv ρ σ)(x:Ext Hv H Hv1 H1)(q:Ok C.X.K Hv H (C.W σ) C.cls ((f ρ).bind k) Q)
  (next:∀ v d fr Hv2 H2,f ρ=.ok d fr->Ext Hv H Hv2 H2->Ext Hv1 H1 Hv2 H2->Rp C.X.K Hv2 d v->(fr=true->Rp [] (Hnew H H2) d v)->Ok C.X.K Hv H (C.W σ) C.cls (k d fr) Q->T v H2):ta σ H1 T:=by
 refine qa σ H1 Hv1 ρ _ (e.same x.vv) x.vh ?_
 cases hf:f ρ with
 | bad=>rw[hf] at q; exact q
 | exc c=>rw[hf] at q; exact fun Hv' H' y=>q Hv' H' (x.trans y)
 | ok d fr =>
  rw[hf] at q
  exact fun v Hv2 H2 y r n=>next v d fr Hv2 H2 hf (x.trans y) y r (fun z=>(n z).same (Hnew.mono x.hh (.refl _))) q
theorem TakL.step (qa:TakL C tl fl){σ:St}{H Hv Hv1 H1:Hp}{ρ:Dv.Env}{Q:VK}{T:List V->Hp->Prop}{k:List D->Bool->R}(e:EnvR C.X.K Hv ρ σ)(x:Ext Hv H Hv1 H1)(q:Ok C.X.K Hv H (C.W σ) C.cls ((fl ρ).bind k) Q)
  (next:∀ vs ds fr Hv2 H2,fl ρ=.ok ds fr->Ext Hv H Hv2 H2->Ext Hv1 H1 Hv2 H2->RpL C.X.K Hv2 ds vs->(fr=true->RpL [] (Hnew H H2) ds vs)->Ok C.X.K Hv H (C.W σ) C.cls (k ds fr) Q->T vs H2):tl σ H1 T:=by
 refine qa σ H1 Hv1 ρ _ (e.same x.vv) x.vh ?_
 cases hf:fl ρ with
 | bad=>rw[hf] at q; exact q
 | exc c=>rw[hf] at q; exact fun Hv' H' y=>q Hv' H' (x.trans y)
 | ok d fr =>
  rw[hf] at q
  exact fun v Hv2 H2 y r n=>next v d fr Hv2 H2 hf (x.trans y) y r (fun z=>(n z).same (Hnew.mono x.hh (.refl _))) q
theorem se_var (i:Nat){x:Str}(hN:autoParam (C.X.N[i]?=some x) Au.h4._auto_1)(hv:autoParam (Vis C.X.env.scope x) Au.h7._auto_1)(hd:autoParam ((x == ("__debug__":Str))=false) Au.h2._auto_1)
  (hcd:autoParam ((x == ("__classdict__":Str))=false) Au.h2._auto_1):SE C (.Name x pos) (Dv.eVar i):=by
 refine⟨tVar i,pe_var hN hv hd hcd,fun σ H Hv ρ Q e s q=>?_⟩
 unfold Dv.eVar at q
 cases r:ρ[i]? with
 | none=>rw[r] at q; exact q.elim
 | some o =>
  cases o with
  | none=>rw[r] at q; exact q.elim
  | some d =>
   rw[r] at q
   obtain⟨v,h1,h2⟩:=e i d r
   exact⟨v,h1,q v Hv H (.refl s) h2 fun z=>h2.scal z⟩
theorem se_int {i:Int}{j:Nat}:SE C (.Constant (.int i) j pos) (Dv.eInt i) :=
 ⟨_,pe_int,fun _ _ _ _ _ _ s q=>q.now (v:=.int i) s (by unfold Rp; rfl) rfl⟩
theorem se_bl {i:Bool}{j:Nat}:SE C (.Constant (.bool i) j pos) (Dv.eBl i) :=
 ⟨_,pe_bl,fun _ _ _ _ _ _ s q=>q.now (v:=.bl i) s (by unfold Rp; rfl) rfl⟩
noncomputable def OpS (C:Ctx)(op:Value->Value->Sem Value)(F:D->D->R):Prop :=
 ∃ r:R2,OpR C.X op r/\∀ x y d d' H Hv H1 Hv1 W Q,Ext Hv H Hv1 H1->Rp C.X.K Hv1 d x->Rp C.X.K Hv1 d' y->Ok C.X.K Hv H W C.cls (F d d') Q->r x y H1 Q
theorem tak_op2 {op:Value->Value->Sem Value}{F:D->D->R}{r:R2}(hr:∀ x y d d' H Hv H1 Hv1 W Q,Ext Hv H Hv1 H1->Rp C.X.K Hv1 d x->Rp C.X.K Hv1 d' y->Ok C.X.K Hv H W C.cls (F d d') Q->r x y H1 Q)
  (qa:Tak C ta f) (qb:Tak C tb g):Tak C (tOp r ta tb) (fun ρ=>(f ρ).bind fun x _=>(g ρ).bind fun y _=>F x y):=fun σ H Hv ρ Q e s q =>
 qa.step e (.refl s) q fun v d fr Hv1 H1 _ x1 _ rp1 _ q1=>qb.step e x1 q1 fun v2 d2 fr2 Hv2 H2 _ x2 y2 rp2 _ q2 =>
  hr v v2 d d2 H Hv H2 Hv2 _ Q x2 (rp1.same y2.vv) rp2 q2
theorem se_op2 {op:Operator}{F:D->D->R}(o:OpS C (binaryOp op) F)(ha:SE C a f)(hb:SE C b g):SE C (.BinOp a op b pos) (fun ρ=>(f ρ).bind fun x _=>(g ρ).bind fun y _=>F x y):=by
 obtain⟨r,ho,hr⟩:=o
 obtain⟨ta,pa,qa⟩:=ha
 obtain⟨tb,pb,qb⟩:=hb
 exact⟨_,pe_op ho pa pb,tak_op2 (op:=binaryOp op) hr qa qb⟩
theorem se_cm2 {op:CmpOp}{F:D->D->R}(o:OpS C (compareOp op) F)(ha:SE C a f)(hb:SE C b g)(hm:behindInMarks op b=false):SE C (.Compare a [op] [b] pos) (fun ρ=>(f ρ).bind fun x _=>(g ρ).bind fun y _=>F x y):=by
 obtain⟨r,ho,hr⟩:=o
 obtain⟨ta,pa,qa⟩:=ha
 obtain⟨tb,pb,qb⟩:=hb
 exact⟨_,pe_cmpR ho pa pb hm,tak_op2 (op:=compareOp op) hr qa qb⟩
theorem sc_cm2 {op:CmpOp}{F:D->D->R}(o:OpS C (compareOp op) F)(ha:SE C a f)(hb:SE C b g)(hm:behindInMarks op b=false):SC C (.Compare a [op] [b] pos) (fun ρ=>(f ρ).bind fun x _=>(g ρ).bind fun y _=>F x y):=by
 obtain⟨r,ho,hr⟩:=o
 obtain⟨ta,pa,qa⟩:=ha
 obtain⟨tb,pb,qb⟩:=hb
 exact⟨_,pt_cmpR ho pa pb hm,fun σ H Hv ρ Q e s q=>tak_op2 (op:=compareOp op) hr qa qb σ H Hv ρ _ e s q⟩
theorem sc_val (ha:SE C a f)(he:autoParam (∀ whole,isTrue a C.X.env whole=(do let v <- whole; standAt a.pos; holding [v] (truthy v))) Au.h3._auto_1):SC C a f:=by
 obtain⟨t,p,q⟩:=ha
 exact⟨_,pt_val p he,fun σ H Hv ρ Q e s w=>q σ H Hv ρ _ e s w⟩
noncomputable def SW (C:Ctx)(e:Expr)(f:EE):Prop :=
 ∃ t:TT,PW C.X e t/\∀ σ H Hv ρ Q,EnvR C.X.K Hv ρ σ->Same Hv H->Ok C.X.K Hv H (C.W σ) C.cls (f ρ) (fun v H'=>∃ b,v=.bl b/\Q b H')->t σ H Q
noncomputable def TakC (C:Ctx)(t:TT)(f:EE):Prop:=∀ σ H Hv ρ Q,EnvR C.X.K Hv ρ σ->Same Hv H->Ok C.X.K Hv H (C.W σ) C.cls (f ρ) (fun v H'=>∃ b,v=.bl b/\Q b H')->t σ H Q
theorem TakC.step {tt:TT}(qa:TakC C tt f){σ:St}{H Hv Hv1 H1:Hp}{ρ:Dv.Env}{Q:VK}{T:Bool->Hp->Prop}{k:D->Bool->R}(e:EnvR C.X.K Hv ρ σ)(x:Ext Hv H Hv1 H1)(q:Ok C.X.K Hv H (C.W σ) C.cls ((f ρ).bind k) Q)
  (nb:∀ d fr,f ρ=.ok d fr->(∀ b,d≠.bl b)->k d fr=.bad)
  (next:∀ b fr Hv2 H2,f ρ=.ok (.bl b) fr->Ext Hv H Hv2 H2->Ext Hv1 H1 Hv2 H2->Ok C.X.K Hv H (C.W σ) C.cls (k (.bl b) fr) Q->T b H2):tt σ H1 T:=by
 refine qa σ H1 Hv1 ρ _ (e.same x.vv) x.vh ?_
 cases hf:f ρ with
 | bad=>rw[hf] at q; exact q
 | exc c=>rw[hf] at q; exact fun Hv' H' y=>q Hv' H' (x.trans y)
 | ok d fr =>
  intro v Hv2 H2 y r n
  cases d with
  | bl b =>
   unfold Rp at r
   rw[hf] at q
   exact⟨b,r,next b fr Hv2 H2 hf (x.trans y) y q⟩
  | _ =>
   have z:=nb _ _ hf (by intro b z; cases z)
   rw[hf] at q
   have q':Ok C.X.K Hv H (C.W σ) C.cls (k _ fr) Q:=q
   rw[z] at q'
   exact q'.elim
theorem sw_one (op:BoolOp)(ha:SC C a f):SW C (.BoolOp op [a] pos) f:=by
 obtain⟨t,p,q⟩:=ha
 cases op with
 | And=>exact⟨t,pw_and1 p,q⟩
 | Or=>exact⟨t,pw_or1 p,q⟩
theorem sw_and {rest:List Expr}(ha:SC C a f)(hb:SW C (.BoolOp .And (b::rest) pos) g):SW C (.BoolOp .And (a::b::rest) pos) (Dv.eAnd f g):=by
 obtain⟨t,p,q⟩:=ha
 obtain⟨u,p2,q2⟩:=hb
 refine⟨_,pw_and p p2,fun σ H Hv ρ Q e s w=>?_⟩
 refine TakC.step q e (.refl s) w (fun d fr _ nb=>by cases d <;>first|rfl|exact absurd rfl (nb _)) fun b fr Hv2 H2 hf x y w2=>?_
 cases b with
 | true=>exact iteT (q2 σ H2 Hv2 ρ _ (e.same x.vv) x.vh (Ok.later x (show Ok _ _ _ _ _ (g ρ) _ from w2)))
 | false =>
  obtain⟨b,e1,q3⟩:=(show Ok C.X.K Hv H (C.W σ) C.cls (.ok (.bl false) true) (fun v H'=>∃ b,v=.bl b/\Q b H') from w2).at (v:=.bl false) x (by unfold Rp; rfl) rfl
  cases e1
  exact iteF q3
theorem sw_or {rest:List Expr}(ha:SC C a f)(hb:SW C (.BoolOp .Or (b::rest) pos) g):SW C (.BoolOp .Or (a::b::rest) pos) (Dv.eOr f g):=by
 obtain⟨t,p,q⟩:=ha
 obtain⟨u,p2,q2⟩:=hb
 refine⟨_,pw_or p p2,fun σ H Hv ρ Q e s w=>?_⟩
 refine TakC.step q e (.refl s) w (fun d fr _ nb=>by cases d <;>first|rfl|exact absurd rfl (nb _)) fun b fr Hv2 H2 hf x y w2=>?_
 cases b with
 | false=>exact iteF (q2 σ H2 Hv2 ρ _ (e.same x.vv) x.vh (Ok.later x (show Ok _ _ _ _ _ (g ρ) _ from w2)))
 | true =>
  obtain⟨b,e1,q3⟩:=(show Ok C.X.K Hv H (C.W σ) C.cls (.ok (.bl true) true) (fun v H'=>∃ b,v=.bl b/\Q b H') from w2).at (v:=.bl true) x (by unfold Rp; rfl) rfl
  cases e1
  exact iteT q3
theorem sc_w (h:SW C a f):SC C a f:=let ⟨t,p,q⟩:=h; ⟨t,p.pt,q⟩
theorem sc_not (ha:SC C a f):SC C (.UnaryOp .Not a pos) (Dv.eNot f):=by
 obtain⟨t,p,q⟩:=ha
 refine⟨_,pt_not p,fun σ H Hv ρ Q e s w=>?_⟩
 refine TakC.step q e (.refl s) w (fun d fr _ nb=>by cases d <;>first|rfl|exact absurd rfl (nb _)) fun b fr Hv2 H2 hf x y w2=>?_
 obtain⟨b',e1,q3⟩:=(show Ok C.X.K Hv H (C.W σ) C.cls (.ok (.bl (!b)) true) (fun v H'=>∃ b,v=.bl b/\Q b H') from w2).at (v:=.bl (!b)) x (by unfold Rp; rfl) rfl
 cases e1
 exact q3
theorem se_one {op:BoolOp}(ha:SE C a f):SE C (.BoolOp op [a] pos) f:=let ⟨t,p,q⟩:=ha; ⟨t,pe_one p,q⟩
theorem se_and {rest:List Expr}(ha:SE C a f)(hb:SE C (.BoolOp .And (b::rest) pos) g):SE C (.BoolOp .And (a::b::rest) pos) (Dv.eAnd f g):=by
 obtain⟨t,p,q⟩:=ha
 obtain⟨u,p2,q2⟩:=hb
 refine⟨_,pe_and p p2,fun σ H Hv ρ Q e s w=>?_⟩
 refine Tak.step q e (.refl s) w fun v d fr Hv2 H2 hf x y rp n w2=>?_
 cases d with
 | bl c =>
  unfold Rp at rp
  refine⟨c,rp,?_⟩
  cases c with
  | true=>exact iteT (q2 σ H2 Hv2 ρ _ (e.same x.vv) x.vh (Ok.later x (show Ok _ _ _ _ _ (g ρ) _ from w2)))
  | false=>exact iteF ((show Ok C.X.K Hv H (C.W σ) C.cls (.ok (.bl false) true) Q from w2).at (v:=.bl false) x (by unfold Rp; rfl) rfl)
 | _=>exact(show False from w2).elim
theorem se_not (ha:SE C a f):SE C (.UnaryOp .Not a pos) (Dv.eNot f):=by
 obtain⟨t,p,q⟩:=ha
 refine⟨_,pe_not p,fun σ H Hv ρ Q e s w=>?_⟩
 refine Tak.step q e (.refl s) w fun v d fr Hv2 H2 hf x y rp n w2=>?_
 cases d with
 | bl c =>
  unfold Rp at rp
  exact⟨c,rp,(show Ok C.X.K Hv H (C.W σ) C.cls (.ok (.bl (!c)) true) Q from w2).at (v:=.bl (!c)) x (by unfold Rp; rfl) rfl⟩
 | _=>exact(show False from w2).elim
theorem se_neg (ha:SE C a f):SE C (.UnaryOp .USub a pos) (Dv.eNeg f):=by
 obtain⟨t,p,q⟩:=ha
 refine⟨_,pe_un un_neg p,fun σ H Hv ρ Q e s w=>?_⟩
 refine Tak.step q e (.refl s) w fun v d fr Hv2 H2 hf x y rp n w2=>?_
 cases d with
 | int i =>
  unfold Rp at rp
  exact⟨i,rp,(show Ok C.X.K Hv H (C.W σ) C.cls (.ok (.int (-i)) true) Q from w2).at (v:=.int (-i)) x (by unfold Rp; rfl) rfl⟩
 | _=>exact(show False from w2).elim
theorem sl_nil:SL C [] Dv.lNil:=⟨_,pa_nil,fun σ H Hv ρ Q e s q=>q [] Hv H (.refl s) .nil fun _=>.nil,fun ρ ds fr h=>by cases h; rfl⟩
theorem sl_cons (ha:SE C a f)(hr:SL C es fl)(hs:autoParam (starEach (a::es) C.X.env=(false,eval a C.X.env)::starEach es C.X.env) Au.h4._auto_1):SL C (a::es) (Dv.lCons f fl):=by
 obtain⟨t,p,q⟩:=ha
 obtain⟨u,p2,q2,l2⟩:=hr
 refine⟨_,pa_cons p p2 hs,fun σ H Hv ρ Q e s w=>?_,fun ρ ds fr h=>?_⟩
 rotate_left
 ·unfold Dv.lCons at h
  cases hf:f ρ with
  | bad=>rw[hf] at h; cases h
  | exc c=>rw[hf] at h; cases h
  | ok d f1 =>
   cases hg:fl ρ with
   | bad=>rw[hf,hg] at h; cases h
   | exc c=>rw[hf,hg] at h; cases h
   | ok d2 f2 =>
    rw[hf,hg] at h
    cases h
    rw[List.length_cons,List.length_cons,l2 ρ d2 f2 hg]
 unfold Dv.lCons at w
 refine q σ H Hv ρ _ e s ?_
 cases hf:f ρ with
 | bad=>rw[hf] at w; exact w
 | exc c=>rw[hf] at w; exact w
 | ok d fr =>
  rw[hf] at w
  intro v Hv1 H1 x1 r1 n1
  refine q2 σ H1 Hv1 ρ _ (e.same x1.vv) x1.vh ?_
  cases hg:fl ρ with
  | bad=>rw[hg] at w; exact w
  | exc c=>rw[hg] at w; exact fun Hv' H' y=>w Hv' H' (x1.trans y)
  | ok ds fr2 =>
   rw[hg] at w
   intro vs Hv2 H2 x2 r2 n2
   refine w (v::vs) Hv2 H2 (x1.trans x2) (.cons (r1.same x2.vv) r2) fun z=>?_
   have z':fr=true/\fr2=true:=by simpa using z
   exact .cons ((n1 z'.1).same (Hnew.mono (.refl _) x2.hh)) ((n2 z'.2).same (Hnew.mono x1.hh (.refl _)))
theorem mx_line {n:Nat}(h:n<=Dv.mx):n<=sizeLine:=by
 unfold Dv.mx at h; rw[sizeLine_eq]; omega
theorem se_lst (h:SL C es fl)(hz:autoParam (es.length<=Dv.mx) Au.h2._auto_1):SE C (.List es pos) (Dv.eLst fl):=by
 obtain⟨t,p,q,hn⟩:=h
 refine⟨_,pe_lst p,fun σ H Hv ρ Q e s w=>?_⟩
 refine TakL.step q e (.refl s) w fun vs ds fr Hv2 H2 hf x y rp n w2=>⟨?_,fun p hp=>?_⟩
 ·rw[rp.length,hn ρ ds fr hf]; exact mx_line hz
 ·exact Ok.newL w2 x rp n p hp
theorem se_tup {k}(h:SL C es fl)(hz:autoParam (es.length<=Dv.mx) Au.h2._auto_1):SE C (.Tuple es k pos) (Dv.eTup fl):=by
 obtain⟨t,p,q,hn⟩:=h
 refine⟨_,pe_tup p,fun σ H Hv ρ Q e s w=>?_⟩
 refine TakL.step q e (.refl s) w fun vs ds fr Hv2 H2 hf x y rp n w2=>⟨?_,fun p hp=>?_⟩
 ·rw[rp.length,hn ρ ds fr hf]; exact mx_line hz
 ·exact Ok.newT w2 x rp n p hp
end
section
variable {C:Ctx}{a b c:Expr}{es:List Expr}{f g h:EE}{fl:EL}{pos:Pos}
theorem opI_s {op:Value->Value->Sem Value}{K:Int->Int->Prop}{G:Int->Int->V}{F:D->D->R}(o:OpR C.X op (rI K G))
  (hF:∀ d d',(∃ i j x,d=.int i/\d'=.int j/\K i j/\F d d'=.ok x true/\Dv.scal x=true/\∀ K' H',Rp K' H' x (G i j))\/F d d'=.bad):OpS C op F:=by
 refine⟨_,o,fun x y d d' H Hv H1 Hv1 W Q e rx ry q=>?_⟩
 rcases hF d d' with ⟨i,j,z,rfl,rfl,hk,hz,hs,hr⟩|hb
 ·unfold Rp at rx ry
  rw[hz] at q
  exact⟨i,j,rx,ry,hk,q.at e (hr _ _) hs⟩
 ·rw[hb] at q; exact q.elim
theorem opI0_s {op:Value->Value->Sem Value}{G:Int->Int->V}{F:D->D->R}(o:OpR C.X op (rI0 G))
  (hF:∀ d d',(∃ i j x,d=.int i/\d'=.int j/\F d d'=.ok x true/\Dv.scal x=true/\∀ K' H',Rp K' H' x (G i j))\/F d d'=.bad):OpS C op F:=by
 refine⟨_,o,fun x y d d' H Hv H1 Hv1 W Q e rx ry q=>?_⟩
 rcases hF d d' with ⟨i,j,z,rfl,rfl,hz,hs,hr⟩|hb
 ·unfold Rp at rx ry
  rw[hz] at q
  exact⟨i,j,rx,ry,q.at e (hr _ _) hs⟩
 ·rw[hb] at q; exact q.elim
theorem rp_int {K:PySem.W.Frag}{H:Hp}{i:Int}:Rp K H (.int i) (.int i):=by unfold Rp; rfl
theorem rp_bl {K:PySem.W.Frag}{H:Hp}{i:Bool}:Rp K H (.bl i) (.bl i):=by unfold Rp; rfl
theorem rp_non {K:PySem.W.Frag}{H:Hp}:Rp K H .non .non:=by unfold Rp; rfl
theorem os_sub:OpS C (binaryOp .Sub) (Dv.opD .sub):=opI0_s op_sub fun d d'=>by
 cases d <;>first
  | exact .inr rfl
  | (cases d' <;>first
   | exact .inr rfl
   | exact .inl ⟨_,_,_,rfl,rfl,rfl,rfl,fun _ _=>rp_int⟩)
theorem os_mod:OpS C (binaryOp .Mod) (Dv.opD .mod):=opI_s op_mod fun d d'=>by
 cases d with
 | int i =>
  cases d' with
  | int j =>
   by_cases h:0<j
   ·exact .inl ⟨i,j,.int (i%j),rfl,rfl,h,by simp[Dv.opD_ai,Dv.opD_al,Dv.opD_su,Dv.opD_mi,Dv.opD_ml,Dv.opD_mo,Dv.opD_fd,Dv.opD_po,Dv.opD_ba,Dv.opD_sh,h],rfl,fun _ _=>rp_int⟩
   ·exact .inr (by simp[Dv.opD_ai,Dv.opD_al,Dv.opD_su,Dv.opD_mi,Dv.opD_ml,Dv.opD_mo,Dv.opD_fd,Dv.opD_po,Dv.opD_ba,Dv.opD_sh,h])
  | _=>exact .inr rfl
 | _=>exact .inr rfl
theorem fdiv_any:OpR C.X (binaryOp .FloorDiv) (rI (fun _ j=>0<j/\j.natAbs.log2<9000) fun i j=>.int (i/j)):=opI fun i j _ _ _ _ _ hc q=>by
 have h1:(0:Int)<j:=hc.1
 exact floordiv_int (by omega) (by rw[Int.fdiv_eq_ediv_of_nonneg i (by omega)]; exact q) (.inl (PyProof.noPylong_of_log2 hc.2))
theorem os_fdiv:OpS C (binaryOp .FloorDiv) (Dv.opD .fdiv):=opI_s fdiv_any fun d d'=>by
 cases d with
 | int i =>
  cases d' with
  | int j =>
   by_cases h:Dv.divOk j=true
   ·refine .inl ⟨i,j,.int (i/j),rfl,rfl,?_,by simp[Dv.opD_ai,Dv.opD_al,Dv.opD_su,Dv.opD_mi,Dv.opD_ml,Dv.opD_mo,Dv.opD_fd,Dv.opD_po,Dv.opD_ba,Dv.opD_sh,h],rfl,fun _ _=>rp_int⟩
    unfold Dv.divOk at h
    simpa using h
   ·exact .inr (by simp[Dv.opD_ai,Dv.opD_al,Dv.opD_su,Dv.opD_mi,Dv.opD_ml,Dv.opD_mo,Dv.opD_fd,Dv.opD_po,Dv.opD_ba,Dv.opD_sh,h])
  | _=>exact .inr rfl
 | _=>exact .inr rfl
theorem os_pow:OpS C (binaryOp .Pow) (Dv.opD .pow):=opI_s op_pow fun d d'=>by
 cases d with
 | int i =>
  cases d' with
  | int j =>
   by_cases h:(decide (0<=j)&&decide (j<=1000)&&decide (i.natAbs<1000000))=true
   ·refine .inl ⟨i,j,.int (i ^ j.toNat),rfl,rfl,?_,by simp only[Dv.opD_ai,Dv.opD_al,Dv.opD_su,Dv.opD_mi,Dv.opD_ml,Dv.opD_mo,Dv.opD_fd,Dv.opD_po,Dv.opD_ba,Dv.opD_sh,h]; rfl,rfl,fun _ _=>rp_int⟩
    simp only[Bool.and_eq_true,decide_eq_true_eq] at h
    exact⟨h.1.1,by omega,by omega⟩
   ·exact .inr (by simp only[Dv.opD_ai,Dv.opD_al,Dv.opD_su,Dv.opD_mi,Dv.opD_ml,Dv.opD_mo,Dv.opD_fd,Dv.opD_po,Dv.opD_ba,Dv.opD_sh,h]; rfl)
  | _=>exact .inr rfl
 | _=>exact .inr rfl
noncomputable def rCatX (K:PySem.W.Frag):R2:=fun x y H Q=>∃ l b xs zs,x=.ref l/\y=.ref b/\SqX K H l xs/\SqX K H b zs/\xs.length+zs.length<=sizeLine/\∀ p,H p=none->Q (.ref p) (upd H p (.lst (xs++zs)))
theorem op_catX {X:Cx}:OpR X (binaryOp .Add) (rCatX X.K):=by
 intro pins s σ H x y v u Q I rx ry h
 obtain⟨l,b,xs,zs,rfl,rfl,hH,hB,hz,q⟩:=h
 cases rx
 cases ry
 obtain⟨its,n,r,e,z⟩:=Inv.listX I hH
 obtain⟨its2,n2,r2,e2,z2⟩:=Inv.listX I hB
 have hl:=r.length
 have hl2:=r2.length
 refine PySem.P.add_list e e2 ?_ (by rw[List.size_toArray,List.size_toArray]; omega)
 have ea:its.toArray++its2.toArray=(its++its2).toArray:=by simp
 rw[ea]
 exact⟨.ref _,_,I.lnew (t':=s.toks) (r.append r2) (by rw[List.length_append]; omega),rfl,q _ I.fresh⟩
theorem os_add:OpS C (binaryOp .Add) (Dv.opD .add):=by
 refine⟨_,OpR.or op_add op_catX,fun x y d d' H Hv H1 Hv1 W Q e rx ry q=>?_⟩
 cases d with
 | int i =>
  cases d' with
  | int j =>
   unfold Rp at rx ry
   exact .inl ⟨i,j,rx,ry,(show Ok _ _ _ _ _ (.ok (.int (i+j)) true) Q from q).at e rp_int rfl⟩
  | _=>exact(show False from q).elim
 | lst xs =>
  cases d' with
  | lst ys =>
   unfold Rp at rx ry
   obtain⟨l,vs,rfl,h1,h2⟩:=rx
   obtain⟨m,ws,rfl,h3,h4⟩:=ry
   by_cases hz:xs.length+ys.length<=Dv.mx
   ·have q':Ok C.X.K Hv H W C.cls (.ok (.lst (xs++ys)) (Dv.flatL xs&&Dv.flatL ys)) Q:=by simpa[Dv.opD_ai,Dv.opD_al,Dv.opD_su,Dv.opD_mi,Dv.opD_ml,Dv.opD_mo,Dv.opD_fd,Dv.opD_po,Dv.opD_ba,Dv.opD_sh,hz] using q
    refine .inr ⟨l,m,vs,ws,rfl,rfl,h1.same e.vh,h3.same e.vh,?_,fun p hp=>Ok.newL q' e (h2.append h4) (fun z=>?_) p hp⟩
    ·rw[h2.length,h4.length]; exact mx_line hz
    ·rw[Bool.and_eq_true] at z
     exact(h2.flat z.1).append (h4.flat z.2)
   ·have q':False:=by simpa[Dv.opD_ai,Dv.opD_al,Dv.opD_su,Dv.opD_mi,Dv.opD_ml,Dv.opD_mo,Dv.opD_fd,Dv.opD_po,Dv.opD_ba,Dv.opD_sh,hz,Ok] using q
    exact q'.elim
  | _=>exact(show False from q).elim
 | _=>exact(show False from q).elim
theorem bits_eq (i:Int):Builtin.Int.intBits i=Dv.bits i:=by
 unfold Builtin.Int.intBits Dv.bits
 by_cases h:i=0
 ·simp[h]
 ·simp[h]
theorem mul_any:OpR C.X (binaryOp .Mult) (rI (fun i j=>Dv.mulOk i j=true) fun i j=>.int (i*j)):=opI fun i j _ _ _ _ _ hc q=>by
 refine mul_int q ?_
 unfold Dv.mulOk at hc
 simp only[Bool.or_eq_true,Bool.and_eq_true,decide_eq_true_eq,<- bits_eq] at hc
 rcases hc with (hc|hc)|hc
 ·exact .of_left hc
 ·exact .of_right hc
 ·exact .of_bits (by simpa using hc.1) (by simpa using hc.2)
noncomputable def rRepX (K:PySem.W.Frag):R2:=fun x y H Q=>∃ l k xs,x=.ref l/\y=.int k/\SqX K H l xs/\-(2 ^ 63)<=k/\k<2 ^ 63/\xs.length*k.toNat<=sizeLine /\
 ∀ p,H p=none->Q (.ref p) (upd H p (.lst (List.replicate k.toNat xs).flatten))
theorem op_repX {X:Cx}:OpR X (binaryOp .Mult) (rRepX X.K):=by
 intro pins s σ H x y v u Q I rx ry h
 obtain⟨l,k,xs,rfl,rfl,hH,h1,h2,hz,q⟩:=h
 cases rx
 obtain⟨t,rfl⟩:=ry
 obtain⟨its,n,r,e,z⟩:=Inv.listX I hH
 have hl:=r.length
 have hlen:its.toArray.size*k.toNat<=sizeLine:=by rw[List.size_toArray,<- hl]; exact hz
 have hcap:¬ its.toArray.size*k.toNat > (2 ^ 63-1)/8:=by
  have:(sizeLine:Nat)<=(2 ^ 63-1)/8:=by decide
  omega
 have hfit:¬ (!Builtin.List.listFitsIndex k)=true:=by
  rw[fitsIndex_both h1 h2]
  exact Bool.false_ne_true
 have hlong:¬ Builtin.List.listTooLong (its.toArray.size*k.toNat)=true:=by
  rw[notLongL hlen]
  exact Bool.false_ne_true
 have hnew:List.foldl (fun x1 x2=>x1++x2) #[] (List.replicate (if its.toArray.isEmpty=true then 0 else k.toNat) its.toArray)=(List.replicate k.toNat its).flatten.toArray:=by
  have f0:∀ m:Nat,List.foldl (fun x1 x2=>x1++x2) #[] (List.replicate m its.toArray)=(List.replicate m its).flatten.toArray:=fun m=>by
   have:=foldl_rep its m []
   rw[List.nil_append] at this
   exact this
  rw[f0]
  cases its with
  | nil=>simp
  | cons a r'=>rw[if_neg (by simp)]
 refine wpAny_binaryOp_repeat_ref (T:="list") (U:="int") (by decide) ⟨_,e,rfl⟩ (fun s'=>typeIs_int s' k t) noFill_list_mul F.fills_int_mul F.slot_int_rmul repeat_list F.slot_int_index.lookup
  (call_meets F.slot_int_rmul (typeIs_int s k t) F.entry_int_rmul (F.args_int_rmul_2 _ _) (int___rmul___int_list k t l its.toArray n)
   ⟨e,rfl,⟨_,e,rfl⟩,call_meets F.slot_list_mul ⟨_,e,rfl⟩ F.entry_list_mul (F.args_list_mul_2 _ _) (AutoListH.list___mul___list_int_3 l its.toArray n k t hfit hcap hlong) ⟨e,?_⟩⟩)
 rw[hnew]
 exact⟨.ref _,_,I.lnew (t':=s.toks) (r.rep k.toNat) (by rw[len_rep,Nat.mul_comm]; exact hz),rfl,q _ I.fresh⟩
theorem RpL.rep {K:PySem.W.Frag}{H:Hp}{ds:List D}{vs:List V}(h:RpL K H ds vs):∀ k:Nat,RpL K H (List.replicate k ds).flatten (List.replicate k vs).flatten
 | 0=>.nil
 | k+1=>by
  rw[List.replicate_succ,List.replicate_succ,List.flatten_cons,List.flatten_cons]
  exact h.append (RpL.rep h k)
theorem os_mul:OpS C (binaryOp .Mult) (Dv.opD .mul):=by
 refine⟨_,OpR.or mul_any op_repX,fun x y d d' H Hv H1 Hv1 W Q e rx ry q=>?_⟩
 cases d with
 | int i =>
  cases d' with
  | int j =>
   unfold Rp at rx ry
   by_cases h:Dv.mulOk i j=true
   ·have q':Ok C.X.K Hv H W C.cls (.ok (.int (i*j)) true) Q:=by simpa[Dv.opD_ai,Dv.opD_al,Dv.opD_su,Dv.opD_mi,Dv.opD_ml,Dv.opD_mo,Dv.opD_fd,Dv.opD_po,Dv.opD_ba,Dv.opD_sh,h] using q
    exact .inl ⟨i,j,rx,ry,h,q'.at e rp_int rfl⟩
   ·have q':False:=by simpa[Dv.opD_ai,Dv.opD_al,Dv.opD_su,Dv.opD_mi,Dv.opD_ml,Dv.opD_mo,Dv.opD_fd,Dv.opD_po,Dv.opD_ba,Dv.opD_sh,h,Ok] using q
    exact q'.elim
  | _=>exact(show False from q).elim
 | lst xs =>
  cases d' with
  | int j =>
   unfold Rp at rx ry
   obtain⟨l,vs,rfl,h1,h2⟩:=rx
   subst ry
   by_cases hz:(decide (-100000<=j)&&decide (j<=Dv.mx)&&decide (xs.length*j.toNat<=Dv.mx))=true
   ·have q':Ok C.X.K Hv H W C.cls (.ok (.lst (List.replicate j.toNat xs).flatten) (Dv.flatL xs)) Q:=by
     simp only[Dv.opD_ai,Dv.opD_al,Dv.opD_su,Dv.opD_mi,Dv.opD_ml,Dv.opD_mo,Dv.opD_fd,Dv.opD_po,Dv.opD_ba,Dv.opD_sh,hz,if_true] at q; exact q
    simp only[Bool.and_eq_true,decide_eq_true_eq] at hz
    have hj:j<=100000:=hz.1.2
    have hj0:-100000<=j:=hz.1.1
    refine .inr ⟨l,j,vs,rfl,rfl,h1.same e.vh,by omega,by omega,?_,fun p hp=>Ok.newL q' e (h2.rep _) (fun z=>?_) p hp⟩
    ·rw[h2.length]; exact mx_line hz.2
    ·exact(h2.flat z).rep _
   ·simp only[Dv.opD_ai,Dv.opD_al,Dv.opD_su,Dv.opD_mi,Dv.opD_ml,Dv.opD_mo,Dv.opD_fd,Dv.opD_po,Dv.opD_ba,Dv.opD_sh,hz] at q
    exact(show False from q).elim
  | _=>exact(show False from q).elim
 | _=>exact(show False from q).elim
theorem os_lt:OpS C (compareOp .Lt) (Dv.cmD .lt):=opI0_s op_lt fun d d'=>by
 cases d <;>first
  | exact .inr rfl
  | (cases d' <;>first|exact .inr rfl|exact .inl ⟨_,_,_,rfl,rfl,rfl,rfl,fun _ _=>rp_bl⟩)
theorem os_le:OpS C (compareOp .LtE) (Dv.cmD .le):=opI0_s op_le fun d d'=>by
 cases d <;>first
  | exact .inr rfl
  | (cases d' <;>first|exact .inr rfl|exact .inl ⟨_,_,_,rfl,rfl,rfl,rfl,fun _ _=>rp_bl⟩)
theorem os_gt:OpS C (compareOp .Gt) (Dv.cmD .gt):=opI0_s op_gt fun d d'=>by
 cases d <;>first
  | exact .inr rfl
  | (cases d' <;>first|exact .inr rfl|exact .inl ⟨_,_,_,rfl,rfl,rfl,rfl,fun _ _=>rp_bl⟩)
theorem os_ge:OpS C (compareOp .GtE) (Dv.cmD .ge):=opI0_s op_ge fun d d'=>by
 cases d <;>first
  | exact .inr rfl
  | (cases d' <;>first|exact .inr rfl|exact .inl ⟨_,_,_,rfl,rfl,rfl,rfl,fun _ _=>rp_bl⟩)
mutual
noncomputable def pd:D->PyData
 | .non=>.none
 | .bl b=>.bool b
 | .int i=>.int i
 | .str x=>.str ⟨(Dv.clipS x).toArray⟩
 | .lst ds=>.list (pdL ds)
 | .tup ds=>.tuple (pdL ds)
 | .exn _=>.none
 | .raw _=>.none
 | .tab _=>.none
 | .dct _ _=>.none
noncomputable def pdL:List D->List PyData
 | []=>[]
 | d::r=>pd d::pdL r
end
mutual
theorem pd_lay:∀ d:D,(pd d).canLay0=true
 | .non=>by simp[pd,PyData.canLay0]
 | .bl _=>by simp[pd,PyData.canLay0]
 | .int _=>by simp[pd,PyData.canLay0]
 | .str x=>by
  have:∀ n:Nat,n%1114112<1114112:=fun n=>Nat.mod_lt _ (by decide)
  simp[pd,PyData.canLay0,PyData.strOk,Dv.clipS,this]
 | .lst ds=>by simp[pd,PyData.canLay0,pdL_lay ds]
 | .tup ds=>by simp[pd,PyData.canLay0,pdL_lay ds]
 | .exn _=>by simp[pd,PyData.canLay0]
 | .raw _=>by simp[pd,PyData.canLay0]
 | .tab _=>by simp[pd,PyData.canLay0]
 | .dct _ _=>by simp[pd,PyData.canLay0]
theorem pdL_lay:∀ ds:List D,PyData.canLayAll0 (pdL ds)=true
 | []=>by simp[pdL,PyData.canLayAll0]
 | d::r=>by simp[pdL,PyData.canLayAll0,pd_lay d,pdL_lay r]
end
mutual
theorem pd_depth:∀ d:D,(pd d).depth<=Dv.depthD d
 | .non=>by simp[pd,PyData.depth,Dv.depthD]
 | .bl _=>by simp[pd,PyData.depth,Dv.depthD]
 | .int _=>by simp[pd,PyData.depth,Dv.depthD]
 | .str _=>by simp[pd,PyData.depth,Dv.depthD]
 | .lst ds=>by have:=pdL_depth ds; simp[pd,PyData.depth,Dv.depthD]; omega
 | .tup ds=>by have:=pdL_depth ds; simp[pd,PyData.depth,Dv.depthD]; omega
 | .exn _=>by simp[pd,PyData.depth,Dv.depthD]
 | .raw _=>by simp[pd,PyData.depth,Dv.depthD]
 | .tab _=>by simp[pd,PyData.depth,Dv.depthD]
 | .dct _ _=>by simp[pd,PyData.depth,Dv.depthD]
theorem pdL_depth:∀ ds:List D,PyData.depthAll (pdL ds)<=Dv.depthL ds
 | []=>by simp[pdL,PyData.depthAll,Dv.depthL]
 | d::r=>by have:=pd_depth d; have:=pdL_depth r; simp[pdL,PyData.depthAll,Dv.depthL]; omega
end
mutual
theorem eqv_of:∀ (a b:D) (r:Bool),Dv.eqD a b=some r->PyData.eqv (pd a) (pd b)=r
 | .non,b,r,h=>by
  cases b with
  | non=>cases (show some true=some r from h); simp[pd,PyData.eqv]
  | _=>exact(nomatch (show (none:Option Bool)=some r from h))
 | .bl p,b,r,h=>by
  cases b with
  | bl q=>cases (show some (p == q)=some r from h); simp[pd,PyData.eqv]
  | _=>exact(nomatch (show (none:Option Bool)=some r from h))
 | .int p,b,r,h=>by
  cases b with
  | int q=>cases (show some (decide (p=q))=some r from h); simp[pd,PyData.eqv,Bool.beq_eq_decide_eq]
  | _=>exact(nomatch (show (none:Option Bool)=some r from h))
 | .str p,b,r,h=>by
  cases b with
  | str q=>cases (show some (decide (Dv.clipS p=Dv.clipS q))=some r from h); simp[pd,PyData.eqv,Bool.beq_eq_decide_eq]
  | _=>exact(nomatch (show (none:Option Bool)=some r from h))
 | .lst xs,b,r,h=>by
  cases b with
  | lst ys =>
   have h:Dv.eqDL xs ys=some r:=h
   simp only[pd,PyData.eqv]
   exact eqvL_of _ _ _ h
  | _=>exact(nomatch (show (none:Option Bool)=some r from h))
 | .tup xs,b,r,h=>by
  cases b with
  | tup ys =>
   have h:Dv.eqDL xs ys=some r:=h
   simp only[pd,PyData.eqv]
   exact eqvL_of _ _ _ h
  | _=>exact(nomatch (show (none:Option Bool)=some r from h))
 | .exn _,b,r,h=>by cases b <;>exact(nomatch (show (none:Option Bool)=some r from h))
 | .raw _,b,r,h=>by cases b <;>exact(nomatch (show (none:Option Bool)=some r from h))
 | .tab _,b,r,h=>by cases b <;>exact(nomatch (show (none:Option Bool)=some r from h))
 | .dct _ _,b,r,h=>by cases b <;>exact(nomatch (show (none:Option Bool)=some r from h))
theorem eqvL_of:∀ (a b:List D) (r:Bool),Dv.eqDL a b=some r->PyData.eqvAll (pdL a) (pdL b)=r
 | [],[],r,h=>by simp[Dv.eqDL] at h; subst h; simp[pdL,PyData.eqvAll]
 | [],_::_,r,h=>by simp[Dv.eqDL] at h; subst h; simp[pdL,PyData.eqvAll]
 | _::_,[],r,h=>by simp[Dv.eqDL] at h; subst h; simp[pdL,PyData.eqvAll]
 | x::xs,y::ys,r,h=>by
  simp only[Dv.eqDL] at h
  cases h1:Dv.eqD x y with
  | none=>rw[h1] at h; cases h
  | some p =>
   cases h2:Dv.eqDL xs ys with
   | none=>rw[h1,h2] at h; cases h
   | some q =>
    rw[h1,h2] at h
    cases h
    simp only[pdL,PyData.eqvAll,eqv_of x y p h1,eqvL_of xs ys q h2]
end
mutual
theorem reads_of {X:Cx}{pins:List (Addr × Obj)}{σ:St}{H:Hp}{s:Shared}(I:Inv X pins σ H s):∀ (d:D) (v:V) (u:Value),Rp X.K H d v->RelV v u->Dv.depthD d<=9->∃ as,Reads s.heap u (pd d) as
 | .non,v,u,h,r,_=>by unfold Rp at h; subst h; cases r; unfold pd; exact⟨_,.none⟩
 | .bl b,v,u,h,r,_=>by unfold Rp at h; subst h; cases r; unfold pd; exact⟨_,.bool b⟩
 | .int i,v,u,h,r,_=>by unfold Rp at h; subst h; obtain⟨t,rfl⟩:=r; unfold pd; exact⟨_,.int i t⟩
 | .str x,v,u,h,r,_=>by unfold Rp at h; subst h; obtain⟨t,rfl⟩:=r; unfold pd; exact⟨_,.str _ t⟩
 | .exn _,v,u,h,r,hd=>by unfold Dv.depthD at hd; omega
 | .raw _,v,u,h,r,hd=>by unfold Dv.depthD at hd; omega
 | .tab _,v,u,h,r,hd=>by unfold Dv.depthD at hd; omega
 | .dct _ _,v,u,h,r,hd=>by unfold Dv.depthD at hd; omega
 | .lst ds,v,u,h,r,hd=>by
  unfold Rp at h
  unfold Dv.depthD at hd
  obtain⟨a,vs,rfl,h1,h2⟩:=h
  cases r
  obtain⟨its,n,rv,e,_⟩:=Inv.listX I h1
  obtain⟨as,ra⟩:=readsL_of I ds vs its h2 rv (by omega)
  unfold pd
  exact⟨_,.list e rfl rfl (by simpa using ra)⟩
 | .tup ds,v,u,h,r,hd'=>by
  unfold Rp at h
  unfold Dv.depthD at hd'
  obtain⟨a,vs,rfl,h1,h2⟩:=h
  cases r
  obtain⟨_,its,rv,o,e,hc,n,hd⟩:=h1.ok I.hok
  obtain⟨as,ra⟩:=readsL_of I ds vs its h2 rv (by omega)
  unfold pd
  exact⟨_,.tuple e hc hd (by simpa using ra)⟩
theorem readsL_of {X:Cx}{pins:List (Addr × Obj)}{σ:St}{H:Hp}{s:Shared}(I:Inv X pins σ H s):∀ (ds:List D) (vs:List V) (us:List Value),RpL X.K H ds vs->Vals vs us->Dv.depthL ds<=9->∃ as,ReadsAll s.heap us (pdL ds) as
 | [],vs,us,h,r,_=>by unfold RpL at h; subst h; cases r; unfold pdL; exact⟨_,.nil⟩
 | d::ds,vs,us,h,r,hd=>by
  unfold RpL at h
  unfold Dv.depthL at hd
  obtain⟨v,ws,rfl,h1,h2⟩:=h
  cases r with
  | cons r1 r2 =>
   obtain⟨as,ra⟩:=reads_of I d v _ h1 r1 (by omega)
   obtain⟨bs,rb⟩:=readsL_of I ds ws _ h2 r2 (by omega)
   unfold pdL
   exact⟨_,.cons ra rb⟩
end
noncomputable def rEqD (K:PySem.W.Frag)(neg:Bool):R2:=fun x y H Q=>∃ d d' b,Rp K H d x/\Rp K H d' y/\Dv.depthD d<=9/\Dv.depthD d'<=9/\Dv.eqD d d'=some b/\Q (.bl (if neg then !b else b)) H
theorem op_eqD (hu:C.X.A.units+64<cLine):OpR C.X (compareOp .Eq) (rEqD C.X.K false):=by
 intro pins s σ H x y v u Q I rx ry h
 obtain⟨d,d',b,h1,h2,z1,z2,e,q⟩:=h
 obtain⟨as,ra⟩:=reads_of I d x v h1 rx z1
 obtain⟨bs,rb⟩:=reads_of I d' y u h2 ry z2
 refine SeqAt.compareEq_reads ra rb (pd_lay d) (pd_lay d') ?_ ⟨.bl b,H,I,?_,q⟩
 ·have:=pd_depth d
  have:=pd_depth d'
  have:=Nat.min_le_left (pd d).depth (pd d').depth
  omega
 ·rw[eqv_of _ _ _ e]; rfl
theorem op_neD (hu:C.X.A.units+64<cLine):OpR C.X (compareOp .NotEq) (rEqD C.X.K true):=by
 intro pins s σ H x y v u Q I rx ry h
 obtain⟨d,d',b,h1,h2,z1,z2,e,q⟩:=h
 obtain⟨as,ra⟩:=reads_of I d x v h1 rx z1
 obtain⟨bs,rb⟩:=reads_of I d' y u h2 ry z2
 refine SeqAt.compareNe_reads ra rb (pd_lay d) (pd_lay d') ?_ ⟨.bl (!b),H,I,?_,q⟩
 ·have:=pd_depth d
  have:=pd_depth d'
  have:=Nat.min_le_left (pd d).depth (pd d').depth
  omega
 ·rw[eqv_of _ _ _ e]; rfl
theorem os_eq:OpS C (compareOp .Eq) (Dv.cmD .eq):=by
 refine⟨_,op_eqD C.un,fun x y d d' H Hv H1 Hv1 W Q e rx ry q=>?_⟩
 simp only[Dv.cmD_eq,Dv.cmD_ne,Dv.cmD_lt,Dv.cmD_le,Dv.cmD_gt,Dv.cmD_ge,Dv.cmD_in,Dv.cmD_ni,Dv.cmD_it,Dv.cmD_nt] at q
 by_cases hz:(decide (Dv.depthD d<=9)&&decide (Dv.depthD d'<=9))=true
 ·rw[if_pos hz] at q
  simp only[Bool.and_eq_true,decide_eq_true_eq] at hz
  cases he:Dv.eqD d d' with
  | none=>rw[he] at q; exact(show False from q).elim
  | some b =>
   rw[he] at q
   exact⟨d,d',b,rx.same e.vh,ry.same e.vh,hz.1,hz.2,he,Ok.at (d:=.bl b) (fr:=true) q e rp_bl rfl⟩
 ·rw[if_neg hz] at q; exact(show False from q).elim
theorem os_ne:OpS C (compareOp .NotEq) (Dv.cmD .ne):=by
 refine⟨_,op_neD C.un,fun x y d d' H Hv H1 Hv1 W Q e rx ry q=>?_⟩
 simp only[Dv.cmD_eq,Dv.cmD_ne,Dv.cmD_lt,Dv.cmD_le,Dv.cmD_gt,Dv.cmD_ge,Dv.cmD_in,Dv.cmD_ni,Dv.cmD_it,Dv.cmD_nt] at q
 by_cases hz:(decide (Dv.depthD d<=9)&&decide (Dv.depthD d'<=9))=true
 ·rw[if_pos hz] at q
  simp only[Bool.and_eq_true,decide_eq_true_eq] at hz
  cases he:Dv.eqD d d' with
  | none=>rw[he] at q; exact(show False from q).elim
  | some b =>
   rw[he] at q
   exact⟨d,d',b,rx.same e.vh,ry.same e.vh,hz.1,hz.2,he,Ok.at (d:=.bl (!b)) (fr:=true) q e rp_bl rfl⟩
 ·rw[if_neg hz] at q; exact(show False from q).elim
theorem in_ints:∀ (i:Int) (ds:List D) (vs:List V) (b:Bool) {K:PySem.W.Frag} {H:Hp},Dv.inD i ds=some b->RpL K H ds vs->vs.all flatV=true/\inV (.int i) vs=b
 | i,[],vs,b,K,H,h,r=>by
  unfold RpL at r; subst r
  simp[Dv.inD] at h; subst h
  exact⟨rfl,rfl⟩
 | i,d::ds,vs,b,K,H,h,r=>by
  unfold RpL at r
  obtain⟨v,ws,rfl,h1,h2⟩:=r
  cases d with
  | int j =>
   simp only[Dv.inD,Option.map_eq_some_iff] at h
   obtain⟨c,hc,rfl⟩:=h
   obtain⟨z1,z2⟩:=in_ints i ds ws c hc h2
   unfold Rp at h1
   subst h1
   refine⟨by simp[flatV,z1],?_⟩
   have:inV (.int i) (.int j::ws)=(eqV (.int j) (.int i) || inV (.int i) ws):=rfl
   rw[this,z2]
   show ((j == i) || c)=(decide (j=i) || c)
   rw[Bool.beq_eq_decide_eq]
  | _=>simp[Dv.inD] at h
theorem os_in:OpS C (compareOp .In) (Dv.cmD .isin):=by
 refine⟨_,op_in_seq,fun x y d d' H Hv H1 Hv1 W Q e rx ry q=>?_⟩
 cases d with
 | int i =>
  cases d' with
  | lst ds =>
   simp only[Dv.cmD_eq,Dv.cmD_ne,Dv.cmD_lt,Dv.cmD_le,Dv.cmD_gt,Dv.cmD_ge,Dv.cmD_in,Dv.cmD_ni,Dv.cmD_it,Dv.cmD_nt] at q
   cases hi:Dv.inD i ds with
   | none=>rw[hi] at q; exact(show False from q).elim
   | some b =>
    rw[hi] at q
    unfold Rp at rx ry
    subst rx
    obtain⟨l,vs,rfl,h1,h2⟩:=ry
    obtain⟨z1,z2⟩:=in_ints i ds vs b hi h2
    refine⟨l,vs,rfl,.inl (h1.same e.vh).seq,rfl,z1,?_⟩
    rw[z2]
    exact Ok.at (d:=.bl b) (fr:=true) q e rp_bl rfl
  | _=>exact(show False from q).elim
 | _=>exact(show False from q).elim
theorem os_notin:OpS C (compareOp .NotIn) (Dv.cmD .notin):=by
 refine⟨_,op_notIn_seq,fun x y d d' H Hv H1 Hv1 W Q e rx ry q=>?_⟩
 cases d with
 | int i =>
  cases d' with
  | lst ds =>
   simp only[Dv.cmD_eq,Dv.cmD_ne,Dv.cmD_lt,Dv.cmD_le,Dv.cmD_gt,Dv.cmD_ge,Dv.cmD_in,Dv.cmD_ni,Dv.cmD_it,Dv.cmD_nt] at q
   cases hi:Dv.inD i ds with
   | none=>rw[hi] at q; exact(show False from q).elim
   | some b =>
    rw[hi] at q
    unfold Rp at rx ry
    subst rx
    obtain⟨l,vs,rfl,h1,h2⟩:=ry
    obtain⟨z1,z2⟩:=in_ints i ds vs b hi h2
    refine⟨l,vs,rfl,.inl (h1.same e.vh).seq,rfl,z1,?_⟩
    rw[z2]
    exact Ok.at (d:=.bl (!b)) (fr:=true) q e rp_bl rfl
  | _=>exact(show False from q).elim
 | _=>exact(show False from q).elim
theorem at_atI {ds:List D}{vs:List V}{K:PySem.W.Frag}{H:Hp}{i:Int}{d:D}(r:RpL K H ds vs)(h:Dv.at? ds i=some d):∃ v,atI vs i=some v/\Rp K H d v:=by
 unfold Dv.at? at h
 unfold atI ixN
 have hl:=r.length
 by_cases h0:0<=i
 ·rw[if_pos h0] at h
  obtain⟨v,h1,h2⟩:=r.get h
  have hlt:i.toNat<vs.length:=(List.getElem?_eq_some_iff.mp h1).1
  refine⟨v,?_,h2⟩
  rw[if_pos h0,if_pos (by omega)]
  exact h1
 ·rw[if_neg h0] at h
  by_cases h1:-(ds.length:Int)<=i
  ·rw[if_pos h1] at h
   obtain⟨v,h2,h3⟩:=r.get h
   refine⟨v,?_,h3⟩
   rw[if_neg h0,if_pos (by omega)]
   rw[hl]
   exact h2
  ·rw[if_neg h1] at h; cases h
theorem item_of {K:PySem.W.Frag}{H Hv H2 Hv2:Hp}{ds:List D}{v:V}{fr:Bool}{k:Int}{d:D}(x:Ext Hv H Hv2 H2)(hk:Dv.at? ds k=some d) :
  (Rp K Hv2 (.lst ds) v->(fr=true->Rp [] (Hnew H H2) (.lst ds) v)->∃ l vs u,v=.ref l/\SqX K H2 l vs/\atI vs k=some u/\Rp K Hv2 d u/\((fr || Dv.scal d)=true->Rp [] (Hnew H H2) d u)) /\
  (Rp K Hv2 (.tup ds) v->(fr=true->Rp [] (Hnew H H2) (.tup ds) v)->∃ l vs u,v=.ref l/\Rd H2 l (.tup vs)/\atI vs k=some u/\Rp K Hv2 d u/\((fr || Dv.scal d)=true->Rp [] (Hnew H H2) d u)):=by
 constructor
 ·intro rp n
  cases fr with
  | true =>
   have rn:=n rfl
   unfold Rp at rn
   obtain⟨l,vs,rfl,h1,h2⟩:=rn
   obtain⟨u,h3,h4⟩:=at_atI h2 hk
   refine⟨l,vs,u,rfl,?_,h3,(Rp.frag h4).same x.news,fun _=>h4⟩
   rcases h1 with h1|⟨its,n,e,_⟩
   ·exact .inl (Rd.same Hnew.sub h1)
   ·simp at e
  | false =>
   unfold Rp at rp
   obtain⟨l,vs,rfl,h1,h2⟩:=rp
   obtain⟨u,h3,h4⟩:=at_atI h2 hk
   exact⟨l,vs,u,rfl,h1.same x.vh,h3,h4,fun z=>h4.scal (by simpa using z)⟩
 ·intro rp n
  cases fr with
  | true =>
   have rn:=n rfl
   unfold Rp at rn
   obtain⟨l,vs,rfl,h1,h2⟩:=rn
   obtain⟨u,h3,h4⟩:=at_atI h2 hk
   exact⟨l,vs,u,rfl,Rd.same Hnew.sub h1,h3,(Rp.frag h4).same x.news,fun _=>h4⟩
  | false =>
   unfold Rp at rp
   obtain⟨l,vs,rfl,h1,h2⟩:=rp
   obtain⟨u,h3,h4⟩:=at_atI h2 hk
   exact⟨l,vs,u,rfl,Rd.same x.vh h1,h3,h4,fun z=>h4.scal (by simpa using z)⟩
theorem se_ix (ha:SE C a f)(hb:SE C b g)(hs:autoParam (PlainIx b) Au.h8._auto_1):SE C (.Subscript a b pos) (Dv.eIx f g):=by
 obtain⟨ta,pa,qa⟩:=ha
 obtain⟨tb,pb,qb⟩:=hb
 refine⟨_,pe_ix (ix_list.or ix_tup) pa pb hs,fun σ H Hv ρ Q e s w=>?_⟩
 refine qa.step e (.refl s) w fun v d fr Hv1 H1 _ x1 _ rp1 n1 q1=>qb.step e x1 q1 fun v2 d2 fr2 Hv2 H2 _ x2 y2 rp2 _ q2=>?_
 have rp:=rp1.same y2.vv
 have rn:fr=true->Rp [] (Hnew H H2) d v:=fun z=>(n1 z).same (Hnew.mono (.refl _) y2.hh)
 cases d2 with
 | int k =>
  unfold Rp at rp2
  cases d with
  | lst ds =>
   have q3:Ok C.X.K Hv H (C.W σ) C.cls (match Dv.at? ds k with|some d=>.ok d (fr || Dv.scal d)|none=>.bad) Q:=q2
   cases hk:Dv.at? ds k with
   | none=>rw[hk] at q3; exact(show False from q3).elim
   | some d =>
    rw[hk] at q3
    obtain⟨l,vs,u,e1,h1,h2,h3,h4⟩:=(item_of (fr:=fr) x2 hk).1 rp rn
    exact .inl ⟨l,vs,k,u,e1,rp2,h1.seq,h2,q3 u Hv2 H2 x2 h3 h4⟩
  | tup ds =>
   have q3:Ok C.X.K Hv H (C.W σ) C.cls (match Dv.at? ds k with|some d=>.ok d (fr || Dv.scal d)|none=>.bad) Q:=q2
   cases hk:Dv.at? ds k with
   | none=>rw[hk] at q3; exact(show False from q3).elim
   | some d =>
    rw[hk] at q3
    obtain⟨l,vs,u,e1,h1,h2,h3,h4⟩:=(item_of (fr:=fr) x2 hk).2 rp rn
    exact .inr ⟨l,vs,k,u,e1,rp2,.inl h1,h2,q3 u Hv2 H2 x2 h3 h4⟩
  | _=>exact(show False from q2).elim
 | _=>cases d <;>exact(show False from q2).elim
noncomputable def C1S (C:Ctx)(fv:Value)(F:D->Bool->R):Prop :=
 ∃ r,CallR C.X fv r/\∀ x d fr H Hv H1 Hv1 W Q,Ext Hv H Hv1 H1->Rp C.X.K Hv1 d x->(fr=true->Rp [] (Hnew H H1) d x)->Ok C.X.K Hv H W C.cls (F d fr) Q->r [x] H1 Q
theorem se_b1 {x:Str}{p:Pos}{id:String}{F:D->Bool->R}(o:C1S C (.builtin id) F)(hg:Gl C.X x)(hm:C.X.mg x=none)(hv:bootBuiltins x=some (.builtin id))(ha:SE C a f)
  (hn:autoParam (x≠"__name__") Au.h2._auto_1) (hdb:autoParam ((x == ("__debug__":Str))=false) Au.h2._auto_1) (he:autoParam (starEach [a] C.X.env=[(false,eval a C.X.env)]) Au.h4._auto_1):SE C (.Call (.Name x p) [a] [] pos) (Dv.eB1 F f):=by
 obtain⟨r,ho,hr⟩:=o
 obtain⟨t,pa,qa⟩:=ha
 refine⟨_,pe_callB ho hg hm hv (pa_cons pa pa_nil he) hn hdb he rfl,fun σ H Hv ρ Q e s w=>?_⟩
 exact qa.step e (.refl s) w fun v d fr Hv1 H1 _ x1 _ rp1 n1 q1=>hr v d fr H Hv H1 Hv1 _ Q x1 rp1 n1 q1
theorem se_t1 {x:Str}{p:Pos}{id:String}{F:D->Bool->R}(o:C1S C (.type id) F)(hg:Gl C.X x)(hm:C.X.mg x=none)(hv:bootBuiltins x=some (.type id))(ha:SE C a f)
  (hn:autoParam (x≠"__name__") Au.h2._auto_1) (hdb:autoParam ((x == ("__debug__":Str))=false) Au.h2._auto_1) (he:autoParam (starEach [a] C.X.env=[(false,eval a C.X.env)]) Au.h4._auto_1):SE C (.Call (.Name x p) [a] [] pos) (Dv.eB1 F f):=by
 obtain⟨r,ho,hr⟩:=o
 obtain⟨t,pa,qa⟩:=ha
 refine⟨_,pe_callTy ho hg hm hv (pa_cons pa pa_nil he) hn hdb he rfl,fun σ H Hv ρ Q e s w=>?_⟩
 exact qa.step e (.refl s) w fun v d fr Hv1 H1 _ x1 _ rp1 n1 q1=>hr v d fr H Hv H1 Hv1 _ Q x1 rp1 n1 q1
theorem c1_len:C1S C (.builtin "len") Dv.lenD:=by
 refine⟨_,call_len_seq,fun x d fr H Hv H1 Hv1 W Q e rx n q=>?_⟩
 cases d with
 | lst ds =>
  unfold Rp at rx
  obtain⟨l,vs,rfl,h1,h2⟩:=rx
  refine⟨l,vs,rfl,.inl (h1.same e.vh).seq,?_⟩
  rw[h2.length]
  exact Ok.at (d:=.int ds.length) (fr:=true) q e rp_int rfl
 | tup ds =>
  unfold Rp at rx
  obtain⟨l,vs,rfl,h1,h2⟩:=rx
  refine⟨l,vs,rfl,.inr (.inl (Rd.same e.vh h1)),?_⟩
  rw[h2.length]
  exact Ok.at (d:=.int ds.length) (fr:=true) q e rp_int rfl
 | _=>exact(show False from q).elim
theorem c1_list:C1S C (.type "list") Dv.listD:=by
 refine⟨_,call_list_of,fun x d fr H Hv H1 Hv1 W Q e rx n q=>?_⟩
 cases d with
 | lst ds =>
  cases fr with
  | true =>
   have rn:=n rfl
   unfold Rp at rn
   obtain⟨l,vs,rfl,h1,h2⟩:=rn
   have h1':SqX C.X.K H1 l vs:=by
    rcases h1 with h1|⟨its,n,e,_⟩
    ·exact .inl (Rd.same Hnew.sub h1)
    ·simp at e
   exact⟨l,vs,rfl,.inl h1'.seq,fun p hp=>Ok.newL q e ((RpL.frag h2).same e.news) (fun _=>h2) p hp⟩
  | false =>
   unfold Rp at rx
   obtain⟨l,vs,rfl,h1,h2⟩:=rx
   exact⟨l,vs,rfl,.inl (h1.same e.vh).seq,fun p hp=>Ok.newL q e h2 (fun z=>h2.flat (by simpa using z)) p hp⟩
 | tup ds =>
  cases fr with
  | true =>
   have rn:=n rfl
   unfold Rp at rn
   obtain⟨l,vs,rfl,h1,h2⟩:=rn
   exact⟨l,vs,rfl,.inr (.inl (Rd.same Hnew.sub h1)),fun p hp=>Ok.newL q e ((RpL.frag h2).same e.news) (fun _=>h2) p hp⟩
  | false =>
   unfold Rp at rx
   obtain⟨l,vs,rfl,h1,h2⟩:=rx
   exact⟨l,vs,rfl,.inr (.inl (Rd.same e.vh h1)),fun p hp=>Ok.newL q e h2 (fun z=>h2.flat (by simpa using z)) p hp⟩
 | _=>exact(show False from q).elim
theorem ins_perm (i:Int):∀ l:List Int,(Dv.ins i l).Perm (i::l)
 | []=>.refl _
 | j::r=>by
  unfold Dv.ins
  split
  ·exact .refl _
  ·exact((ins_perm i r).cons j).trans (.swap i j r)
theorem isort_perm:∀ l:List Int,(Dv.isort l).Perm l
 | []=>.refl _
 | i::r=>(ins_perm i _).trans ((isort_perm r).cons i)
theorem ins_sorted (i:Int):∀ l:List Int,l.Pairwise (·<=·)->(Dv.ins i l).Pairwise (·<=·)
 | [],_=>by simp[Dv.ins]
 | j::r,h=>by
  unfold Dv.ins
  split
  ·rename_i hij
   refine List.pairwise_cons.mpr ⟨fun x hx=>?_,h⟩
   rcases List.mem_cons.mp hx with rfl|hx
   ·exact hij
   ·exact Int.le_trans hij ((List.pairwise_cons.mp h).1 x hx)
  ·rename_i hij
   refine List.pairwise_cons.mpr ⟨fun x hx=>?_,ins_sorted i r (List.pairwise_cons.mp h).2⟩
   rcases List.mem_cons.mp ((ins_perm i r).mem_iff.mp hx) with rfl|hx
   ·omega
   ·exact(List.pairwise_cons.mp h).1 x hx
theorem isort_sorted:∀ l:List Int,(Dv.isort l).Pairwise (·<=·)
 | []=>.nil
 | i::r=>ins_sorted i _ (isort_sorted r)
theorem sorted_uniq:∀ {a b:List Int},a.Perm b->a.Pairwise (·<=·)->b.Pairwise (·<=·)->a=b
 | [],b,p,_,_=>by simpa using p.symm.eq_nil
 | x::a,[],p,_,_=>absurd p.eq_nil (by simp)
 | x::a,y::b,p,ha,hb=>by
  have h1:=List.pairwise_cons.mp ha
  have h2:=List.pairwise_cons.mp hb
  have e:x=y:=by
   have hx:x∈y::b:=p.mem_iff.mp List.mem_cons_self
   have hy:y∈x::a:=p.mem_iff.mpr List.mem_cons_self
   rcases List.mem_cons.mp hx with e|hx
   ·exact e
   rcases List.mem_cons.mp hy with e|hy
   ·exact e.symm
   exact Int.le_antisymm (h1.1 y hy) (h2.1 x hx)
  subst e
  rw[sorted_uniq ((List.perm_cons x).mp p) h1.2 h2.2]
theorem vals_of_ints {vs:List Value}{ns:List Int}(h:IntsAre vs ns):Vals (ns.map V.int) vs:=by
 induction h with
 | nil=>exact .nil
 | cons n t _ ih=>exact .cons ⟨t,rfl⟩ ih
theorem call_sorted {X:Cx}:CallR X (.builtin "sorted") (fun xs H Q=>∃ p ns,xs=[.ref p]/\SqX X.K H p (ns.map V.int)/\ns.length<64/\∀ l,H l=none->Q (.ref l) (upd H l (.lst ((Dv.isort ns).map V.int)))):=by
 intro pins s σ H xs us Q I r h
 obtain⟨p,ns,rfl,hq,h64,q⟩:=h
 obtain⟨u,rfl,rx⟩:=vals1 r
 cases rx
 obtain⟨its,n,rv,e,z⟩:=Inv.listX I hq
 have hi:=intsAre_of rv
 have hl:=rv.length
 rw[List.length_map] at hl
 refine sorted_ints (ns:=ns) ⟨_,e,rfl,n,rfl⟩ hi (by omega) fun out ns' a1 a2 a3=>?_
 have e1:ns'=Dv.isort ns:=sorted_uniq (a2.trans (isort_perm ns).symm) a3 (isort_sorted ns)
 subst e1
 obtain⟨ep,hat⟩:=sortedAll_at s.heap its out
 have hf:H (s.heap.objs.size+1)=none:=I.hok.fresh (Nat.le_succ _)
 refine⟨.ref (s.heap.objs.size+1),_,I.laid (t':=s.toks) (o:=.lst ((Dv.isort ns).map V.int)) (fun b u q=>sortedAll_old q) (Nat.le_succ _) ?_,rfl,q _ hf⟩
 refine⟨?_,out.toList,ep,vals_of_ints a1,by simpa[seqObj] using hat⟩
 rw[List.length_map,(isort_perm ns).length_eq]
 rw[sizeLine_eq]; omega
theorem c1_sorted:C1S C (.builtin "sorted") Dv.sortedD:=by
 refine⟨_,call_sorted,fun x d fr H Hv H1 Hv1 W Q e rx n q=>?_⟩
 cases d with
 | lst ds =>
  simp only[Dv.sortedD] at q
  cases hi:Dv.intsOf ds with
  | none=>rw[hi] at q; exact(show False from q).elim
  | some ns =>
   rw[hi] at q
   by_cases h64:ns.length<64
   ·simp only[h64,if_true] at q
    unfold Rp at rx
    obtain⟨l,vs,rfl,h1,h2⟩:=rx
    have e1:=RpL.ints hi h2
    subst e1
    exact⟨l,ns,rfl,h1.same e.vh,h64,fun p hp=>Ok.newL q e (RpL.ofInts _) (fun _=>RpL.ofInts _) p hp⟩
   ·simp only[h64,if_false] at q
    exact(show False from q).elim
 | _=>exact(show False from q).elim
end
open Dv (D R RL EE EL EI RI Sl Out SS)
noncomputable def Nd (K:PySem.W.Frag)(Hc:Hp):D->HO->Prop
 | .lst ds,o=>∃ vs,o=.lst vs/\RpL K Hc ds vs
 | .dct ks ds,o=>∃ vs,o=.dK ((ks.map Sum.inl).zip vs)/\ks.length=ds.length/\RpL K Hc ds vs
 | _,_=>False
theorem Nd.same {K:PySem.W.Frag}{H H':Hp}{d:D}{o:HO}(e:Same H H')(h:Nd K H d o):Nd K H' d o:=by
 cases d with
 | lst ds=>obtain⟨vs,h1,h2⟩:=h; exact⟨vs,h1,h2.same e⟩
 | dct ks ds=>obtain⟨vs,h1,h2,h3⟩:=h; exact⟨vs,h1,h2,h3.same e⟩
 | _=>exact(show False from h).elim
theorem Nd.rp {K:PySem.W.Frag}{H:Hp}{d:D}{o:HO}{a:Addr}(h:Nd K H d o)(ha:H a=some o):Rp K H d (.ref a):=by
 cases d with
 | lst ds=>obtain⟨vs,rfl,h2⟩:=h; unfold Rp; exact⟨a,vs,rfl,SqX.of ha,h2⟩
 | dct ks ds=>obtain⟨vs,rfl,h2,h3⟩:=h; unfold Rp; exact⟨a,vs,rfl,h2,.inl ha,h3⟩
 | _=>exact(show False from h).elim
noncomputable def Jk (R:Hp)(n m:Nat)(v:V):Prop:=∃ t vs,v=.ref t/\(R t=some (.lst vs)\/R t=some (.tup vs))/\vs.length=n/\∀ x∈vs,∃ b ws,x=.ref b/\b≠t/\R b=some (.lst ws)/\ws.length<=m
structure RelC (K:PySem.W.Frag)(Hv₀ H₀ Hc:Hp)(O:Nat->Hp)(st:Dv.St)(σ:St)(H:Hp):Prop where
 h0:Same H₀ H
 vc:Same Hv₀ Hc
 ch:Same Hc H
 new:∀ b o,Hc b=some o->Hv₀ b=none->H₀ b=none
 nf:∀ b o u,H₀ b=none->H b≠some (.frz o u)
 len:st.length=σ.length
 sh:∀ (i:Nat) (d:D),st[i]?=some (Sl.sh d)->∃ v,σ[i]?=some (some v)/\Rp K Hc d v
 ow:∀ (i:Nat) (d:D),st[i]?=some (Sl.ow d)->∃ (a:Addr) (o:HO),σ[i]?=some (some (V.ref a))/\O i a=some o/\Nd K Hc d o
 dp:∀ (i:Nat) (d:D),st[i]?=some (Sl.dp d)->∃ v,σ[i]?=some (some v)/\Rp [] (O i) d v
 jk:∀ (i n m:Nat),st[i]?=some (Sl.jk n m)->∃ v,σ[i]?=some (some v)/\Jk (O i) n m v
 oh:∀ (i:Nat) (b:Addr) (o:HO),O i b=some o->H b=some o/\Hc b=none/\H₀ b=none
 one:∀ (i j:Nat) (b:Addr) (o o':HO),O i b=some o->O j b=some o'->i=j
noncomputable def Rel (K:PySem.W.Frag)(Hv₀ H₀:Hp)(st:Dv.St)(σ:St)(H:Hp):Prop:=∃ Hc O,RelC K Hv₀ H₀ Hc O st σ H
section
variable {K:PySem.W.Frag}{Hv₀ H₀ Hc:Hp}{O:Nat->Hp}{st:Dv.St}{σ:St}{H:Hp}
theorem RelC.less {Hv1:Hp}(r:RelC K Hc H₀ Hv1 O st σ H)(vc:Same Hv₀ Hc)(new:∀ b o,Hc b=some o->Hv₀ b=none->H₀ b=none):RelC K Hv₀ H₀ Hv1 O st σ H :=
 ⟨r.h0,vc.trans r.vc,r.ch,fun b o h n=>(by
  cases q:Hc b with
  | some u=>exact new b u q n
  | none=>exact r.new b o h q),r.nf,r.len,r.sh,r.ow,r.dp,r.jk,r.oh,r.one⟩
noncomputable def Held (O:Nat->Hp)(b:Addr):Prop:=∃ (i:Nat) (o:HO),O i b=some o
open Classical in
noncomputable def Hall (Hc:Hp)(O:Nat->Hp)(H:Hp):Hp:=fun b=>if Held O b then H b else Hc b
theorem RelC.cAll (r:RelC K Hv₀ H₀ Hc O st σ H):Same Hc (Hall Hc O H):=fun b o h=>by
 unfold Hall
 by_cases q:Held O b
 ·obtain⟨i,u,h1⟩:=q
  rw[(r.oh i b u h1).2.1] at h; cases h
 ·rw[if_neg q]; exact h
theorem RelC.oAll (r:RelC K Hv₀ H₀ Hc O st σ H)(i:Nat):Same (O i) (Hall Hc O H):=fun b o h=>by
 unfold Hall
 rw[if_pos ⟨i,o,h⟩]
 exact(r.oh i b o h).1
theorem RelC.allH (r:RelC K Hv₀ H₀ Hc O st σ H):Same (Hall Hc O H) H:=fun b o h=>by
 unfold Hall at h
 by_cases q:Held O b
 ·rw[if_pos q] at h; exact h
 ·rw[if_neg q] at h; exact r.ch b o h
theorem RelC.allNew (r:RelC K Hv₀ H₀ Hc O st σ H):∀ b o,Hall Hc O H b=some o->Hv₀ b=none->H₀ b=none:=fun b o h n=>by
 unfold Hall at h
 by_cases q:Held O b
 ·obtain⟨i,u,h1⟩:=q
  exact(r.oh i b u h1).2.2
 ·rw[if_neg q] at h; exact r.new b o h n
theorem get_all {i:Nat}{d:D}(h:(Dv.all st)[i]?=some (some d)):st[i]?=some (.sh d)\/st[i]?=some (.ow d)\/st[i]?=some (.dp d):=by
 unfold Dv.all at h
 rw[List.getElem?_map] at h
 cases q:st[i]? with
 | none=>rw[q] at h; cases h
 | some s =>
  rw[q] at h
  cases s with
  | no=>cases h
  | sh x=>cases h; exact .inl rfl
  | ow x=>cases h; exact .inr (.inl rfl)
  | dp x=>cases h; exact .inr (.inr rfl)
  | jk n m=>cases h
theorem get_open {i:Nat}{d:D}(h:(Dv.open_ st)[i]?=some (some d)):st[i]?=some (.sh d):=by
 unfold Dv.open_ at h
 rw[List.getElem?_map] at h
 cases q:st[i]? with
 | none=>rw[q] at h; cases h
 | some s =>
  rw[q] at h
  cases s with
  | sh x=>cases h; rfl
  | _=>cases h
theorem RelC.envAll (r:RelC K Hv₀ H₀ Hc O st σ H):EnvR K (Hall Hc O H) (Dv.all st) σ:=fun i d h=>by
 rcases get_all h with h|h|h
 ·obtain⟨v,h1,h2⟩:=r.sh i d h
  exact⟨v,h1,h2.same r.cAll⟩
 ·obtain⟨a,o,h1,h2,h3⟩:=r.ow i d h
  exact⟨_,h1,(h3.same r.cAll).rp (r.oAll i a o h2)⟩
 ·obtain⟨v,h1,h2⟩:=r.dp i d h
  exact⟨v,h1,Rp.frag (h2.same (r.oAll i))⟩
theorem RelC.envOpen (r:RelC K Hv₀ H₀ Hc O st σ H):EnvR K Hc (Dv.open_ st) σ:=fun i d h=>r.sh i d (get_open h)
theorem RelC.grow {H':Hp}(r:RelC K Hv₀ H₀ Hc O st σ H)(hh:Same H H')(nf:∀ b o u,H b=none->H' b≠some (.frz o u)):RelC K Hv₀ H₀ Hc O st σ H' :=
 ⟨r.h0.trans hh,r.vc,r.ch.trans hh,r.new,fun b o u h=>(by
  cases q:H b with
  | none=>exact nf b o u q
  | some w=>rw[hh b w q,<- q]; exact r.nf b o u h),r.len,r.sh,r.ow,r.dp,r.jk,fun i b o h=>⟨hh _ _ (r.oh i b o h).1,(r.oh i b o h).2⟩,r.one⟩
theorem RelC.growC {Hc' H':Hp}(r:RelC K Hv₀ H₀ Hc O st σ H)(x:Ext Hc H Hc' H'):RelC K Hv₀ H₀ Hc' O st σ H':=by
 have g:=r.grow x.hh x.nf
 refine⟨g.h0,r.vc.trans x.vv,x.vh,fun b o h n=>?_,g.nf,g.len,fun i d h=>?_,fun i d h=>?_,r.dp,r.jk,fun i b o h=>?_,g.one⟩
 ·cases q:Hc b with
  | some u=>exact r.new b u q n
  | none=>exact r.h0.free (x.new b o h q)
 ·obtain⟨v,h1,h2⟩:=r.sh i d h
  exact⟨v,h1,h2.same x.vv⟩
 ·obtain⟨a,o,h1,h2,h3⟩:=r.ow i d h
  exact⟨a,o,h1,h2,h3.same x.vv⟩
 ·obtain⟨h1,h2,h3⟩:=r.oh i b o h
  refine⟨x.hh _ _ h1,?_,h3⟩
  cases q:Hc' b with
  | none=>rfl
  | some u =>
   have:=x.new b u q h2
   rw[this] at h1; cases h1
theorem set_get {α:Type}{l:List α}{i j:Nat}{x y:α}(h:(l.set i x)[j]?=some y):(j=i/\y=x/\i<l.length)\/(j≠i/\l[j]?=some y):=by
 by_cases e:j=i
 ·subst e
  by_cases hl:j<l.length
  ·rw[List.getElem?_set_self hl] at h
   exact .inl ⟨rfl,(Option.some.inj h).symm,hl⟩
  ·rw[List.getElem?_eq_none (by rw[List.length_set]; omega)] at h
   cases h
 ·rw[List.getElem?_set_ne (Ne.symm e)] at h
  exact .inr ⟨e,h⟩
theorem RelC.setAny {i:Nat}{s:Sl}{v:Option V}{H':Hp}{O':Nat->Hp}(r:RelC K Hv₀ H₀ Hc O st σ H)(h0:Same H₀ H')(ch:Same Hc H')(nf:∀ b o u,H₀ b=none->H' b≠some (.frz o u))(hO:∀ j,j≠i->O' j=O j)
  (sh:∀ d,s=.sh d->∃ w,v=some w/\Rp K Hc d w) (ow:∀ d,s=.ow d->∃ a o,v=some (.ref a)/\O' i a=some o/\Nd K Hc d o) (dp:∀ d,s=.dp d->∃ w,v=some w/\Rp [] (O' i) d w) (jk:∀ n m,s=.jk n m->∃ w,v=some w/\Jk (O' i) n m w)
  (oh:∀ j b o,O' j b=some o->H' b=some o/\Hc b=none/\H₀ b=none) (one:∀ j b o o',O' i b=some o->j≠i->O j b≠some o'):RelC K Hv₀ H₀ Hc O' (st.set i s) (σ.set i v) H':=by
 have at_:∀ {j:Nat},j=i->i<st.length->(σ.set i v)[j]?=some v:=fun {j} e hl=>by subst e; exact List.getElem?_set_self (by rw[<- r.len]; exact hl)
 have no:∀ {j:Nat},j≠i->(σ.set i v)[j]?=σ[j]?:=fun hj=>List.getElem?_set_ne (Ne.symm hj)
 refine⟨h0,r.vc,ch,r.new,nf,by rw[List.length_set,List.length_set]; exact r.len,fun j x h=>?_,fun j x h=>?_,fun j x h=>?_,fun j n m h=>?_,oh,fun j k b o o' h1 h2=>?_⟩
 ·rcases set_get h with ⟨e,e2,hl⟩|⟨hj,h⟩
  ·obtain⟨w,e3,rp⟩:=sh x e2.symm
   exact⟨w,by rw[at_ e hl,e3],rp⟩
  ·obtain⟨u,h1,h2⟩:=r.sh j x h
   exact⟨u,by rw[no hj]; exact h1,h2⟩
 ·rcases set_get h with ⟨e,e2,hl⟩|⟨hj,h⟩
  ·obtain⟨a,o,e3,e4,rp⟩:=ow x e2.symm
   exact⟨a,o,by rw[at_ e hl,e3],by rw[e]; exact e4,rp⟩
  ·obtain⟨a,o,h1,h2,h3⟩:=r.ow j x h
   exact⟨a,o,by rw[no hj]; exact h1,by rw[hO j hj]; exact h2,h3⟩
 ·rcases set_get h with ⟨e,e2,hl⟩|⟨hj,h⟩
  ·obtain⟨w,e3,rp⟩:=dp x e2.symm
   exact⟨w,by rw[at_ e hl,e3],by rw[e]; exact rp⟩
  ·obtain⟨u,h1,h2⟩:=r.dp j x h
   exact⟨u,by rw[no hj]; exact h1,by rw[hO j hj]; exact h2⟩
 ·rcases set_get h with ⟨e,e2,hl⟩|⟨hj,h⟩
  ·obtain⟨w,e3,rp⟩:=jk n m e2.symm
   exact⟨w,by rw[at_ e hl,e3],by rw[e]; exact rp⟩
  ·obtain⟨u,h1,h2⟩:=r.jk j n m h
   exact⟨u,by rw[no hj]; exact h1,by rw[hO j hj]; exact h2⟩
 ·by_cases e1:j=i
  ·by_cases e2:k=i
   ·rw[e1,e2]
   ·rw[e1] at h1; rw[hO k e2] at h2; exact absurd h2 (one k b o o' h1 e2)
  ·by_cases e2:k=i
   ·rw[e2] at h2; rw[hO j e1] at h1; exact absurd h1 (one j b o' o h2 e1)
   ·rw[hO j e1] at h1; rw[hO k e2] at h2; exact r.one j k b o o' h1 h2
theorem RelC.setSh {i:Nat}{d:D}{v:V}(r:RelC K Hv₀ H₀ Hc O st σ H)(rp:Rp K Hc d v):RelC K Hv₀ H₀ Hc O (st.set i (.sh d)) (σ.set i (some v)) H :=
 r.setAny r.h0 r.ch r.nf (fun _ _=>rfl) (fun x e=>by cases e; exact⟨v,rfl,rp⟩) (fun x e=>nomatch e) (fun x e=>nomatch e) (fun n m e=>nomatch e) r.oh fun j b o o' h hj h2=>hj (r.one j i b o' o h2 h)
theorem RelC.setNo {i:Nat}{v:Option V}(r:RelC K Hv₀ H₀ Hc O st σ H):RelC K Hv₀ H₀ Hc O (st.set i .no) (σ.set i v) H :=
 r.setAny r.h0 r.ch r.nf (fun _ _=>rfl) (fun x e=>nomatch e) (fun x e=>nomatch e) (fun x e=>nomatch e) (fun n m e=>nomatch e) r.oh fun j b o o' h hj h2=>hj (r.one j i b o' o h2 h)
noncomputable def putO (O:Nat->Hp)(i:Nat)(R:Hp):Nat->Hp:=fun j=>if j=i then R else O j
theorem putO_same {R:Hp}{i:Nat}:putO O i R i=R:=if_pos rfl
theorem putO_ne {R:Hp}{i j:Nat}(h:j≠i):putO O i R j=O j:=if_neg h
noncomputable def only (a:Addr)(o:HO):Hp:=fun b=>if b=a then some o else none
theorem only_same {a:Addr}{o:HO}:only a o a=some o:=if_pos rfl
theorem only_of {a b:Addr}{o u:HO}(h:only a o b=some u):b=a/\u=o:=by
 unfold only at h
 by_cases e:b=a
 ·rw[if_pos e] at h; exact⟨e,(Option.some.inj h).symm⟩
 ·rw[if_neg e] at h; cases h
theorem RelC.setOw {i:Nat}{d:D}{o:HO}{a:Addr}(r:RelC K Hv₀ H₀ Hc O st σ H)(ha:H a=some o)(hc:Hc a=none)(h0:H₀ a=none)(no:∀ j,j≠i->O j a=none)
  (nd:Nd K Hc d o):RelC K Hv₀ H₀ Hc (putO O i (only a o)) (st.set i (.ow d)) (σ.set i (some (.ref a))) H :=
 r.setAny r.h0 r.ch r.nf (fun j hj=>putO_ne hj) (fun x e=>nomatch e) (fun x e=>by cases e; exact⟨a,o,rfl,by rw[putO_same]; exact only_same,nd⟩) (fun x e=>nomatch e) (fun n m e=>nomatch e)
  (fun j b u h=>by
   by_cases hj:j=i
   ·rw[hj,putO_same] at h
    obtain⟨rfl,rfl⟩:=only_of h
    exact⟨ha,hc,h0⟩
   ·rw[putO_ne hj] at h; exact r.oh j b u h)
  fun j b u u' h hj h2=>by
   rw[putO_same] at h
   obtain⟨rfl,rfl⟩:=only_of h
   rw[no j hj] at h2; cases h2
theorem RelC.setDp {i:Nat}{d:D}{v:V}{R:Hp}(r:RelC K Hv₀ H₀ Hc O st σ H)(hR:∀ b o,R b=some o->H b=some o/\Hc b=none/\H₀ b=none/\∀ j,j≠i->O j b=none)
  (rp:Rp [] R d v):RelC K Hv₀ H₀ Hc (putO O i R) (st.set i (.dp d)) (σ.set i (some v)) H :=
 r.setAny r.h0 r.ch r.nf (fun j hj=>putO_ne hj) (fun x e=>nomatch e) (fun x e=>nomatch e) (fun x e=>by cases e; exact⟨v,rfl,by rw[putO_same]; exact rp⟩) (fun n m e=>nomatch e)
  (fun j b u h=>by
   by_cases hj:j=i
   ·rw[hj,putO_same] at h
    exact⟨(hR b u h).1,(hR b u h).2.1,(hR b u h).2.2.1⟩
   ·rw[putO_ne hj] at h; exact r.oh j b u h)
  fun j b u u' h hj h2=>by
   rw[putO_same] at h
   rw[(hR b u h).2.2.2 j hj] at h2; cases h2
theorem set_id {α:Type}{l:List α}{i:Nat}{x:α}(h:l[i]?=some x):l.set i x=l:=by
 refine List.ext_getElem? fun j=>?_
 by_cases hj:j=i
 ·subst hj; rw[List.getElem?_set_self (List.getElem?_eq_some_iff.mp h).1,h]
 ·rw[List.getElem?_set_ne (Ne.symm hj)]
theorem RelC.putAny {i:Nat}{s:Sl}{v:V}{a:Addr}{u o:HO}(r:RelC K Hv₀ H₀ Hc O st σ H)(hσ:σ[i]?=some (some v))(ha:O i a=some u)(ho:∀ q w,o≠.frz q w)
  (ow:∀ d,s=.ow d->v=.ref a/\Nd K Hc d o) (jk:∀ n m,s=.jk n m->Jk (upd (O i) a o) n m v) (hs:∀ d,s≠.sh d/\s≠.dp d) :
  RelC K Hv₀ H₀ Hc (putO O i (upd (O i) a o)) (st.set i s) σ (upd H a o):=by
 obtain⟨h1,h2,h3⟩:=r.oh i a u ha
 have hset:σ.set i (some v)=σ:=set_id hσ
 have key:=r.setAny (i:=i) (s:=s) (v:=some v) (H':=upd H a o) (O':=putO O i (upd (O i) a o)) (fun b w h=>by rw[upd_ne (ne_of_none h h3)]; exact r.h0 b w h) (fun b w h=>by rw[upd_ne (ne_of_none h h2)]; exact r.ch b w h)
  (fun b q w h=>by
   by_cases hb:b=a
   ·subst hb; rw[upd_same]; exact fun z=>ho q w (Option.some.inj z)
   ·rw[upd_ne hb]; exact r.nf b q w h)
  (fun j hj=>putO_ne hj) (fun d e=>absurd e (hs d).1) (fun d e=>⟨a,o,by rw[(ow d e).1],by rw[putO_same,upd_same],(ow d e).2⟩) (fun d e=>absurd e (hs d).2) (fun n m e=>⟨v,rfl,by rw[putO_same]; exact jk n m e⟩)
  (fun j b w h=>by
   by_cases hj:j=i
   ·rw[hj,putO_same] at h
    by_cases hb:b=a
    ·subst hb; rw[upd_same] at h ⊢; exact⟨h,h2,h3⟩
    ·rw[upd_ne hb] at h ⊢; exact r.oh i b w h
   ·rw[putO_ne hj] at h
    have hb:b≠a:=fun z=>hj (r.one j i b w u h (by rw[z]; exact ha))
    rw[upd_ne hb]; exact r.oh j b w h)
  fun j b w w' h hj h4=>by
   rw[putO_same] at h
   by_cases hb:b=a
   ·exact hj (r.one j i b w' u h4 (by rw[hb]; exact ha))
   ·rw[upd_ne hb] at h; exact hj (r.one j i b w' w h4 h)
 rw[hset] at key
 exact key
theorem RelC.put {i:Nat}{d:D}{ds:List D}{ws:List V}{a:Addr}(r:RelC K Hv₀ H₀ Hc O st σ H)(hi:st[i]?=some (.ow d))(hσ:σ[i]?=some (some (.ref a)))(rp:RpL K Hc ds ws) :
  ∃ O',RelC K Hv₀ H₀ Hc O' (st.set i (.ow (.lst ds))) σ (upd H a (.lst ws)):=by
 obtain⟨a',o,h1,h2,h3⟩:=r.ow i d hi
 rw[hσ] at h1
 cases h1
 exact⟨_,r.putAny hσ h2 (by intro _ _ z; cases z) (fun x e=>by cases e; exact⟨rfl,ws,rfl,rp⟩) (fun n m e=>nomatch e) fun x=>⟨nofun,nofun⟩⟩
noncomputable def joinH (A B:Hp):Hp:=fun b=>match A b with
 | some o=>some o
 | none=>B b
theorem joinH_l {A B:Hp}:Same A (joinH A B):=fun b o h=>by unfold joinH; rw[h]
theorem joinH_r {A B:Hp}(d:∀ b o,B b=some o->A b=none):Same B (joinH A B):=fun b o h=>by unfold joinH; rw[d b o h]; exact h
theorem joinH_of {A B:Hp}{b:Addr}{o:HO}(h:joinH A B b=some o):A b=some o\/(A b=none/\B b=some o):=by
 unfold joinH at h
 cases q:A b with
 | some u=>rw[q] at h; exact .inl h
 | none=>rw[q] at h; exact .inr ⟨rfl,h⟩
theorem RelC.give1 {i:Nat}(r:RelC K Hv₀ H₀ Hc O st σ H):∃ Hc' O',Same Hc Hc'/\RelC K Hv₀ H₀ Hc' O' (st.set i ((st[i]?.getD .no).give)) σ H:=by
 cases hi:st[i]? with
 | none =>
  refine⟨Hc,O,.refl _,?_⟩
  rw[List.set_eq_of_length_le (by have:=List.getElem?_eq_none_iff.mp hi; omega)]
  exact r
 | some s =>
  have hs:st.set i s=st:=set_id hi
  have key:∀ (d:D) (v:V),σ[i]?=some (some v)->Rp K (joinH Hc (O i)) d v->∃ Hc' O',Same Hc Hc'/\RelC K Hv₀ H₀ Hc' O' (st.set i (.sh d)) σ H:=fun d v hσ rp=>by
   have sm:Same Hc (joinH Hc (O i)):=joinH_l
   have hset:σ.set i (some v)=σ:=set_id hσ
   have r1:RelC K Hv₀ H₀ (joinH Hc (O i)) (putO O i fun _=>none) (st.set i .no) σ H:=by
    refine⟨r.h0,r.vc.trans sm,fun b o h=>?_,fun b o h n=>?_,r.nf,by rw[List.length_set]; exact r.len,fun j x h=>?_,fun j x h=>?_,fun j x h=>?_,fun j n m h=>?_,fun j b o h=>?_,fun j k b o o' h1 h2=>?_⟩
    ·rcases joinH_of h with h|⟨_,h⟩
     ·exact r.ch b o h
     ·exact(r.oh i b o h).1
    ·rcases joinH_of h with h|⟨_,h⟩
     ·exact r.new b o h n
     ·exact(r.oh i b o h).2.2
    ·rcases set_get h with ⟨_,e,_⟩|⟨hj,h⟩
     ·cases e
     ·obtain⟨u,h1,h2⟩:=r.sh j x h
      exact⟨u,h1,h2.same sm⟩
    ·rcases set_get h with ⟨_,e,_⟩|⟨hj,h⟩
     ·cases e
     ·obtain⟨a,o,h1,h2,h3⟩:=r.ow j x h
      exact⟨a,o,h1,by rw[putO_ne hj]; exact h2,h3.same sm⟩
    ·rcases set_get h with ⟨_,e,_⟩|⟨hj,h⟩
     ·cases e
     ·obtain⟨u,h1,h2⟩:=r.dp j x h
      exact⟨u,h1,by rw[putO_ne hj]; exact h2⟩
    ·rcases set_get h with ⟨_,e,_⟩|⟨hj,h⟩
     ·cases e
     ·obtain⟨u,h1,h2⟩:=r.jk j n m h
      exact⟨u,h1,by rw[putO_ne hj]; exact h2⟩
    ·by_cases hj:j=i
     ·rw[hj,putO_same] at h; cases h
     ·rw[putO_ne hj] at h
      obtain⟨h1,h2,h3⟩:=r.oh j b o h
      refine⟨h1,?_,h3⟩
      cases q:joinH Hc (O i) b with
      | none=>rfl
      | some u =>
       rcases joinH_of q with q|⟨_,q⟩
       ·rw[h2] at q; cases q
       ·exact absurd (r.one j i b o u h q) hj
    ·by_cases hj:j=i
     ·rw[hj,putO_same] at h1; cases h1
     ·by_cases hk:k=i
      ·rw[hk,putO_same] at h2; cases h2
      ·rw[putO_ne hj] at h1; rw[putO_ne hk] at h2; exact r.one j k b o o' h1 h2
   have r2:=r1.setSh (i:=i) rp
   rw[hset,List.set_set] at r2
   exact⟨_,_,sm,r2⟩
  cases s with
  | no=>exact⟨Hc,O,.refl _,by show RelC K Hv₀ H₀ Hc O (st.set i .no) σ H; rw[hs]; exact r⟩
  | sh d=>exact⟨Hc,O,.refl _,by show RelC K Hv₀ H₀ Hc O (st.set i (.sh d)) σ H; rw[hs]; exact r⟩
  | jk n m=>exact⟨Hc,O,.refl _,by show RelC K Hv₀ H₀ Hc O (st.set i (.jk n m)) σ H; rw[hs]; exact r⟩
  | ow d =>
   obtain⟨a,o,h1,h2,h3⟩:=r.ow i d hi
   exact key d _ h1 ((h3.same joinH_l).rp (joinH_r (fun b o h=>(r.oh i b o h).2.1) a o h2))
  | dp d =>
   obtain⟨v,h1,h2⟩:=r.dp i d hi
   exact key d v h1 (Rp.frag (h2.same (joinH_r fun b o h=>(r.oh i b o h).2.1)))
theorem RelC.give:∀ (is:List Nat) {st:Dv.St} {Hc:Hp} {O:Nat->Hp},RelC K Hv₀ H₀ Hc O st σ H->∃ Hc' O',Same Hc Hc'/\RelC K Hv₀ H₀ Hc' O' (Dv.give is st) σ H
 | [],st,Hc,O,r=>⟨Hc,O,.refl _,r⟩
 | i::is,st,Hc,O,r=>by
  obtain⟨Hc1,O1,s1,r1⟩:=r.give1 (i:=i)
  obtain⟨Hc2,O2,s2,r2⟩:=RelC.give is r1
  exact⟨Hc2,O2,s1.trans s2,r2⟩
end
noncomputable def OkS (C:Ctx)(Hv₀ H₀:Hp)(E:Ends)(o:Out):Prop:=match o with
 | .nx st=>∀ σ' H',Rel C.X.K Hv₀ H₀ st σ' H'->E.nx σ' H'
 | .ret d nw=>∀ v Hv' H',Ext Hv₀ H₀ Hv' H'->Rp C.X.K Hv' d v->(nw=true->Rp [] (Hnew H₀ H') d v)->E.rt v H'
 | .brk st=>∀ σ' H',Rel C.X.K Hv₀ H₀ st σ' H'->E.bk σ' H'
 | .cont st=>∀ σ' H',Rel C.X.K Hv₀ H₀ st σ' H'->E.ct σ' H'
 | .exc c st=>∀ σ' H',Rel C.X.K Hv₀ H₀ st σ' H'->C.W σ' (C.cls c) none H'
 | .bad=>False
noncomputable def TakS (C:Ctx)(t:TS)(f:SS):Prop:=∀ Hv₀ H₀ E σ H st,Rel C.X.K Hv₀ H₀ st σ H->OkS C Hv₀ H₀ E (f st)->t E σ H
noncomputable def SSt (C:Ctx)(s:Stmt)(f:SS):Prop:=∃ t:TS,PS C.X s t/\TakS C t f
noncomputable def SSs (C:Ctx)(ss:List Stmt)(f:SS):Prop:=∃ t:TS,PSs C.X ss t/\TakS C t f
section
variable {C:Ctx}{a b c:Expr}{e:Expr}{f g h:EE}{F G:SS}{s:Stmt}{ss:List Stmt}{pos pos':Pos}{E:Ends}
theorem OkS.now {Hv₀ H₀:Hp}{st:Dv.St}{σ:St}{H:Hp}(q:OkS C Hv₀ H₀ E (.nx st))(r:Rel C.X.K Hv₀ H₀ st σ H):E.nx σ H:=q σ H r
theorem ss_nil:SSs C [] Dv.sNil:=⟨_,pss_nil,fun Hv₀ H₀ E σ H st r q=>q σ H r⟩
theorem ss_cons (h1:SSt C s F)(h2:SSs C ss G):SSs C (s::ss) (Dv.sCons F G):=by
 obtain⟨t,p,q⟩:=h1
 obtain⟨u,p2,q2⟩:=h2
 refine⟨_,pss_cons p p2,fun Hv₀ H₀ E σ H st r w=>?_⟩
 refine q Hv₀ H₀ { E with nx:=u E } σ H st r ?_
 have w':OkS C Hv₀ H₀ E ((F st).bind G):=w
 cases hf:F st with
 | nx st'=>rw[hf] at w'; exact fun σ' H' r'=>q2 Hv₀ H₀ E σ' H' st' r' w'
 | ret d nw=>rw[hf] at w'; exact w'
 | brk st=>rw[hf] at w'; exact w'
 | cont st=>rw[hf] at w'; exact w'
 | exc c st=>rw[hf] at w'; exact w'
 | bad=>rw[hf] at w'; exact w'
theorem ss_one (h1:SSt C s F):SSs C [s] F:=by
 obtain⟨t,p,q⟩:=h1
 exact⟨t,pss_one p,q⟩
theorem Tak.all {t:TE}(q:Tak C t f){Hv₀ H₀ Hc H:Hp}{O:Nat->Hp}{σ:St}{st:Dv.St}(r:RelC C.X.K Hv₀ H₀ Hc O st σ H){T:VK}
  (hx:∀ c,f (Dv.all st)=.exc c->∀ H',RelC C.X.K Hv₀ H₀ Hc O st σ H'->C.W σ (C.cls c) none H') (hb:f (Dv.all st)≠.bad)
  (ok:∀ d fr v Hv' H',f (Dv.all st)=.ok d fr->Ext (Hall Hc O H) H Hv' H'->RelC C.X.K Hv₀ H₀ Hc O st σ H'->Rp C.X.K Hv' d v->(fr=true->Rp [] (Hnew H H') d v)->T v H'):t σ H T:=by
 refine q σ H (Hall Hc O H) (Dv.all st) T r.envAll r.allH ?_
 cases hf:f (Dv.all st) with
 | bad=>exact absurd hf hb
 | exc c=>exact fun Hv' H' x=>hx c hf H' (r.grow x.hh x.nf)
 | ok d fr=>exact fun v Hv' H' x rp n=>ok d fr v Hv' H' hf x (r.grow x.hh x.nf) rp n
theorem Tak.open {t:TE}(q:Tak C t f){Hv₀ H₀ Hc H:Hp}{O:Nat->Hp}{σ:St}{st:Dv.St}(r:RelC C.X.K Hv₀ H₀ Hc O st σ H){T:VK}
  (hx:∀ c,f (Dv.open_ st)=.exc c->∀ Hc' H',Ext Hc H Hc' H'->C.W σ (C.cls c) none H') (hb:f (Dv.open_ st)≠.bad)
  (ok:∀ d fr v Hc' H',f (Dv.open_ st)=.ok d fr->Ext Hc H Hc' H'->RelC C.X.K Hv₀ H₀ Hc' O st σ H'->Rp C.X.K Hc' d v->T v H'):t σ H T:=by
 refine q σ H Hc (Dv.open_ st) T r.envOpen r.ch ?_
 cases hf:f (Dv.open_ st) with
 | bad=>exact absurd hf hb
 | exc c=>exact fun Hv' H' x=>hx c hf Hv' H' x
 | ok d fr=>exact fun v Hv' H' x rp n=>ok d fr v Hv' H' hf x (r.growC x) rp
theorem st_expr (he:SE C e f)(hs:autoParam (swapsWith e none pos.line C.X.env=pure false) Au.h4._auto_1):SSt C (.Expr e pos) (Dv.sExpr f):=by
 obtain⟨t,p,q⟩:=he
 refine⟨_,ps_expr p hs,fun Hv₀ H₀ E σ H st ⟨Hc,O,r⟩ w=>?_⟩
 unfold Dv.sExpr at w
 refine q.all r (fun c hf H' r'=>?_) (fun hf=>?_) fun d fr v Hv' H' hf x r' rp n=>?_
 ·rw[hf] at w; exact w σ H' ⟨Hc,O,r'⟩
 ·rw[hf] at w; exact w
 ·rw[hf] at w; exact w σ H' ⟨Hc,O,r'⟩
theorem RelC.ret {Hv₀ H₀ Hc H Hv' H':Hp}{O:Nat->Hp}{σ:St}{st:Dv.St}{K:PySem.W.Frag}(r:RelC K Hv₀ H₀ Hc O st σ H)(x:Ext (Hall Hc O H) H Hv' H'):∃ Hv2,Ext Hv₀ H₀ Hv2 H'/\Same Hv' Hv2:=by
 have key:∀ b o,Hv' b=some o->Hv₀ b=none->H₀ b=none:=fun b o h n=>by
  cases q:Hall Hc O H b with
  | some u=>exact r.allNew b u q n
  | none=>exact r.h0.free (x.new b o h q)
 refine⟨fun b=>match H₀ b with|none=>H' b|some _=>Hv' b,⟨r.h0.trans x.hh,fun b o h=>?_,fun b o h=>?_,fun b o h n=>?_,fun b h=>?_,fun b o u h=>?_⟩,fun b o h=>?_⟩
 ·have h2:Hv' b=some o:=x.vv _ _ (r.cAll _ _ (r.vc b o h))
  show (match H₀ b with|none=>H' b|some _=>Hv' b)=some o
  cases H₀ b with
  | none=>exact x.vh b o h2
  | some _=>exact h2
 ·have h':(match H₀ b with|none=>H' b|some _=>Hv' b)=some o:=h
  cases q:H₀ b with
  | none=>rw[q] at h'; exact h'
  | some _=>rw[q] at h'; exact x.vh b o h'
 ·have h':(match H₀ b with|none=>H' b|some _=>Hv' b)=some o:=h
  cases q:H₀ b with
  | none=>rfl
  | some u =>
   rw[q] at h'
   have:=key b o h' n
   rw[q] at this; cases this
 ·show (match H₀ b with|none=>H' b|some _=>Hv' b)=H' b
  rw[h]
 ·exact(r.grow x.hh x.nf).nf b o u h
 ·show (match H₀ b with|none=>H' b|some _=>Hv' b)=some o
  cases H₀ b with
  | none=>exact x.vh b o h
  | some _=>exact h
theorem st_ret (he:SE C e f):SSt C (.Return (some e) pos) (Dv.sRet f):=by
 obtain⟨t,p,q⟩:=he
 refine⟨_,ps_ret p,fun Hv₀ H₀ E σ H st ⟨Hc,O,r⟩ w=>?_⟩
 unfold Dv.sRet at w
 refine q.all r (fun c hf H' r'=>?_) (fun hf=>?_) fun d fr v Hv' H' hf x r' rp n=>?_
 ·rw[hf] at w; exact w σ H' ⟨Hc,O,r'⟩
 ·rw[hf] at w; exact w
 ·rw[hf] at w
  obtain⟨Hv2,x2,s2⟩:=r.ret x
  exact w v Hv2 H' x2 (rp.same s2) fun z=>(n z).same (Hnew.mono r.h0 (.refl _))
theorem st_retO (i:Nat){x:Str}(hN:autoParam (C.X.N[i]?=some x) Au.h4._auto_1)(hv:autoParam (Vis C.X.env.scope x) Au.h7._auto_1)(hd:autoParam ((x == ("__debug__":Str))=false) Au.h2._auto_1)
  (hcd:autoParam ((x == ("__classdict__":Str))=false) Au.h2._auto_1):SSt C (.Return (some (.Name x pos')) pos) (Dv.sRetO i):=by
 refine⟨_,ps_ret (pe_var hN hv hd hcd),fun Hv₀ H₀ E σ H st ⟨Hc,O,r⟩ w=>?_⟩
 unfold Dv.sRetO at w
 obtain⟨Hv2,x2,s2⟩:=r.ret (.refl r.allH)
 cases hi:st[i]? with
 | none=>rw[hi] at w; exact(show False from w).elim
 | some s =>
  rw[hi] at w
  cases s with
  | no=>exact(show False from w).elim
  | sh d =>
   obtain⟨v,h1,h2⟩:=r.sh i d hi
   exact⟨v,h1,w v Hv2 H x2 ((h2.same r.cAll).same s2) fun z=>h2.scal z⟩
  | jk n m=>exact(show False from w).elim
  | dp d =>
   obtain⟨v,h1,h2⟩:=r.dp i d hi
   exact⟨v,h1,w v Hv2 H x2 ((Rp.frag (h2.same (r.oAll i))).same s2) fun _=>h2.same fun b o h=>by
    unfold Hnew
    rw[(r.oh i b o h).2.2]
    exact(r.oh i b o h).1⟩
  | ow d =>
   obtain⟨a,o,h1,h2,h3⟩:=r.ow i d hi
   have rp:Rp C.X.K Hv2 d (.ref a):=by
    obtain⟨v,h6,h7⟩:=r.envAll i d (by unfold Dv.all; rw[List.getElem?_map,hi]; rfl)
    rw[h1] at h6
    cases h6
    exact h7.same s2
   cases d with
   | lst ds =>
    refine⟨_,h1,w (.ref a) Hv2 H x2 rp fun z=>?_⟩
    obtain⟨vs,rfl,h5⟩:=h3
    unfold Rp
    refine⟨a,vs,rfl,SqX.of ?_,h5.flat z⟩
    unfold Hnew
    rw[(r.oh i a _ h2).2.2]
    exact(r.oh i a _ h2).1
   | dct ks ds=>exact⟨_,h1,w (.ref a) Hv2 H x2 rp fun z=>nomatch z⟩
   | _=>exact(show False from h3).elim
theorem st_if {pa pb:List Stmt}(hc:SC C c f)(ha:SSs C pa F)(hb:SSs C pb G):SSt C (.If c pa pb pos) (Dv.sIf f F G):=by
 obtain⟨tc,pc,qc⟩:=hc
 obtain⟨t,p,q⟩:=ha
 obtain⟨u,p2,q2⟩:=hb
 refine⟨_,ps_if pc p p2,fun Hv₀ H₀ E σ H st ⟨Hc,O,r⟩ w=>?_⟩
 unfold Dv.sIf at w
 refine qc σ H (Hall Hc O H) (Dv.all st) _ r.envAll r.allH ?_
 cases hf:f (Dv.all st) with
 | bad=>rw[hf] at w; exact w
 | exc c=>rw[hf] at w; exact fun Hv' H' x=>w σ H' ⟨Hc,O,r.grow x.hh x.nf⟩
 | ok d fr =>
  rw[hf] at w
  intro v Hv' H' x rp n
  cases d with
  | bl b =>
   unfold Rp at rp
   refine⟨b,rp,?_⟩
   cases b with
   | true=>exact iteT (q Hv₀ H₀ E σ H' st ⟨Hc,O,r.grow x.hh x.nf⟩ w)
   | false=>exact iteF (q2 Hv₀ H₀ E σ H' st ⟨Hc,O,r.grow x.hh x.nf⟩ w)
  | _=>exact(show False from w).elim
theorem sSet_ok {t:TE}(q:Tak C t f)(i:Nat){Hv₀ H₀ H:Hp}{σ:St}{st:Dv.St}(r:Rel C.X.K Hv₀ H₀ st σ H)(w:OkS C Hv₀ H₀ E (Dv.sSet i f st)):t σ H fun v H'=>E.nx (σ.set i (some v)) H':=by
 obtain⟨Hc,O,r⟩:=r
 unfold Dv.sSet at w
 refine q.all r (fun c hf H' r'=>?_) (fun hf=>?_) fun d fr v Hv' H' hf x r' rp n=>?_
 ·rw[hf] at w; exact w σ H' ⟨Hc,O,r'⟩
 ·rw[hf] at w; exact w
 ·rw[hf] at w
  cases d with
  | lst ds =>
   simp only[Dv.keepD] at w
   by_cases z:(fr&&Dv.flatL ds)=true
   ·simp only[z,if_true] at w
    rw[Bool.and_eq_true] at z
    have rn:=n z.1
    unfold Rp at rn
    obtain⟨a,vs,rfl,h1,h2⟩:=rn
    have h1':Hnew H H' a=some (.lst vs):=by
     rcases h1 with (h1|⟨o,h1⟩)|⟨its,m,e,_⟩
     ·exact h1
     ·exfalso
      have hn:H a=none:=by
       unfold Hnew at h1
       cases q:H a with
       | none=>rfl
       | some u=>rw[q] at h1; cases h1
      exact x.nf a o _ hn (Hnew.sub a _ h1)
     ·simp at e
    have hn:H a=none:=by
     unfold Hnew at h1'
     cases q:H a with
     | none=>rfl
     | some u=>rw[q] at h1'; cases h1'
    refine w _ H' ⟨Hc,_,r'.setOw (Hnew.sub a _ h1') (r.ch.free hn) (r.h0.free hn) (fun j _=>?_) ⟨vs,rfl,h2.flat z.2⟩⟩
    cases q:O j a with
    | none=>rfl
    | some u=>have:=(r.oh j a u q).1; rw[hn] at this; cases this
   ·simp only[z] at w
    exact(show False from w).elim
  | tup ds=>exact(show False from w).elim
  | exn c=>exact(show False from w).elim
  | raw _=>exact(show False from w).elim
  | tab _=>exact(show False from w).elim
  | dct ks ds =>
   simp only[Dv.keepD] at w
   by_cases z:(fr&&ks.isEmpty&&ds.isEmpty)=true
   ·simp only[z,if_true] at w
    simp only[Bool.and_eq_true,List.isEmpty_iff] at z
    obtain⟨⟨z1,z2⟩,z3⟩:=z
    subst z2 z3
    have rn:=n z1
    unfold Rp at rn
    obtain⟨a,vs,rfl,_,h1,h2⟩:=rn
    unfold RpL at h2
    subst h2
    have h1':Hnew H H' a=some (.dK []):=by
     rcases h1 with h1|⟨o,h1⟩
     ·exact h1
     ·exfalso
      have hn:H a=none:=by
       unfold Hnew at h1
       cases q:H a with
       | none=>rfl
       | some u=>rw[q] at h1; cases h1
      exact x.nf a o _ hn (Hnew.sub a _ h1)
    have hn:H a=none:=by
     unfold Hnew at h1'
     cases q:H a with
     | none=>rfl
     | some u=>rw[q] at h1'; cases h1'
    refine w _ H' ⟨Hc,_,r'.setOw (Hnew.sub a _ h1') (r.ch.free hn) (r.h0.free hn) (fun j _=>?_) ⟨[],rfl,rfl,.nil⟩⟩
    cases q:O j a with
    | none=>rfl
    | some u=>have:=(r.oh j a u q).1; rw[hn] at this; cases this
   ·simp only[z] at w
    exact(show False from w).elim
  | _=>exact w _ H' ⟨Hc,O,r'.setSh (Rp.scal rfl rp)⟩
theorem st_set {i:Nat}{x:Str}(he:SE C e f)(hN:C.X.N.Nodup)(hi:C.X.N[i]?=some x)(hx:Loc C.X.env.scope x)(hs:autoParam (swapsWith e (some (.Name x pos')) pos.line C.X.env=pure false) Au.h4._auto_1)
  (hf:autoParam (C.X.fn x=true\/C.X.env.scope.names.lookup x=some .local) Au.h1._auto_1):SSt C (.Assign [.Name x pos'] e pos) (Dv.sSet i f):=by
 obtain⟨t,p,q⟩:=he
 exact⟨_,ps_set hN hi hx p hs hf,fun Hv₀ H₀ E σ H st r w=>sSet_ok q i r w⟩
theorem sSetG_ok {t:TE}(q:Tak C t f)(is:List Nat)(i:Nat){Hv₀ H₀ H:Hp}{σ:St}{st:Dv.St}(r:Rel C.X.K Hv₀ H₀ st σ H)(w:OkS C Hv₀ H₀ E (Dv.sSetG is i f st)):t σ H fun v H'=>E.nx (σ.set i (some v)) H':=by
 obtain⟨Hc0,O0,r0⟩:=r
 obtain⟨Hc,O,_,r⟩:=r0.give is
 unfold Dv.sSetG at w
 refine q.open r (fun c hf Hc' H' x=>?_) (fun hf=>?_) fun d fr v Hc' H' hf x r' rp=>?_
 ·rw[hf] at w; exact w σ H' ⟨Hc0,O0,r0.grow x.hh x.nf⟩
 ·rw[hf] at w; exact w
 ·rw[hf] at w
  exact w _ H' ⟨Hc',O,r'.setSh rp⟩
theorem st_setG (is:List Nat){i:Nat}{x:Str}(he:SE C e f)(hN:C.X.N.Nodup)(hi:C.X.N[i]?=some x)(hx:Loc C.X.env.scope x)(hs:autoParam (swapsWith e (some (.Name x pos')) pos.line C.X.env=pure false) Au.h4._auto_1)
  (hf:autoParam (C.X.fn x=true\/C.X.env.scope.names.lookup x=some .local) Au.h1._auto_1):SSt C (.Assign [.Name x pos'] e pos) (Dv.sSetG is i f):=by
 obtain⟨t,p,q⟩:=he
 exact⟨_,ps_set hN hi hx p hs hf,fun Hv₀ H₀ E σ H st r w=>sSetG_ok q is i r w⟩
theorem RelC.own {Hv₀ H₀ Hc H:Hp}{O:Nat->Hp}{σ:St}{st:Dv.St}{K:PySem.W.Frag}{i:Nat}{ds:List D}(r:RelC K Hv₀ H₀ Hc O st σ H)(hi:st[i]?=some (.ow (.lst ds))) :
  ∃ a vs,σ[i]?=some (some (.ref a))/\H a=some (.lst vs)/\RpL K Hc ds vs:=by
 obtain⟨a,o,h1,h2,vs,rfl,h3⟩:=r.ow i _ hi
 exact⟨a,vs,h1,(r.oh i a _ h2).1,h3⟩
theorem st_app {i:Nat}{x:Str}{apos cpos:Pos}{px:Pos}(he:SE C e f)(hN:autoParam (C.X.N[i]?=some x) Au.h4._auto_1)(hv:autoParam (Vis C.X.env.scope x) Au.h7._auto_1)
    (hd:autoParam ((x == ("__debug__":Str))=false) Au.h2._auto_1) (hcd:autoParam ((x == ("__classdict__":Str))=false) Au.h2._auto_1) (hst:autoParam (starEach [e] C.X.env=[(false,eval e C.X.env)]) Au.h4._auto_1)
    (hbase:autoParam (attributeBase (.Name x px) "append" C.X.env (eval (.Name x px) C.X.env)=eval (.Name x px) C.X.env) Au.h4._auto_1)
    (hfew:autoParam (((backTo cpos (starEach [e] C.X.env)).all (fun x=>!x.1)&&(backToKw cpos (keywordEach [] C.X.env)).all (fun x=>x.1.isSome)
      && decide ([e].length+([]:List Keyword).length+(if ([]:List Keyword).isEmpty then 0 else 1)<30))=true) Au.h4._auto_1)
    (hline:autoParam ((apos.endLine == cpos.line)=true) Au.h4._auto_1)
    (hs:autoParam (swapsWith (.Call (.Attribute (.Name x px) "append" apos) [e] [] cpos) none pos.line C.X.env=pure false) Au.h4._auto_1) :
    SSt C (.Expr (.Call (.Attribute (.Name x px) "append" apos) [e] [] cpos) pos) (Dv.sApp i f):=by
  obtain⟨t,p,q⟩:=he
  refine⟨_,ps_expr (pe_bm PySem.F.plainAttrs_list PySem.F.slot_list_append PySem.F.type_list_append mt_append (pe_var hN hv hd hcd) (pa_cons p pa_nil hst) hbase hfew hline hst rfl) hs,fun Hv₀ H₀ E σ H st ⟨Hc,O,r⟩ w=>?_⟩
  unfold Dv.sApp at w
  cases hi:st[i]? with
  | none=>rw[hi] at w; exact(show False from w).elim
  | some s =>
    rw[hi] at w
    cases s with
    | no=>exact(show False from w).elim
    | sh d=>exact(show False from w).elim
    | dp d=>exact(show False from w).elim
    | jk n m=>exact(show False from w).elim
    | ow d0 =>
     cases d0 with
     | lst ds =>
      obtain⟨a,vs,h1,h2,h5⟩:=r.own hi
      refine⟨_,h1,.inl ⟨rfl,vs,SqL.of h2⟩,?_⟩
      refine q.all r (fun c hf H' r'=>?_) (fun hf=>?_) fun d fr v Hv' H' hf x r' rp n=>?_
      · simp only[hf] at w; exact w σ H' ⟨Hc,O,r'⟩
      · simp only[hf] at w; exact w
      · simp only[hf] at w
        by_cases z:(Dv.scal d&&decide (ds.length<Dv.mx))=true
        · simp only[z,if_true] at w
          rw[Bool.and_eq_true,decide_eq_true_eq] at z
          obtain⟨O',r2⟩:=r'.put hi h1 (h5.append (.cons (rp.scal z.1) .nil))
          refine⟨a,vs,v,rfl,rfl,x.hh _ _ h2,?_,w σ _ ⟨Hc,O',r2⟩⟩
          have:=h5.length
          have:=mx_line (Nat.le_of_lt z.2)
          have e1:(100000:Nat)<sizeLine:=by rw[sizeLine_eq]; decide
          have e2:ds.length<100000:=z.2
          omega
        · simp only[z] at w
          exact(show False from w).elim
     | _=>exact(show False from w).elim
end
section
variable {C:Ctx}{a b c e o k:Expr}{f g h:EE}{fl:EL}{F G:SS}{s:Stmt}{ss:List Stmt}{pos pos':Pos}{E:Ends}
noncomputable def Wlk (K:PySem.W.Frag)(J:It)(Hv:Hp)(ds:List D):Prop :=
 ∀ (i:Nat) (H:Hp),Same Hv H->(∀ d,ds[i]?=some d->J.go i H/\∀ x H',J.yld i H x H'->∃ Hv',Ext Hv H Hv' H'/\Rp K Hv' d x)/\(i=ds.length->J.stop i H)
noncomputable def OkI (K:PySem.W.Frag)(Hv H:Hp)(W:XK)(cls:String->Value)(r:RI)(T:It->Hp->Prop):Prop:=match r with
 | .ok ds _=>∀ J Hv' H',Ext Hv H Hv' H'->Wlk K J Hv' ds->T J H'
 | .exc c=>∀ Hv' H',Ext Hv H Hv' H'->W (cls c) none H'
 | .bad=>False
noncomputable def SI (C:Ctx)(tg it:Expr)(f:EI):Prop :=
 ∃ wi:TI,PI C.X tg it wi/\∀ σ H Hv ρ T,EnvR C.X.K Hv ρ σ->Same Hv H->OkI C.X.K Hv H (C.W σ) C.cls (f ρ) T->wi σ H T
theorem si_list {tg:Expr}(he:SE C e f):SI C tg e (Dv.iSeq f):=by
 obtain⟨t,p,q⟩:=he
 refine⟨_,pi_list p,fun σ H Hv ρ T er s w=>?_⟩
 refine q σ H Hv ρ _ er s ?_
 unfold Dv.iSeq at w
 cases hf:f ρ with
 | bad=>rw[hf] at w; exact w
 | exc c=>rw[hf] at w; exact w
 | ok d fr =>
  rw[hf] at w
  intro v Hv' H' x rp n
  cases d with
  | lst ds =>
   unfold Rp at rp
   obtain⟨l,vs,rfl,h1,h2⟩:=rp
   refine⟨l,rfl,⟨vs,(h1.same x.vh).seq⟩,w _ Hv' H' x fun i H2 s2=>⟨fun d hd=>?_,fun hi=>?_⟩⟩
   ·obtain⟨u,h3,h4⟩:=h2.get hd
    refine⟨⟨vs,u,(h1.same s2).seq,h3⟩,fun x H3 ⟨e1,hy⟩=>?_⟩
    subst e1
    have:=hy vs (h1.same s2).seq
    rw[h3] at this
    cases this
    exact⟨Hv',.refl s2,h4⟩
   ·exact⟨vs,(h1.same s2).seq,by rw[h2.length,hi]; exact Nat.le_refl _⟩
  | _=>exact(show False from w).elim
theorem range_get (lo:Int):∀ (n i:Nat) (d:D),(Dv.rangeL lo n)[i]?=some d->i<n/\d=.int (lo+i):=by
 intro n
 induction n generalizing lo with
 | zero=>intro i d h; simp[Dv.rangeL] at h
 | succ n ih =>
  intro i d h
  cases i with
  | zero=>simp[Dv.rangeL] at h; subst h; exact⟨by omega,by simp⟩
  | succ i =>
   simp only[Dv.rangeL,List.getElem?_cons_succ] at h
   obtain⟨h1,h2⟩:=ih (lo+1) i d h
   exact⟨by omega,by rw[h2]; congr 1; omega⟩
theorem range_len (lo:Int):∀ n:Nat,(Dv.rangeL lo n).length=n:=by
 intro n
 induction n generalizing lo with
 | zero=>rfl
 | succ n ih=>simp[Dv.rangeL,ih]
theorem wlk_range {K:PySem.W.Frag}{Hv:Hp}(lo:Int)(n:Nat):Wlk K (Itr lo n) Hv (Dv.rangeL lo n):=fun i H s=>⟨fun d hd=>by
  obtain⟨h1,rfl⟩:=range_get lo n i d hd
  refine⟨h1,fun x H' ⟨e1,e2⟩=>?_⟩
  subst e1 e2
  exact⟨Hv,.refl s,rp_int⟩,fun hi=>by rw[range_len] at hi; subst hi; exact Nat.le_refl _⟩
theorem rng62 {j:Int}(h:Dv.rngOk j=true):-(2 ^ 62)<=j/\j<2 ^ 62:=by
 unfold Dv.rngOk at h
 simp only[Bool.and_eq_true,decide_eq_true_eq] at h
 omega
theorem si_range {tg:Expr}{p:Pos}(hg:Gl C.X "range")(hm:C.X.mg "range"=none)(he:SE C e f)(hs:autoParam (starEach [e] C.X.env=[(false,eval e C.X.env)]) Au.h4._auto_1) :
  SI C tg (.Call (.Name "range" p) [e] [] pos) (Dv.iRange f):=by
 obtain⟨t,pe,q⟩:=he
 refine⟨_,pi_range1 hg hm (pa_cons pe pa_nil hs) hs,fun σ H Hv ρ T er s w=>?_⟩
 refine q σ H Hv ρ _ er s ?_
 unfold Dv.iRange at w
 cases hf:f ρ with
 | bad=>rw[hf] at w; exact w
 | exc c=>rw[hf] at w; exact w
 | ok d fr =>
  rw[hf] at w
  intro v Hv' H' x rp n
  cases d with
  | int j =>
   unfold Rp at rp
   subst rp
   by_cases hr:Dv.rngOk j=true
   ·simp only[hr,if_true] at w
    obtain⟨h1,h2⟩:=rng62 hr
    exact⟨j,rfl,h1,h2,w _ Hv' H' x (wlk_range 0 j.toNat)⟩
   ·simp only[hr] at w
    exact(show False from w).elim
  | _=>exact(show False from w).elim
theorem si_range2 {tg:Expr}{p:Pos}(hg:Gl C.X "range")(hm:C.X.mg "range"=none)(he:SE C e f)(hb:SE C b g)(hs:autoParam (starEach [e,b] C.X.env=[(false,eval e C.X.env),(false,eval b C.X.env)]) Au.h4._auto_1)
  (hs2:autoParam (starEach [b] C.X.env=[(false,eval b C.X.env)]) Au.h4._auto_1):SI C tg (.Call (.Name "range" p) [e,b] [] pos) (Dv.iRange2 f g):=by
 obtain⟨t,pe,q⟩:=he
 obtain⟨t2,pe2,q2⟩:=hb
 refine⟨_,pi_range2 hg hm (pa_cons pe (pa_cons pe2 pa_nil hs2) (by rw[hs,hs2])) hs hs2,fun σ H Hv ρ T er s w=>?_⟩
 refine q σ H Hv ρ _ er s ?_
 unfold Dv.iRange2 at w
 cases hf:f ρ with
 | bad=>rw[hf] at w; exact w
 | exc c=>rw[hf] at w; exact w
 | ok d fr =>
  rw[hf] at w
  intro v Hv' H' x rp n
  cases d with
  | int i =>
   unfold Rp at rp
   subst rp
   refine q2 σ H' Hv' ρ _ (er.same x.vv) x.vh ?_
   cases hg':g ρ with
   | bad=>simp only[hg'] at w; exact w
   | exc c=>simp only[hg'] at w; exact fun Hv2 H2 y=>w Hv2 H2 (x.trans y)
   | ok d2 fr2 =>
    simp only[hg'] at w
    intro v2 Hv2 H2 y rp2 n2
    cases d2 with
    | int j =>
     unfold Rp at rp2
     subst rp2
     by_cases hr:(Dv.rngOk i&&Dv.rngOk j)=true
     ·simp only[hr,if_true] at w
      rw[Bool.and_eq_true] at hr
      obtain⟨h1,h2⟩:=rng62 hr.1
      obtain⟨h3,h4⟩:=rng62 hr.2
      exact⟨i,j,rfl,⟨h1,h2,h3,h4⟩,w _ Hv2 H2 (x.trans y) (wlk_range i _)⟩
     ·simp only[hr] at w
      exact(show False from w).elim
    | _=>exact(show False from w).elim
  | _=>exact(show False from w).elim
noncomputable def SG (C:Ctx)(tg:Expr)(st:D->Dv.St->Option Dv.St):Prop :=
 ∃ g:TG,PG C.X tg g/\∀ Hv₀ H₀ Hc O H σ s s' d v T,RelC C.X.K Hv₀ H₀ Hc O s σ H->Rp C.X.K Hc d v->st d s=some s'->(∀ σ' ,RelC C.X.K Hv₀ H₀ Hc O s' σ' H->T σ' H)->g v σ H T
theorem sg_name {i:Nat}{x:Str}(hN:C.X.N.Nodup)(hi:C.X.N[i]?=some x)(hx:Loc C.X.env.scope x)(hf:autoParam (C.X.fn x=true\/C.X.env.scope.names.lookup x=some .local) Au.h1._auto_1) :
  SG C (.Name x pos) (fun d s=>some (s.set i (.sh d))):=by
 refine⟨_,pg_name hN hi hx hf,fun Hv₀ H₀ Hc O H σ s s' d v T r rp e h=>?_⟩
 cases e
 exact h _ (r.setSh rp)
theorem RelC.self {K:PySem.W.Frag}{Hv₀ H₀ Hc H:Hp}{O:Nat->Hp}{st:Dv.St}{σ:St}(r:RelC K Hv₀ H₀ Hc O st σ H):RelC K Hc H₀ Hc O st σ H :=
 ⟨r.h0,.refl _,r.ch,fun b o h n=>(by rw[n] at h; cases h),r.nf,r.len,r.sh,r.ow,r.dp,r.jk,r.oh,r.one⟩
theorem OkS.less {Hv₀ Hc H₀:Hp}{o:Out}(h:OkS C Hv₀ H₀ E o)(vc:Same Hv₀ Hc)(new:∀ b o,Hc b=some o->Hv₀ b=none->H₀ b=none):OkS C Hc H₀ E o:=by
 have rl:∀ {st σ H},Rel C.X.K Hc H₀ st σ H->Rel C.X.K Hv₀ H₀ st σ H:=fun ⟨Hd,O,r⟩=>⟨Hd,O,r.less vc new⟩
 cases o with
 | nx st=>exact fun σ H r=>h σ H (rl r)
 | ret d nw =>
  refine fun v Hv' H' x rp n=>h v Hv' H' ⟨x.hh,vc.trans x.vv,x.vh,fun b o q m=>?_,x.all,x.nf⟩ rp n
  cases z:Hc b with
  | some u=>exact new b u z m
  | none=>exact x.new b o q z
 | brk st=>exact fun σ H r=>h σ H (rl r)
 | cont st=>exact fun σ H r=>h σ H (rl r)
 | exc c st=>exact fun σ H r=>h σ H (rl r)
 | bad=>exact h
theorem for_ok {tgt:D->Dv.St->Option Dv.St}{g:TG}{tb:TS}{J:It}{ds:List D}{Hc H₀ H:Hp}{σ:St}{st:Dv.St}
  (qg:∀ Hv₀ H₀ Hc O H σ s s' d v T,RelC C.X.K Hv₀ H₀ Hc O s σ H->Rp C.X.K Hc d v->tgt d s=some s'->(∀ σ' ,RelC C.X.K Hv₀ H₀ Hc O s' σ' H->T σ' H)->g v σ H T)
  (qb:TakS C tb F) (wl:Wlk C.X.K J Hc ds) (r:Rel C.X.K Hc H₀ st σ H) (w:OkS C Hc H₀ E (Dv.forGoT tgt F ds st)) :
  ∃ W:Nat->Nat->St->Hp->Prop,(∃ m,W 0 m σ H)/\∀ i m σ H,W i m σ H ->
   (J.stop i H/\E.nx σ H)\/(J.go i H/\∃ N:St->Hp->Prop,(∀ σ' H',N σ' H'->∃ m',m'<m/\W (i+1) m' σ' H')/\∀ x H',J.yld i H x H'->g x σ H' fun σ2 H2=>tb { E with nx:=N,ct:=N,bk:=E.nx } σ2 H2):=by
 refine⟨fun i m σ H=>m=ds.length-i/\i<=ds.length/\∃ st,Rel C.X.K Hc H₀ st σ H/\OkS C Hc H₀ E (Dv.forGoT tgt F (ds.drop i) st),⟨_,rfl,Nat.zero_le _,st,r,w⟩,?_⟩
 rintro i m σ H ⟨rfl,hi,st,⟨Hd,O,r⟩,w⟩
 obtain⟨w1,w2⟩:=wl i H (r.vc.trans r.ch)
 by_cases hlt:i<ds.length
 ·have hd:ds[i]?=some ds[i]:=by simp[hlt]
  have e1:ds.drop i=ds[i]::ds.drop (i+1):=List.drop_eq_getElem_cons hlt
  rw[e1] at w
  generalize ds[i]=d at hd e1 w
  obtain⟨go,yl⟩:=w1 d hd
  refine .inr ⟨go,fun σ' H'=>∃ st,Rel C.X.K Hc H₀ st σ' H'/\OkS C Hc H₀ E (Dv.forGoT tgt F (ds.drop (i+1)) st),fun σ' H' h=>⟨ds.length-(i+1),by omega,rfl,hlt,h⟩,fun x H' hy=>?_⟩
  obtain⟨Hv',x1,rp⟩:=yl x H' hy
  unfold Dv.forGoT at w
  cases ht:tgt d st with
  | none=>simp only[ht] at w; exact(show False from w).elim
  | some st1 =>
   simp only[ht] at w
   have x2:Ext Hd H (fun b=>match H b with|none=>H' b|some _=>Hd b) H':=by
    refine⟨x1.hh,fun b o q=>?_,fun b o q=>?_,fun b o q n=>?_,fun b q=>?_,x1.nf⟩
    ·show (match H b with|none=>H' b|some _=>Hd b)=some o
     cases z:H b with
     | none=>rw[r.ch b o q] at z; cases z
     | some _=>exact q
    ·have q':(match H b with|none=>H' b|some _=>Hd b)=some o:=q
     cases z:H b with
     | none=>rw[z] at q'; exact q'
     | some u=>rw[z] at q'; exact x1.hh _ _ (r.ch b o q')
    ·have q':(match H b with|none=>H' b|some _=>Hd b)=some o:=q
     cases z:H b with
     | none=>rfl
     | some u=>rw[z] at q'; rw[n] at q'; cases q'
    ·show (match H b with|none=>H' b|some _=>Hd b)=H' b
     rw[q]
   have r2:=r.growC x2
   have sub:Same Hv' (fun b=>match H b with|none=>H' b|some _=>Hd b):=fun b o q=>by
    show (match H b with|none=>H' b|some _=>Hd b)=some o
    cases z:H b with
    | none=>exact x1.vh b o q
    | some u =>
     cases z2:Hc b with
     | none=>have:=x1.new b o q z2; rw[z] at this; cases this
     | some u' =>
      have h1:=x1.vv b u' z2
      rw[q] at h1
      cases h1
      exact r.vc b o z2
   refine qg Hc H₀ _ _ H' σ st st1 d x _ r2 (rp.same sub) ht fun σ2 r3=>?_
   refine qb Hc H₀ _ σ2 H' st1 ⟨_,_,r3⟩ ?_
   cases hb:F st1 with
   | nx st'=>simp only[hb] at w; exact fun σ' H' r'=>⟨st',r',w⟩
   | cont st'=>simp only[hb] at w; exact fun σ' H' r'=>⟨st',r',w⟩
   | brk st'=>simp only[hb] at w; exact w
   | ret d nw=>simp only[hb] at w; exact w
   | exc c st'=>simp only[hb] at w; exact w
   | bad=>simp only[hb] at w; exact w
 ·have e:i=ds.length:=by omega
  refine .inl ⟨w2 e,?_⟩
  rw[e,List.drop_length] at w
  exact w σ H ⟨Hd,O,r⟩
theorem st_forT (is:List Nat){tg it:Expr}{body:List Stmt}{tgt:D->Dv.St->Option Dv.St}{fi:EI}(hi:SI C tg it fi)(hg:SG C tg tgt)(hb:SSs C body F)(hcalm:autoParam (C.X.calm=true) Au.h4._auto_1)
  (hs:autoParam (∀ x,foldedSetIterable it C.X.env x=pure x) Au.h3._auto_1):SSt C (.For tg it body [] pos) (Dv.sForT is tgt fi F):=by
 obtain⟨wi,pi,qi⟩:=hi
 obtain⟨g,pg,qg⟩:=hg
 obtain⟨tb,pb,qb⟩:=hb
 refine⟨_,ps_for C.own hcalm pi pg pb hs,fun Hv₀ H₀ E σ H st ⟨Hc0,O0,r0⟩ w=>?_⟩
 obtain⟨Hc,O,_,r⟩:=r0.give is
 unfold Dv.sForT at w
 refine qi σ H Hc (Dv.open_ (Dv.give is st)) _ r.envOpen r.ch ?_
 cases hf:fi (Dv.open_ (Dv.give is st)) with
 | bad=>simp only[hf] at w; exact w
 | exc c=>simp only[hf] at w; exact fun Hv' H' x=>w σ H' ⟨Hc0,O0,r0.grow x.hh x.nf⟩
 | ok ds fr =>
  simp only[hf] at w
  intro J Hc' H' x wl
  have r1:=r.growC x
  exact for_ok qg qb wl ⟨Hc',O,r1.self⟩ (w.less r1.vc r1.new)
theorem forGo_T (x:Nat)(body:SS):∀ (ds:List D) (st:Dv.St),Dv.forGoT (fun d s=>some (s.set x (.sh d))) body ds st=Dv.forGo x body ds st
 | [],st=>rfl
 | d::r,st=>by
  unfold Dv.forGoT Dv.forGo
  cases h:body (st.set x (.sh d)) with
  | nx st'=>simp only[h]; exact forGo_T x body r st'
  | cont st'=>simp only[h]; exact forGo_T x body r st'
  | _=>simp only[h]
theorem st_for (is:List Nat){i:Nat}{x:Str}{it:Expr}{body:List Stmt}{fi:EI}(hi:SI C (.Name x pos') it fi)(hb:SSs C body F)(hN:C.X.N.Nodup)(hn:C.X.N[i]?=some x)(hx:Loc C.X.env.scope x)
  (hf:autoParam (C.X.fn x=true\/C.X.env.scope.names.lookup x=some .local) Au.h1._auto_1) (hs:autoParam (∀ x,foldedSetIterable it C.X.env x=pure x) Au.h3._auto_1) (hcalm:autoParam (C.X.calm=true) Au.h4._auto_1) :
  SSt C (.For (.Name x pos') it body [] pos) (Dv.sFor is i fi F):=by
 obtain⟨t,p,q⟩:=st_forT (pos:=pos) is hi (sg_name (pos:=pos') hN hn hx hf) hb hcalm hs
 refine⟨t,p,fun Hv₀ H₀ E σ H st r w=>q Hv₀ H₀ E σ H st r ?_⟩
 unfold Dv.sForT
 unfold Dv.sFor at w
 cases hf:fi (Dv.open_ (Dv.give is st)) with
 | bad=>simp only[hf] at w ⊢; exact w
 | exc c=>simp only[hf] at w ⊢; exact w
 | ok ds fr=>simp only[hf] at w ⊢; rw[forGo_T]; exact w
theorem st_while (n:Nat){body:List Stmt}(hc:SC C c f)(hb:SSs C body F):SSt C (.While c body [] pos) (Dv.sWhile n f F):=by
 obtain⟨tc,pc,qc⟩:=hc
 obtain⟨tb,pb,qb⟩:=hb
 refine⟨_,ps_while C.own pc pb,fun Hv₀ H₀ E σ H st r w=>?_⟩
 refine⟨fun m σ H=>∃ st,Rel C.X.K Hv₀ H₀ st σ H/\OkS C Hv₀ H₀ E (Dv.whileGo f F m st),⟨n,st,r,w⟩,?_⟩
 rintro m σ H ⟨st,⟨Hc,O,r⟩,w⟩
 cases m with
 | zero=>exact(show False from w).elim
 | succ m =>
  unfold Dv.whileGo at w
  refine qc σ H (Hall Hc O H) (Dv.all st) _ r.envAll r.allH ?_
  cases hf:f (Dv.all st) with
  | bad=>simp only[hf] at w; exact w
  | exc c=>simp only[hf] at w; exact fun Hv' H' x=>w σ H' ⟨Hc,O,r.grow x.hh x.nf⟩
  | ok d fr =>
   intro v Hv' H' x rp nn
   cases d with
   | bl b =>
    unfold Rp at rp
    refine⟨b,rp,?_⟩
    cases b with
    | true =>
     simp only[hf] at w
     refine iteT ⟨fun σ' H'=>∃ st,Rel C.X.K Hv₀ H₀ st σ' H'/\OkS C Hv₀ H₀ E (Dv.whileGo f F m st),fun σ' H' h=>⟨m,Nat.lt_succ_self m,h⟩,?_⟩
     refine qb Hv₀ H₀ _ σ H' st ⟨Hc,O,r.grow x.hh x.nf⟩ ?_
     cases hb:F st with
     | nx st'=>simp only[hb] at w; exact fun σ' H' r'=>⟨st',r',w⟩
     | cont st'=>simp only[hb] at w; exact fun σ' H' r'=>⟨st',r',w⟩
     | brk st'=>simp only[hb] at w; exact w
     | ret d nw=>simp only[hb] at w; exact w
     | exc c st'=>simp only[hb] at w; exact w
     | bad=>simp only[hb] at w; exact w
    | false =>
     simp only[hf] at w
     exact iteF (w σ H' ⟨Hc,O,r.grow x.hh x.nf⟩)
   | _=>simp only[hf] at w; exact(show False from w).elim
noncomputable def spD (K:PySem.W.Frag)(cls:String->Value)(F:List D->R)(n:Nat):Sp:=fun vs H Q E=>∃ ds Hv,ds.length=n/\Same Hv H/\RpL K Hv ds vs/\Ok K Hv H E cls (F ds) Q
theorem spD_len {K:PySem.W.Frag}{cls:String->Value}{F:List D->R}{n:Nat}{vs:List V}{H:Hp}{Q:VK}{E:XK}(h:spD K cls F n vs H Q E):vs.length=n:=by
 obtain⟨ds,Hv,h1,_,h2,_⟩:=h
 rw[h2.length,h1]
theorem start_get {N:List Str}{vs:List V}{i:Nat}{v:V}(h:vs[i]?=some v):(L2.start N vs)[i]?=some (some v):=by
 have hl:i<vs.length:=(List.getElem?_eq_some_iff.mp h).1
 unfold L2.start
 rw[List.getElem?_append_left (by simpa using hl),List.getElem?_map,h]
 rfl
theorem rel_start {K:PySem.W.Frag}{Hv H:Hp}{ds:List D}{vs:List V}{N:List Str}(s:Same Hv H)(rp:RpL K Hv ds vs)(hN:ds.length<=N.length) :
  RelC K Hv H Hv (fun _ _=>none) (ds.map Sl.sh++List.replicate (N.length-ds.length) Sl.no) (L2.start N vs) H:=by
 have hl:=rp.length
 have get:∀ {i:Nat} {x:Sl},(ds.map Sl.sh++List.replicate (N.length-ds.length) Sl.no)[i]?=some x->(∃ d,x=.sh d/\ds[i]?=some d)\/x=.no:=fun {i x} h=>by
  by_cases hi:i<ds.length
  ·rw[List.getElem?_append_left (by simpa using hi),List.getElem?_map] at h
   cases q:ds[i]? with
   | none=>rw[q] at h; cases h
   | some d=>rw[q] at h; cases h; exact .inl ⟨d,rfl,rfl⟩
  ·rw[List.getElem?_append_right (by simpa using hi),List.getElem?_replicate] at h
   split at h
   ·cases h; exact .inr rfl
   ·cases h
 refine⟨.refl _,.refl _,s,fun b o h n=>(by rw[n] at h; cases h),fun b o u h=>(by rw[h]; intro z; cases z),?_,fun i d h=>?_,fun i d h=>?_,fun i d h=>?_,fun i n m h=>?_,(fun i b o h=>nomatch h),(fun i j b o o' h=>nomatch h)⟩
 ·unfold L2.start
  simp only[List.length_append,List.length_map,List.length_replicate]
  omega
 ·rcases get h with ⟨d',e,h2⟩|e
  ·cases e
   obtain⟨v,h3,h4⟩:=rp.get h2
   exact⟨v,start_get h3,h4⟩
  ·cases e
 ·rcases get h with ⟨d',e,_⟩|e <;>cases e
 ·rcases get h with ⟨d',e,_⟩|e <;>cases e
 ·rcases get h with ⟨d',e,_⟩|e <;>cases e
theorem fn_end {Hv H:Hp}{ds:List D}{Q:VK}{W:XK}{n:Nat}{body:SS}(hW:C.W=fun _=>W)(h:Ok C.X.K Hv H W C.cls (Dv.fn n body ds) Q) :
  OkS C Hv H { nx:=fun _ H'=>Q .non H',rt:=Q } (body (ds.map Sl.sh++List.replicate (n-ds.length) Sl.no)):=by
 unfold Dv.fn at h
 have ext:∀ {st σ' H'},Rel C.X.K Hv H st σ' H'->∃ Hv2,Ext Hv H Hv2 H':=fun {st σ' H'} ⟨Hc,O,r⟩=>by
  obtain⟨Hv2,x,_⟩:=r.ret (.refl r.allH)
  exact⟨Hv2,x⟩
 cases hb:body (ds.map Sl.sh++List.replicate (n-ds.length) Sl.no) with
 | nx st =>
  simp only[hb] at h
  intro σ' H' r
  obtain⟨Hv2,x⟩:=ext r
  exact h .non Hv2 H' x rp_non fun _=>rp_non
 | ret d nw=>simp only[hb] at h; exact fun v Hv' H' x rp nn=>h v Hv' H' x rp nn
 | brk st=>simp only[hb] at h; exact(show False from h).elim
 | cont st=>simp only[hb] at h; exact(show False from h).elim
 | exc c st =>
  simp only[hb] at h
  intro σ' H' r
  obtain⟨Hv2,x⟩:=ext r
  rw[hW]
  exact h Hv2 H' x
 | bad=>simp only[hb] at h; exact(show False from h).elim
end
structure CXok (P:Program)(w:World)(CX:CXT):Prop where
 no:∀ (outer:List PySem.Env) (H:Hp) (s:Shared) (e:Value) (s':Shared),CX outer H s (fun _ _ _=>False) e s'->False
 leave:∀ (K:PySem.W.Frag) (mg:Str->Option Value) (base:Heap) (N:List Str) (qual:Str) (scope:Scope) (f:Addr) (cd:Value) (A:Around) (outer:List PySem.Env) (s:Shared) (H:Hp) (E:XK)
  (pins:List (Addr × Obj)) (σ:St) (H1:Hp) (s1:Shared) (e:Value) (s':Shared),Inv (cxOf CX P w K mg base N qual scope f cd A outer s H E) pins σ H1 s1 ->
  CX (cxOf CX P w K mg base N qual scope f cd A outer s H E).stack H1 s1 E e s'->(cxOf CX P w K mg base N qual scope f cd A outer s H E).xe e s'
section
variable {P:Program}{w:World}{K:PySem.W.Frag}{mg:Str->Option Value}{base:Heap}{CX:CXT}
noncomputable def ctxOf {P:Program}{w:World}(hC:CXok P w CX)(cls:String->Value)(K:PySem.W.Frag)(mg:Str->Option Value)(base:Heap)(N:List Str)(qual:Str)(scope:Scope)(f:Addr)(cd:Value)(A:Around)(outer:List PySem.Env)(s:Shared)(H:Hp)(E:XK)
  {k:Nat} (hr:Room k (A.deeper (envOfC qual scope s.heap.objs.size f cd))):Ctx where
 X:=cxOf CX P w K mg base N qual scope f cd A outer s H E
 W:=fun _=>E
 cls:=cls
 CX:=CX
 un:=hr.units
 own:=PassesOwn.leaving
 pass:=fun pins σ H1 s1 e s' I h=>hC.leave K mg base N qual scope f cd A outer s H E pins σ H1 s1 e s' I h
 cxF:=hC.no
theorem fn_ok (hC:CXok P w CX)(cls:String->Value){x qual:Str}{st:Stmt}{f:Addr}{N ps:List Str}{k:Nat}{body:SS}(oc:Value)(od:Option Addr)(dV kV doc pm:Value)(an:Option Addr)(cdv ct:Value)(osl:Array (Option Value))
  (lk:K.lookup f=some ⟨oc,od,.func (PySem.W.fnOf x qual (defArgs st) (defBody st) (defScope st) dV kV doc pm an cdv ct),osl⟩) (hcd:PySem.W.codeIn K cdv qual=true) (S:FnScope N ps (defScope st))
  (hbody:∀ (A:Around) (outer:List PySem.Env) (s:Shared) (H:Hp) (E:XK) (hr:Room k (A.deeper (envOfC qual (defScope st) s.heap.objs.size f cdv))),
   SSs (ctxOf hC cls K mg base N qual (defScope st) f cdv A outer s H E hr) (defBody st) body) :
  FnOk P w K mg base CX (k+1) f (PySem.W.fnOf x qual (defArgs st) (defBody st) (defScope st) dV kV doc pm an cdv ct) ps (spD K cls (Dv.fn N.length body) ps.length):=by
 refine fn_of lk hcd S (fun vs H Q E h=>spD_len h) fun A outer s H vs Q E hr h=>?_
 obtain⟨ds,Hv,hl,sv,rp,ok⟩:=h
 obtain⟨t,p,q⟩:=hbody A outer s H E hr
 have hpl:ps.length<=N.length:=by
  have:=congrArg List.length S.pre
  rw[List.length_take] at this
  omega
 exact⟨t,p,q Hv H _ (L2.start N vs) H _ ⟨Hv,_,rel_start sv rp (by omega)⟩ (fn_end (C:=ctxOf hC cls K mg base N qual (defScope st) f cdv A outer s H E hr) rfl ok)⟩
end
section
variable {C:Ctx}{a b c e o:Expr}{es:List Expr}{f g h:EE}{fl:EL}{F G:SS}{pos pos':Pos}{E:Ends}
theorem pe_callW {X:Cx}{CX:CXT}{W:St->XK}{k:Nat}{fa:Addr}{fd:FuncData}{ps:List Str}{sp:Sp}{dvs:List V}{ds:List Value}{x:Str}{p:Pos}{t:TA}(Fn:FnOk X.prog X.w X.K X.mg X.base CX k fa fd ps sp)(hr:Room k X.A)(hg:Gl X x)(hm:X.mg x=some (.ref fa))(hk:PySem.W.keepIn X.K (.ref fa)=true)
  (hb:Binds X.K fd ps ds) (hd:Vals dvs ds) (hx:∀ (pins:List (Addr × Obj)) (σ:St) (H:Hp) (s:Shared) (e:Value) (s':Shared),Inv X pins σ H s->CX X.stack H s (W σ) e s'->X.xe e s')
  (ha:PA X (e::es) t) (hdb:(x == ("__debug__":Str))=false) (he:starEach (e::es) X.env=(false,eval e X.env)::starEach es X.env) (hpl:(backTo pos (starEach es X.env)).any (·.1)=false) :
  PE X (.Call (.Name x p) (e::es) [] pos) (fun σ H Q=>t σ H fun vs H1=>sp (vs++dvs) H1 Q (W σ)):=by
 intro pins s σ H Q I h
 refine wpAny_Call_Name_kw (ld_glob I hg hm ?_ hdb)
 refine PySem.W.callWith_K (h₀:=X.base) I.ok.mod.kin hk (thn (ha pos pins s σ H _ I h) fun us s1 ⟨vs,H1,I1,r,q⟩=>⟨I1.kIn,?_⟩) he hpl
 have r2:Vals (vs++dvs) (us++ds):=r.append hd
 have hl:(us++ds).length=ps.length:=by rw[<- r2.length]; exact Fn.len _ _ _ _ q
 refine wpAny_call (codeAny_mono (Fn.run X.A X.stack s1 H1 ⟨us,[]⟩ (us++ds) (vs++dvs) Q (W σ) hr I1.env0 (hb s1 us I1.kIn hl) r2 q) fun rr s' hq=>?_)
 cases rr with
 | error e=>exact hx pins σ H1 s1 e s' I1 hq
 | ok fl =>
  cases fl with
  | ret u=>exact I1.after hq
  | next=>exact False.elim hq
  | brk=>exact False.elim hq
  | cont=>exact False.elim hq
theorem se_call {k j:Nat}{fa:Addr}{fd:FuncData}{ps:List Str}{Fm:List D->R}{dds:List D}{dvs:List V}{dus:List Value}{x:Str}{p:Pos}(Fn:FnOk C.X.prog C.X.w C.X.K C.X.mg C.X.base C.CX j fa fd ps (spD C.X.K C.cls Fm ps.length))(hr:Room k C.X.A)(hj:j<=k)
  (hg:Gl C.X x) (hm:C.X.mg x=some (.ref fa)) (hk:PySem.W.keepIn C.X.K (.ref fa)=true) (hb:Binds C.X.K fd ps dus) (hd:Vals dvs dus) (hdd:∀ K H,RpL K H dds dvs) (ha:SL C (e::es) fl) (hlen:autoParam ((e::es).length+dds.length=ps.length) Au.h4._auto_1)
  (hdb:autoParam ((x == ("__debug__":Str))=false) Au.h2._auto_1) (he:autoParam (starEach (e::es) C.X.env=(false,eval e C.X.env)::starEach es C.X.env) Au.h4._auto_1) (hpl:autoParam ((backTo pos (starEach es C.X.env)).any (·.1)=false) Au.h4._auto_1) :
  SE C (.Call (.Name x p) (e::es) [] pos) (Dv.eCall (fun ds=>Fm (ds++dds)) fl):=by
 obtain⟨t,pa,qa,hl⟩:=ha
 refine⟨_,pe_callW (W:=C.W) (Fn.mono hj) hr hg hm hk hb hd C.pass pa hdb he hpl,fun σ H Hv ρ Q er s w=>?_⟩
 refine qa.step er (.refl s) w fun vs ds fr Hv1 H1 hf x1 _ rp _ w1=>?_
 refine⟨ds++dds,Hv1,?_,x1.vh,rp.append (hdd _ _),Ok.later x1 w1⟩
 rw[List.length_append,hl ρ ds fr hf]; exact hlen
noncomputable def compCx (X:Cx)(N:List Str)(scope:Scope)(cl:List (Str × Addr))(L:Addr)(s₀:Shared)(H₀:Hp)(ex:List Addr):Cx :=
 { X with N:=N,s₀:=s₀,H₀:=H₀,env:=compEnvC scope cl L X.env,outer:=X.stack,ex:=ex,fn:=fun _=>false,pn:=[],xe:=fun _ _=>False }
noncomputable def compCtx (C:Ctx)(N:List Str)(scope:Scope)(cl:List (Str × Addr))(L:Addr)(s₀:Shared)(H₀:Hp)(ex:List Addr):Ctx where
 X:=compCx C.X N scope cl L s₀ H₀ ex
 W:=fun _ _ _ _=>False
 cls:=C.cls
 CX:=C.CX
 un:=C.un
 own:=PassesOwn.never
 pass:=fun _ _ _ _ _ _ _ h=>C.cxF _ _ _ _ _ h
 cxF:=C.cxF
theorem closure_ok {env:PySem.Env}:∀ (names:List (Str × NameKind)) (acc:List (Str × Addr)),(∀ y∈names,y.2=.free->∃ c,env.cells.lookup y.1=some c) ->
  ∃ cl,(forIn names acc fun (x:Str × NameKind) (cs:List (Str × Addr))=>(if (x.2 == .free)=true then do let a <- cellOf env x.1; pure (ForInStep.yield ((x.1,a)::cs)) else pure (ForInStep.yield cs):Sem (ForInStep (List (Str × Addr)))))=pure cl /\
   (∀ x c,cl.lookup x=some c->acc.lookup x=some c\/env.cells.lookup x=some c)/\(∀ y∈names,y.2=.free->∃ c,cl.lookup y.1=some c)/\(∀ x c,acc.lookup x=some c->∃ c',cl.lookup x=some c')
 | [],acc,_=>⟨acc,rfl,fun _ _ h=>.inl h,(fun _ h=>nomatch h),fun x c h=>⟨c,h⟩⟩
 | (n,k)::r,acc,h=>by
  simp only[List.forIn_cons]
  by_cases hk:(k == NameKind.free)=true
  ·obtain⟨c,hc⟩:=h (n,k) List.mem_cons_self (by simpa using hk)
   obtain⟨cl,e,h1,h2,h3⟩:=closure_ok r ((n,c)::acc) fun y hy=>h y (List.mem_cons_of_mem _ hy)
   refine⟨cl,?_,fun x d hx=>?_,fun y hy hf=>?_,fun x d hx=>?_⟩
   ·simp only[hk,if_true]
    have e2:cellOf env n=pure c:=by unfold cellOf; rw[hc]
    rw[e2]
    exact e
   ·rcases h1 x d hx with q|q
    ·rw[List.lookup_cons] at q
     cases z:x == n with
     | true =>
      rw[z] at q
      have:x=n:=by simpa using z
      subst this
      cases q
      exact .inr hc
     | false=>rw[z] at q; exact .inl q
    ·exact .inr q
   ·rcases List.mem_cons.mp hy with rfl|hy
    ·exact h3 n c (by simp[List.lookup_cons])
    ·exact h2 y hy hf
   ·by_cases z:(x == n)=true
    ·exact h3 x c (by simp[List.lookup_cons,z])
    ·exact h3 x d (by rw[List.lookup_cons]; simp only[Bool.not_eq_true] at z; rw[z]; exact hx)
  ·obtain⟨cl,e,h1,h2,h3⟩:=closure_ok r acc fun y hy=>h y (List.mem_cons_of_mem _ hy)
   refine⟨cl,?_,h1,fun y hy hf=>?_,h3⟩
   ·simp only[hk]
    exact e
   ·rcases List.mem_cons.mp hy with rfl|hy
    ·exact absurd (by simpa using hf) hk
    ·exact h2 y hy hf
theorem closure_of {env:PySem.Env}{scope:Scope}(h:∀ y∈scope.names,y.2=.free->∃ c,env.cells.lookup y.1=some c) :
  ∃ cl,closureFor scope env=pure cl/\(∀ x c,cl.lookup x=some c->env.cells.lookup x=some c)/\∀ y∈scope.names,y.2=.free->∃ c,cl.lookup y.1=some c:=by
 obtain⟨cl,e,h1,h2,_⟩:=closure_ok scope.names [] h
 refine⟨cl,?_,fun x c hx=>?_,h2⟩
 ·unfold closureFor
  exact(congrArg (fun m:Sem (List (Str × Addr))=>m >>= fun s=>pure s) e).trans rfl
 ·rcases h1 x c hx with q|q
  ·simp at q
  ·exact q
end
theorem comp_turns {prog:Program}{w:World}{A:Around}{T:Result->Shared->Prop}{s:Shared}{elt target iter:Expr}{ifs:List Expr}{scope:Scope}{pos:Pos}{it acc:Value}{env:PySem.Env}(J:Nat->Shared->Prop)
  (turn:∀ n s,J n s->wpAny (model prog w) A (pyNext it) (fun r s1=>match r with
   | none=>T (.ok .next) s1
   | some v=>wpAny (model prog w) A (letOwnedTupleGo target it v) (fun _ s2=>wpAny (model prog w) A (assign target env v) (fun _ s3 =>
     wpAny (model prog w) A (forIn ifs true fun c r=>if r=true then do let ok <- isTrue c env (eval c env); pure (ForInStep.yield ok) else pure (ForInStep.yield r)) (fun ok s4 =>
      if ok=true then wpAny (model prog w) A (eval elt env) (fun x s5=>wpAny (model prog w) A (call (.builtin "list.append") [acc,x]) (fun _ s6=>∃ m,m<n/\J m s6) (fun _ _=>False) s5) (fun _ _=>False) s4
      else ∃ m,m<n/\J m s4) (fun _ _=>False) s3) (fun _ _=>False) s2) (fun _ _=>False) s1) (fun _ _=>False) s)
  (n:Nat) (h:J n s):codeAny (model prog w) A (.compLoop (.ListComp elt [⟨target,iter,ifs,0⟩] scope pos) 0 it acc env) T s:=by
 refine codeAny_loop rfl J (fun n s hJ=>?_) n h
 show wpAny _ A ((compTurn (.ListComp elt [⟨target,iter,ifs,0⟩] scope pos) 0 it acc env).onRaise (fun x=>do noteFrame x env; theTreesLotGoes x)) _ _ s
 refine wpAny_noted ?_
 rw[compTurn_list]
 refine wpAny_bind (wpAny_standAt (wpAny_bind (wpAny_mono (turn n s hJ) (fun r s1 h1=>?_) fun _ _ z=>z.elim)))
 cases r with
 | none=>exact wpAny_pure h1
 | some v =>
  refine wpAny_bind (wpAny_mono h1 (fun _ s2 h2=>wpAny_bind (wpAny_mono h2 (fun _ s3 h3=>wpAny_bind (wpAny_mono h3 (fun ok s4 h4=>?_) fun _ _ z=>z.elim)) fun _ _ z=>z.elim)) fun _ _ z=>z.elim)
  cases ok with
  | false=>exact wpAny_pure ⟨rfl,h4⟩
  | true =>
   refine wpAny_bind (wpAny_bind (wpAny_mono h4 (fun x s5 h5=>wpAny_bind (wpAny_mono h5 (fun _ s6 h6=>?_) fun _ _ z=>z.elim)) fun _ _ z=>z.elim))
   exact wpAny_pure (wpAny_pure ⟨rfl,h6⟩)
theorem relabel_free {env:PySem.Env}:∀ {names:List (Str × NameKind)} {x:Str},names.lookup x=some .free ->
  (names.map fun (n,k)=>if (k == NameKind.free&&env.scope.kind == .function&&env.kindOf n == some .cell) then (n,NameKind.cell) else (n,k)).lookup x=some .cell \/
  (names.map fun (n,k)=>if (k == NameKind.free&&env.scope.kind == .function&&env.kindOf n == some .cell) then (n,NameKind.cell) else (n,k)).lookup x=some .free
 | [],_,h=>by simp at h
 | (n,k)::r,x,h=>by
  have ih:=@relabel_free env r x
  simp only[List.map_cons]
  cases hx:x == n with
  | true =>
   simp only[List.lookup_cons,hx] at h
   cases h
   by_cases hc:(NameKind.free == NameKind.free&&env.scope.kind == .function&&env.kindOf n == some .cell)=true
   ·rw[if_pos hc]; left; simp[List.lookup_cons,hx]
   ·rw[if_neg hc]; right; simp[List.lookup_cons,hx]
  | false =>
   simp only[List.lookup_cons,hx] at h
   by_cases hc:(k == NameKind.free&&env.scope.kind == .function&&env.kindOf n == some .cell)=true
   ·rw[if_pos hc]; simp only[List.lookup_cons,hx]; exact ih h
   ·rw[if_neg hc]; simp only[List.lookup_cons,hx]; exact ih h
theorem of_relabel {env:PySem.Env}:∀ {names:List (Str × NameKind)} {x:Str} {kd:NameKind},(∀ y∈names,y.2≠.cell)->kd=.cell\/kd=.free ->
  (names.map fun (n,k)=>if (k == NameKind.free&&env.scope.kind == .function&&env.kindOf n == some .cell) then (n,NameKind.cell) else (n,k)).lookup x=some kd->(x,NameKind.free)∈names
 | [],_,_,_,_,h=>by simp at h
 | (n,k)::r,x,kd,nc,hk,h=>by
  have ih:=@of_relabel env r x kd (fun y hy=>nc y (List.mem_cons_of_mem _ hy)) hk
  simp only[List.map_cons] at h
  cases hx:x == n with
  | true =>
   have e:x=n:=by simpa using hx
   subst e
   by_cases hc:(k == NameKind.free&&env.scope.kind == .function&&env.kindOf x == some .cell)=true
   ·have:k=.free:=by
     simp only[Bool.and_eq_true,beq_iff_eq] at hc
     exact hc.1.1
    subst this
    exact List.mem_cons_self
   ·rw[if_neg hc] at h
    simp only[List.lookup_cons,hx] at h
    have e2:k=kd:=by simpa using h
    subst e2
    rcases hk with rfl|rfl
    ·exact absurd rfl (nc (x,.cell) List.mem_cons_self)
    ·exact List.mem_cons_self
  | false =>
   refine List.mem_cons_of_mem _ (ih ?_)
   by_cases hc:(k == NameKind.free&&env.scope.kind == .function&&env.kindOf n == some .cell)=true
   ·rw[if_pos hc] at h; simp only[List.lookup_cons,hx] at h; exact h
   ·rw[if_neg hc] at h; simp only[List.lookup_cons,hx] at h; exact h
structure CompNames (X:Cx)(scope:Scope)(x:Str)(fs:List Str)(is:List Nat):Prop where
 kind:scope.kind=.function
 cell:∀ y∈scope.names,y.2≠.cell
 names:∀ y∈scope.names,y.2=.local->scope.names.lookup y.1=some .local
 tgt:scope.names.lookup x=some .local
 nd:(x::fs).Nodup
 free:∀ y∈scope.names,y.2=.free->X.env.kindOf y.1=some .cell\/X.env.kindOf y.1=some .free
 fsf:∀ y∈fs,scope.names.lookup y=some .free
 len:is.length=fs.length
 at':∀ (j:Nat) (y:Str),fs[j]?=some y->∃ i,is[j]?=some i/\X.N[i]?=some y
theorem mem_lookup {α β:Type}[BEq α][LawfulBEq α]:∀ {l:List (α × β)} {x:α} {y:β},l.lookup x=some y->(x,y)∈l
 | [],_,_,h=>by simp at h
 | (a,b)::r,x,y,h=>by
  rw[List.lookup_cons] at h
  cases hx:x == a with
  | true =>
   rw[hx] at h
   have e:x=a:=by simpa using hx
   subst e
   cases h
   exact List.mem_cons_self
  | false=>rw[hx] at h; exact List.mem_cons_of_mem _ (mem_lookup h)
noncomputable def STs (C:Ctx)(ifs:List Expr)(f:EE):Prop :=
 ∃ t:TT,(∀ (pins:List (Addr × Obj)) (s:Shared) (σ:St) (H:Hp) (Q:Bool->Hp->Prop),Inv C.X pins σ H s->t σ H Q ->
  wpAny (model C.X.prog C.X.w) C.X.A (forIn ifs true fun c r=>if r=true then do let ok <- isTrue c C.X.env (eval c C.X.env); pure (ForInStep.yield ok) else pure (ForInStep.yield r)) (TP C.X pins σ Q) C.X.xe s)/\TakC C t f
theorem ts_nil {C:Ctx}:STs C [] (Dv.eBl true) :=
 ⟨fun _ H Q=>Q true H,fun pins s σ H Q I h=>wpAny_tests_nil ⟨H,I,h⟩,fun σ H Hv ρ Q e s q=>by
  obtain⟨b,e1,q⟩:=q.now (v:=.bl true) s rp_bl rfl
  cases e1
  exact q⟩
theorem ts_one {C:Ctx}{c:Expr}{f:EE}(h:SC C c f):STs C [c] f:=by
 obtain⟨t,p,q⟩:=h
 exact⟨t,fun pins s σ H Q I h=>wpAny_tests_one (p pins s σ H Q I h),q⟩
theorem hok_track {P:Program}{w:World}{H:Hp}{h:Heap}{a:Addr}{o:HO}(x:HOk P w H h)(hn:H a=none)(new:ObjOk P w (upd H a o) h a o):HOk P w (upd H a o) h:=fun b u e=>by
 by_cases hb:b=a
 ·subst hb; rw[upd_same] at e; cases e; exact new
 ·rw[upd_ne hb] at e
  exact(x b u e).stay (fun c v _ q=>q) (fun c q=>by rw[upd_ne (ne_of_none q hn)]; exact q) fun c xs q=>by rw[upd_ne (ne_of_none q hn)]; exact q
theorem hok_but {P:Program}{w:World}{H:Hp}{h h':Heap}{a:Addr}(x:HOk P w H h)(hn:H a=none)(k:∀ b o,b≠a->h.get? b=some o->h'.get? b=some o):HOk P w H h':=fun b u e=>by
 refine(x b u e).stay (fun c v hc q=>k c v ?_ q) (fun c q=>q) fun c xs q=>q
 rcases hc with rfl|hc
 ·exact ne_of_none e hn
 ·exact ne_of_none hc hn
section
variable {C:Ctx}
theorem pick_get {ρ:Dv.Env}{is:List Nat}{j:Nat}{d:D}(h:(Dv.pick ρ is)[j]?=some (some d)):∃ i,is[j]?=some i/\ρ[i]?=some (some d):=by
 unfold Dv.pick at h
 rw[List.getElem?_map] at h
 cases q:is[j]? with
 | none=>rw[q] at h; cases h
 | some i =>
  rw[q] at h
  have h':(ρ[i]?).getD none=some d:=Option.some.inj h
  refine⟨i,rfl,?_⟩
  cases z:ρ[i]? with
  | none=>rw[z] at h'; cases h'
  | some o=>rw[z] at h'; exact congrArg some h'
noncomputable def freeV (σ:St)(is:List Nat):St:=is.map fun i=>(σ[i]?).getD none
theorem freeV_get {σ:St}{is:List Nat}{j i:Nat}{v:V}(hi:is[j]?=some i)(h:σ[i]?=some (some v)):(freeV σ is)[j]?=some (some v):=by
 unfold freeV
 rw[List.getElem?_map,hi]
 show some ((σ[i]?).getD none)=_
 rw[h]
 rfl
theorem of_freeV {σ:St}{is:List Nat}{j:Nat}{v:V}(h:(freeV σ is)[j]?=some (some v)):∃ i,is[j]?=some i/\σ[i]?=some (some v):=by
 unfold freeV at h
 rw[List.getElem?_map] at h
 cases q:is[j]? with
 | none=>rw[q] at h; cases h
 | some i =>
  rw[q] at h
  have h':(σ[i]?).getD none=some v:=Option.some.inj h
  refine⟨i,rfl,?_⟩
  cases z:σ[i]? with
  | none=>rw[z] at h'; cases h'
  | some o=>rw[z] at h'; exact congrArg some h'
theorem env_comp {K:PySem.W.Frag}{Hv:Hp}{ρ:Dv.Env}{σ:St}{is:List Nat}{d:D}{v:V}(e:EnvR K Hv ρ σ)(r:Rp K Hv d v):EnvR K Hv (some d::Dv.pick ρ is) (some v::freeV σ is):=fun j x h=>by
 cases j with
 | zero=>cases h; exact⟨v,rfl,r⟩
 | succ j =>
  obtain⟨i,h1,h2⟩:=pick_get (show (Dv.pick ρ is)[j]?=some (some x) from h)
  obtain⟨u,h3,h4⟩:=e i x h2
  exact⟨u,freeV_get h1 h3,h4⟩
theorem comp_cxok {X:Cx}{pins:List (Addr × Obj)}{σ:St}{H1:Hp}{s2:Shared}{scope:Scope}{x:Str}{fs:List Str}{is:List Nat}{cl:List (Str × Addr)}{fp:List Addr}{L:Addr}(I:Inv X pins σ H1 s2)(S:CompNames X scope x fs is)
  (clsub:∀ x c,cl.lookup x=some c->X.env.cells.lookup x=some c) (clhas:∀ y∈scope.names,y.2=.free->∃ c,cl.lookup y.1=some c) (f2:∀ b∈fp,FpOk X pins H1 b) (fin:∀ b∈fp,b<s2.heap.objs.size) (hL:s2.heap.objs.size<=L) :
  (compCx X (x::fs) scope cl L s2 H1 fp).Ok:=by
 refine⟨I.ok.mod,S.kind,I.ok.glob,I.ok.blt,hL,fun y z c h1 h2=>I.ok.inj y z c (clsub y c h1) (clsub z c h2),fun y hy=>?_,fun y c h=>(by cases h),I.ok.hd,I.ok.frames,.inl rfl,fun b hb=>⟨?_,fun y c h=>?_⟩,I.bs,Nat.le_trans I.ok.bsz I.sz,fun b o e hb=>?_,fun b hb hf=>?_,I.stack,I.stkFree⟩
 ·have:(y,NameKind.free)∈scope.names:=by
   rcases hy with hy|hy
   ·exact of_relabel (env:=X.env) S.cell (.inl rfl) hy
   ·exact of_relabel (env:=X.env) S.cell (.inr rfl) hy
  exact clhas _ this rfl
 ·exact Nat.ne_of_lt (Nat.lt_of_lt_of_le (fin b hb) hL)
 ·exact(f2 b hb).2.2.2.2.1 y c (clsub y c h)
 ·obtain⟨_,_,_,h4,_⟩:=f2 b hb
  rcases h4 with h4|h4
  ·exact I.ok.noex b o e h4
  ·exact absurd (Heap.lt_size (I.ok.bs b o e).1) (Nat.not_lt.mpr h4)
 ·obtain⟨_,h2,h3,_⟩:=f2 b hb
  rcases List.mem_cons.mp (I.stkSub b hf) with e|e
  ·exact h2 e
  ·exact h3 e
theorem comp_inv {X:Cx}{pins:List (Addr × Obj)}{σ:St}{H1:Hp}{s2:Shared}{scope:Scope}{x:Str}{fs:List Str}{is:List Nat}{cl:List (Str × Addr)}{fp:List Addr}{L:Addr}{h1:Heap}{t1:Nat}{m:Str->Option Value}(I:Inv X pins σ H1 s2)(S:CompNames X scope x fs is)
  (clsub:∀ x c,cl.lookup x=some c->X.env.cells.lookup x=some c) (clhas:∀ y∈scope.names,y.2=.free->∃ c,cl.lookup y.1=some c) (f2:∀ b∈fp,FpOk X pins H1 b) (fin:∀ b∈fp,b<s2.heap.objs.size) (hL:s2.heap.objs.size<=L)
  (old:∀ b o,s2.heap.get? b=some o->h1.get? b=some o) (hn:h1.Ns L m):Inv (compCx X (x::fs) scope cl L s2 H1 fp) [] (none::freeV σ is) H1 { s2 with heap:=h1,toks:=t1 }:=by
 refine⟨comp_cxok I S clsub clhas f2 fin hL,rfl,I.bare,Un.kept old,⟨m,hn,fun i y v e1 e2 e3=>?_⟩,fun y c e=>?_,I.hok.fresh hL,fun y c e=>I.freeC y c (clsub y c e),fun p hp=>absurd (show p∈([]:List (Addr × Obj)) from hp) (by simp),I.hok.kept old,?_⟩
 ·cases i with
  | zero=>cases e2
  | succ j =>
   have e1':fs[j]?=some y:=e1
   obtain⟨i,h1',h2'⟩:=of_freeV (show (freeV σ is)[j]?=some (some v) from e2)
   obtain⟨i',h3,h4⟩:=S.at' j y e1'
   rw[h1'] at h3
   cases h3
   have hfr:=S.fsf y (List.mem_of_getElem? e1')
   have hk:=S.free (y,.free) (mem_lookup hfr) rfl
   obtain⟨mm,hm,hl⟩:=I.loc
   have vis:Vis X.env.scope y:=by
    rcases hk with k|k
    ·exact .inr (.inl k)
    ·exact .inr (.inr k)
   obtain⟨u,r,l⟩:=hl i y v h4 h2' vis
   refine⟨u,r,?_⟩
   rcases l with ⟨k,_⟩|⟨_,c,hc,hcell⟩
   ·have k:X.env.kindOf y=some .local:=k
    rcases hk with k' | k' <;>rw[k] at k' <;>cases k'
   ·obtain⟨c',hc'⟩:=clhas (y,.free) (mem_lookup hfr) rfl
    have:=clsub y c' hc'
    rw[hc] at this
    cases this
    obtain⟨oc,hoc,hod⟩:=hcell
    refine .inr ⟨?_,c,hc',oc,old c oc hoc,hod⟩
    exact relabel_free (env:=X.env) hfr
 ·obtain⟨v,oc,hoc,hod⟩:=I.cell y c (clsub y c e)
  exact⟨v,oc,old c oc hoc,hod⟩
 ·show (none::freeV σ is).length=(x::fs).length
  rw[List.length_cons,List.length_cons]
  unfold freeV
  rw[List.length_map,S.len]
end
theorem ext_merge {Hv1 H1 Hvn Hn Hv' H':Hp}(x:Ext Hv1 H1 Hvn Hn)(y:Ext Hv1 Hn Hv' H'):∃ Hvm,Ext Hvn Hn Hvm H'/\Same Hv' Hvm:=by
 refine⟨fun b=>match Hn b with|none=>H' b|some _=>Hvn b,⟨y.hh,fun b o q=>?_,fun b o q=>?_,fun b o q n=>?_,fun b q=>?_,y.nf⟩,fun b o q=>?_⟩
 ·show (match Hn b with|none=>H' b|some _=>Hvn b)=some o
  cases z:Hn b with
  | none=>rw[x.vh b o q] at z; cases z
  | some _=>exact q
 ·have q':(match Hn b with|none=>H' b|some _=>Hvn b)=some o:=q
  cases z:Hn b with
  | none=>rw[z] at q'; exact q'
  | some u=>rw[z] at q'; exact y.hh _ _ (x.vh b o q')
 ·have q':(match Hn b with|none=>H' b|some _=>Hvn b)=some o:=q
  cases z:Hn b with
  | none=>rfl
  | some u=>rw[z] at q'; rw[n] at q'; cases q'
 ·show (match Hn b with|none=>H' b|some _=>Hvn b)=H' b
  rw[q]
 ·show (match Hn b with|none=>H' b|some _=>Hvn b)=some o
  cases z:Hn b with
  | none=>exact y.vh b o q
  | some u =>
   cases z2:Hv1 b with
   | none=>have:=y.new b o q z2; rw[z] at this; cases this
   | some u' =>
    have h1:=y.vv b u' z2
    rw[q] at h1
    cases h1
    exact x.vv b o z2
section
variable {C:Ctx}{elt iter:Expr}{x:Str}{px pos:Pos}{ifs:List Expr}{scope:Scope}{fs:List Str}{is:List Nat}{fi:EI}{fe fc:EE}
theorem Hnew_of {H H':Hp}{b:Addr}{o:HO}(h:Hnew H H' b=some o):H b=none:=by
 unfold Hnew at h
 cases q:H b with
 | none=>rfl
 | some u=>rw[q] at h; cases h
noncomputable def rowsI (xs:List D):Prop:=∀ x∈xs,∃ r:List Int,x=.lst (r.map .int)
structure CompAtN (C:Ctx)(x:Str)(fs:List Str)(is:List Nat)(scope:Scope)(cl:List (Str × Addr))(L Da:Addr)(s2:Shared)(H1 Hv1:Hp)(fp:List Addr)(tn:Nat->Heap->Prop)(σ:St)(ds:List D)(i:Nat)(o:Option V)(vs:List V)(xs:List D)(f1:Bool)(Hn Hvn:Hp)(s:Shared):Prop where
 le:i<=ds.length
 inv:Inv (compCx C.X (x::fs) scope cl L s2 H1 fp) [] (o::freeV σ is) Hn s
 at_:tn i s.heap
 fpn:∀ b∈fp,Hn b=none
 obj:∃ (its:List Value) (ne:Nat),s.heap.get? Da=some { cls:=.type "list",data:=.seq its.toArray ne }/\Vals vs its
 dn:Hn Da=none
 few:vs.length<=i
 ext:Ext Hv1 H1 Hvn Hn
 rp:RpL C.X.K Hvn xs vs
 fr:f1=true->RpL [] (Hnew H1 Hn) xs vs
 nd:f1=true->rowsI xs->vs.Nodup
theorem comp_end {cl:List (Str × Addr)}{L Da:Addr}{s2:Shared}{H1:Hp}{fp:List Addr}{σ:St}{pins:List (Addr × Obj)}{its:List Value}{ne:Nat}{vs:List V}{Hn:Hp}{s1:Shared}{o:Option V}{h':Heap}
  (I2:Inv C.X pins σ H1 s2) (f2:∀ b∈fp,FpOk C.X pins H1 b) (eD:Da=s2.heap.objs.size) (eL:L=s2.heap.objs.size+1)
  (I:Inv (compCx C.X (x::fs) scope cl L s2 H1 fp) [] (o::freeV σ is) Hn s1) (obj:s1.heap.get? Da=some { cls:=.type "list",data:=.seq its.toArray ne }) (rv:Vals vs its) (dn:Hn Da=none) (few:vs.length<=sizeLine)
  (sb:∀ b,b≠L->h'.get? b=s1.heap.get? b):Inv C.X pins σ (upd Hn Da (.lst vs)) { s1 with heap:=h' }:=by
 have lt:∀ b o,s2.heap.get? b=some o->b≠Da/\b≠L:=fun b o e=>by
  have hlt:=Heap.lt_size e
  rw[eD,eL]
  exact⟨Nat.ne_of_lt hlt,Nat.ne_of_lt (Nat.lt_succ_of_lt hlt)⟩
 have hDL:Da≠L:=by rw[eD,eL]; exact Nat.ne_of_lt (Nat.lt_succ_self _)
 have kp:∀ b o,b≠L->s1.heap.get? b=some o->h'.get? b=some o:=fun b o hb e=>(sb b hb).trans e
 refine I2.call' (s':={ s1 with heap:=h' }) (ch:=fp) I.os ⟨fun b ob e n hb hx=>?_,fun b ob e n hb hx=>?_,fun b ob e n hx=>?_,fun b ob e hx=>?_,fun b us e=>?_,fun b ob u e=>?_,fun b ps e=>?_⟩ ?_ I.bare fun b hb=>⟨(f2 b hb).2.2.2.1,(f2 b hb).2.1,(f2 b hb).2.2.2.2.1,(f2 b hb).2.2.2.2.2⟩
 ·exact kp b ob (lt b ob e).2 (I.base.keep b ob e n hb hx)
 ·obtain⟨sl,h1⟩:=I.base.slot b ob e n hb hx
  exact⟨sl,kp b _ (lt b ob e).2 h1⟩
 ·rw[upd_ne (lt b ob e).1]; exact I.base.free b ob e n hx
 ·obtain⟨o',h1⟩:=I.base.there b ob e hx
  exact⟨o',kp b _ (lt b ob e).2 h1⟩
 ·have h1:=I.base.tups b us e
  rw[upd_ne (ne_of_none h1 dn)]; exact h1
 ·have h1:=I.base.frzs b ob u e
  rw[upd_ne (ne_of_none h1 dn)]; exact h1
 ·obtain⟨more,h1⟩:=I.base.tbls b ps e
  exact⟨more,by rw[upd_ne (ne_of_none h1 dn)]; exact h1⟩
 ·exact hok_track (hok_but I.hok I.free kp) dn ⟨few,its,ne,rv,kp Da _ hDL obj⟩
theorem compGo_cons {elt cond:EE}{free:Dv.Env}{d:D}{r:List D}{xs:List D}{f:Bool}(h:Dv.compGo elt cond free (d::r)=.ok xs f) :
  (∃ g x fx xs' f',cond (some d::free)=.ok (.bl true) g/\elt (some d::free)=.ok x fx/\Dv.compGo elt cond free r=.ok xs' f'/\xs=x::xs'/\f=(fx&&f')) \/
  (∃ g,cond (some d::free)=.ok (.bl false) g/\Dv.compGo elt cond free r=.ok xs f):=by
 unfold Dv.compGo at h
 cases hc:cond (some d::free) with
 | bad=>simp only[hc] at h; cases h
 | exc c=>simp only[hc] at h; cases h
 | ok b g =>
  cases b with
  | bl b =>
   cases b with
   | true =>
    simp only[hc] at h
    cases he:elt (some d::free) with
    | bad=>simp only[he] at h; cases h
    | exc c=>simp only[he] at h; cases h
    | ok x fx =>
     simp only[he] at h
     cases hr:Dv.compGo elt cond free r with
     | bad=>simp only[hr] at h; cases h
     | exc c=>simp only[hr] at h; cases h
     | ok xs' f' =>
      simp only[hr] at h
      cases h
      exact .inl ⟨g,x,fx,xs',f',rfl,rfl,rfl,rfl,rfl⟩
   | false=>simp only[hc] at h; exact .inr ⟨g,rfl,h⟩
  | _=>simp only[hc] at h; cases h
noncomputable def CompFin (C:Ctx)(pins:List (Addr × Obj))(σ:St)(Q:VK)(Da L:Addr)(s5:Shared):Prop :=
 (∃ m,s5.heap.Ns L m)/\L≠C.X.env.locals/\(∀ x c,C.X.env.cells.lookup x=some c->c≠L)/\C.X.s₀.heap.objs.size<=L/\(∀ p∈C.X.pn++pins,p.1≠L) /\
  ∃ H',H' L=none/\Q (.ref Da) H'/\∀ h',(∀ b,b≠L->h'.get? b=s5.heap.get? b)->Inv C.X pins σ H' { s5 with heap:=h' }
theorem comp_coreG {Kp:List D->Bool->Prop}{pins:List (Addr × Obj)}{s:Shared}{σ:St}{H Hv:Hp}{ρ:Dv.Env}{Q:VK}{use:Option (Value->Sem Unit)}{Q':Value->Shared->Prop}{pos':Pos}(hclm:C.X.calm=true)(S:CompNames C.X scope x fs is)(hi:SI C (.Name x px) iter fi)(he:∀ cl L s₀ H₀ ex,SE (compCtx C (x::fs) scope cl L s₀ H₀ ex) elt fe)(hc:∀ cl L s₀ H₀ ex,STs (compCtx C (x::fs) scope cl L s₀ H₀ ex) ifs fc)
  (hs:∀ v,foldedSetIterable iter C.X.env v=pure v) (I:Inv C.X pins σ H s) (er:EnvR C.X.K Hv ρ σ) (sv:Same Hv H) (ok:OkI C.X.K Hv H (C.W σ) C.cls (fi ρ) (fun J H1=>∃ Hv1 ds xs fr,Ext Hv H Hv1 H1/\Wlk C.X.K J Hv1 ds/\ds.length<=Dv.mx/\Dv.compGo fe fc (Dv.pick ρ is) ds=.ok xs fr/\Kp xs fr)) (hend:∀ {xs:List D} {fr:Bool} {vs:List V} {Hvn Hn:Hp},Kp xs fr->Ext Hv H Hvn Hn->RpL C.X.K Hvn xs vs->(fr=true->RpL [] (Hnew H Hn) xs vs)->(fr=true->rowsI xs->vs.Nodup)->∀ Da,Hn Da=none->Q (.ref Da) (upd Hn Da (.lst vs)))
  (hfin:∀ Da L s5,CompFin C pins σ Q Da L s5->compPost (model C.X.prog C.X.w) C.X.A C.X.xe use Q' (.ref Da) L (.ok .next) s5) :
  wpAny (model C.X.prog C.X.w) C.X.A (comprehension (.ListComp elt [⟨.Name x px,iter,ifs,0⟩] scope pos) scope C.X.env pos' (newList []) false (eval iter C.X.env) use) Q' C.X.xe s:=by
 obtain⟨wi,pi,qi⟩:=hi
 obtain⟨cl,hcl,clsub,clhas⟩:=closure_of (env:=C.X.env) (scope:=scope) fun y hy hf=>I.ok.has y.1 (S.free y hy hf)
 have h0:=qi σ H Hv ρ _ er sv ok
 refine wpAny_comprehension_free (use:=use) rfl hs hcl S.kind S.names (wpAny_mono (pi pins s σ H _ I h0) (fun v s1 h1=>wpAny_mono h1 (fun itv s2 h2=>?_) fun _ _ z=>z) fun _ _ z=>z)
 obtain⟨it,fp,tn,J,H1,rfl,I2,T,st2,f2,Hv1,ds,xs,fr,x1,wl,hz,hgo,okE⟩:=h2
 clear ok
 have fin:∀ b∈fp,b<s2.heap.objs.size:=fun b hb=>by
  obtain⟨o,e,_⟩:=T.obj 0 _ st2 b hb
  exact Heap.lt_size e
 refine wpAny_newObj_type (wpAny_newFunctionEnv S.cell (by intro y hy; simp at hy) (fun h1 hns hsb=>?_) S.kind)
 dsimp only at hns hsb ⊢
 generalize hH2:s2.heap.push { cls:=.type "list",dict:=none,data:=.seq ([]:List Value).toArray }=G2 at hns hsb ⊢
 have hL:G2.objs.size=s2.heap.objs.size+1:=by rw[<- hH2,Heap.size_push]
 generalize eL:G2.objs.size=L at hns hsb ⊢
 rw[eL] at hL
 have old:∀ b o,s2.heap.get? b=some o->h1.get? b=some o:=fun b o e=>by
  have hlt:=Heap.lt_size e
  exact hsb.extBut b o (by rw[hL]; exact Nat.ne_of_lt (Nat.lt_succ_of_lt hlt)) (Heap.get?_push_of_some _ (hH2▸Heap.get?_push_of_some _ e))
 have hacc:h1.get? s2.heap.objs.size=some { cls:=.type "list",data:=.seq ([]:List Value).toArray 0 }:=hsb.extBut _ _ (by rw[hL]; exact Nat.ne_of_lt (Nat.lt_succ_self _)) (Heap.get?_push_of_some _ (hH2▸Heap.get?_push_size _ rfl))
 generalize eD:s2.heap.objs.size=Da at hacc hL ⊢
 have hDfp:Da∉fp:=fun hb=>by
  have:=fin Da hb
  rw[eD] at this
  exact Nat.lt_irrefl _ this
 have hDL:Da≠L:=by rw[hL]; exact Nat.ne_of_lt (Nat.lt_succ_self _)
 have hsL:s2.heap.objs.size<=L:=by rw[hL,eD]; exact Nat.le_succ _
 have hsD:s2.heap.objs.size<=Da:=Nat.le_of_eq eD
 obtain⟨te,pe,qe⟩:=he cl L s2 H1 fp
 obtain⟨tt,pt,qt⟩:=hc cl L s2 H1 fp
 have hDfs:Da∉frs C.X.stack:=fun hb=>by
  obtain⟨_,ob,hob,_⟩:=I2.stack.mem hb
  have:=Heap.lt_size hob
  rw[eD] at this
  exact Nat.lt_irrefl _ this
 have hcalm:(compCx C.X (x::fs) scope cl L s2 H1 fp).calm=true:=hclm
 have start:CompAtN C x fs is scope cl L Da s2 H1 Hv1 fp tn σ ds 0 none [] [] true H1 Hv1 { s2 with heap:=h1,toks:=s2.toks+([]:List (Str × Value)).length } :=
  ⟨Nat.zero_le _,comp_inv I2 S clsub clhas f2 fin hsL old hns,T.keep 0 _ _ st2 fun b hb o e=>old b o e,fun b hb=>(f2 b hb).1,⟨[],0,hacc,.nil⟩,I2.hok.fresh hsD,Nat.le_refl _,.refl x1.vh,.nil,fun _=>.nil,fun _ _=>List.nodup_nil⟩
 have loop:∀ (T0:Result->Shared->Prop) (s4:Shared),(∀ s',CompFin C pins σ Q Da L s'->T0 (.ok .next) s')->CompAtN C x fs is scope cl L Da s2 H1 Hv1 fp tn σ ds 0 none [] [] true H1 Hv1 s4 ->
   codeAny (model C.X.prog C.X.w) C.X.A (.compLoop (.ListComp elt [⟨.Name x px,iter,ifs,0⟩] scope pos) 0 (.ref it) (.ref Da) (compEnvC scope cl L C.X.env)) T0 s4:=by
  intro T0 s4 hT hst
  refine comp_turns (fun n s=>∃ i o vs xs1 f1 xs2 fr2 Hn Hvn,n=ds.length-i/\CompAtN C x fs is scope cl L Da s2 H1 Hv1 fp tn σ ds i o vs xs1 f1 Hn Hvn s/\Dv.compGo fe fc (Dv.pick ρ is) (ds.drop i)=.ok xs2 fr2/\xs=xs1++xs2/\fr=(f1&&fr2)) ?_ ds.length ⟨0,none,[],[],true,xs,fr,H1,Hv1,rfl,hst,hgo,rfl,by simp⟩
  rintro n s ⟨i,o,vs,xs1,f1,xs2,fr2,Hn,Hvn,rfl,A,hg2,hxs,hfr⟩
  obtain⟨its,ne,hob,rv⟩:=A.obj
  have I1:Inv (compCx C.X (x::fs) scope cl L s2 H1 fp) [(Da,{ cls:=.type "list",data:=.seq its.toArray ne })] (o::freeV σ is) Hn s:=A.inv.pins_of fun p hp=>by
   have e:p=(Da,({ cls:=.type "list",data:=.seq its.toArray ne }:Obj)):=by simpa using hp
   subst e
   exact⟨hob,A.dn,hDL,hDfs,fun v z=>by cases z⟩
  have hfp:∀ Hx:Hp,(∀ b∈fp,Hx b=none)->∀ b∈fp,FpOk (compCx C.X (x::fs) scope cl L s2 H1 fp) [(Da,{ cls:=.type "list",data:=.seq its.toArray ne })] Hx b:=fun Hx hx b hb=>by
   refine⟨hx b hb,?_,fun hf=>?_,.inl hb,fun y c e=>(f2 b hb).2.2.2.2.1 y c (clsub y c e),fun p hp=>?_⟩
   ·have:=fin b hb
    exact fun z=>by
     have z':b=L:=z
     rw[z'] at this
     exact absurd this (Nat.not_lt.mpr hsL)
   ·obtain⟨_,ob,hob',_⟩:=I2.stack.mem hf
    rcases List.mem_cons.mp (I2.stkSub b hf) with e|e
    ·exact(f2 b hb).2.1 e
    ·exact(f2 b hb).2.2.1 e
   ·have e:p=(Da,({ cls:=.type "list",data:=.seq its.toArray ne }:Obj)):=by simpa using (show p∈[]++[(Da,({ cls:=.type "list",data:=.seq its.toArray ne }:Obj))] from hp)
    subst e
    exact fun z=>hDfp (by rw[show Da=b from z]; exact hb)
  obtain⟨w1,w2⟩:=wl i Hn (A.ext.vv.trans A.ext.vh)
  by_cases hlt:i<ds.length
  ·have hd:ds[i]?=some ds[i]:=by simp[hlt]
   have e1:ds.drop i=ds[i]::ds.drop (i+1):=List.drop_eq_getElem_cons hlt
   rw[e1] at hg2
   generalize ds[i]=d at hd e1 hg2
   obtain⟨go,yl⟩:=w1 d hd
   refine wpAny_mono (T.item (compCx C.X (x::fs) scope cl L s2 H1 fp) rfl rfl rfl hcalm i _ s _ Hn (fun _ _=>False) I1 (hfp Hn A.fpn) A.at_ go) (fun r s5 h5=>?_) fun _ _ z=>z
   obtain⟨u,rfl,h5⟩:=h5
   refine wpAny_mono h5 (fun _ s6 h6=>?_) fun _ _ z=>z
   obtain⟨xv,H6,I6,ru,y6,tn6,fr6⟩:=h6
   obtain⟨Hv6,x6,rp6⟩:=yl xv H6 y6
   obtain⟨Hvm,xm,sm⟩:=ext_merge A.ext x6
   have I6p:=I6.pinned (fp:=fp) (hfp H6 fr6) (T.obj _ _ tn6)
   have dn6:H6 Da=none:=(I6.pin (Da,{ cls:=.type "list",data:=.seq its.toArray ne }) (List.mem_append_right _ (by simp))).2.1
   have hg:=pg_name (X:=compCx C.X (x::fs) scope cl L s2 H1 fp) (pos:=px) (i:=0) (x:=x) S.nd rfl (.inl (lookup_relabel_local S.tgt)) (.inr (lookup_relabel_local S.tgt))
   refine wpAny_mono (hg _ s6 _ H6 xv u (fun σ' H'=>σ'=some xv::freeV σ is/\H'=H6) I6p ru ⟨rfl,rfl⟩) (fun _ s7 h7=>?_) fun _ _ z=>z
   obtain⟨σ7,H7,I7,e7,e7'⟩:=h7
   subst e7 e7'
   have er7:EnvR C.X.K Hvm (some d::Dv.pick ρ is) (some xv::freeV σ is):=env_comp (er.same ((x1.vv.trans A.ext.vv).trans xm.vv)) (rp6.same sm)
   have back:∀ {s':Shared} {H':Hp} {σ':St},Inv (compCx C.X (x::fs) scope cl L s2 H1 fp) ([(Da,{ cls:=.type "list",data:=.seq its.toArray ne })]++pinsAt fp s6.heap) σ' H' s'->tn (i+1) s'.heap/\(∀ b∈fp,H' b=none)/\s'.heap.get? Da=some { cls:=.type "list",data:=.seq its.toArray ne }/\H' Da=none:=fun {s' H' σ'} I'=>by
    refine⟨T.keep _ _ _ tn6 fun b hb o e=>(I'.pin (b,o) (List.mem_append_right _ (List.mem_append_right _ (mem_pinsAt hb e)))).1,fun b hb=>?_,?_,?_⟩
    ·obtain⟨o,e,_⟩:=T.obj _ _ tn6 b hb
     exact(I'.pin (b,o) (List.mem_append_right _ (List.mem_append_right _ (mem_pinsAt hb e)))).2.1
    ·exact(I'.pin (Da,{ cls:=.type "list",data:=.seq its.toArray ne }) (List.mem_append_right _ (List.mem_append_left _ (by simp)))).1
    ·exact(I'.pin (Da,{ cls:=.type "list",data:=.seq its.toArray ne }) (List.mem_append_right _ (List.mem_append_left _ (by simp)))).2.1
   rcases compGo_cons hg2 with ⟨g,xd,fx,xs',f',hcond,helt,hrest,exs,ef⟩|⟨g,hcond,hrest⟩
   ·-- the item is taken
    refine wpAny_mono (pt _ s7 _ H7 (fun b H'=>b=true/\∃ Hvq,Ext Hvm H7 Hvq H') I7 (qt _ H7 Hvm (some d::Dv.pick ρ is) _ er7 xm.vh ?_)) (fun okb s8 h8=>?_) fun _ _ z=>z
    ·rw[hcond]
     intro v Hv' H' xx rpb _
     unfold Rp at rpb
     exact⟨true,rpb,rfl,Hv',xx⟩
    obtain⟨H8,I8,rfl,Hv8,x8⟩:=h8
    rw[if_pos rfl]
    refine wpAny_mono (pe _ s8 _ H8 (fun v H'=>∃ Hv',Ext Hv8 H8 Hv' H'/\Rp C.X.K Hv' xd v/\(fx=true->Rp [] (Hnew H8 H') xd v)) I8 (qe _ H8 Hv8 (some d::Dv.pick ρ is) _ (er7.same x8.vv) x8.vh ?_)) (fun uv s9 h9=>?_) fun _ _ z=>z
    ·show Ok C.X.K Hv8 H8 _ C.cls (fe (some d::Dv.pick ρ is)) _
     rw[helt]
     exact fun v Hv' H' xx rpb nn=>⟨Hv',xx,rpb,nn⟩
    obtain⟨v9,H9,I9,r9,Hv9,x9,rp9,n9⟩:=h9
    obtain⟨tn9,fpn9,ob9,dn9⟩:=back I9
    have hlen:=rv.length
    refine call_meets F.slot_list_append ⟨_,ob9,rfl⟩ F.entry_list_append (F.args_list_append_2 _ _) (PySem.list_append Da its.toArray ne uv (by rw[List.size_toArray]; have:=A.few; have:=mx_line hz; omega)) ⟨ob9,?_⟩
    refine⟨ds.length-(i+1),by omega,i+1,some xv,vs++[v9],xs1++[xd],f1&&fx,xs',f',H9,Hv9,rfl,⟨hlt,?_,?_,fpn9,?_,dn9,?_,?_,?_,?_,?_⟩,hrest,by rw[hxs,exs]; simp,by rw[hfr,ef,Bool.and_assoc]⟩
    ·have I9':Inv (compCx C.X (x::fs) scope cl L s2 H1 fp) [] (some xv::freeV σ is) H9 s9:=I9.pins_of fun p hp=>absurd hp (by simp)
     exact I9'.turned (it:=Da) (fun b ob hb e=>(Heap.get?_update_other _ _ (Ne.symm hb)).trans e) dn9 hDL (.inr hsD) (fun y c e z=>by
      obtain⟨w',oc,hoc,_⟩:=I2.cell y c (clsub y c e)
      have:=Heap.lt_size hoc
      rw[z] at this
      exact absurd this (Nat.not_lt.mpr hsD)) (fun p hp=>absurd (show p∈([]:List (Addr × Obj)) from hp) (by simp))
    ·exact T.keep _ _ _ tn9 fun b hb ob e=>(Heap.get?_update_other _ _ (fun z=>hDfp (by rw[z]; exact hb))).trans e
    ·have q:=PySem.IsL.update ob9 (fun a=>a.push uv)
     exact⟨its++[uv],_,by simpa using q,rv.append (.cons r9 .nil)⟩
    ·rw[List.length_append,List.length_singleton]; have:=A.few; omega
    ·exact A.ext.trans (xm.trans (x8.trans x9))
    ·exact(A.rp.same ((xm.vv.trans x8.vv).trans x9.vv)).append (.cons rp9 .nil)
    ·intro z
     rw[Bool.and_eq_true] at z
     refine((A.fr z.1).same (Hnew.mono (.refl _) ((xm.hh.trans x8.hh).trans x9.hh))).append (.cons ((n9 z.2).same (Hnew.mono ((A.ext.hh.trans xm.hh).trans x8.hh) (.refl _))) .nil)
    ·intro z hri
     rw[Bool.and_eq_true] at z
     have nd1:=A.nd z.1 fun y hy=>hri y (List.mem_append_left _ hy)
     obtain⟨r9,hr9⟩:=hri xd (by simp)
     have q9:=n9 z.2
     rw[hr9] at q9
     refine List.nodup_append.mpr ⟨nd1,by simp,fun a ha b hb e=>?_⟩
     rw[List.mem_singleton] at hb
     subst hb e
     unfold Rp at q9
     obtain⟨p9,ws9,e9,h9a,_⟩:=q9
     have h9b:H8 p9=none:=by
      rcases h9a with (h|⟨u,h⟩)|⟨_,_,e,_⟩
      ·exact Hnew_of h
      ·exact Hnew_of h
      ·simp at e
     obtain⟨j,hj,hja⟩:=List.getElem_of_mem ha
     have hrl:=A.fr z.1
     have hlen2:=hrl.length
     have hjx:xs1[j]?=some (xs1[j]'(by omega)):=by simp
     obtain⟨v',hv1,hv2⟩:=hrl.get hjx
     have hv3:vs[j]?=some a:=by rw[List.getElem?_eq_getElem hj,hja]
     rw[hv3] at hv1
     cases hv1
     obtain⟨rj,hrj⟩:=hri (xs1[j]'(by omega)) (by simp)
     rw[hrj,e9] at hv2
     unfold Rp at hv2
     obtain⟨pj,wsj,ej,hja2,_⟩:=hv2
     cases ej
     have hHn:Hn p9≠none:=by
      rcases hja2 with (h|⟨u,h⟩)|⟨_,_,e,_⟩
      ·have:=Hnew.sub _ _ h; rw[this]; exact fun q=>nomatch q
      ·have:=Hnew.sub _ _ h; rw[this]; exact fun q=>nomatch q
      ·simp at e
     cases hq:Hn p9 with
     | none=>exact hHn hq
     | some o =>
      have:=(xm.hh.trans x8.hh) _ _ hq
      rw[h9b] at this
      cases this
   ·-- the item is left out
    refine wpAny_mono (pt _ s7 _ H7 (fun b H'=>b=false/\∃ Hvq,Ext Hvm H7 Hvq H') I7 (qt _ H7 Hvm (some d::Dv.pick ρ is) _ er7 xm.vh ?_)) (fun okb s8 h8=>?_) fun _ _ z=>z
    ·rw[hcond]
     intro v Hv' H' xx rpb _
     unfold Rp at rpb
     exact⟨false,rpb,rfl,Hv',xx⟩
    obtain⟨H8,I8,rfl,Hv8,x8⟩:=h8
    rw[if_neg Bool.false_ne_true]
    obtain⟨tn8,fpn8,ob8,dn8⟩:=back I8
    refine⟨ds.length-(i+1),by omega,i+1,some xv,vs,xs1,f1,xs2,fr2,H8,Hv8,rfl,⟨hlt,I8.pins_of fun p hp=>absurd hp (by simp),tn8,fpn8,⟨its,ne,ob8,rv⟩,dn8,Nat.le_succ_of_le A.few,A.ext.trans (xm.trans x8),A.rp.same (xm.vv.trans x8.vv),fun z=>(A.fr z).same (Hnew.mono (.refl _) (xm.hh.trans x8.hh)),A.nd⟩,hrest,hxs,hfr⟩
  ·have ei:i=ds.length:=Nat.le_antisymm A.le (by omega)
   refine wpAny_mono (T.done (compCx C.X (x::fs) scope cl L s2 H1 fp) rfl rfl rfl hcalm i _ s _ Hn (fun _ _=>False) I1 (hfp Hn A.fpn) A.at_ (w2 ei)) (fun r s5 h5=>?_) fun _ _ z=>z
   obtain⟨rfl,I5⟩:=h5
   refine hT s5 ?_
   obtain⟨m5,hn5,_⟩:=I5.loc
   rw[ei,List.drop_length] at hg2
   cases hg2
   rw[List.append_nil] at hxs
   rw[Bool.and_true] at hfr
   subst hxs hfr
   have ob5:=(I5.pin (Da,{ cls:=.type "list",data:=.seq its.toArray ne }) (List.mem_append_right _ (by simp))).1
   refine⟨⟨m5,hn5⟩,fun z=>absurd I2.lt (by rw[<- z]; exact Nat.not_lt.mpr hsL),fun y c e z=>?_,Nat.le_trans I2.sz hsL,fun p hp z=>?_,upd Hn Da (.lst vs),?_,?_,fun h' sb=>?_⟩
   ·obtain⟨w',oc,hoc,_⟩:=I2.cell y c e
    exact absurd (Heap.lt_size hoc) (by rw[z]; exact Nat.not_lt.mpr hsL)
   ·exact absurd (Heap.lt_size (I2.pin p hp).1) (by rw[z]; exact Nat.not_lt.mpr hsL)
   ·rw[upd_ne (Ne.symm hDL)]; exact A.inv.free
   ·exact hend okE (x1.trans A.ext) A.rp (fun z=>(A.fr z).same (Hnew.mono x1.hh (.refl _))) A.nd Da A.dn
   ·exact comp_end I2 f2 eD.symm (by rw[hL,eD]) (I5.pins_of fun p hp=>absurd hp (by simp)) ob5 rv A.dn (by have:=A.few; have:=A.le; have:=mx_line hz; omega) sb
 refine codeAny_compStart_list (loop _ _ (fun s' h=>hfin Da L s' h) start) ?_
 exact T.self _ 0 _ _ _ start.at_ (loop _ _ (fun s' h=>hfin Da L s' h) start)
theorem comp_core {pins:List (Addr × Obj)}{s:Shared}{σ:St}{H Hv:Hp}{ρ:Dv.Env}{Q:VK}{use:Option (Value->Sem Unit)}{Q':Value->Shared->Prop}{pos':Pos}(hclm:C.X.calm=true)(S:CompNames C.X scope x fs is)(hi:SI C (.Name x px) iter fi)(he:∀ cl L s₀ H₀ ex,SE (compCtx C (x::fs) scope cl L s₀ H₀ ex) elt fe)(hc:∀ cl L s₀ H₀ ex,STs (compCtx C (x::fs) scope cl L s₀ H₀ ex) ifs fc)
  (hs:∀ v,foldedSetIterable iter C.X.env v=pure v) (I:Inv C.X pins σ H s) (er:EnvR C.X.K Hv ρ σ) (sv:Same Hv H) (ok:Ok C.X.K Hv H (C.W σ) C.cls (Dv.eComp fe fc is fi ρ) Q)
  (hfin:∀ Da L s5,CompFin C pins σ Q Da L s5->compPost (model C.X.prog C.X.w) C.X.A C.X.xe use Q' (.ref Da) L (.ok .next) s5) :
  wpAny (model C.X.prog C.X.w) C.X.A (comprehension (.ListComp elt [⟨.Name x px,iter,ifs,0⟩] scope pos) scope C.X.env pos' (newList []) false (eval iter C.X.env) use) Q' C.X.xe s:=by
 refine comp_coreG (Kp:=fun xs fr=>Ok C.X.K Hv H (C.W σ) C.cls (.ok (.lst xs) fr) Q) hclm S hi he hc hs I er sv ?_ (fun k x r n _ Da hd=>Ok.newL k x r n Da hd) hfin
 unfold Dv.eComp at ok
 cases hf:fi ρ with
 | bad=>simp only[hf] at ok; exact ok
 | exc c=>simp only[hf] at ok; exact ok
 | ok ds g =>
  simp only[hf] at ok
  by_cases hz:ds.length<=Dv.mx
  ·simp only[hz,if_true] at ok
   cases hgo:Dv.compGo fe fc (Dv.pick ρ is) ds with
   | bad=>simp only[hgo] at ok; exact(show False from ok).elim
   | exc c=>simp only[hgo] at ok; exact(show False from ok).elim
   | ok xs fr =>
    simp only[hgo] at ok
    exact fun J Hv1 H1 x1 wl=>⟨Hv1,ds,xs,fr,x1,wl,hz,hgo,ok⟩
  ·simp only[hz,if_false] at ok
   exact(show False from ok).elim
theorem se_comp (S:CompNames C.X scope x fs is)(hi:SI C (.Name x px) iter fi)(he:∀ cl L s₀ H₀ ex,SE (compCtx C (x::fs) scope cl L s₀ H₀ ex) elt fe)(hc:∀ cl L s₀ H₀ ex,STs (compCtx C (x::fs) scope cl L s₀ H₀ ex) ifs fc)
  (hs:autoParam (∀ v,foldedSetIterable iter C.X.env v=pure v) Au.h3._auto_1) (hclm:autoParam (C.X.calm=true) Au.h4._auto_1):SE C (.ListComp elt [⟨.Name x px,iter,ifs,0⟩] scope pos) (Dv.eComp fe fc is fi):=by
 refine⟨fun σ H Q=>∃ Hv ρ,EnvR C.X.K Hv ρ σ/\Same Hv H/\Ok C.X.K Hv H (C.W σ) C.cls (Dv.eComp fe fc is fi ρ) Q,?_,fun σ H Hv ρ Q e s q=>⟨Hv,ρ,e,s,q⟩⟩
 intro pins s σ H Q I ⟨Hv,ρ,er,sv,ok⟩
 rw[eval_ListComp]
 refine comp_core (use:=none) hclm S hi he hc hs I er sv ok fun Da L s5 h=>?_
 obtain⟨⟨m,hn⟩,_,_,_,_,H',hL,q,iv⟩:=h
 exact⟨m,hn,fun h' sb=>⟨.ref Da,H',iv h' fun b hb=>sb.2 b hb,rfl,q⟩⟩
theorem ps_setComp {i:Nat}{y:Str}{py spos:Pos}(S:CompNames C.X scope x fs is)(hi:SI C (.Name x px) iter fi)(he:∀ cl L s₀ H₀ ex,SE (compCtx C (x::fs) scope cl L s₀ H₀ ex) elt fe)(hc:∀ cl L s₀ H₀ ex,STs (compCtx C (x::fs) scope cl L s₀ H₀ ex) ifs fc)
  (hN:C.X.N.Nodup) (hy:C.X.N[i]?=some y) (hl:C.X.env.scope.names.lookup y=some .local) (hsw:swapsWith (.ListComp elt [⟨.Name x px,iter,ifs,0⟩] scope pos) (some (.Name y py)) spos.line C.X.env=pure true) (hs:∀ v,foldedSetIterable iter C.X.env v=pure v) (hclm:C.X.calm=true) :
  PS C.X (.Assign [.Name y py] (.ListComp elt [⟨.Name x px,iter,ifs,0⟩] scope pos) spos) (fun E σ H=>∃ Hv ρ,EnvR C.X.K Hv ρ σ/\Same Hv H/\Ok C.X.K Hv H (C.W σ) C.cls (Dv.eComp fe fc is fi ρ) fun v H'=>E.nx (σ.set i (some v)) H'):=by
 intro pins s σ H E I ⟨Hv,ρ,er,sv,ok⟩
 rw[exec_Assign_Name_used _ _ _ _ hsw]
 refine wpAny_bind (wpAny_standAt (wpAny_bind ?_))
 show wpAny _ _ (do let _ <- comprehension (.ListComp elt [⟨.Name x px,iter,ifs,0⟩] scope pos) scope C.X.env _ (newList []) false (eval iter C.X.env) (some (assign (.Name y py) C.X.env))) _ _ s
 refine wpAny_bind (wpAny_mono (comp_core (use:=some (assign (.Name y py) C.X.env)) (Q':=fun _ s'=>∃ σ' H',Inv C.X pins σ' H' s'/\E.nx σ' H') hclm S hi he hc hs I er sv ok fun Da L s5 h=>?_) (fun _ s' hq=>wpAny_pure (wpAny_pure hq)) fun _ _ e=>e)
 obtain⟨⟨m,hn⟩,h1,h2,h3,h4,H',hL,q,iv⟩:=h
 have I5:Inv C.X pins σ H' s5:=iv s5.heap fun b _=>rfl
 show wpAny _ _ (assign (.Name y py) C.X.env (.ref Da)) _ _ s5
 refine wpAny_assign_Name (store_ok2 (v:=.ref Da) I5 hN hy (.inl hl) rfl (fun s6 I6 ⟨a,sb,ha⟩=>?_) (.inr hl))
 have hLa:L≠a:=by
  rcases ha with rfl|ha
  ·exact h1
  ·exact fun z=>h2 y a ha z.symm
 refine⟨m,hn.sameBut sb hLa,fun h' sb'=>⟨_,H',?_,q⟩⟩
 exact I6.turned (t':=s6.toks) (it:=L) (fun b o hb e=>(sb'.2 b hb).trans e) hL h1 (.inr h3) h2 h4
theorem st_setComp {i:Nat}{y:Str}{py spos:Pos}(S:CompNames C.X scope x fs is)(hi:SI C (.Name x px) iter fi)(he:∀ cl L s₀ H₀ ex,SE (compCtx C (x::fs) scope cl L s₀ H₀ ex) elt fe)(hc:∀ cl L s₀ H₀ ex,STs (compCtx C (x::fs) scope cl L s₀ H₀ ex) ifs fc)
  (hN:C.X.N.Nodup) (hy:C.X.N[i]?=some y) (hl:C.X.env.scope.names.lookup y=some .local) (hsw:autoParam (swapsWith (.ListComp elt [⟨.Name x px,iter,ifs,0⟩] scope pos) (some (.Name y py)) spos.line C.X.env=pure true) Au.h4._auto_1) (hs:autoParam (∀ v,foldedSetIterable iter C.X.env v=pure v) Au.h3._auto_1) (hclm:autoParam (C.X.calm=true) Au.h4._auto_1) :
  SSt C (.Assign [.Name y py] (.ListComp elt [⟨.Name x px,iter,ifs,0⟩] scope pos) spos) (Dv.sSet i (Dv.eComp fe fc is fi)) :=
 ⟨_,ps_setComp S hi he hc hN hy hl hsw hs hclm,fun Hv₀ H₀ E σ H st r w=>sSet_ok (f:=Dv.eComp fe fc is fi) (t:=fun σ H Q=>∃ Hv ρ,EnvR C.X.K Hv ρ σ/\Same Hv H/\Ok C.X.K Hv H (C.W σ) C.cls (Dv.eComp fe fc is fi ρ) Q) (fun σ H Hv ρ Q e s q=>⟨Hv,ρ,e,s,q⟩) i r w⟩
end
section
variable {C:Ctx}{a b c e o k:Expr}{es:List Expr}{f g h:EE}{fl:EL}{F G:SS}{pos pos':Pos}{E:Ends}
theorem cutI_eq (n d:Nat)(o:Option Int):Dv.cutI n d o=HT.sIx n d o:=by cases o <;>rfl
theorem RpL.drop {K:PySem.W.Frag}{H:Hp}:∀ {ds:List D} {vs:List V} (n:Nat),RpL K H ds vs->RpL K H (ds.drop n) (vs.drop n)
 | _,_,0,h=>h
 | [],_,n+1,h=>by unfold RpL at h; subst h; exact .nil
 | d::r,vs,n+1,h=>by
  unfold RpL at h
  obtain⟨v,ws,rfl,_,h3⟩:=h
  exact RpL.drop n h3
theorem RpL.take {K:PySem.W.Frag}{H:Hp}:∀ {ds:List D} {vs:List V} (n:Nat),RpL K H ds vs->RpL K H (ds.take n) (vs.take n)
 | _,_,0,_=>.nil
 | [],_,n+1,h=>by unfold RpL at h; subst h; exact .nil
 | d::r,vs,n+1,h=>by
  unfold RpL at h
  obtain⟨v,ws,rfl,h2,h3⟩:=h
  exact .cons h2 (RpL.take n h3)
theorem RpL.cut {K:PySem.W.Frag}{H:Hp}{ds:List D}{vs:List V}(h:RpL K H ds vs)(lo hi:Option Int):RpL K H (Dv.cutL ds lo hi) (cutV vs lo hi):=by
 unfold Dv.cutL cutV
 rw[h.length,cutI_eq,cutI_eq]
 exact(h.drop _).take _
noncomputable def SO (C:Ctx)(e:Option Expr)(f:Option EE):Prop :=
 ∃ t:TO,PO C.X e t/\∀ σ H Hv ρ (Q:VK) (T:Option Int->Hp->Prop) (k:Option Int->R) Hv1 H1,EnvR C.X.K Hv ρ σ->Ext Hv H Hv1 H1->Ok C.X.K Hv H (C.W σ) C.cls (Dv.ePart f ρ k) Q ->
  (∀ i Hv2 H2,Ext Hv H Hv2 H2->Ext Hv1 H1 Hv2 H2->Ok C.X.K Hv H (C.W σ) C.cls (k i) Q->T i H2)->t σ H1 T
theorem so_none:SO C none none:=⟨_,po_none,fun σ H Hv ρ Q T k Hv1 H1 e x q n=>n none Hv1 H1 x (.refl x.vh) q⟩
theorem so_some (he:SE C e f):SO C (some e) (some f):=by
 obtain⟨t,p,q⟩:=he
 refine⟨_,po_some p,fun σ H Hv ρ Q T k Hv1 H1 er x w n=>?_⟩
 refine Tak.step q er x w fun v d fr Hv2 H2 hf x2 y2 rp _ w2=>?_
 cases d with
 | int i =>
  unfold Rp at rp
  exact⟨i,rp,n (some i) Hv2 H2 x2 y2 w2⟩
 | _=>exact(show False from w2).elim
theorem se_slice {lo hi:Option Expr}{fl fh:Option EE}{p2:Pos}(he:SE C e f)(hl:SO C lo fl)(hh:SO C hi fh):SE C (.Subscript e (.Slice lo hi none p2) pos) (Dv.eSlice f fl fh):=by
 obtain⟨t,p,q⟩:=he
 obtain⟨tl,pl,ql⟩:=hl
 obtain⟨th,ph,qh⟩:=hh
 refine⟨_,pe_slice sl_list p pl ph,fun σ H Hv ρ Q er s w=>?_⟩
 refine Tak.step q er (.refl s) w fun v d fr Hv1 H1 _ x1 _ rp1 n1 w1=>?_
 refine ql σ H Hv ρ Q _ _ Hv1 H1 er x1 w1 fun i Hv2 H2 x2 y2 w2=>?_
 refine qh σ H Hv ρ Q _ _ Hv2 H2 er x2 w2 fun j Hv3 H3 x3 y3 w3=>?_
 have y13:=y2.trans y3
 cases d with
 | lst ds =>
  cases fr with
  | true =>
   have rn:=(n1 rfl).same (Hnew.mono (.refl _) y13.hh)
   unfold Rp at rn
   obtain⟨l,vs,rfl,h1,h2⟩:=rn
   have h1':SqX C.X.K H3 l vs:=by
    rcases h1 with h1|⟨its,n,e,_⟩
    ·exact .inl (Rd.same Hnew.sub h1)
    ·simp at e
   exact⟨l,vs,rfl,h1'.seq,fun p hp=>Ok.newL (fr:=true || Dv.flatL (Dv.cutL ds i j)) w3 x3 (((RpL.frag h2).same x3.news).cut i j) (fun _=>h2.cut i j) p hp⟩
  | false =>
   have rp:=rp1.same y13.vv
   unfold Rp at rp
   obtain⟨l,vs,rfl,h1,h2⟩:=rp
   exact⟨l,vs,rfl,(h1.same x3.vh).seq,fun p hp=>Ok.newL (fr:=false || Dv.flatL (Dv.cutL ds i j)) w3 x3 (h2.cut i j) (fun z=>(h2.cut i j).flat (by simpa using z)) p hp⟩
 | _=>exact(show False from w3).elim
noncomputable def C2S (C:Ctx)(fv:Value)(F:D->D->R):Prop :=
 ∃ r,CallR C.X fv r/\∀ x y d d' H Hv H1 Hv1 W Q,Ext Hv H Hv1 H1->Rp C.X.K Hv1 d x->Rp C.X.K Hv1 d' y->Ok C.X.K Hv H W C.cls (F d d') Q->r [x,y] H1 Q
theorem se_b2 {x:Str}{p:Pos}{id:String}{F:D->D->R}(hc:C2S C (.builtin id) F)(hg:Gl C.X x)(hm:C.X.mg x=none)(hv:bootBuiltins x=some (.builtin id))(ha:SE C a f)(hb:SE C b g)
  (hn:autoParam (x≠"__name__") Au.h2._auto_1) (hdb:autoParam ((x == ("__debug__":Str))=false) Au.h2._auto_1) (he:autoParam (starEach [a,b] C.X.env=(false,eval a C.X.env)::starEach [b] C.X.env) Au.h4._auto_1) (he2:autoParam (starEach [b] C.X.env=[(false,eval b C.X.env)]) Au.h4._auto_1):SE C (.Call (.Name x p) [a,b] [] pos) (Dv.eB2 F f g):=by
 obtain⟨r,ho,hr⟩:=hc
 obtain⟨t,pa,qa⟩:=ha
 obtain⟨u,pb,qb⟩:=hb
 refine⟨_,pe_callB ho hg hm hv (pa_cons pa (pa_cons pb pa_nil he2) he) hn hdb he (by rw[he2]; rfl),fun σ H Hv ρ Q e s w=>?_⟩
 exact qa.step e (.refl s) w fun v d fr Hv1 H1 _ x1 _ rp1 _ q1=>qb.step e x1 q1 fun v2 d2 fr2 Hv2 H2 _ x2 y2 rp2 _ q2=>hr v v2 d d2 H Hv H2 Hv2 _ Q x2 (rp1.same y2.vv) rp2 q2
theorem c2_max (hcl:C.X.calm=true):C2S C (.builtin "max") Dv.max2D:=by
 refine⟨_,call_max2 hcl,fun x y d d' H Hv H1 Hv1 W Q e rx ry q=>?_⟩
 cases d with
 | int i =>
  cases d' with
  | int j =>
   unfold Rp at rx ry
   subst rx ry
   exact⟨i,j,rfl,Ok.at (d:=.int (if j > i then j else i)) (fr:=true) q e rp_int rfl⟩
  | _=>exact(show False from q).elim
 | _=>exact(show False from q).elim
theorem c2_min (hcl:C.X.calm=true):C2S C (.builtin "min") Dv.min2D:=by
 refine⟨_,call_min2 hcl,fun x y d d' H Hv H1 Hv1 W Q e rx ry q=>?_⟩
 cases d with
 | int i =>
  cases d' with
  | int j =>
   unfold Rp at rx ry
   subst rx ry
   exact⟨i,j,rfl,Ok.at (d:=.int (if j<i then j else i)) (fr:=true) q e rp_int rfl⟩
  | _=>exact(show False from q).elim
 | _=>exact(show False from q).elim
theorem c1_int:C1S C (.type "int") Dv.intD:=by
 refine⟨_,call_int1,fun x d fr H Hv H1 Hv1 W Q e rx n q=>?_⟩
 cases d with
 | int i =>
  unfold Rp at rx
  subst rx
  exact .inl ⟨i,rfl,Ok.at (d:=.int i) (fr:=true) q e rp_int rfl⟩
 | bl i =>
  unfold Rp at rx
  subst rx
  exact .inr ⟨i,rfl,Ok.at (d:=.int (if i then 1 else 0)) (fr:=true) q e rp_int rfl⟩
 | _=>exact(show False from q).elim
noncomputable def tyD:D->String
 | .non=>"NoneType"
 | .bl _=>"bool"
 | .int _=>"int"
 | .str _=>"str"
 | .lst _=>"list"
 | .tup _=>"tuple"
 | .exn _=>"BaseException"
 | .raw _=>"BaseException"
 | .tab _=>"BaseException"
 | .dct _ _=>"dict"
theorem call_isi {X:Cx}:CallR X (.builtin "isinstance") (fun xs H Q=>∃ x d T b,xs=[x,.ty T]/\Rp X.K H d x/\Dv.noTy d=false/\PySem.W.kitOne X.K (.type (tyD d)) (.type T)=some b/\Q (.bl b) H):=by
 intro pins s σ H xs us Q I r h
 obtain⟨x,d,T,b,rfl,rp,hnx,hk,q⟩:=h
 obtain⟨u,w',rfl,ru,rw'⟩:=vals2 r
 have rw2:w'=Value.type T:=rw'
 subst rw2
 have fin:∀ tk,EP X pins σ Q (.bool b) { s with toks:=tk }:=fun tk=>⟨.bl b,H,I.tok tk,rfl,q⟩
 cases d with
 | non=>unfold Rp at rp; subst rp; cases ru; exact PySem.W.kia_one PySem.W.kitx_none I.kIn True.intro hk (fun z=>nomatch z) fin
 | bl y=>unfold Rp at rp; subst rp; cases ru; exact PySem.W.kia_one PySem.W.kitx_bool I.kIn True.intro hk (fun z=>nomatch z) fin
 | int i=>unfold Rp at rp; subst rp; obtain⟨t,rfl⟩:=ru; exact PySem.W.kia_one PySem.W.kitx_int I.kIn True.intro hk (fun z=>nomatch z) fin
 | str y=>unfold Rp at rp; subst rp; obtain⟨t,rfl⟩:=ru; exact PySem.W.kia_one PySem.W.kitx_str I.kIn True.intro hk (fun z=>nomatch z) fin
 | lst ds =>
  unfold Rp at rp
  obtain⟨l,vs,rfl,h1,h2⟩:=rp
  cases ru
  obtain⟨its,n,rv,e,_⟩:=Inv.listX I h1
  exact PySem.W.kia_one PySem.W.kitx_list I.kIn ⟨_,e,rfl⟩ hk (fun z=>nomatch z) fin
 | tup ds =>
  unfold Rp at rp
  obtain⟨l,vs,rfl,h1,h2⟩:=rp
  cases ru
  obtain⟨_,its,rv,ob,e,hc,n,hd⟩:=h1.ok I.hok
  exact PySem.W.kia_one PySem.W.kitx_tuple I.kIn ⟨ob,e,hc⟩ hk (fun z=>nomatch z) fin
 | exn c=>exact absurd hnx (by simp[Dv.noTy])
 | raw c=>exact absurd hnx (by simp[Dv.noTy])
 | tab c=>exact absurd hnx (by simp[Dv.noTy])
 | dct ks ds =>
  unfold Rp at rp
  obtain⟨l,vs,rfl,h0,h1,h2⟩:=rp
  cases ru
  exact PySem.W.kia_one PySem.W.kitx_dict I.kIn (isD_at I (.inl ⟨_,h1⟩)).1 hk (fun z=>nomatch z) fin
theorem se_isi {x:Str}{T:String}{p p2:Pos}{F:D->Bool->R}(β:D->Bool)(hF:∀ d fr,Dv.noTy d=false->F d fr=.ok (.bl (β d)) true)(hX:∀ d fr,Dv.noTy d=true->F d fr=.bad)(hβ:∀ K d,PySem.W.kitOne K (.type (tyD d)) (.type T)=some (β d))(hg:Gl C.X "isinstance")(hm:C.X.mg "isinstance"=none)(hgx:Gl C.X x)(hmx:C.X.mg x=none)
  (hvx:bootBuiltins x=some (.type T)) (ha:SE C a f) (hn:autoParam (x≠"__name__") Au.h2._auto_1) (hdb:autoParam ((x == ("__debug__":Str))=false) Au.h2._auto_1) (he:autoParam (starEach [a,.Name x p2] C.X.env=(false,eval a C.X.env)::starEach [.Name x p2] C.X.env) Au.h4._auto_1)
  (he2:autoParam (starEach [.Name x p2] C.X.env=[(false,eval (.Name x p2) C.X.env)]) Au.h4._auto_1):SE C (.Call (.Name "isinstance" p) [a,.Name x p2] [] pos) (Dv.eB1 F f):=by
 obtain⟨t,pa,qa⟩:=ha
 refine⟨_,pe_callB call_isi hg hm (by decide +kernel) (pa_cons pa (pa_cons (pe_bltn (v:=.ty T) hgx hmx hvx rfl hn hdb) pa_nil he2) he) (by decide) (by decide) he (by rw[he2]; rfl),fun σ H Hv ρ Q e s w=>?_⟩
 refine qa.step e (.refl s) w fun v d fr Hv1 H1 _ x1 _ rp1 _ q1=>?_
 by_cases hd:Dv.noTy d=true
 ·rw[hX d fr hd] at q1
  exact q1.elim
 ·have hd':Dv.noTy d=false:=by simpa using hd
  rw[hF d fr hd'] at q1
  exact⟨v,d,T,β d,rfl,rp1.same x1.vh,hd',hβ _ d,q1.at x1 rp_bl rfl⟩
noncomputable def bInt:D->Bool
 | .int _=>true
 | .bl _=>true
 | _=>false
noncomputable def bBool:D->Bool
 | .bl _=>true
 | _=>false
noncomputable def bList:D->Bool
 | .lst _=>true
 | _=>false
theorem kit_int (K:PySem.W.Frag)(d:D):PySem.W.kitOne K (.type (tyD d)) (.type "int")=some (bInt d):=by cases d <;>rfl
theorem kit_bool (K:PySem.W.Frag)(d:D):PySem.W.kitOne K (.type (tyD d)) (.type "bool")=some (bBool d):=by cases d <;>rfl
theorem kit_list (K:PySem.W.Frag)(d:D):PySem.W.kitOne K (.type (tyD d)) (.type "list")=some (bList d):=by cases d <;>rfl
theorem isIntD_eq (d:D)(fr:Bool)(h:Dv.noTy d=false):Dv.isIntD d fr=.ok (.bl (bInt d)) true:=by cases d <;>first|rfl|exact absurd h (by simp[Dv.noTy])
theorem isBoolD_eq (d:D)(fr:Bool)(h:Dv.noTy d=false):Dv.isBoolD d fr=.ok (.bl (bBool d)) true:=by cases d <;>first|rfl|exact absurd h (by simp[Dv.noTy])
theorem isListD_eq (d:D)(fr:Bool)(h:Dv.noTy d=false):Dv.isListD d fr=.ok (.bl (bList d)) true:=by cases d <;>first|rfl|exact absurd h (by simp[Dv.noTy])
theorem get_listN {X:Cx}:PGet X (fun x y H Q=>∃ p xs i v,x=.ref p/\y=.int i/\0<=i/\SqL X.K H p xs/\atI xs i=some v/\Q v H):=by
 intro pins s σ H o i ov iv Q I ro ri h
 obtain⟨p,xs,k,v,rfl,rfl,h0,hq,he,q⟩:=h
 cases ro
 obtain⟨t,rfl⟩:=ri
 obtain⟨its,r,pl,hz⟩:=I.list hq
 obtain⟨j,h1,h2,h3,h4,h5⟩:=atI_get he
 obtain⟨w,ew,rw'⟩:=r.get h2
 have hn:=line63
 have hj:k.toNat=j:=by
  rw[seqIndex_of h0 h5] at h1
  exact Option.some.inj h1
 exact wpAny_getItem_list pl.isList h0 (by omega) (by rw[hj]; simpa using ew) ⟨v,H,I,rw',q⟩
theorem st_put {i:Nat}{x:Str}{px kpos:Pos}(he:SE C e f)(hk:SE C k g)(hN:autoParam (C.X.N[i]?=some x) Au.h4._auto_1)(hv:autoParam (Vis C.X.env.scope x) Au.h7._auto_1)
    (hd:autoParam ((x == ("__debug__":Str))=false) Au.h2._auto_1) (hcd:autoParam ((x == ("__classdict__":Str))=false) Au.h2._auto_1)
    (ha:autoParam (∀ v,assign (.Subscript (.Name x px) k kpos) C.X.env v=(do
      let ov <- holding [v] (eval (.Name x px) C.X.env)
      let iv <- holding [v,ov] (eval k C.X.env)
      standAt kpos
      holding [v,ov,iv] (setItem ov iv v)
      release [v,ov,iv] [])) Au.h3._auto_1)
    (hs:autoParam (swapsWithSole [.Subscript (.Name x px) k kpos] e pos.line C.X.env=pure false) Au.h4._auto_1) (hw:autoParam (swappedStores [.Subscript (.Name x px) k kpos] e C.X.env=pure none) Au.h4._auto_1)
    (h1:autoParam ((assignEach [.Subscript (.Name x px) k kpos] C.X.env).map (·.2)=[assign (.Subscript (.Name x px) k kpos) C.X.env]) Au.h4._auto_1):SSt C (.Assign [.Subscript (.Name x px) k kpos] e pos) (Dv.sPut i g f):=by
  obtain⟨t,p,q⟩:=he
  obtain⟨t2,p2,q2⟩:=hk
  refine⟨_,ps_asg p (pg_sub (pe_var hN hv hd hcd) p2 set_list ha) hs hw h1,fun Hv₀ H₀ E σ H st ⟨Hc,O,r⟩ w=>?_⟩
  unfold Dv.sPut at w
  cases hi:st[i]? with
  | none=>rw[hi] at w; exact(show False from w).elim
  | some s =>
    rw[hi] at w
    cases s with
    | no=>exact(show False from w).elim
    | sh d=>exact(show False from w).elim
    | dp d=>exact(show False from w).elim
    | jk n m=>exact(show False from w).elim
    | ow d0 =>
     cases d0 with
     | non=>exact(show False from w).elim
     | bl _=>exact(show False from w).elim
     | int _=>exact(show False from w).elim
     | str _=>exact(show False from w).elim
     | tup _=>exact(show False from w).elim
     | exn _=>exact(show False from w).elim
     | raw _=>exact(show False from w).elim
     | tab _=>exact(show False from w).elim
     | dct _ _=>exact(show False from w).elim
     | lst ds =>
      obtain⟨a,vs,h1,h2,h5⟩:=r.own hi
      refine q.all r (fun c hf H' r'=>?_) (fun hf=>?_) fun d fr v Hv' H' hf x r' rp n=>?_
      · simp only[hf] at w; exact w σ H' ⟨Hc,O,r'⟩
      · simp only[hf] at w; exact w
      · simp only[hf] at w
        refine⟨_,h1,?_⟩
        refine q2.all r' (fun c hg H2 r2=>?_) (fun hg=>?_) fun d2 fr2 v2 Hv2 H2 hg x2 r2 rp2 n2=>?_
        · simp only[hg] at w; exact w σ H2 ⟨Hc,O,r2⟩
        · simp only[hg] at w; exact w
        · simp only[hg] at w
          cases d2 with
          | int j =>
            unfold Rp at rp2
            by_cases z:(Dv.scal d&&decide (0<=j)&&decide (j<ds.length))=true
            · simp only[z,if_true] at w
              simp only[Bool.and_eq_true,decide_eq_true_eq] at z
              have hl:=h5.length
              obtain⟨O',r3⟩:=r2.put hi h1 (h5.set (rp.scal z.1.1) j.toNat)
              refine⟨a,vs,j,j.toNat,rfl,rp2,x2.hh _ _ (x.hh _ _ h2),?_,w σ _ ⟨Hc,O',r3⟩⟩
              unfold ixN
              rw[if_pos z.1.2,if_pos (by rw[hl]; exact z.2)]
            · simp only[z] at w
              exact(show False from w).elim
          | _=>exact(show False from w).elim
noncomputable def SGs (C:Ctx)(ts:List Expr)(xs:List Nat):Prop :=
 ∃ t:TGs,PGs C.X ts t/\∀ Hv₀ H₀ Hc O H σ s ds vs T,RelC C.X.K Hv₀ H₀ Hc O s σ H->RpL C.X.K Hc ds vs->ds.length=xs.length->(∀ σ',RelC C.X.K Hv₀ H₀ Hc O (Dv.setAll xs ds s) σ' H->T σ' H)->t vs σ H T
theorem gs_nil:SGs C [] []:=⟨_,pgs_nil,fun Hv₀ H₀ Hc O H σ s ds vs T r rp hl h=>by
 cases ds with
 | nil=>unfold RpL at rp; exact⟨rp,h σ r⟩
 | cons d ds=>cases hl⟩
theorem gs_cons {i:Nat}{x:Str}{ts:List Expr}{xs:List Nat}(hs:SGs C ts xs)(hN:C.X.N.Nodup)(hi:C.X.N[i]?=some x)(hx:Loc C.X.env.scope x)(hf:autoParam (C.X.fn x=true\/C.X.env.scope.names.lookup x=some .local) Au.h1._auto_1)
  (ha:autoParam ((assignEach (.Name x pos::ts) C.X.env).map (·.2)=assign (.Name x pos) C.X.env::(assignEach ts C.X.env).map (·.2)) Au.h4._auto_1):SGs C (.Name x pos::ts) (i::xs):=by
 obtain⟨t,p,q⟩:=hs
 refine⟨_,pgs_cons (pg_name hN hi hx hf) p ha,fun Hv₀ H₀ Hc O H σ s ds vs T r rp hl h=>?_⟩
 cases ds with
 | nil=>cases hl
 | cons d ds =>
  unfold RpL at rp
  obtain⟨v,ws,rfl,h1,h2⟩:=rp
  exact⟨v,ws,rfl,q Hv₀ H₀ Hc O H _ _ ds ws T (r.setSh h1) h2 (by simpa using hl) h⟩
theorem st_unpack (is:List Nat){ts:List Expr}{xs:List Nat}{kt:Nat}{tpos:Pos}(he:SE C e f)(hg:SGs C ts xs)(hl:ts.length=xs.length)(hn:autoParam ((assignEach ts C.X.env).length=ts.length) Au.h4._auto_1)(hst:autoParam ((assignEach ts C.X.env).findIdx? (·.1)=none) Au.h4._auto_1)
  (hs:autoParam (swapsWithSole [.Tuple ts kt tpos] e pos.line C.X.env=pure false) Au.h4._auto_1) (hw:autoParam (swappedStores [.Tuple ts kt tpos] e C.X.env=pure none) Au.h4._auto_1) (h1:autoParam ((assignEach [.Tuple ts kt tpos] C.X.env).map (·.2)=[assign (.Tuple ts kt tpos) C.X.env]) Au.h4._auto_1) (hcl:autoParam (C.X.calm=true) Au.h4._auto_1) :
  SSt C (.Assign [.Tuple ts kt tpos] e pos) (Dv.sUnpack is xs f):=by
 obtain⟨t,p,q⟩:=he
 obtain⟨g,pg,qg⟩:=hg
 refine⟨_,ps_asg p (pg_tup hcl pg hn hst) hs hw h1,fun Hv₀ H₀ E σ H st ⟨Hc0,O0,r0⟩ w=>?_⟩
 obtain⟨Hc,O,_,r⟩:=r0.give is
 unfold Dv.sUnpack at w
 refine q.open r (fun c hf Hc' H' x=>?_) (fun hf=>?_) fun d fr v Hc' H' hf x r' rp=>?_
 ·simp only[hf] at w; exact w σ H' ⟨Hc0,O0,r0.grow x.hh x.nf⟩
 ·simp only[hf] at w; exact w
 ·simp only[hf] at w
  cases d with
  | tup ds =>
   by_cases hz:ds.length=xs.length
   ·simp only[hz,if_true] at w
    unfold Rp at rp
    obtain⟨a,vs,rfl,h2,h3⟩:=rp
    exact⟨a,vs,rfl,.inl (Rd.same x.vh h2),by rw[h3.length,hz,hl],qg Hv₀ H₀ Hc' O H' σ _ ds vs _ r' h3 hz fun σ' r2=>w σ' H' ⟨Hc',O,r2⟩⟩
   ·simp only[hz,if_false] at w; exact(show False from w).elim
  | _=>exact(show False from w).elim
theorem st_par (is:List Nat){i j:Nat}{x y:Str}{px py pt:Pos}{kt k2:Nat}{pt2:Pos}(ha:SE C a f)(hb:SE C b g)(hN:C.X.N.Nodup)(hi:C.X.N[i]?=some x)(hj:C.X.N[j]?=some y)(hij:i≠j)
  (hx:C.X.env.scope.names.lookup x=some .local) (hy:C.X.env.scope.names.lookup y=some .local) (hw:autoParam (swappedStores [.Tuple [.Name x px,.Name y py] kt pt] (.Tuple [a,b] k2 pt2) C.X.env=pure (some [x,y])) Au.h4._auto_1)
  (hs:autoParam (swapsWithSole [.Tuple [.Name x px,.Name y py] kt pt] (.Tuple [a,b] k2 pt2) pos.line C.X.env=pure false) Au.h4._auto_1) (he:autoParam (starEach [a,b] C.X.env=(false,eval a C.X.env)::starEach [b] C.X.env) Au.h4._auto_1) (he2:autoParam (starEach [b] C.X.env=[(false,eval b C.X.env)]) Au.h4._auto_1) (hcl:autoParam (C.X.calm=true) Au.h4._auto_1) :
  SSt C (.Assign [.Tuple [.Name x px,.Name y py] kt pt] (.Tuple [a,b] k2 pt2) pos) (Dv.sPar is i j f g):=by
 obtain⟨t,p,q⟩:=ha
 obtain⟨u,p2,q2⟩:=hb
 refine⟨_,ps_par hcl hN hi hj hij hx hy (pa_cons p (pa_cons p2 pa_nil he2) he) hw hs,fun Hv₀ H₀ E σ H st ⟨Hc0,O0,r0⟩ w=>?_⟩
 obtain⟨Hc,O,_,r⟩:=r0.give is
 unfold Dv.sPar at w
 refine q.open r (fun c hf Hc' H' x=>?_) (fun hf=>?_) fun d fr v Hc' H' hf x r' rp=>?_
 ·simp only[hf] at w; exact w σ H' ⟨Hc0,O0,r0.grow x.hh x.nf⟩
 ·simp only[hf] at w; exact w
 ·simp only[hf] at w
  refine q2.open r' (fun c hg Hc2 H2 x2=>?_) (fun hg=>?_) fun d2 fr2 v2 Hc2 H2 hg x2 r2 rp2=>?_
  ·simp only[hg] at w
   have xx:=x.trans x2
   exact w σ H2 ⟨Hc0,O0,r0.grow xx.hh xx.nf⟩
  ·simp only[hg] at w; exact w
  ·simp only[hg] at w
   exact⟨v,v2,rfl,w _ H2 ⟨Hc2,O,(r2.setSh (rp.same x2.vv)).setSh rp2⟩⟩
end
noncomputable def ItZ (K:PySem.W.Frag)(l1 l2:Addr):It :=
  ⟨fun i H=>∃ (xs ys:List V) (x y:V),SqL K H l1 xs/\SqL K H l2 ys/\xs[i]?=some x/\ys[i]?=some y,
   fun i H v H'=>∃ p,H p=none/\v=.ref p/\∀ xs ys,SqL K H l1 xs->SqL K H l2 ys->∃ x y,xs[i]?=some x/\ys[i]?=some y/\H'=upd H p (.tup [x,y]),
   fun i H=>∃ xs ys,SqL K H l1 xs/\SqL K H l2 ys/\(xs.length<=i\/ys.length<=i)⟩
theorem Inv.but {X:Cx}{pins:List (Addr × Obj)}{σ:St}{H:Hp}{s:Shared}{ch:List Addr}{h':Heap}(I:Inv X pins σ H s)(hf:∀ b∈ch,FpOk X pins H b)(k:∀ b o,b∉ch->s.heap.get? b=some o->h'.get? b=some o):Inv X pins σ H { s with heap:=h' }:=by
 have nch:∀ b u,H b=some u->b∉ch:=fun b u e hb=>by rw[(hf b hb).1] at e; cases e
 refine I.step (g':=s.gens) (d':=s.drawn) (t':=s.toks) (ch:=ch) (fun b hb=>⟨(hf b hb).2.2.2.1,(hf b hb).2.1,(hf b hb).2.2.2.2.1,(hf b hb).2.2.2.2.2⟩) (fun b o _ _ hc e _=>k b o hc e) (fun b o _ _ hc e _=>⟨o.slots,k b o hc e⟩) (fun _ _ _ _ n=>n)
  (fun b o hc e=>⟨o,k b o hc e⟩) (fun _ _ e=>e) (fun _ _ _ e=>e) (fun b ps e=>⟨#[],by rw[e]; simp⟩) (fun m hm=>?_) (fun b u e=>?_) I.bare
 ·obtain⟨o,es,ep,ho,r⟩:=hm
  exact⟨o,es,ep,k _ _ (fun hb=>(hf _ hb).2.1 rfl) ho,r⟩
 ·refine(I.hok b u e).stay (fun c v hc q=>k c v ?_ q) (fun c q=>q) fun c xs q=>q
  rcases hc with rfl|hc
  ·exact nch _ u e
  ·exact nch _ _ hc
theorem turn_zip {P:Program}{w:World}{K:PySem.W.Frag}{es:List Expr}{kt:Nat}{tpos:Pos}{z TI TO i1 i2 l1 l2:Addr}(Dz:ZipApart z TI TO i1 i2 l1 l2) :
  Turn P w K (.Tuple es kt tpos) (ItZ K l1 l2) [z,TI,TO,i1,i2] z (fun i h=>IsZip h z TI TO .none/\IsPair h TI (.ref i1) (.ref i2)/\(∃ a b,IsPair h TO a b)/\h.IsListIter i1 l1 i/\h.IsListIter i2 l2 i) where
 mem:=by simp
 obj:=fun i h ⟨a1,a2,⟨_,_,a3⟩,⟨o4,e4,_,d4⟩,⟨o5,e5,_,d5⟩⟩ b hb=>by
  simp only[List.mem_cons,List.not_mem_nil,or_false] at hb
  rcases hb with rfl|rfl|rfl|rfl|rfl
  ·exact⟨_,a1,fun v q=>by cases q⟩
  ·exact⟨_,a2,fun v q=>by cases q⟩
  ·exact⟨_,a3,fun v q=>by cases q⟩
  ·exact⟨_,e4,fun v q=>by rw[d4] at q; cases q⟩
  ·exact⟨_,e5,fun v q=>by rw[d5] at q; cases q⟩
 keep:=fun i h h' ⟨a1,a2,⟨x,y,a3⟩,a4,a5⟩ k=>⟨k z (by simp) _ a1,k TI (by simp) _ a2,⟨x,y,k TO (by simp) _ a3⟩,a4.at fun o e=>k i1 (by simp) o e,a5.at fun o e=>k i2 (by simp) o e⟩
 item:=by
  intro X hP hw hK hc i pins s σ H E I hf ⟨a1,a2,⟨xa,xb,a3⟩,a4,a5⟩ hg
  subst hP hw hK
  obtain⟨xs,ys,x,y,hq1,hq2,hx,hy⟩:=hg
  obtain⟨its1,r1,p1,z1⟩:=I.list hq1
  obtain⟨its2,r2,p2,z2⟩:=I.list hq2
  obtain⟨u1,e1,ru1⟩:=r1.get hx
  obtain⟨u2,e2,ru2⟩:=r2.get hy
  refine wpAny_pyNext_zip_item Dz a1 a2 a3 a4 a5 p1.isList p2.isList (x:=u1) (y:=u2) (by simpa using e1) (by simpa using e2) fun h' b1 b2 b3 b4 b5 b6 kk=>?_
  refine⟨_,rfl,wpAny_letOwnedTupleGo_zip b1 fun h2 hz sb=>?_⟩
  have hf0:H s.heap.objs.size=none:=I.hok.fresh (Nat.le_refl _)
  have ltz:s.heap.objs.size≠z:=Nat.ne_of_gt (Heap.lt_size a1)
  have kept:∀ b o,b∉[z,TI,TO,i1,i2]->s.heap.get? b=some o->h2.get? b=some o:=fun b o hb e=>by
   simp only[List.mem_cons,List.not_mem_nil,or_false,not_or] at hb
   exact(sb.2 b hb.1).trans (kk b o hb.1 hb.2.2.1 hb.2.2.2.1 hb.2.2.2.2 e)
  have I2:Inv X pins σ H { s with heap:=h2 }:=Inv.but I hf kept
  have tp:IsTup h2 s.heap.objs.size #[u1,u2]:=⟨_,(sb.2 _ ltz).trans b5,rfl,_,rfl⟩
  have I3:Inv X pins σ (upd H s.heap.objs.size (.tup [x,y])) { s with heap:=h2 }:=by
   have hk2:HOk X.prog X.w (upd H s.heap.objs.size (.tup [x,y])) h2:=hok_track I2.hok hf0 ⟨by show 2<=sizeLine; decide,[u1,u2],.cons ru1 (.cons ru2 .nil),tp⟩
   have nsz:∀ b o,s.heap.get? b=some o->b≠s.heap.objs.size:=fun b o e=>Nat.ne_of_lt (Heap.lt_size e)
   refine I.step (g':=s.gens) (d':=s.drawn) (t':=s.toks) (ch:=[z,TI,TO,i1,i2]) (fun b hb=>⟨(hf b hb).2.2.2.1,(hf b hb).2.1,(hf b hb).2.2.2.2.1,(hf b hb).2.2.2.2.2⟩) (fun b o _ _ hc e _=>kept b o hc e) (fun b o _ _ hc e _=>⟨o.slots,kept b o hc e⟩) (fun b o _ e n=>by rw[upd_ne (nsz b o e)]; exact n)
    (fun b o hc e=>⟨o,kept b o hc e⟩) (fun b us e=>by rw[upd_ne (ne_of_none e hf0)]; exact e) (fun b ob us e=>by rw[upd_ne (ne_of_none e hf0)]; exact e) (fun b ps e=>⟨#[],by rw[upd_ne (ne_of_none e hf0),e]; simp⟩) (fun m hm=>?_) hk2 I.bare
   obtain⟨o,es,ep,ho,r⟩:=hm
   exact⟨o,es,ep,kept _ _ (fun hb=>(hf _ hb).2.1 rfl) ho,r⟩
  have c4:h2.IsListIter i1 l1 (i+1):=b3.extBut sb.extBut Dz.i1z
  have c5:h2.IsListIter i2 l2 (i+1):=b4.extBut sb.extBut Dz.i2z
  refine⟨.ref s.heap.objs.size,_,I3,rfl,⟨s.heap.objs.size,hf0,rfl,fun as bs h1 h2'=>?_⟩,⟨hz,?_,⟨u1,u2,(sb.2 TO Dz.TOz).trans b2⟩,c4,c5⟩,fun b hb=>?_⟩
  ·exact⟨x,y,by rw[I.list_inj h1 hq1]; exact hx,by rw[I.list_inj h2' hq2]; exact hy,rfl⟩
  ·exact(sb.2 TI Dz.TIz).trans (kk TI _ Dz.TIz Dz.TITO Dz.TIi1 Dz.TIi2 a2)
  ·have hbs:b≠s.heap.objs.size:=by
    simp only[List.mem_cons,List.not_mem_nil,or_false] at hb
    rcases hb with rfl|rfl|rfl|rfl|rfl
    ·exact Nat.ne_of_lt (Heap.lt_size a1)
    ·exact Nat.ne_of_lt (Heap.lt_size a2)
    ·exact Nat.ne_of_lt (Heap.lt_size a3)
    ·obtain⟨o,e,_⟩:=a4; exact Nat.ne_of_lt (Heap.lt_size e)
    ·obtain⟨o,e,_⟩:=a5; exact Nat.ne_of_lt (Heap.lt_size e)
   rw[upd_ne hbs]
   exact(hf b hb).1
 done:=by
  intro X hP hw hK hc i pins s σ H E I hf ⟨a1,a2,⟨xa,xb,a3⟩,a4,a5⟩ hg
  subst hP hw hK
  obtain⟨xs,ys,hq1,hq2,hx⟩:=hg
  obtain⟨its1,r1,p1,z1⟩:=I.list hq1
  obtain⟨its2,r2,p2,z2⟩:=I.list hq2
  have n1:=r1.length
  have n2:=r2.length
  refine wpAny_pyNext_zip_end (I.ok.hd hc) Dz a1 a2 a3 a4 a5 p1.isList p2.isList (by
   rcases hx with hx|hx
   ·left; simp; omega
   ·right; simp; omega) fun h' kk=>⟨rfl,Inv.but I hf fun b o hb e=>?_⟩
  simp only[List.mem_cons,List.not_mem_nil,or_false,not_or] at hb
  exact kk b o hb.1 hb.2.2.1 hb.2.2.2.1 hb.2.2.2.2 e
 self:=fun _ _ _ _ _ st h=>wpAny_pyIter_zip st.1 h
noncomputable def iZipR (K:PySem.W.Frag)(ta:TA):TI:=fun σ H T=>ta σ H fun vs H1=>∃ l1 l2 xs ys,vs=[.ref l1,.ref l2]/\SqL K H1 l1 xs/\SqL K H1 l2 ys/\T (ItZ K l1 l2) H1
theorem pi_zip {X:Cx}{a b:Expr}{ta:TA}{es:List Expr}{kt:Nat}{tpos p pos:Pos}(hg:Gl X "zip")(hm:X.mg "zip"=none)(ha:PA X [a,b] ta)(hs:starEach [a,b] X.env=[(false,eval a X.env),(false,eval b X.env)])(hs2:starEach [b] X.env=[(false,eval b X.env)]) :
  PI X (.Tuple es kt tpos) (.Call (.Name "zip" p) [a,b] [] pos) (iZipR X.K ta):=by
 intro pins s σ H R I h
 refine Call_ (ld_blt I hg hm (by decide +kernel:bootBuiltins "zip"=some (.type "zip")) (PyProof.Rows.callWith_type1 (thn (ha pos pins s σ H _ I h) fun us s1 ⟨vs,H1,I1,r1,q1⟩=>?_) (by rw[hs,hs2]) (by rw[hs2]; rfl)))
 obtain⟨l1,l2,xs,ys,rfl,hq1,hq2,q⟩:=q1
 obtain⟨u1,u2,rfl,e1,e2⟩:=vals2 r1
 cases e1
 cases e2
 obtain⟨its1,rr1,p1,z1⟩:=I1.list hq1
 obtain⟨its2,rr2,p2,z2⟩:=I1.list hq2
 refine call_zip_2 p1.isList p2.isList fun h' c1 c2 c3 c4 c5 c6 kk=>?_
 have lt1:l1<s1.heap.objs.size:=by obtain⟨o,e,_⟩:=p1.isList; exact Heap.lt_size e
 have lt2:l2<s1.heap.objs.size:=by obtain⟨o,e,_⟩:=p2.isList; exact Heap.lt_size e
 have I2:Inv X pins σ H1 { s1 with heap:=h' }:=I1.kept (t':=s1.toks) kk
 generalize hN:s1.heap.objs.size=N at c1 c2 c3 c4 c5 c6 lt1 lt2 ⊢
 have Dz:ZipApart (N+4) (N+2) (N+3) N (N+1) l1 l2:=by
  have far:∀ {l:Addr},l<N->∀ k:Nat,l≠N+k:=fun h k=>Nat.ne_of_lt (Nat.lt_of_lt_of_le h (Nat.le_add_right _ _))
  have ne:∀ {a b:Nat},a<b->a≠b:=fun h=>Nat.ne_of_lt h
  have ne':∀ {a b:Nat},b<a->a≠b:=fun h=>Nat.ne_of_gt h
  exact⟨ne (by omega),ne (by omega),ne (by omega),ne (by omega),ne (by omega),ne' (by omega),ne' (by omega),ne' (by omega),ne' (by omega),ne (by omega),far lt1 4,far lt1 3,Nat.ne_of_lt lt1,far lt1 1,far lt2 4,far lt2 3,Nat.ne_of_lt lt2,far lt2 1⟩
 refine wpAny_pyIter_zip c1 ⟨N+4,[N+4,N+2,N+3,N,N+1],_,_,H1,rfl,I2,turn_zip Dz,⟨c1,c2,⟨_,_,c3⟩,c4,c5⟩,fun b hb=>?_,q⟩
 have hb':s1.heap.objs.size<=b:=by
  rw[hN]
  simp only[List.mem_cons,List.not_mem_nil,or_false] at hb
  rcases hb with rfl|rfl|rfl|rfl|rfl
  ·exact Nat.le_add_right _ _
  ·exact Nat.le_add_right _ _
  ·exact Nat.le_add_right _ _
  ·exact Nat.le_refl _
  ·exact Nat.le_add_right _ _
 exact I1.fpOk hb' (I1.hok.fresh hb')
theorem zip_get {xs ys:List D}{i:Nat}{d:D}(h:(List.zipWith (fun x y=>D.tup [x,y]) xs ys)[i]?=some d):∃ x y,xs[i]?=some x/\ys[i]?=some y/\d=.tup [x,y]:=by
 rw[List.getElem?_zipWith] at h
 cases h1:xs[i]? with
 | none=>rw[h1] at h; cases h
 | some x =>
  cases h2:ys[i]? with
  | none=>rw[h1,h2] at h; cases h
  | some y=>rw[h1,h2] at h; cases h; exact⟨x,y,rfl,rfl,rfl⟩
theorem si_zip {C:Ctx}{a b:Expr}{f g:EE}{es:List Expr}{kt:Nat}{tpos p pos:Pos}(hg:Gl C.X "zip")(hm:C.X.mg "zip"=none)(ha:SE C a f)(hb:SE C b g)(hs:autoParam (starEach [a,b] C.X.env=[(false,eval a C.X.env),(false,eval b C.X.env)]) Au.h4._auto_1)(hs2:autoParam (starEach [b] C.X.env=[(false,eval b C.X.env)]) Au.h4._auto_1) :
  SI C (.Tuple es kt tpos) (.Call (.Name "zip" p) [a,b] [] pos) (Dv.iZip f g):=by
 obtain⟨t,pe,q⟩:=ha
 obtain⟨t2,pe2,q2⟩:=hb
 refine⟨_,pi_zip hg hm (pa_cons pe (pa_cons pe2 pa_nil hs2) (by rw[hs,hs2])) hs hs2,fun σ H Hv ρ T er s w=>?_⟩
 refine q σ H Hv ρ _ er s ?_
 unfold Dv.iZip at w
 cases hf:f ρ with
 | bad=>rw[hf] at w; exact w
 | exc c=>rw[hf] at w; exact w
 | ok d fr =>
  rw[hf] at w
  intro v Hv' H' x rp n
  cases d with
  | lst xs =>
   refine q2 σ H' Hv' ρ _ (er.same x.vv) x.vh ?_
   cases hg':g ρ with
   | bad=>simp only[hg'] at w; exact w
   | exc c=>simp only[hg'] at w; exact fun Hv2 H2 y=>w Hv2 H2 (x.trans y)
   | ok d2 fr2 =>
    simp only[hg'] at w
    intro v2 Hv2 H2 y rp2 n2
    cases d2 with
    | lst ys =>
     have rp1:=rp.same y.vv
     unfold Rp at rp1 rp2
     obtain⟨l1,vs,rfl,h1,h2⟩:=rp1
     obtain⟨l2,ws,rfl,h3,h4⟩:=rp2
     refine⟨l1,l2,vs,ws,rfl,(h1.same y.vh).seq,(h3.same y.vh).seq,w _ Hv2 H2 (x.trans y) fun i H3 s3=>⟨fun d hd=>?_,fun hi=>?_⟩⟩
     ·obtain⟨dx,dy,g1,g2,rfl⟩:=zip_get hd
      obtain⟨vx,k1,k2⟩:=h2.get g1
      obtain⟨vy,k3,k4⟩:=h4.get g2
      refine⟨⟨vs,ws,vx,vy,(h1.same s3).seq,(h3.same s3).seq,k1,k3⟩,fun u H4 ⟨p,hp,e1,hh⟩=>?_⟩
      obtain⟨x',y',m1,m2,rfl⟩:=hh vs ws (h1.same s3).seq (h3.same s3).seq
      rw[k1] at m1
      rw[k3] at m2
      cases m1
      cases m2
      subst e1
      have nx:=Ext.new1 s3 hp (.tup [vx,vy])
      refine⟨_,nx,?_⟩
      unfold Rp
      exact⟨p,_,rfl,.inl upd_same,.cons (k2.same nx.vv) (.cons (k4.same nx.vv) .nil)⟩
     ·refine⟨vs,ws,(h1.same s3).seq,(h3.same s3).seq,?_⟩
      rw[h2.length,h4.length]
      rw[List.length_zipWith] at hi
      omega
    | _=>exact(show False from w).elim
  | _=>exact(show False from w).elim
theorem sg_tup {C:Ctx}{ts:List Expr}{xs:List Nat}{kt:Nat}{tpos:Pos}(hg:SGs C ts xs)(hl:ts.length=xs.length)(hn:autoParam ((assignEach ts C.X.env).length=ts.length) Au.h4._auto_1)(hst:autoParam ((assignEach ts C.X.env).findIdx? (·.1)=none) Au.h4._auto_1)(hcl:autoParam (C.X.calm=true) Au.h4._auto_1) :
  SG C (.Tuple ts kt tpos) (Dv.tupTo xs):=by
 obtain⟨g,pg,qg⟩:=hg
 refine⟨_,pg_tup hcl pg hn hst,fun Hv₀ H₀ Hc O H σ s s' d v T r rp e h=>?_⟩
 unfold Dv.tupTo at e
 cases d with
 | tup ds =>
  by_cases hz:ds.length=xs.length
  ·simp only[hz,if_true] at e
   cases e
   unfold Rp at rp
   obtain⟨a,vs,rfl,h2,h3⟩:=rp
   exact⟨a,vs,rfl,.inl (Rd.same r.ch h2),by rw[h3.length,hz,hl],qg Hv₀ H₀ Hc O H σ s ds vs _ r h3 hz h⟩
  ·simp only[hz,if_false] at e
   cases e
 | _=>cases e
section
variable {C:Ctx}{a b c e k:Expr}{f g h:EE}{pos pos':Pos}
theorem new_lst {H H' Hv Hv':Hp}{es:List D}{v:V}(x:Ext Hv H Hv' H')(rn:Rp [] (Hnew H H') (.lst es) v):∃ b zs,v=.ref b/\H' b=some (.lst zs)/\H b=none/\RpL [] (Hnew H H') es zs:=by
 unfold Rp at rn
 obtain⟨a,vs,rfl,h1,h2⟩:=rn
 have h1':Hnew H H' a=some (.lst vs):=by
  rcases h1 with (h1|⟨o,h1⟩)|⟨its,m,e,_⟩
  ·exact h1
  ·exfalso
   have hn:H a=none:=by
    unfold Hnew at h1
    cases q:H a with
    | none=>rfl
    | some u=>rw[q] at h1; cases h1
   exact x.nf a o _ hn (Hnew.sub a _ h1)
  ·simp at e
 have hn:H a=none:=by
  unfold Hnew at h1'
  cases q:H a with
  | none=>rfl
  | some u=>rw[q] at h1'; cases h1'
 exact⟨a,vs,rfl,Hnew.sub a _ h1',hn,h2⟩
theorem st_ext {i:Nat}{x:Str}{apos cpos:Pos}{px:Pos}(he:SE C e f)(hN:autoParam (C.X.N[i]?=some x) Au.h4._auto_1)(hv:autoParam (Vis C.X.env.scope x) Au.h7._auto_1)
    (hd:autoParam ((x == ("__debug__":Str))=false) Au.h2._auto_1) (hcd:autoParam ((x == ("__classdict__":Str))=false) Au.h2._auto_1) (hst:autoParam (starEach [e] C.X.env=[(false,eval e C.X.env)]) Au.h4._auto_1)
    (hbase:autoParam (attributeBase (.Name x px) "extend" C.X.env (eval (.Name x px) C.X.env)=eval (.Name x px) C.X.env) Au.h4._auto_1)
    (hfew:autoParam (((backTo cpos (starEach [e] C.X.env)).all (fun x=>!x.1)&&(backToKw cpos (keywordEach [] C.X.env)).all (fun x=>x.1.isSome)
      && decide ([e].length+([]:List Keyword).length+(if ([]:List Keyword).isEmpty then 0 else 1)<30))=true) Au.h4._auto_1)
    (hline:autoParam ((apos.endLine == cpos.line)=true) Au.h4._auto_1)
    (hs:autoParam (swapsWith (.Call (.Attribute (.Name x px) "extend" apos) [e] [] cpos) none pos.line C.X.env=pure false) Au.h4._auto_1) :
    SSt C (.Expr (.Call (.Attribute (.Name x px) "extend" apos) [e] [] cpos) pos) (Dv.sExt i f):=by
  obtain⟨t,p,q⟩:=he
  refine⟨_,ps_expr (pe_bm PySem.F.plainAttrs_list PySem.F.slot_list_extend PySem.F.type_list_extend mt_extend (pe_var hN hv hd hcd) (pa_cons p pa_nil hst) hbase hfew hline hst rfl) hs,fun Hv₀ H₀ E σ H st ⟨Hc,O,r⟩ w=>?_⟩
  unfold Dv.sExt at w
  cases hi:st[i]? with
  | none=>rw[hi] at w; exact(show False from w).elim
  | some s =>
    rw[hi] at w
    cases s with
    | no=>exact(show False from w).elim
    | sh d=>exact(show False from w).elim
    | dp d=>exact(show False from w).elim
    | jk n m=>exact(show False from w).elim
    | ow d0 =>
     cases d0 with
     | non=>exact(show False from w).elim
     | bl _=>exact(show False from w).elim
     | int _=>exact(show False from w).elim
     | str _=>exact(show False from w).elim
     | tup _=>exact(show False from w).elim
     | exn _=>exact(show False from w).elim
     | raw _=>exact(show False from w).elim
     | tab _=>exact(show False from w).elim
     | dct _ _=>exact(show False from w).elim
     | lst ds =>
      obtain⟨a,vs,h1,h2,h5⟩:=r.own hi
      refine⟨_,h1,.inl ⟨rfl,vs,SqL.of h2⟩,?_⟩
      refine q.all r (fun c hf H' r'=>?_) (fun hf=>?_) fun d fr v Hv' H' hf x r' rp n=>?_
      · simp only[hf] at w; exact w σ H' ⟨Hc,O,r'⟩
      · simp only[hf] at w; exact w
      · cases d with
        | lst es =>
          simp only[hf] at w
          by_cases z:(fr&&Dv.flatL es&&decide (ds.length+es.length<=Dv.mx))=true
          · simp only[z,if_true] at w
            rw[Bool.and_eq_true,Bool.and_eq_true,decide_eq_true_eq] at z
            obtain⟨b,zs,rfl,hb,_,rl⟩:=new_lst x (n z.1.1)
            obtain⟨O',r2⟩:=r'.put hi h1 (h5.append (rl.flat z.1.2))
            refine⟨a,b,vs,zs,rfl,rfl,x.hh _ _ h2,hb,?_,w σ _ ⟨Hc,O',r2⟩⟩
            have e1:=h5.length
            have e2:=rl.length
            have:=mx_line z.2
            omega
          · simp only[z] at w
            exact(show False from w).elim
        | _=>simp only[hf] at w; exact(show False from w).elim
end
section
variable {C:Ctx}{a b c e:Expr}{f g h:EE}{pos:Pos}
theorem se_add (ha:SE C a f)(hb:SE C b g):SE C (.BinOp a .Add b pos) (Dv.eOp .add f g):=se_op2 os_add ha hb
theorem se_sub (ha:SE C a f)(hb:SE C b g):SE C (.BinOp a .Sub b pos) (Dv.eOp .sub f g):=se_op2 os_sub ha hb
theorem se_mul (ha:SE C a f)(hb:SE C b g):SE C (.BinOp a .Mult b pos) (Dv.eOp .mul f g):=se_op2 os_mul ha hb
theorem se_mod (ha:SE C a f)(hb:SE C b g):SE C (.BinOp a .Mod b pos) (Dv.eOp .mod f g):=se_op2 os_mod ha hb
theorem se_fdiv (ha:SE C a f)(hb:SE C b g):SE C (.BinOp a .FloorDiv b pos) (Dv.eOp .fdiv f g):=se_op2 os_fdiv ha hb
theorem se_pow (ha:SE C a f)(hb:SE C b g):SE C (.BinOp a .Pow b pos) (Dv.eOp .pow f g):=se_op2 os_pow ha hb
theorem se_eq (ha:SE C a f)(hb:SE C b g):SE C (.Compare a [.Eq] [b] pos) (Dv.eCm .eq f g):=se_cm2 os_eq ha hb (nomark _)
theorem se_in (ha:SE C a f)(hb:SE C b g)(hm:autoParam (behindInMarks .In b=false) Au.h9._auto_1):SE C (.Compare a [.In] [b] pos) (Dv.eCm .isin f g):=se_cm2 os_in ha hb hm
theorem sc_lt (ha:SE C a f)(hb:SE C b g):SC C (.Compare a [.Lt] [b] pos) (Dv.eCm .lt f g):=sc_cm2 os_lt ha hb (nomark _)
theorem sc_le (ha:SE C a f)(hb:SE C b g):SC C (.Compare a [.LtE] [b] pos) (Dv.eCm .le f g):=sc_cm2 os_le ha hb (nomark _)
theorem sc_gt (ha:SE C a f)(hb:SE C b g):SC C (.Compare a [.Gt] [b] pos) (Dv.eCm .gt f g):=sc_cm2 os_gt ha hb (nomark _)
theorem sc_ge (ha:SE C a f)(hb:SE C b g):SC C (.Compare a [.GtE] [b] pos) (Dv.eCm .ge f g):=sc_cm2 os_ge ha hb (nomark _)
theorem sc_eq (ha:SE C a f)(hb:SE C b g):SC C (.Compare a [.Eq] [b] pos) (Dv.eCm .eq f g):=sc_cm2 os_eq ha hb (nomark _)
theorem sc_ne (ha:SE C a f)(hb:SE C b g):SC C (.Compare a [.NotEq] [b] pos) (Dv.eCm .ne f g):=sc_cm2 os_ne ha hb (nomark _)
theorem sc_in (ha:SE C a f)(hb:SE C b g)(hm:autoParam (behindInMarks .In b=false) Au.h9._auto_1):SC C (.Compare a [.In] [b] pos) (Dv.eCm .isin f g):=sc_cm2 os_in ha hb hm
theorem sc_notin (ha:SE C a f)(hb:SE C b g)(hm:autoParam (behindInMarks .NotIn b=false) Au.h9._auto_1):SC C (.Compare a [.NotIn] [b] pos) (Dv.eCm .notin f g):=sc_cm2 os_notin ha hb hm
theorem se_num {x:Str}{i:Int}{t:Tok}(hg:Gl C.X x)(hm:C.X.mg x=some (.int i t))(hd:autoParam ((x == ("__debug__":Str))=false) Au.h2._auto_1):SE C (.Name x pos) (Dv.eInt i) :=
 ⟨_,pe_glob (v:=.int i) hg hm ⟨t,rfl⟩ hd,fun _ _ _ _ _ _ s q=>q.now (v:=.int i) s rp_int rfl⟩
theorem se_len {p:Pos}(hm:C.X.mg "len"=none)(hg:Gl C.X "len")(ha:SE C a f)(he:autoParam (starEach [a] C.X.env=[(false,eval a C.X.env)]) Au.h4._auto_1):SE C (.Call (.Name "len" p) [a] [] pos) (Dv.eB1 Dv.lenD f):=se_b1 c1_len hg hm PySem.boot_len ha (by decide) (by decide) he
theorem se_sorted {p:Pos}(hm:C.X.mg "sorted"=none)(hg:Gl C.X "sorted")(ha:SE C a f)(he:autoParam (starEach [a] C.X.env=[(false,eval a C.X.env)]) Au.h4._auto_1):SE C (.Call (.Name "sorted" p) [a] [] pos) (Dv.eB1 Dv.sortedD f):=se_b1 c1_sorted hg hm PyProof.Rows.boot_sorted ha (by decide) (by decide) he
theorem se_list {p:Pos}(hm:C.X.mg "list"=none)(hg:Gl C.X "list")(ha:SE C a f)(he:autoParam (starEach [a] C.X.env=[(false,eval a C.X.env)]) Au.h4._auto_1):SE C (.Call (.Name "list" p) [a] [] pos) (Dv.eB1 Dv.listD f):=se_t1 c1_list hg hm (by decide +kernel) ha (by decide) (by decide) he
theorem se_int1 {p:Pos}(hm:C.X.mg "int"=none)(hg:Gl C.X "int")(ha:SE C a f)(he:autoParam (starEach [a] C.X.env=[(false,eval a C.X.env)]) Au.h4._auto_1):SE C (.Call (.Name "int" p) [a] [] pos) (Dv.eB1 Dv.intD f):=se_t1 c1_int hg hm (by decide +kernel) ha (by decide) (by decide) he
theorem se_max2 {p:Pos}(hm:C.X.mg "max"=none)(hg:Gl C.X "max")(ha:SE C a f)(hb:SE C b g)(he:autoParam (starEach [a,b] C.X.env=(false,eval a C.X.env)::starEach [b] C.X.env) Au.h4._auto_1)(he2:autoParam (starEach [b] C.X.env=[(false,eval b C.X.env)]) Au.h4._auto_1)(hcl:autoParam (C.X.calm=true) Au.h4._auto_1):SE C (.Call (.Name "max" p) [a,b] [] pos) (Dv.eB2 Dv.max2D f g):=se_b2 (c2_max hcl) hg hm (by decide +kernel) ha hb (by decide) (by decide) he he2
theorem se_min2 {p:Pos}(hm:C.X.mg "min"=none)(hg:Gl C.X "min")(ha:SE C a f)(hb:SE C b g)(he:autoParam (starEach [a,b] C.X.env=(false,eval a C.X.env)::starEach [b] C.X.env) Au.h4._auto_1)(he2:autoParam (starEach [b] C.X.env=[(false,eval b C.X.env)]) Au.h4._auto_1)(hcl:autoParam (C.X.calm=true) Au.h4._auto_1):SE C (.Call (.Name "min" p) [a,b] [] pos) (Dv.eB2 Dv.min2D f g):=se_b2 (c2_min hcl) hg hm (by decide +kernel) ha hb (by decide) (by decide) he he2
theorem se_isInt {p p2:Pos}(hm:C.X.mg "isinstance"=none)(hmx:C.X.mg "int"=none)(hg:Gl C.X "isinstance")(hgx:Gl C.X "int")(ha:SE C a f)(he:autoParam (starEach [a,.Name "int" p2] C.X.env=(false,eval a C.X.env)::starEach [.Name "int" p2] C.X.env) Au.h4._auto_1)
  (he2:autoParam (starEach [.Name "int" p2] C.X.env=[(false,eval (.Name "int" p2) C.X.env)]) Au.h4._auto_1):SE C (.Call (.Name "isinstance" p) [a,.Name "int" p2] [] pos) (Dv.eB1 Dv.isIntD f):=se_isi _ isIntD_eq (fun d fr h=>by cases d <;>first|rfl|exact absurd h (by simp[Dv.noTy])) kit_int hg hm hgx hmx (by decide +kernel) ha (by decide) (by decide) he he2
theorem se_isBool {p p2:Pos}(hm:C.X.mg "isinstance"=none)(hmx:C.X.mg "bool"=none)(hg:Gl C.X "isinstance")(hgx:Gl C.X "bool")(ha:SE C a f)(he:autoParam (starEach [a,.Name "bool" p2] C.X.env=(false,eval a C.X.env)::starEach [.Name "bool" p2] C.X.env) Au.h4._auto_1)
  (he2:autoParam (starEach [.Name "bool" p2] C.X.env=[(false,eval (.Name "bool" p2) C.X.env)]) Au.h4._auto_1):SE C (.Call (.Name "isinstance" p) [a,.Name "bool" p2] [] pos) (Dv.eB1 Dv.isBoolD f):=se_isi _ isBoolD_eq (fun d fr h=>by cases d <;>first|rfl|exact absurd h (by simp[Dv.noTy])) kit_bool hg hm hgx hmx (by decide +kernel) ha (by decide) (by decide) he he2
theorem se_isList {p p2:Pos}(hm:C.X.mg "isinstance"=none)(hmx:C.X.mg "list"=none)(hg:Gl C.X "isinstance")(hgx:Gl C.X "list")(ha:SE C a f)(he:autoParam (starEach [a,.Name "list" p2] C.X.env=(false,eval a C.X.env)::starEach [.Name "list" p2] C.X.env) Au.h4._auto_1)
  (he2:autoParam (starEach [.Name "list" p2] C.X.env=[(false,eval (.Name "list" p2) C.X.env)]) Au.h4._auto_1):SE C (.Call (.Name "isinstance" p) [a,.Name "list" p2] [] pos) (Dv.eB1 Dv.isListD f):=se_isi _ isListD_eq (fun d fr h=>by cases d <;>first|rfl|exact absurd h (by simp[Dv.noTy])) kit_list hg hm hgx hmx (by decide +kernel) ha (by decide) (by decide) he he2
end
structure Df (K:PySem.W.Frag)(mg:Str->Option Value)(x:Str)(st:Stmt)(ps:List Str)(f:Addr)(fd:FuncData):Prop where
 m:mg x=some (.ref f)
 kp:PySem.W.keepIn K (.ref f)=true
 ex:∃ (oc:Value) (od:Option Addr) (dV kV doc pm:Value) (an:Option Addr) (cdv ct:Value) (osl:Array (Option Value)),
  fd=PySem.W.fnOf x x (defArgs st) (defBody st) (defScope st) dV kV doc pm an cdv ct/\K.lookup f=some ⟨oc,od,.func fd,osl⟩/\PySem.W.codeIn K cdv x=true
 bd:Binds K fd ps []
section
variable {P:Program}{w:World}{K:PySem.W.Frag}{mg:Str->Option Value}{base:Heap}{CX:CXT}{cls:String->Value}
theorem Df.ok (hC:CXok P w CX){x:Str}{st:Stmt}{f:Addr}{fd:FuncData}{N ps:List Str}{k:Nat}{body:SS}(d:Df K mg x st ps f fd)(S:FnScope N ps (defScope st))
  (hbody:∀ (cdv:Value) (A:Around) (outer:List PySem.Env) (s:Shared) (H:Hp) (E:XK) (hr:Room k (A.deeper (envOfC x (defScope st) s.heap.objs.size f cdv))),SSs (ctxOf hC cls K mg base N x (defScope st) f cdv A outer s H E hr) (defBody st) body) :
  FnOk P w K mg base CX (k+1) f fd ps (spD K cls (Dv.fn N.length body) ps.length):=by
 obtain⟨oc,od,dV,kV,doc,pm,an,cdv,ct,osl,rfl,lk,hcd⟩:=d.ex
 exact fn_ok hC cls oc od dV kV doc pm an cdv ct osl lk hcd S (hbody cdv)
theorem df_mk {x:Str}{st:Stmt}{ps:List Str}{f:Addr}{oc:Value}{od an:Option Addr}{osl:Array (Option Value)}{dV kV doc pm cdv ct:Value}(m:mg x=some (.ref f))(l:K.lookup f=some ⟨oc,od,.func (PySem.W.fnOf x x (defArgs st) (defBody st) (defScope st) dV kV doc pm an cdv ct),osl⟩)
  (c:PySem.W.codeIn K cdv x=true) (k:PySem.W.keepIn K (.ref f)=true)
  (h:∀ (kV doc pm:Value) (an:Option Addr) (cdv ct:Value) (us:List Value),us.length=ps.length->bindArgs (PySem.W.fnOf x x (defArgs st) (defBody st) (defScope st) dV kV doc pm an cdv ct) ⟨us,[]⟩=pure (ps.zip us)) :
  Df K mg x st ps f (PySem.W.fnOf x x (defArgs st) (defBody st) (defScope st) dV kV doc pm an cdv ct):=⟨m,k,⟨oc,od,dV,kV,doc,pm,an,cdv,ct,osl,rfl,l,c⟩,.all (h kV doc pm an cdv ct)⟩
end
theorem se_fn {C:Ctx}{e:Expr}{es:List Expr}{fl:EL}{k j:Nat}{fa:Addr}{fd:FuncData}{st:Stmt}{ps:List Str}{Fm:List D->R}{x:Str}{p pos:Pos}(d:Df C.X.K C.X.mg x st ps fa fd)(Fn:FnOk C.X.prog C.X.w C.X.K C.X.mg C.X.base C.CX j fa fd ps (spD C.X.K C.cls Fm ps.length))(hr:Room k C.X.A)(hj:j<=k)
  (hg:Gl C.X x) (ha:SL C (e::es) fl) (hlen:autoParam ((e::es).length=ps.length) Au.h4._auto_1) (hdb:autoParam ((x == ("__debug__":Str))=false) Au.h2._auto_1) (he:autoParam (starEach (e::es) C.X.env=(false,eval e C.X.env)::starEach es C.X.env) Au.h4._auto_1) (hpl:autoParam ((backTo pos (starEach es C.X.env)).any (·.1)=false) Au.h4._auto_1) :
  SE C (.Call (.Name x p) (e::es) [] pos) (Dv.eCall Fm fl):=by
 have q:=se_call (pos:=pos) (p:=p) (dds:=[]) (dvs:=[]) (dus:=[]) Fn hr hj hg d.m d.kp d.bd .nil (fun _ _=>.nil) ha (by simpa using hlen) hdb he hpl
 have e1:(fun ds=>Fm (ds++[]))=Fm:=by funext ds; rw[List.append_nil]
 rw[e1] at q
 exact q
noncomputable def compOk (fsc:Scope)(N:List Str)(scope:Scope)(x:Str)(fs:List Str)(is:List Nat):Bool :=
 scope.kind == .function&&scope.names.all (fun y=>!(y.2 == .cell))&&scope.names.all (fun y=>!(y.2 == .local) || scope.names.lookup y.1 == some .local)&&scope.names.lookup x == some .local&&decide (x::fs).Nodup &&
 scope.names.all (fun y=>!(y.2 == .free) || (fsc.names.lookup y.1 == some .cell || fsc.names.lookup y.1 == some .free))&&fs.all (fun y=>scope.names.lookup y == some .free)&&is.length == fs.length&&(fs.zip is).all (fun p=>N[p.2]? == some p.1)
theorem comp_names {X:Cx}{fsc:Scope}{N:List Str}{scope:Scope}{x:Str}{fs:List Str}{is:List Nat}(h1:X.env.scope=fsc)(h2:X.N=N)(h:compOk fsc N scope x fs is=true):CompNames X scope x fs is:=by
 subst h1 h2
 unfold compOk at h
 simp only[Bool.and_eq_true] at h
 obtain⟨⟨⟨⟨⟨⟨⟨⟨a1,a2⟩,a3⟩,a4⟩,a5⟩,a6⟩,a7⟩,a8⟩,a9⟩:=h
 refine⟨by simpa using a1,fun y hy=>?_,fun y hy hl=>?_,by simpa using a4,by simpa using a5,fun y hy hf=>?_,fun y hy=>?_,by simpa using a8,fun j y hj=>?_⟩
 ·have:=List.all_eq_true.mp a2 y hy
  simpa using this
 ·have:=List.all_eq_true.mp a3 y hy
  simpa[hl] using this
 ·have:=List.all_eq_true.mp a6 y hy
  show X.env.scope.names.lookup y.1=some .cell\/X.env.scope.names.lookup y.1=some .free
  simpa[hf] using this
 ·have:=List.all_eq_true.mp a7 y hy
  simpa using this
 ·have hl:is.length=fs.length:=by simpa using a8
  have hjl:j<fs.length:=(List.getElem?_eq_some_iff.mp hj).1
  refine⟨is[j]'(by omega),by simp,?_⟩
  have hm:(y,is[j]'(by omega))∈fs.zip is:=by
   have e1:fs[j]=y:=(List.getElem?_eq_some_iff.mp hj).2
   have:(fs.zip is)[j]'(by rw[List.length_zip]; omega)=(y,is[j]'(by omega)):=by rw[List.getElem_zip,e1]
   rw[<- this]
   exact List.getElem_mem _
  have:=List.all_eq_true.mp a9 _ hm
  simpa using this
theorem Df.is {P:Program}{w:World}{K:PySem.W.Frag}{mg:Str->Option Value}{base:Heap}{CX:CXT}{cls:String->Value}(hC:CXok P w CX){x:Str}{st:Stmt}{f:Addr}{fd:FuncData}{ps:List Str}{F:List D->R}{m j:Nat}(N:List Str)(k:Nat)(body:SS)(d:Df K mg x st ps f fd)(S:FnScope N ps (defScope st))
  (hj:j=k+1) (hm:m=ps.length) (hF:F=Dv.fn N.length body)
  (hbody:∀ (cdv:Value) (A:Around) (outer:List PySem.Env) (s:Shared) (H:Hp) (E:XK) (hr:Room k (A.deeper (envOfC x (defScope st) s.heap.objs.size f cdv))),SSs (ctxOf hC cls K mg base N x (defScope st) f cdv A outer s H E hr) (defBody st) body) :
  FnOk P w K mg base CX j f fd ps (spD K cls F m):=by
 subst hj hm hF
 exact d.ok hC S hbody
structure Fly (P:Program)(w:World)(outer:List PySem.Env)(H:Hp)(s:Shared)(a:Addr)(cls:Value)(H':Hp)(B:Heap)(t:Addr)(s':Shared):Prop where
 os:s'.os=s.os
 bare:AllBare s'.gens
 fl:Heap.FlyingW B outer a cls (.ref t) s'.heap
 keepB:∀ b o,s.heap.get? b=some o->H b=none->b∉frs outer->B.get? b=some o
 thereB:∀ b o,s.heap.get? b=some o->b∉frs outer->∃ o',B.get? b=some o'
 slot:∀ b o,s.heap.get? b=some o->H b=none->b∈frs outer->∃ sl,s'.heap.get? b=some { o with slots:=sl }
 free:∀ b o,s.heap.get? b=some o->H b=none->H' b=none
 tups:∀ b xs,H b=some (.tup xs)->H' b=some (.tup xs)
 frzs:∀ b o u,H b=some (.frz o u)->H' b=some (.frz o u)
 tbls:∀ b ps,H b=some (.tbl ps)->∃ more,H' b=some (.tbl (ps++more))
 hokB:HOk P w H' B
noncomputable def CXe (P:Program)(w:World):CXT:=fun outer H s E e s'=>∃ a cls H' B t,e=.ref a/\Fly P w outer H s a cls H' B t s'/\E cls none H'
theorem hok_sub {P:Program}{w:World}{H:Hp}{h h':Heap}(x:HOk P w H h)(k:∀ b u,H b≠none->h.get? b=some u->h'.get? b=some u):HOk P w H h':=fun a o e =>
 (x a o e).stay (fun b u hb q=>k b u (by
  rcases hb with rfl|hb
  ·rw[e]; exact fun z=>nomatch z
  ·rw[hb]; exact fun z=>nomatch z) q) (fun _ q=>q) fun _ _ q=>q
theorem frame_data {B h:Heap}{l:List PySem.Env}{b:Addr}{o:Obj}(f:h.FunFrames B l)(hb:b∈frs l)(e:h.get? b=some o):∀ vs,o.data≠.fields vs:=by
 obtain⟨_,o',e',n⟩:=f.mem hb
 rw[e] at e'
 cases e'
 exact n
section
variable {P:Program}{w:World}{K:PySem.W.Frag}{mg:Str->Option Value}{base:Heap}{N:List Str}{qual:Str}{scope:Scope}{f:Addr}{cd:Value}{A:Around}{outer:List PySem.Env}{s:Shared}{H:Hp}{E:XK}
theorem not_in_stack {b:Addr}{o:Obj}(e:s.heap.get? b=some o)(hb:b∉frs outer):b∉frs (envOfC qual scope s.heap.objs.size f cd::outer):=fun m=>by
 have m':b∈s.heap.objs.size::frs outer:=m
 rcases List.mem_cons.mp m' with rfl|m'
 ·exact absurd (Heap.lt_size e) (Nat.lt_irrefl _)
 ·exact hb m'
theorem in_stack {b:Addr}(hb:b∈frs outer):b∈frs (envOfC qual scope s.heap.objs.size f cd::outer):=List.mem_cons_of_mem (s.heap.objs.size) hb
theorem cxe_leave (pins:List (Addr × Obj))(σ:St)(H1:Hp)(s1:Shared)(e:Value)(s':Shared)(I:Inv (cxOf (CXe P w) P w K mg base N qual scope f cd A outer s H E) pins σ H1 s1)
  (h:CXe P w (cxOf (CXe P w) P w K mg base N qual scope f cd A outer s H E).stack H1 s1 E e s'):(cxOf (CXe P w) P w K mg base N qual scope f cd A outer s H E).xe e s':=by
 obtain⟨a,cls,H',B,t,rfl,F,q⟩:=h
 have noex:∀ b:Addr,b∉(cxOf (CXe P w) P w K mg base N qual scope f cd A outer s H E).ex:=fun b z=>absurd (show b∈([]:List Addr) from z) (by simp)
 refine wpAny_leaves_onW (L:=s.heap.objs.size) I.ok.frames rfl F.fl fun h' x1 x2=>?_
 refine⟨a,cls,H',B,t,rfl,⟨F.os.trans I.os,F.bare,x1,fun b o e n hb=>?_,fun b o e hb=>?_,fun b o e n hb=>?_,fun b o e n=>?_,fun b xs e=>?_,fun b o u e=>?_,fun b ps e=>?_,F.hokB⟩,q⟩
 ·exact F.keepB b o (I.base.keep b o e n hb (noex b)) (I.base.free b o e n (noex b)) (not_in_stack e hb)
 ·obtain⟨o1,e1⟩:=I.base.there b o e (noex b)
  exact F.thereB b o1 e1 (not_in_stack e hb)
 ·obtain⟨sl,e1⟩:=I.base.slot b o e n hb (noex b)
  obtain⟨sl2,e2⟩:=F.slot b _ e1 (I.base.free b o e n (noex b)) (in_stack hb)
  obtain⟨sl3,e3⟩:=x2 b _ e2 (frame_data F.fl.2.2.1 (in_stack hb) e2)
  exact⟨sl3,e3⟩
 ·obtain⟨o1,e1⟩:=I.base.there b o e (noex b)
  exact F.free b o1 e1 (I.base.free b o e n (noex b))
 ·exact F.tups b xs (I.base.tups b xs e)
 ·exact F.frzs b o u (I.base.frzs b o u e)
 ·obtain⟨m1,e1⟩:=I.base.tbls b ps e
  obtain⟨m2,e2⟩:=F.tbls b _ e1
  exact⟨m1++m2,by rw[e2,Array.append_assoc]⟩
theorem cxe_ok {P:Program}{w:World}:CXok P w (CXe P w):=⟨fun _ _ _ _ _ ⟨_,_,_,_,_,_,_,q⟩=>q,fun _ _ _ _ _ _ _ _ _ _ _ _ _ pins σ H1 s1 e s' I h=>cxe_leave pins σ H1 s1 e s' I h⟩
theorem raise_leave {pins:List (Addr × Obj)}{σ:St}{H1:Hp}{s1:Shared}{h':Heap}{e:Addr}{cls:Value}{vs:List Value}(I:Inv (cxOf (CXe P w) P w K mg base N qual scope f cd A outer s H E) pins σ H1 s1)
  (hx:Heap.MadeExcOf s1.heap h' e cls vs) (hE:E cls none H1):(cxOf (CXe P w) P w K mg base N qual scope f cd A outer s H E).xe (.ref e) { s1 with heap:=h' }:=by
 have noex:∀ b:Addr,b∉(cxOf (CXe P w) P w K mg base N qual scope f cd A outer s H E).ex:=fun b z=>absurd (show b∈([]:List Addr) from z) (by simp)
 have hfr:s1.heap.FunFrames (PySem.W.hideAll s1.heap (frs (envOfC qual scope s.heap.objs.size f cd::outer))) (envOfC qual scope s.heap.objs.size f cd::outer) :=
  PySem.W.funFrames_hide I.stack fun env he b hb=>List.mem_filterMap.mpr ⟨env,he,hb⟩
 refine wpAny_leaves_madeW (L:=s.heap.objs.size) (base:=PySem.W.hideAll s1.heap (frs (envOfC qual scope s.heap.objs.size f cd::outer))) I.ok.frames rfl (fun b o q=>PySem.W.of_hideAll _ q) hfr hx fun h2 t x1 x2 x3 x4=>?_
 refine⟨e,cls,H1,_,t,rfl,⟨I.os,I.bare,x1,fun b o q n hb=>?_,fun b o q hb=>?_,fun b o q n hb=>?_,fun b o q n=>I.base.free b o q n (noex b),fun b xs q=>I.base.tups b xs q,fun b o u q=>I.base.frzs b o u q,fun b ps q=>I.base.tbls b ps q,?_⟩,hE⟩
 ·exact PySem.W.hideAll_get _ (I.base.keep b o q n hb (noex b)) (not_in_stack q hb)
 ·obtain⟨o1,e1⟩:=I.base.there b o q (noex b)
  exact⟨o1,PySem.W.hideAll_get _ e1 (not_in_stack q hb)⟩
 ·obtain⟨sl,e1⟩:=I.base.slot b o q n hb (noex b)
  obtain⟨sl2,e2⟩:=x4 b _ (hx.keeps _ _ e1) (frame_data hfr (in_stack hb) e1)
  exact⟨sl2,e2⟩
 ·refine hok_sub I.hok fun b u hb q=>PySem.W.hideAll_get _ q fun m=>hb ?_
  exact I.stkFree b m
end
structure XCls (K:PySem.W.Frag)(mg:Str->Option Value)(c:String)(C:Addr):Prop where
 m:mg (Str.ofString c)=some (.ref C)
 ns:PySem.W.nsIn K mainGlobals (Str.ofString c)=some (some (.ref C))
 ex:PySem.W.excIn K C [.type "ValueError",.type "Exception",.type "BaseException",.type "object"] "ValueError.__new__"=true
 lk:∃ bm N nm qn bs hd sn sub ab col dd k0 k1 k2 k3 k5,K.lookup C=some (excClassObj nm qn C N bs bm hd sn sub ab col dd k0 k1 k2 k3 k5 "ValueError.__new__")
theorem exc_parts {K:PySem.W.Frag}{C:Addr}{bm0:List Value}{newId:String}(q:PySem.W.excIn K C bm0 newId=true)(l:∃ bm N nm qn bs hd sn sub ab col dd k0 k1 k2 k3 k5,K.lookup C=some (excClassObj nm qn C N bs bm hd sn sub ab col dd k0 k1 k2 k3 k5 newId)) :
  ∃ bm N nm qn bs hd sn sub ab col dd k0 k1 k2 k3 k5,K.lookup C=some (excClassObj nm qn C N bs bm hd sn sub ab col dd k0 k1 k2 k3 k5 newId)/\PySem.W.nsOkIn K N=true/\PySem.W.nsIn K N "__init__"=some none/\PySem.W.tailIn K bm0 bm=true:=by
 obtain⟨bm,N,nm,qn,bs,hd,sn,sub,ab,col,dd,k0,k1,k2,k3,k5,l⟩:=l
 unfold PySem.W.excIn at q
 rw[l] at q
 have q:(C == C&&newId == newId&&!false&&PySem.W.tailIn K bm0 bm&&PySem.W.nsOkIn K N&&PySem.W.nsIn K N "__init__" == some none)=true:=q
 simp only[Bool.and_eq_true,beq_iff_eq] at q
 exact⟨bm,N,nm,qn,bs,hd,sn,sub,ab,col,dd,k0,k1,k2,k3,k5,l,q.1.2,q.2,q.1.1.2⟩
theorem ns_move {K:PySem.W.Frag}{h h':Heap}{N:Addr}{m:Str->Option Value}(X:K.In h)(X':K.In h')(e:PySem.W.nsOkIn K N=true)(n:h.Ns N m):h'.Ns N m:=by
 obtain⟨o,es,ep,ho,hd,r⟩:=n
 unfold PySem.W.nsOkIn at e
 split at e
 ·rename_i a b c d q
  have:=X _ _ q
  rw[ho] at this
  cases this
  exact⟨_,es,ep,X' _ _ q,hd,r⟩
 ·cases e
theorem ps_raise {P:Program}{w:World}{K:PySem.W.Frag}{mg:Str->Option Value}{base:Heap}{N:List Str}{qual:Str}{scope:Scope}{f:Addr}{cd:Value}{A:Around}{outer:List PySem.Env}{s:Shared}{H:Hp}{E:XK}{c:String}{Ca:Addr}{tx:Str}{j:Nat}{np p2 cpos pos:Pos}
  (x:XCls K mg c Ca) (hg:Gl (cxOf (CXe P w) P w K mg base N qual scope f cd A outer s H E) (Str.ofString c)) (hd:(Str.ofString c == ("__debug__":Str))=false) (hh:(A.deeper (envOfC qual scope s.heap.objs.size f cd)).handled=none) :
  PS (cxOf (CXe P w) P w K mg base N qual scope f cd A outer s H E) (.Raise (some (.Call (.Name (Str.ofString c) np) [.Constant (.str tx) j p2] [] cpos)) none pos) (fun _ _ H1=>E (.ref Ca) none H1):=by
 intro pins s1 σ H1 D I hE
 obtain⟨bm,Na,nm,qn,bs,hdd,sn,sub,ab,col,dd,k0,k1,k2,k3,k5,hC,hN,hni,hT⟩:=exc_parts x.ex x.lk
 have T:=PySem.W.tail_of_in I.kIn hT
 refine wpAny_Raise_call_subT (C:=Ca) (nm:=nm) (q:=qn) (N:=Na) (bs:=bs) (bm:=bm) (hdct:=hdd) (sn:=sn) (sub:=sub) (ab:=ab) (col:=col) (dd:=dd) (k0:=k0) (k1:=k1) (k2:=k2) (k3:=k3) (k5:=k5) PySem.F.excBase_ValueError (mN:=s1.heap.nsMap Na) (T.hasType (by decide)) hh rfl (PySem.W.nsMap_none_of_in I.kIn hN hni) ?_
 have pn:=pe_glob (X:=cxOf (CXe P w) P w K mg base N qual scope f cd A outer s H E) (v:=.ref Ca) (pos:=np) hg x.m rfl hd
 refine thn (pn pins s1 σ H1 (fun v H2=>v=.ref Ca/\H2=H1) I ⟨rfl,rfl⟩) ?_
 rintro u s2 ⟨v,H2,I2,r2,rfl,rfl⟩
 obtain rfl:u=Value.ref Ca:=r2
 refine⟨rfl,Calls.evalArgs_plain ?_⟩
 have pa:=pa_cons (X:=cxOf (CXe P w) P w K mg base N qual scope f cd A outer s H E) (e:=.Constant (.str tx) j p2) pe_str pa_nil
 refine thn (pa cpos pins s2 σ H2 (fun vs H3=>vs=[.str tx]/\H3=H2) I2 ⟨rfl,rfl⟩) ?_
 rintro us s3 ⟨vs,H3,I3,r3,rfl,rfl⟩
 have hl:us.length=1:=r3.length.symm
 refine⟨rfl,by rw[hl]; decide,I3.kIn _ _ hC,ns_move I.kIn I3.kIn hN (.of_isNs (PySem.W.isNs_of_in I.kIn hN)),PySem.W.tail_of_in I3.kIn hT,fun h' e hx=>?_⟩
 exact raise_leave I3 hx hE
theorem ss_raise {P:Program}{w:World}{K:PySem.W.Frag}{mg:Str->Option Value}{base:Heap}{cls:String->Value}{N:List Str}{qual:Str}{scope:Scope}{f:Addr}{cd:Value}{A:Around}{outer:List PySem.Env}{s:Shared}{H:Hp}{E:XK}{k:Nat}{hr:Room k (A.deeper (envOfC qual scope s.heap.objs.size f cd))}{c:String}{Ca:Addr}{tx:Str}{j:Nat}{np p2 cpos pos:Pos}
  (x:XCls K mg c Ca) (hcls:cls c=.ref Ca) (hg:Gl (cxOf (CXe P w) P w K mg base N qual scope f cd A outer s H E) (Str.ofString c)) (hd:autoParam ((Str.ofString c == ("__debug__":Str))=false) Au.h2._auto_1) :
  SSs (ctxOf (cxe_ok (P:=P) (w:=w)) cls K mg base N qual scope f cd A outer s H E hr) [.Raise (some (.Call (.Name (Str.ofString c) np) [.Constant (.str tx) j p2] [] cpos)) none pos] (Dv.sRaise c):=by
 refine⟨_,pss_one (ps_raise x hg hd hr.hd),fun Hv₀ H₀ E' σ H' st r q=>?_⟩
 have q':E (cls c) none H':=q σ H' r
 rw[hcls] at q'
 exact q'
structure XLook (K:PySem.W.Frag)(C:Addr):Prop where
 ex:PySem.W.excIn K C [.type "ValueError",.type "Exception",.type "BaseException",.type "object"] "ValueError.__new__"=true
 lk:∃ bm N nm qn bs hd sn sub ab col dd k0 k1 k2 k3 k5,K.lookup C=some (excClassObj nm qn C N bs bm hd sn sub ab col dd k0 k1 k2 k3 k5 "ValueError.__new__")
 ga:PySem.W.findIn K (.ref C) "__getattribute__"=some (some (.builtin "BaseException.__getattribute__"))
 gn:PySem.W.findIn K (.ref C) "__getattr__"=some none
 kc:PySem.W.findIn K (.ref C) "__class__"=some (some (.builtin "object.__class__"))
section
variable {prog:Program}{w:World}{A:Around}{E:Value->Shared->Prop}{K:PySem.W.Frag}{h:Heap}{g:Array GenState}{d:Drawn}{t:Nat}{os:OsState}{a C:Addr}{o:Obj}
end
structure XAll (K:PySem.W.Frag)(mg:Str->Option Value)(ad:String->Option Addr):Prop where
 cl:∀ c C,ad c=some C->XCls K mg c C/\XLook K C
 sub:∀ c C k C',ad c=some C->ad k=some C'->PySem.W.kitOne K (.ref C) (.ref C')=some (Dv.subX c k)
 val:∀ c C,ad c=some C->PySem.W.kitOne K (.ref C) (.type "ValueError")=some true
theorem Fly.un {P:Program}{w:World}{outer:List PySem.Env}{H H':Hp}{s s':Shared}{a t:Addr}{cls:Value}{B h:Heap}(F:Fly P w outer H s a cls H' B t s')(sb:B.StaysIn h)(sm:s'.heap.UpToSlots h)(hf:∀ b∈frs outer,H b=none) :
  Un (frs outer) [] H H' s.heap h where
 keep:=fun b o e n hb _=>sb b o (F.keepB b o e n hb)
 slot:=fun b o e n hb _=>by
  obtain⟨sl,e1⟩:=F.slot b o e n hb
  obtain⟨sl2,e2⟩:=sm b _ e1 (frame_data F.fl.2.2.1 hb e1)
  exact⟨sl2,e2⟩
 free:=fun b o e n _=>F.free b o e n
 there:=fun b o e _=>by
  by_cases hb:b∈frs outer
  ·obtain⟨sl,e1⟩:=F.slot b o e (hf b hb) hb
   obtain⟨sl2,e2⟩:=sm b _ e1 (frame_data F.fl.2.2.1 hb e1)
   exact⟨_,e2⟩
  ·obtain⟨o1,e1⟩:=F.thereB b o e hb
   exact⟨o1,sb b o1 e1⟩
 tups:=F.tups
 frzs:=F.frzs
 tbls:=F.tbls
section
variable {X:Cx}{pins pins':List (Addr × Obj)}{σ:St}{H:Hp}{s:Shared}{xe:Value->Shared->Prop}{e:Addr}
end
section
variable {C:Ctx}{ad:String->Option Addr}{kn:List String}{k:String}{Ck:Addr}{body suite:List Stmt}{b₀:Stmt}{F G:SS}{np hpos pos:Pos}
end
section
variable {C:Ctx}{ad:String->Option Addr}{kn:List String}{a:Expr}{f:EE}{pos:Pos}
end
open PySem PySem.W PySem.Calls PyProof.Rows
theorem weight_mem:∀ {ns:List Int} {x:Int},x∈ns->(WData.int x).weight<=WData.weightAll (ns.map WData.int)
 | [],_,h=>by simp at h
 | n::r,x,h=>by
  rw[List.map_cons]
  unfold WData.weightAll
  rcases List.mem_cons.mp h with rfl|h
  ·omega
  ·have:=weight_mem h
   omega
theorem bits_of {ns:List Int}(h:WData.layableAll [WData.list (ns.map WData.int)]=true):∀ x∈ns,Dv.bits x<=1048576:=fun x hx=>by
 have h1:=layableW_arg h _ (List.mem_cons_self ..)
 obtain⟨_,_,h2⟩:=layableW_iff.mp h1
 have h3:WData.weight (WData.list (ns.map WData.int))=WData.weightAll (ns.map WData.int):=by unfold WData.weight; rfl
 have h4:=weight_mem hx
 have h5:(WData.int x).weight=Dv.bits x:=by
  unfold WData.weight Dv.bits
  by_cases e:x=0
  ·simp[e]
  ·simp[e]
 rw[h3] at h2
 omega
theorem attachB {l:OpenLaw}{n:Nat}{q:Program}{loose:List Str}{XP:(Str->Option Value)->Heap->Prop}{YP:World->Heap->Prop}{d:DefRec}(hn:l.most=some n)(hdf:d.params.defaults=[])
  (run:∀ (w:World) (s₀ s₁:Shared) (mg mb:Str->Option Value) (fa:Addr) (a:Addr) (vs:List Value) (ns:List Int),Ground q loose [] XP w s₀ mg mb s₁.heap->YP w s₁.heap->mg d.name=some (.ref fa) ->
   s₁.heap.get? a=some { cls:=.type "list",data:=.seq vs.toArray }->IntsAre vs ns->ns.length<=n->(∀ x∈ns,Dv.bits x<=1048576)->s₁.gens=#[] ->
   codeAny (model l.prog w) callerA (.call (.ref fa) ⟨[.ref a],[]⟩) (fun r s'=>r=.ok (.ret (.bool true))/\OldK s₁.heap s'.heap/\s'.os=s₁.os/\AllBare s'.gens) s₁) :
  WalkO q loose XP YP l.row.toRowW d [] (fun f vs=>PySem.call f vs):=by
 intro w s₀ s₁ mg mb G Y fa o pm cd doc dV kV ho hd hcd hD hmg hg args vals as hpre hlay hrd hwl hlo
 obtain⟨a,vs,ns,rfl,rfl,hobj,hints,hlen⟩:=Att.script_of hn hpre hwl
 have hbits:=bits_of hlay
 refine enter_call (codeAny_mono (run w s₀ s₁ mg mb fa a vs ns G Y hmg hobj hints hlen hbits hg) ?_)
 rintro r s' ⟨rfl,h2,h3,h4⟩
 exact⟨.inl ⟨.bool true,.bool true,[],rfl,fun _=>rfl,.bool true,Att.post_true l _,fun _=>⟨List.Pairwise.nil,fun _ hm=>(nomatch hm)⟩⟩,h2,h3,h4⟩
theorem walkD {l:OpenLaw}{k:Nat}{q:Program}{loose:List Str}{XP:(Str->Option Value)->Heap->Prop}{YP:World->Heap->Prop}{d:DefRec}{K:Params->Frag}{CX:World->L2.CXT}{x:Str}{Fl:List Dv.D->Dv.R}
  (hn:l.most=some 63) (hdf:d.params.defaults=[]) (hr:L2.Room k callerA) (hY:∀ (w:World) (h:Heap),YP w h->(K w.params).In h) (hC:∀ w,CXok l.prog w (CX w))
  (F:∀ (w:World) (mg:Str->Option Value) (fa:Addr) (h:Heap),(K w.params).In h->h.Ns mainGlobals mg->mg d.name=some (.ref fa) ->
   ∃ (fd:FuncData) (cls:String->Value),(∀ (s:Shared) (u:Value),BindsTo s fd ⟨[u],[]⟩ [(x,u)])/\∀ base:Heap,(K w.params).In base->base.Ns mainGlobals mg->L2.FnOk l.prog w (K w.params) mg base (CX w) k fa fd [x] (spD (K w.params) cls Fl 1))
  (hF:∀ ns:List Int,ns.length<=63->(∀ x∈ns,Dv.bits x<=1048576)->Fl [.lst (ns.map .int)]=.ok (.bl true) true) :
  WalkO q loose XP YP l.row.toRowW d [] (fun f vs=>PySem.call f vs):=by
 refine attachB hn hdf fun w s₀ s₁ mg mb fa a vs ns G Y hmg hobj hints hlen hbits hg=>?_
 have KX:=hY w _ Y
 obtain⟨fd,cls,hb,hFn⟩:=F w mg fa _ KX G.T.g hmg
 have hK:∀ o,(K w.params).lookup a=some o->o={ cls:=.type "list",data:=.seq vs.toArray }:=fun o e=>by
  have:=KX a o e
  rw[hobj] at this
  exact(Option.some.inj this).symm
 have hl:ns.length<=sizeLine:=Nat.le_trans hlen (by decide)
 refine L2.law_call KX G.T.g G.T.b G.T.builtins G.T.nolimit hg hobj hints hl hr hFn hb (fun H hO hS=>?_) fun H e s'=>(hC w).no [] H s₁ e s'
 refine⟨[.lst (ns.map .int)],H,rfl,.refl _,?_,?_⟩
 ·refine .cons ?_ .nil
  unfold Rp
  refine⟨a,ns.map L2.V.int,rfl,?_,RpL.ofInts ns⟩
  rcases hS with hS|⟨o,its,m,e,_,_,e2,z,v⟩
  ·exact .inl hS
  ·have e3:=hK o e
   subst e3
   cases e2
   exact .inr ⟨vs,_,e,by rw[List.length_map]; exact hl,by simpa using v⟩
 ·rw[hF ns hlen hbits]
  intro v Hv' H' _ rp _
  unfold Rp at rp
  exact rp
open Dv in
noncomputable def clsOf (ad:String->Option Addr)(c:String):Value:=match ad c with
 | some C=>.ref C
 | none=>.none
theorem clsOf_eq {ad:String->Option Addr}{c:String}{C:Addr}(h:ad c=some C):clsOf ad c=.ref C:=by unfold clsOf; rw[h]
noncomputable def adOf (l:List (String × Addr))(c:String):Option Addr:=l.lookup c
theorem adOf_mem:∀ {l:List (String × Addr)} {c:String} {C:Addr},adOf l c=some C->(c,C)∈l
 | [],c,C,h=>by simp[adOf] at h
 | (k,v)::r,c,C,h=>by
  unfold adOf at h
  rw[List.lookup_cons] at h
  split at h
  ·rename_i q
   cases h
   rw[beq_iff_eq.mp q]
   exact List.mem_cons_self ..
  ·exact List.mem_cons_of_mem _ (adOf_mem (l:=r) h)
theorem xall_mk {K:Frag}{mg:Str->Option Value}(l:List (String × Addr))(h1:∀ p∈l,XCls K mg p.1 p.2/\XLook K p.2/\kitOne K (.ref p.2) (.type "ValueError")=some true)(h2:∀ p∈l,∀ q∈l,kitOne K (.ref p.2) (.ref q.2)=some (Dv.subX p.1 q.1)):XAll K mg (adOf l) where
 cl:=fun c C h=>let z:=h1 _ (adOf_mem h); ⟨z.1,z.2.1⟩
 sub:=fun c C k C' h h'=>h2 _ (adOf_mem h) _ (adOf_mem h')
 val:=fun c C h=>(h1 _ (adOf_mem h)).2.2
theorem fm_nil {α:Type}{p:α->Prop}:∀ x∈([]:List α),p x:=fun x h=>absurd h (by simp)
theorem fm_cons {α:Type}{p:α->Prop}{a:α}{l:List α}(h:p a)(r:∀ x∈l,p x):∀ x∈a::l,p x:=fun x m=>by
 rcases List.mem_cons.mp m with rfl|m
 ·exact h
 ·exact r x m
end Sd
namespace Dv
end Dv
namespace Sd
open PySem PySem.Spec PyProof.Rows L2 HT
open Dv (D R RL EE EL EI RI Sl Out SS)
section
variable {C:Ctx}{a:Expr}{f:EE}{pos:Pos}
end
section
variable {C:Ctx}{a:Expr}{f:EE}{pos:Pos}
end
end Sd
namespace Dv
noncomputable def lexLt:List Int->List Int->Bool
 | [],[]=>false
 | [],_::_=>true
 | _::_,[]=>false
 | x::xs,y::ys=>if x=y then lexLt xs ys else decide (x<y)
noncomputable def bestIx (bt:Nat->Nat->Bool):Nat->Nat
 | 0=>0
 | k+1=>if bt (k+1) (bestIx bt k) then k+1 else bestIx bt k
noncomputable def leastIx (nss:List (List Int)):Nat:=bestIx (fun i j=>lexLt (nss.getD i []) (nss.getD j [])) (nss.length-1)
noncomputable def least (nss:List (List Int)):List Int:=nss.getD (leastIx nss) []
end Dv
namespace Sd
open PySem PySem.Spec PyProof.Rows L2 HT
open Dv (D R RL EE EL EI RI Sl Out SS)
section
open PySem.SeqAt
open PySem.AutoSeq1 (wpAny_loadPart')
open PySem.MeetsSeq PySem.MeetsSeq2 PySem.MeetsSeq3
end
section
variable {prog:Program}{w:World}{A:Around}{R':Result->Shared->Prop}{I:Addr}{fp wr:List Addr}{n:Nat}{P:Nat->Value->Prop}{St:Nat->Heap->Prop}
end
section
variable {C:Ctx}
end
section
variable {C:Ctx}{a:Expr}{f:EE}{pos:Pos}{kn:List String}{ad:String->Option Addr}
end
end Sd
namespace Dv
end Dv
namespace Sd
open PySem PySem.Spec PyProof.Rows L2 HT
open Dv (D R RL EE EL EI RI Sl Out SS)
open Classical in
section
variable {C:Ctx}{a b:Expr}{f g:EE}{pos:Pos}
end
end Sd
namespace Dv
noncomputable def look:List Int->List D->Int->Option D
 | k::ks,d::ds,j=>if k=j then some d else look ks ds j
 | _,_,_=>none
noncomputable def replL:List Int->List D->Int->D->List D
 | k::ks,d::ds,j,x=>(if k=j then x else d)::replL ks ds j x
 | _,ds,_,_=>ds
noncomputable def putL (ks:List Int)(ds:List D)(j:Int)(x:D):List D:=if j∈ks then replL ks ds j x else ds++[x]
noncomputable def putKs (ks:List Int)(j:Int):List Int:=if j∈ks then ks else ks++[j]
noncomputable def eDict0:EE:=fun _=>.ok (.dct [] []) true
noncomputable def eDix (a k:EE):EE:=fun ρ=>(a ρ).bind fun x f=>(k ρ).bind fun y _=>match x,y with
 | .dct ks ds,.int j=>match look ks ds j with
  | some d=>.ok d (f || scal d)
  | none=>.bad
 | _,_=>.bad
noncomputable def sDPut (is:List Nat)(i:Nat)(k e:EE):SS:=fun st=>match (give is st)[i]? with
 | some (.ow (.dct ks ds))=>match e (open_ (give is st)) with
  | .ok d _=>match k (open_ (give is st)) with
   | .ok (.int j) _=>if decide (ks.length<mx)&&decide (ks.length=ds.length) then .nx ((give is st).set i (.ow (.dct (putKs ks j) (putL ks ds j d)))) else .bad
   | .exc c=>.exc c st
   | _=>.bad
  | .exc c=>.exc c st
  | .bad=>.bad
 | _=>.bad
noncomputable def lstsFlat:List D->Bool
 | []=>true
 | .lst es::r=>flatL es&&lstsFlat r
 | _::_=>false
noncomputable def sDMove (i y:Nat)(k:EE):SS:=fun st=>match st[i]?,st[y]? with
 | some (.dp (.dct ks ds)),some (.ow (.lst es))=>match k (all st) with
  | .ok (.int j) _=>if flatL es&&lstsFlat ds&&decide (ks.length<mx)&&decide (ks.length=ds.length)&&decide (i≠y) then .nx ((st.set y .no).set i (.dp (.dct (putKs ks j) (putL ks ds j (.lst es))))) else .bad
  | .exc c=>.exc c st
  | _=>.bad
 | _,_=>.bad
noncomputable def enumL:Nat->List D->List D
 | _,[]=>[]
 | i,d::r=>.tup [.int i,d]::enumL (i+1) r
noncomputable def iEnum (a:EE):EI:=fun ρ=>match a ρ with
 | .ok (.lst xs) _=>.ok (enumL 0 xs) true
 | .exc c=>.exc c
 | _=>.bad
noncomputable def downL (hi:Int):Nat->List D
 | 0=>[]
 | n+1=>.int hi::downL (hi-1) n
noncomputable def iDown (a b:EE):EI:=fun ρ=>match a ρ with
 | .ok (.int i) _=>match b ρ with
  | .ok (.int j) _=>if rngOk i&&rngOk j then .ok (downL i (i-j).toNat) true else .bad
  | .exc c=>.exc c
  | _=>.bad
 | .exc c=>.exc c
 | _=>.bad
noncomputable def sForR (x:Nat)(it:EI)(body:SS):SS:=fun st=>match it (all st) with
 | .ok ds _=>forGo x body ds st
 | .exc c=>.exc c st
 | .bad=>.bad
noncomputable def blsOf:List D->Option (List Bool)
 | []=>some []
 | .bl b::r=>(blsOf r).map (b::·)
 | _::_=>none
noncomputable def allD:D->Bool->R
 | .lst ds,_=>match blsOf ds with
  | some bs=>.ok (.bl (bs.all id)) true
  | none=>.bad
 | _,_=>.bad
noncomputable def sAug (i:Nat)(o:Op)(e:EE):SS:=fun st=>match st[i]? with
 | some (.sh (.int x))=>match e (all st) with
  | .ok (.int y) _=>match opD o (.int x) (.int y) with
   | .ok (.int z) _=>.nx (st.set i (.sh (.int z)))
   | _=>.bad
  | .exc c=>.exc c st
  | _=>.bad
 | _=>.bad
noncomputable def sSetD (i:Nat)(e:EE):SS:=fun st=>match e (all st) with
 | .ok d true=>.nx (st.set i (.dp d))
 | .ok _ false=>.bad
 | .exc c=>.exc c st
 | .bad=>.bad
noncomputable def sRetT (i:Nat)(e:EE):SS:=fun st=>match st[i]? with
 | some (.ow (.lst ds))=>match e (all st) with
  | .ok (.lst es) true=>if flatL ds&&flatL es then .ret (.tup [.lst ds,.lst es]) true else .bad
  | .exc c=>.exc c st
  | _=>.bad
 | _=>.bad
end Dv
namespace Sd
open PySem PySem.Spec PyProof.Rows L2
open Dv (D R RL EE EL EI RI Sl Out SS)
section
variable {C:Ctx}{a b c e k:Expr}{f g h:EE}{F G:SS}{pos pos':Pos}{E:Ends}
noncomputable def ipC (P:Int->Int->Prop)(f:Int->Int->Int):TIp:=fun x y H Q=>∃ i j,x=.int i/\y=.int j/\P i j/\Q (.int (f i j)) H
theorem ip_mulC {X:Cx}:PIp X .Mult (ipC (fun i j=>Dv.mulOk i j=true) fun i j=>i*j):=by
 intro pins s σ H x y v u Q I r1 r2 h
 obtain⟨i,j,e1,e2,hc,q⟩:=h
 subst e1; subst e2
 obtain⟨t,rfl⟩:=r1
 obtain⟨t',rfl⟩:=r2
 refine PyProof.Rows.imul_int ⟨.int _,H,I.tok _,⟨_,rfl⟩,q⟩ ?_
 unfold Dv.mulOk at hc
 simp only[Bool.or_eq_true,Bool.and_eq_true,decide_eq_true_eq,<- bits_eq] at hc
 rcases hc with (hc|hc)|hc
 ·exact .of_left hc
 ·exact .of_right hc
 ·exact .of_bits (by simpa using hc.1) (by simpa using hc.2)
theorem ip_fdivC {X:Cx}:PIp X .FloorDiv (ipC (fun _ j=>0<j/\j.natAbs.log2<9000) fun i j=>i/j):=by
 intro pins s σ H x y v u Q I r1 r2 h
 obtain⟨i,j,e1,e2,hc,q⟩:=h
 subst e1; subst e2
 obtain⟨t,rfl⟩:=r1
 obtain⟨t',rfl⟩:=r2
 have h1:(0:Int)<j:=hc.1
 have q':EP X pins σ Q (.int (i.fdiv j) s.toks) { s with toks:=s.toks+1 }:=by
  rw[Int.fdiv_eq_ediv_of_nonneg i (by omega)]
  exact⟨.int _,H,I.tok _,⟨_,rfl⟩,q⟩
 exact PyProof.Rows.ifloordiv_int (by omega) q' (.inl (PyProof.noPylong_of_log2 hc.2))
theorem st_augG {op:Operator}{o:Dv.Op}{ti:TIp}(ho:PIp C.X op ti)(hop:∀ x y z fr H Q,Dv.opD o (.int x) (.int y)=.ok (.int z) fr->Q (.int z) H->ti (.int x) (.int y) H Q)
  {i:Nat} {x:Str} (he:SE C e f) (hN:C.X.N.Nodup) (hi:C.X.N[i]?=some x) (hx:Loc C.X.env.scope x) (hf:autoParam (C.X.fn x=true\/C.X.env.scope.names.lookup x=some .local) Au.h1._auto_1) :
  SSt C (.AugAssign (.Name x pos') op e pos) (Dv.sAug i o f):=by
 obtain⟨t,p,q⟩:=he
 refine⟨_,ps_aug hN hi hx p ho hf,fun Hv₀ H₀ E σ H st ⟨Hc,O,r⟩ w=>?_⟩
 unfold Dv.sAug at w
 cases hs:st[i]? with
 | none=>rw[hs] at w; exact(show False from w).elim
 | some s =>
  rw[hs] at w
  cases s with
  | sh d =>
   cases d with
   | int x0 =>
    obtain⟨v,h1,h2⟩:=r.sh i _ hs
    unfold Rp at h2
    subst h2
    refine⟨_,h1,?_⟩
    refine q.all r (fun c hf H' r'=>?_) (fun hf=>?_) fun d fr v Hv' H' hf x r' rp n=>?_
    ·simp only[hf] at w; exact w σ H' ⟨Hc,O,r'⟩
    ·simp only[hf] at w; exact w
    ·cases d with
     | int y =>
      simp only[hf] at w
      unfold Rp at rp
      subst rp
      cases ho':Dv.opD o (.int x0) (.int y) with
      | ok d2 fr2 =>
       cases d2 with
       | int z=>simp only[ho'] at w; exact hop _ _ _ _ _ _ ho' (w _ H' ⟨Hc,O,r'.setSh rp_int⟩)
       | _=>simp only[ho'] at w; exact(show False from w).elim
      | _=>simp only[ho'] at w; exact(show False from w).elim
     | _=>simp only[hf] at w; exact(show False from w).elim
   | _=>exact(show False from w).elim
  | _=>exact(show False from w).elim
theorem st_augSub {i:Nat}{x:Str}(he:SE C e f)(hN:C.X.N.Nodup)(hi:C.X.N[i]?=some x)(hx:Loc C.X.env.scope x)(hf:autoParam (C.X.fn x=true\/C.X.env.scope.names.lookup x=some .local) Au.h1._auto_1) :
  SSt C (.AugAssign (.Name x pos') .Sub e pos) (Dv.sAug i .sub f):=st_augG ip_sub (fun x y z fr H Q h q=>by cases h; exact⟨x,y,rfl,rfl,q⟩) he hN hi hx hf
theorem st_augMul {i:Nat}{x:Str}(he:SE C e f)(hN:C.X.N.Nodup)(hi:C.X.N[i]?=some x)(hx:Loc C.X.env.scope x)(hf:autoParam (C.X.fn x=true\/C.X.env.scope.names.lookup x=some .local) Au.h1._auto_1) :
  SSt C (.AugAssign (.Name x pos') .Mult e pos) (Dv.sAug i .mul f):=st_augG ip_mulC (fun x y z fr H Q h q=>by
   simp only[Dv.opD_ai,Dv.opD_al,Dv.opD_su,Dv.opD_mi,Dv.opD_ml,Dv.opD_mo,Dv.opD_fd,Dv.opD_po,Dv.opD_ba,Dv.opD_sh] at h
   by_cases hm:Dv.mulOk x y=true
   ·simp only[hm,if_true] at h; cases h; exact⟨x,y,rfl,rfl,hm,q⟩
   ·simp only[hm] at h; cases h) he hN hi hx hf
theorem st_augFdiv {i:Nat}{x:Str}(he:SE C e f)(hN:C.X.N.Nodup)(hi:C.X.N[i]?=some x)(hx:Loc C.X.env.scope x)(hf:autoParam (C.X.fn x=true\/C.X.env.scope.names.lookup x=some .local) Au.h1._auto_1) :
  SSt C (.AugAssign (.Name x pos') .FloorDiv e pos) (Dv.sAug i .fdiv f):=st_augG ip_fdivC (fun x y z fr H Q h q=>by
   simp only[Dv.opD_ai,Dv.opD_al,Dv.opD_su,Dv.opD_mi,Dv.opD_ml,Dv.opD_mo,Dv.opD_fd,Dv.opD_po,Dv.opD_ba,Dv.opD_sh] at h
   by_cases hm:Dv.divOk y=true
   ·simp only[hm,if_true] at h; cases h
    unfold Dv.divOk at hm
    exact⟨x,y,rfl,rfl,by simpa using hm,q⟩
   ·simp only[hm] at h; cases h) he hN hi hx hf
theorem st_augIxS {i:Nat}{x:Str}{px kpos:Pos}(he:SE C e f)(hk:SE C k g)(hN:autoParam (C.X.N[i]?=some x) Au.h4._auto_1)(hv:autoParam (Vis C.X.env.scope x) Au.h7._auto_1)
    (hd:autoParam ((x == ("__debug__":Str))=false) Au.h2._auto_1) (hcd:autoParam ((x == ("__classdict__":Str))=false) Au.h2._auto_1)
    (ha:autoParam (∀ ov iv new,augStore k ov iv new=(do holding [new,ov,iv] (setItem ov iv new); release [new,ov,iv] []; pure .next)) Au.h5._auto_1) :
    SSt C (.AugAssign (.Subscript (.Name x px) k kpos) .Sub e pos) (Dv.sAugIx i .sub g f):=by
  obtain⟨t,p,q⟩:=he
  obtain⟨t2,p2,q2⟩:=hk
  refine⟨_,ps_augS (pe_var hN hv hd hcd) p2 get_listN p ip_sub set_list ha,fun Hv₀ H₀ E σ H st ⟨Hc,O,r⟩ w=>?_⟩
  unfold Dv.sAugIx at w
  cases hi:st[i]? with
  | none=>rw[hi] at w; exact(show False from w).elim
  | some s =>
    rw[hi] at w
    cases s with
    | ow d0 =>
     cases d0 with
     | lst ds =>
      obtain⟨a,vs,h1,h2,h5⟩:=r.own hi
      refine⟨_,h1,?_⟩
      refine q2.all r (fun c hf H' r'=>?_) (fun hf=>?_) fun d fr v Hv' H' hf x r' rp n=>?_
      · simp only[hf] at w; exact w σ H' ⟨Hc,O,r'⟩
      · simp only[hf] at w; exact w
      · simp only[hf] at w
        cases d with
        | int j =>
          unfold Rp at rp
          by_cases z:0<=j
          · simp only[z,if_true] at w
            cases hat:Dv.at? ds j with
            | none=>simp only[hat] at w; exact(show False from w).elim
            | some d0 =>
              simp only[hat] at w
              obtain⟨v0,g1,g2⟩:=at_atI h5 hat
              refine⟨a,vs,j,v0,rfl,rp,z,SqL.of (x.hh _ _ h2),g1,?_⟩
              refine q.all r' (fun c hg H2 r2=>?_) (fun hg=>?_) fun d2 fr2 v2 Hv2 H2 hg x2 r2 rp2 n2=>?_
              · simp only[hg] at w; exact w σ H2 ⟨Hc,O,r2⟩
              · simp only[hg] at w; exact w
              · simp only[hg] at w
                cases d0 with
                | int y0 =>
                  cases d2 with
                  | int y2 =>
                    unfold Rp at rp2 g2
                    subst g2 rp2
                    obtain⟨O',r3⟩:=r2.put hi h1 (h5.set (rp_int (i:=y0-y2)) j.toNat)
                    refine⟨y0,y2,rfl,rfl,a,vs,j,j.toNat,rfl,rp,x2.hh _ _ (x.hh _ _ h2),?_,OkS.now (st:=st.set i (.ow (.lst (ds.set j.toNat (.int (y0-y2)))))) w ⟨Hc,O',r3⟩⟩
                    unfold ixN
                    obtain⟨_,_,_,_,_,hlt⟩:=atI_get g1
                    rw[if_pos z,if_pos hlt]
                  | _=>exact(show False from w).elim
                | _=>exact(show False from w).elim
          · simp only[z,if_false] at w; exact(show False from w).elim
        | _=>exact(show False from w).elim
     | _=>exact(show False from w).elim
    | _=>exact(show False from w).elim
theorem call_allL {X:Cx}(hc:X.calm=true):CallR X (.builtin "all") (fun xs H Q=>∃ p,∃ bs:List Bool,xs=[.ref p]/\SqX X.K H p (bs.map V.bl)/\Q (.bl (bs.all id)) H):=by
 intro pins s σ H xs us Q I r h
 obtain⟨p,bs,rfl,hq,q⟩:=h
 obtain⟨u,rfl,rx⟩:=vals1 r
 cases rx
 obtain⟨its,n,rv,e,z⟩:=Inv.listX I hq
 have hl:s.heap.IsList p its.toArray:=⟨_,e,rfl,n,rfl⟩
 have hlt:p<s.heap.objs.size:=Heap.lt_size e
 have hlen:its.length=bs.length:=by have:=rv.length; rw[List.length_map] at this; exact this.symm
 refine call_all_walk (wpAny_pyIter_list hl ?_)
 refine⟨s.heap.objs.size,[s.heap.objs.size,p],[s.heap.objs.size],its.toArray.size,_,_,fun i=>(bs[i]?).getD true,rfl,Walks.list (A:=X.A.in1) (I.ok.hd hc) _ p (Nat.ne_of_lt hlt) its.toArray,
  ⟨⟨_,Heap.get?_push_size _ rfl,rfl,rfl⟩,hl.push _⟩,fun i v s' Q' E' hP hQ=>?_,fun h' tk hk=>?_⟩
 ·have hP':its[i]?=some v:=by simpa using hP
  have hi:i<bs.length:=by rw[<- hlen]; exact(List.getElem?_eq_some_iff.mp hP').1
  obtain⟨u,e1,e2⟩:=rv.get (show (bs.map V.bl)[i]?=some (V.bl bs[i]) by simp[hi])
  rw[hP'] at e1
  cases e1
  have e3:v=Value.bool bs[i]:=e2
  subst e3
  have e4:(bs[i]?).getD true=bs[i]:=by simp[hi]
  have hQ':Q' bs[i] s':=by rw[<- e4]; exact hQ
  exact wpAny_truthy_bool hQ'
 ·have e5:((List.range its.toArray.size).all fun i=>(bs[i]?).getD true)=bs.all id:=by
   rw[List.size_toArray,hlen,Bool.eq_iff_iff,List.all_eq_true,List.all_eq_true]
   constructor
   ·intro hh b hb
    obtain⟨i,hi,e⟩:=List.getElem_of_mem hb
    have:=hh i (List.mem_range.mpr hi)
    simp only[List.getElem?_eq_getElem hi,Option.getD_some,e] at this
    exact this
   ·intro hh i hi
    have hi':=List.mem_range.mp hi
    simp only[List.getElem?_eq_getElem hi',Option.getD_some]
    exact hh _ (List.getElem_mem hi')
  rw[e5]
  exact⟨.bl _,H,I.kept (t':=tk) fun b x e=>hk b x (fun hm=>by rw[List.mem_singleton.mp hm] at e; exact Nat.lt_irrefl _ (Heap.lt_size e)) (Heap.get?_push_of_some _ e),rfl,q⟩
theorem RpL.bls {K:PySem.W.Frag}{H:Hp}:∀ {ds:List D} {vs:List V} {bs:List Bool},Dv.blsOf ds=some bs->RpL K H ds vs->vs=bs.map V.bl
 | [],vs,bs,e,h=>by
  simp[Dv.blsOf] at e; subst e
  unfold RpL at h; exact h
 | d::r,vs,bs,e,h=>by
  unfold RpL at h
  obtain⟨v,ws,rfl,h2,h3⟩:=h
  cases d with
  | bl i =>
   simp only[Dv.blsOf,Option.map_eq_some_iff] at e
   obtain⟨ms,e1,rfl⟩:=e
   unfold Rp at h2
   subst h2
   rw[RpL.bls e1 h3,List.map_cons]
  | _=>simp[Dv.blsOf] at e
theorem c1_all (hc:C.X.calm=true):C1S C (.builtin "all") Dv.allD:=by
 refine⟨_,call_allL hc,fun x d fr H Hv H1 Hv1 W Q e rx n q=>?_⟩
 cases d with
 | lst ds =>
  simp only[Dv.allD] at q
  cases hi:Dv.blsOf ds with
  | none=>rw[hi] at q; exact(show False from q).elim
  | some bs =>
   rw[hi] at q
   unfold Rp at rx
   obtain⟨l,vs,rfl,h1,h2⟩:=rx
   have e1:=RpL.bls hi h2
   subst e1
   exact⟨l,bs,rfl,h1.same e.vh,Ok.at (d:=.bl (bs.all id)) (fr:=true) q e rp_bl rfl⟩
 | _=>exact(show False from q).elim
theorem se_all {p:Pos}(hm:C.X.mg "all"=none)(hg:Gl C.X "all")(ha:SE C a f)(he:autoParam (starEach [a] C.X.env=[(false,eval a C.X.env)]) Au.h4._auto_1)(hcl:autoParam (C.X.calm=true) Au.h4._auto_1):SE C (.Call (.Name "all" p) [a] [] pos) (Dv.eB1 Dv.allD f) :=
 se_b1 (c1_all hcl) hg hm (by decide +kernel) ha (by decide) (by decide) he
end
noncomputable def ItD (hi:Int)(n:Nat):It:=⟨fun i _=>i<n,fun i H v H'=>v=.int (hi-i)/\H'=H,fun i _=>n<=i⟩
theorem turn_down {P:Program}{w:World}{K:PySem.W.Frag}{tg:Expr}(it:Addr)(lo:Int)(n:Nat):Turn P w K tg (ItD lo n) [it] it (fun i h=>IsRangeIter h it (lo+(i:Nat)*(-1)) ((n:Int)-(i:Nat)) (-1)) where
 mem:=by simp
 obj:=fun i h st b hb=>by
  have e:b=it:=by simpa using hb
  subst e
  exact⟨_,st,fun v z=>by
   have z':Data.fields _=Data.cell v:=z
   cases z'⟩
 keep:=fun i h h' st k=>k it (by simp) _ st
 item:=by
  intro X hP hw hK hc i pins s σ H E I hf st hg
  subst hP hw hK
  obtain⟨f0,f1,f2,f3,f4,f5⟩:=hf it (by simp)
  have W:=Walks.range (prog:=X.prog) (w:=X.w) (I.ok.hd hc) it lo (-1) n
  refine W.item i s _ _ hg st fun v h' tk hv st' kk=>?_
  obtain⟨t,rfl⟩:=hv
  have I1:Inv X pins σ H { s with heap:=h',toks:=tk }:=I.turned (fun b o hb e=>kk b o (by simpa using hb) e) f0 f1 f3 f4 f5
  refine⟨_,rfl,go_of (s:={ s with heap:=h',toks:=tk }) (n:="range_iterator") st' rfl rfl (by decide) ⟨.int (lo-i),H,I1,⟨t,?_⟩,⟨rfl,rfl⟩,st',fun b hb=>(hf b hb).1⟩⟩
  have:lo+(i:Nat)*(-1)=lo-i:=by omega
  rw[this]
 done:=by
  intro X hP hw hK hc i pins s σ H E I hf st hg
  subst hP hw hK
  obtain⟨f0,f1,f2,f3,f4,f5⟩:=hf it (by simp)
  exact wpAny_pyNext_range_end (I.ok.hd hc) st (by have:n<=i:=hg; omega) fun h' eb=>⟨rfl,I.turned (t':=s.toks) (fun b o hb e=>eb b o hb e) f0 f1 f3 f4 f5⟩
 self:=fun _ _ _ _ _ st h=>wpAny_pyIter_rangeiter st h
theorem rangeSize_dn (a b:Int):Builtin.Range.rangeSize a b (-1)=((a-b).toNat:Int):=by
 unfold Builtin.Range.rangeSize
 by_cases h:a > b
 ·simp[h]; omega
 ·simp[h]; omega
noncomputable def iRng3 (ta:TA):TI:=fun σ H R=>ta σ H fun vs H1=>∃ i j:Int,vs=[.int i,.int j,.int (-1)]/\Dv.rngOk i=true/\Dv.rngOk j=true/\R (ItD i (i-j).toNat) H1
theorem small_dn {i j:Int}(h1:Dv.rngOk i=true)(h2:Dv.rngOk j=true):Builtin.Range.small i j (-1)=true:=by
 simp only[Dv.rngOk,Bool.and_eq_true,decide_eq_true_eq] at h1 h2
 have hz:=rangeSize_dn i j
 unfold Builtin.Range.small
 rw[hz]
 simp only[Builtin.Range.rangeFitsLong,Bool.and_eq_true,Bool.or_eq_true,decide_eq_true_eq,beq_iff_eq,show ¬ ((-1:Int) > 0) by decide,if_false]
 omega
theorem pi_range3 {X:Cx}{tg:Expr}{a b c:Expr}{ta:TA}{p pos:Pos}(hg:Gl X "range")(hm:X.mg "range"=none)(ha:PA X [a,b,c] ta)(hs:starEach [a,b,c] X.env=(false,eval a X.env)::starEach [b,c] X.env)(hpl:(backTo pos (starEach [b,c] X.env)).any (·.1)=false) :
  PI X tg (.Call (.Name "range" p) [a,b,c] [] pos) (iRng3 ta):=by
 intro pins s σ H R I h
 refine Call_ (ld_blt I hg hm boot_range (PyProof.Rows.callWith_type1 (thn (ha pos pins s σ H _ I h) fun us s1 ⟨vs,H1,I1,r1,q1⟩=>?_) hs hpl))
 obtain⟨i,j,e,q1,q2,q⟩:=q1
 subst e
 cases r1 with
 | cons r rr =>
  cases rr with
  | cons r' rr =>
   cases rr with
   | cons r'' rr =>
   cases rr
   obtain⟨t,rfl⟩:=r
   obtain⟨t',rfl⟩:=r'
   obtain⟨t'',rfl⟩:=r''
   refine call_range_3 (by decide) ?_ (Or.inl (PyProof.noPylong_of_log2 (by decide +kernel)))
   refine wpAny_pyIter_range (IsRange.new ..) (small_dn q1 q2) ?_
   have I2:Inv X pins σ H1 { s1 with heap:=s1.heap.push { cls:=.type "range",data:=.fields #[.int i t,.int j t',.int (-1) t''] } }:=I1.kept (t':=s1.toks) fun b o e=>Heap.get?_push_of_some _ e
   refine⟨(s1.heap.push { cls:=.type "range",data:=.fields #[.int i t,.int j t',.int (-1) t''] }).objs.size,[(s1.heap.push { cls:=.type "range",data:=.fields #[.int i t,.int j t',.int (-1) t''] }).objs.size],_,_,H1,rfl,
    I2.kept (t':=s1.toks) fun b o e=>Heap.get?_push_of_some _ e,turn_down _ i (i-j).toNat,?_,fun b hb=>?_,q⟩
   ·have e1:i+((0:Nat):Int)*(-1)=i:=by simp
    have e2:(((i-j).toNat:Nat):Int)-((0:Nat):Int)=Builtin.Range.rangeSize i j (-1):=by rw[rangeSize_dn]; omega
    show IsRangeIter _ _ (i+((0:Nat):Int)*(-1)) ((((i-j).toNat:Nat):Int)-((0:Nat):Int)) (-1)
    rw[e1,e2]
    exact Heap.get?_push_size _ rfl
   ·have e:b=(s1.heap.push { cls:=.type "range",data:=.fields #[.int i t,.int j t',.int (-1) t''] }).objs.size:=by simpa using hb
    subst e
    exact I2.fpOk (Nat.le_refl _) (I2.hok.fresh (Nat.le_refl _))
theorem down_get (hi:Int):∀ (n i:Nat) (d:D),(Dv.downL hi n)[i]?=some d->i<n/\d=.int (hi-i)
 | 0,i,d,h=>by simp[Dv.downL] at h
 | n+1,0,d,h=>by simp[Dv.downL] at h; subst h; simp
 | n+1,i+1,d,h=>by
  have:=down_get (hi-1) n i d (by simpa[Dv.downL] using h)
  refine⟨by omega,?_⟩
  rw[this.2]
  congr 1
  omega
theorem down_len:∀ (n:Nat) (hi:Int),(Dv.downL hi n).length=n
 | 0,hi=>rfl
 | n+1,hi=>by unfold Dv.downL; rw[List.length_cons,down_len n]
theorem wlk_down {K:PySem.W.Frag}{Hv:Hp}(hi:Int)(n:Nat):Wlk K (ItD hi n) Hv (Dv.downL hi n):=fun i H s=>⟨fun d hd=>by
 obtain⟨h1,rfl⟩:=down_get hi n i d hd
 exact⟨h1,fun v H' ⟨e1,e2⟩=>by subst e1 e2; exact⟨Hv,.refl s,rp_int⟩⟩,fun e=>by
 rw[down_len] at e
 show n<=i
 omega⟩
section
variable {C:Ctx}{a b c e:Expr}{f g h:EE}{pos:Pos}
end
noncomputable def OkR (K:PySem.W.Frag)(Hv H:Hp)(W:XK)(cls:String->Value)(r:RI)(T:It->Hp->Prop):Prop:=match r with
 | .ok ds _=>∀ J Hv' H',Ext Hv H Hv' H'->(∀ Hc,Wlk K J Hc ds)->T J H'
 | .exc c=>∀ Hv' H',Ext Hv H Hv' H'->W (cls c) none H'
 | .bad=>False
noncomputable def SR (C:Ctx)(tg it:Expr)(f:EI):Prop :=
 ∃ t:TI,PI C.X tg it t/\∀ σ H Hv ρ T,EnvR C.X.K Hv ρ σ->Same Hv H->OkR C.X.K Hv H (C.W σ) C.cls (f ρ) T->t σ H T
section
variable {C:Ctx}{a b c e:Expr}{f g h:EE}{F:SS}{pos pos':Pos}
theorem sr_down {tg:Expr}{p:Pos}(hg:Gl C.X "range")(hm:C.X.mg "range"=none)(he:SE C e f)(hb:SE C b g)(hc:SE C c (Dv.eNeg (Dv.eInt 1)))(hs:autoParam (starEach [e,b,c] C.X.env=(false,eval e C.X.env)::starEach [b,c] C.X.env) Au.h4._auto_1)
  (hs2:autoParam (starEach [b,c] C.X.env=(false,eval b C.X.env)::starEach [c] C.X.env) Au.h4._auto_1) (hs3:autoParam (starEach [c] C.X.env=[(false,eval c C.X.env)]) Au.h4._auto_1):SR C tg (.Call (.Name "range" p) [e,b,c] [] pos) (Dv.iDown f g):=by
 obtain⟨t,pe,q⟩:=he
 obtain⟨t2,pe2,q2⟩:=hb
 obtain⟨t3,pe3,q3⟩:=hc
 refine⟨_,pi_range3 hg hm (pa_cons pe (pa_cons pe2 (pa_cons pe3 pa_nil hs3) hs2) hs) hs (by rw[hs2,hs3]; rfl),fun σ H Hv ρ T er s w=>?_⟩
 refine q σ H Hv ρ _ er s ?_
 unfold Dv.iDown at w
 cases hf:f ρ with
 | bad=>rw[hf] at w; exact w
 | exc c=>rw[hf] at w; exact w
 | ok d fr =>
  rw[hf] at w
  intro v Hv' H' x rp n
  cases d with
  | int i =>
   refine q2 σ H' Hv' ρ _ (er.same x.vv) x.vh ?_
   cases hg':g ρ with
   | bad=>simp only[hg'] at w; exact w
   | exc c=>simp only[hg'] at w; exact fun Hv2 H2 y=>w Hv2 H2 (x.trans y)
   | ok d2 fr2 =>
    simp only[hg'] at w
    intro v2 Hv2 H2 y rp2 n2
    cases d2 with
    | int j =>
     by_cases hr:(Dv.rngOk i&&Dv.rngOk j)=true
     ·simp only[hr,if_true] at w
      rw[Bool.and_eq_true] at hr
      refine q3 σ H2 Hv2 ρ _ ((er.same x.vv).same y.vv) y.vh ?_
      intro v3 Hv3 H3 z rp3 n3
      unfold Rp at rp rp2 rp3
      subst rp rp2 rp3
      exact⟨i,j,rfl,hr.1,hr.2,w _ Hv3 H3 ((x.trans y).trans z) fun _=>wlk_down i _⟩
     ·simp only[hr] at w; exact(show False from w).elim
    | _=>exact(show False from w).elim
  | _=>exact(show False from w).elim
theorem st_forR {i:Nat}{x:Str}{it:Expr}{body:List Stmt}{fi:EI}(hi:SR C (.Name x pos') it fi)(hb:SSs C body F)(hN:C.X.N.Nodup)(hn:C.X.N[i]?=some x)(hx:Loc C.X.env.scope x)
  (hf:autoParam (C.X.fn x=true\/C.X.env.scope.names.lookup x=some .local) Au.h1._auto_1) (hs:autoParam (∀ x,foldedSetIterable it C.X.env x=pure x) Au.h3._auto_1) (hcalm:autoParam (C.X.calm=true) Au.h4._auto_1) :
  SSt C (.For (.Name x pos') it body [] pos) (Dv.sForR i fi F):=by
 obtain⟨wi,pi,qi⟩:=hi
 obtain⟨g,pg,qg⟩:=sg_name (C:=C) (pos:=pos') hN hn hx hf
 obtain⟨tb,pb,qb⟩:=hb
 refine⟨_,ps_for C.own hcalm pi pg pb hs,fun Hv₀ H₀ E σ H st ⟨Hc,O,r⟩ w=>?_⟩
 unfold Dv.sForR at w
 refine qi σ H (Hall Hc O H) (Dv.all st) _ r.envAll r.allH ?_
 cases hf:fi (Dv.all st) with
 | bad=>simp only[hf] at w; exact w
 | exc c=>simp only[hf] at w; exact fun Hv' H' x=>w σ H' ⟨Hc,O,r.grow x.hh x.nf⟩
 | ok ds fr =>
  simp only[hf] at w
  intro J Hv' H' x wl
  have r1:=r.grow x.hh x.nf
  rw[<- forGo_T] at w
  exact for_ok qg qb (wl Hc) ⟨Hc,O,r1.self⟩ (w.less r1.vc r1.new)
end
noncomputable def ItE (K:PySem.W.Frag)(l:Addr):It :=
  ⟨fun i H=>∃ (xs:List V) (x:V),SqL K H l xs/\xs[i]?=some x,
   fun i H v H'=>∃ p,H p=none/\v=.ref p/\∀ xs,SqL K H l xs->∃ x,xs[i]?=some x/\H'=upd H p (.tup [.int i,x]),
   fun i H=>∃ xs,SqL K H l xs/\xs.length<=i⟩
theorem turn_enum {P:Program}{w:World}{K:PySem.W.Frag}{es:List Expr}{kt:Nat}{tpos:Pos}{z i1 l:Addr}(hne:z≠i1)(hl1:l≠z)(hl2:l≠i1) :
  Turn P w K (.Tuple es kt tpos) (ItE K l) [z,i1] z (fun i h=>(∃ old,IsEnum h z i1 i old)/\h.IsListIter i1 l i) where
 mem:=by simp
 obj:=fun i h ⟨⟨old,a1⟩,⟨o4,e4,_,d4⟩⟩ b hb=>by
  simp only[List.mem_cons,List.not_mem_nil,or_false] at hb
  rcases hb with rfl|rfl
  ·exact⟨_,a1,fun v q=>by cases q⟩
  ·exact⟨_,e4,fun v q=>by rw[d4] at q; cases q⟩
 keep:=fun i h h' ⟨⟨old,a1⟩,a4⟩ k=>⟨⟨old,k z (by simp) _ a1⟩,a4.at fun o e=>k i1 (by simp) o e⟩
 item:=by
  intro X hP hw hK hc i pins s σ H E I hf ⟨⟨old,a1⟩,a4⟩ hg
  subst hP hw hK
  obtain⟨xs,x,hq1,hx⟩:=hg
  obtain⟨its1,r1,p1,z1⟩:=I.list hq1
  obtain⟨u1,e1,ru1⟩:=r1.get hx
  refine wpAny_pyNext_enum_item a1 a4 p1.isList (x:=u1) (by simpa using e1) hne fun h' b1 b3 b5 b6 kk=>?_
  refine⟨_,rfl,wpAny_letOwnedTupleGo_enum b1 fun h2 hz sb=>?_⟩
  have hf0:H s.heap.objs.size=none:=I.hok.fresh (Nat.le_refl _)
  have ltz:s.heap.objs.size≠z:=Nat.ne_of_gt (Heap.lt_size a1)
  have kept:∀ b o,b∉[z,i1]->s.heap.get? b=some o->h2.get? b=some o:=fun b o hb e=>by
   simp only[List.mem_cons,List.not_mem_nil,or_false,not_or] at hb
   exact(sb.2 b hb.1).trans (kk b o hb.1 hb.2 e)
  have I0:Inv X pins σ H { s with toks:=s.toks+1 }:=I.tok _
  have I2:Inv X pins σ H { s with heap:=h2,toks:=s.toks+1 }:=Inv.but I0 hf kept
  have tp:IsTup h2 s.heap.objs.size #[.int i s.toks,u1]:=⟨_,(sb.2 _ ltz).trans b5,rfl,_,rfl⟩
  have I3:Inv X pins σ (upd H s.heap.objs.size (.tup [.int i,x])) { s with heap:=h2,toks:=s.toks+1 }:=by
   have hk2:HOk X.prog X.w (upd H s.heap.objs.size (.tup [.int i,x])) h2:=hok_track I2.hok hf0 ⟨by show 2<=sizeLine; decide,[.int i s.toks,u1],.cons ⟨_,rfl⟩ (.cons ru1 .nil),tp⟩
   have nsz:∀ b o,s.heap.get? b=some o->b≠s.heap.objs.size:=fun b o e=>Nat.ne_of_lt (Heap.lt_size e)
   refine I.step (g':=s.gens) (d':=s.drawn) (t':=s.toks+1) (ch:=[z,i1]) (fun b hb=>⟨(hf b hb).2.2.2.1,(hf b hb).2.1,(hf b hb).2.2.2.2.1,(hf b hb).2.2.2.2.2⟩) (fun b o _ _ hc e _=>kept b o hc e) (fun b o _ _ hc e _=>⟨o.slots,kept b o hc e⟩) (fun b o _ e n=>by rw[upd_ne (nsz b o e)]; exact n)
    (fun b o hc e=>⟨o,kept b o hc e⟩) (fun b us e=>by rw[upd_ne (ne_of_none e hf0)]; exact e) (fun b ob us e=>by rw[upd_ne (ne_of_none e hf0)]; exact e) (fun b ps e=>⟨#[],by rw[upd_ne (ne_of_none e hf0),e]; simp⟩) (fun m hm=>?_) hk2 I.bare
   obtain⟨o,es,ep,ho,r⟩:=hm
   exact⟨o,es,ep,kept _ _ (fun hb=>(hf _ hb).2.1 rfl) ho,r⟩
  have c4:h2.IsListIter i1 l (i+1):=b3.extBut sb.extBut (Ne.symm hne)
  refine⟨.ref s.heap.objs.size,_,I3,rfl,⟨s.heap.objs.size,hf0,rfl,fun as h1=>?_⟩,⟨⟨u1,by exact_mod_cast hz⟩,c4⟩,fun b hb=>?_⟩
  ·exact⟨x,by rw[I.list_inj h1 hq1]; exact hx,rfl⟩
  ·have hbs:b≠s.heap.objs.size:=by
    simp only[List.mem_cons,List.not_mem_nil,or_false] at hb
    rcases hb with rfl|rfl
    ·exact Nat.ne_of_lt (Heap.lt_size a1)
    ·obtain⟨o,e,_⟩:=a4; exact Nat.ne_of_lt (Heap.lt_size e)
   rw[upd_ne hbs]
   exact(hf b hb).1
 done:=by
  intro X hP hw hK hc i pins s σ H E I hf ⟨⟨old,a1⟩,a4⟩ hg
  subst hP hw hK
  obtain⟨xs,hq1,hx⟩:=hg
  obtain⟨its1,r1,p1,z1⟩:=I.list hq1
  have n1:=r1.length
  refine wpAny_pyNext_enum_end (I.ok.hd hc) a1 a4 p1.isList (by simp; omega) fun h' kk=>⟨rfl,Inv.but I hf fun b o hb e=>?_⟩
  simp only[List.mem_cons,List.not_mem_nil,or_false,not_or] at hb
  exact kk b o hb.2 e
 self:=fun _ _ _ _ _ st h=>wpAny_pyIter_enum st.1.choose_spec h
noncomputable def iEnumR (K:PySem.W.Frag)(ta:TA):TI:=fun σ H T=>ta σ H fun vs H1=>∃ l xs,vs=[.ref l]/\SqL K H1 l xs/\T (ItE K l) H1
theorem pi_enum {X:Cx}{a:Expr}{ta:TA}{es:List Expr}{kt:Nat}{tpos p pos:Pos}(hg:Gl X "enumerate")(hm:X.mg "enumerate"=none)(ha:PA X [a] ta)(hs:starEach [a] X.env=[(false,eval a X.env)]) :
  PI X (.Tuple es kt tpos) (.Call (.Name "enumerate" p) [a] [] pos) (iEnumR X.K ta):=by
 intro pins s σ H R I h
 refine Call_ (ld_blt I hg hm (by decide +kernel:bootBuiltins "enumerate"=some (.type "enumerate")) (PyProof.Rows.callWith_type1 (thn (ha pos pins s σ H _ I h) fun us s1 ⟨vs,H1,I1,r1,q1⟩=>?_) hs rfl))
 obtain⟨l,xs,rfl,hq1,q⟩:=q1
 obtain⟨u1,rfl,e1⟩:=vals1 r1
 cases e1
 obtain⟨its1,rr1,p1,z1⟩:=I1.list hq1
 refine call_enumerate_list p1.isList fun h' c1 c4 c6 kk=>?_
 have lt1:l<s1.heap.objs.size:=by obtain⟨o,e,_⟩:=p1.isList; exact Heap.lt_size e
 have I2:Inv X pins σ H1 { s1 with heap:=h' }:=I1.kept (t':=s1.toks) kk
 refine wpAny_pyIter_enum c1 ⟨s1.heap.objs.size+1,[s1.heap.objs.size+1,s1.heap.objs.size],_,_,H1,rfl,I2,turn_enum (Nat.succ_ne_self _) (Nat.ne_of_lt (Nat.lt_succ_of_lt lt1)) (Nat.ne_of_lt lt1),⟨⟨.none,c1⟩,c4⟩,fun b hb=>?_,q⟩
 have hb':s1.heap.objs.size<=b:=by
  simp only[List.mem_cons,List.not_mem_nil,or_false] at hb
  rcases hb with rfl|rfl
  ·exact Nat.le_add_right _ _
  ·exact Nat.le_refl _
 exact I1.fpOk hb' (I1.hok.fresh hb')
theorem enum_get:∀ {xs:List D} {k i:Nat} {d:D},(Dv.enumL k xs)[i]?=some d->∃ x,xs[i]?=some x/\d=.tup [.int ((k+i:Nat):Int),x]
 | [],k,i,d,h=>by simp[Dv.enumL] at h
 | x::r,k,0,d,h=>by simp[Dv.enumL] at h; subst h; exact⟨x,rfl,by simp⟩
 | x::r,k,i+1,d,h=>by
  obtain⟨y,h1,h2⟩:=enum_get (k:=k+1) (i:=i) (d:=d) (xs:=r) (by simpa[Dv.enumL] using h)
  refine⟨y,by simpa using h1,?_⟩
  rw[h2]
  have:k+1+i=k+(i+1):=by omega
  rw[this]
theorem enum_len:∀ (xs:List D) (k:Nat),(Dv.enumL k xs).length=xs.length
 | [],k=>rfl
 | x::r,k=>by unfold Dv.enumL; rw[List.length_cons,List.length_cons,enum_len r]
theorem si_enum {C:Ctx}{a:Expr}{f:EE}{es:List Expr}{kt:Nat}{tpos p pos:Pos}(hg:Gl C.X "enumerate")(hm:C.X.mg "enumerate"=none)(ha:SE C a f)(hs:autoParam (starEach [a] C.X.env=[(false,eval a C.X.env)]) Au.h4._auto_1) :
  SI C (.Tuple es kt tpos) (.Call (.Name "enumerate" p) [a] [] pos) (Dv.iEnum f):=by
 obtain⟨t,pe,q⟩:=ha
 refine⟨_,pi_enum hg hm (pa_cons pe pa_nil hs) hs,fun σ H Hv ρ T er s w=>?_⟩
 refine q σ H Hv ρ _ er s ?_
 unfold Dv.iEnum at w
 cases hf:f ρ with
 | bad=>rw[hf] at w; exact w
 | exc c=>rw[hf] at w; exact w
 | ok d fr =>
  rw[hf] at w
  intro v Hv' H' x rp n
  cases d with
  | lst xs =>
   unfold Rp at rp
   obtain⟨l1,vs,rfl,h1,h2⟩:=rp
   refine⟨l1,vs,rfl,(h1.same x.vh).seq,w _ Hv' H' x fun i H3 s3=>⟨fun d hd=>?_,fun hi=>?_⟩⟩
   ·obtain⟨dx,g1,rfl⟩:=enum_get hd
    obtain⟨vx,k1,k2⟩:=h2.get g1
    refine⟨⟨vs,vx,(h1.same s3).seq,k1⟩,fun u H4 ⟨p,hp,e1,hh⟩=>?_⟩
    obtain⟨x',m1,rfl⟩:=hh vs (h1.same s3).seq
    rw[k1] at m1
    cases m1
    subst e1
    have nx:=Ext.new1 s3 hp (.tup [.int i,vx])
    refine⟨_,nx,?_⟩
    unfold Rp
    refine⟨p,_,rfl,.inl upd_same,.cons ?_ (.cons (k2.same nx.vv) .nil)⟩
    unfold Rp
    simp
   ·refine⟨vs,(h1.same s3).seq,?_⟩
    rw[h2.length]
    rw[enum_len] at hi
    omega
  | _=>exact(show False from w).elim
theorem look_some {K:PySem.W.Frag}{H:Hp}{j:Int}{d:D}:∀ {ks:List Int} {ds:List D} {vs:List V},RpL K H ds vs->Dv.look ks ds j=some d->∃ v,valV ((ks.map (Sum.inl:Int->Key)).zip vs) (Sum.inl j)=some v/\Rp K H d v
 | [],ds,vs,h,e=>by simp[Dv.look] at e
 | k::ks,[],vs,h,e=>by simp[Dv.look] at e
 | k::ks,x::ds,vs,h,e=>by
  unfold RpL at h
  obtain⟨v,ws,rfl,h1,h2⟩:=h
  unfold Dv.look at e
  rw[List.map_cons,List.zip_cons_cons]
  by_cases hk:k=j
  ·rw[if_pos hk] at e
   cases e
   exact⟨v,valV_pos (by rw[hk]),h1⟩
  ·rw[if_neg hk] at e
   obtain⟨u,h3,h4⟩:=look_some h2 e
   exact⟨u,by rw[valV_neg (fun z=>hk (Sum.inl.inj z))]; exact h3,h4⟩
theorem dput_repl {K:PySem.W.Frag}{H:Hp}{j:Int}{x:D}{v:V}(rx:Rp K H x v):∀ {ks:List Int} {ds:List D} {vs:List V},ks.length=ds.length->RpL K H ds vs ->
  ∃ ws,((ks.map (Sum.inl:Int->Key)).zip vs).map (fun kv=>if kv.1=Sum.inl j then (kv.1,v) else kv)=(ks.map (Sum.inl:Int->Key)).zip ws/\RpL K H (Dv.replL ks ds j x) ws/\(Dv.replL ks ds j x).length=ds.length
 | [],[],vs,_,h=>⟨[],rfl,by unfold Dv.replL; exact .nil,rfl⟩
 | [],_::_,vs,hl,h=>by cases hl
 | _::_,[],vs,hl,h=>by cases hl
 | k::ks,d::ds,vs,hl,h=>by
  unfold RpL at h
  obtain⟨u,us,rfl,h1,h2⟩:=h
  obtain⟨ws,e1,e2,e3⟩:=dput_repl rx (by simpa using hl) h2
  unfold Dv.replL
  rw[List.map_cons,List.zip_cons_cons,List.map_cons,e1]
  by_cases hk:k=j
  ·subst hk
   exact⟨v::ws,by simp,by rw[if_pos rfl]; exact .cons rx e2,by simp[e3]⟩
  ·have:¬ ((Sum.inl k:Key)=Sum.inl j):=fun z=>hk (Sum.inl.inj z)
   exact⟨u::ws,by simp[hk],by rw[if_neg hk]; exact .cons h1 e2,by simp[e3]⟩
theorem any_key {j:Int}:∀ {ks:List Int} {vs:List V},ks.length=vs.length->(((ks.map (Sum.inl:Int->Key)).zip vs).any fun kv=>decide (kv.1=Sum.inl j))=decide (j∈ks)
 | [],[],_=>by simp
 | [],_::_,h=>by cases h
 | _::_,[],h=>by cases h
 | k::ks,v::vs,h=>by
  rw[List.map_cons,List.zip_cons_cons,List.any_cons,any_key (by simpa using h)]
  by_cases hk:k=j
  ·subst hk; simp
  ·have h1:¬ ((Sum.inl k:Key)=Sum.inl j):=fun z=>hk (Sum.inl.inj z)
   have h2:¬ j=k:=fun z=>hk z.symm
   simp[h1,h2]
theorem dput_is {K:PySem.W.Frag}{H:Hp}{j:Int}{x:D}{v:V}{ks:List Int}{ds:List D}{vs:List V}(rx:Rp K H x v)(hl:ks.length=ds.length)(h:RpL K H ds vs) :
  ∃ ws,putK ((ks.map (Sum.inl:Int->Key)).zip vs) (Sum.inl j) v=((Dv.putKs ks j).map (Sum.inl:Int->Key)).zip ws/\RpL K H (Dv.putL ks ds j x) ws/\(Dv.putKs ks j).length=(Dv.putL ks ds j x).length:=by
 have hv:=h.length
 unfold putK Dv.putKs Dv.putL
 rw[any_key (by omega)]
 by_cases hj:j∈ks
 ·rw[if_pos (decide_eq_true hj),if_pos hj,if_pos hj]
  obtain⟨ws,e1,e2,e3⟩:=dput_repl (j:=j) rx hl h
  exact⟨ws,e1,e2,by rw[e3,hl]⟩
 ·rw[if_neg (by simp[hj]),if_neg hj,if_neg hj]
  refine⟨vs++[v],?_,h.append (.cons rx .nil),by simp[hl]⟩
  rw[List.map_append,List.zip_append (by simp; omega)]
  rfl
section
variable {C:Ctx}{a b c e k:Expr}{f g h:EE}{F G:SS}{pos pos':Pos}{E:Ends}
theorem se_dict0:SE C (.Dict [] [] pos) Dv.eDict0:=⟨_,pe_dnewK,fun σ H Hv ρ Q e s w p hp=>by
 refine w (.ref p) _ _ (Ext.new1 s hp (.dK [])) ?_ fun _=>?_
 ·unfold Rp; exact⟨p,[],rfl,rfl,.inl upd_same,.nil⟩
 ·unfold Rp; exact⟨p,[],rfl,rfl,.inl (Hnew.at hp _),.nil⟩⟩
theorem C_un1 (C:Ctx):C.X.A.units+1<cLine:=by have:=C.un; omega
theorem se_dix (ha:SE C a f)(hb:SE C b g)(hs:autoParam (NoSl b) Au.h8._auto_1):SE C (.Subscript a b pos) (Dv.eDix f g):=by
 obtain⟨ta,pa,qa⟩:=ha
 obtain⟨tb,pb,qb⟩:=hb
 refine⟨_,pe_dget (C_un1 C) pa pb hs,fun σ H Hv ρ Q e s w=>?_⟩
 refine qa.step e (.refl s) w fun v d fr Hv1 H1 _ x1 _ rp1 n1 q1=>qb.step e x1 q1 fun v2 d2 fr2 Hv2 H2 _ x2 y2 rp2 _ q2=>?_
 have rp:=rp1.same y2.vv
 have rn:fr=true->Rp [] (Hnew H H2) d v:=fun z=>(n1 z).same (Hnew.mono (.refl _) y2.hh)
 cases d with
 | dct ks ds =>
  cases d2 with
  | int j =>
   unfold Rp at rp2
   cases hk:Dv.look ks ds j with
   | none=>simp only[hk] at q2; exact(show False from q2).elim
   | some d0 =>
    simp only[hk] at q2
    cases fr with
    | true =>
     have rp:=rn rfl
     unfold Rp at rp
     obtain⟨a,vs,rfl,hl,h1,h2⟩:=rp
     obtain⟨v0,e1,e2⟩:=look_some h2 hk
     exact⟨a,v0,rfl,.inl ⟨_,Sum.inl j,Rd.same Hnew.sub h1,rp2,e1.symm⟩,q2 v0 Hv2 H2 x2 (Rp.frag (e2.same x2.news)) fun z=>e2⟩
    | false =>
     unfold Rp at rp
     obtain⟨a,vs,rfl,hl,h1,h2⟩:=rp
     obtain⟨v0,e1,e2⟩:=look_some h2 hk
     exact⟨a,v0,rfl,.inl ⟨_,Sum.inl j,Rd.same x2.vh h1,rp2,e1.symm⟩,q2 v0 Hv2 H2 x2 e2 fun z=>Rp.scal z e2⟩
  | _=>exact(show False from q2).elim
 | _=>exact(show False from q2).elim
theorem lsts_upd {R R':Hp}{a:Addr}{kvs:List (Key × V)}(ha:R a=some (.dK kvs))(hR:∀ b o,b≠a->R b=some o->R' b=some o):∀ {ds:List D} {vs:List V},Dv.lstsFlat ds=true->RpL [] R ds vs->RpL [] R' ds vs
 | [],vs,_,h=>by unfold RpL at h ⊢; exact h
 | d::r,vs,f,h=>by
  unfold RpL at h
  obtain⟨v,ws,rfl,h1,h2⟩:=h
  cases d with
  | lst es =>
   simp only[Dv.lstsFlat,Bool.and_eq_true] at f
   refine .cons ?_ (lsts_upd ha hR f.2 h2)
   unfold Rp at h1 ⊢
   obtain⟨b,us,rfl,h3,h4⟩:=h1
   refine⟨b,us,rfl,?_,h4.flat f.1⟩
   rcases h3 with (h3|⟨u,h3⟩)|⟨its,n,e,_⟩
   ·exact .inl (.inl (hR b _ (fun z=>by rw[z,ha] at h3; cases h3) h3))
   ·exact .inl (.inr ⟨u,hR b _ (fun z=>by rw[z,ha] at h3; cases h3) h3⟩)
   ·simp at e
  | _=>simp[Dv.lstsFlat] at f
theorem st_dmove {i y:Nat}{x yn:Str}{px py:Pos}(hk:SE C k g)(hN:autoParam (C.X.N[i]?=some x) Au.h4._auto_1)(hv:autoParam (Vis C.X.env.scope x) Au.h7._auto_1)
  (hd:autoParam ((x == ("__debug__":Str))=false) Au.h2._auto_1) (hcd:autoParam ((x == ("__classdict__":Str))=false) Au.h2._auto_1) (hNy:autoParam (C.X.N[y]?=some yn) Au.h4._auto_1) (hvy:autoParam (Vis C.X.env.scope yn) Au.h7._auto_1)
  (hdy:autoParam ((yn == ("__debug__":Str))=false) Au.h2._auto_1) (hcdy:autoParam ((yn == ("__classdict__":Str))=false) Au.h2._auto_1)
  (hs:autoParam (swapsWith (.Name yn py) (some (.Subscript (.Name x px) k pos')) pos.line C.X.env=pure false) Au.h4._auto_1):SSt C (.Assign [.Subscript (.Name x px) k pos'] (.Name yn py) pos) (Dv.sDMove i y g):=by
 obtain⟨t2,p2,q2⟩:=hk
 refine⟨_,ps_dput (C_un1 C) (pe_var hN hv hd hcd) p2 (pe_var hNy hvy hdy hcdy) hs,fun Hv₀ H₀ E σ H st ⟨Hc,O,r⟩ w=>?_⟩
 unfold Dv.sDMove at w
 cases hi:st[i]? with
 | none=>simp only[hi] at w; exact(show False from w).elim
 | some si =>
  cases hy:st[y]? with
  | none=>simp only[hi,hy] at w; cases si <;>first|exact(show False from w).elim|(rename_i d; cases d <;>exact(show False from w).elim)
  | some sy =>
   simp only[hi,hy] at w
   cases si with
   | dp d =>
    cases d with
    | dct ks ds =>
     cases sy with
     | ow d2 =>
      cases d2 with
      | lst es =>
       obtain⟨b,ob,b1,b2,us,rfl,b3⟩:=r.ow y _ hy
       obtain⟨v,h1,h2⟩:=r.dp i _ hi
       refine⟨_,b1,_,h1,?_⟩
       refine q2.all r (fun c hf H' r'=>?_) (fun hf=>?_) fun d fr v2 Hv' H' hf x r' rp n=>?_
       ·simp only[hf] at w; exact w σ H' ⟨Hc,O,r'⟩
       ·simp only[hf] at w; exact w
       ·cases d with
        | int j =>
         simp only[hf] at w
         by_cases z:(Dv.flatL es&&Dv.lstsFlat ds&&decide (ks.length<Dv.mx)&&decide (ks.length=ds.length)&&decide (i≠y))=true
         ·simp only[z,if_true] at w
          simp only[Bool.and_eq_true,decide_eq_true_eq] at z
          obtain⟨⟨⟨⟨z1,z2⟩,z3⟩,z4⟩,z5⟩:=z
          unfold Rp at rp
          subst rp
          unfold Rp at h2
          obtain⟨a,vs,rfl,hl,h3,h4⟩:=h2
          have ha:O i a=some (.dK ((ks.map Sum.inl).zip vs)):=by
           rcases h3 with h3|⟨u,h3⟩
           ·exact h3
           ·exact absurd (r.oh i a _ h3).1 (r.nf a _ _ (r.oh i a _ h3).2.2)
          have hba:b≠a:=fun z=>z5 (r.one i y a _ _ ha (by rw[<- z]; exact b2))
          have n1:∀ c o,O y c=some o->O i c=none:=fun c o h=>by
           cases q:O i c with
           | none=>rfl
           | some u=>exact absurd (r.one i y c u o q h) z5
          let R0:Hp:=joinH (O i) (O y)
          have hR:∀ kvs c o,c≠a->O i c=some o->upd R0 a (.dK kvs) c=some o:=fun kvs c o hc h=>by
           rw[upd_ne hc]; exact joinH_l c o h
          have rb:∀ kvs,Rp [] (upd R0 a (.dK kvs)) (.lst es) (.ref b):=fun kvs=>by
           unfold Rp
           exact⟨b,us,rfl,SqX.of (by rw[upd_ne hba]; exact joinH_r (fun c o h=>n1 c o h) b _ b2),b3.flat z1⟩
          obtain⟨ws,e1,e2,e3⟩:=dput_is (K:=[]) (j:=j) (H:=upd R0 a (.dK (putK ((ks.map Sum.inl).zip vs) (Sum.inl j) (.ref b)))) (rb _) hl (lsts_upd ha (hR _) z2 h4)
          refine⟨a,_,rfl,.inl ⟨_,Sum.inl j,x.hh _ _ (r.oh i a _ ha).1,rfl,?_,rfl⟩,w σ (upd H' a (.dK (putK ((ks.map Sum.inl).zip vs) (Sum.inl j) (.ref b)))) ⟨Hc,putO (putO O y fun _=>none) i (upd R0 a (.dK (putK ((ks.map Sum.inl).zip vs) (Sum.inl j) (.ref b)))),?_⟩⟩
          ·have z6:ks.length<100000:=z3
           have:=sizeLine_eq
           simp only[List.length_zip,List.length_map]
           omega
          ·have hσ:σ.set y (some (.ref b))=σ:=set_id b1
           have r1:RelC C.X.K Hv₀ H₀ Hc (putO O y fun _=>none) (st.set y .no) (σ.set y (some (.ref b))) H' :=
            r'.setAny r'.h0 r'.ch r'.nf (fun j hj=>putO_ne hj) (fun _ e=>nomatch e) (fun _ e=>nomatch e) (fun _ e=>nomatch e) (fun _ _ e=>nomatch e)
             (fun j c o h=>by
              by_cases hj:j=y
              ·rw[hj,putO_same] at h; cases h
              ·rw[putO_ne hj] at h; exact r'.oh j c o h)
             (fun j c o o' h=>by rw[putO_same] at h; cases h)
           rw[hσ] at r1
           have hσi:σ.set i (some (.ref a))=σ:=set_id h1
           have oo:∀ c o,R0 c=some o->H' c=some o/\Hc c=none/\H₀ c=none:=fun c o h=>by
            rcases joinH_of h with h|⟨_,h⟩
            ·exact r'.oh i c o h
            ·exact r'.oh y c o h
           have haH:=r'.oh i a _ ha
           have r2:=r1.setAny (i:=i) (s:=.dp (.dct (Dv.putKs ks j) (Dv.putL ks ds j (.lst es)))) (v:=some (.ref a)) (H':=upd H' a (.dK (putK ((ks.map Sum.inl).zip vs) (Sum.inl j) (.ref b)))) (O':=putO (putO O y fun _=>none) i (upd R0 a (.dK (putK ((ks.map Sum.inl).zip vs) (Sum.inl j) (.ref b)))))
            (fun c o h=>by rw[upd_ne (ne_of_none h haH.2.2)]; exact r1.h0 c o h) (fun c o h=>by rw[upd_ne (ne_of_none h haH.2.1)]; exact r1.ch c o h)
            (fun c q u h=>by
             by_cases hc:c=a
             ·subst hc; rw[upd_same]; intro z; cases z
             ·rw[upd_ne hc]; exact r1.nf c q u h)
            (fun j hj=>putO_ne hj) (fun _ e=>nomatch e) (fun _ e=>nomatch e)
            (fun d e=>by
             cases e
             refine⟨_,rfl,?_⟩
             rw[putO_same]
             unfold Rp
             exact⟨a,ws,rfl,e3,.inl (by rw[upd_same,e1]),e2⟩)
            (fun _ _ e=>nomatch e)
            (fun j' c o h=>by
             by_cases hj:j'=i
             ·rw[hj,putO_same] at h
              by_cases hc:c=a
              ·subst hc; rw[upd_same] at h ⊢; exact⟨h,haH.2⟩
              ·rw[upd_ne hc] at h ⊢; exact oo c o h
             ·rw[putO_ne hj] at h
              have hc:c≠a:=fun z=>by
               have h':=h
               by_cases hjy:j'=y
               ·rw[hjy,putO_same] at h'; cases h'
               ·rw[putO_ne hjy,z] at h'; exact hj (r.one j' i a _ _ h' ha)
              rw[upd_ne hc]
              exact r1.oh j' c o h)
            (fun j' c o o' h hj h'=>by
             rw[putO_same] at h
             by_cases hjy:j'=y
             ·rw[hjy,putO_same] at h'; cases h'
             ·rw[putO_ne hjy] at h'
              by_cases hc:c=a
              ·rw[hc] at h'; exact hj (r.one j' i a _ _ h' ha)
              ·rw[upd_ne hc] at h
               rcases joinH_of h with h|⟨_,h⟩
               ·exact hj (r.one j' i c _ _ h' h)
               ·exact hjy (r.one j' y c _ _ h' h))
           rw[hσi] at r2
           exact r2
         ·simp only[z] at w; exact(show False from w).elim
        | _=>simp only[hf] at w; exact(show False from w).elim
      | _=>exact(show False from w).elim
     | _=>exact(show False from w).elim
    | _=>cases sy <;>first|exact(show False from w).elim|(rename_i d; cases d <;>exact(show False from w).elim)
   | _=>cases sy <;>first|exact(show False from w).elim|(rename_i d; cases d <;>exact(show False from w).elim)
theorem st_setD {i:Nat}{x:Str}(he:SE C e f)(hN:C.X.N.Nodup)(hi:C.X.N[i]?=some x)(hx:Loc C.X.env.scope x)(hs:autoParam (swapsWith e (some (.Name x pos')) pos.line C.X.env=pure false) Au.h4._auto_1)
  (hf:autoParam (C.X.fn x=true\/C.X.env.scope.names.lookup x=some .local) Au.h1._auto_1):SSt C (.Assign [.Name x pos'] e pos) (Dv.sSetD i f):=by
 obtain⟨t,p,q⟩:=he
 refine⟨_,ps_set hN hi hx p hs hf,fun Hv₀ H₀ E σ H st ⟨Hc,O,r⟩ w=>?_⟩
 unfold Dv.sSetD at w
 refine q.all r (fun c hf H' r'=>?_) (fun hf=>?_) fun d fr v Hv' H' hf x r' rp n=>?_
 ·rw[hf] at w; exact w σ H' ⟨Hc,O,r'⟩
 ·rw[hf] at w; exact w
 ·rw[hf] at w
  cases fr with
  | false=>exact(show False from w).elim
  | true =>
   refine w _ H' ⟨Hc,_,r'.setDp (R:=Hnew H H') (fun b o h=>⟨Hnew.sub b o h,r.ch.free (Hnew_of h),r.h0.free (Hnew_of h),fun j _=>?_⟩) (n rfl)⟩
   cases z:O j b with
   | none=>rfl
   | some u=>have:=(r.oh j b u z).1; rw[Hnew_of h] at this; cases this
theorem st_retT {i:Nat}{x:Str}{px pt:Pos}{kt:Nat}(he:SE C e f)(hN:autoParam (C.X.N[i]?=some x) Au.h4._auto_1)(hv:autoParam (Vis C.X.env.scope x) Au.h7._auto_1)(hd:autoParam ((x == ("__debug__":Str))=false) Au.h2._auto_1)
    (hcd:autoParam ((x == ("__classdict__":Str))=false) Au.h2._auto_1) (h1:autoParam (starEach [.Name x px,e] C.X.env=(false,eval (.Name x px) C.X.env)::starEach [e] C.X.env) Au.h4._auto_1) (h2:autoParam (starEach [e] C.X.env=[(false,eval e C.X.env)]) Au.h4._auto_1) :
    SSt C (.Return (some (.Tuple [.Name x px,e] kt pt)) pos) (Dv.sRetT i f):=by
  obtain⟨t,p,q⟩:=he
  refine⟨_,ps_ret (pe_tup (pa_cons (pe_var hN hv hd hcd) (pa_cons p pa_nil h2) h1)),fun Hv₀ H₀ E σ H st ⟨Hc,O,r⟩ w=>?_⟩
  unfold Dv.sRetT at w
  cases hi:st[i]? with
  | none=>rw[hi] at w; exact(show False from w).elim
  | some s =>
    rw[hi] at w
    cases s with
    | ow d0 =>
     cases d0 with
     | lst ds =>
      obtain⟨a,o,g1,g2,vs,rfl,g3⟩:=r.ow i _ hi
      refine⟨_,g1,?_⟩
      refine q.all r (fun c hf H' r'=>?_) (fun hf=>?_) fun d fr v Hv' H' hf x r' rp n=>?_
      · simp only[hf] at w; exact w σ H' ⟨Hc,O,r'⟩
      · simp only[hf] at w; exact w
      · cases d with
        | lst es =>
          cases fr with
          | false=>simp only[hf] at w; exact(show False from w).elim
          | true =>
            simp only[hf] at w
            by_cases z:(Dv.flatL ds&&Dv.flatL es)=true
            · simp only[z,if_true] at w
              rw[Bool.and_eq_true] at z
              obtain⟨b,zs,rfl,hb,hbn,rl⟩:=new_lst x (n rfl)
              refine⟨by show 2<=sizeLine; decide,fun tt ht=>?_⟩
              have y:=x.trans (Ext.new1 x.vh ht (.tup [.ref a,.ref b]))
              obtain⟨Hv2,x2,s2⟩:=r.ret y
              have ha:H a=some (.lst vs):=(r.oh i a _ g2).1
              have na:a≠tt:=fun z=>by rw[<- z,x.hh _ _ ha] at ht; cases ht
              have nb:b≠tt:=fun z=>by rw[<- z,hb] at ht; cases ht
              have h0t:H₀ tt=none:=(r.h0.trans x.hh).free ht
              refine w (.ref tt) Hv2 _ x2 ?_ fun _=>?_
              · unfold Rp
                refine⟨tt,_,rfl,.inl (s2 _ _ upd_same),.cons ?_ (.cons ?_ .nil)⟩
                · unfold Rp
                  exact⟨a,vs,rfl,SqX.of (s2 _ _ (y.vv _ _ (r.oAll i a _ g2))),g3.flat z.1⟩
                · have:=(rp.same (Ext.new1 x.vh ht (.tup [.ref a,.ref b])).vv).same s2
                  exact this
              · unfold Rp
                refine⟨tt,[.ref a,.ref b],rfl,.inl ?_,.cons ?_ (.cons ?_ .nil)⟩
                · unfold Hnew; rw[h0t]; exact upd_same
                · unfold Rp
                  refine⟨a,vs,rfl,SqX.of ?_,g3.flat z.1⟩
                  unfold Hnew
                  rw[(r.oh i a _ g2).2.2]
                  show upd H' tt _ a=_
                  rw[upd_ne na]
                  exact x.hh _ _ ha
                · unfold Rp
                  refine⟨b,zs,rfl,SqX.of ?_,rl.flat z.2⟩
                  unfold Hnew
                  rw[r.h0.free hbn]
                  show upd H' tt _ b=_
                  rw[upd_ne nb]
                  exact hb
            · simp only[z] at w; exact(show False from w).elim
        | _=>simp only[hf] at w; exact(show False from w).elim
     | _=>exact(show False from w).elim
    | _=>exact(show False from w).elim
end
structure RoomH (k:Nat)(A:Around):Prop where
 dp:A.depth+3*k+5<recursionLimit
 un:A.units+16*k+200<cLine
theorem RoomH.deeper {k:Nat}{A:Around}(r:RoomH (k+1) A)(env:PySem.Env):RoomH k (A.deeper env) :=
 ⟨by have:=r.dp; show A.depth+1+3*k+5<_; omega,by have:=r.un; show A.units+3+16*k+200<_; omega⟩
theorem RoomH.depth {k:Nat}{A:Around}(r:RoomH k A):A.depth<recursionLimit:=by have:=r.dp; omega
theorem RoomH.units {k:Nat}{A:Around}(r:RoomH k A):A.units+64<cLine:=by have:=r.un; omega
structure FnOkH (P:Program)(w:World)(K:PySem.W.Frag)(mg:Str->Option Value)(base:Heap)(k:Nat)(f:Addr)(fd:FuncData)(ps:List Str)(sp:Sp):Prop where
 len:∀ vs H Q E,sp vs H Q E->vs.length=ps.length
 run:∀ (A:Around) (outer:List PySem.Env) (s:Shared) (H:Hp) (args:Args) (us:List Value) (vs:List V) (Q:VK),RoomH k A->Env0 P w K mg base A outer s H->BindsTo s fd args (ps.zip us)->Vals vs us->sp vs H Q E0 ->
  codeAny (model P w) A (.call (.ref f) args) (CR CX0 outer P w H s Q E0) s
section
variable {P:Program}{w:World}{K:PySem.W.Frag}{mg:Str->Option Value}{base:Heap}{CX:CXT}
end
section
variable {C:Ctx}{e:Expr}{es:List Expr}{fl:EL}{pos:Pos}
end
end Sd
namespace Dv
end Dv
namespace Sd
open PySem PySem.Spec PyProof.Rows L2
open Dv (D R RL EE EL EI RI Sl Out SS)
inductive NamesAre:List Expr->List Str->Prop
 | nil:NamesAre [] []
 | cons {x:Str} {p:Pos} {es:List Expr} {ts:List Str}:NamesAre es ts->NamesAre (.Name x p::es) (x::ts)
theorem NamesAre.length {es:List Expr}{ts:List Str}(h:NamesAre es ts):es.length=ts.length:=by
 induction h with
 | nil=>rfl
 | cons _ ih=>rw[List.length_cons,List.length_cons,ih]
structure CompNamesT (X:Cx)(scope:Scope)(ts:List Str)(fs:List Str)(is:List Nat):Prop where
 kind:scope.kind=.function
 cell:∀ y∈scope.names,y.2≠.cell
 names:∀ y∈scope.names,y.2=.local->scope.names.lookup y.1=some .local
 tgt:∀ t∈ts,scope.names.lookup t=some .local
 nd:(ts++fs).Nodup
 free:∀ y∈scope.names,y.2=.free->X.env.kindOf y.1=some .cell\/X.env.kindOf y.1=some .free
 fsf:∀ y∈fs,scope.names.lookup y=some .free
 len:is.length=fs.length
 at':∀ (j:Nat) (y:Str),fs[j]?=some y->∃ i,is[j]?=some i/\X.N[i]?=some y
section
variable {C:Ctx}{elt iter:Expr}{es:List Expr}{ts:List Str}{kt:Nat}{px pos:Pos}{ifs:List Expr}{scope:Scope}{fs:List Str}{is:List Nat}{fi:EI}{fe fc:EE}
structure CompAtT (C:Ctx)(ts:List Str)(fs:List Str)(is:List Nat)(scope:Scope)(cl:List (Str × Addr))(L Da:Addr)(s2:Shared)(H1 Hv1:Hp)(fp:List Addr)(tn:Nat->Heap->Prop)(σ:St)(ds:List D)(i:Nat)(os:St)(vs:List V)(xs:List D)(f1:Bool)(Hn Hvn:Hp)(s:Shared):Prop where
 le:i<=ds.length
 ol:os.length=ts.length
 inv:Inv (compCx C.X (ts++fs) scope cl L s2 H1 fp) [] (os++freeV σ is) Hn s
 at_:tn i s.heap
 fpn:∀ b∈fp,Hn b=none
 obj:∃ (its:List Value) (ne:Nat),s.heap.get? Da=some { cls:=.type "list",data:=.seq its.toArray ne }/\Vals vs its
 dn:Hn Da=none
 few:vs.length<=i
 ext:Ext Hv1 H1 Hvn Hn
 rp:RpL C.X.K Hvn xs vs
 fr:f1=true->RpL [] (Hnew H1 Hn) xs vs
end
section
variable {C:Ctx}{a b c e k:Expr}{f g h:EE}{F G:SS}{pos pos':Pos}{E:Ends}
end
end Sd
namespace Dv
end Dv
namespace Sd
open PySem PySem.Spec PyProof.Rows L2
open Dv (D R RL EE EL EI RI Sl Out SS)
section
variable {C:Ctx}{a b c e k:Expr}{f g h:EE}{F G:SS}{pos pos':Pos}{E:Ends}
end
end Sd
namespace Dv
noncomputable def shlD:D->D->R
 | .int i,.int j=>if decide (0<=j)&&decide (j<=1000)&&decide (i.natAbs<1000000) then .ok (.int (i*2 ^ j.toNat)) true else .bad
 | _,_=>.bad
noncomputable def iRev (a:EE):EI:=fun ρ=>match a ρ with
 | .ok (.lst xs) _=>.ok xs.reverse true
 | .exc c=>.exc c
 | _=>.bad
noncomputable def sUnpackL (is:List Nat)(xs:List Nat)(e:EE):SS:=fun st=>match e (open_ (give is st)) with
 | .ok (.lst ds) _=>if ds.length=xs.length then .nx (setAll xs ds (give is st)) else .bad
 | .exc c=>.exc c st
 | _=>.bad
noncomputable def rowOk:List D->Bool
 | []=>true
 | .tup es::r=>flatL es&&rowOk r
 | d::r=>scal d&&rowOk r
noncomputable def shapeG:List D->Option Nat
 | []=>some 0
 | .lst ds::r=>if rowOk ds then (shapeG r).map (max ds.length) else none
 | _::_=>none
noncomputable def sCopyKill (i j x:Nat):SS:=fun st=>match st[i]? with
 | some (.dp (.lst ds))=>match shapeG ds with
  | some m=>if decide (m<2000)&&decide (ds.length<=2000)&&decide (i≠x)&&decide (i≠j)&&decide (j≠x)&&decide (x<st.length)&&decide (j<st.length) then .nx (((st.set j (.sh (.lst ds))).set x .no).set i (.jk ds.length (m+ds.length))) else .bad
  | none=>.bad
 | _=>.bad
noncomputable def rowsOf:List D->Option (List (List Int))
 | []=>some []
 | .lst ds::r=>match intsOf ds,rowsOf r with
  | some ns,some rs=>some (ns::rs)
  | _,_=>none
 | _::_=>none
noncomputable def eCompTb (elt cond:EE)(is:List Nat)(it:EI):EE:=fun ρ=>match eComp elt cond is it ρ with
 | .ok (.lst xs) true=>match rowsOf xs with
  | some rows=>.ok (.tab rows) true
  | none=>.bad
 | .exc c=>.exc c
 | _=>.bad
noncomputable def eIxT (a k:EE):EE:=fun ρ=>(a ρ).bind fun x _=>(k ρ).bind fun y _=>match x,y with
 | .tab rows,.int j=>if 0<=j then match rows[j.toNat]? with
   | some r=>.ok (.lst (r.map .int)) false
   | none=>.bad
  else .bad
 | _,_=>.bad
noncomputable def sPutT (i:Nat)(a b e:EE):SS:=fun st=>match st[i]? with
 | some (.dp (.tab rows))=>match e (all st) with
  | .ok (.int d) _=>match a (all st) with
   | .ok (.int j) _=>match b (all st) with
    | .ok (.int k) _=>match rows[j.toNat]? with
     | some r=>if decide (0<=j)&&decide (0<=k)&&decide (k<r.length) then .nx (st.set i (.dp (.tab (rows.set j.toNat (r.set k.toNat d))))) else .bad
     | none=>.bad
    | _=>.bad
   | _=>.bad
  | _=>.bad
 | _=>.bad
noncomputable def sRetTb (a b c:EE)(i:Nat):SS:=fun st=>match a (all st) with
 | .ok (.int x) _=>match b (all st) with
  | .ok (.int y) _=>match c (all st) with
   | .ok (.int z) _=>match st[i]? with
    | some (.dp (.tab rows))=>.ret (.lst [.int x,.int y,.int z,.tab rows]) true
    | _=>.bad
   | _=>.bad
  | _=>.bad
 | _=>.bad
noncomputable def unTb (a b c x:Nat)(st:St):D->Out
 | .lst [.int i,.int j,.int k,.tab rows]=>if x<st.length then .nx ((((st.set a (.sh (.int i))).set b (.sh (.int j))).set c (.sh (.int k))).set x (.dp (.tab rows))) else .bad
 | _=>.bad
noncomputable def sUnpackTb (a b c x:Nat)(e:EE):SS:=fun st=>match e (all st) with
 | .ok d true=>unTb a b c x st d
 | .exc c=>.exc c st
 | _=>.bad
noncomputable def sRowDec (i r y:Nat)(k j e:EE):SS:=fun st=>match st[i]? with
 | some (.dp (.tab rows))=>match k (all st) with
  | .ok (.int a) _=>match rows[a.toNat]? with
   | some row=>match j (all (st.set r .no)) with
    | .ok (.int b) _=>match row[b.toNat]? with
     | some v=>if decide (0<=a)&&decide (0<=b)&&decide (i≠r)&&decide (i≠y)&&decide (r≠y)&&decide (r<st.length) then
       if 0<v then match e (all ((st.set r .no).set i (.dp (.tab (rows.set a.toNat (row.set b.toNat (v-1))))))) with
        | .ok (.int d) _=>match st[y]? with
         | some (.ow (.lst ds))=>if decide (ds.length<mx) then .nx (((st.set r .no).set i (.dp (.tab (rows.set a.toNat (row.set b.toNat (v-1)))))).set y (.ow (.lst (ds++[.int d])))) else .bad
         | _=>.bad
        | _=>.bad
       else .nx (st.set r .no)
      else .bad
     | none=>.bad
    | _=>.bad
   | none=>.bad
  | _=>.bad
 | _=>.bad
end Dv
namespace Sd
open PySem PySem.Spec PyProof.Rows L2
open Dv (D R RL EE EL EI RI Sl Out SS)
section
variable {C:Ctx}{a b c e:Expr}{f g h:EE}{pos:Pos}
end
section
variable {C:Ctx}{a b c e:Expr}{f g h:EE}{F:SS}{pos pos':Pos}
end
section
variable {prog:Program}{w:World}{A:Around}{E:Value->Shared->Prop}
theorem draw_list {it t:Addr}{items:Array Value}(hne:t≠it):∀ (n i:Nat) (s:Shared) (Q:List Value->Shared->Prop),s.heap.IsListIter it t i->s.heap.IsList t items->i+n<=items.size ->
  (∀ h',h'.IsListIter it t (i+n)->Heap.SameBut it s.heap h'->Q ((items.toList.drop i).take n) { s with heap:=h' })->wpAny (model prog w) A (draw (.ref it) n) Q E s
 | 0,i,s,Q,hit,_,_,hQ=>by
  show wpAny _ _ (pure []) Q E s
  exact wpAny_pure (by simpa using hQ s.heap hit (Heap.SameBut.refl ..))
 | n+1,i,s,Q,hit,ht,hle,hQ=>by
  have hlt:i<items.size:=by omega
  show wpAny _ _ (pyNext (.ref it) >>= _) Q E s
  refine wpAny_bind (wpAny_pyNext_list_item hit ht (x:=items[i]) (by simp[hlt]) fun h₁ hit₁ hs₁=>?_)
  refine wpAny_bind (wpAny_holding (draw_list hne n (i+1) _ _ hit₁ (ht.at fun o e=>(hs₁.2 t hne).trans e) (by omega) fun h₂ hit₂ hs₂=>wpAny_pure ?_))
  have hd:items.toList.drop i=items[i]::items.toList.drop (i+1):=by simp[List.drop_eq_getElem_cons,hlt]
  have:=hQ h₂ (by rw[show i+(n+1)=i+1+n by omega]; exact hit₂) (hs₁.trans hs₂)
  rw[hd,List.take_succ_cons] at this
  exact this
theorem unpackItems_list {s:Shared}{t:Addr}{items:Array Value}{Q:List Value->Shared->Prop}(hh:A.handled=none)(ht:s.heap.IsList t items)
  (hQ:∀ h',Heap.ExtBut s.heap.objs.size s.heap h'->Q items.toList { s with heap:=h' }):wpAny (model prog w) A (unpackItems (.ref t) items.size none) Q E s:=by
 have hlt:t≠s.heap.objs.size:=by obtain⟨o,ho,_⟩:=ht; exact Nat.ne_of_lt (Heap.lt_size ho)
 unfold unpackItems
 refine wpAny_bind ?_
 ·unfold notIterableAtAll
  refine wpAny_bind (wpAny_specialOf ht.typeIs slot_list_iter.lookup ?_)
  refine wpAny_pure ?_
  simp only[Bool.false_eq_true,if_false]
  refine wpAny_bind (wpAny_holding (wpAny_pyIter_list ht ?_))
  refine wpAny_bind (wpAny_holding (draw_list hlt items.size 0 _ _ ⟨_,Heap.get?_push_size _ rfl,rfl,rfl⟩ (ht.at fun o e=>Heap.get?_push_of_some _ e) (by omega) fun h₁ hit₁ hs₁=>?_))
  have hall:List.take items.size (List.drop 0 items.toList)=items.toList:=by
   rw[List.drop_zero]; exact List.take_of_length_le (by simp)
  rw[hall]
  rw[if_neg (by simp)]
  have ht₁:h₁.IsList t items:=ht.at fun o e=>(hs₁.2 t hlt).trans (Heap.get?_push_of_some _ e)
  refine wpAny_bind (wpAny_holding (wpAny_pyNext_list_end hh hit₁ ht₁ (by simp) fun h₂ he₂=>?_))
  simp only[Option.isSome_none,Bool.false_eq_true,if_false]
  refine wpAny_pure (hQ h₂ fun b o hb e=>he₂ b o hb (hs₁.extBut b o hb (Heap.get?_push_of_some _ e)))
theorem assign_Tuple_list {s:Shared}{env:PySem.Env}{elts:List Expr}{x1}{pos:Pos}{t:Addr}{items:Array Value}{Q:Unit->Shared->Prop}(hh:A.handled=none)(ht:s.heap.IsList t items)
  (hn:(assignEach elts env).length=items.size) (hstar:(assignEach elts env).findIdx? (·.1)=none)
  (h:∀ h',Heap.ExtBut s.heap.objs.size s.heap h'->wpAny (model prog w) A (assignInOrder ((assignEach elts env).map (·.2)) items.toList) Q E { s with heap:=h' }) :
  wpAny (model prog w) A (assign (.Tuple elts x1 pos) env (.ref t)) Q E s:=by
 rw[assign_Tuple]
 refine wpAny_bind (wpAny_standAt ?_)
 unfold unpack
 rw[hn,hstar]
 exact wpAny_bind (wpAny_holding (unpackItems_list hh ht h))
end
noncomputable def gLst (K:PySem.W.Frag)(n:Nat)(t:TGs):TG:=fun v σ H Q=>∃ a xs,v=.ref a/\SqL K H a xs/\xs.length=n/\t xs σ H Q
theorem pg_lst {X:Cx}{es:List Expr}{k:Nat}{t:TGs}{n:Nat}{pos:Pos}(hc:X.calm=true)(h:PGs X es t)
  (hn:autoParam ((assignEach es X.env).length=n) Au.h4._auto_1) (hst:autoParam ((assignEach es X.env).findIdx? (·.1)=none) Au.h4._auto_1):PG X (.Tuple es k pos) (gLst X.K n t):=by
 intro pins s σ H v u Q I r hw
 obtain⟨a,xs,e1,hq,hl,hw⟩:=hw
 subst e1
 cases r
 obtain⟨its,rv,ht,hz⟩:=I.list hq
 refine assign_Tuple_list (I.ok.hd hc) ht.isList (by simp[hn,<- hl,rv.length]) hst fun h' hx=>?_
 have I1:Inv X pins σ H { s with heap:=h' }:=I.kept (t':=s.toks) fun b o e=>hx b o (Nat.ne_of_lt (Heap.lt_size e)) e
 exact h pins _ σ H xs _ Q I1 (by simpa using rv) hw
section
variable {C:Ctx}{e:Expr}{f:EE}{pos:Pos}
theorem st_unpackL (is:List Nat){ts:List Expr}{xs:List Nat}{kt:Nat}{tpos:Pos}(he:SE C e f)(hg:SGs C ts xs)(hl:ts.length=xs.length)(hn:autoParam ((assignEach ts C.X.env).length=ts.length) Au.h4._auto_1)(hst:autoParam ((assignEach ts C.X.env).findIdx? (·.1)=none) Au.h4._auto_1)
  (hs:autoParam (swapsWithSole [.Tuple ts kt tpos] e pos.line C.X.env=pure false) Au.h4._auto_1) (hw:autoParam (swappedStores [.Tuple ts kt tpos] e C.X.env=pure none) Au.h4._auto_1) (h1:autoParam ((assignEach [.Tuple ts kt tpos] C.X.env).map (·.2)=[assign (.Tuple ts kt tpos) C.X.env]) Au.h4._auto_1) (hcl:autoParam (C.X.calm=true) Au.h4._auto_1) :
  SSt C (.Assign [.Tuple ts kt tpos] e pos) (Dv.sUnpackL is xs f):=by
 obtain⟨t,p,q⟩:=he
 obtain⟨g,pg,qg⟩:=hg
 refine⟨_,ps_asg p (pg_lst hcl pg hn hst) hs hw h1,fun Hv₀ H₀ E σ H st ⟨Hc0,O0,r0⟩ w=>?_⟩
 obtain⟨Hc,O,_,r⟩:=r0.give is
 unfold Dv.sUnpackL at w
 refine q.open r (fun c hf Hc' H' x=>?_) (fun hf=>?_) fun d fr v Hc' H' hf x r' rp=>?_
 ·simp only[hf] at w; exact w σ H' ⟨Hc0,O0,r0.grow x.hh x.nf⟩
 ·simp only[hf] at w; exact w
 ·simp only[hf] at w
  cases d with
  | lst ds =>
   by_cases hz:ds.length=xs.length
   ·simp only[hz,if_true] at w
    unfold Rp at rp
    obtain⟨a,vs,rfl,h2,h3⟩:=rp
    exact⟨a,vs,rfl,(h2.same x.vh).seq,by rw[h3.length,hz,hl],qg Hv₀ H₀ Hc' O H' σ _ ds vs _ r' h3 hz fun σ' r2=>w σ' H' ⟨Hc',O,r2⟩⟩
   ·simp only[hz,if_false] at w; exact(show False from w).elim
  | _=>exact(show False from w).elim
end
section
variable {C:Ctx}{a b c e:Expr}{f g h:EE}{F G:SS}{pos pos':Pos}
end
inductive RawL (K:PySem.W.Frag)(Hc:Hp):List D->List D->Prop
 | nil:RawL K Hc [] []
 | scal {d:D} {r r':List D}:Dv.scal d=true->RawL K Hc r r'->RawL K Hc (d::r) (d::r')
 | tup {es:List D} {a:Addr} {us:List V} {r r':List D}:Dv.flatL es=true->Hc a=some (.tup us)->RpL K Hc es us->RawL K Hc r r'->RawL K Hc (.tup es::r) (.raw a::r')
inductive RawLL (K:PySem.W.Frag)(Hc:Hp):List D->List D->Prop
 | nil:RawLL K Hc [] []
 | cons {es es' r r':List D}:RawL K Hc es es'->RawLL K Hc r r'->RawLL K Hc (.lst es::r) (.lst es'::r')
section
variable {K:PySem.W.Frag}{Hv₀ H₀ Hc:Hp}{O:Nat->Hp}{st:Dv.St}{σ:St}{H:Hp}
end
section
variable {C:Ctx}{f:EE}{E:Ends}
theorem sSetD_ok {t:TE}(q:Tak C t f)(i:Nat){Hv₀ H₀ H:Hp}{σ:St}{st:Dv.St}(r:Rel C.X.K Hv₀ H₀ st σ H)(w:OkS C Hv₀ H₀ E (Dv.sSetD i f st)):t σ H fun v H'=>E.nx (σ.set i (some v)) H':=by
 obtain⟨Hc,O,r⟩:=r
 unfold Dv.sSetD at w
 refine q.all r (fun c hf H' r'=>?_) (fun hf=>?_) fun d fr v Hv' H' hf x r' rp n=>?_
 ·rw[hf] at w; exact w σ H' ⟨Hc,O,r'⟩
 ·rw[hf] at w; exact w
 ·rw[hf] at w
  cases fr with
  | false=>exact(show False from w).elim
  | true =>
   refine w _ H' ⟨Hc,_,r'.setDp (R:=Hnew H H') (fun b o h=>⟨Hnew.sub b o h,r.ch.free (Hnew_of h),r.h0.free (Hnew_of h),fun j _=>?_⟩) (n rfl)⟩
   cases z:O j b with
   | none=>rfl
   | some u=>have:=(r.oh j b u z).1; rw[Hnew_of h] at this; cases this
end
section
variable {C:Ctx}{elt iter:Expr}{ifs:List Expr}{fe fc:EE}{fi:EI}{x:Str}{fs:List Str}{is:List Nat}{scope:Scope}{px pos:Pos}
end
theorem intsOf_map:∀ {ds:List D} {ns:List Int},Dv.intsOf ds=some ns->ds=ns.map .int
 | [],ns,h=>by simp[Dv.intsOf] at h; subst h; rfl
 | d::r,ns,h=>by
  cases d with
  | int i =>
   simp only[Dv.intsOf,Option.map_eq_some_iff] at h
   obtain⟨ms,h1,rfl⟩:=h
   rw[intsOf_map h1]; rfl
  | _=>simp[Dv.intsOf] at h
theorem rowsOf_I:∀ {xs:List D} {rows:List (List Int)},Dv.rowsOf xs=some rows->rowsI xs
 | [],_,_=>fun x hx=>by simp at hx
 | d::r,rows,h=>fun x hx=>by
  cases d with
  | lst ds =>
   simp only[Dv.rowsOf] at h
   cases h1:Dv.intsOf ds with
   | none=>rw[h1] at h; cases h
   | some ns =>
    cases h2:Dv.rowsOf r with
    | none=>rw[h1,h2] at h; cases h
    | some rs =>
     rcases List.mem_cons.mp hx with rfl|hx
     ·exact⟨ns,by rw[intsOf_map h1]⟩
     ·exact rowsOf_I h2 x hx
  | _=>simp[Dv.rowsOf] at h
theorem rows_refs {R:Hp}:∀ {xs:List D} {vs:List V} {rows:List (List Int)},Dv.rowsOf xs=some rows->RpL [] R xs vs->∃ bs,vs=bs.map V.ref/\Tbr R bs rows
 | [],vs,rows,h,r=>by
  simp[Dv.rowsOf] at h
  subst h
  unfold RpL at r
  exact⟨[],r,True.intro⟩
 | d::ds,vs,rows,h,r=>by
  cases d with
  | lst es =>
   simp only[Dv.rowsOf] at h
   cases h1:Dv.intsOf es with
   | none=>rw[h1] at h; cases h
   | some ns =>
    cases h2:Dv.rowsOf ds with
    | none=>rw[h1,h2] at h; cases h
    | some rs =>
     rw[h1,h2] at h
     cases h
     unfold RpL at r
     obtain⟨v,ws,rfl,hv,hr⟩:=r
     obtain⟨bs,e1,e2⟩:=rows_refs h2 hr
     unfold Rp at hv
     obtain⟨b,us,rfl,g1,g2⟩:=hv
     have e3:=RpL.ints h1 g2
     subst e3
     refine⟨b::bs,by rw[e1]; rfl,?_,e2⟩
     rcases g1 with g1|⟨_,_,e,_⟩
     ·exact g1
     ·simp at e
  | _=>simp[Dv.rowsOf] at h
theorem tbr_in {R:Hp}:∀ {bs:List Addr} {rows:List (List Int)},Tbr R bs rows->∀ b∈bs,R b≠none
 | [],_,_,b,hb=>by simp at hb
 | c::bs,[],h,b,hb=>h.elim
 | c::bs,r::rs,h,b,hb=>by
  rcases List.mem_cons.mp hb with rfl|hb
  ·rcases h.1 with q|⟨u,q⟩ <;>rw[q] <;>exact fun z=>nomatch z
  ·exact tbr_in h.2 b hb
theorem newTab {K:PySem.W.Frag}{Hv H Hv1 H1:Hp}{W:XK}{cls:String->Value}{Q:VK}{rows:List (List Int)}{xs:List D}{vs:List V}(okE:Ok K Hv H W cls (.ok (.tab rows) true) Q)(x:Ext Hv H Hv1 H1)(hi:rowsI xs)(hro:Dv.rowsOf xs=some rows)
  (hrl:RpL [] (Hnew H H1) xs vs) (nd:vs.Nodup) (p:Addr) (hp:H1 p=none):Q (.ref p) (upd H1 p (.lst vs)):=by
 obtain⟨bs,rfl,tb⟩:=rows_refs hro hrl
 have y:Ext Hv H (upd Hv1 p (.lst (bs.map V.ref))) (upd H1 p (.lst (bs.map V.ref))):=x.trans (Ext.new1 x.vh hp _)
 have hpb:p∉bs:=fun q=>by
  have h1:=tbr_in tb p q
  cases h2:Hnew H H1 p with
  | none=>exact h1 h2
  | some o=>have:=Hnew.sub _ _ h2; rw[hp] at this; cases this
 have ndb:bs.Nodup:=by
  have:=nd
  exact List.Pairwise.of_map V.ref (fun a b h e=>h (by rw[e])) this
 have hn:H p=none:=by
  cases q:H p with
  | none=>rfl
  | some o=>have:=x.hh _ _ q; rw[hp] at this; cases this
 have sub:Same (Hnew H H1) (Hnew H (upd H1 p (.lst (bs.map V.ref)))):=Hnew.mono (.refl _) fun b o h=>by rw[upd_ne (ne_of_none h hp)]; exact h
 have tb2:Tbr (Hnew H (upd H1 p (.lst (bs.map V.ref)))) bs rows:=tb.same fun q=>Rd.same sub q
 have top:Hnew H (upd H1 p (.lst (bs.map V.ref))) p=some (.lst (bs.map V.ref)):=by unfold Hnew; rw[hn]; exact upd_same
 have rn:Rp [] (Hnew H (upd H1 p (.lst (bs.map V.ref)))) (.tab rows) (.ref p):=by
  unfold Rp
  exact⟨p,bs,rfl,.inl top,hpb,ndb,tb2⟩
 exact okE _ _ _ y ((Rp.frag rn).same y.news) fun _=>rn
section
variable {C:Ctx}{elt iter:Expr}{x:Str}{px pos:Pos}{ifs:List Expr}{scope:Scope}{fs:List Str}{is:List Nat}{fi:EI}{fe fc:EE}
theorem comp_coreN {pins:List (Addr × Obj)}{s:Shared}{σ:St}{H Hv:Hp}{ρ:Dv.Env}{Q:VK}{use:Option (Value->Sem Unit)}{Q':Value->Shared->Prop}{pos':Pos}(hclm:C.X.calm=true)(S:CompNames C.X scope x fs is)(hi:SI C (.Name x px) iter fi)(he:∀ cl L s₀ H₀ ex,SE (compCtx C (x::fs) scope cl L s₀ H₀ ex) elt fe)(hc:∀ cl L s₀ H₀ ex,STs (compCtx C (x::fs) scope cl L s₀ H₀ ex) ifs fc)
  (hs:∀ v,foldedSetIterable iter C.X.env v=pure v) (I:Inv C.X pins σ H s) (er:EnvR C.X.K Hv ρ σ) (sv:Same Hv H) (ok:Ok C.X.K Hv H (C.W σ) C.cls (Dv.eCompTb fe fc is fi ρ) Q)
  (hfin:∀ Da L s5,CompFin C pins σ Q Da L s5->compPost (model C.X.prog C.X.w) C.X.A C.X.xe use Q' (.ref Da) L (.ok .next) s5) :
  wpAny (model C.X.prog C.X.w) C.X.A (comprehension (.ListComp elt [⟨.Name x px,iter,ifs,0⟩] scope pos) scope C.X.env pos' (newList []) false (eval iter C.X.env) use) Q' C.X.xe s:=by
 refine comp_coreG (Kp:=fun xs fr=>fr=true/\∃ rows,Dv.rowsOf xs=some rows/\Ok C.X.K Hv H (C.W σ) C.cls (.ok (.tab rows) true) Q) hclm S hi he hc hs I er sv ?_ (fun k x r n nd Da hd=>by obtain⟨e,rows,hro,okE⟩:=k; exact newTab okE x (rowsOf_I hro) hro (n e) (nd e (rowsOf_I hro)) Da hd) hfin
 unfold Dv.eCompTb Dv.eComp at ok
 cases hf:fi ρ with
 | bad=>simp only[hf] at ok; exact ok
 | exc c=>simp only[hf] at ok; exact ok
 | ok ds g =>
  simp only[hf] at ok
  by_cases hz:ds.length<=Dv.mx
  ·simp only[hz,if_true] at ok
   cases hgo:Dv.compGo fe fc (Dv.pick ρ is) ds with
   | bad=>simp only[hgo] at ok; exact(show False from ok).elim
   | exc c=>simp only[hgo] at ok; exact(show False from ok).elim
   | ok xs fr =>
    simp only[hgo] at ok
    cases fr with
    | false=>exact(show False from ok).elim
    | true =>
     cases hro:Dv.rowsOf xs with
     | none=>simp only[hro] at ok; exact(show False from ok).elim
     | some rows =>
      simp only[hro] at ok
      exact fun J Hv1 H1 x1 wl=>⟨Hv1,ds,xs,true,x1,wl,hz,hgo,rfl,rows,hro,ok⟩
  ·simp only[hz,if_false] at ok
   exact(show False from ok).elim
theorem ps_setCompTb {i:Nat}{y:Str}{py spos:Pos}(S:CompNames C.X scope x fs is)(hi:SI C (.Name x px) iter fi)(he:∀ cl L s₀ H₀ ex,SE (compCtx C (x::fs) scope cl L s₀ H₀ ex) elt fe)(hc:∀ cl L s₀ H₀ ex,STs (compCtx C (x::fs) scope cl L s₀ H₀ ex) ifs fc)
  (hN:C.X.N.Nodup) (hy:C.X.N[i]?=some y) (hl:C.X.env.scope.names.lookup y=some .local) (hsw:swapsWith (.ListComp elt [⟨.Name x px,iter,ifs,0⟩] scope pos) (some (.Name y py)) spos.line C.X.env=pure true) (hs:∀ v,foldedSetIterable iter C.X.env v=pure v) (hclm:C.X.calm=true) :
  PS C.X (.Assign [.Name y py] (.ListComp elt [⟨.Name x px,iter,ifs,0⟩] scope pos) spos) (fun E σ H=>∃ Hv ρ,EnvR C.X.K Hv ρ σ/\Same Hv H/\Ok C.X.K Hv H (C.W σ) C.cls (Dv.eCompTb fe fc is fi ρ) fun v H'=>E.nx (σ.set i (some v)) H'):=by
 intro pins s σ H E I ⟨Hv,ρ,er,sv,ok⟩
 rw[exec_Assign_Name_used _ _ _ _ hsw]
 refine wpAny_bind (wpAny_standAt (wpAny_bind ?_))
 show wpAny _ _ (do let _ <- comprehension (.ListComp elt [⟨.Name x px,iter,ifs,0⟩] scope pos) scope C.X.env _ (newList []) false (eval iter C.X.env) (some (assign (.Name y py) C.X.env))) _ _ s
 refine wpAny_bind (wpAny_mono (comp_coreN (use:=some (assign (.Name y py) C.X.env)) (Q':=fun _ s'=>∃ σ' H',Inv C.X pins σ' H' s'/\E.nx σ' H') hclm S hi he hc hs I er sv ok fun Da L s5 h=>?_) (fun _ s' hq=>wpAny_pure (wpAny_pure hq)) fun _ _ e=>e)
 obtain⟨⟨m,hn⟩,h1,h2,h3,h4,H',hL,q,iv⟩:=h
 have I5:Inv C.X pins σ H' s5:=iv s5.heap fun b _=>rfl
 show wpAny _ _ (assign (.Name y py) C.X.env (.ref Da)) _ _ s5
 refine wpAny_assign_Name (store_ok2 (v:=.ref Da) I5 hN hy (.inl hl) rfl (fun s6 I6 ⟨a,sb,ha⟩=>?_) (.inr hl))
 have hLa:L≠a:=by
  rcases ha with rfl|ha
  ·exact h1
  ·exact fun z=>h2 y a ha z.symm
 refine⟨m,hn.sameBut sb hLa,fun h' sb'=>⟨_,H',?_,q⟩⟩
 exact I6.turned (t':=s6.toks) (it:=L) (fun b o hb e=>(sb'.2 b hb).trans e) hL h1 (.inr h3) h2 h4
theorem st_setCompTb {i:Nat}{y:Str}{py spos:Pos}(S:CompNames C.X scope x fs is)(hi:SI C (.Name x px) iter fi)(he:∀ cl L s₀ H₀ ex,SE (compCtx C (x::fs) scope cl L s₀ H₀ ex) elt fe)(hc:∀ cl L s₀ H₀ ex,STs (compCtx C (x::fs) scope cl L s₀ H₀ ex) ifs fc)
  (hN:C.X.N.Nodup) (hy:C.X.N[i]?=some y) (hl:C.X.env.scope.names.lookup y=some .local) (hsw:autoParam (swapsWith (.ListComp elt [⟨.Name x px,iter,ifs,0⟩] scope pos) (some (.Name y py)) spos.line C.X.env=pure true) Au.h4._auto_1) (hs:autoParam (∀ v,foldedSetIterable iter C.X.env v=pure v) Au.h3._auto_1) (hclm:autoParam (C.X.calm=true) Au.h4._auto_1) :
  SSt C (.Assign [.Name y py] (.ListComp elt [⟨.Name x px,iter,ifs,0⟩] scope pos) spos) (Dv.sSetD i (Dv.eCompTb fe fc is fi)) :=
 ⟨_,ps_setCompTb S hi he hc hN hy hl hsw hs hclm,fun Hv₀ H₀ E σ H st r w=>sSetD_ok (f:=Dv.eCompTb fe fc is fi) (t:=fun σ H Q=>∃ Hv ρ,EnvR C.X.K Hv ρ σ/\Same Hv H/\Ok C.X.K Hv H (C.W σ) C.cls (Dv.eCompTb fe fc is fi ρ) Q) (fun σ H Hv ρ Q e s q=>⟨Hv,ρ,e,s,q⟩) i r w⟩
end
theorem tbr_get {R:Hp}:∀ {bs:List Addr} {rows:List (List Int)} {j:Nat} {r:List Int},Tbr R bs rows->rows[j]?=some r->∃ b,bs[j]?=some b/\Rd R b (.lst (r.map V.int))
 | [],[],j,r,_,h=>by simp at h
 | [],_::_,_,_,h,_=>h.elim
 | _::_,[],_,_,h,_=>h.elim
 | b::bs,q::rs,0,r,h,e=>by simp at e; subst e; exact⟨b,rfl,h.1⟩
 | b::bs,q::rs,j+1,r,h,e=>by
  obtain⟨c,h1,h2⟩:=tbr_get (j:=j) h.2 (by simpa using e)
  exact⟨c,by simpa using h1,h2⟩
theorem tbr_other {R:Hp}{b:Addr}{o:HO}:∀ {bs:List Addr} {rows:List (List Int)},b∉bs->Tbr R bs rows->Tbr (upd R b o) bs rows
 | [],[],_,_=>True.intro
 | [],_::_,_,h=>h.elim
 | _::_,[],_,h=>h.elim
 | c::bs,r::rs,hb,h=>by
  have hc:c≠b:=fun z=>hb (by rw[z]; exact List.mem_cons_self ..)
  refine⟨?_,tbr_other (fun q=>hb (List.mem_cons_of_mem _ q)) h.2⟩
  unfold Rd
  rw[upd_ne hc]
  exact h.1
theorem tbr_upd {R:Hp}{b:Addr}{r':List Int}:∀ {bs:List Addr} {rows:List (List Int)} {j:Nat},bs.Nodup->Tbr R bs rows->bs[j]?=some b->Tbr (upd R b (.lst (r'.map V.int))) bs (rows.set j r')
 | [],[],j,_,_,e=>by simp at e
 | [],_::_,_,_,h,_=>h.elim
 | _::_,[],_,_,h,_=>h.elim
 | c::bs,r::rs,0,nd,h,e=>by
  simp at e
  subst e
  rw[List.nodup_cons] at nd
  exact⟨.inl upd_same,tbr_other nd.1 h.2⟩
 | c::bs,r::rs,j+1,nd,h,e=>by
  rw[List.nodup_cons] at nd
  have e':bs[j]?=some b:=by simpa using e
  have hc:c≠b:=fun z=>nd.1 (by rw[z]; exact List.mem_of_getElem? e')
  refine⟨?_,tbr_upd nd.2 h.2 e'⟩
  unfold Rd
  rw[upd_ne hc]
  exact h.1
section
variable {K:PySem.W.Frag}{Hv₀ H₀ Hc:Hp}{O:Nat->Hp}{st:Dv.St}{σ:St}{H:Hp}
theorem RelC.putDp {i:Nat}{d:D}{v:V}{a:Addr}{u o:HO}(r:RelC K Hv₀ H₀ Hc O st σ H)(hσ:σ[i]?=some (some v))(ha:O i a=some u)(ho:∀ q w,o≠.frz q w)(dp:Rp [] (upd (O i) a o) d v) :
  RelC K Hv₀ H₀ Hc (putO O i (upd (O i) a o)) (st.set i (.dp d)) σ (upd H a o):=by
 obtain⟨h1,h2,h3⟩:=r.oh i a u ha
 have hset:σ.set i (some v)=σ:=set_id hσ
 have key:=r.setAny (i:=i) (s:=.dp d) (v:=some v) (H':=upd H a o) (O':=putO O i (upd (O i) a o)) (fun b w h=>by rw[upd_ne (ne_of_none h h3)]; exact r.h0 b w h) (fun b w h=>by rw[upd_ne (ne_of_none h h2)]; exact r.ch b w h)
  (fun b q w h=>by
   by_cases hb:b=a
   ·subst hb; rw[upd_same]; exact fun z=>ho q w (Option.some.inj z)
   ·rw[upd_ne hb]; exact r.nf b q w h)
  (fun j hj=>putO_ne hj) (fun d e=>nomatch e) (fun d e=>nomatch e) (fun d e=>by cases e; exact⟨v,rfl,by rw[putO_same]; exact dp⟩) (fun n m e=>nomatch e)
  (fun j b w h=>by
   by_cases hj:j=i
   ·rw[hj,putO_same] at h
    by_cases hb:b=a
    ·subst hb; rw[upd_same] at h ⊢; exact⟨h,h2,h3⟩
    ·rw[upd_ne hb] at h ⊢; exact r.oh i b w h
   ·rw[putO_ne hj] at h
    have hb:b≠a:=fun z=>hj (r.one j i b w u h (by rw[z]; exact ha))
    rw[upd_ne hb]; exact r.oh j b w h)
  fun j b w w' h hj h4=>by
   rw[putO_same] at h
   by_cases hb:b=a
   ·exact hj (r.one j i b w' u h4 (by rw[hb]; exact ha))
   ·rw[upd_ne hb] at h; exact hj (r.one j i b w' w h4 h)
 rw[hset] at key
 exact key
theorem RelC.table {i:Nat}{rows:List (List Int)}(r:RelC K Hv₀ H₀ Hc O st σ H)(hi:st[i]?=some (.dp (.tab rows))) :
  ∃ t bs,σ[i]?=some (some (.ref t))/\O i t=some (.lst (bs.map V.ref))/\t∉bs/\bs.Nodup/\Tbr (O i) bs rows/\∀ b o,Rd (O i) b o->O i b=some o:=by
 obtain⟨v,h1,h2⟩:=r.dp i _ hi
 unfold Rp at h2
 obtain⟨t,bs,rfl,h3,h4,h5,h6⟩:=h2
 have nf:∀ b o u,O i b≠some (.frz o u):=fun b o u h=>r.nf b o u (r.oh i b _ h).2.2 (r.oh i b _ h).1
 have rd:∀ b o,Rd (O i) b o->O i b=some o:=fun b o h=>by
  rcases h with h|⟨u,h⟩
  ·exact h
  ·exact absurd h (nf _ _ _)
 exact⟨t,bs,h1,rd _ _ h3,h4,h5,h6,rd⟩
theorem RelC.putTab {i j:Nat}{rows:List (List Int)}{r':List Int}{t b:Addr}{bs:List Addr}{u:HO}(r:RelC K Hv₀ H₀ Hc O st σ H)(h1:σ[i]?=some (some (.ref t)))(h2:O i t=some (.lst (bs.map V.ref)))(h3:t∉bs)(h4:bs.Nodup)(h5:Tbr (O i) bs rows)(hb:bs[j]?=some b)(hu:O i b=some u) :
  RelC K Hv₀ H₀ Hc (putO O i (upd (O i) b (.lst (r'.map V.int)))) (st.set i (.dp (.tab (rows.set j r')))) σ (upd H b (.lst (r'.map V.int))):=by
 have hbt:t≠b:=fun z=>h3 (by rw[z]; exact List.mem_of_getElem? hb)
 refine r.putDp h1 hu (by intro _ _ z; cases z) ?_
 unfold Rp
 refine⟨t,bs,rfl,.inl ?_,h3,h4,tbr_upd h4 h5 hb⟩
 rw[upd_ne hbt]; exact h2
end
theorem atI_ref {bs:List Addr}{k:Int}{b:Addr}(h0:0<=k)(h:bs[k.toNat]?=some b):atI (bs.map V.ref) k=some (.ref b):=by
 have hl:k.toNat<bs.length:=(List.getElem?_eq_some_iff.mp h).1
 unfold atI ixN
 rw[List.length_map,if_pos h0,if_pos (by omega)]
 show (bs.map V.ref)[k.toNat]?=_
 rw[List.getElem?_map,h]; rfl
theorem atI_int {r:List Int}{k:Int}{x:Int}(h0:0<=k)(h:r[k.toNat]?=some x):atI (r.map V.int) k=some (.int x):=by
 have hl:k.toNat<r.length:=(List.getElem?_eq_some_iff.mp h).1
 unfold atI ixN
 rw[List.length_map,if_pos h0,if_pos (by omega)]
 show (r.map V.int)[k.toNat]?=_
 rw[List.getElem?_map,h]; rfl
section
variable {C:Ctx}{a b c e k:Expr}{f g h:EE}{F G:SS}{pos pos':Pos}{E:Ends}
theorem se_ixT (ha:SE C a f)(hb:SE C b g)(hs:autoParam (PlainIx b) Au.h8._auto_1):SE C (.Subscript a b pos) (Dv.eIxT f g):=by
 obtain⟨ta,pa,qa⟩:=ha
 obtain⟨tb,pb,qb⟩:=hb
 refine⟨_,pe_ix ix_list pa pb hs,fun σ H Hv ρ Q e s w=>?_⟩
 refine qa.step e (.refl s) w fun v d fr Hv1 H1 _ x1 _ rp1 n1 q1=>qb.step e x1 q1 fun v2 d2 fr2 Hv2 H2 _ x2 y2 rp2 _ q2=>?_
 have rp:=rp1.same y2.vv
 cases d with
 | tab rows =>
  cases d2 with
  | int j =>
   by_cases h0:0<=j
   ·simp only[h0,if_true] at q2
    cases hr:rows[j.toNat]? with
    | none=>rw[hr] at q2; exact(show False from q2).elim
    | some r =>
     rw[hr] at q2
     unfold Rp at rp rp2
     obtain⟨t,bs,rfl,g1,g2,g3,g4⟩:=rp
     obtain⟨bb,g5,g6⟩:=tbr_get g4 hr
     refine⟨t,bs.map V.ref,j,.ref bb,rfl,rp2,.inl (Rd.same x2.vh g1),atI_ref h0 g5,?_⟩
     refine q2 (.ref bb) Hv2 H2 x2 ?_ fun z=>nomatch z
     unfold Rp
     exact⟨bb,_,rfl,.inl g6,RpL.ofInts r⟩
   ·simp only[h0,if_false] at q2
    exact(show False from q2).elim
  | _=>exact(show False from q2).elim
 | _=>cases d2 <;>exact(show False from q2).elim
theorem st_putT {i:Nat}{x:Str}{px kpos ipos:Pos}{ia:Expr}(he:SE C e f)(ha:SE C ia g)(hk:SE C k h)(hN:autoParam (C.X.N[i]?=some x) Au.h4._auto_1)(hv:autoParam (Vis C.X.env.scope x) Au.h7._auto_1)
    (hd:autoParam ((x == ("__debug__":Str))=false) Au.h2._auto_1) (hcd:autoParam ((x == ("__classdict__":Str))=false) Au.h2._auto_1) (hix:autoParam (PlainIx ia) Au.h8._auto_1)
    (has:autoParam (∀ v,assign (.Subscript (.Subscript (.Name x px) ia ipos) k kpos) C.X.env v=(do
      let ov <- holding [v] (eval (.Subscript (.Name x px) ia ipos) C.X.env)
      let iv <- holding [v,ov] (eval k C.X.env)
      standAt kpos
      holding [v,ov,iv] (setItem ov iv v)
      release [v,ov,iv] [])) Au.h3._auto_1)
    (hs:autoParam (swapsWithSole [.Subscript (.Subscript (.Name x px) ia ipos) k kpos] e pos.line C.X.env=pure false) Au.h4._auto_1) (hw:autoParam (swappedStores [.Subscript (.Subscript (.Name x px) ia ipos) k kpos] e C.X.env=pure none) Au.h4._auto_1)
    (h1:autoParam ((assignEach [.Subscript (.Subscript (.Name x px) ia ipos) k kpos] C.X.env).map (·.2)=[assign (.Subscript (.Subscript (.Name x px) ia ipos) k kpos) C.X.env]) Au.h4._auto_1):SSt C (.Assign [.Subscript (.Subscript (.Name x px) ia ipos) k kpos] e pos) (Dv.sPutT i g h f):=by
  obtain⟨t,p,q⟩:=he
  obtain⟨t2,p2,q2⟩:=ha
  obtain⟨t3,p3,q3⟩:=hk
  refine⟨_,ps_asg p (pg_sub (pe_ix ix_list (pe_var hN hv hd hcd) p2 hix) p3 set_list has) hs hw h1,fun Hv₀ H₀ E σ H st ⟨Hc,O,r⟩ w=>?_⟩
  unfold Dv.sPutT at w
  cases hi:st[i]? with
  | none=>rw[hi] at w; exact(show False from w).elim
  | some s =>
    rw[hi] at w
    cases s with
    | dp d0 =>
     cases d0 with
     | tab rows =>
      obtain⟨tt,bs,g1,g2,g3,g4,g5,rd⟩:=r.table hi
      refine q.all r (fun c hf H' r'=>?_) (fun hf=>?_) fun d fr v Hv' H' hf x r' rp n=>?_
      · simp only[hf] at w; exact(show False from w).elim
      · simp only[hf] at w; exact w
      · simp only[hf] at w
        cases d with
        | int dv =>
          refine⟨_,g1,?_⟩
          refine q2.all r' (fun c hg H2 r2=>?_) (fun hg=>?_) fun d2 fr2 v2 Hv2 H2 hg x2 r2 rp2 n2=>?_
          · simp only[hg] at w; exact(show False from w).elim
          · simp only[hg] at w; exact w
          · simp only[hg] at w
            cases d2 with
            | int j =>
              unfold Rp at rp2
              cases hr:rows[j.toNat]? with
              | none =>
                cases hh:h (Dv.all st) with
                | ok d3 f3=>cases d3 <;>simp only[hh,hr] at w <;>exact(show False from w).elim
                | exc c=>simp only[hh] at w; exact(show False from w).elim
                | bad=>simp only[hh] at w; exact(show False from w).elim
              | some row =>
                obtain⟨b,g6,g7⟩:=tbr_get g5 hr
                have g8:=rd _ _ g7
                by_cases hj0:0<=j
                · refine⟨tt,bs.map V.ref,j,.ref b,rfl,rp2,SqL.of (r2.oh i tt _ g2).1,atI_ref hj0 g6,?_⟩
                  refine q3.all r2 (fun c hh H3 r3=>?_) (fun hh=>?_) fun d3 fr3 v3 Hv3 H3 hh x3 r3 rp3 n3=>?_
                  · simp only[hh] at w; exact(show False from w).elim
                  · simp only[hh] at w; exact w
                  · simp only[hh] at w
                    cases d3 with
                    | int kk =>
                      unfold Rp at rp3
                      simp only[hr] at w
                      by_cases z:(decide (0<=j)&&decide (0<=kk)&&decide (kk<row.length))=true
                      · simp only[z,if_true] at w
                        simp only[Bool.and_eq_true,decide_eq_true_eq] at z
                        have r4:=r3.putTab (r':=row.set kk.toNat dv) g1 g2 g3 g4 g5 g6 g8
                        unfold Rp at rp
                        subst rp
                        refine⟨b,row.map V.int,kk,kk.toNat,rfl,rp3,(r3.oh i b _ g8).1,?_,?_⟩
                        · unfold ixN
                          rw[List.length_map,if_pos z.1.2,if_pos z.2]
                        · rw[show (row.map V.int).set kk.toNat (.int dv)=(row.set kk.toNat dv).map V.int by rw[List.map_set]]
                          exact w σ _ ⟨Hc,_,r4⟩
                      · simp only[z] at w; exact(show False from w).elim
                    | _=>exact(show False from w).elim
                · exfalso
                  cases hh:h (Dv.all st) with
                  | ok d3 f3 =>
                    cases d3 with
                    | int kk =>
                      simp only[hh,hr] at w
                      rw[if_neg (by simp[hj0])] at w
                      exact w
                    | _=>simp only[hh] at w; exact w
                  | exc c=>simp only[hh] at w; exact w
                  | bad=>simp only[hh] at w; exact w
            | _=>exact(show False from w).elim
        | _=>exact(show False from w).elim
     | _=>exact(show False from w).elim
    | _=>exact(show False from w).elim
end
theorem iteT' {c:Bool}{A B:Prop}(h:c=true)(a:A):if c=true then A else B:=by rw[if_pos h]; exact a
theorem iteF' {c:Bool}{A B:Prop}(h:c=false)(b:B):if c=true then A else B:=by rw[h]; exact b
section
variable {C:Ctx}{a b c e k:Expr}{f g h:EE}{F G:SS}{pos pos':Pos}{E:Ends}
theorem st_retTb {i:Nat}{x:Str}{px pt:Pos}(h1:SE C a f)(h2:SE C b g)(h3:SE C c h)(hN:autoParam (C.X.N[i]?=some x) Au.h4._auto_1)(hv:autoParam (Vis C.X.env.scope x) Au.h7._auto_1)(hd:autoParam ((x == ("__debug__":Str))=false) Au.h2._auto_1)
  (hcd:autoParam ((x == ("__classdict__":Str))=false) Au.h2._auto_1) (s1:autoParam (starEach [a,b,c,.Name x px] C.X.env=(false,eval a C.X.env)::starEach [b,c,.Name x px] C.X.env) Au.h4._auto_1) (s2:autoParam (starEach [b,c,.Name x px] C.X.env=(false,eval b C.X.env)::starEach [c,.Name x px] C.X.env) Au.h4._auto_1)
  (s3:autoParam (starEach [c,.Name x px] C.X.env=(false,eval c C.X.env)::starEach [.Name x px] C.X.env) Au.h4._auto_1) (s4:autoParam (starEach [.Name x px] C.X.env=[(false,eval (.Name x px) C.X.env)]) Au.h4._auto_1) :
  SSt C (.Return (some (.List [a,b,c,.Name x px] pt)) pos) (Dv.sRetTb f g h i):=by
 obtain⟨t,p,q⟩:=h1
 obtain⟨t2,p2,q2⟩:=h2
 obtain⟨t3,p3,q3⟩:=h3
 refine⟨_,ps_ret (pe_lst (pa_cons p (pa_cons p2 (pa_cons p3 (pa_cons (pe_var hN hv hd hcd) pa_nil s4) s3) s2) s1)),fun Hv₀ H₀ E σ H st ⟨Hc,O,r⟩ w=>?_⟩
 unfold Dv.sRetTb at w
 refine q.all r (fun c hf H' r'=>?_) (fun hf=>?_) fun d fr v Hv' H' hf x r' rp n=>?_
 ·simp only[hf] at w; exact(show False from w).elim
 ·simp only[hf] at w; exact w
 ·simp only[hf] at w
  cases d with
  | int vx =>
   unfold Rp at rp
   subst rp
   refine q2.all r' (fun c hg H2 r2=>?_) (fun hg=>?_) fun d2 fr2 v2 Hv2 H2 hg x2 r2 rp2 n2=>?_
   ·simp only[hg] at w; exact(show False from w).elim
   ·simp only[hg] at w; exact w
   ·simp only[hg] at w
    cases d2 with
    | int vy =>
     unfold Rp at rp2
     subst rp2
     refine q3.all r2 (fun c hh H3 r3=>?_) (fun hh=>?_) fun d3 fr3 v3 Hv3 H3 hh x3 r3 rp3 n3=>?_
     ·simp only[hh] at w; exact(show False from w).elim
     ·simp only[hh] at w; exact w
     ·simp only[hh] at w
      cases d3 with
      | int vz =>
       unfold Rp at rp3
       subst rp3
       cases hi:st[i]? with
       | none=>rw[hi] at w; exact(show False from w).elim
       | some s =>
        rw[hi] at w
        cases s with
        | dp d0 =>
         cases d0 with
         | tab rows =>
          obtain⟨tv,g1,g2⟩:=r3.dp i _ hi
          refine⟨_,g1,by show 4<=sizeLine; decide,fun pp hp=>?_⟩
          have y:=Ext.new1 r3.allH hp (.lst [.int vx,.int vy,.int vz,tv])
          obtain⟨Hv5,x5,s5⟩:=r3.ret y
          have h0p:H₀ pp=none:=r3.h0.free hp
          refine w (.ref pp) Hv5 _ x5 ?_ fun _=>?_
          ·unfold Rp
           refine⟨pp,_,rfl,SqX.of (s5 _ _ upd_same),.cons (by unfold Rp; rfl) (.cons (by unfold Rp; rfl) (.cons (by unfold Rp; rfl) (.cons ?_ .nil)))⟩
           exact((Rp.frag (g2.same (r3.oAll i))).same y.vv).same s5
          ·unfold Rp
           refine⟨pp,[.int vx,.int vy,.int vz,tv],rfl,.inl (.inl ?_),.cons (by unfold Rp; rfl) (.cons (by unfold Rp; rfl) (.cons (by unfold Rp; rfl) (.cons ?_ .nil)))⟩
           ·unfold Hnew; rw[h0p]; exact upd_same
           ·refine g2.same fun bb o q=>?_
            obtain⟨k1,k2,k3⟩:=r3.oh i bb o q
            unfold Hnew
            rw[k3]
            show upd H3 pp _ bb=some o
            rw[upd_ne (ne_of_none k1 hp)]; exact k1
         | _=>exact(show False from w).elim
        | _=>exact(show False from w).elim
      | _=>exact(show False from w).elim
    | _=>exact(show False from w).elim
  | _=>exact(show False from w).elim
theorem unTb_cases {a b c x:Nat}{st:Dv.St}{d:D}:(∃ i j k rows,d=.lst [.int i,.int j,.int k,.tab rows])\/Dv.unTb a b c x st d=.bad:=by
 cases d with
 | lst ds =>
  cases ds with
  | nil=>exact .inr rfl
  | cons d1 t1 =>
   cases d1 with
   | int i =>
    cases t1 with
    | nil=>exact .inr rfl
    | cons d2 t2 =>
     cases d2 with
     | int j =>
      cases t2 with
      | nil=>exact .inr rfl
      | cons d3 t3 =>
       cases d3 with
       | int k =>
        cases t3 with
        | nil=>exact .inr rfl
        | cons d4 t4 =>
         cases d4 with
         | tab rows =>
          cases t4 with
          | nil=>exact .inl ⟨i,j,k,rows,rfl⟩
          | cons _ _=>exact .inr rfl
         | _=>exact .inr rfl
       | _=>exact .inr rfl
     | _=>exact .inr rfl
   | _=>exact .inr rfl
 | _=>exact .inr rfl
theorem st_unpackTb {i1 i2 i3 i4:Nat}{ts:List Expr}{kt:Nat}{tpos:Pos}(he:SE C e f)(hg:SGs C ts [i1,i2,i3,i4])(hl:ts.length=4)(hn:autoParam ((assignEach ts C.X.env).length=ts.length) Au.h4._auto_1)(hst:autoParam ((assignEach ts C.X.env).findIdx? (·.1)=none) Au.h4._auto_1)
  (hs:autoParam (swapsWithSole [.Tuple ts kt tpos] e pos.line C.X.env=pure false) Au.h4._auto_1) (hw:autoParam (swappedStores [.Tuple ts kt tpos] e C.X.env=pure none) Au.h4._auto_1) (h1:autoParam ((assignEach [.Tuple ts kt tpos] C.X.env).map (·.2)=[assign (.Tuple ts kt tpos) C.X.env]) Au.h4._auto_1) (hcl:autoParam (C.X.calm=true) Au.h4._auto_1) :
  SSt C (.Assign [.Tuple ts kt tpos] e pos) (Dv.sUnpackTb i1 i2 i3 i4 f):=by
 obtain⟨t,p,q⟩:=he
 obtain⟨g,pg,qg⟩:=hg
 refine⟨_,ps_asg p (pg_lst hcl pg hn hst) hs hw h1,fun Hv₀ H₀ E σ H st ⟨Hc,O,r⟩ w=>?_⟩
 unfold Dv.sUnpackTb at w
 refine q.all r (fun c hf H' r'=>?_) (fun hf=>?_) fun d fr v Hv' H' hf x r' rp n=>?_
 ·simp only[hf] at w; exact w σ H' ⟨Hc,O,r'⟩
 ·simp only[hf] at w; exact w
 ·simp only[hf] at w
  cases fr with
  | false=>exact(show False from w).elim
  | true =>
   have rn:=n rfl
   have w2:OkS C Hv₀ H₀ E (Dv.unTb i1 i2 i3 i4 st d):=w
   clear w
   have w:=w2
   rcases unTb_cases (a:=i1) (b:=i2) (c:=i3) (x:=i4) (st:=st) (d:=d) with ⟨vi,vj,vk,rows,rfl⟩|hbad
   ·have w:OkS C Hv₀ H₀ E (if i4<st.length then .nx ((((st.set i1 (.sh (.int vi))).set i2 (.sh (.int vj))).set i3 (.sh (.int vk))).set i4 (.dp (.tab rows))) else .bad):=w
    by_cases hx:i4<st.length
    ·rw[if_pos hx] at w
     unfold Rp at rn
     obtain⟨pp,vs,rfl,k1,k2⟩:=rn
     have k1':Rd (Hnew H H') pp (.lst vs):=by
      rcases k1 with k1|⟨_,_,e,_⟩
      ·exact k1
      ·simp at e
     unfold RpL at k2
     obtain⟨w1,ws1,rfl,m1,k2⟩:=k2
     unfold RpL at k2
     obtain⟨w2,ws2,rfl,m2,k2⟩:=k2
     unfold RpL at k2
     obtain⟨w3,ws3,rfl,m3,k2⟩:=k2
     unfold RpL at k2
     obtain⟨w4,ws4,rfl,m4,k2⟩:=k2
     unfold RpL at k2
     subst k2
     have m4':=m4
     unfold Rp at m4'
     obtain⟨tt,bs,rfl,_⟩:=m4'
     have hsq:SqL C.X.K H' pp [w1,w2,w3,.ref tt]:=.inl (Rd.same Hnew.sub k1')
     have rl:RpL C.X.K Hc [.int vi,.int vj,.int vk,.raw tt] [w1,w2,w3,.ref tt]:=.cons (m1.scal rfl) (.cons (m2.scal rfl) (.cons (m3.scal rfl) (.cons (by unfold Rp; rfl) .nil)))
     refine⟨pp,_,rfl,hsq,by rw[hl]; rfl,qg Hv₀ H₀ Hc O H' σ st _ _ _ r' rl rfl fun σ' r2=>?_⟩
     have e0:Dv.setAll [i1,i2,i3,i4] [.int vi,.int vj,.int vk,.raw tt] st=(((st.set i1 (.sh (.int vi))).set i2 (.sh (.int vj))).set i3 (.sh (.int vk))).set i4 (.sh (.raw tt)):=rfl
     rw[e0] at r2
     obtain⟨v',k3,k4⟩:=r2.sh i4 (.raw tt) (List.getElem?_set_self (by simpa using hx))
     unfold Rp at k4
     subst k4
     have r3:=r2.setDp (i:=i4) (d:=.tab rows) (v:=.ref tt) (R:=Hnew H H') (fun b o q=>⟨Hnew.sub b o q,r.ch.free (Hnew_of q),r.h0.free (Hnew_of q),fun j _=>by
      cases z:O j b with
      | none=>rfl
      | some u=>have:=(r.oh j b u z).1; rw[Hnew_of q] at this; cases this⟩) m4
     rw[set_id k3,List.set_set] at r3
     exact w σ' H' ⟨Hc,_,r3⟩
    ·rw[if_neg hx] at w; exact(show False from w).elim
   ·rw[hbad] at w; exact(show False from w).elim
theorem ss_rowDec {ss:List Stmt}{i r y:Nat}{nx nr ny:Str}{kE j1 j2 j3 eE:Expr}{fk fj fe:EE}{p1 p2 p3 p4 p5 p6 p7 p8 p9 p10 p11 p12 p13 p14 p15 p16 p17 p18 p19 p20:Pos}{c0 c1:Nat}
    (hk:SE C kE fk) (hj1:SE C j1 fj) (hj2:SE C j2 fj) (hj3:SE C j3 fj) (he:SE C eE fe) (hss:SSs C ss G) (hN:C.X.N.Nodup) (hi:C.X.N[i]?=some nx) (hr:C.X.N[r]?=some nr) (hy:C.X.N[y]?=some ny) (hlr:Loc C.X.env.scope nr)
    (hvx:autoParam (Vis C.X.env.scope nx) Au.h7._auto_1) (hvr:autoParam (Vis C.X.env.scope nr) Au.h7._auto_1) (hvy:autoParam (Vis C.X.env.scope ny) Au.h7._auto_1)
    (hfr:autoParam (C.X.fn nr=true\/C.X.env.scope.names.lookup nr=some .local) Au.h1._auto_1)
    (dx:autoParam ((nx == ("__debug__":Str))=false) Au.h2._auto_1) (cx:autoParam ((nx == ("__classdict__":Str))=false) Au.h2._auto_1) (dr:autoParam ((nr == ("__debug__":Str))=false) Au.h2._auto_1) (cr:autoParam ((nr == ("__classdict__":Str))=false) Au.h2._auto_1) (dy:autoParam ((ny == ("__debug__":Str))=false) Au.h2._auto_1) (cy:autoParam ((ny == ("__classdict__":Str))=false) Au.h2._auto_1)
    (plk:autoParam (PlainIx kE) Au.h8._auto_1) (pl1:autoParam (PlainIx j1) Au.h8._auto_1) (pl3:autoParam (PlainIx j3) Au.h8._auto_1)
    (sw1:autoParam (swapsWith (.Subscript (.Name nx p2) kE p3) (some (.Name nr p1)) p4.line C.X.env=pure false) Au.h4._auto_1)
    (has:autoParam (∀ v,assign (.Subscript (.Name nr p9) j2 p10) C.X.env v=(do
      let ov <- holding [v] (eval (.Name nr p9) C.X.env)
      let iv <- holding [v,ov] (eval j2 C.X.env)
      standAt p10
      holding [v,ov,iv] (setItem ov iv v)
      release [v,ov,iv] [])) Au.h3._auto_1)
    (sw2:autoParam (swapsWithSole [.Subscript (.Name nr p9) j2 p10] (.BinOp (.Subscript (.Name nr p11) j3 p12) .Sub (.Constant (.int 1) c1 p13) p14) p15.line C.X.env=pure false) Au.h4._auto_1) (sw3:autoParam (swappedStores [.Subscript (.Name nr p9) j2 p10] (.BinOp (.Subscript (.Name nr p11) j3 p12) .Sub (.Constant (.int 1) c1 p13) p14) C.X.env=pure none) Au.h4._auto_1)
    (as1:autoParam ((assignEach [.Subscript (.Name nr p9) j2 p10] C.X.env).map (·.2)=[assign (.Subscript (.Name nr p9) j2 p10) C.X.env]) Au.h4._auto_1)
    (hst:autoParam (starEach [eE] C.X.env=[(false,eval eE C.X.env)]) Au.h4._auto_1)
    (hbase:autoParam (attributeBase (.Name ny p16) "append" C.X.env (eval (.Name ny p16) C.X.env)=eval (.Name ny p16) C.X.env) Au.h4._auto_1)
    (hfew:autoParam (((backTo p18 (starEach [eE] C.X.env)).all (fun x=>!x.1)&&(backToKw p18 (keywordEach [] C.X.env)).all (fun x=>x.1.isSome)
      && decide ([eE].length+([]:List Keyword).length+(if ([]:List Keyword).isEmpty then 0 else 1)<30))=true) Au.h4._auto_1)
    (hline:autoParam ((p17.endLine == p18.line)=true) Au.h4._auto_1)
    (sw4:autoParam (swapsWith (.Call (.Attribute (.Name ny p16) "append" p17) [eE] [] p18) none p19.line C.X.env=pure false) Au.h4._auto_1) :
    SSs C (.Assign [.Name nr p1] (.Subscript (.Name nx p2) kE p3) p4::.If (.Compare (.Subscript (.Name nr p5) j1 p6) [.Gt] [.Constant (.int 0) c0 p7] p8) [.Assign [.Subscript (.Name nr p9) j2 p10] (.BinOp (.Subscript (.Name nr p11) j3 p12) .Sub (.Constant (.int 1) c1 p13) p14) p15,.Expr (.Call (.Attribute (.Name ny p16) "append" p17) [eE] [] p18) p19] [] p20::ss) (Dv.sCons (Dv.sRowDec i r y fk fj fe) G):=by
  obtain⟨tk,pk,qk⟩:=hk
  obtain⟨tj1,pj1,qj1⟩:=hj1
  obtain⟨tj2,pj2,qj2⟩:=hj2
  obtain⟨tj3,pj3,qj3⟩:=hj3
  obtain⟨te,pe,qe⟩:=he
  obtain⟨ts,ps,qs⟩:=hss
  refine⟨_,pss_cons (ps_set hN hr hlr (pe_ix ix_list (pe_var hi hvx dx cx) pk plk) sw1 hfr) (pss_cons (ps_if (pt_cmpR op_gt (pe_ix ix_list (pe_var hr hvr dr cr) pj1 pl1) pe_int (nomark _))
    (pss_cons (ps_asg (pe_op op_sub (pe_ix ix_list (pe_var hr hvr dr cr) pj3 pl3) pe_int) (pg_sub (pe_var hr hvr dr cr) pj2 set_list has) sw2 sw3 as1)
      (pss_one (ps_expr (pe_bm PySem.F.plainAttrs_list PySem.F.slot_list_append PySem.F.type_list_append mt_append (pe_var hy hvy dy cy) (pa_cons pe pa_nil hst) hbase hfew hline hst rfl) sw4))) pss_nil) ps),fun Hv₀ H₀ E σ H st ⟨Hc,O,rel⟩ w=>?_⟩
  have w':OkS C Hv₀ H₀ E ((Dv.sRowDec i r y fk fj fe st).bind G):=w
  clear w
  unfold Dv.sRowDec at w'
  cases hi2:st[i]? with
  | none=>simp only[hi2] at w'; exact(show False from w').elim
  | some s =>
    simp only[hi2] at w'
    cases s with
    | dp d0 =>
     cases d0 with
     | tab rows =>
      obtain⟨tt,bs,g1,g2,g3,g4,g5,rd⟩:=rel.table hi2
      refine⟨_,g1,?_⟩
      refine qk.all rel (fun c hf H' r'=>?_) (fun hf=>?_) fun d fr v Hv' H' hf x r1 rp n=>?_
      · simp only[hf] at w'; exact(show False from w').elim
      · simp only[hf] at w'; exact w'
      · simp only[hf] at w'
        cases d with
        | int ka =>
          unfold Rp at rp
          cases hrow:rows[ka.toNat]? with
          | none=>simp only[hrow] at w'; exact(show False from w').elim
          | some row =>
            simp only[hrow] at w'
            obtain⟨b,g6,g7⟩:=tbr_get g5 hrow
            have g8:=rd _ _ g7
            cases hfj:fj (Dv.all (st.set r .no)) with
            | bad=>simp only[hfj] at w'; exact(show False from w').elim
            | exc c=>simp only[hfj] at w'; exact(show False from w').elim
            | ok dj frj =>
              simp only[hfj] at w'
              cases dj with
              | int kb =>
                cases hval:row[kb.toNat]? with
                | none=>simp only[hval] at w'; exact(show False from w').elim
                | some vv =>
                  simp only[hval] at w'
                  by_cases z:(decide (0<=ka)&&decide (0<=kb)&&decide (i≠r)&&decide (i≠y)&&decide (r≠y)&&decide (r<st.length))=true
                  · simp only[z,if_true] at w'
                    simp only[Bool.and_eq_true,decide_eq_true_eq] at z
                    obtain⟨⟨⟨⟨⟨z1,z2⟩,z3⟩,z4⟩,z5⟩,z6⟩:=z
                    refine⟨tt,bs.map V.ref,ka,.ref b,rfl,rp,SqL.of (r1.oh i tt _ g2).1,atI_ref z1 g6,?_⟩
                    have r2:=r1.setNo (i:=r) (v:=some (.ref b))
                    have hrσ:r<σ.length:=by rw[<- rel.len]; exact z6
                    have sr:(σ.set r (some (.ref b)))[r]?=some (some (.ref b)):=List.getElem?_set_self hrσ
                    have si:(σ.set r (some (.ref b)))[i]?=some (some (.ref tt)):=by rw[List.getElem?_set_ne (Ne.symm z3)]; exact g1
                    refine⟨_,sr,?_⟩
                    refine qj1.all r2 (fun c hf H' r'=>by rw[hfj] at hf; cases hf) (fun hf=>by rw[hfj] at hf; cases hf) fun d2 fr2 v2 Hv2 H2 hf2 x2 r3 rp2 n2=>?_
                    rw[hfj] at hf2
                    cases hf2
                    unfold Rp at rp2
                    have hb3:=(r3.oh i b _ g8).1
                    refine⟨b,row.map V.int,kb,.int vv,rfl,rp2,SqL.of hb3,atI_int z2 hval,?_⟩
                    refine⟨vv,0,rfl,rfl,decide (0<vv),rfl,?_⟩
                    by_cases hv:0<vv
                    · rw[if_pos hv] at w'
                      refine iteT' (decide_eq_true hv) ?_
                      refine⟨_,sr,?_⟩
                      refine qj3.all r3 (fun c hf H' r'=>by rw[hfj] at hf; cases hf) (fun hf=>by rw[hfj] at hf; cases hf) fun d4 fr4 v4 Hv4 H4 hf4 x4 r4 rp4 n4=>?_
                      rw[hfj] at hf4
                      cases hf4
                      unfold Rp at rp4
                      refine⟨b,row.map V.int,kb,.int vv,rfl,rp4,SqL.of (r4.oh i b _ g8).1,atI_int z2 hval,?_⟩
                      refine⟨vv,1,rfl,rfl,?_⟩
                      refine⟨_,sr,?_⟩
                      refine qj2.all r4 (fun c hf H' r'=>by rw[hfj] at hf; cases hf) (fun hf=>by rw[hfj] at hf; cases hf) fun d5 fr5 v5 Hv5 H5 hf5 x5 r5 rp5 n5=>?_
                      rw[hfj] at hf5
                      cases hf5
                      unfold Rp at rp5
                      have hkl:kb.toNat<row.length:=(List.getElem?_eq_some_iff.mp hval).1
                      refine⟨b,row.map V.int,kb,kb.toNat,rfl,rp5,(r5.oh i b _ g8).1,?_,?_⟩
                      · unfold ixN
                        rw[List.length_map,if_pos z2,if_pos (by omega)]
                      · rw[show (row.map V.int).set kb.toNat (.int (vv-1))=(row.set kb.toNat (vv-1)).map V.int by rw[List.map_set]]
                        have r6:=r5.putTab (r':=row.set kb.toNat (vv-1)) si g2 g3 g4 g5 g6 g8
                        cases hy2:st[y]? with
                        | none =>
                          exfalso
                          cases hfe:fe (Dv.all ((st.set r .no).set i (.dp (.tab (rows.set ka.toNat (row.set kb.toNat (vv-1))))))) with
                          | bad=>simp only[hfe] at w'; exact w'
                          | exc c=>simp only[hfe] at w'; exact w'
                          | ok de fre=>cases de <;>simp only[hfe,hy2] at w' <;>exact w'
                        | some sy =>
                          cases sy with
                          | ow dy0 =>
                            cases dy0 with
                            | lst ds =>
                              have hy6:(((st.set r .no).set i (.dp (.tab (rows.set ka.toNat (row.set kb.toNat (vv-1)))))))[y]?=some (.ow (.lst ds)):=by
                                rw[List.getElem?_set_ne z4,List.getElem?_set_ne z5]; exact hy2
                              obtain⟨ay,vsy,k1,k2,k5⟩:=r6.own hy6
                              refine⟨_,k1,.inl ⟨rfl,vsy,SqL.of k2⟩,?_⟩
                              refine qe.all r6 (fun c hf H' r'=>?_) (fun hf=>?_) fun d7 fr7 v7 Hv7 H7 hf7 x7 r7 rp7 n7=>?_
                              · simp only[hf] at w'; exact(show False from w').elim
                              · simp only[hf] at w'; exact w'
                              · simp only[hf7] at w'
                                cases d7 with
                                | int ev =>
                                  simp only[hy2] at w'
                                  by_cases hmx:decide (ds.length<Dv.mx)=true
                                  · simp only[hmx,if_true] at w'
                                    rw[decide_eq_true_eq] at hmx
                                    obtain⟨O9,r9⟩:=r7.put hy6 k1 (k5.append (.cons (rp7.scal rfl) .nil))
                                    refine⟨ay,vsy,v7,rfl,rfl,x7.hh _ _ k2,?_,?_⟩
                                    · have:=k5.length
                                      have e1:(100000:Nat)<sizeLine:=by rw[sizeLine_eq]; decide
                                      have e2:ds.length<100000:=hmx
                                      omega
                                    · exact qs Hv₀ H₀ E _ _ _ ⟨Hc,O9,r9⟩ w'
                                  · simp only[hmx] at w'; exact(show False from w').elim
                                | _=>exact(show False from w').elim
                            | _ =>
                              exfalso
                              cases hfe:fe (Dv.all ((st.set r .no).set i (.dp (.tab (rows.set ka.toNat (row.set kb.toNat (vv-1))))))) with
                              | bad=>simp only[hfe] at w'; exact w'
                              | exc c=>simp only[hfe] at w'; exact w'
                              | ok de fre=>cases de <;>simp only[hfe,hy2] at w' <;>exact w'
                          | _ =>
                            exfalso
                            cases hfe:fe (Dv.all ((st.set r .no).set i (.dp (.tab (rows.set ka.toNat (row.set kb.toNat (vv-1))))))) with
                            | bad=>simp only[hfe] at w'; exact w'
                            | exc c=>simp only[hfe] at w'; exact w'
                            | ok de fre=>cases de <;>simp only[hfe,hy2] at w' <;>exact w'
                    · rw[if_neg hv] at w'
                      refine iteF' (decide_eq_false hv) ?_
                      exact qs Hv₀ H₀ E _ _ _ ⟨Hc,_,r3⟩ w'
                  · simp only[z] at w'; exact(show False from w').elim
              | _=>exact(show False from w').elim
        | _=>exact(show False from w').elim
     | _=>exact(show False from w').elim
    | _=>exact(show False from w').elim
end
end Sd
namespace Dv
end Dv
namespace Sd
open PySem PySem.Spec PyProof.Rows L2
open Dv (D R RL EE EL EI RI Sl Out SS)
section
variable {C:Ctx}{a b c e o k:Expr}{es:List Expr}{f g h:EE}{fl:EL}{F G:SS}{pos pos':Pos}{E:Ends}
end
section
variable {C:Ctx}{a b c e o k:Expr}{es:List Expr}{f g h:EE}{fl:EL}{F G:SS}{pos pos':Pos}{E:Ends}
end
section
variable {C:Ctx}{a b c e o k:Expr}{es:List Expr}{f g h:EE}{fl:EL}{F G:SS}{pos pos':Pos}{E:Ends}
end
end Sd
namespace Cw
open Dv (eAnd eB1 eB2 eBl eCall eCm eComp eCompTb eDict0 eDix eInt eIx eIxT eLst eNeg eNot eOp eOr eSlice eTup eVar iDown iEnum iRange iRange2 iSeq iZip lCons lNil sApp sAug sAugIx sCons sDMove sExpr sExt sFor sForR sForT sIf sNil sPar sPut sPutT sRaise sRet sRetO sRetT sRetTb sRowDec sSet sSetD sSetG sUnpack sUnpackL sUnpackTb sWhile)
open Dv (D R)
noncomputable def b_Q04:Dv.SS :=
 (sIf (eOr (eCm .lt (eVar 0) (eInt 1)) (eCm .gt (eVar 0) (eInt 60))) (sRaise "NoWheel") sNil)
noncomputable def F_Q04:List D->R:=Dv.fn 1 b_Q04
noncomputable def b_Q03_l1:Dv.SS :=
 (sCons (sIf (eOr (eCm .le (eVar 3) (eVar 2)) (eCm .ge (eVar 3) (eVar 1))) (sRaise "NoBeat") sNil) (sSetG [3] 2 (eVar 3)))
noncomputable def b_Q03_t2:Dv.SS :=
 (sFor [0] 3 (iSeq (eVar 0)) b_Q03_l1)
noncomputable def b_Q03_t1:Dv.SS :=
 (sCons (sSet 2 (eNeg (eInt 1))) b_Q03_t2)
noncomputable def b_Q03:Dv.SS :=
 (sCons (sIf (eCm .eq (eB1 Dv.lenD (eVar 0)) (eInt 0)) (sRaise "NoBeat") sNil) b_Q03_t1)
noncomputable def F_Q03:List D->R:=Dv.fn 4 b_Q03
noncomputable def b_Q02_t1:Dv.SS :=
 (sExpr (eCall F_Q03 (lCons (eVar 1) (lCons (eVar 0) lNil))))
noncomputable def b_Q02:Dv.SS :=
 (sCons (sExpr (eCall F_Q04 (lCons (eVar 0) lNil))) b_Q02_t1)
noncomputable def F_Q02:List D->R:=Dv.fn 2 b_Q02
noncomputable def b_Q0W:Dv.SS :=
 (sRet (eAnd (eB1 Dv.isIntD (eVar 0)) (eNot (eB1 Dv.isBoolD (eVar 0)))))
noncomputable def F_Q0W:List D->R:=Dv.fn 1 b_Q0W
noncomputable def b_Q0A_l1:Dv.SS :=
 (sIf (eOr (eNot (eCall F_Q0W (lCons (eVar 2) lNil))) (eCm .ne (eVar 2) (eVar 3))) (sRet (eBl false)) sNil)
noncomputable def b_Q0A_t2:Dv.SS :=
 (sRet (eBl true))
noncomputable def b_Q0A_t1:Dv.SS :=
 (sCons (sForT [0,1] (Dv.tupTo [2,3]) (iZip (eVar 0) (eVar 1)) b_Q0A_l1) b_Q0A_t2)
noncomputable def b_Q0A:Dv.SS :=
 (sCons (sIf (eOr (eNot (eB1 Dv.isListD (eVar 0))) (eCm .ne (eB1 Dv.lenD (eVar 0)) (eB1 Dv.lenD (eVar 1)))) (sRet (eBl false)) sNil) b_Q0A_t1)
noncomputable def F_Q0A:List D->R:=Dv.fn 4 b_Q0A
noncomputable def c_Q0V_1:Dv.EE:=(eComp (eOp .mod (eOp .add (eVar 0) (eVar 2)) (eVar 1)) (eBl true) [0,2] (iSeq (eVar 1)))
noncomputable def b_Q0V:Dv.SS :=
 (sRet (eB1 Dv.sortedD c_Q0V_1))
noncomputable def F_Q0V:List D->R:=Dv.fn 3 b_Q0V
noncomputable def c_Q09_1:Dv.EE:=(eComp (eOp .add (eVar 0) (eOp .mul (eVar 1) (eVar 2))) (eBl true) [4,0] (iSeq (eVar 1)))
noncomputable def b_Q09_l1:Dv.SS :=
 (sSet 3 (eOp .add (eVar 3) c_Q09_1))
noncomputable def b_Q09_t2:Dv.SS :=
 (sRetO 3)
noncomputable def b_Q09_t1:Dv.SS :=
 (sCons (sFor [] 4 (iRange (eVar 2)) b_Q09_l1) b_Q09_t2)
noncomputable def b_Q09:Dv.SS :=
 (sCons (sSet 3 (eLst lNil)) b_Q09_t1)
noncomputable def F_Q09:List D->R:=Dv.fn 5 b_Q09
noncomputable def c_Q0Y_1:Dv.EE:=(eComp (eOp .mod (eVar 0) (eVar 1)) (eBl true) [0] (iSeq (eVar 1)))
noncomputable def b_Q0Y_t3:Dv.SS :=
 (sRetO 2)
noncomputable def b_Q0Y_t2:Dv.SS :=
 (sCons (sExpr (eCall F_Q02 (lCons (eVar 0) (lCons (eVar 2) lNil)))) b_Q0Y_t3)
noncomputable def b_Q0Y_t1:Dv.SS :=
 (sCons (sSet 2 (eB1 Dv.sortedD c_Q0Y_1)) b_Q0Y_t2)
noncomputable def b_Q0Y:Dv.SS :=
 (sCons (sExpr (eCall F_Q04 (lCons (eVar 0) lNil))) b_Q0Y_t1)
noncomputable def F_Q0Y:List D->R:=Dv.fn 3 b_Q0Y
noncomputable def b_Q0D_l1:Dv.SS :=
 (sCons (sSet 5 (eOp .mod (eVar 4) (eB1 Dv.lenD (eVar 2)))) (sIf (eOr (eCm .ge (eIx (eVar 2) (eVar 5)) (eOp .pow (eInt 10) (eInt 30))) (eCm .lt (eIx (eVar 2) (eVar 5)) (eOp .sub (eInt 0) (eOp .pow (eInt 10) (eInt 30))))) (sCons (sApp 3 (eOp .mod (eIx (eVar 2) (eVar 5)) (eOp .pow (eInt 10) (eInt 30)))) (sPut 2 (eVar 5) (eOp .fdiv (eIx (eVar 2) (eVar 5)) (eOp .pow (eInt 10) (eInt 30))))) (sCons (sSet 6 (eOp .mod (eOp .add (eOp .add (eOp .add (eOp .mul (eIx (eVar 2) (eVar 5)) (eInt 48271)) (eOp .mul (eOp .mul (eVar 4) (eVar 4)) (eInt 16807))) (eOp .mul (eInt 7919) (eVar 4))) (eInt 5)) (eInt 2147483647))) (sCons (sSet 7 (eOp .mod (eOp .add (eOp .mul (eVar 6) (eVar 6)) (eOp .mul (eVar 4) (eInt 39373))) (eInt 2147483629))) (sApp 3 (eOp .add (eOp .mul (eOp .mod (eOp .mul (eVar 6) (eVar 7)) (eInt 2147483587)) (eInt 2147483629)) (eVar 7)))))))
noncomputable def b_Q0D_t3:Dv.SS :=
 (sRetO 3)
noncomputable def b_Q0D_t2:Dv.SS :=
 (sCons (sFor [] 4 (iRange (eVar 1)) b_Q0D_l1) b_Q0D_t3)
noncomputable def b_Q0D_t1:Dv.SS :=
 (sCons (sSet 3 (eLst lNil)) b_Q0D_t2)
noncomputable def b_Q0D:Dv.SS :=
 (sCons (sSet 2 (eOp .add (eSlice (eVar 0) none (some (eInt 63))) (eOp .mul (eLst (lCons (eInt 0) lNil)) (eB1 Dv.intD (eCm .eq (eVar 0) (eLst lNil)))))) b_Q0D_t1)
noncomputable def F_Q0D:List D->R:=Dv.fn 8 b_Q0D
noncomputable def b_Q0C:Dv.SS :=
 (sRet (eIx (eVar 0) (eVar 1)))
noncomputable def F_Q0C:List D->R:=Dv.fn 2 b_Q0C
noncomputable def b_Q0G_l1:Dv.SS :=
 (sCons (sSet 6 (eOp .mod (eOp .add (eVar 4) (eVar 5)) (eVar 0))) (sPut 3 (eVar 6) (eOp .add (eIx (eVar 3) (eVar 6)) (eInt 1))))
noncomputable def b_Q0G_l2:Dv.SS :=
 (sFor [1] 5 (iSeq (eVar 1)) b_Q0G_l1)
noncomputable def b_Q0G_t2:Dv.SS :=
 (sRet (eCm .eq (eVar 3) (eOp .mul (eLst (lCons (eInt 1) lNil)) (eVar 0))))
noncomputable def b_Q0G_t1:Dv.SS :=
 (sCons (sFor [2] 4 (iSeq (eVar 2)) b_Q0G_l2) b_Q0G_t2)
noncomputable def b_Q0G:Dv.SS :=
 (sCons (sSet 3 (eOp .mul (eLst (lCons (eInt 0) lNil)) (eVar 0))) b_Q0G_t1)
noncomputable def F_Q0G:List D->R:=Dv.fn 7 b_Q0G
noncomputable def c_law_pair_v2_1:Dv.EE:=(eComp (eOp .add (eOp .mul (eVar 0) (eVar 2)) (eVar 1)) (eBl true) [10,7] (iSeq (eVar 3)))
noncomputable def c_law_pair_v2_2:Dv.EE:=(eComp (eOp .mul (eVar 0) (eVar 1)) (eBl true) [7] (iSeq (eVar 4)))
noncomputable def b_law_pair_v2_l1:Dv.SS :=
 (sSet 9 (eOp .add (eVar 9) c_law_pair_v2_1))
noncomputable def b_law_pair_v2_l2:Dv.SS :=
 (sCons (sSet 6 (eOp .mod (eOp .mul (eCall F_Q0C (lCons (eVar 0) (lCons (eOp .add (eVar 1) (eVar 5)) lNil))) (eInt 48271)) (eInt 2147483647))) (sCons (sSet 7 (eIx (eLst (lCons (eInt 2) (lCons (eInt 3) (lCons (eInt 2) (lCons (eInt 5) (lCons (eInt 2) (lCons (eInt 3) (lCons (eInt 7) lNil)))))))) (eOp .mod (eVar 6) (eInt 7)))) (sCons (sSet 8 (eOp .mod (eOp .fdiv (eVar 6) (eInt 7)) (eInt 4))) (sCons (sIf (eCm .le (eOp .mul (eVar 2) (eVar 7)) (eInt 60)) (sCons (sIf (eCm .lt (eVar 8) (eInt 2)) (sSet 3 (eCall F_Q09 (lCons (eVar 2) (lCons (eVar 3) (lCons (eVar 7) lNil))))) (sCons (sSet 9 (eLst lNil)) (sCons (sFor [] 10 (iRange (eVar 7)) b_law_pair_v2_l1) (sCons (sSet 3 (eB1 Dv.sortedD (eVar 9))) (sSet 4 c_law_pair_v2_2))))) (sSet 2 (eOp .mul (eVar 2) (eVar 7)))) sNil) (sIf (eCm .eq (eOp .mod (eOp .fdiv (eVar 6) (eInt 28)) (eInt 2)) (eInt 1)) (sPar [3,4] 3 4 (eVar 4) (eVar 3)) sNil)))))
noncomputable def b_Q01_l1:Dv.SS :=
 (sPut 1 (eVar 2) (eInt 1))
noncomputable def b_Q01_t3:Dv.SS :=
 (sRetO 1)
noncomputable def b_Q01_t2:Dv.SS :=
 (sCons (sFor [0] 2 (iSeq (eVar 0)) b_Q01_l1) b_Q01_t3)
noncomputable def b_Q01_t1:Dv.SS :=
 (sCons (sSet 1 (eOp .mul (eLst (lCons (eInt 0) lNil)) (eOp .add (eIx (eVar 0) (eNeg (eInt 1))) (eInt 1)))) b_Q01_t2)
noncomputable def b_Q01:Dv.SS :=
 (sCons (sIf (eCm .eq (eB1 Dv.lenD (eVar 0)) (eInt 0)) (sRet (eLst lNil)) sNil) b_Q01_t1)
noncomputable def F_Q01:List D->R:=Dv.fn 3 b_Q01
noncomputable def b_Q19_l1:Dv.SS :=
 (sAug 1 .sub (eInt 1))
noncomputable def b_Q19_t2:Dv.SS :=
 (sRet (eSlice (eVar 0) none (some (eVar 1))))
noncomputable def b_Q19_t1:Dv.SS :=
 (sCons (sWhile 100000 (eAnd (eCm .gt (eVar 1) (eInt 0)) (eCm .eq (eIx (eVar 0) (eOp .sub (eVar 1) (eInt 1))) (eInt 0))) b_Q19_l1) b_Q19_t2)
noncomputable def b_Q19:Dv.SS :=
 (sCons (sSet 1 (eB1 Dv.lenD (eVar 0))) b_Q19_t1)
noncomputable def F_Q19:List D->R:=Dv.fn 2 b_Q19
noncomputable def b_Q17_l1:Dv.SS :=
 (sAugIx 3 .sub (eOp .add (eVar 5) (eVar 6)) (eOp .mul (eIx (eVar 4) (eVar 5)) (eVar 7)))
noncomputable def b_Q17_l2:Dv.SS :=
 (sCons (sPut 4 (eVar 5) (eIx (eVar 3) (eOp .add (eVar 5) (eVar 2)))) (sForT [1] (Dv.tupTo [6,7]) (iEnum (eVar 1)) b_Q17_l1))
noncomputable def b_Q17_t5:Dv.SS :=
 (sRetT 4 (eCall F_Q19 (lCons (eSlice (eVar 3) none (some (eVar 2))) lNil)))
noncomputable def b_Q17_t4:Dv.SS :=
 (sCons (sForR 5 (iDown (eOp .sub (eB1 Dv.lenD (eVar 4)) (eInt 1)) (eNeg (eInt 1))) b_Q17_l2) b_Q17_t5)
noncomputable def b_Q17_t3:Dv.SS :=
 (sCons (sSet 4 (eOp .mul (eLst (lCons (eInt 0) lNil)) (eOp .sub (eB1 Dv.lenD (eVar 0)) (eVar 2)))) b_Q17_t4)
noncomputable def b_Q17_t2:Dv.SS :=
 (sCons (sSet 3 (eB1 Dv.listD (eVar 0))) b_Q17_t3)
noncomputable def b_Q17_t1:Dv.SS :=
 (sCons (sSet 2 (eOp .sub (eB1 Dv.lenD (eVar 1)) (eInt 1))) b_Q17_t2)
noncomputable def b_Q17:Dv.SS :=
 (sCons (sIf (eOr (eCm .eq (eB1 Dv.lenD (eVar 1)) (eInt 0)) (eCm .ne (eIx (eVar 1) (eNeg (eInt 1))) (eInt 1))) (sRaise "NoPart") sNil) b_Q17_t1)
noncomputable def F_Q17:List D->R:=Dv.fn 8 b_Q17
noncomputable def c_Q05_1:Dv.EE:=(eComp (eVar 0) (eCm .eq (eOp .mod (eVar 1) (eVar 0)) (eInt 0)) [0] (iRange2 (eInt 1) (eOp .add (eVar 0) (eInt 1))))
noncomputable def b_Q05_t1:Dv.SS :=
 (sRet c_Q05_1)
noncomputable def b_Q05:Dv.SS :=
 (sCons (sIf (eOr (eCm .lt (eVar 0) (eInt 1)) (eCm .gt (eVar 0) (eInt 60))) (sRaise "NoPart") sNil) b_Q05_t1)
noncomputable def F_Q05:List D->R:=Dv.fn 1 b_Q05
noncomputable def b_Q11_l1:Dv.SS :=
 (sSet 3 (eIx (eCall F_Q17 (lCons (eVar 3) (lCons (eDix (eVar 1) (eVar 4)) lNil))) (eInt 0)))
noncomputable def b_Q11_l2:Dv.SS :=
 (sCons (sSet 3 (eOp .add (eOp .add (eLst (lCons (eNeg (eInt 1)) lNil)) (eOp .mul (eLst (lCons (eInt 0) lNil)) (eOp .sub (eVar 2) (eInt 1)))) (eLst (lCons (eInt 1) lNil)))) (sCons (sFor [2] 4 (iSeq (eSlice (eCall F_Q05 (lCons (eVar 2) lNil)) none (some (eNeg (eInt 1))))) b_Q11_l1) (sDMove 1 3 (eVar 2))))
noncomputable def b_Q11_t2:Dv.SS :=
 (sRetO 1)
noncomputable def b_Q11_t1:Dv.SS :=
 (sCons (sFor [0] 2 (iSeq (eCall F_Q05 (lCons (eVar 0) lNil))) b_Q11_l2) b_Q11_t2)
noncomputable def b_Q11:Dv.SS :=
 (sCons (sSetD 1 eDict0) b_Q11_t1)
noncomputable def F_Q11:List D->R:=Dv.fn 5 b_Q11
noncomputable def b_Q0X:Dv.SS :=
 (sRet (eCm .eq (eIx (eCall F_Q17 (lCons (eCall F_Q01 (lCons (eVar 0) lNil)) (lCons (eVar 1) lNil))) (eInt 1)) (eLst lNil)))
noncomputable def F_Q0X:List D->R:=Dv.fn 2 b_Q0X
noncomputable def c_Q10_1:Dv.EE:=(eComp (eVar 0) (eCall F_Q0X (lCons (eVar 1) (lCons (eDix (eVar 2) (eVar 0)) lNil))) [1,2] (iSeq (eSlice (eCall F_Q05 (lCons (eVar 0) lNil)) (some (eInt 1)) none)))
noncomputable def b_Q10_t2:Dv.SS :=
 (sRet c_Q10_1)
noncomputable def b_Q10_t1:Dv.SS :=
 (sCons (sSetD 2 (eCall F_Q11 (lCons (eVar 0) lNil))) b_Q10_t2)
noncomputable def b_Q10:Dv.SS :=
 (sCons (sExpr (eCall F_Q02 (lCons (eVar 0) (lCons (eVar 1) lNil)))) b_Q10_t1)
noncomputable def F_Q10:List D->R:=Dv.fn 3 b_Q10
noncomputable def b_Q13:Dv.SS :=
 (sRet (eIx (eCall F_Q05 (lCons (eVar 0) lNil)) (eInt 1)))
noncomputable def F_Q13:List D->R:=Dv.fn 1 b_Q13
noncomputable def c_Q07_1:Dv.EE:=(eComp (eCm .eq (eOp .mod (eVar 0) (eVar 1)) (eInt 0)) (eBl true) [1] (iSeq (eSlice (eCall F_Q05 (lCons (eVar 0) lNil)) (some (eInt 1)) none)))
noncomputable def b_Q07_t1:Dv.SS :=
 (sRet (eB1 Dv.allD c_Q07_1))
noncomputable def b_Q07:Dv.SS :=
 (sCons (sSet 1 (eCall F_Q13 (lCons (eVar 0) lNil))) b_Q07_t1)
noncomputable def F_Q07:List D->R:=Dv.fn 2 b_Q07
noncomputable def c_Q14_1:Dv.EE:=(eComp (eVar 0) (eCall F_Q07 (lCons (eVar 0) lNil)) [] (iSeq (eSlice (eCall F_Q05 (lCons (eVar 0) lNil)) (some (eInt 1)) none)))
noncomputable def b_Q14_t1:Dv.SS :=
 (sRet c_Q14_1)
noncomputable def b_Q14:Dv.SS :=
 (sCons (sExpr (eCall F_Q04 (lCons (eVar 0) lNil))) b_Q14_t1)
noncomputable def F_Q14:List D->R:=Dv.fn 1 b_Q14
noncomputable def c_Q0Q_1:Dv.EE:=(eComp (eOp .add (eOp .mul (eVar 0) (eVar 2)) (eVar 1)) (eBl true) [10,7] (iSeq (eVar 3)))
noncomputable def c_Q0Q_2:Dv.EE:=(eComp (eOp .mul (eVar 0) (eVar 1)) (eBl true) [7] (iSeq (eVar 4)))
noncomputable def b_Q0Q_l1:Dv.SS :=
 (sSet 9 (eOp .add (eVar 9) c_Q0Q_1))
noncomputable def b_Q0Q_l2:Dv.SS :=
 (sCons (sSet 6 (eOp .mod (eOp .mul (eCall F_Q0C (lCons (eVar 0) (lCons (eOp .add (eVar 1) (eVar 5)) lNil))) (eInt 48271)) (eInt 2147483647))) (sCons (sSet 7 (eIx (eLst (lCons (eInt 2) (lCons (eInt 3) (lCons (eInt 2) (lCons (eInt 5) (lCons (eInt 2) (lCons (eInt 3) (lCons (eInt 7) lNil)))))))) (eOp .mod (eVar 6) (eInt 7)))) (sCons (sSet 8 (eOp .mod (eOp .fdiv (eVar 6) (eInt 7)) (eInt 4))) (sCons (sIf (eCm .le (eOp .mul (eVar 2) (eVar 7)) (eInt 60)) (sCons (sIf (eCm .lt (eVar 8) (eInt 2)) (sSet 3 (eCall F_Q09 (lCons (eVar 2) (lCons (eVar 3) (lCons (eVar 7) lNil))))) (sCons (sSet 9 (eLst lNil)) (sCons (sFor [] 10 (iRange (eVar 7)) b_Q0Q_l1) (sCons (sSet 3 (eB1 Dv.sortedD (eVar 9))) (sSet 4 c_Q0Q_2))))) (sSet 2 (eOp .mul (eVar 2) (eVar 7)))) sNil) (sIf (eCm .eq (eOp .mod (eOp .fdiv (eVar 6) (eInt 28)) (eInt 2)) (eInt 1)) (sPar [3,4] 3 4 (eVar 4) (eVar 3)) sNil)))))
noncomputable def b_Q0Q_t5:Dv.SS :=
 (sRet (eTup (lCons (eVar 2) (lCons (eVar 3) (lCons (eCall F_Q0V (lCons (eVar 2) (lCons (eVar 4) (lCons (eOp .mod (eCall F_Q0C (lCons (eVar 0) (lCons (eOp .add (eVar 1) (eInt 7)) lNil))) (eVar 2)) lNil)))) lNil)))))
noncomputable def b_Q0Q_t4:Dv.SS :=
 (sCons (sSet 3 (eCall F_Q0V (lCons (eVar 2) (lCons (eVar 3) (lCons (eOp .mod (eCall F_Q0C (lCons (eVar 0) (lCons (eOp .add (eVar 1) (eInt 6)) lNil))) (eVar 2)) lNil))))) b_Q0Q_t5)
noncomputable def b_Q0Q_t3:Dv.SS :=
 (sCons (sFor [] 5 (iRange (eInt 6)) b_Q0Q_l2) b_Q0Q_t4)
noncomputable def b_Q0Q_t2:Dv.SS :=
 (sCons (sSet 4 (eLst (lCons (eInt 0) lNil))) b_Q0Q_t3)
noncomputable def b_Q0Q_t1:Dv.SS :=
 (sCons (sSet 3 (eLst (lCons (eInt 0) lNil))) b_Q0Q_t2)
noncomputable def b_Q0Q:Dv.SS :=
 (sCons (sSet 2 (eInt 1)) b_Q0Q_t1)
noncomputable def F_Q0Q:List D->R:=Dv.fn 11 b_Q0Q
noncomputable def c_Q12_1:Dv.EE:=(eComp (eVar 0) (eCm .isin (eVar 0) (eVar 1)) [2] (iSeq (eCall F_Q14 (lCons (eVar 0) lNil))))
noncomputable def b_Q12_t1:Dv.SS :=
 (sRet c_Q12_1)
noncomputable def b_Q12:Dv.SS :=
 (sCons (sSet 2 (eCall F_Q10 (lCons (eVar 0) (lCons (eVar 1) lNil)))) b_Q12_t1)
noncomputable def F_Q12:List D->R:=Dv.fn 3 b_Q12
noncomputable def b_Q06_l1:Dv.SS :=
 (sAug 2 .mul (eCall F_Q13 (lCons (eVar 3) lNil)))
noncomputable def b_Q06_t2:Dv.SS :=
 (sRet (eCm .eq (eVar 2) (eB1 Dv.lenD (eVar 1))))
noncomputable def b_Q06_t1:Dv.SS :=
 (sCons (sFor [0,1] 3 (iSeq (eCall F_Q12 (lCons (eVar 0) (lCons (eVar 1) lNil)))) b_Q06_l1) b_Q06_t2)
noncomputable def b_Q06:Dv.SS :=
 (sCons (sSet 2 (eInt 1)) b_Q06_t1)
noncomputable def F_Q06:List D->R:=Dv.fn 4 b_Q06
noncomputable def b_Q0H_l1:Dv.SS :=
 (sCons (sSet 6 (eOp .mod (eOp .add (eVar 4) (eVar 5)) (eVar 0))) (sPut 3 (eVar 6) (eOp .add (eIx (eVar 3) (eVar 6)) (eInt 1))))
noncomputable def b_Q0H_l2:Dv.SS :=
 (sFor [1] 5 (iSeq (eVar 1)) b_Q0H_l1)
noncomputable def b_Q0H_t2:Dv.SS :=
 (sRet (eCm .eq (eVar 3) (eOp .mul (eLst (lCons (eInt 1) lNil)) (eVar 0))))
noncomputable def b_Q0H_t1:Dv.SS :=
 (sCons (sFor [2] 4 (iSeq (eVar 2)) b_Q0H_l2) b_Q0H_t2)
noncomputable def b_Q0H:Dv.SS :=
 (sCons (sSet 3 (eOp .mul (eLst (lCons (eInt 0) lNil)) (eVar 0))) b_Q0H_t1)
noncomputable def F_Q0H:List D->R:=Dv.fn 7 b_Q0H
noncomputable def c_Q18_1:Dv.EE:=(eComp (eOp .mul (eVar 0) (eVar 1)) (eCm .ne (eOp .mod (eVar 0) (eVar 2)) (eInt 0)) [2,3] (iSeq (eVar 1)))
noncomputable def b_Q18_l1:Dv.SS :=
 (sCons (sSet 3 (eCall F_Q13 (lCons (eVar 2) lNil))) (sSet 1 (eOp .add (eVar 1) c_Q18_1)))
noncomputable def b_Q18_t2:Dv.SS :=
 (sRetO 1)
noncomputable def b_Q18_t1:Dv.SS :=
 (sCons (sFor [0] 2 (iSeq (eVar 0)) b_Q18_l1) b_Q18_t2)
noncomputable def b_Q18:Dv.SS :=
 (sCons (sSet 1 (eLst (lCons (eInt 1) lNil))) b_Q18_t1)
noncomputable def F_Q18:List D->R:=Dv.fn 4 b_Q18
noncomputable def c_Q16_1:Dv.EE:=(eComp (eCm .isin (eVar 0) (eVar 1)) (eBl true) [2] (iSeq (eSlice (eCall F_Q18 (lCons (eCall F_Q12 (lCons (eVar 0) (lCons (eVar 1) lNil))) lNil)) (some (eInt 1)) none)))
noncomputable def b_Q16_t1:Dv.SS :=
 (sRet (eB1 Dv.allD c_Q16_1))
noncomputable def b_Q16:Dv.SS :=
 (sCons (sSet 2 (eCall F_Q10 (lCons (eVar 0) (lCons (eVar 1) lNil)))) b_Q16_t1)
noncomputable def F_Q16:List D->R:=Dv.fn 3 b_Q16
noncomputable def c_Q0T_1:Dv.EE:=(eComp (eVar 0) (eCm .eq (eOp .mod (eVar 1) (eVar 0)) (eInt 0)) [2] (iSeq (eVar 1)))
noncomputable def b_Q0T_l1:Dv.SS :=
 (sIf (eAnd (eCm .eq (eOp .mod (eVar 0) (eVar 2)) (eInt 0)) (eCm .eq c_Q0T_1 (eLst lNil))) (sApp 1 (eVar 2)) sNil)
noncomputable def b_Q0T_t2:Dv.SS :=
 (sRetO 1)
noncomputable def b_Q0T_t1:Dv.SS :=
 (sCons (sFor [] 2 (iRange2 (eInt 2) (eOp .add (eVar 0) (eInt 1))) b_Q0T_l1) b_Q0T_t2)
noncomputable def b_Q0T:Dv.SS :=
 (sCons (sSet 1 (eLst lNil)) b_Q0T_t1)
noncomputable def F_Q0T:List D->R:=Dv.fn 3 b_Q0T
noncomputable def c_Q0K_1:Dv.EE:=(eComp (eOp .sub (eIx (eVar 1) (eVar 0)) (eIx (eVar 1) (eOp .mod (eOp .add (eVar 0) (eVar 3)) (eVar 2)))) (eBl true) [2,1,5] (iRange (eVar 1)))
noncomputable def b_Q0K_l1:Dv.SS :=
 (sPut 2 (eOp .mod (eVar 3) (eVar 1)) (eOp .add (eIx (eVar 2) (eOp .mod (eVar 3) (eVar 1))) (eInt 1)))
noncomputable def b_Q0K_l2:Dv.SS :=
 (sCons (sSet 5 (eOp .fdiv (eVar 1) (eVar 4))) (sSet 2 c_Q0K_1))
noncomputable def b_Q0K_t3:Dv.SS :=
 (sRet (eCm .eq (eVar 2) (eOp .mul (eLst (lCons (eInt 0) lNil)) (eVar 1))))
noncomputable def b_Q0K_t2:Dv.SS :=
 (sCons (sFor [1] 4 (iSeq (eCall F_Q0T (lCons (eVar 1) lNil))) b_Q0K_l2) b_Q0K_t3)
noncomputable def b_Q0K_t1:Dv.SS :=
 (sCons (sFor [0] 3 (iSeq (eVar 0)) b_Q0K_l1) b_Q0K_t2)
noncomputable def b_Q0K:Dv.SS :=
 (sCons (sSet 2 (eOp .mul (eLst (lCons (eInt 0) lNil)) (eVar 1))) b_Q0K_t1)
noncomputable def F_Q0K:List D->R:=Dv.fn 6 b_Q0K
noncomputable def c_Q0S_1:Dv.EE:=(eComp (eVar 0) (eAnd (eCm .eq (eOp .mod (eVar 1) (eVar 0)) (eInt 0)) (eCm .eq (eB1 Dv.lenD (eCall F_Q0T (lCons (eVar 0) lNil))) (eInt 1))) [0] (iRange2 (eInt 2) (eOp .add (eVar 0) (eInt 1))))
noncomputable def b_Q0S:Dv.SS :=
 (sRet c_Q0S_1)
noncomputable def F_Q0S:List D->R:=Dv.fn 1 b_Q0S
noncomputable def b_Q0I_l1:Dv.SS :=
 (sIf (eCall F_Q0K (lCons (eVar 1) (lCons (eVar 3) lNil))) (sSet 2 (eOp .mul (eVar 2) (eIx (eCall F_Q0T (lCons (eVar 3) lNil)) (eInt 0)))) sNil)
noncomputable def b_Q0I_t2:Dv.SS :=
 (sRet (eCm .eq (eVar 2) (eB1 Dv.lenD (eVar 1))))
noncomputable def b_Q0I_t1:Dv.SS :=
 (sCons (sFor [0] 3 (iSeq (eCall F_Q0S (lCons (eVar 0) lNil))) b_Q0I_l1) b_Q0I_t2)
noncomputable def b_Q0I:Dv.SS :=
 (sCons (sSet 2 (eInt 1)) b_Q0I_t1)
noncomputable def F_Q0I:List D->R:=Dv.fn 4 b_Q0I
noncomputable def c_Q0U_1:Dv.EE:=(eComp (eVar 0) (eCall F_Q0K (lCons (eVar 1) (lCons (eVar 0) lNil))) [1] (iSeq (eCall F_Q0S (lCons (eVar 0) lNil))))
noncomputable def c_Q0U_2:Dv.EE:=(eComp (eVar 0) (eCm .notin (eVar 0) (eVar 1)) [2] (iSeq (eVar 4)))
noncomputable def b_Q0U_l1:Dv.SS :=
 (sSet 6 (eOp .mul (eVar 6) (eVar 5)))
noncomputable def b_Q0U_l2:Dv.SS :=
 (sCons (sSetG [5] 6 (eVar 5)) (sCons (sWhile 100000 (eCm .eq (eOp .mod (eVar 3) (eOp .mul (eVar 6) (eVar 5))) (eInt 0)) b_Q0U_l1) (sApp 4 (eVar 6))))
noncomputable def b_Q0U_l3:Dv.SS :=
 (sCons (sSet 4 (eLst lNil)) (sCons (sFor [3] 5 (iSeq (eCall F_Q0T (lCons (eVar 3) lNil))) b_Q0U_l2) (sIf (eAnd (eCm .eq (eOp .mod (eVar 0) (eVar 3)) (eInt 0)) (eAnd (eCm .gt (eB1 Dv.lenD (eVar 4)) (eInt 1)) (eCm .eq c_Q0U_2 (eLst lNil)))) (sIf (eNot (eCall F_Q0K (lCons (eVar 1) (lCons (eVar 3) lNil)))) (sRet (eBl false)) sNil) sNil)))
noncomputable def b_Q0U_t2:Dv.SS :=
 (sRet (eBl true))
noncomputable def b_Q0U_t1:Dv.SS :=
 (sCons (sFor [] 3 (iRange2 (eInt 2) (eOp .add (eVar 0) (eInt 1))) b_Q0U_l3) b_Q0U_t2)
noncomputable def b_Q0U:Dv.SS :=
 (sCons (sSet 2 c_Q0U_1) b_Q0U_t1)
noncomputable def F_Q0U:List D->R:=Dv.fn 7 b_Q0U
noncomputable def c_Q15_1:Dv.EE:=(eComp (eOp .mul (eOp .mul (eVar 0) (eVar 1)) (eOp .fdiv (eVar 2) (eVar 3))) (eBl true) [3,1,2] (iRange (eVar 2)))
noncomputable def b_Q15_l1:Dv.SS :=
 (sAug 3 .fdiv (eVar 2))
noncomputable def b_Q15_t3:Dv.SS :=
 (sRet c_Q15_1)
noncomputable def b_Q15_t2:Dv.SS :=
 (sCons (sWhile 100000 (eCm .eq (eOp .mod (eVar 3) (eVar 2)) (eInt 0)) b_Q15_l1) b_Q15_t3)
noncomputable def b_Q15_t1:Dv.SS :=
 (sCons (sSetG [0] 3 (eVar 0)) b_Q15_t2)
noncomputable def b_Q15:Dv.SS :=
 (sCons (sSet 2 (eCall F_Q13 (lCons (eVar 1) lNil))) b_Q15_t1)
noncomputable def F_Q15:List D->R:=Dv.fn 4 b_Q15
noncomputable def c_Q00_1:Dv.EE:=(eComp (eOp .add (eVar 1) (eVar 0)) (eBl true) [3] (iSeq (eVar 1)))
noncomputable def b_Q00_l1:Dv.SS :=
 (sExt 2 c_Q00_1)
noncomputable def b_Q00_t2:Dv.SS :=
 (sRetO 2)
noncomputable def b_Q00_t1:Dv.SS :=
 (sCons (sFor [0] 3 (iSeq (eVar 0)) b_Q00_l1) b_Q00_t2)
noncomputable def b_Q00:Dv.SS :=
 (sCons (sSet 2 (eLst lNil)) b_Q00_t1)
noncomputable def F_Q00:List D->R:=Dv.fn 4 b_Q00
noncomputable def b_Q0Z_l1:Dv.SS :=
 (sIf (eCm .notin (eVar 4) (eVar 2)) (sSet 3 (eCall F_Q00 (lCons (eVar 3) (lCons (eCall F_Q15 (lCons (eVar 0) (lCons (eVar 4) lNil))) lNil)))) sNil)
noncomputable def b_Q0Z_t4:Dv.SS :=
 (sRet (eCall F_Q0Y (lCons (eVar 0) (lCons (eVar 3) lNil))))
noncomputable def b_Q0Z_t3:Dv.SS :=
 (sCons (sFor [0] 4 (iSeq (eCall F_Q14 (lCons (eVar 0) lNil))) b_Q0Z_l1) b_Q0Z_t4)
noncomputable def b_Q0Z_t2:Dv.SS :=
 (sCons (sSet 3 (eLst (lCons (eInt 0) lNil))) b_Q0Z_t3)
noncomputable def b_Q0Z_t1:Dv.SS :=
 (sCons (sSet 2 (eCall F_Q12 (lCons (eVar 0) (lCons (eVar 1) lNil)))) b_Q0Z_t2)
noncomputable def b_Q0Z:Dv.SS :=
 (sCons (sIf (eOr (eNot (eCall F_Q06 (lCons (eVar 0) (lCons (eVar 1) lNil)))) (eNot (eCall F_Q16 (lCons (eVar 0) (lCons (eVar 1) lNil))))) (sRaise "NoRule") sNil) b_Q0Z_t1)
noncomputable def F_Q0Z:List D->R:=Dv.fn 5 b_Q0Z
noncomputable def c_Q0F_1:Dv.EE:=(eCompTb (eOp .mul (eLst (lCons (eInt 1) lNil)) (eVar 1)) (eBl true) [4] (iRange (eVar 3)))
noncomputable def b_Q0F_l1:Dv.SS :=
 (sCons (sSet 8 (eOp .mod (eOp .mul (eCall F_Q0C (lCons (eVar 0) (lCons (eOp .add (eOp .add (eVar 1) (eInt 1)) (eVar 7)) lNil))) (eInt 48271)) (eInt 2147483647))) (sCons (sSet 9 (eOp .mod (eVar 8) (eVar 3))) (sCons (sSet 10 (eOp .mod (eOp .add (eOp .add (eVar 9) (eInt 1)) (eOp .mod (eOp .fdiv (eVar 8) (eInt 8)) (eOp .sub (eVar 3) (eInt 1)))) (eVar 3))) (sCons (sSet 11 (eOp .mod (eOp .fdiv (eVar 8) (eInt 64)) (eVar 4))) (sCons (sSet 12 (eOp .mod (eOp .add (eOp .add (eVar 11) (eInt 1)) (eOp .mod (eOp .fdiv (eVar 8) (eInt 512)) (eOp .sub (eVar 4) (eInt 1)))) (eVar 4))) (sCons (sSet 13 (eB2 Dv.min2D (eIx (eIxT (eVar 6) (eVar 9)) (eVar 12)) (eIx (eIxT (eVar 6) (eVar 10)) (eVar 11)))) (sIf (eAnd (eCm .gt (eVar 13) (eInt 0)) (eCm .lt (eB2 Dv.max2D (eIx (eIxT (eVar 6) (eVar 9)) (eVar 11)) (eIx (eIxT (eVar 6) (eVar 10)) (eVar 12))) (eVar 5))) (sCons (sPutT 6 (eVar 9) (eVar 11) (eOp .add (eIx (eIxT (eVar 6) (eVar 9)) (eVar 11)) (eInt 1))) (sCons (sPutT 6 (eVar 10) (eVar 12) (eOp .add (eIx (eIxT (eVar 6) (eVar 10)) (eVar 12)) (eInt 1))) (sCons (sPutT 6 (eVar 9) (eVar 12) (eOp .sub (eIx (eIxT (eVar 6) (eVar 9)) (eVar 12)) (eInt 1))) (sPutT 6 (eVar 10) (eVar 11) (eOp .sub (eIx (eIxT (eVar 6) (eVar 10)) (eVar 11)) (eInt 1)))))) sNil)))))))
noncomputable def b_Q0F_t5:Dv.SS :=
 (sRetTb (eOp .mul (eOp .mul (eVar 3) (eVar 4)) (eVar 5)) (eVar 3) (eVar 4) 6)
noncomputable def b_Q0F_t4:Dv.SS :=
 (sCons (sFor [] 7 (iRange (eInt 6)) b_Q0F_l1) b_Q0F_t5)
noncomputable def b_Q0F_t3:Dv.SS :=
 (sCons (sSetD 6 c_Q0F_1) b_Q0F_t4)
noncomputable def b_Q0F_t2:Dv.SS :=
 (sCons (sSet 5 (eOp .mul (eVar 5) (eInt 2))) b_Q0F_t3)
noncomputable def b_Q0F_t1:Dv.SS :=
 (sCons (sSet 5 (eOp .add (eInt 1) (eOp .mod (eOp .fdiv (eCall F_Q0C (lCons (eVar 0) (lCons (eVar 1) lNil))) (eInt 5)) (eB2 Dv.max2D (eInt 1) (eOp .fdiv (eVar 2) (eOp .mul (eOp .mul (eVar 3) (eVar 4)) (eInt 2))))))) b_Q0F_t2)
noncomputable def b_Q0F:Dv.SS :=
 (sCons (sUnpack [0,1] [3,4] (eIx (eLst (lCons (eTup (lCons (eInt 2) (lCons (eInt 3) lNil))) (lCons (eTup (lCons (eInt 2) (lCons (eInt 5) lNil))) (lCons (eTup (lCons (eInt 3) (lCons (eInt 2) lNil))) (lCons (eTup (lCons (eInt 2) (lCons (eInt 3) lNil))) (lCons (eTup (lCons (eInt 3) (lCons (eInt 5) lNil))) lNil)))))) (eOp .mod (eCall F_Q0C (lCons (eVar 0) (lCons (eVar 1) lNil))) (eInt 5)))) b_Q0F_t1)
noncomputable def F_Q0F:List D->R:=Dv.fn 14 b_Q0F
noncomputable def b_Q0O_l1:Dv.SS :=
 (sCons (sSet 9 (eOp .mod (eOp .add (eOp .mul (eVar 8) (eInt 7)) (eOp .mod (eCall F_Q0C (lCons (eVar 0) (lCons (eOp .add (eVar 1) (eInt 7)) lNil))) (eInt 1000003))) (eVar 3))) (sCons (sRowDec 6 10 7 (eOp .mod (eVar 9) (eVar 4)) (eOp .mod (eVar 9) (eVar 5)) (eVar 9)) sNil))
noncomputable def b_Q0O_t3:Dv.SS :=
 (sRet (eLst (lCons (eVar 3) (lCons (eB1 Dv.sortedD (eVar 7)) lNil))))
noncomputable def b_Q0O_t2:Dv.SS :=
 (sCons (sFor [] 8 (iRange (eVar 3)) b_Q0O_l1) b_Q0O_t3)
noncomputable def b_Q0O_t1:Dv.SS :=
 (sCons (sSet 7 (eLst lNil)) b_Q0O_t2)
noncomputable def b_Q0O:Dv.SS :=
 (sCons (sUnpackTb 3 4 5 6 (eCall F_Q0F (lCons (eVar 0) (lCons (eVar 1) (lCons (eVar 2) lNil))))) b_Q0O_t1)
noncomputable def F_Q0O:List D->R:=Dv.fn 11 b_Q0O
noncomputable def c_Q0M_1:Dv.EE:=(eComp (eOp .mod (eOp .add (eVar 0) (eOp .mul (eOp .mul (eVar 2) (eVar 3)) (eOp .fdiv (eVar 4) (eVar 5)))) (eVar 1)) (eBl true) [0,7,5,3,4] (iSeq (eVar 2)))
noncomputable def b_Q0M_l1:Dv.SS :=
 (sSet 5 (eOp .fdiv (eVar 5) (eVar 4)))
noncomputable def b_Q0M_l2:Dv.SS :=
 (sSet 6 (eOp .add (eVar 6) c_Q0M_1))
noncomputable def b_Q0M_l3:Dv.SS :=
 (sIf (eNot (eCall F_Q0K (lCons (eVar 1) (lCons (eVar 3) lNil)))) (sCons (sSet 4 (eIx (eCall F_Q0T (lCons (eVar 3) lNil)) (eInt 0))) (sCons (sSetG [0] 5 (eVar 0)) (sCons (sWhile 100000 (eCm .eq (eOp .mod (eVar 5) (eVar 4)) (eInt 0)) b_Q0M_l1) (sCons (sSet 6 (eLst lNil)) (sCons (sFor [] 7 (iRange (eVar 4)) b_Q0M_l2) (sSetG [6] 2 (eVar 6))))))) sNil)
noncomputable def b_Q0M_t2:Dv.SS :=
 (sRet (eB1 Dv.sortedD (eVar 2)))
noncomputable def b_Q0M_t1:Dv.SS :=
 (sCons (sFor [0] 3 (iSeq (eCall F_Q0S (lCons (eVar 0) lNil))) b_Q0M_l3) b_Q0M_t2)
noncomputable def b_Q0M:Dv.SS :=
 (sCons (sSet 2 (eLst (lCons (eInt 0) lNil))) b_Q0M_t1)
noncomputable def F_Q0M:List D->R:=Dv.fn 8 b_Q0M
noncomputable def b_Q0L_t11:Dv.SS :=
 (sRet (eAnd (eCall F_Q0A (lCons (eVar 8) (lCons (eCall F_Q0M (lCons (eVar 2) (lCons (eVar 7) lNil))) lNil))) (eCall F_Q0H (lCons (eVar 2) (lCons (eVar 7) (lCons (eVar 8) lNil))))))
noncomputable def b_Q0L_t10:Dv.SS :=
 (sCons (sSet 8 (eCall F_Q0Z (lCons (eVar 2) (lCons (eVar 7) lNil)))) b_Q0L_t11)
noncomputable def b_Q0L_t9:Dv.SS :=
 (sCons (sIf (eOr (eNot (eCall F_Q0I (lCons (eVar 2) (lCons (eVar 7) lNil)))) (eNot (eCall F_Q0U (lCons (eVar 2) (lCons (eVar 7) lNil))))) (sRet (eBl true)) sNil) b_Q0L_t10)
noncomputable def b_Q0L_t8:Dv.SS :=
 (sCons (sIf (eNot (eCall F_Q0A (lCons (eCall F_Q0Z (lCons (eVar 2) (lCons (eVar 5) lNil))) (lCons (eVar 7) lNil)))) (sRet (eBl false)) sNil) b_Q0L_t9)
noncomputable def b_Q0L_t7:Dv.SS :=
 (sCons (sApp 6 (eInt 0)) b_Q0L_t8)
noncomputable def b_Q0L_t6:Dv.SS :=
 (sCons (sIf (eOr (eNot (eCall F_Q0A (lCons (eVar 6) (lCons (eVar 7) lNil)))) (eOr (eNot (eCall F_Q0H (lCons (eVar 2) (lCons (eVar 3) (lCons (eVar 7) lNil))))) (eCm .ne (eVar 5) (eVar 3)))) (sRet (eBl false)) sNil) b_Q0L_t7)
noncomputable def b_Q0L_t5:Dv.SS :=
 (sCons (sSet 7 (eCall F_Q0M (lCons (eVar 2) (lCons (eVar 3) lNil)))) b_Q0L_t6)
noncomputable def b_Q0L_t4:Dv.SS :=
 (sCons (sSet 6 (eCall F_Q0Z (lCons (eVar 2) (lCons (eVar 5) lNil)))) b_Q0L_t5)
noncomputable def b_Q0L_t3:Dv.SS :=
 (sCons (sSet 5 (eB1 Dv.listD (eVar 3))) b_Q0L_t4)
noncomputable def b_Q0L_t2:Dv.SS :=
 (sCons (sIf (eOr (eNot (eCall F_Q0I (lCons (eVar 2) (lCons (eVar 3) lNil)))) (eNot (eCall F_Q0U (lCons (eVar 2) (lCons (eVar 3) lNil))))) (sRet (eBl true)) sNil) b_Q0L_t3)
noncomputable def b_Q0L_t1:Dv.SS :=
 (sCons (sIf (eCm .eq (eOp .mod (eIx (eVar 1) (eInt 0)) (eInt 3)) (eInt 1)) (sUnpackL [1] [2,3] (eCall F_Q0O (lCons (eVar 1) (lCons (eInt 1) (lCons (eInt 60) lNil))))) (sUnpack [1] [2,3,4] (eCall F_Q0Q (lCons (eVar 1) (lCons (eInt 1) lNil))))) b_Q0L_t2)
noncomputable def b_Q0L:Dv.SS :=
 (sCons (sSet 1 (eCall F_Q0D (lCons (eVar 0) (lCons (eInt 10) lNil)))) b_Q0L_t1)
noncomputable def F_Q0L:List D->R:=Dv.fn 9 b_Q0L
end Cw
set_option maxHeartbeats 4000000
namespace Lk32
open PySem PySem.Spec PyProof.Rows L2 Sd Cw
open Dv (D R RL EE EL EI RI Sl Out SS)
noncomputable def top (i:Nat):Stmt:=PySem.Challenge.pw_canonwheel_k32_whole_made_partner.main.body.getD i (.Pass ⟨0,0,0,0⟩)
section
variable {P:Program}{w:World}{K:PySem.W.Frag}{mg:Str->Option Value}{base:Heap}{ad:String->Option Addr}
noncomputable abbrev s_Q04:Stmt:=top 8
theorem sc_check_wheel:FnScope ["length"] ["length"] (defScope s_Q04):=⟨rfl,rfl,rfl,by decide +kernel,rfl,by decide +kernel,by decide +kernel⟩
theorem ok_Q04 {f:Addr}{fd:FuncData}(d:Df K mg "check_wheel" s_Q04 ["length"] f fd)(xa:XAll K mg ad){C_3:Addr}(h_3:ad "NoWheel"=some C_3){t_LONGEST:Tok}(n_LONGEST:mg "LONGEST"=some (.int 60 t_LONGEST)) :
  FnOk P w K mg base (CXe P w) 1 f fd ["length"] (spD K (clsOf ad) F_Q04 1):=by
 have nd:=sc_check_wheel.nd
 refine Df.is cxe_ok ["length"] 0 b_Q04 d sc_check_wheel rfl rfl rfl fun cdv A outer s H E hr=>?_
 exact(ss_one (st_if (sc_w (sw_or (sc_lt (se_var 0) se_int) (sw_one _ (sc_gt (se_var 0) (se_num rfl n_LONGEST))))) (ss_raise (xa.cl _ _ h_3).1 (clsOf_eq h_3) rfl) ss_nil))
noncomputable abbrev s_Q03:Stmt:=top 9
theorem sc_check_rising:FnScope ["numbers","end","before","number"] ["numbers","end"] (defScope s_Q03):=⟨rfl,rfl,rfl,by decide +kernel,rfl,by decide +kernel,by decide +kernel⟩
theorem ok_Q03 {f:Addr}{fd:FuncData}(d:Df K mg "check_rising" s_Q03 ["numbers","end"] f fd)(xa:XAll K mg ad){C_0:Addr}(h_0:ad "NoBeat"=some C_0)(z_len:mg "len"=none) :
  FnOk P w K mg base (CXe P w) 1 f fd ["numbers","end"] (spD K (clsOf ad) F_Q03 2):=by
 have nd:=sc_check_rising.nd
 refine Df.is cxe_ok ["numbers","end","before","number"] 0 b_Q03 d sc_check_rising rfl rfl rfl fun cdv A outer s H E hr=>?_
 exact(ss_cons (st_if (sc_eq (se_len z_len rfl (se_var 0)) se_int) (ss_raise (xa.cl _ _ h_0).1 (clsOf_eq h_0) rfl) ss_nil) (ss_cons (st_set (i:=2) (se_neg se_int) nd rfl (Or.inl rfl)) (ss_one (st_for [0] (i:=3) (si_list (se_var 0)) (ss_cons (st_if (sc_w (sw_or (sc_le (se_var 3) (se_var 2)) (sw_one _ (sc_ge (se_var 3) (se_var 1))))) (ss_raise (xa.cl _ _ h_0).1 (clsOf_eq h_0) rfl) ss_nil) (ss_one (st_setG [3] (i:=2) (se_var 3) nd rfl (Or.inl rfl)))) nd rfl (Or.inl rfl)))))
noncomputable abbrev s_Q02:Stmt:=top 10
theorem sc_check_beat:FnScope ["length","beat"] ["length","beat"] (defScope s_Q02):=⟨rfl,rfl,rfl,by decide +kernel,rfl,by decide +kernel,by decide +kernel⟩
theorem ok_Q02 {f:Addr}{fd:FuncData}(d:Df K mg "check_beat" s_Q02 ["length","beat"] f fd){f_Q04:Addr}{fd_check_wheel:FuncData}(d_Q04:Df K mg "check_wheel" s_Q04 ["length"] f_Q04 fd_check_wheel)(o_Q04:FnOk P w K mg base (CXe P w) 1 f_Q04 fd_check_wheel ["length"] (spD K (clsOf ad) F_Q04 1)){f_Q03:Addr}{fd_check_rising:FuncData}(d_Q03:Df K mg "check_rising" s_Q03 ["numbers","end"] f_Q03 fd_check_rising)(o_Q03:FnOk P w K mg base (CXe P w) 1 f_Q03 fd_check_rising ["numbers","end"] (spD K (clsOf ad) F_Q03 2)) :
  FnOk P w K mg base (CXe P w) 2 f fd ["length","beat"] (spD K (clsOf ad) F_Q02 2):=by
 have nd:=sc_check_beat.nd
 refine Df.is cxe_ok ["length","beat"] 1 b_Q02 d sc_check_beat rfl rfl rfl fun cdv A outer s H E hr=>?_
 exact(ss_cons (st_expr (se_fn d_Q04 o_Q04 hr (by decide) rfl (sl_cons (se_var 0) sl_nil))) (ss_one (st_expr (se_fn d_Q03 o_Q03 hr (by decide) rfl (sl_cons (se_var 1) (sl_cons (se_var 0) sl_nil))))))
noncomputable abbrev s_Q0Y:Stmt:=top 11
theorem sc_made_beat:FnScope ["length","numbers","beat"] ["length","numbers"] (defScope s_Q0Y):=⟨rfl,rfl,rfl,by decide +kernel,rfl,by decide +kernel,by decide +kernel⟩
theorem ok_Q0Y {f:Addr}{fd:FuncData}(d:Df K mg "made_beat" s_Q0Y ["length","numbers"] f fd){f_Q04:Addr}{fd_check_wheel:FuncData}(d_Q04:Df K mg "check_wheel" s_Q04 ["length"] f_Q04 fd_check_wheel)(o_Q04:FnOk P w K mg base (CXe P w) 1 f_Q04 fd_check_wheel ["length"] (spD K (clsOf ad) F_Q04 1)){f_Q02:Addr}{fd_check_beat:FuncData}(d_Q02:Df K mg "check_beat" s_Q02 ["length","beat"] f_Q02 fd_check_beat)(o_Q02:FnOk P w K mg base (CXe P w) 2 f_Q02 fd_check_beat ["length","beat"] (spD K (clsOf ad) F_Q02 2))(z_sorted:mg "sorted"=none) :
  FnOk P w K mg base (CXe P w) 3 f fd ["length","numbers"] (spD K (clsOf ad) F_Q0Y 2):=by
 have nd:=sc_made_beat.nd
 refine Df.is cxe_ok ["length","numbers","beat"] 2 b_Q0Y d sc_made_beat rfl rfl rfl fun cdv A outer s H E hr=>?_
 exact(ss_cons (st_expr (se_fn d_Q04 o_Q04 hr (by decide) rfl (sl_cons (se_var 0) sl_nil))) (ss_cons (st_set (i:=2) (se_sorted z_sorted rfl (se_comp (fs:=["length"]) (is:=[0]) (fe:=(Dv.eOp .mod (Dv.eVar 0) (Dv.eVar 1))) (fc:=(Dv.eBl true)) (comp_names (fsc:=defScope s_Q0Y) (N:=["length","numbers","beat"]) rfl rfl (by decide +kernel)) (si_list (se_var 1)) (fun cl L s₀ H₀ ex=>(se_mod (se_var 0) (se_var 1))) (fun cl L s₀ H₀ ex=>ts_nil))) nd rfl (Or.inl rfl)) (ss_cons (st_expr (se_fn d_Q02 o_Q02 hr (by decide) rfl (sl_cons (se_var 0) (sl_cons (se_var 2) sl_nil)))) (ss_one (st_retO 2)))))
noncomputable abbrev s_Q01:Stmt:=top 13
theorem sc_beat_sum:FnScope ["beat","numbers","place"] ["beat"] (defScope s_Q01):=⟨rfl,rfl,rfl,by decide +kernel,rfl,by decide +kernel,by decide +kernel⟩
theorem ok_Q01 {f:Addr}{fd:FuncData}(d:Df K mg "beat_sum" s_Q01 ["beat"] f fd)(z_len:mg "len"=none) :
  FnOk P w K mg base (CXe P w) 1 f fd ["beat"] (spD K (clsOf ad) F_Q01 1):=by
 have nd:=sc_beat_sum.nd
 refine Df.is cxe_ok ["beat","numbers","place"] 0 b_Q01 d sc_beat_sum rfl rfl rfl fun cdv A outer s H E hr=>?_
 exact(ss_cons (st_if (sc_eq (se_len z_len rfl (se_var 0)) se_int) (ss_one (st_ret (se_lst sl_nil))) ss_nil) (ss_cons (st_set (i:=1) (se_mul (se_lst (sl_cons se_int sl_nil)) (se_add (se_ix (se_var 0) (se_neg se_int)) se_int)) nd rfl (Or.inl rfl)) (ss_cons (st_for [0] (i:=2) (si_list (se_var 0)) (ss_one (st_put (i:=1) se_int (se_var 2))) nd rfl (Or.inl rfl)) (ss_one (st_retO 1)))))
noncomputable abbrev s_Q19:Stmt:=top 14
theorem sc_without_last_noughts:FnScope ["numbers","size"] ["numbers"] (defScope s_Q19):=⟨rfl,rfl,rfl,by decide +kernel,rfl,by decide +kernel,by decide +kernel⟩
theorem ok_Q19 {f:Addr}{fd:FuncData}(d:Df K mg "without_last_noughts" s_Q19 ["numbers"] f fd)(z_len:mg "len"=none) :
  FnOk P w K mg base (CXe P w) 1 f fd ["numbers"] (spD K (clsOf ad) F_Q19 1):=by
 have nd:=sc_without_last_noughts.nd
 refine Df.is cxe_ok ["numbers","size"] 0 b_Q19 d sc_without_last_noughts rfl rfl rfl fun cdv A outer s H E hr=>?_
 exact(ss_cons (st_set (i:=1) (se_len z_len rfl (se_var 0)) nd rfl (Or.inl rfl)) (ss_cons (st_while 100000 (sc_w (sw_and (sc_gt (se_var 1) se_int) (sw_one _ (sc_eq (se_ix (se_var 0) (se_sub (se_var 1) se_int)) se_int)))) (ss_one (st_augSub (i:=1) se_int nd rfl (Or.inl rfl)))) (ss_one (st_ret (se_slice (se_var 0) so_none (so_some (se_var 1)))))))
noncomputable abbrev s_Q17:Stmt:=top 15
theorem sc_sum_divided:FnScope ["one","other","last","rest","share","low","high","number"] ["one","other"] (defScope s_Q17):=⟨rfl,rfl,rfl,by decide +kernel,rfl,by decide +kernel,by decide +kernel⟩
theorem ok_Q17 {f:Addr}{fd:FuncData}(d:Df K mg "sum_divided" s_Q17 ["one","other"] f fd){f_Q19:Addr}{fd_without_last_noughts:FuncData}(d_Q19:Df K mg "without_last_noughts" s_Q19 ["numbers"] f_Q19 fd_without_last_noughts)(o_Q19:FnOk P w K mg base (CXe P w) 1 f_Q19 fd_without_last_noughts ["numbers"] (spD K (clsOf ad) F_Q19 1))(xa:XAll K mg ad){C_1:Addr}(h_1:ad "NoPart"=some C_1)(z_len:mg "len"=none)(z_list:mg "list"=none)(z_range:mg "range"=none)(z_enumerate:mg "enumerate"=none) :
  FnOk P w K mg base (CXe P w) 2 f fd ["one","other"] (spD K (clsOf ad) F_Q17 2):=by
 have nd:=sc_sum_divided.nd
 refine Df.is cxe_ok ["one","other","last","rest","share","low","high","number"] 1 b_Q17 d sc_sum_divided rfl rfl rfl fun cdv A outer s H E hr=>?_
 exact(ss_cons (st_if (sc_w (sw_or (sc_eq (se_len z_len rfl (se_var 1)) se_int) (sw_one _ (sc_ne (se_ix (se_var 1) (se_neg se_int)) se_int)))) (ss_raise (xa.cl _ _ h_1).1 (clsOf_eq h_1) rfl) ss_nil) (ss_cons (st_set (i:=2) (se_sub (se_len z_len rfl (se_var 1)) se_int) nd rfl (Or.inl rfl)) (ss_cons (st_set (i:=3) (se_list z_list rfl (se_var 0)) nd rfl (Or.inl rfl)) (ss_cons (st_set (i:=4) (se_mul (se_lst (sl_cons se_int sl_nil)) (se_sub (se_len z_len rfl (se_var 0)) (se_var 2))) nd rfl (Or.inl rfl)) (ss_cons (st_forR (i:=5) (sr_down rfl z_range (se_sub (se_len z_len rfl (se_var 4)) se_int) (se_neg se_int) (se_neg se_int)) (ss_cons (st_put (i:=4) (se_ix (se_var 3) (se_add (se_var 5) (se_var 2))) (se_var 5)) (ss_one (st_forT [1] (si_enum rfl z_enumerate (se_var 1)) (sg_tup (xs:=[6,7]) (gs_cons (i:=6) (gs_cons (i:=7) gs_nil nd rfl (Or.inl rfl)) nd rfl (Or.inl rfl)) rfl) (ss_one (st_augIxS (i:=3) (se_mul (se_ix (se_var 4) (se_var 5)) (se_var 7)) (se_add (se_var 5) (se_var 6))))))) nd rfl (Or.inl rfl)) (ss_one (st_retT (i:=4) (se_fn d_Q19 o_Q19 hr (by decide) rfl (sl_cons (se_slice (se_var 3) so_none (so_some (se_var 2))) sl_nil)))))))))
noncomputable abbrev s_Q05:Stmt:=top 18
theorem sc_divisors:FnScope ["number"] ["number"] (defScope s_Q05):=⟨rfl,rfl,rfl,by decide +kernel,rfl,by decide +kernel,by decide +kernel⟩
theorem ok_Q05 {f:Addr}{fd:FuncData}(d:Df K mg "divisors" s_Q05 ["number"] f fd)(xa:XAll K mg ad){C_1:Addr}(h_1:ad "NoPart"=some C_1)(z_range:mg "range"=none){t_LAST_PART:Tok}(n_LAST_PART:mg "LAST_PART"=some (.int 60 t_LAST_PART)) :
  FnOk P w K mg base (CXe P w) 1 f fd ["number"] (spD K (clsOf ad) F_Q05 1):=by
 have nd:=sc_divisors.nd
 refine Df.is cxe_ok ["number"] 0 b_Q05 d sc_divisors rfl rfl rfl fun cdv A outer s H E hr=>?_
 exact(ss_cons (st_if (sc_w (sw_or (sc_lt (se_var 0) se_int) (sw_one _ (sc_gt (se_var 0) (se_num rfl n_LAST_PART))))) (ss_raise (xa.cl _ _ h_1).1 (clsOf_eq h_1) rfl) ss_nil) (ss_one (st_ret (se_comp (fs:=["number"]) (is:=[0]) (fe:=(Dv.eVar 0)) (fc:=(Dv.eCm .eq (Dv.eOp .mod (Dv.eVar 1) (Dv.eVar 0)) (Dv.eInt 0))) (comp_names (fsc:=defScope s_Q05) (N:=["number"]) rfl rfl (by decide +kernel)) (si_range2 rfl z_range se_int (se_add (se_var 0) se_int)) (fun cl L s₀ H₀ ex=>(se_var 0)) (fun cl L s₀ H₀ ex=>(ts_one (sc_eq (se_mod (se_var 1) (se_var 0)) se_int)))))))
noncomputable abbrev s_Q11:Stmt:=top 19
theorem sc_parts_of_divisors:FnScope ["number","found","divisor","left","ahead"] ["number"] (defScope s_Q11):=⟨rfl,rfl,rfl,by decide +kernel,rfl,by decide +kernel,by decide +kernel⟩
theorem ok_Q11 {f:Addr}{fd:FuncData}(d:Df K mg "parts_of_divisors" s_Q11 ["number"] f fd){f_Q05:Addr}{fd_divisors:FuncData}(d_Q05:Df K mg "divisors" s_Q05 ["number"] f_Q05 fd_divisors)(o_Q05:FnOk P w K mg base (CXe P w) 1 f_Q05 fd_divisors ["number"] (spD K (clsOf ad) F_Q05 1)){f_Q17:Addr}{fd_sum_divided:FuncData}(d_Q17:Df K mg "sum_divided" s_Q17 ["one","other"] f_Q17 fd_sum_divided)(o_Q17:FnOk P w K mg base (CXe P w) 2 f_Q17 fd_sum_divided ["one","other"] (spD K (clsOf ad) F_Q17 2)) :
  FnOk P w K mg base (CXe P w) 3 f fd ["number"] (spD K (clsOf ad) F_Q11 1):=by
 have nd:=sc_parts_of_divisors.nd
 refine Df.is cxe_ok ["number","found","divisor","left","ahead"] 2 b_Q11 d sc_parts_of_divisors rfl rfl rfl fun cdv A outer s H E hr=>?_
 exact(ss_cons (st_setD (i:=1) se_dict0 nd rfl (Or.inl rfl)) (ss_cons (st_for [0] (i:=2) (si_list (se_fn d_Q05 o_Q05 hr (by decide) rfl (sl_cons (se_var 0) sl_nil))) (ss_cons (st_set (i:=3) (se_add (se_add (se_lst (sl_cons (se_neg se_int) sl_nil)) (se_mul (se_lst (sl_cons se_int sl_nil)) (se_sub (se_var 2) se_int))) (se_lst (sl_cons se_int sl_nil))) nd rfl (Or.inl rfl)) (ss_cons (st_for [2] (i:=4) (si_list (se_slice (se_fn d_Q05 o_Q05 hr (by decide) rfl (sl_cons (se_var 2) sl_nil)) so_none (so_some (se_neg se_int)))) (ss_one (st_set (i:=3) (se_ix (se_fn d_Q17 o_Q17 hr (by decide) rfl (sl_cons (se_var 3) (sl_cons (se_dix (se_var 1) (se_var 4)) sl_nil))) se_int) nd rfl (Or.inl rfl))) nd rfl (Or.inl rfl)) (ss_one (st_dmove (i:=1) (y:=3) (se_var 2))))) nd rfl (Or.inl rfl)) (ss_one (st_retO 1))))
noncomputable abbrev s_Q0X:Stmt:=top 20
theorem sc_leaves_nought:FnScope ["beat","divisor"] ["beat","divisor"] (defScope s_Q0X):=⟨rfl,rfl,rfl,by decide +kernel,rfl,by decide +kernel,by decide +kernel⟩
theorem ok_Q0X {f:Addr}{fd:FuncData}(d:Df K mg "leaves_nought" s_Q0X ["beat","divisor"] f fd){f_Q17:Addr}{fd_sum_divided:FuncData}(d_Q17:Df K mg "sum_divided" s_Q17 ["one","other"] f_Q17 fd_sum_divided)(o_Q17:FnOk P w K mg base (CXe P w) 2 f_Q17 fd_sum_divided ["one","other"] (spD K (clsOf ad) F_Q17 2)){f_Q01:Addr}{fd_beat_sum:FuncData}(d_Q01:Df K mg "beat_sum" s_Q01 ["beat"] f_Q01 fd_beat_sum)(o_Q01:FnOk P w K mg base (CXe P w) 1 f_Q01 fd_beat_sum ["beat"] (spD K (clsOf ad) F_Q01 1)) :
  FnOk P w K mg base (CXe P w) 3 f fd ["beat","divisor"] (spD K (clsOf ad) F_Q0X 2):=by
 have nd:=sc_leaves_nought.nd
 refine Df.is cxe_ok ["beat","divisor"] 2 b_Q0X d sc_leaves_nought rfl rfl rfl fun cdv A outer s H E hr=>?_
 exact(ss_one (st_ret (se_eq (se_ix (se_fn d_Q17 o_Q17 hr (by decide) rfl (sl_cons (se_fn d_Q01 o_Q01 hr (by decide) rfl (sl_cons (se_var 0) sl_nil)) (sl_cons (se_var 1) sl_nil))) se_int) (se_lst sl_nil))))
noncomputable abbrev s_Q10:Stmt:=top 21
theorem sc_parts_had:FnScope ["length","beat","found"] ["length","beat"] (defScope s_Q10):=⟨rfl,rfl,rfl,by decide +kernel,rfl,by decide +kernel,by decide +kernel⟩
theorem ok_Q10 {f:Addr}{fd:FuncData}(d:Df K mg "parts_had" s_Q10 ["length","beat"] f fd){f_Q02:Addr}{fd_check_beat:FuncData}(d_Q02:Df K mg "check_beat" s_Q02 ["length","beat"] f_Q02 fd_check_beat)(o_Q02:FnOk P w K mg base (CXe P w) 2 f_Q02 fd_check_beat ["length","beat"] (spD K (clsOf ad) F_Q02 2)){f_Q11:Addr}{fd_parts_of_divisors:FuncData}(d_Q11:Df K mg "parts_of_divisors" s_Q11 ["number"] f_Q11 fd_parts_of_divisors)(o_Q11:FnOk P w K mg base (CXe P w) 3 f_Q11 fd_parts_of_divisors ["number"] (spD K (clsOf ad) F_Q11 1)){f_Q05:Addr}{fd_divisors:FuncData}(d_Q05:Df K mg "divisors" s_Q05 ["number"] f_Q05 fd_divisors)(o_Q05:FnOk P w K mg base (CXe P w) 1 f_Q05 fd_divisors ["number"] (spD K (clsOf ad) F_Q05 1)){f_Q0X:Addr}{fd_leaves_nought:FuncData}(d_Q0X:Df K mg "leaves_nought" s_Q0X ["beat","divisor"] f_Q0X fd_leaves_nought)(o_Q0X:FnOk P w K mg base (CXe P w) 3 f_Q0X fd_leaves_nought ["beat","divisor"] (spD K (clsOf ad) F_Q0X 2)) :
  FnOk P w K mg base (CXe P w) 4 f fd ["length","beat"] (spD K (clsOf ad) F_Q10 2):=by
 have nd:=sc_parts_had.nd
 refine Df.is cxe_ok ["length","beat","found"] 3 b_Q10 d sc_parts_had rfl rfl rfl fun cdv A outer s H E hr=>?_
 exact(ss_cons (st_expr (se_fn d_Q02 o_Q02 hr (by decide) rfl (sl_cons (se_var 0) (sl_cons (se_var 1) sl_nil)))) (ss_cons (st_setD (i:=2) (se_fn d_Q11 o_Q11 hr (by decide) rfl (sl_cons (se_var 0) sl_nil)) nd rfl (Or.inr rfl)) (ss_one (st_ret (se_comp (fs:=["beat","found"]) (is:=[1,2]) (fe:=(Dv.eVar 0)) (fc:=(Dv.eCall F_Q0X (Dv.lCons (Dv.eVar 1) (Dv.lCons (Dv.eDix (Dv.eVar 2) (Dv.eVar 0)) Dv.lNil)))) (comp_names (fsc:=defScope s_Q10) (N:=["length","beat","found"]) rfl rfl (by decide +kernel)) (si_list (se_slice (se_fn d_Q05 o_Q05 hr (by decide) rfl (sl_cons (se_var 0) sl_nil)) (so_some se_int) so_none)) (fun cl L s₀ H₀ ex=>(se_var 0)) (fun cl L s₀ H₀ ex=>(ts_one (sc_val (se_fn d_Q0X o_Q0X hr (by decide) rfl (sl_cons (se_var 1) (sl_cons (se_dix (se_var 2) (se_var 0)) sl_nil)))))))))))
noncomputable abbrev s_Q13:Stmt:=top 23
theorem sc_prime_of:FnScope ["number"] ["number"] (defScope s_Q13):=⟨rfl,rfl,rfl,by decide +kernel,rfl,by decide +kernel,by decide +kernel⟩
theorem ok_Q13 {f:Addr}{fd:FuncData}(d:Df K mg "prime_of" s_Q13 ["number"] f fd){f_Q05:Addr}{fd_divisors:FuncData}(d_Q05:Df K mg "divisors" s_Q05 ["number"] f_Q05 fd_divisors)(o_Q05:FnOk P w K mg base (CXe P w) 1 f_Q05 fd_divisors ["number"] (spD K (clsOf ad) F_Q05 1)) :
  FnOk P w K mg base (CXe P w) 2 f fd ["number"] (spD K (clsOf ad) F_Q13 1):=by
 have nd:=sc_prime_of.nd
 refine Df.is cxe_ok ["number"] 1 b_Q13 d sc_prime_of rfl rfl rfl fun cdv A outer s H E hr=>?_
 exact(ss_one (st_ret (se_ix (se_fn d_Q05 o_Q05 hr (by decide) rfl (sl_cons (se_var 0) sl_nil)) se_int)))
noncomputable abbrev s_Q07:Stmt:=top 24
theorem sc_has_one_prime:FnScope ["number","prime"] ["number"] (defScope s_Q07):=⟨rfl,rfl,rfl,by decide +kernel,rfl,by decide +kernel,by decide +kernel⟩
theorem ok_Q07 {f:Addr}{fd:FuncData}(d:Df K mg "has_one_prime" s_Q07 ["number"] f fd){f_Q13:Addr}{fd_prime_of:FuncData}(d_Q13:Df K mg "prime_of" s_Q13 ["number"] f_Q13 fd_prime_of)(o_Q13:FnOk P w K mg base (CXe P w) 2 f_Q13 fd_prime_of ["number"] (spD K (clsOf ad) F_Q13 1)){f_Q05:Addr}{fd_divisors:FuncData}(d_Q05:Df K mg "divisors" s_Q05 ["number"] f_Q05 fd_divisors)(o_Q05:FnOk P w K mg base (CXe P w) 1 f_Q05 fd_divisors ["number"] (spD K (clsOf ad) F_Q05 1))(z_all:mg "all"=none) :
  FnOk P w K mg base (CXe P w) 3 f fd ["number"] (spD K (clsOf ad) F_Q07 1):=by
 have nd:=sc_has_one_prime.nd
 refine Df.is cxe_ok ["number","prime"] 2 b_Q07 d sc_has_one_prime rfl rfl rfl fun cdv A outer s H E hr=>?_
 exact(ss_cons (st_set (i:=1) (se_fn d_Q13 o_Q13 hr (by decide) rfl (sl_cons (se_var 0) sl_nil)) nd rfl (Or.inr rfl)) (ss_one (st_ret (se_all z_all rfl (se_comp (fs:=["prime"]) (is:=[1]) (fe:=(Dv.eCm .eq (Dv.eOp .mod (Dv.eVar 0) (Dv.eVar 1)) (Dv.eInt 0))) (fc:=(Dv.eBl true)) (comp_names (fsc:=defScope s_Q07) (N:=["number","prime"]) rfl rfl (by decide +kernel)) (si_list (se_slice (se_fn d_Q05 o_Q05 hr (by decide) rfl (sl_cons (se_var 0) sl_nil)) (so_some se_int) so_none)) (fun cl L s₀ H₀ ex=>(se_eq (se_mod (se_var 0) (se_var 1)) se_int)) (fun cl L s₀ H₀ ex=>ts_nil))))))
noncomputable abbrev s_Q14:Stmt:=top 25
theorem sc_prime_powers:FnScope ["length"] ["length"] (defScope s_Q14):=⟨rfl,rfl,rfl,by decide +kernel,rfl,by decide +kernel,by decide +kernel⟩
theorem ok_Q14 {f:Addr}{fd:FuncData}(d:Df K mg "prime_powers" s_Q14 ["length"] f fd){f_Q04:Addr}{fd_check_wheel:FuncData}(d_Q04:Df K mg "check_wheel" s_Q04 ["length"] f_Q04 fd_check_wheel)(o_Q04:FnOk P w K mg base (CXe P w) 1 f_Q04 fd_check_wheel ["length"] (spD K (clsOf ad) F_Q04 1)){f_Q05:Addr}{fd_divisors:FuncData}(d_Q05:Df K mg "divisors" s_Q05 ["number"] f_Q05 fd_divisors)(o_Q05:FnOk P w K mg base (CXe P w) 1 f_Q05 fd_divisors ["number"] (spD K (clsOf ad) F_Q05 1)){f_Q07:Addr}{fd_has_one_prime:FuncData}(d_Q07:Df K mg "has_one_prime" s_Q07 ["number"] f_Q07 fd_has_one_prime)(o_Q07:FnOk P w K mg base (CXe P w) 3 f_Q07 fd_has_one_prime ["number"] (spD K (clsOf ad) F_Q07 1)) :
  FnOk P w K mg base (CXe P w) 4 f fd ["length"] (spD K (clsOf ad) F_Q14 1):=by
 have nd:=sc_prime_powers.nd
 refine Df.is cxe_ok ["length"] 3 b_Q14 d sc_prime_powers rfl rfl rfl fun cdv A outer s H E hr=>?_
 exact(ss_cons (st_expr (se_fn d_Q04 o_Q04 hr (by decide) rfl (sl_cons (se_var 0) sl_nil))) (ss_one (st_ret (se_comp (fs:=[]) (is:=[]) (fe:=(Dv.eVar 0)) (fc:=(Dv.eCall F_Q07 (Dv.lCons (Dv.eVar 0) Dv.lNil))) (comp_names (fsc:=defScope s_Q14) (N:=["length"]) rfl rfl (by decide +kernel)) (si_list (se_slice (se_fn d_Q05 o_Q05 hr (by decide) rfl (sl_cons (se_var 0) sl_nil)) (so_some se_int) so_none)) (fun cl L s₀ H₀ ex=>(se_var 0)) (fun cl L s₀ H₀ ex=>(ts_one (sc_val (se_fn d_Q07 o_Q07 hr (by decide) rfl (sl_cons (se_var 0) sl_nil)))))))))
noncomputable abbrev s_Q12:Stmt:=top 27
theorem sc_powers_had:FnScope ["length","beat","had"] ["length","beat"] (defScope s_Q12):=⟨rfl,rfl,rfl,by decide +kernel,rfl,by decide +kernel,by decide +kernel⟩
theorem ok_Q12 {f:Addr}{fd:FuncData}(d:Df K mg "powers_had" s_Q12 ["length","beat"] f fd){f_Q10:Addr}{fd_parts_had:FuncData}(d_Q10:Df K mg "parts_had" s_Q10 ["length","beat"] f_Q10 fd_parts_had)(o_Q10:FnOk P w K mg base (CXe P w) 4 f_Q10 fd_parts_had ["length","beat"] (spD K (clsOf ad) F_Q10 2)){f_Q14:Addr}{fd_prime_powers:FuncData}(d_Q14:Df K mg "prime_powers" s_Q14 ["length"] f_Q14 fd_prime_powers)(o_Q14:FnOk P w K mg base (CXe P w) 4 f_Q14 fd_prime_powers ["length"] (spD K (clsOf ad) F_Q14 1)) :
  FnOk P w K mg base (CXe P w) 5 f fd ["length","beat"] (spD K (clsOf ad) F_Q12 2):=by
 have nd:=sc_powers_had.nd
 refine Df.is cxe_ok ["length","beat","had"] 4 b_Q12 d sc_powers_had rfl rfl rfl fun cdv A outer s H E hr=>?_
 exact(ss_cons (st_set (i:=2) (se_fn d_Q10 o_Q10 hr (by decide) rfl (sl_cons (se_var 0) (sl_cons (se_var 1) sl_nil))) nd rfl (Or.inr rfl)) (ss_one (st_ret (se_comp (fs:=["had"]) (is:=[2]) (fe:=(Dv.eVar 0)) (fc:=(Dv.eCm .isin (Dv.eVar 0) (Dv.eVar 1))) (comp_names (fsc:=defScope s_Q12) (N:=["length","beat","had"]) rfl rfl (by decide +kernel)) (si_list (se_fn d_Q14 o_Q14 hr (by decide) rfl (sl_cons (se_var 0) sl_nil))) (fun cl L s₀ H₀ ex=>(se_var 0)) (fun cl L s₀ H₀ ex=>(ts_one (sc_in (se_var 0) (se_var 1))))))))
noncomputable abbrev s_Q06:Stmt:=top 28
theorem sc_first_rule:FnScope ["length","beat","product","power"] ["length","beat"] (defScope s_Q06):=⟨rfl,rfl,rfl,by decide +kernel,rfl,by decide +kernel,by decide +kernel⟩
theorem ok_Q06 {f:Addr}{fd:FuncData}(d:Df K mg "first_rule" s_Q06 ["length","beat"] f fd){f_Q12:Addr}{fd_powers_had:FuncData}(d_Q12:Df K mg "powers_had" s_Q12 ["length","beat"] f_Q12 fd_powers_had)(o_Q12:FnOk P w K mg base (CXe P w) 5 f_Q12 fd_powers_had ["length","beat"] (spD K (clsOf ad) F_Q12 2)){f_Q13:Addr}{fd_prime_of:FuncData}(d_Q13:Df K mg "prime_of" s_Q13 ["number"] f_Q13 fd_prime_of)(o_Q13:FnOk P w K mg base (CXe P w) 2 f_Q13 fd_prime_of ["number"] (spD K (clsOf ad) F_Q13 1))(z_len:mg "len"=none) :
  FnOk P w K mg base (CXe P w) 6 f fd ["length","beat"] (spD K (clsOf ad) F_Q06 2):=by
 have nd:=sc_first_rule.nd
 refine Df.is cxe_ok ["length","beat","product","power"] 5 b_Q06 d sc_first_rule rfl rfl rfl fun cdv A outer s H E hr=>?_
 exact(ss_cons (st_set (i:=2) se_int nd rfl (Or.inl rfl)) (ss_cons (st_for [0,1] (i:=3) (si_list (se_fn d_Q12 o_Q12 hr (by decide) rfl (sl_cons (se_var 0) (sl_cons (se_var 1) sl_nil)))) (ss_one (st_augMul (i:=2) (se_fn d_Q13 o_Q13 hr (by decide) rfl (sl_cons (se_var 3) sl_nil)) nd rfl (Or.inl rfl))) nd rfl (Or.inl rfl)) (ss_one (st_ret (se_eq (se_var 2) (se_len z_len rfl (se_var 1)))))))
noncomputable abbrev s_Q18:Stmt:=top 29
theorem sc_unlike_products:FnScope ["powers","products","power","prime"] ["powers"] (defScope s_Q18):=⟨rfl,rfl,rfl,by decide +kernel,rfl,by decide +kernel,by decide +kernel⟩
theorem ok_Q18 {f:Addr}{fd:FuncData}(d:Df K mg "unlike_products" s_Q18 ["powers"] f fd){f_Q13:Addr}{fd_prime_of:FuncData}(d_Q13:Df K mg "prime_of" s_Q13 ["number"] f_Q13 fd_prime_of)(o_Q13:FnOk P w K mg base (CXe P w) 2 f_Q13 fd_prime_of ["number"] (spD K (clsOf ad) F_Q13 1)) :
  FnOk P w K mg base (CXe P w) 3 f fd ["powers"] (spD K (clsOf ad) F_Q18 1):=by
 have nd:=sc_unlike_products.nd
 refine Df.is cxe_ok ["powers","products","power","prime"] 2 b_Q18 d sc_unlike_products rfl rfl rfl fun cdv A outer s H E hr=>?_
 exact(ss_cons (st_set (i:=1) (se_lst (sl_cons se_int sl_nil)) nd rfl (Or.inl rfl)) (ss_cons (st_for [0] (i:=2) (si_list (se_var 0)) (ss_cons (st_set (i:=3) (se_fn d_Q13 o_Q13 hr (by decide) rfl (sl_cons (se_var 2) sl_nil)) nd rfl (Or.inr rfl)) (ss_one (st_set (i:=1) (se_add (se_var 1) (se_comp (fs:=["power","prime"]) (is:=[2,3]) (fe:=(Dv.eOp .mul (Dv.eVar 0) (Dv.eVar 1))) (fc:=(Dv.eCm .ne (Dv.eOp .mod (Dv.eVar 0) (Dv.eVar 2)) (Dv.eInt 0))) (comp_names (fsc:=defScope s_Q18) (N:=["powers","products","power","prime"]) rfl rfl (by decide +kernel)) (si_list (se_var 1)) (fun cl L s₀ H₀ ex=>(se_mul (se_var 0) (se_var 1))) (fun cl L s₀ H₀ ex=>(ts_one (sc_ne (se_mod (se_var 0) (se_var 2)) se_int))))) nd rfl (Or.inl rfl)))) nd rfl (Or.inr rfl)) (ss_one (st_retO 1))))
noncomputable abbrev s_Q16:Stmt:=top 30
theorem sc_second_rule:FnScope ["length","beat","had"] ["length","beat"] (defScope s_Q16):=⟨rfl,rfl,rfl,by decide +kernel,rfl,by decide +kernel,by decide +kernel⟩
theorem ok_Q16 {f:Addr}{fd:FuncData}(d:Df K mg "second_rule" s_Q16 ["length","beat"] f fd){f_Q10:Addr}{fd_parts_had:FuncData}(d_Q10:Df K mg "parts_had" s_Q10 ["length","beat"] f_Q10 fd_parts_had)(o_Q10:FnOk P w K mg base (CXe P w) 4 f_Q10 fd_parts_had ["length","beat"] (spD K (clsOf ad) F_Q10 2)){f_Q18:Addr}{fd_unlike_products:FuncData}(d_Q18:Df K mg "unlike_products" s_Q18 ["powers"] f_Q18 fd_unlike_products)(o_Q18:FnOk P w K mg base (CXe P w) 3 f_Q18 fd_unlike_products ["powers"] (spD K (clsOf ad) F_Q18 1)){f_Q12:Addr}{fd_powers_had:FuncData}(d_Q12:Df K mg "powers_had" s_Q12 ["length","beat"] f_Q12 fd_powers_had)(o_Q12:FnOk P w K mg base (CXe P w) 5 f_Q12 fd_powers_had ["length","beat"] (spD K (clsOf ad) F_Q12 2))(z_all:mg "all"=none) :
  FnOk P w K mg base (CXe P w) 6 f fd ["length","beat"] (spD K (clsOf ad) F_Q16 2):=by
 have nd:=sc_second_rule.nd
 refine Df.is cxe_ok ["length","beat","had"] 5 b_Q16 d sc_second_rule rfl rfl rfl fun cdv A outer s H E hr=>?_
 exact(ss_cons (st_set (i:=2) (se_fn d_Q10 o_Q10 hr (by decide) rfl (sl_cons (se_var 0) (sl_cons (se_var 1) sl_nil))) nd rfl (Or.inr rfl)) (ss_one (st_ret (se_all z_all rfl (se_comp (fs:=["had"]) (is:=[2]) (fe:=(Dv.eCm .isin (Dv.eVar 0) (Dv.eVar 1))) (fc:=(Dv.eBl true)) (comp_names (fsc:=defScope s_Q16) (N:=["length","beat","had"]) rfl rfl (by decide +kernel)) (si_list (se_slice (se_fn d_Q18 o_Q18 hr (by decide) rfl (sl_cons (se_fn d_Q12 o_Q12 hr (by decide) rfl (sl_cons (se_var 0) (sl_cons (se_var 1) sl_nil))) sl_nil)) (so_some se_int) so_none)) (fun cl L s₀ H₀ ex=>(se_in (se_var 0) (se_var 1))) (fun cl L s₀ H₀ ex=>ts_nil))))))
noncomputable abbrev s_Q15:Stmt:=top 31
theorem sc_row_of_power:FnScope ["length","power","prime","step"] ["length","power"] (defScope s_Q15):=⟨rfl,rfl,rfl,by decide +kernel,rfl,by decide +kernel,by decide +kernel⟩
theorem ok_Q15 {f:Addr}{fd:FuncData}(d:Df K mg "row_of_power" s_Q15 ["length","power"] f fd){f_Q13:Addr}{fd_prime_of:FuncData}(d_Q13:Df K mg "prime_of" s_Q13 ["number"] f_Q13 fd_prime_of)(o_Q13:FnOk P w K mg base (CXe P w) 2 f_Q13 fd_prime_of ["number"] (spD K (clsOf ad) F_Q13 1))(z_range:mg "range"=none) :
  FnOk P w K mg base (CXe P w) 3 f fd ["length","power"] (spD K (clsOf ad) F_Q15 2):=by
 have nd:=sc_row_of_power.nd
 refine Df.is cxe_ok ["length","power","prime","step"] 2 b_Q15 d sc_row_of_power rfl rfl rfl fun cdv A outer s H E hr=>?_
 exact(ss_cons (st_set (i:=2) (se_fn d_Q13 o_Q13 hr (by decide) rfl (sl_cons (se_var 1) sl_nil)) nd rfl (Or.inr rfl)) (ss_cons (st_setG [0] (i:=3) (se_var 0) nd rfl (Or.inr rfl)) (ss_cons (st_while 100000 (sc_eq (se_mod (se_var 3) (se_var 2)) se_int) (ss_one (st_augFdiv (i:=3) (se_var 2) nd rfl (Or.inr rfl)))) (ss_one (st_ret (se_comp (fs:=["step","power","prime"]) (is:=[3,1,2]) (fe:=(Dv.eOp .mul (Dv.eOp .mul (Dv.eVar 0) (Dv.eVar 1)) (Dv.eOp .fdiv (Dv.eVar 2) (Dv.eVar 3)))) (fc:=(Dv.eBl true)) (comp_names (fsc:=defScope s_Q15) (N:=["length","power","prime","step"]) rfl rfl (by decide +kernel)) (si_range rfl z_range (se_var 2)) (fun cl L s₀ H₀ ex=>(se_mul (se_mul (se_var 0) (se_var 1)) (se_fdiv (se_var 2) (se_var 3)))) (fun cl L s₀ H₀ ex=>ts_nil)))))))
noncomputable abbrev s_Q00:Stmt:=top 32
theorem sc_all_added:FnScope ["numbers","row","added","number"] ["numbers","row"] (defScope s_Q00):=⟨rfl,rfl,rfl,by decide +kernel,rfl,by decide +kernel,by decide +kernel⟩
theorem ok_Q00 {f:Addr}{fd:FuncData}(d:Df K mg "all_added" s_Q00 ["numbers","row"] f fd) :
  FnOk P w K mg base (CXe P w) 1 f fd ["numbers","row"] (spD K (clsOf ad) F_Q00 2):=by
 have nd:=sc_all_added.nd
 refine Df.is cxe_ok ["numbers","row","added","number"] 0 b_Q00 d sc_all_added rfl rfl rfl fun cdv A outer s H E hr=>?_
 exact(ss_cons (st_set (i:=2) (se_lst sl_nil) nd rfl (Or.inl rfl)) (ss_cons (st_for [0] (i:=3) (si_list (se_var 0)) (ss_one (st_ext (i:=2) (se_comp (fs:=["number"]) (is:=[3]) (fe:=(Dv.eOp .add (Dv.eVar 1) (Dv.eVar 0))) (fc:=(Dv.eBl true)) (comp_names (fsc:=defScope s_Q00) (N:=["numbers","row","added","number"]) rfl rfl (by decide +kernel)) (si_list (se_var 1)) (fun cl L s₀ H₀ ex=>(se_add (se_var 1) (se_var 0))) (fun cl L s₀ H₀ ex=>ts_nil)))) nd rfl (Or.inr rfl)) (ss_one (st_retO 2))))
noncomputable abbrev s_Q0Z:Stmt:=top 33
theorem sc_made_partner:FnScope ["length","beat","had","starts","power"] ["length","beat"] (defScope s_Q0Z):=⟨rfl,rfl,rfl,by decide +kernel,rfl,by decide +kernel,by decide +kernel⟩
theorem ok_Q0Z {f:Addr}{fd:FuncData}(d:Df K mg "made_partner" s_Q0Z ["length","beat"] f fd){f_Q06:Addr}{fd_first_rule:FuncData}(d_Q06:Df K mg "first_rule" s_Q06 ["length","beat"] f_Q06 fd_first_rule)(o_Q06:FnOk P w K mg base (CXe P w) 6 f_Q06 fd_first_rule ["length","beat"] (spD K (clsOf ad) F_Q06 2)){f_Q16:Addr}{fd_second_rule:FuncData}(d_Q16:Df K mg "second_rule" s_Q16 ["length","beat"] f_Q16 fd_second_rule)(o_Q16:FnOk P w K mg base (CXe P w) 6 f_Q16 fd_second_rule ["length","beat"] (spD K (clsOf ad) F_Q16 2)){f_Q12:Addr}{fd_powers_had:FuncData}(d_Q12:Df K mg "powers_had" s_Q12 ["length","beat"] f_Q12 fd_powers_had)(o_Q12:FnOk P w K mg base (CXe P w) 5 f_Q12 fd_powers_had ["length","beat"] (spD K (clsOf ad) F_Q12 2)){f_Q14:Addr}{fd_prime_powers:FuncData}(d_Q14:Df K mg "prime_powers" s_Q14 ["length"] f_Q14 fd_prime_powers)(o_Q14:FnOk P w K mg base (CXe P w) 4 f_Q14 fd_prime_powers ["length"] (spD K (clsOf ad) F_Q14 1)){f_Q00:Addr}{fd_all_added:FuncData}(d_Q00:Df K mg "all_added" s_Q00 ["numbers","row"] f_Q00 fd_all_added)(o_Q00:FnOk P w K mg base (CXe P w) 1 f_Q00 fd_all_added ["numbers","row"] (spD K (clsOf ad) F_Q00 2)){f_Q15:Addr}{fd_row_of_power:FuncData}(d_Q15:Df K mg "row_of_power" s_Q15 ["length","power"] f_Q15 fd_row_of_power)(o_Q15:FnOk P w K mg base (CXe P w) 3 f_Q15 fd_row_of_power ["length","power"] (spD K (clsOf ad) F_Q15 2)){f_Q0Y:Addr}{fd_made_beat:FuncData}(d_Q0Y:Df K mg "made_beat" s_Q0Y ["length","numbers"] f_Q0Y fd_made_beat)(o_Q0Y:FnOk P w K mg base (CXe P w) 3 f_Q0Y fd_made_beat ["length","numbers"] (spD K (clsOf ad) F_Q0Y 2))(xa:XAll K mg ad){C_2:Addr}(h_2:ad "NoRule"=some C_2) :
  FnOk P w K mg base (CXe P w) 7 f fd ["length","beat"] (spD K (clsOf ad) F_Q0Z 2):=by
 have nd:=sc_made_partner.nd
 refine Df.is cxe_ok ["length","beat","had","starts","power"] 6 b_Q0Z d sc_made_partner rfl rfl rfl fun cdv A outer s H E hr=>?_
 exact(ss_cons (st_if (sc_w (sw_or (sc_not (sc_val (se_fn d_Q06 o_Q06 hr (by decide) rfl (sl_cons (se_var 0) (sl_cons (se_var 1) sl_nil))))) (sw_one _ (sc_not (sc_val (se_fn d_Q16 o_Q16 hr (by decide) rfl (sl_cons (se_var 0) (sl_cons (se_var 1) sl_nil)))))))) (ss_raise (xa.cl _ _ h_2).1 (clsOf_eq h_2) rfl) ss_nil) (ss_cons (st_set (i:=2) (se_fn d_Q12 o_Q12 hr (by decide) rfl (sl_cons (se_var 0) (sl_cons (se_var 1) sl_nil))) nd rfl (Or.inl rfl)) (ss_cons (st_set (i:=3) (se_lst (sl_cons se_int sl_nil)) nd rfl (Or.inl rfl)) (ss_cons (st_for [0] (i:=4) (si_list (se_fn d_Q14 o_Q14 hr (by decide) rfl (sl_cons (se_var 0) sl_nil))) (ss_one (st_if (sc_notin (se_var 4) (se_var 2)) (ss_one (st_set (i:=3) (se_fn d_Q00 o_Q00 hr (by decide) rfl (sl_cons (se_var 3) (sl_cons (se_fn d_Q15 o_Q15 hr (by decide) rfl (sl_cons (se_var 0) (sl_cons (se_var 4) sl_nil))) sl_nil))) nd rfl (Or.inl rfl))) ss_nil)) nd rfl (Or.inl rfl)) (ss_one (st_ret (se_fn d_Q0Y o_Q0Y hr (by decide) rfl (sl_cons (se_var 0) (sl_cons (se_var 3) sl_nil)))))))))
noncomputable abbrev s_Q0D:Stmt:=top 35
theorem sc_law_draws:FnScope ["_law_script","_law_many","_law_left","_law_found","_law_k","_law_at","_law_one","_law_other"] ["_law_script","_law_many"] (defScope s_Q0D):=⟨rfl,rfl,rfl,by decide +kernel,rfl,by decide +kernel,by decide +kernel⟩
theorem ok_Q0D {f:Addr}{fd:FuncData}(d:Df K mg "_law_draws" s_Q0D ["_law_script","_law_many"] f fd)(z_int:mg "int"=none)(z_range:mg "range"=none)(z_len:mg "len"=none) :
  FnOk P w K mg base (CXe P w) 1 f fd ["_law_script","_law_many"] (spD K (clsOf ad) F_Q0D 2):=by
 have nd:=sc_law_draws.nd
 refine Df.is cxe_ok ["_law_script","_law_many","_law_left","_law_found","_law_k","_law_at","_law_one","_law_other"] 0 b_Q0D d sc_law_draws rfl rfl rfl fun cdv A outer s H E hr=>?_
 exact(ss_cons (st_set (i:=2) (se_add (se_slice (se_var 0) so_none (so_some se_int)) (se_mul (se_lst (sl_cons se_int sl_nil)) (se_int1 z_int rfl (se_eq (se_var 0) (se_lst sl_nil))))) nd rfl (Or.inl rfl)) (ss_cons (st_set (i:=3) (se_lst sl_nil) nd rfl (Or.inl rfl)) (ss_cons (st_for [] (i:=4) (si_range rfl z_range (se_var 1)) (ss_cons (st_set (i:=5) (se_mod (se_var 4) (se_len z_len rfl (se_var 2))) nd rfl (Or.inl rfl)) (ss_one (st_if (sc_w (sw_or (sc_ge (se_ix (se_var 2) (se_var 5)) (se_pow se_int se_int)) (sw_one _ (sc_lt (se_ix (se_var 2) (se_var 5)) (se_sub se_int (se_pow se_int se_int)))))) (ss_cons (st_app (i:=3) (se_mod (se_ix (se_var 2) (se_var 5)) (se_pow se_int se_int))) (ss_one (st_put (i:=2) (se_fdiv (se_ix (se_var 2) (se_var 5)) (se_pow se_int se_int)) (se_var 5)))) (ss_cons (st_set (i:=6) (se_mod (se_add (se_add (se_add (se_mul (se_ix (se_var 2) (se_var 5)) se_int) (se_mul (se_mul (se_var 4) (se_var 4)) se_int)) (se_mul se_int (se_var 4))) se_int) se_int) nd rfl (Or.inl rfl)) (ss_cons (st_set (i:=7) (se_mod (se_add (se_mul (se_var 6) (se_var 6)) (se_mul (se_var 4) se_int)) se_int) nd rfl (Or.inl rfl)) (ss_one (st_app (i:=3) (se_add (se_mul (se_mod (se_mul (se_var 6) (se_var 7)) se_int) se_int) (se_var 7))))))))) nd rfl (Or.inl rfl)) (ss_one (st_retO 3)))))
noncomputable abbrev s_Q0B:Stmt:=top 36
theorem sc_law_cell:FnScope ["_law_draws_here","_law_k"] ["_law_draws_here","_law_k"] (defScope s_Q0B):=⟨rfl,rfl,rfl,by decide +kernel,rfl,by decide +kernel,by decide +kernel⟩
theorem ok_Q0B {f:Addr}{fd:FuncData}(d:Df K mg "_law_cell" s_Q0B ["_law_draws_here","_law_k"] f fd) :
  FnOk P w K mg base (CXe P w) 1 f fd ["_law_draws_here","_law_k"] (spD K (clsOf ad) F_Q0C 2):=by
 have nd:=sc_law_cell.nd
 refine Df.is cxe_ok ["_law_draws_here","_law_k"] 0 b_Q0C d sc_law_cell rfl rfl rfl fun cdv A outer s H E hr=>?_
 exact(ss_one (st_ret (se_ix (se_var 0) (se_var 1))))
noncomputable abbrev s_Q0W:Stmt:=top 37
theorem sc_law_whole:FnScope ["_law_found"] ["_law_found"] (defScope s_Q0W):=⟨rfl,rfl,rfl,by decide +kernel,rfl,by decide +kernel,by decide +kernel⟩
theorem ok_Q0W {f:Addr}{fd:FuncData}(d:Df K mg "_law_whole" s_Q0W ["_law_found"] f fd)(z_isinstance:mg "isinstance"=none)(z_int:mg "int"=none)(z_bool:mg "bool"=none) :
  FnOk P w K mg base (CXe P w) 1 f fd ["_law_found"] (spD K (clsOf ad) F_Q0W 1):=by
 have nd:=sc_law_whole.nd
 refine Df.is cxe_ok ["_law_found"] 0 b_Q0W d sc_law_whole rfl rfl rfl fun cdv A outer s H E hr=>?_
 exact(ss_one (st_ret (se_and (se_isInt z_isinstance z_int rfl rfl (se_var 0)) (se_one (se_not (se_isBool z_isinstance z_bool rfl rfl (se_var 0)))))))
noncomputable abbrev s_Q0A:Stmt:=top 38
theorem sc_law_beat_is:FnScope ["_law_found","_law_due","_law_one","_law_other"] ["_law_found","_law_due"] (defScope s_Q0A):=⟨rfl,rfl,rfl,by decide +kernel,rfl,by decide +kernel,by decide +kernel⟩
theorem ok_Q0A {f:Addr}{fd:FuncData}(d:Df K mg "_law_beat_is" s_Q0A ["_law_found","_law_due"] f fd){f_Q0W:Addr}{fd_law_whole:FuncData}(d_Q0W:Df K mg "_law_whole" s_Q0W ["_law_found"] f_Q0W fd_law_whole)(o_Q0W:FnOk P w K mg base (CXe P w) 1 f_Q0W fd_law_whole ["_law_found"] (spD K (clsOf ad) F_Q0W 1))(z_isinstance:mg "isinstance"=none)(z_list:mg "list"=none)(z_len:mg "len"=none)(z_zip:mg "zip"=none) :
  FnOk P w K mg base (CXe P w) 2 f fd ["_law_found","_law_due"] (spD K (clsOf ad) F_Q0A 2):=by
 have nd:=sc_law_beat_is.nd
 refine Df.is cxe_ok ["_law_found","_law_due","_law_one","_law_other"] 1 b_Q0A d sc_law_beat_is rfl rfl rfl fun cdv A outer s H E hr=>?_
 exact(ss_cons (st_if (sc_w (sw_or (sc_not (sc_val (se_isList z_isinstance z_list rfl rfl (se_var 0)))) (sw_one _ (sc_ne (se_len z_len rfl (se_var 0)) (se_len z_len rfl (se_var 1)))))) (ss_one (st_ret se_bl)) ss_nil) (ss_cons (st_forT [0,1] (si_zip rfl z_zip (se_var 0) (se_var 1)) (sg_tup (xs:=[2,3]) (gs_cons (i:=2) (gs_cons (i:=3) gs_nil nd rfl (Or.inl rfl)) nd rfl (Or.inl rfl)) rfl) (ss_one (st_if (sc_w (sw_or (sc_not (sc_val (se_fn d_Q0W o_Q0W hr (by decide) rfl (sl_cons (se_var 2) sl_nil)))) (sw_one _ (sc_ne (se_var 2) (se_var 3))))) (ss_one (st_ret se_bl)) ss_nil))) (ss_one (st_ret se_bl))))
noncomputable abbrev s_Q0V:Stmt:=top 39
theorem sc_law_turned:FnScope ["_law_length","_law_beat","_law_by"] ["_law_length","_law_beat","_law_by"] (defScope s_Q0V):=⟨rfl,rfl,rfl,by decide +kernel,rfl,by decide +kernel,by decide +kernel⟩
theorem ok_Q0V {f:Addr}{fd:FuncData}(d:Df K mg "_law_turned" s_Q0V ["_law_length","_law_beat","_law_by"] f fd)(z_sorted:mg "sorted"=none) :
  FnOk P w K mg base (CXe P w) 1 f fd ["_law_length","_law_beat","_law_by"] (spD K (clsOf ad) F_Q0V 3):=by
 have nd:=sc_law_turned.nd
 refine Df.is cxe_ok ["_law_length","_law_beat","_law_by"] 0 b_Q0V d sc_law_turned rfl rfl rfl fun cdv A outer s H E hr=>?_
 exact(ss_one (st_ret (se_sorted z_sorted rfl (se_comp (fs:=["_law_length","_law_by"]) (is:=[0,2]) (fe:=(Dv.eOp .mod (Dv.eOp .add (Dv.eVar 0) (Dv.eVar 2)) (Dv.eVar 1))) (fc:=(Dv.eBl true)) (comp_names (fsc:=defScope s_Q0V) (N:=["_law_length","_law_beat","_law_by"]) rfl rfl (by decide +kernel)) (si_list (se_var 1)) (fun cl L s₀ H₀ ex=>(se_mod (se_add (se_var 0) (se_var 2)) (se_var 1))) (fun cl L s₀ H₀ ex=>ts_nil)))))
noncomputable abbrev s_Q09:Stmt:=top 40
theorem sc_law_again:FnScope ["_law_length","_law_beat","_law_times","_law_found","_law_k"] ["_law_length","_law_beat","_law_times"] (defScope s_Q09):=⟨rfl,rfl,rfl,by decide +kernel,rfl,by decide +kernel,by decide +kernel⟩
theorem ok_Q09 {f:Addr}{fd:FuncData}(d:Df K mg "_law_again" s_Q09 ["_law_length","_law_beat","_law_times"] f fd)(z_range:mg "range"=none) :
  FnOk P w K mg base (CXe P w) 1 f fd ["_law_length","_law_beat","_law_times"] (spD K (clsOf ad) F_Q09 3):=by
 have nd:=sc_law_again.nd
 refine Df.is cxe_ok ["_law_length","_law_beat","_law_times","_law_found","_law_k"] 0 b_Q09 d sc_law_again rfl rfl rfl fun cdv A outer s H E hr=>?_
 exact(ss_cons (st_set (i:=3) (se_lst sl_nil) nd rfl (Or.inl rfl)) (ss_cons (st_for [] (i:=4) (si_range rfl z_range (se_var 2)) (ss_one (st_set (i:=3) (se_add (se_var 3) (se_comp (fs:=["_law_k","_law_length"]) (is:=[4,0]) (fe:=(Dv.eOp .add (Dv.eVar 0) (Dv.eOp .mul (Dv.eVar 1) (Dv.eVar 2)))) (fc:=(Dv.eBl true)) (comp_names (fsc:=defScope s_Q09) (N:=["_law_length","_law_beat","_law_times","_law_found","_law_k"]) rfl rfl (by decide +kernel)) (si_list (se_var 1)) (fun cl L s₀ H₀ ex=>(se_add (se_var 0) (se_mul (se_var 1) (se_var 2)))) (fun cl L s₀ H₀ ex=>ts_nil))) nd rfl (Or.inl rfl))) nd rfl (Or.inr rfl)) (ss_one (st_retO 3))))
noncomputable abbrev s_Q0P:Stmt:=top 41
theorem sc_law_pair:FnScope ["_law_script","_law_start","_law_length","_law_one","_law_other","_law_k","_law_number","_law_times","_law_kind","_law_more","_law_j"] ["_law_script","_law_start"] (defScope s_Q0P):=⟨rfl,rfl,rfl,by decide +kernel,rfl,by decide +kernel,by decide +kernel⟩
theorem ok_Q0P {f:Addr}{fd:FuncData}(d:Df K mg "_law_pair" s_Q0P ["_law_script","_law_start"] f fd){f_Q0B:Addr}{fd_law_cell:FuncData}(d_Q0B:Df K mg "_law_cell" s_Q0B ["_law_draws_here","_law_k"] f_Q0B fd_law_cell)(o_Q0B:FnOk P w K mg base (CXe P w) 1 f_Q0B fd_law_cell ["_law_draws_here","_law_k"] (spD K (clsOf ad) F_Q0C 2)){f_Q09:Addr}{fd_law_again:FuncData}(d_Q09:Df K mg "_law_again" s_Q09 ["_law_length","_law_beat","_law_times"] f_Q09 fd_law_again)(o_Q09:FnOk P w K mg base (CXe P w) 1 f_Q09 fd_law_again ["_law_length","_law_beat","_law_times"] (spD K (clsOf ad) F_Q09 3)){f_Q0V:Addr}{fd_law_turned:FuncData}(d_Q0V:Df K mg "_law_turned" s_Q0V ["_law_length","_law_beat","_law_by"] f_Q0V fd_law_turned)(o_Q0V:FnOk P w K mg base (CXe P w) 1 f_Q0V fd_law_turned ["_law_length","_law_beat","_law_by"] (spD K (clsOf ad) F_Q0V 3))(z_range:mg "range"=none)(z_sorted:mg "sorted"=none) :
  FnOk P w K mg base (CXe P w) 2 f fd ["_law_script","_law_start"] (spD K (clsOf ad) F_Q0Q 2):=by
 have nd:=sc_law_pair.nd
 refine Df.is cxe_ok ["_law_script","_law_start","_law_length","_law_one","_law_other","_law_k","_law_number","_law_times","_law_kind","_law_more","_law_j"] 1 b_Q0Q d sc_law_pair rfl rfl rfl fun cdv A outer s H E hr=>?_
 exact(ss_cons (st_set (i:=2) se_int nd rfl (Or.inl rfl)) (ss_cons (st_set (i:=3) (se_lst (sl_cons se_int sl_nil)) nd rfl (Or.inl rfl)) (ss_cons (st_set (i:=4) (se_lst (sl_cons se_int sl_nil)) nd rfl (Or.inl rfl)) (ss_cons (st_for [] (i:=5) (si_range rfl z_range se_int) (ss_cons (st_set (i:=6) (se_mod (se_mul (se_fn d_Q0B o_Q0B hr (by decide) rfl (sl_cons (se_var 0) (sl_cons (se_add (se_var 1) (se_var 5)) sl_nil))) se_int) se_int) nd rfl (Or.inl rfl)) (ss_cons (st_set (i:=7) (se_ix (se_lst (sl_cons se_int (sl_cons se_int (sl_cons se_int (sl_cons se_int (sl_cons se_int (sl_cons se_int (sl_cons se_int sl_nil)))))))) (se_mod (se_var 6) se_int)) nd rfl (Or.inr rfl)) (ss_cons (st_set (i:=8) (se_mod (se_fdiv (se_var 6) se_int) se_int) nd rfl (Or.inl rfl)) (ss_cons (st_if (sc_le (se_mul (se_var 2) (se_var 7)) se_int) (ss_cons (st_if (sc_lt (se_var 8) se_int) (ss_one (st_set (i:=3) (se_fn d_Q09 o_Q09 hr (by decide) rfl (sl_cons (se_var 2) (sl_cons (se_var 3) (sl_cons (se_var 7) sl_nil)))) nd rfl (Or.inl rfl))) (ss_cons (st_set (i:=9) (se_lst sl_nil) nd rfl (Or.inl rfl)) (ss_cons (st_for [] (i:=10) (si_range rfl z_range (se_var 7)) (ss_one (st_set (i:=9) (se_add (se_var 9) (se_comp (fs:=["_law_j","_law_times"]) (is:=[10,7]) (fe:=(Dv.eOp .add (Dv.eOp .mul (Dv.eVar 0) (Dv.eVar 2)) (Dv.eVar 1))) (fc:=(Dv.eBl true)) (comp_names (fsc:=defScope s_Q0P) (N:=["_law_script","_law_start","_law_length","_law_one","_law_other","_law_k","_law_number","_law_times","_law_kind","_law_more","_law_j"]) rfl rfl (by decide +kernel)) (si_list (se_var 3)) (fun cl L s₀ H₀ ex=>(se_add (se_mul (se_var 0) (se_var 2)) (se_var 1))) (fun cl L s₀ H₀ ex=>ts_nil))) nd rfl (Or.inl rfl))) nd rfl (Or.inr rfl)) (ss_cons (st_set (i:=3) (se_sorted z_sorted rfl (se_var 9)) nd rfl (Or.inl rfl)) (ss_one (st_setComp (i:=4) (fs:=["_law_times"]) (is:=[7]) (fe:=(Dv.eOp .mul (Dv.eVar 0) (Dv.eVar 1))) (fc:=(Dv.eBl true)) (comp_names (fsc:=defScope s_Q0P) (N:=["_law_script","_law_start","_law_length","_law_one","_law_other","_law_k","_law_number","_law_times","_law_kind","_law_more","_law_j"]) rfl rfl (by decide +kernel)) (si_list (se_var 4)) (fun cl L s₀ H₀ ex=>(se_mul (se_var 0) (se_var 1))) (fun cl L s₀ H₀ ex=>ts_nil) nd rfl rfl)))))) (ss_one (st_set (i:=2) (se_mul (se_var 2) (se_var 7)) nd rfl (Or.inl rfl)))) ss_nil) (ss_one (st_if (sc_eq (se_mod (se_fdiv (se_var 6) se_int) se_int) se_int) (ss_one (st_par [3,4] (i:=3) (j:=4) (se_var 4) (se_var 3) nd rfl rfl (by decide) rfl rfl)) ss_nil)))))) nd rfl (Or.inl rfl)) (ss_cons (st_set (i:=3) (se_fn d_Q0V o_Q0V hr (by decide) rfl (sl_cons (se_var 2) (sl_cons (se_var 3) (sl_cons (se_mod (se_fn d_Q0B o_Q0B hr (by decide) rfl (sl_cons (se_var 0) (sl_cons (se_add (se_var 1) se_int) sl_nil))) (se_var 2)) sl_nil)))) nd rfl (Or.inl rfl)) (ss_one (st_ret (se_tup (sl_cons (se_var 2) (sl_cons (se_var 3) (sl_cons (se_fn d_Q0V o_Q0V hr (by decide) rfl (sl_cons (se_var 2) (sl_cons (se_var 4) (sl_cons (se_mod (se_fn d_Q0B o_Q0B hr (by decide) rfl (sl_cons (se_var 0) (sl_cons (se_add (se_var 1) se_int) sl_nil))) (se_var 2)) sl_nil)))) sl_nil)))))))))))
noncomputable abbrev s_Q0T:Stmt:=top 42
theorem sc_law_primes:FnScope ["_law_number","_law_found","_law_prime"] ["_law_number"] (defScope s_Q0T):=⟨rfl,rfl,rfl,by decide +kernel,rfl,by decide +kernel,by decide +kernel⟩
theorem ok_Q0T {f:Addr}{fd:FuncData}(d:Df K mg "_law_primes" s_Q0T ["_law_number"] f fd)(z_range:mg "range"=none) :
  FnOk P w K mg base (CXe P w) 1 f fd ["_law_number"] (spD K (clsOf ad) F_Q0T 1):=by
 have nd:=sc_law_primes.nd
 refine Df.is cxe_ok ["_law_number","_law_found","_law_prime"] 0 b_Q0T d sc_law_primes rfl rfl rfl fun cdv A outer s H E hr=>?_
 exact(ss_cons (st_set (i:=1) (se_lst sl_nil) nd rfl (Or.inl rfl)) (ss_cons (st_for [] (i:=2) (si_range2 rfl z_range se_int (se_add (se_var 0) se_int)) (ss_one (st_if (sc_w (sw_and (sc_eq (se_mod (se_var 0) (se_var 2)) se_int) (sw_one _ (sc_eq (se_comp (fs:=["_law_prime"]) (is:=[2]) (fe:=(Dv.eVar 0)) (fc:=(Dv.eCm .eq (Dv.eOp .mod (Dv.eVar 1) (Dv.eVar 0)) (Dv.eInt 0))) (comp_names (fsc:=defScope s_Q0T) (N:=["_law_number","_law_found","_law_prime"]) rfl rfl (by decide +kernel)) (si_list (se_var 1)) (fun cl L s₀ H₀ ex=>(se_var 0)) (fun cl L s₀ H₀ ex=>(ts_one (sc_eq (se_mod (se_var 1) (se_var 0)) se_int)))) (se_lst sl_nil))))) (ss_one (st_app (i:=1) (se_var 2))) ss_nil)) nd rfl (Or.inr rfl)) (ss_one (st_retO 1))))
noncomputable abbrev s_Q0J:Stmt:=top 43
theorem sc_law_has:FnScope ["_law_beat","_law_number","_law_counts","_law_place","_law_prime","_law_off"] ["_law_beat","_law_number"] (defScope s_Q0J):=⟨rfl,rfl,rfl,by decide +kernel,rfl,by decide +kernel,by decide +kernel⟩
theorem ok_Q0J {f:Addr}{fd:FuncData}(d:Df K mg "_law_has" s_Q0J ["_law_beat","_law_number"] f fd){f_Q0T:Addr}{fd_law_primes:FuncData}(d_Q0T:Df K mg "_law_primes" s_Q0T ["_law_number"] f_Q0T fd_law_primes)(o_Q0T:FnOk P w K mg base (CXe P w) 1 f_Q0T fd_law_primes ["_law_number"] (spD K (clsOf ad) F_Q0T 1))(z_range:mg "range"=none) :
  FnOk P w K mg base (CXe P w) 2 f fd ["_law_beat","_law_number"] (spD K (clsOf ad) F_Q0K 2):=by
 have nd:=sc_law_has.nd
 refine Df.is cxe_ok ["_law_beat","_law_number","_law_counts","_law_place","_law_prime","_law_off"] 1 b_Q0K d sc_law_has rfl rfl rfl fun cdv A outer s H E hr=>?_
 exact(ss_cons (st_set (i:=2) (se_mul (se_lst (sl_cons se_int sl_nil)) (se_var 1)) nd rfl (Or.inr rfl)) (ss_cons (st_for [0] (i:=3) (si_list (se_var 0)) (ss_one (st_put (i:=2) (se_add (se_ix (se_var 2) (se_mod (se_var 3) (se_var 1))) se_int) (se_mod (se_var 3) (se_var 1)))) nd rfl (Or.inl rfl)) (ss_cons (st_for [1] (i:=4) (si_list (se_fn d_Q0T o_Q0T hr (by decide) rfl (sl_cons (se_var 1) sl_nil))) (ss_cons (st_set (i:=5) (se_fdiv (se_var 1) (se_var 4)) nd rfl (Or.inr rfl)) (ss_one (st_set (i:=2) (se_comp (fs:=["_law_counts","_law_number","_law_off"]) (is:=[2,1,5]) (fe:=(Dv.eOp .sub (Dv.eIx (Dv.eVar 1) (Dv.eVar 0)) (Dv.eIx (Dv.eVar 1) (Dv.eOp .mod (Dv.eOp .add (Dv.eVar 0) (Dv.eVar 3)) (Dv.eVar 2))))) (fc:=(Dv.eBl true)) (comp_names (fsc:=defScope s_Q0J) (N:=["_law_beat","_law_number","_law_counts","_law_place","_law_prime","_law_off"]) rfl rfl (by decide +kernel)) (si_range rfl z_range (se_var 1)) (fun cl L s₀ H₀ ex=>(se_sub (se_ix (se_var 1) (se_var 0)) (se_ix (se_var 1) (se_mod (se_add (se_var 0) (se_var 3)) (se_var 2))))) (fun cl L s₀ H₀ ex=>ts_nil)) nd rfl (Or.inr rfl)))) nd rfl (Or.inl rfl)) (ss_one (st_ret (se_eq (se_var 2) (se_mul (se_lst (sl_cons se_int sl_nil)) (se_var 1))))))))
noncomputable abbrev s_Q0R:Stmt:=top 44
theorem sc_law_powers:FnScope ["_law_length"] ["_law_length"] (defScope s_Q0R):=⟨rfl,rfl,rfl,by decide +kernel,rfl,by decide +kernel,by decide +kernel⟩
theorem ok_Q0R {f:Addr}{fd:FuncData}(d:Df K mg "_law_powers" s_Q0R ["_law_length"] f fd){f_Q0T:Addr}{fd_law_primes:FuncData}(d_Q0T:Df K mg "_law_primes" s_Q0T ["_law_number"] f_Q0T fd_law_primes)(o_Q0T:FnOk P w K mg base (CXe P w) 1 f_Q0T fd_law_primes ["_law_number"] (spD K (clsOf ad) F_Q0T 1))(z_range:mg "range"=none)(z_len:mg "len"=none) :
  FnOk P w K mg base (CXe P w) 2 f fd ["_law_length"] (spD K (clsOf ad) F_Q0S 1):=by
 have nd:=sc_law_powers.nd
 refine Df.is cxe_ok ["_law_length"] 1 b_Q0S d sc_law_powers rfl rfl rfl fun cdv A outer s H E hr=>?_
 exact(ss_one (st_ret (se_comp (fs:=["_law_length"]) (is:=[0]) (fe:=(Dv.eVar 0)) (fc:=(Dv.eAnd (Dv.eCm .eq (Dv.eOp .mod (Dv.eVar 1) (Dv.eVar 0)) (Dv.eInt 0)) (Dv.eCm .eq (Dv.eB1 Dv.lenD (Dv.eCall F_Q0T (Dv.lCons (Dv.eVar 0) Dv.lNil))) (Dv.eInt 1)))) (comp_names (fsc:=defScope s_Q0R) (N:=["_law_length"]) rfl rfl (by decide +kernel)) (si_range2 rfl z_range se_int (se_add (se_var 0) se_int)) (fun cl L s₀ H₀ ex=>(se_var 0)) (fun cl L s₀ H₀ ex=>(ts_one (sc_w (sw_and (sc_eq (se_mod (se_var 1) (se_var 0)) se_int) (sw_one _ (sc_eq (se_len z_len rfl (se_fn d_Q0T o_Q0T hr (by decide) rfl (sl_cons (se_var 0) sl_nil))) se_int)))))))))
noncomputable abbrev s_Q0I:Stmt:=top 45
theorem sc_law_first:FnScope ["_law_length","_law_beat","_law_together","_law_power"] ["_law_length","_law_beat"] (defScope s_Q0I):=⟨rfl,rfl,rfl,by decide +kernel,rfl,by decide +kernel,by decide +kernel⟩
theorem ok_Q0I {f:Addr}{fd:FuncData}(d:Df K mg "_law_first" s_Q0I ["_law_length","_law_beat"] f fd){f_Q0R:Addr}{fd_law_powers:FuncData}(d_Q0R:Df K mg "_law_powers" s_Q0R ["_law_length"] f_Q0R fd_law_powers)(o_Q0R:FnOk P w K mg base (CXe P w) 2 f_Q0R fd_law_powers ["_law_length"] (spD K (clsOf ad) F_Q0S 1)){f_Q0J:Addr}{fd_law_has:FuncData}(d_Q0J:Df K mg "_law_has" s_Q0J ["_law_beat","_law_number"] f_Q0J fd_law_has)(o_Q0J:FnOk P w K mg base (CXe P w) 2 f_Q0J fd_law_has ["_law_beat","_law_number"] (spD K (clsOf ad) F_Q0K 2)){f_Q0T:Addr}{fd_law_primes:FuncData}(d_Q0T:Df K mg "_law_primes" s_Q0T ["_law_number"] f_Q0T fd_law_primes)(o_Q0T:FnOk P w K mg base (CXe P w) 1 f_Q0T fd_law_primes ["_law_number"] (spD K (clsOf ad) F_Q0T 1))(z_len:mg "len"=none) :
  FnOk P w K mg base (CXe P w) 3 f fd ["_law_length","_law_beat"] (spD K (clsOf ad) F_Q0I 2):=by
 have nd:=sc_law_first.nd
 refine Df.is cxe_ok ["_law_length","_law_beat","_law_together","_law_power"] 2 b_Q0I d sc_law_first rfl rfl rfl fun cdv A outer s H E hr=>?_
 exact(ss_cons (st_set (i:=2) se_int nd rfl (Or.inl rfl)) (ss_cons (st_for [0] (i:=3) (si_list (se_fn d_Q0R o_Q0R hr (by decide) rfl (sl_cons (se_var 0) sl_nil))) (ss_one (st_if (sc_val (se_fn d_Q0J o_Q0J hr (by decide) rfl (sl_cons (se_var 1) (sl_cons (se_var 3) sl_nil)))) (ss_one (st_set (i:=2) (se_mul (se_var 2) (se_ix (se_fn d_Q0T o_Q0T hr (by decide) rfl (sl_cons (se_var 3) sl_nil)) se_int)) nd rfl (Or.inl rfl))) ss_nil)) nd rfl (Or.inl rfl)) (ss_one (st_ret (se_eq (se_var 2) (se_len z_len rfl (se_var 1)))))))
noncomputable abbrev s_Q0U:Stmt:=top 46
theorem sc_law_second:FnScope ["_law_length","_law_beat","_law_had","_law_d","_law_parts","_law_prime","_law_power"] ["_law_length","_law_beat"] (defScope s_Q0U):=⟨rfl,rfl,rfl,by decide +kernel,rfl,by decide +kernel,by decide +kernel⟩
theorem ok_Q0U {f:Addr}{fd:FuncData}(d:Df K mg "_law_second" s_Q0U ["_law_length","_law_beat"] f fd){f_Q0R:Addr}{fd_law_powers:FuncData}(d_Q0R:Df K mg "_law_powers" s_Q0R ["_law_length"] f_Q0R fd_law_powers)(o_Q0R:FnOk P w K mg base (CXe P w) 2 f_Q0R fd_law_powers ["_law_length"] (spD K (clsOf ad) F_Q0S 1)){f_Q0J:Addr}{fd_law_has:FuncData}(d_Q0J:Df K mg "_law_has" s_Q0J ["_law_beat","_law_number"] f_Q0J fd_law_has)(o_Q0J:FnOk P w K mg base (CXe P w) 2 f_Q0J fd_law_has ["_law_beat","_law_number"] (spD K (clsOf ad) F_Q0K 2)){f_Q0T:Addr}{fd_law_primes:FuncData}(d_Q0T:Df K mg "_law_primes" s_Q0T ["_law_number"] f_Q0T fd_law_primes)(o_Q0T:FnOk P w K mg base (CXe P w) 1 f_Q0T fd_law_primes ["_law_number"] (spD K (clsOf ad) F_Q0T 1))(z_range:mg "range"=none)(z_len:mg "len"=none) :
  FnOk P w K mg base (CXe P w) 3 f fd ["_law_length","_law_beat"] (spD K (clsOf ad) F_Q0U 2):=by
 have nd:=sc_law_second.nd
 refine Df.is cxe_ok ["_law_length","_law_beat","_law_had","_law_d","_law_parts","_law_prime","_law_power"] 2 b_Q0U d sc_law_second rfl rfl rfl fun cdv A outer s H E hr=>?_
 exact(ss_cons (st_set (i:=2) (se_comp (fs:=["_law_beat"]) (is:=[1]) (fe:=(Dv.eVar 0)) (fc:=(Dv.eCall F_Q0K (Dv.lCons (Dv.eVar 1) (Dv.lCons (Dv.eVar 0) Dv.lNil)))) (comp_names (fsc:=defScope s_Q0U) (N:=["_law_length","_law_beat","_law_had","_law_d","_law_parts","_law_prime","_law_power"]) rfl rfl (by decide +kernel)) (si_list (se_fn d_Q0R o_Q0R hr (by decide) rfl (sl_cons (se_var 0) sl_nil))) (fun cl L s₀ H₀ ex=>(se_var 0)) (fun cl L s₀ H₀ ex=>(ts_one (sc_val (se_fn d_Q0J o_Q0J hr (by decide) rfl (sl_cons (se_var 1) (sl_cons (se_var 0) sl_nil))))))) nd rfl (Or.inr rfl)) (ss_cons (st_for [] (i:=3) (si_range2 rfl z_range se_int (se_add (se_var 0) se_int)) (ss_cons (st_set (i:=4) (se_lst sl_nil) nd rfl (Or.inl rfl)) (ss_cons (st_for [3] (i:=5) (si_list (se_fn d_Q0T o_Q0T hr (by decide) rfl (sl_cons (se_var 3) sl_nil))) (ss_cons (st_setG [5] (i:=6) (se_var 5) nd rfl (Or.inl rfl)) (ss_cons (st_while 100000 (sc_eq (se_mod (se_var 3) (se_mul (se_var 6) (se_var 5))) se_int) (ss_one (st_set (i:=6) (se_mul (se_var 6) (se_var 5)) nd rfl (Or.inl rfl)))) (ss_one (st_app (i:=4) (se_var 6))))) nd rfl (Or.inl rfl)) (ss_one (st_if (sc_w (sw_and (sc_eq (se_mod (se_var 0) (se_var 3)) se_int) (sw_and (sc_gt (se_len z_len rfl (se_var 4)) se_int) (sw_one _ (sc_eq (se_comp (fs:=["_law_had"]) (is:=[2]) (fe:=(Dv.eVar 0)) (fc:=(Dv.eCm .notin (Dv.eVar 0) (Dv.eVar 1))) (comp_names (fsc:=defScope s_Q0U) (N:=["_law_length","_law_beat","_law_had","_law_d","_law_parts","_law_prime","_law_power"]) rfl rfl (by decide +kernel)) (si_list (se_var 4)) (fun cl L s₀ H₀ ex=>(se_var 0)) (fun cl L s₀ H₀ ex=>(ts_one (sc_notin (se_var 0) (se_var 1))))) (se_lst sl_nil)))))) (ss_one (st_if (sc_not (sc_val (se_fn d_Q0J o_Q0J hr (by decide) rfl (sl_cons (se_var 1) (sl_cons (se_var 3) sl_nil))))) (ss_one (st_ret se_bl)) ss_nil)) ss_nil)))) nd rfl (Or.inl rfl)) (ss_one (st_ret se_bl))))
noncomputable abbrev s_Q0E:Stmt:=top 47
theorem sc_law_evened:FnScope ["_law_script","_law_start","_law_most","_law_first_here","_law_second_here","_law_lifts","_law_counts","_law_k","_law_number","_law_one","_law_other","_law_here","_law_there","_law_low"] ["_law_script","_law_start","_law_most"] (defScope s_Q0E):=⟨rfl,rfl,rfl,by decide +kernel,rfl,by decide +kernel,by decide +kernel⟩
theorem ok_Q0E {f:Addr}{fd:FuncData}(d:Df K mg "_law_evened" s_Q0E ["_law_script","_law_start","_law_most"] f fd){f_Q0B:Addr}{fd_law_cell:FuncData}(d_Q0B:Df K mg "_law_cell" s_Q0B ["_law_draws_here","_law_k"] f_Q0B fd_law_cell)(o_Q0B:FnOk P w K mg base (CXe P w) 1 f_Q0B fd_law_cell ["_law_draws_here","_law_k"] (spD K (clsOf ad) F_Q0C 2))(z_max:mg "max"=none)(z_range:mg "range"=none)(z_min:mg "min"=none) :
  FnOk P w K mg base (CXe P w) 2 f fd ["_law_script","_law_start","_law_most"] (spD K (clsOf ad) F_Q0F 3):=by
 have nd:=sc_law_evened.nd
 refine Df.is cxe_ok ["_law_script","_law_start","_law_most","_law_first_here","_law_second_here","_law_lifts","_law_counts","_law_k","_law_number","_law_one","_law_other","_law_here","_law_there","_law_low"] 1 b_Q0F d sc_law_evened rfl rfl rfl fun cdv A outer s H E hr=>?_
 exact(ss_cons (st_unpack [0,1] (xs:=[3,4]) (se_ix (se_lst (sl_cons (se_tup (sl_cons se_int (sl_cons se_int sl_nil))) (sl_cons (se_tup (sl_cons se_int (sl_cons se_int sl_nil))) (sl_cons (se_tup (sl_cons se_int (sl_cons se_int sl_nil))) (sl_cons (se_tup (sl_cons se_int (sl_cons se_int sl_nil))) (sl_cons (se_tup (sl_cons se_int (sl_cons se_int sl_nil))) sl_nil)))))) (se_mod (se_fn d_Q0B o_Q0B hr (by decide) rfl (sl_cons (se_var 0) (sl_cons (se_var 1) sl_nil))) se_int)) (gs_cons (i:=3) (gs_cons (i:=4) gs_nil nd rfl (Or.inr rfl)) nd rfl (Or.inl rfl)) rfl) (ss_cons (st_set (i:=5) (se_add se_int (se_mod (se_fdiv (se_fn d_Q0B o_Q0B hr (by decide) rfl (sl_cons (se_var 0) (sl_cons (se_var 1) sl_nil))) se_int) (se_max2 z_max rfl se_int (se_fdiv (se_var 2) (se_mul (se_mul (se_var 3) (se_var 4)) se_int))))) nd rfl (Or.inl rfl)) (ss_cons (st_set (i:=5) (se_mul (se_var 5) se_int) nd rfl (Or.inl rfl)) (ss_cons (st_setCompTb (i:=6) (fs:=["_law_second_here"]) (is:=[4]) (fe:=(Dv.eOp .mul (Dv.eLst (Dv.lCons (Dv.eInt 1) Dv.lNil)) (Dv.eVar 1))) (fc:=(Dv.eBl true)) (comp_names (fsc:=defScope s_Q0E) (N:=["_law_script","_law_start","_law_most","_law_first_here","_law_second_here","_law_lifts","_law_counts","_law_k","_law_number","_law_one","_law_other","_law_here","_law_there","_law_low"]) rfl rfl (by decide +kernel)) (si_range rfl z_range (se_var 3)) (fun cl L s₀ H₀ ex=>(se_mul (se_lst (sl_cons se_int sl_nil)) (se_var 1))) (fun cl L s₀ H₀ ex=>ts_nil) nd rfl rfl) (ss_cons (st_for [] (i:=7) (si_range rfl z_range se_int) (ss_cons (st_set (i:=8) (se_mod (se_mul (se_fn d_Q0B o_Q0B hr (by decide) rfl (sl_cons (se_var 0) (sl_cons (se_add (se_add (se_var 1) se_int) (se_var 7)) sl_nil))) se_int) se_int) nd rfl (Or.inl rfl)) (ss_cons (st_set (i:=9) (se_mod (se_var 8) (se_var 3)) nd rfl (Or.inl rfl)) (ss_cons (st_set (i:=10) (se_mod (se_add (se_add (se_var 9) se_int) (se_mod (se_fdiv (se_var 8) se_int) (se_sub (se_var 3) se_int))) (se_var 3)) nd rfl (Or.inl rfl)) (ss_cons (st_set (i:=11) (se_mod (se_fdiv (se_var 8) se_int) (se_var 4)) nd rfl (Or.inl rfl)) (ss_cons (st_set (i:=12) (se_mod (se_add (se_add (se_var 11) se_int) (se_mod (se_fdiv (se_var 8) se_int) (se_sub (se_var 4) se_int))) (se_var 4)) nd rfl (Or.inl rfl)) (ss_cons (st_set (i:=13) (se_min2 z_min rfl (se_ix (se_ixT (se_var 6) (se_var 9)) (se_var 12)) (se_ix (se_ixT (se_var 6) (se_var 10)) (se_var 11))) nd rfl (Or.inl rfl)) (ss_one (st_if (sc_w (sw_and (sc_gt (se_var 13) se_int) (sw_one _ (sc_lt (se_max2 z_max rfl (se_ix (se_ixT (se_var 6) (se_var 9)) (se_var 11)) (se_ix (se_ixT (se_var 6) (se_var 10)) (se_var 12))) (se_var 5))))) (ss_cons (st_putT (i:=6) (se_add (se_ix (se_ixT (se_var 6) (se_var 9)) (se_var 11)) se_int) (se_var 9) (se_var 11)) (ss_cons (st_putT (i:=6) (se_add (se_ix (se_ixT (se_var 6) (se_var 10)) (se_var 12)) se_int) (se_var 10) (se_var 12)) (ss_cons (st_putT (i:=6) (se_sub (se_ix (se_ixT (se_var 6) (se_var 9)) (se_var 12)) se_int) (se_var 9) (se_var 12)) (ss_one (st_putT (i:=6) (se_sub (se_ix (se_ixT (se_var 6) (se_var 10)) (se_var 11)) se_int) (se_var 10) (se_var 11)))))) ss_nil)))))))) nd rfl (Or.inl rfl)) (ss_one (st_retTb (i:=6) (se_mul (se_mul (se_var 3) (se_var 4)) (se_var 5)) (se_var 3) (se_var 4))))))))
noncomputable abbrev s_Q0N:Stmt:=top 48
theorem sc_law_lifted:FnScope ["_law_script","_law_start","_law_most","_law_length","_law_first_here","_law_second_here","_law_counts","_law_found","_law_place","_law_at","_law_row"] ["_law_script","_law_start","_law_most"] (defScope s_Q0N):=⟨rfl,rfl,rfl,by decide +kernel,rfl,by decide +kernel,by decide +kernel⟩
theorem ok_Q0N {f:Addr}{fd:FuncData}(d:Df K mg "_law_lifted" s_Q0N ["_law_script","_law_start","_law_most"] f fd){f_Q0E:Addr}{fd_law_evened:FuncData}(d_Q0E:Df K mg "_law_evened" s_Q0E ["_law_script","_law_start","_law_most"] f_Q0E fd_law_evened)(o_Q0E:FnOk P w K mg base (CXe P w) 2 f_Q0E fd_law_evened ["_law_script","_law_start","_law_most"] (spD K (clsOf ad) F_Q0F 3)){f_Q0B:Addr}{fd_law_cell:FuncData}(d_Q0B:Df K mg "_law_cell" s_Q0B ["_law_draws_here","_law_k"] f_Q0B fd_law_cell)(o_Q0B:FnOk P w K mg base (CXe P w) 1 f_Q0B fd_law_cell ["_law_draws_here","_law_k"] (spD K (clsOf ad) F_Q0C 2))(z_range:mg "range"=none)(z_sorted:mg "sorted"=none) :
  FnOk P w K mg base (CXe P w) 3 f fd ["_law_script","_law_start","_law_most"] (spD K (clsOf ad) F_Q0O 3):=by
 have nd:=sc_law_lifted.nd
 refine Df.is cxe_ok ["_law_script","_law_start","_law_most","_law_length","_law_first_here","_law_second_here","_law_counts","_law_found","_law_place","_law_at","_law_row"] 2 b_Q0O d sc_law_lifted rfl rfl rfl fun cdv A outer s H E hr=>?_
 exact(ss_cons (st_unpackTb (i1:=3) (i2:=4) (i3:=5) (i4:=6) (se_fn d_Q0E o_Q0E hr (by decide) rfl (sl_cons (se_var 0) (sl_cons (se_var 1) (sl_cons (se_var 2) sl_nil)))) (gs_cons (i:=3) (gs_cons (i:=4) (gs_cons (i:=5) (gs_cons (i:=6) gs_nil nd rfl (Or.inl rfl)) nd rfl (Or.inl rfl)) nd rfl (Or.inl rfl)) nd rfl (Or.inl rfl)) rfl) (ss_cons (st_set (i:=7) (se_lst sl_nil) nd rfl (Or.inl rfl)) (ss_cons (st_for [] (i:=8) (si_range rfl z_range (se_var 3)) (ss_cons (st_set (i:=9) (se_mod (se_add (se_mul (se_var 8) se_int) (se_mod (se_fn d_Q0B o_Q0B hr (by decide) rfl (sl_cons (se_var 0) (sl_cons (se_add (se_var 1) se_int) sl_nil))) se_int)) (se_var 3)) nd rfl (Or.inl rfl)) (ss_rowDec (i:=6) (r:=10) (y:=7) (se_mod (se_var 9) (se_var 4)) (se_mod (se_var 9) (se_var 5)) (se_mod (se_var 9) (se_var 5)) (se_mod (se_var 9) (se_var 5)) (se_var 9) ss_nil nd rfl rfl rfl (Or.inl rfl))) nd rfl (Or.inl rfl)) (ss_one (st_ret (se_lst (sl_cons (se_var 3) (sl_cons (se_sorted z_sorted rfl (se_var 7)) sl_nil))))))))
noncomputable abbrev s_Q0M:Stmt:=top 49
theorem sc_law_laid_out:FnScope ["_law_length","_law_beat","_law_starts","_law_power","_law_prime","_law_rest","_law_more","_law_k"] ["_law_length","_law_beat"] (defScope s_Q0M):=⟨rfl,rfl,rfl,by decide +kernel,rfl,by decide +kernel,by decide +kernel⟩
theorem ok_Q0M {f:Addr}{fd:FuncData}(d:Df K mg "_law_laid_out" s_Q0M ["_law_length","_law_beat"] f fd){f_Q0R:Addr}{fd_law_powers:FuncData}(d_Q0R:Df K mg "_law_powers" s_Q0R ["_law_length"] f_Q0R fd_law_powers)(o_Q0R:FnOk P w K mg base (CXe P w) 2 f_Q0R fd_law_powers ["_law_length"] (spD K (clsOf ad) F_Q0S 1)){f_Q0J:Addr}{fd_law_has:FuncData}(d_Q0J:Df K mg "_law_has" s_Q0J ["_law_beat","_law_number"] f_Q0J fd_law_has)(o_Q0J:FnOk P w K mg base (CXe P w) 2 f_Q0J fd_law_has ["_law_beat","_law_number"] (spD K (clsOf ad) F_Q0K 2)){f_Q0T:Addr}{fd_law_primes:FuncData}(d_Q0T:Df K mg "_law_primes" s_Q0T ["_law_number"] f_Q0T fd_law_primes)(o_Q0T:FnOk P w K mg base (CXe P w) 1 f_Q0T fd_law_primes ["_law_number"] (spD K (clsOf ad) F_Q0T 1))(z_range:mg "range"=none)(z_sorted:mg "sorted"=none) :
  FnOk P w K mg base (CXe P w) 3 f fd ["_law_length","_law_beat"] (spD K (clsOf ad) F_Q0M 2):=by
 have nd:=sc_law_laid_out.nd
 refine Df.is cxe_ok ["_law_length","_law_beat","_law_starts","_law_power","_law_prime","_law_rest","_law_more","_law_k"] 2 b_Q0M d sc_law_laid_out rfl rfl rfl fun cdv A outer s H E hr=>?_
 exact(ss_cons (st_set (i:=2) (se_lst (sl_cons se_int sl_nil)) nd rfl (Or.inl rfl)) (ss_cons (st_for [0] (i:=3) (si_list (se_fn d_Q0R o_Q0R hr (by decide) rfl (sl_cons (se_var 0) sl_nil))) (ss_one (st_if (sc_not (sc_val (se_fn d_Q0J o_Q0J hr (by decide) rfl (sl_cons (se_var 1) (sl_cons (se_var 3) sl_nil))))) (ss_cons (st_set (i:=4) (se_ix (se_fn d_Q0T o_Q0T hr (by decide) rfl (sl_cons (se_var 3) sl_nil)) se_int) nd rfl (Or.inr rfl)) (ss_cons (st_setG [0] (i:=5) (se_var 0) nd rfl (Or.inr rfl)) (ss_cons (st_while 100000 (sc_eq (se_mod (se_var 5) (se_var 4)) se_int) (ss_one (st_set (i:=5) (se_fdiv (se_var 5) (se_var 4)) nd rfl (Or.inr rfl)))) (ss_cons (st_set (i:=6) (se_lst sl_nil) nd rfl (Or.inl rfl)) (ss_cons (st_for [] (i:=7) (si_range rfl z_range (se_var 4)) (ss_one (st_set (i:=6) (se_add (se_var 6) (se_comp (fs:=["_law_length","_law_k","_law_rest","_law_power","_law_prime"]) (is:=[0,7,5,3,4]) (fe:=(Dv.eOp .mod (Dv.eOp .add (Dv.eVar 0) (Dv.eOp .mul (Dv.eOp .mul (Dv.eVar 2) (Dv.eVar 3)) (Dv.eOp .fdiv (Dv.eVar 4) (Dv.eVar 5)))) (Dv.eVar 1))) (fc:=(Dv.eBl true)) (comp_names (fsc:=defScope s_Q0M) (N:=["_law_length","_law_beat","_law_starts","_law_power","_law_prime","_law_rest","_law_more","_law_k"]) rfl rfl (by decide +kernel)) (si_list (se_var 2)) (fun cl L s₀ H₀ ex=>(se_mod (se_add (se_var 0) (se_mul (se_mul (se_var 2) (se_var 3)) (se_fdiv (se_var 4) (se_var 5)))) (se_var 1))) (fun cl L s₀ H₀ ex=>ts_nil))) nd rfl (Or.inl rfl))) nd rfl (Or.inr rfl)) (ss_one (st_setG [6] (i:=2) (se_var 6) nd rfl (Or.inl rfl)))))))) ss_nil)) nd rfl (Or.inr rfl)) (ss_one (st_ret (se_sorted z_sorted rfl (se_var 2))))))
noncomputable abbrev s_Q0H:Stmt:=top 50
theorem sc_law_fills:FnScope ["_law_length","_law_beat","_law_starts","_law_counts","_law_start","_law_place","_law_at"] ["_law_length","_law_beat","_law_starts"] (defScope s_Q0H):=⟨rfl,rfl,rfl,by decide +kernel,rfl,by decide +kernel,by decide +kernel⟩
theorem ok_Q0H {f:Addr}{fd:FuncData}(d:Df K mg "_law_fills" s_Q0H ["_law_length","_law_beat","_law_starts"] f fd) :
  FnOk P w K mg base (CXe P w) 1 f fd ["_law_length","_law_beat","_law_starts"] (spD K (clsOf ad) F_Q0H 3):=by
 have nd:=sc_law_fills.nd
 refine Df.is cxe_ok ["_law_length","_law_beat","_law_starts","_law_counts","_law_start","_law_place","_law_at"] 0 b_Q0H d sc_law_fills rfl rfl rfl fun cdv A outer s H E hr=>?_
 exact(ss_cons (st_set (i:=3) (se_mul (se_lst (sl_cons se_int sl_nil)) (se_var 0)) nd rfl (Or.inl rfl)) (ss_cons (st_for [2] (i:=4) (si_list (se_var 2)) (ss_one (st_for [1] (i:=5) (si_list (se_var 1)) (ss_cons (st_set (i:=6) (se_mod (se_add (se_var 4) (se_var 5)) (se_var 0)) nd rfl (Or.inl rfl)) (ss_one (st_put (i:=3) (se_add (se_ix (se_var 3) (se_var 6)) se_int) (se_var 6)))) nd rfl (Or.inl rfl))) nd rfl (Or.inl rfl)) (ss_one (st_ret (se_eq (se_var 3) (se_mul (se_lst (sl_cons se_int sl_nil)) (se_var 0)))))))
noncomputable abbrev s_Q08:Stmt:=top 51
theorem sc_law:FnScope ["_law_script","_law_draws_here","_law_length","_law_beat","_law_other","_law_handed","_law_found","_law_due","_law_back"] ["_law_script"] (defScope s_Q08):=⟨rfl,rfl,rfl,by decide +kernel,rfl,by decide +kernel,by decide +kernel⟩
theorem ok_Q08 {f:Addr}{fd:FuncData}(d:Df K mg "law" s_Q08 ["_law_script"] f fd){f_Q0D:Addr}{fd_law_draws:FuncData}(d_Q0D:Df K mg "_law_draws" s_Q0D ["_law_script","_law_many"] f_Q0D fd_law_draws)(o_Q0D:FnOk P w K mg base (CXe P w) 1 f_Q0D fd_law_draws ["_law_script","_law_many"] (spD K (clsOf ad) F_Q0D 2)){f_Q0N:Addr}{fd_law_lifted:FuncData}(d_Q0N:Df K mg "_law_lifted" s_Q0N ["_law_script","_law_start","_law_most"] f_Q0N fd_law_lifted)(o_Q0N:FnOk P w K mg base (CXe P w) 3 f_Q0N fd_law_lifted ["_law_script","_law_start","_law_most"] (spD K (clsOf ad) F_Q0O 3)){f_Q0P:Addr}{fd_law_pair:FuncData}(d_Q0P:Df K mg "_law_pair" s_Q0P ["_law_script","_law_start"] f_Q0P fd_law_pair)(o_Q0P:FnOk P w K mg base (CXe P w) 2 f_Q0P fd_law_pair ["_law_script","_law_start"] (spD K (clsOf ad) F_Q0Q 2)){f_Q0I:Addr}{fd_law_first:FuncData}(d_Q0I:Df K mg "_law_first" s_Q0I ["_law_length","_law_beat"] f_Q0I fd_law_first)(o_Q0I:FnOk P w K mg base (CXe P w) 3 f_Q0I fd_law_first ["_law_length","_law_beat"] (spD K (clsOf ad) F_Q0I 2)){f_Q0U:Addr}{fd_law_second:FuncData}(d_Q0U:Df K mg "_law_second" s_Q0U ["_law_length","_law_beat"] f_Q0U fd_law_second)(o_Q0U:FnOk P w K mg base (CXe P w) 3 f_Q0U fd_law_second ["_law_length","_law_beat"] (spD K (clsOf ad) F_Q0U 2)){f_Q0Z:Addr}{fd_made_partner:FuncData}(d_Q0Z:Df K mg "made_partner" s_Q0Z ["length","beat"] f_Q0Z fd_made_partner)(o_Q0Z:FnOk P w K mg base (CXe P w) 7 f_Q0Z fd_made_partner ["length","beat"] (spD K (clsOf ad) F_Q0Z 2)){f_Q0M:Addr}{fd_law_laid_out:FuncData}(d_Q0M:Df K mg "_law_laid_out" s_Q0M ["_law_length","_law_beat"] f_Q0M fd_law_laid_out)(o_Q0M:FnOk P w K mg base (CXe P w) 3 f_Q0M fd_law_laid_out ["_law_length","_law_beat"] (spD K (clsOf ad) F_Q0M 2)){f_Q0A:Addr}{fd_law_beat_is:FuncData}(d_Q0A:Df K mg "_law_beat_is" s_Q0A ["_law_found","_law_due"] f_Q0A fd_law_beat_is)(o_Q0A:FnOk P w K mg base (CXe P w) 2 f_Q0A fd_law_beat_is ["_law_found","_law_due"] (spD K (clsOf ad) F_Q0A 2)){f_Q0H:Addr}{fd_law_fills:FuncData}(d_Q0H:Df K mg "_law_fills" s_Q0H ["_law_length","_law_beat","_law_starts"] f_Q0H fd_law_fills)(o_Q0H:FnOk P w K mg base (CXe P w) 1 f_Q0H fd_law_fills ["_law_length","_law_beat","_law_starts"] (spD K (clsOf ad) F_Q0H 3))(z_list:mg "list"=none) :
  FnOk P w K mg base (CXe P w) 8 f fd ["_law_script"] (spD K (clsOf ad) F_Q0L 1):=by
 have nd:=sc_law.nd
 refine Df.is cxe_ok ["_law_script","_law_draws_here","_law_length","_law_beat","_law_other","_law_handed","_law_found","_law_due","_law_back"] 7 b_Q0L d sc_law rfl rfl rfl fun cdv A outer s H E hr=>?_
 exact(ss_cons (st_set (i:=1) (se_fn d_Q0D o_Q0D hr (by decide) rfl (sl_cons (se_var 0) (sl_cons se_int sl_nil))) nd rfl (Or.inl rfl)) (ss_cons (st_if (sc_eq (se_mod (se_ix (se_var 1) se_int) se_int) se_int) (ss_one (st_unpackL [1] (xs:=[2,3]) (se_fn d_Q0N o_Q0N hr (by decide) rfl (sl_cons (se_var 1) (sl_cons se_int (sl_cons se_int sl_nil)))) (gs_cons (i:=2) (gs_cons (i:=3) gs_nil nd rfl (Or.inl rfl)) nd rfl (Or.inl rfl)) rfl)) (ss_one (st_unpack [1] (xs:=[2,3,4]) (se_fn d_Q0P o_Q0P hr (by decide) rfl (sl_cons (se_var 1) (sl_cons se_int sl_nil))) (gs_cons (i:=2) (gs_cons (i:=3) (gs_cons (i:=4) gs_nil nd rfl (Or.inl rfl)) nd rfl (Or.inl rfl)) nd rfl (Or.inl rfl)) rfl))) (ss_cons (st_if (sc_w (sw_or (sc_not (sc_val (se_fn d_Q0I o_Q0I hr (by decide) rfl (sl_cons (se_var 2) (sl_cons (se_var 3) sl_nil))))) (sw_one _ (sc_not (sc_val (se_fn d_Q0U o_Q0U hr (by decide) rfl (sl_cons (se_var 2) (sl_cons (se_var 3) sl_nil)))))))) (ss_one (st_ret se_bl)) ss_nil) (ss_cons (st_set (i:=5) (se_list z_list rfl (se_var 3)) nd rfl (Or.inl rfl)) (ss_cons (st_set (i:=6) (se_fn d_Q0Z o_Q0Z hr (by decide) rfl (sl_cons (se_var 2) (sl_cons (se_var 5) sl_nil))) nd rfl (Or.inl rfl)) (ss_cons (st_set (i:=7) (se_fn d_Q0M o_Q0M hr (by decide) rfl (sl_cons (se_var 2) (sl_cons (se_var 3) sl_nil))) nd rfl (Or.inl rfl)) (ss_cons (st_if (sc_w (sw_or (sc_not (sc_val (se_fn d_Q0A o_Q0A hr (by decide) rfl (sl_cons (se_var 6) (sl_cons (se_var 7) sl_nil))))) (sw_or (sc_not (sc_val (se_fn d_Q0H o_Q0H hr (by decide) rfl (sl_cons (se_var 2) (sl_cons (se_var 3) (sl_cons (se_var 7) sl_nil)))))) (sw_one _ (sc_ne (se_var 5) (se_var 3)))))) (ss_one (st_ret se_bl)) ss_nil) (ss_cons (st_app (i:=6) se_int) (ss_cons (st_if (sc_not (sc_val (se_fn d_Q0A o_Q0A hr (by decide) rfl (sl_cons (se_fn d_Q0Z o_Q0Z hr (by decide) rfl (sl_cons (se_var 2) (sl_cons (se_var 5) sl_nil))) (sl_cons (se_var 7) sl_nil))))) (ss_one (st_ret se_bl)) ss_nil) (ss_cons (st_if (sc_w (sw_or (sc_not (sc_val (se_fn d_Q0I o_Q0I hr (by decide) rfl (sl_cons (se_var 2) (sl_cons (se_var 7) sl_nil))))) (sw_one _ (sc_not (sc_val (se_fn d_Q0U o_Q0U hr (by decide) rfl (sl_cons (se_var 2) (sl_cons (se_var 7) sl_nil)))))))) (ss_one (st_ret se_bl)) ss_nil) (ss_cons (st_set (i:=8) (se_fn d_Q0Z o_Q0Z hr (by decide) rfl (sl_cons (se_var 2) (sl_cons (se_var 7) sl_nil))) nd rfl (Or.inl rfl)) (ss_one (st_ret (se_and (se_fn d_Q0A o_Q0A hr (by decide) rfl (sl_cons (se_var 8) (sl_cons (se_fn d_Q0M o_Q0M hr (by decide) rfl (sl_cons (se_var 2) (sl_cons (se_var 7) sl_nil))) sl_nil))) (se_one (se_fn d_Q0H o_Q0H hr (by decide) rfl (sl_cons (se_var 2) (sl_cons (se_var 7) (sl_cons (se_var 8) sl_nil)))))))))))))))))))
end
theorem len_0 {P:List Value->Prop}(h:P []):∀ us:List Value,us.length=0->P us:=fun us hl=>(List.eq_nil_of_length_eq_zero hl)▸h
theorem len_s {P:List Value->Prop}{k:Nat}(h:∀ a (us:List Value),us.length=k->P (a::us)):∀ us:List Value,us.length=k+1->P us:=by
 intro us hl
 cases us with
 | nil=>exact absurd hl (Nat.succ_ne_zero k).symm
 | cons a r=>exact h a r (Nat.succ.inj hl)
theorem len_1 {P:List Value->Prop}(h:∀ a0,P [a0]):∀ us:List Value,us.length=1->P us:=len_s (P:=P) fun a0=>len_0 (P:=fun us=>P (a0:: us)) (h a0)
theorem len_2 {P:List Value->Prop}(h:∀ a0 a1,P [a0,a1]):∀ us:List Value,us.length=2->P us:=len_s (P:=P) fun a0=>len_s (P:=fun us=>P (a0:: us)) fun a1=>len_0 (P:=fun us=>P (a0::a1:: us)) (h a0 a1)
theorem len_3 {P:List Value->Prop}(h:∀ a0 a1 a2,P [a0,a1,a2]):∀ us:List Value,us.length=3->P us:=len_s (P:=P) fun a0=>len_s (P:=fun us=>P (a0:: us)) fun a1=>len_s (P:=fun us=>P (a0::a1:: us)) fun a2=>len_0 (P:=fun us=>P (a0::a1::a2:: us)) (h a0 a1 a2)
theorem len_4 {P:List Value->Prop}(h:∀ a0 a1 a2 a3,P [a0,a1,a2,a3]):∀ us:List Value,us.length=4->P us:=len_s (P:=P) fun a0=>len_s (P:=fun us=>P (a0:: us)) fun a1=>len_s (P:=fun us=>P (a0::a1:: us)) fun a2=>len_s (P:=fun us=>P (a0::a1::a2:: us)) fun a3=>len_0 (P:=fun us=>P (a0::a1::a2::a3:: us)) (h a0 a1 a2 a3)
theorem len_5 {P:List Value->Prop}(h:∀ a0 a1 a2 a3 a4,P [a0,a1,a2,a3,a4]):∀ us:List Value,us.length=5->P us:=len_s (P:=P) fun a0=>len_s (P:=fun us=>P (a0:: us)) fun a1=>len_s (P:=fun us=>P (a0::a1:: us)) fun a2=>len_s (P:=fun us=>P (a0::a1::a2:: us)) fun a3=>len_s (P:=fun us=>P (a0::a1::a2::a3:: us)) fun a4=>len_0 (P:=fun us=>P (a0::a1::a2::a3::a4:: us)) (h a0 a1 a2 a3 a4)
theorem len_6 {P:List Value->Prop}(h:∀ a0 a1 a2 a3 a4 a5,P [a0,a1,a2,a3,a4,a5]):∀ us:List Value,us.length=6->P us:=len_s (P:=P) fun a0=>len_s (P:=fun us=>P (a0:: us)) fun a1=>len_s (P:=fun us=>P (a0::a1:: us)) fun a2=>len_s (P:=fun us=>P (a0::a1::a2:: us)) fun a3=>len_s (P:=fun us=>P (a0::a1::a2::a3:: us)) fun a4=>len_s (P:=fun us=>P (a0::a1::a2::a3::a4:: us)) fun a5=>len_0 (P:=fun us=>P (a0::a1::a2::a3::a4::a5:: us)) (h a0 a1 a2 a3 a4 a5)
noncomputable abbrev adA (a0 a1 a2 a3 a4:Addr):=adOf [("WheelError",a0),("NoWheel",a1),("NoBeat",a2),("NoPart",a3),("NoRule",a4)]
abbrev hA (K:PySem.W.Frag)(n:Str)(f:Addr):Prop:=PySem.W.nsIn K mainGlobals n=some (some (.ref f))
abbrev hL (K:PySem.W.Frag)(n:Str)(s:Stmt)(f:Addr)(oc:Value)(od:Option Addr)(kV dc pm:Value)(an:Option Addr)(cd ct:Value)(sl:Array (Option Value)):Prop:=K.lookup f=some ⟨oc,od,.func (PySem.W.fnOf n n (defArgs s) (defBody s) (defScope s) .none kV dc pm an cd ct),sl⟩
abbrev hC (K:PySem.W.Frag)(c:Value)(n:Str):Prop:=PySem.W.codeIn K c n=true
abbrev hK (K:PySem.W.Frag)(f:Addr):Prop:=PySem.W.keepIn K (.ref f)=true
abbrev hS (K:PySem.W.Frag)(a b:Addr)(v:Bool):Prop:=PySem.W.kitOne K (.ref a) (.ref b)=some v
theorem all_mk {l:PySem.W.OpenLaw}{w:World}{K:PySem.W.Frag}{h:Heap}{mg:Str->Option Value}{fa:Addr}(X:K.In h)(G:h.Ns mainGlobals mg)(hfa:mg "law"=some (.ref fa))
    {f_Q04 f_Q03 f_Q02 f_Q0Y f_Q01 f_Q19 f_Q17 f_Q05 f_Q11 f_Q0X f_Q10 f_Q13 f_Q07 f_Q14 f_Q12 f_Q06 f_Q18 f_Q16 f_Q15 f_Q00 f_Q0Z f_Q0D f_Q0B f_Q0W f_Q0A f_Q0V f_Q09 f_Q0P f_Q0T f_Q0J f_Q0R f_Q0I f_Q0U f_Q0E f_Q0N f_Q0M f_Q0H f_Q08 C_4 e3_4 C_3 e3_3 C_0 e3_0 C_1 e3_1 C_2 e3_2:Addr}{od_Q04 an_Q04 od_Q03 an_Q03 od_Q02 an_Q02 od_Q0Y an_Q0Y od_Q01 an_Q01 od_Q19 an_Q19 od_Q17 an_Q17 od_Q05 an_Q05 od_Q11 an_Q11 od_Q0X an_Q0X od_Q10 an_Q10 od_Q13 an_Q13 od_Q07 an_Q07 od_Q14 an_Q14 od_Q12 an_Q12 od_Q06 an_Q06 od_Q18 an_Q18 od_Q16 an_Q16 od_Q15 an_Q15 od_Q00 an_Q00 od_Q0Z an_Q0Z od_Q0D an_Q0D od_Q0B an_Q0B od_Q0W an_Q0W od_Q0A an_Q0A od_Q0V an_Q0V od_Q09 an_Q09 od_Q0P an_Q0P od_Q0T an_Q0T od_Q0J an_Q0J od_Q0R an_Q0R od_Q0I an_Q0I od_Q0U an_Q0U od_Q0E an_Q0E od_Q0N an_Q0N od_Q0M an_Q0M od_Q0H an_Q0H od_Q08 an_Q08 eB_4 eB_3 eB_0 eB_1 eB_2:Option Addr}{sl_Q04 sl_Q03 sl_Q02 sl_Q0Y sl_Q01 sl_Q19 sl_Q17 sl_Q05 sl_Q11 sl_Q0X sl_Q10 sl_Q13 sl_Q07 sl_Q14 sl_Q12 sl_Q06 sl_Q18 sl_Q16 sl_Q15 sl_Q00 sl_Q0Z sl_Q0D sl_Q0B sl_Q0W sl_Q0A sl_Q0V sl_Q09 sl_Q0P sl_Q0T sl_Q0J sl_Q0R sl_Q0I sl_Q0U sl_Q0E sl_Q0N sl_Q0M sl_Q0H sl_Q08:Array (Option Value)}{oc_Q04 kV_Q04 dc_Q04 pm_Q04 cd_Q04 ct_Q04 oc_Q03 kV_Q03 dc_Q03 pm_Q03 cd_Q03 ct_Q03 oc_Q02 kV_Q02 dc_Q02 pm_Q02 cd_Q02 ct_Q02 oc_Q0Y kV_Q0Y dc_Q0Y pm_Q0Y cd_Q0Y ct_Q0Y oc_Q01 kV_Q01 dc_Q01 pm_Q01 cd_Q01 ct_Q01 oc_Q19 kV_Q19 dc_Q19 pm_Q19 cd_Q19 ct_Q19 oc_Q17 kV_Q17 dc_Q17 pm_Q17 cd_Q17 ct_Q17 oc_Q05 kV_Q05 dc_Q05 pm_Q05 cd_Q05 ct_Q05 oc_Q11 kV_Q11 dc_Q11 pm_Q11 cd_Q11 ct_Q11 oc_Q0X kV_Q0X dc_Q0X pm_Q0X cd_Q0X ct_Q0X oc_Q10 kV_Q10 dc_Q10 pm_Q10 cd_Q10 ct_Q10 oc_Q13 kV_Q13 dc_Q13 pm_Q13 cd_Q13 ct_Q13 oc_Q07 kV_Q07 dc_Q07 pm_Q07 cd_Q07 ct_Q07 oc_Q14 kV_Q14 dc_Q14 pm_Q14 cd_Q14 ct_Q14 oc_Q12 kV_Q12 dc_Q12 pm_Q12 cd_Q12 ct_Q12 oc_Q06 kV_Q06 dc_Q06 pm_Q06 cd_Q06 ct_Q06 oc_Q18 kV_Q18 dc_Q18 pm_Q18 cd_Q18 ct_Q18 oc_Q16 kV_Q16 dc_Q16 pm_Q16 cd_Q16 ct_Q16 oc_Q15 kV_Q15 dc_Q15 pm_Q15 cd_Q15 ct_Q15 oc_Q00 kV_Q00 dc_Q00 pm_Q00 cd_Q00 ct_Q00 oc_Q0Z kV_Q0Z dc_Q0Z pm_Q0Z cd_Q0Z ct_Q0Z oc_Q0D kV_Q0D dc_Q0D pm_Q0D cd_Q0D ct_Q0D oc_Q0B kV_Q0B dc_Q0B pm_Q0B cd_Q0B ct_Q0B oc_Q0W kV_Q0W dc_Q0W pm_Q0W cd_Q0W ct_Q0W oc_Q0A kV_Q0A dc_Q0A pm_Q0A cd_Q0A ct_Q0A oc_Q0V kV_Q0V dc_Q0V pm_Q0V cd_Q0V ct_Q0V oc_Q09 kV_Q09 dc_Q09 pm_Q09 cd_Q09 ct_Q09 oc_Q0P kV_Q0P dc_Q0P pm_Q0P cd_Q0P ct_Q0P oc_Q0T kV_Q0T dc_Q0T pm_Q0T cd_Q0T ct_Q0T oc_Q0J kV_Q0J dc_Q0J pm_Q0J cd_Q0J ct_Q0J oc_Q0R kV_Q0R dc_Q0R pm_Q0R cd_Q0R ct_Q0R oc_Q0I kV_Q0I dc_Q0I pm_Q0I cd_Q0I ct_Q0I oc_Q0U kV_Q0U dc_Q0U pm_Q0U cd_Q0U ct_Q0U oc_Q0E kV_Q0E dc_Q0E pm_Q0E cd_Q0E ct_Q0E oc_Q0N kV_Q0N dc_Q0N pm_Q0N cd_Q0N ct_Q0N oc_Q0M kV_Q0M dc_Q0M pm_Q0M cd_Q0M ct_Q0M oc_Q0H kV_Q0H dc_Q0H pm_Q0H cd_Q0H ct_Q0H oc_Q08 kV_Q08 dc_Q08 pm_Q08 cd_Q08 ct_Q08:Value}{t_LONGEST t_LAST_PART:Tok}{e1_4 e2_4 e1_3 e2_3 e1_0 e2_0 e1_1 e2_1 e1_2 e2_2:Str}{e4_4 e5_4 e8_4 e4_3 e5_3 e8_3 e4_0 e5_0 e8_0 e4_1 e5_1 e8_1 e4_2 e5_2 e8_2:List Value}{e6_4 e9_4 e6_3 e9_3 e6_0 e9_0 e6_1 e9_1 e6_2 e9_2:Bool}{e7_4 e7_3 e7_0 e7_1 e7_2:List Str}{eA_4 eA_3 eA_0 eA_1 eA_2:Option Bool}{eC_4 eD_4 eE_4 eF_4 eG_4 eC_3 eD_3 eE_3 eF_3 eG_3 eC_0 eD_0 eE_0 eF_0 eG_0 eC_1 eD_1 eE_1 eF_1 eG_1 eC_2 eD_2 eE_2 eF_2 eG_2:Option Value}
    (a_Q04:hA K "check_wheel" f_Q04) (l_Q04:hL K "check_wheel" s_Q04 f_Q04 oc_Q04 od_Q04 kV_Q04 dc_Q04 pm_Q04 an_Q04 cd_Q04 ct_Q04 sl_Q04) (c_Q04:hC K cd_Q04 "check_wheel") (k_Q04:hK K f_Q04)
    (a_Q03:hA K "check_rising" f_Q03) (l_Q03:hL K "check_rising" s_Q03 f_Q03 oc_Q03 od_Q03 kV_Q03 dc_Q03 pm_Q03 an_Q03 cd_Q03 ct_Q03 sl_Q03) (c_Q03:hC K cd_Q03 "check_rising") (k_Q03:hK K f_Q03)
    (a_Q02:hA K "check_beat" f_Q02) (l_Q02:hL K "check_beat" s_Q02 f_Q02 oc_Q02 od_Q02 kV_Q02 dc_Q02 pm_Q02 an_Q02 cd_Q02 ct_Q02 sl_Q02) (c_Q02:hC K cd_Q02 "check_beat") (k_Q02:hK K f_Q02)
    (a_Q0Y:hA K "made_beat" f_Q0Y) (l_Q0Y:hL K "made_beat" s_Q0Y f_Q0Y oc_Q0Y od_Q0Y kV_Q0Y dc_Q0Y pm_Q0Y an_Q0Y cd_Q0Y ct_Q0Y sl_Q0Y) (c_Q0Y:hC K cd_Q0Y "made_beat") (k_Q0Y:hK K f_Q0Y)
    (a_Q01:hA K "beat_sum" f_Q01) (l_Q01:hL K "beat_sum" s_Q01 f_Q01 oc_Q01 od_Q01 kV_Q01 dc_Q01 pm_Q01 an_Q01 cd_Q01 ct_Q01 sl_Q01) (c_Q01:hC K cd_Q01 "beat_sum") (k_Q01:hK K f_Q01)
    (a_Q19:hA K "without_last_noughts" f_Q19) (l_Q19:hL K "without_last_noughts" s_Q19 f_Q19 oc_Q19 od_Q19 kV_Q19 dc_Q19 pm_Q19 an_Q19 cd_Q19 ct_Q19 sl_Q19) (c_Q19:hC K cd_Q19 "without_last_noughts") (k_Q19:hK K f_Q19)
    (a_Q17:hA K "sum_divided" f_Q17) (l_Q17:hL K "sum_divided" s_Q17 f_Q17 oc_Q17 od_Q17 kV_Q17 dc_Q17 pm_Q17 an_Q17 cd_Q17 ct_Q17 sl_Q17) (c_Q17:hC K cd_Q17 "sum_divided") (k_Q17:hK K f_Q17)
    (a_Q05:hA K "divisors" f_Q05) (l_Q05:hL K "divisors" s_Q05 f_Q05 oc_Q05 od_Q05 kV_Q05 dc_Q05 pm_Q05 an_Q05 cd_Q05 ct_Q05 sl_Q05) (c_Q05:hC K cd_Q05 "divisors") (k_Q05:hK K f_Q05)
    (a_Q11:hA K "parts_of_divisors" f_Q11) (l_Q11:hL K "parts_of_divisors" s_Q11 f_Q11 oc_Q11 od_Q11 kV_Q11 dc_Q11 pm_Q11 an_Q11 cd_Q11 ct_Q11 sl_Q11) (c_Q11:hC K cd_Q11 "parts_of_divisors") (k_Q11:hK K f_Q11)
    (a_Q0X:hA K "leaves_nought" f_Q0X) (l_Q0X:hL K "leaves_nought" s_Q0X f_Q0X oc_Q0X od_Q0X kV_Q0X dc_Q0X pm_Q0X an_Q0X cd_Q0X ct_Q0X sl_Q0X) (c_Q0X:hC K cd_Q0X "leaves_nought") (k_Q0X:hK K f_Q0X)
    (a_Q10:hA K "parts_had" f_Q10) (l_Q10:hL K "parts_had" s_Q10 f_Q10 oc_Q10 od_Q10 kV_Q10 dc_Q10 pm_Q10 an_Q10 cd_Q10 ct_Q10 sl_Q10) (c_Q10:hC K cd_Q10 "parts_had") (k_Q10:hK K f_Q10)
    (a_Q13:hA K "prime_of" f_Q13) (l_Q13:hL K "prime_of" s_Q13 f_Q13 oc_Q13 od_Q13 kV_Q13 dc_Q13 pm_Q13 an_Q13 cd_Q13 ct_Q13 sl_Q13) (c_Q13:hC K cd_Q13 "prime_of") (k_Q13:hK K f_Q13)
    (a_Q07:hA K "has_one_prime" f_Q07) (l_Q07:hL K "has_one_prime" s_Q07 f_Q07 oc_Q07 od_Q07 kV_Q07 dc_Q07 pm_Q07 an_Q07 cd_Q07 ct_Q07 sl_Q07) (c_Q07:hC K cd_Q07 "has_one_prime") (k_Q07:hK K f_Q07)
    (a_Q14:hA K "prime_powers" f_Q14) (l_Q14:hL K "prime_powers" s_Q14 f_Q14 oc_Q14 od_Q14 kV_Q14 dc_Q14 pm_Q14 an_Q14 cd_Q14 ct_Q14 sl_Q14) (c_Q14:hC K cd_Q14 "prime_powers") (k_Q14:hK K f_Q14)
    (a_Q12:hA K "powers_had" f_Q12) (l_Q12:hL K "powers_had" s_Q12 f_Q12 oc_Q12 od_Q12 kV_Q12 dc_Q12 pm_Q12 an_Q12 cd_Q12 ct_Q12 sl_Q12) (c_Q12:hC K cd_Q12 "powers_had") (k_Q12:hK K f_Q12)
    (a_Q06:hA K "first_rule" f_Q06) (l_Q06:hL K "first_rule" s_Q06 f_Q06 oc_Q06 od_Q06 kV_Q06 dc_Q06 pm_Q06 an_Q06 cd_Q06 ct_Q06 sl_Q06) (c_Q06:hC K cd_Q06 "first_rule") (k_Q06:hK K f_Q06)
    (a_Q18:hA K "unlike_products" f_Q18) (l_Q18:hL K "unlike_products" s_Q18 f_Q18 oc_Q18 od_Q18 kV_Q18 dc_Q18 pm_Q18 an_Q18 cd_Q18 ct_Q18 sl_Q18) (c_Q18:hC K cd_Q18 "unlike_products") (k_Q18:hK K f_Q18)
    (a_Q16:hA K "second_rule" f_Q16) (l_Q16:hL K "second_rule" s_Q16 f_Q16 oc_Q16 od_Q16 kV_Q16 dc_Q16 pm_Q16 an_Q16 cd_Q16 ct_Q16 sl_Q16) (c_Q16:hC K cd_Q16 "second_rule") (k_Q16:hK K f_Q16)
    (a_Q15:hA K "row_of_power" f_Q15) (l_Q15:hL K "row_of_power" s_Q15 f_Q15 oc_Q15 od_Q15 kV_Q15 dc_Q15 pm_Q15 an_Q15 cd_Q15 ct_Q15 sl_Q15) (c_Q15:hC K cd_Q15 "row_of_power") (k_Q15:hK K f_Q15)
    (a_Q00:hA K "all_added" f_Q00) (l_Q00:hL K "all_added" s_Q00 f_Q00 oc_Q00 od_Q00 kV_Q00 dc_Q00 pm_Q00 an_Q00 cd_Q00 ct_Q00 sl_Q00) (c_Q00:hC K cd_Q00 "all_added") (k_Q00:hK K f_Q00)
    (a_Q0Z:hA K "made_partner" f_Q0Z) (l_Q0Z:hL K "made_partner" s_Q0Z f_Q0Z oc_Q0Z od_Q0Z kV_Q0Z dc_Q0Z pm_Q0Z an_Q0Z cd_Q0Z ct_Q0Z sl_Q0Z) (c_Q0Z:hC K cd_Q0Z "made_partner") (k_Q0Z:hK K f_Q0Z)
    (a_Q0D:hA K "_law_draws" f_Q0D) (l_Q0D:hL K "_law_draws" s_Q0D f_Q0D oc_Q0D od_Q0D kV_Q0D dc_Q0D pm_Q0D an_Q0D cd_Q0D ct_Q0D sl_Q0D) (c_Q0D:hC K cd_Q0D "_law_draws") (k_Q0D:hK K f_Q0D)
    (a_Q0B:hA K "_law_cell" f_Q0B) (l_Q0B:hL K "_law_cell" s_Q0B f_Q0B oc_Q0B od_Q0B kV_Q0B dc_Q0B pm_Q0B an_Q0B cd_Q0B ct_Q0B sl_Q0B) (c_Q0B:hC K cd_Q0B "_law_cell") (k_Q0B:hK K f_Q0B)
    (a_Q0W:hA K "_law_whole" f_Q0W) (l_Q0W:hL K "_law_whole" s_Q0W f_Q0W oc_Q0W od_Q0W kV_Q0W dc_Q0W pm_Q0W an_Q0W cd_Q0W ct_Q0W sl_Q0W) (c_Q0W:hC K cd_Q0W "_law_whole") (k_Q0W:hK K f_Q0W)
    (a_Q0A:hA K "_law_beat_is" f_Q0A) (l_Q0A:hL K "_law_beat_is" s_Q0A f_Q0A oc_Q0A od_Q0A kV_Q0A dc_Q0A pm_Q0A an_Q0A cd_Q0A ct_Q0A sl_Q0A) (c_Q0A:hC K cd_Q0A "_law_beat_is") (k_Q0A:hK K f_Q0A)
    (a_Q0V:hA K "_law_turned" f_Q0V) (l_Q0V:hL K "_law_turned" s_Q0V f_Q0V oc_Q0V od_Q0V kV_Q0V dc_Q0V pm_Q0V an_Q0V cd_Q0V ct_Q0V sl_Q0V) (c_Q0V:hC K cd_Q0V "_law_turned") (k_Q0V:hK K f_Q0V)
    (a_Q09:hA K "_law_again" f_Q09) (l_Q09:hL K "_law_again" s_Q09 f_Q09 oc_Q09 od_Q09 kV_Q09 dc_Q09 pm_Q09 an_Q09 cd_Q09 ct_Q09 sl_Q09) (c_Q09:hC K cd_Q09 "_law_again") (k_Q09:hK K f_Q09)
    (a_Q0P:hA K "_law_pair" f_Q0P) (l_Q0P:hL K "_law_pair" s_Q0P f_Q0P oc_Q0P od_Q0P kV_Q0P dc_Q0P pm_Q0P an_Q0P cd_Q0P ct_Q0P sl_Q0P) (c_Q0P:hC K cd_Q0P "_law_pair") (k_Q0P:hK K f_Q0P)
    (a_Q0T:hA K "_law_primes" f_Q0T) (l_Q0T:hL K "_law_primes" s_Q0T f_Q0T oc_Q0T od_Q0T kV_Q0T dc_Q0T pm_Q0T an_Q0T cd_Q0T ct_Q0T sl_Q0T) (c_Q0T:hC K cd_Q0T "_law_primes") (k_Q0T:hK K f_Q0T)
    (a_Q0J:hA K "_law_has" f_Q0J) (l_Q0J:hL K "_law_has" s_Q0J f_Q0J oc_Q0J od_Q0J kV_Q0J dc_Q0J pm_Q0J an_Q0J cd_Q0J ct_Q0J sl_Q0J) (c_Q0J:hC K cd_Q0J "_law_has") (k_Q0J:hK K f_Q0J)
    (a_Q0R:hA K "_law_powers" f_Q0R) (l_Q0R:hL K "_law_powers" s_Q0R f_Q0R oc_Q0R od_Q0R kV_Q0R dc_Q0R pm_Q0R an_Q0R cd_Q0R ct_Q0R sl_Q0R) (c_Q0R:hC K cd_Q0R "_law_powers") (k_Q0R:hK K f_Q0R)
    (a_Q0I:hA K "_law_first" f_Q0I) (l_Q0I:hL K "_law_first" s_Q0I f_Q0I oc_Q0I od_Q0I kV_Q0I dc_Q0I pm_Q0I an_Q0I cd_Q0I ct_Q0I sl_Q0I) (c_Q0I:hC K cd_Q0I "_law_first") (k_Q0I:hK K f_Q0I)
    (a_Q0U:hA K "_law_second" f_Q0U) (l_Q0U:hL K "_law_second" s_Q0U f_Q0U oc_Q0U od_Q0U kV_Q0U dc_Q0U pm_Q0U an_Q0U cd_Q0U ct_Q0U sl_Q0U) (c_Q0U:hC K cd_Q0U "_law_second") (k_Q0U:hK K f_Q0U)
    (a_Q0E:hA K "_law_evened" f_Q0E) (l_Q0E:hL K "_law_evened" s_Q0E f_Q0E oc_Q0E od_Q0E kV_Q0E dc_Q0E pm_Q0E an_Q0E cd_Q0E ct_Q0E sl_Q0E) (c_Q0E:hC K cd_Q0E "_law_evened") (k_Q0E:hK K f_Q0E)
    (a_Q0N:hA K "_law_lifted" f_Q0N) (l_Q0N:hL K "_law_lifted" s_Q0N f_Q0N oc_Q0N od_Q0N kV_Q0N dc_Q0N pm_Q0N an_Q0N cd_Q0N ct_Q0N sl_Q0N) (c_Q0N:hC K cd_Q0N "_law_lifted") (k_Q0N:hK K f_Q0N)
    (a_Q0M:hA K "_law_laid_out" f_Q0M) (l_Q0M:hL K "_law_laid_out" s_Q0M f_Q0M oc_Q0M od_Q0M kV_Q0M dc_Q0M pm_Q0M an_Q0M cd_Q0M ct_Q0M sl_Q0M) (c_Q0M:hC K cd_Q0M "_law_laid_out") (k_Q0M:hK K f_Q0M)
    (a_Q0H:hA K "_law_fills" f_Q0H) (l_Q0H:hL K "_law_fills" s_Q0H f_Q0H oc_Q0H od_Q0H kV_Q0H dc_Q0H pm_Q0H an_Q0H cd_Q0H ct_Q0H sl_Q0H) (c_Q0H:hC K cd_Q0H "_law_fills") (k_Q0H:hK K f_Q0H)
    (a_Q08:hA K "law" f_Q08) (l_Q08:hL K "law" s_Q08 f_Q08 oc_Q08 od_Q08 kV_Q08 dc_Q08 pm_Q08 an_Q08 cd_Q08 ct_Q08 sl_Q08) (c_Q08:hC K cd_Q08 "law") (k_Q08:hK K f_Q08)
    (z_len:PySem.W.nsIn K mainGlobals "len"=some none) (z_sorted:PySem.W.nsIn K mainGlobals "sorted"=some none) (z_list:PySem.W.nsIn K mainGlobals "list"=some none) (z_range:PySem.W.nsIn K mainGlobals "range"=some none) (z_enumerate:PySem.W.nsIn K mainGlobals "enumerate"=some none) (z_all:PySem.W.nsIn K mainGlobals "all"=some none) (z_int:PySem.W.nsIn K mainGlobals "int"=some none) (z_isinstance:PySem.W.nsIn K mainGlobals "isinstance"=some none) (z_bool:PySem.W.nsIn K mainGlobals "bool"=some none) (z_zip:PySem.W.nsIn K mainGlobals "zip"=some none) (z_max:PySem.W.nsIn K mainGlobals "max"=some none) (z_min:PySem.W.nsIn K mainGlobals "min"=some none) (n_LONGEST:PySem.W.nsIn K mainGlobals "LONGEST"=some (some (.int 60 t_LONGEST))) (n_LAST_PART:PySem.W.nsIn K mainGlobals "LAST_PART"=some (some (.int 60 t_LAST_PART)))
   (a_4:hA K "WheelError" C_4) (x_4:PySem.W.excIn K C_4 [.type "ValueError",.type "Exception",.type "BaseException",.type "object"] "ValueError.__new__"=true) (g1_4:PySem.W.findIn K (.ref C_4) "__getattribute__"=some (some (.builtin "BaseException.__getattribute__"))) (g2_4:PySem.W.findIn K (.ref C_4) "__getattr__"=some none) (g3_4:PySem.W.findIn K (.ref C_4) "__class__"=some (some (.builtin "object.__class__"))) (v_4:PySem.W.kitOne K (.ref C_4) (.type "ValueError")=some true) (y_4:K.lookup C_4=some (excClassObj e1_4 e2_4 C_4 e3_4 e4_4 e5_4 e6_4 e7_4 e8_4 e9_4 eA_4 eB_4 eC_4 eD_4 eE_4 eF_4 eG_4 "ValueError.__new__"))
   (a_3:hA K "NoWheel" C_3) (x_3:PySem.W.excIn K C_3 [.type "ValueError",.type "Exception",.type "BaseException",.type "object"] "ValueError.__new__"=true) (g1_3:PySem.W.findIn K (.ref C_3) "__getattribute__"=some (some (.builtin "BaseException.__getattribute__"))) (g2_3:PySem.W.findIn K (.ref C_3) "__getattr__"=some none) (g3_3:PySem.W.findIn K (.ref C_3) "__class__"=some (some (.builtin "object.__class__"))) (v_3:PySem.W.kitOne K (.ref C_3) (.type "ValueError")=some true) (y_3:K.lookup C_3=some (excClassObj e1_3 e2_3 C_3 e3_3 e4_3 e5_3 e6_3 e7_3 e8_3 e9_3 eA_3 eB_3 eC_3 eD_3 eE_3 eF_3 eG_3 "ValueError.__new__"))
   (a_0:hA K "NoBeat" C_0) (x_0:PySem.W.excIn K C_0 [.type "ValueError",.type "Exception",.type "BaseException",.type "object"] "ValueError.__new__"=true) (g1_0:PySem.W.findIn K (.ref C_0) "__getattribute__"=some (some (.builtin "BaseException.__getattribute__"))) (g2_0:PySem.W.findIn K (.ref C_0) "__getattr__"=some none) (g3_0:PySem.W.findIn K (.ref C_0) "__class__"=some (some (.builtin "object.__class__"))) (v_0:PySem.W.kitOne K (.ref C_0) (.type "ValueError")=some true) (y_0:K.lookup C_0=some (excClassObj e1_0 e2_0 C_0 e3_0 e4_0 e5_0 e6_0 e7_0 e8_0 e9_0 eA_0 eB_0 eC_0 eD_0 eE_0 eF_0 eG_0 "ValueError.__new__"))
   (a_1:hA K "NoPart" C_1) (x_1:PySem.W.excIn K C_1 [.type "ValueError",.type "Exception",.type "BaseException",.type "object"] "ValueError.__new__"=true) (g1_1:PySem.W.findIn K (.ref C_1) "__getattribute__"=some (some (.builtin "BaseException.__getattribute__"))) (g2_1:PySem.W.findIn K (.ref C_1) "__getattr__"=some none) (g3_1:PySem.W.findIn K (.ref C_1) "__class__"=some (some (.builtin "object.__class__"))) (v_1:PySem.W.kitOne K (.ref C_1) (.type "ValueError")=some true) (y_1:K.lookup C_1=some (excClassObj e1_1 e2_1 C_1 e3_1 e4_1 e5_1 e6_1 e7_1 e8_1 e9_1 eA_1 eB_1 eC_1 eD_1 eE_1 eF_1 eG_1 "ValueError.__new__"))
   (a_2:hA K "NoRule" C_2) (x_2:PySem.W.excIn K C_2 [.type "ValueError",.type "Exception",.type "BaseException",.type "object"] "ValueError.__new__"=true) (g1_2:PySem.W.findIn K (.ref C_2) "__getattribute__"=some (some (.builtin "BaseException.__getattribute__"))) (g2_2:PySem.W.findIn K (.ref C_2) "__getattr__"=some none) (g3_2:PySem.W.findIn K (.ref C_2) "__class__"=some (some (.builtin "object.__class__"))) (v_2:PySem.W.kitOne K (.ref C_2) (.type "ValueError")=some true) (y_2:K.lookup C_2=some (excClassObj e1_2 e2_2 C_2 e3_2 e4_2 e5_2 e6_2 e7_2 e8_2 e9_2 eA_2 eB_2 eC_2 eD_2 eE_2 eF_2 eG_2 "ValueError.__new__"))
   (s_44:hS K C_4 C_4 true)
   (s_43:hS K C_4 C_3 false)
   (s_40:hS K C_4 C_0 false)
   (s_41:hS K C_4 C_1 false)
   (s_42:hS K C_4 C_2 false)
   (s_34:hS K C_3 C_4 true)
   (s_33:hS K C_3 C_3 true)
   (s_30:hS K C_3 C_0 false)
   (s_31:hS K C_3 C_1 false)
   (s_32:hS K C_3 C_2 false)
   (s_04:hS K C_0 C_4 true)
   (s_03:hS K C_0 C_3 false)
   (s_00:hS K C_0 C_0 true)
   (s_01:hS K C_0 C_1 false)
   (s_02:hS K C_0 C_2 false)
   (s_14:hS K C_1 C_4 true)
   (s_13:hS K C_1 C_3 false)
   (s_10:hS K C_1 C_0 false)
   (s_11:hS K C_1 C_1 true)
   (s_12:hS K C_1 C_2 false)
   (s_24:hS K C_2 C_4 true)
   (s_23:hS K C_2 C_3 false)
   (s_20:hS K C_2 C_0 false)
   (s_21:hS K C_2 C_1 false)
   (s_22:hS K C_2 C_2 true):∃ (fd:FuncData) (cls:String->Value),(∀ (s:Shared) (v:Value),BindsTo s fd ⟨[v],[]⟩ [("_law_script",v)])/\∀ base:Heap,K.In base->base.Ns mainGlobals mg->FnOk l.prog w K mg base (CXe l.prog w) 8 fa fd ["_law_script"] (spD K cls F_Q0L 1):=by
  have e:=hfa.symm.trans (PySem.W.mg_of X G a_Q08)
  cases e
  have d_Q04:=df_mk (st:=s_Q04) (ps:=["length"]) (PySem.W.mg_of X G a_Q04) l_Q04 c_Q04 k_Q04 fun _ _ _ _ _ _=>len_1 fun _=>rfl
  have d_Q03:=df_mk (st:=s_Q03) (ps:=["numbers","end"]) (PySem.W.mg_of X G a_Q03) l_Q03 c_Q03 k_Q03 fun _ _ _ _ _ _=>len_2 fun _ _=>rfl
  have d_Q02:=df_mk (st:=s_Q02) (ps:=["length","beat"]) (PySem.W.mg_of X G a_Q02) l_Q02 c_Q02 k_Q02 fun _ _ _ _ _ _=>len_2 fun _ _=>rfl
  have d_Q0Y:=df_mk (st:=s_Q0Y) (ps:=["length","numbers"]) (PySem.W.mg_of X G a_Q0Y) l_Q0Y c_Q0Y k_Q0Y fun _ _ _ _ _ _=>len_2 fun _ _=>rfl
  have d_Q01:=df_mk (st:=s_Q01) (ps:=["beat"]) (PySem.W.mg_of X G a_Q01) l_Q01 c_Q01 k_Q01 fun _ _ _ _ _ _=>len_1 fun _=>rfl
  have d_Q19:=df_mk (st:=s_Q19) (ps:=["numbers"]) (PySem.W.mg_of X G a_Q19) l_Q19 c_Q19 k_Q19 fun _ _ _ _ _ _=>len_1 fun _=>rfl
  have d_Q17:=df_mk (st:=s_Q17) (ps:=["one","other"]) (PySem.W.mg_of X G a_Q17) l_Q17 c_Q17 k_Q17 fun _ _ _ _ _ _=>len_2 fun _ _=>rfl
  have d_Q05:=df_mk (st:=s_Q05) (ps:=["number"]) (PySem.W.mg_of X G a_Q05) l_Q05 c_Q05 k_Q05 fun _ _ _ _ _ _=>len_1 fun _=>rfl
  have d_Q11:=df_mk (st:=s_Q11) (ps:=["number"]) (PySem.W.mg_of X G a_Q11) l_Q11 c_Q11 k_Q11 fun _ _ _ _ _ _=>len_1 fun _=>rfl
  have d_Q0X:=df_mk (st:=s_Q0X) (ps:=["beat","divisor"]) (PySem.W.mg_of X G a_Q0X) l_Q0X c_Q0X k_Q0X fun _ _ _ _ _ _=>len_2 fun _ _=>rfl
  have d_Q10:=df_mk (st:=s_Q10) (ps:=["length","beat"]) (PySem.W.mg_of X G a_Q10) l_Q10 c_Q10 k_Q10 fun _ _ _ _ _ _=>len_2 fun _ _=>rfl
  have d_Q13:=df_mk (st:=s_Q13) (ps:=["number"]) (PySem.W.mg_of X G a_Q13) l_Q13 c_Q13 k_Q13 fun _ _ _ _ _ _=>len_1 fun _=>rfl
  have d_Q07:=df_mk (st:=s_Q07) (ps:=["number"]) (PySem.W.mg_of X G a_Q07) l_Q07 c_Q07 k_Q07 fun _ _ _ _ _ _=>len_1 fun _=>rfl
  have d_Q14:=df_mk (st:=s_Q14) (ps:=["length"]) (PySem.W.mg_of X G a_Q14) l_Q14 c_Q14 k_Q14 fun _ _ _ _ _ _=>len_1 fun _=>rfl
  have d_Q12:=df_mk (st:=s_Q12) (ps:=["length","beat"]) (PySem.W.mg_of X G a_Q12) l_Q12 c_Q12 k_Q12 fun _ _ _ _ _ _=>len_2 fun _ _=>rfl
  have d_Q06:=df_mk (st:=s_Q06) (ps:=["length","beat"]) (PySem.W.mg_of X G a_Q06) l_Q06 c_Q06 k_Q06 fun _ _ _ _ _ _=>len_2 fun _ _=>rfl
  have d_Q18:=df_mk (st:=s_Q18) (ps:=["powers"]) (PySem.W.mg_of X G a_Q18) l_Q18 c_Q18 k_Q18 fun _ _ _ _ _ _=>len_1 fun _=>rfl
  have d_Q16:=df_mk (st:=s_Q16) (ps:=["length","beat"]) (PySem.W.mg_of X G a_Q16) l_Q16 c_Q16 k_Q16 fun _ _ _ _ _ _=>len_2 fun _ _=>rfl
  have d_Q15:=df_mk (st:=s_Q15) (ps:=["length","power"]) (PySem.W.mg_of X G a_Q15) l_Q15 c_Q15 k_Q15 fun _ _ _ _ _ _=>len_2 fun _ _=>rfl
  have d_Q00:=df_mk (st:=s_Q00) (ps:=["numbers","row"]) (PySem.W.mg_of X G a_Q00) l_Q00 c_Q00 k_Q00 fun _ _ _ _ _ _=>len_2 fun _ _=>rfl
  have d_Q0Z:=df_mk (st:=s_Q0Z) (ps:=["length","beat"]) (PySem.W.mg_of X G a_Q0Z) l_Q0Z c_Q0Z k_Q0Z fun _ _ _ _ _ _=>len_2 fun _ _=>rfl
  have d_Q0D:=df_mk (st:=s_Q0D) (ps:=["_law_script","_law_many"]) (PySem.W.mg_of X G a_Q0D) l_Q0D c_Q0D k_Q0D fun _ _ _ _ _ _=>len_2 fun _ _=>rfl
  have d_Q0B:=df_mk (st:=s_Q0B) (ps:=["_law_draws_here","_law_k"]) (PySem.W.mg_of X G a_Q0B) l_Q0B c_Q0B k_Q0B fun _ _ _ _ _ _=>len_2 fun _ _=>rfl
  have d_Q0W:=df_mk (st:=s_Q0W) (ps:=["_law_found"]) (PySem.W.mg_of X G a_Q0W) l_Q0W c_Q0W k_Q0W fun _ _ _ _ _ _=>len_1 fun _=>rfl
  have d_Q0A:=df_mk (st:=s_Q0A) (ps:=["_law_found","_law_due"]) (PySem.W.mg_of X G a_Q0A) l_Q0A c_Q0A k_Q0A fun _ _ _ _ _ _=>len_2 fun _ _=>rfl
  have d_Q0V:=df_mk (st:=s_Q0V) (ps:=["_law_length","_law_beat","_law_by"]) (PySem.W.mg_of X G a_Q0V) l_Q0V c_Q0V k_Q0V fun _ _ _ _ _ _=>len_3 fun _ _ _=>rfl
  have d_Q09:=df_mk (st:=s_Q09) (ps:=["_law_length","_law_beat","_law_times"]) (PySem.W.mg_of X G a_Q09) l_Q09 c_Q09 k_Q09 fun _ _ _ _ _ _=>len_3 fun _ _ _=>rfl
  have d_Q0P:=df_mk (st:=s_Q0P) (ps:=["_law_script","_law_start"]) (PySem.W.mg_of X G a_Q0P) l_Q0P c_Q0P k_Q0P fun _ _ _ _ _ _=>len_2 fun _ _=>rfl
  have d_Q0T:=df_mk (st:=s_Q0T) (ps:=["_law_number"]) (PySem.W.mg_of X G a_Q0T) l_Q0T c_Q0T k_Q0T fun _ _ _ _ _ _=>len_1 fun _=>rfl
  have d_Q0J:=df_mk (st:=s_Q0J) (ps:=["_law_beat","_law_number"]) (PySem.W.mg_of X G a_Q0J) l_Q0J c_Q0J k_Q0J fun _ _ _ _ _ _=>len_2 fun _ _=>rfl
  have d_Q0R:=df_mk (st:=s_Q0R) (ps:=["_law_length"]) (PySem.W.mg_of X G a_Q0R) l_Q0R c_Q0R k_Q0R fun _ _ _ _ _ _=>len_1 fun _=>rfl
  have d_Q0I:=df_mk (st:=s_Q0I) (ps:=["_law_length","_law_beat"]) (PySem.W.mg_of X G a_Q0I) l_Q0I c_Q0I k_Q0I fun _ _ _ _ _ _=>len_2 fun _ _=>rfl
  have d_Q0U:=df_mk (st:=s_Q0U) (ps:=["_law_length","_law_beat"]) (PySem.W.mg_of X G a_Q0U) l_Q0U c_Q0U k_Q0U fun _ _ _ _ _ _=>len_2 fun _ _=>rfl
  have d_Q0E:=df_mk (st:=s_Q0E) (ps:=["_law_script","_law_start","_law_most"]) (PySem.W.mg_of X G a_Q0E) l_Q0E c_Q0E k_Q0E fun _ _ _ _ _ _=>len_3 fun _ _ _=>rfl
  have d_Q0N:=df_mk (st:=s_Q0N) (ps:=["_law_script","_law_start","_law_most"]) (PySem.W.mg_of X G a_Q0N) l_Q0N c_Q0N k_Q0N fun _ _ _ _ _ _=>len_3 fun _ _ _=>rfl
  have d_Q0M:=df_mk (st:=s_Q0M) (ps:=["_law_length","_law_beat"]) (PySem.W.mg_of X G a_Q0M) l_Q0M c_Q0M k_Q0M fun _ _ _ _ _ _=>len_2 fun _ _=>rfl
  have d_Q0H:=df_mk (st:=s_Q0H) (ps:=["_law_length","_law_beat","_law_starts"]) (PySem.W.mg_of X G a_Q0H) l_Q0H c_Q0H k_Q0H fun _ _ _ _ _ _=>len_3 fun _ _ _=>rfl
  have d_Q08:=df_mk (st:=s_Q08) (ps:=["_law_script"]) (PySem.W.mg_of X G a_Q08) l_Q08 c_Q08 k_Q08 fun _ _ _ _ _ _=>len_1 fun _=>rfl
  have xa:XAll K mg (adA C_4 C_3 C_0 C_1 C_2):=xall_mk _ (fm_cons ⟨⟨PySem.W.mg_of X G a_4,a_4,x_4,⟨_,_,_,_,_,_,_,_,_,_,_,_,_,_,_,_,y_4⟩⟩,⟨x_4,⟨_,_,_,_,_,_,_,_,_,_,_,_,_,_,_,_,y_4⟩,g1_4,g2_4,g3_4⟩,v_4⟩ (fm_cons ⟨⟨PySem.W.mg_of X G a_3,a_3,x_3,⟨_,_,_,_,_,_,_,_,_,_,_,_,_,_,_,_,y_3⟩⟩,⟨x_3,⟨_,_,_,_,_,_,_,_,_,_,_,_,_,_,_,_,y_3⟩,g1_3,g2_3,g3_3⟩,v_3⟩ (fm_cons ⟨⟨PySem.W.mg_of X G a_0,a_0,x_0,⟨_,_,_,_,_,_,_,_,_,_,_,_,_,_,_,_,y_0⟩⟩,⟨x_0,⟨_,_,_,_,_,_,_,_,_,_,_,_,_,_,_,_,y_0⟩,g1_0,g2_0,g3_0⟩,v_0⟩ (fm_cons ⟨⟨PySem.W.mg_of X G a_1,a_1,x_1,⟨_,_,_,_,_,_,_,_,_,_,_,_,_,_,_,_,y_1⟩⟩,⟨x_1,⟨_,_,_,_,_,_,_,_,_,_,_,_,_,_,_,_,y_1⟩,g1_1,g2_1,g3_1⟩,v_1⟩ (fm_cons ⟨⟨PySem.W.mg_of X G a_2,a_2,x_2,⟨_,_,_,_,_,_,_,_,_,_,_,_,_,_,_,_,y_2⟩⟩,⟨x_2,⟨_,_,_,_,_,_,_,_,_,_,_,_,_,_,_,_,y_2⟩,g1_2,g2_2,g3_2⟩,v_2⟩ (fm_nil)))))) (fm_cons (fm_cons s_44 (fm_cons s_43 (fm_cons s_40 (fm_cons s_41 (fm_cons s_42 (fm_nil)))))) (fm_cons (fm_cons s_34 (fm_cons s_33 (fm_cons s_30 (fm_cons s_31 (fm_cons s_32 (fm_nil)))))) (fm_cons (fm_cons s_04 (fm_cons s_03 (fm_cons s_00 (fm_cons s_01 (fm_cons s_02 (fm_nil)))))) (fm_cons (fm_cons s_14 (fm_cons s_13 (fm_cons s_10 (fm_cons s_11 (fm_cons s_12 (fm_nil)))))) (fm_cons (fm_cons s_24 (fm_cons s_23 (fm_cons s_20 (fm_cons s_21 (fm_cons s_22 (fm_nil)))))) (fm_nil))))))
  have h_4:(adA C_4 C_3 C_0 C_1 C_2) "WheelError"=some C_4:=rfl
  have h_3:(adA C_4 C_3 C_0 C_1 C_2) "NoWheel"=some C_3:=rfl
  have h_0:(adA C_4 C_3 C_0 C_1 C_2) "NoBeat"=some C_0:=rfl
  have h_1:(adA C_4 C_3 C_0 C_1 C_2) "NoPart"=some C_1:=rfl
  have h_2:(adA C_4 C_3 C_0 C_1 C_2) "NoRule"=some C_2:=rfl
  have hkn:∀ c∈(["WheelError","NoWheel","NoBeat","NoPart","NoRule"]:List String),∃ Ca,(adA C_4 C_3 C_0 C_1 C_2) c=some Ca:=fm_cons ⟨C_4,rfl⟩ (fm_cons ⟨C_3,rfl⟩ (fm_cons ⟨C_0,rfl⟩ (fm_cons ⟨C_1,rfl⟩ (fm_cons ⟨C_2,rfl⟩ (fm_nil)))))
  refine⟨PySem.W.fnOf "law" "law" (defArgs s_Q08) (defBody s_Q08) (defScope s_Q08) .none kV_Q08 dc_Q08 pm_Q08 an_Q08 cd_Q08 ct_Q08,clsOf (adA C_4 C_3 C_0 C_1 C_2),fun s v=>.of_eq rfl,fun base _ _=>?_⟩
  have o_Q04:FnOk l.prog w K mg base (CXe l.prog w) 1 f_Q04 _ ["length"] (spD K (clsOf (adA C_4 C_3 C_0 C_1 C_2)) F_Q04 1):=ok_Q04 d_Q04  xa h_3  (PySem.W.mg_of X G n_LONGEST)
  have o_Q03:FnOk l.prog w K mg base (CXe l.prog w) 1 f_Q03 _ ["numbers","end"] (spD K (clsOf (adA C_4 C_3 C_0 C_1 C_2)) F_Q03 2):=ok_Q03 d_Q03  xa h_0 (PySem.W.mg_none_of X G z_len) 
  have o_Q02:FnOk l.prog w K mg base (CXe l.prog w) 2 f_Q02 _ ["length","beat"] (spD K (clsOf (adA C_4 C_3 C_0 C_1 C_2)) F_Q02 2):=ok_Q02 d_Q02 d_Q04 o_Q04 d_Q03 o_Q03  
  have o_Q0Y:FnOk l.prog w K mg base (CXe l.prog w) 3 f_Q0Y _ ["length","numbers"] (spD K (clsOf (adA C_4 C_3 C_0 C_1 C_2)) F_Q0Y 2):=ok_Q0Y d_Q0Y d_Q04 o_Q04 d_Q02 o_Q02 (PySem.W.mg_none_of X G z_sorted) 
  have o_Q01:FnOk l.prog w K mg base (CXe l.prog w) 1 f_Q01 _ ["beat"] (spD K (clsOf (adA C_4 C_3 C_0 C_1 C_2)) F_Q01 1):=ok_Q01 d_Q01  (PySem.W.mg_none_of X G z_len) 
  have o_Q19:FnOk l.prog w K mg base (CXe l.prog w) 1 f_Q19 _ ["numbers"] (spD K (clsOf (adA C_4 C_3 C_0 C_1 C_2)) F_Q19 1):=ok_Q19 d_Q19  (PySem.W.mg_none_of X G z_len) 
  have o_Q17:FnOk l.prog w K mg base (CXe l.prog w) 2 f_Q17 _ ["one","other"] (spD K (clsOf (adA C_4 C_3 C_0 C_1 C_2)) F_Q17 2):=ok_Q17 d_Q17 d_Q19 o_Q19 xa h_1 (PySem.W.mg_none_of X G z_len) (PySem.W.mg_none_of X G z_list) (PySem.W.mg_none_of X G z_range) (PySem.W.mg_none_of X G z_enumerate) 
  have o_Q05:FnOk l.prog w K mg base (CXe l.prog w) 1 f_Q05 _ ["number"] (spD K (clsOf (adA C_4 C_3 C_0 C_1 C_2)) F_Q05 1):=ok_Q05 d_Q05  xa h_1 (PySem.W.mg_none_of X G z_range) (PySem.W.mg_of X G n_LAST_PART)
  have o_Q11:FnOk l.prog w K mg base (CXe l.prog w) 3 f_Q11 _ ["number"] (spD K (clsOf (adA C_4 C_3 C_0 C_1 C_2)) F_Q11 1):=ok_Q11 d_Q11 d_Q05 o_Q05 d_Q17 o_Q17  
  have o_Q0X:FnOk l.prog w K mg base (CXe l.prog w) 3 f_Q0X _ ["beat","divisor"] (spD K (clsOf (adA C_4 C_3 C_0 C_1 C_2)) F_Q0X 2):=ok_Q0X d_Q0X d_Q17 o_Q17 d_Q01 o_Q01  
  have o_Q10:FnOk l.prog w K mg base (CXe l.prog w) 4 f_Q10 _ ["length","beat"] (spD K (clsOf (adA C_4 C_3 C_0 C_1 C_2)) F_Q10 2):=ok_Q10 d_Q10 d_Q02 o_Q02 d_Q11 o_Q11 d_Q05 o_Q05 d_Q0X o_Q0X  
  have o_Q13:FnOk l.prog w K mg base (CXe l.prog w) 2 f_Q13 _ ["number"] (spD K (clsOf (adA C_4 C_3 C_0 C_1 C_2)) F_Q13 1):=ok_Q13 d_Q13 d_Q05 o_Q05  
  have o_Q07:FnOk l.prog w K mg base (CXe l.prog w) 3 f_Q07 _ ["number"] (spD K (clsOf (adA C_4 C_3 C_0 C_1 C_2)) F_Q07 1):=ok_Q07 d_Q07 d_Q13 o_Q13 d_Q05 o_Q05 (PySem.W.mg_none_of X G z_all) 
  have o_Q14:FnOk l.prog w K mg base (CXe l.prog w) 4 f_Q14 _ ["length"] (spD K (clsOf (adA C_4 C_3 C_0 C_1 C_2)) F_Q14 1):=ok_Q14 d_Q14 d_Q04 o_Q04 d_Q05 o_Q05 d_Q07 o_Q07  
  have o_Q12:FnOk l.prog w K mg base (CXe l.prog w) 5 f_Q12 _ ["length","beat"] (spD K (clsOf (adA C_4 C_3 C_0 C_1 C_2)) F_Q12 2):=ok_Q12 d_Q12 d_Q10 o_Q10 d_Q14 o_Q14  
  have o_Q06:FnOk l.prog w K mg base (CXe l.prog w) 6 f_Q06 _ ["length","beat"] (spD K (clsOf (adA C_4 C_3 C_0 C_1 C_2)) F_Q06 2):=ok_Q06 d_Q06 d_Q12 o_Q12 d_Q13 o_Q13 (PySem.W.mg_none_of X G z_len) 
  have o_Q18:FnOk l.prog w K mg base (CXe l.prog w) 3 f_Q18 _ ["powers"] (spD K (clsOf (adA C_4 C_3 C_0 C_1 C_2)) F_Q18 1):=ok_Q18 d_Q18 d_Q13 o_Q13  
  have o_Q16:FnOk l.prog w K mg base (CXe l.prog w) 6 f_Q16 _ ["length","beat"] (spD K (clsOf (adA C_4 C_3 C_0 C_1 C_2)) F_Q16 2):=ok_Q16 d_Q16 d_Q10 o_Q10 d_Q18 o_Q18 d_Q12 o_Q12 (PySem.W.mg_none_of X G z_all) 
  have o_Q15:FnOk l.prog w K mg base (CXe l.prog w) 3 f_Q15 _ ["length","power"] (spD K (clsOf (adA C_4 C_3 C_0 C_1 C_2)) F_Q15 2):=ok_Q15 d_Q15 d_Q13 o_Q13 (PySem.W.mg_none_of X G z_range) 
  have o_Q00:FnOk l.prog w K mg base (CXe l.prog w) 1 f_Q00 _ ["numbers","row"] (spD K (clsOf (adA C_4 C_3 C_0 C_1 C_2)) F_Q00 2):=ok_Q00 d_Q00   
  have o_Q0Z:FnOk l.prog w K mg base (CXe l.prog w) 7 f_Q0Z _ ["length","beat"] (spD K (clsOf (adA C_4 C_3 C_0 C_1 C_2)) F_Q0Z 2):=ok_Q0Z d_Q0Z d_Q06 o_Q06 d_Q16 o_Q16 d_Q12 o_Q12 d_Q14 o_Q14 d_Q00 o_Q00 d_Q15 o_Q15 d_Q0Y o_Q0Y xa h_2  
  have o_Q0D:FnOk l.prog w K mg base (CXe l.prog w) 1 f_Q0D _ ["_law_script","_law_many"] (spD K (clsOf (adA C_4 C_3 C_0 C_1 C_2)) F_Q0D 2):=ok_Q0D d_Q0D  (PySem.W.mg_none_of X G z_int) (PySem.W.mg_none_of X G z_range) (PySem.W.mg_none_of X G z_len) 
  have o_Q0B:FnOk l.prog w K mg base (CXe l.prog w) 1 f_Q0B _ ["_law_draws_here","_law_k"] (spD K (clsOf (adA C_4 C_3 C_0 C_1 C_2)) F_Q0C 2):=ok_Q0B d_Q0B   
  have o_Q0W:FnOk l.prog w K mg base (CXe l.prog w) 1 f_Q0W _ ["_law_found"] (spD K (clsOf (adA C_4 C_3 C_0 C_1 C_2)) F_Q0W 1):=ok_Q0W d_Q0W  (PySem.W.mg_none_of X G z_isinstance) (PySem.W.mg_none_of X G z_int) (PySem.W.mg_none_of X G z_bool) 
  have o_Q0A:FnOk l.prog w K mg base (CXe l.prog w) 2 f_Q0A _ ["_law_found","_law_due"] (spD K (clsOf (adA C_4 C_3 C_0 C_1 C_2)) F_Q0A 2):=ok_Q0A d_Q0A d_Q0W o_Q0W (PySem.W.mg_none_of X G z_isinstance) (PySem.W.mg_none_of X G z_list) (PySem.W.mg_none_of X G z_len) (PySem.W.mg_none_of X G z_zip) 
  have o_Q0V:FnOk l.prog w K mg base (CXe l.prog w) 1 f_Q0V _ ["_law_length","_law_beat","_law_by"] (spD K (clsOf (adA C_4 C_3 C_0 C_1 C_2)) F_Q0V 3):=ok_Q0V d_Q0V  (PySem.W.mg_none_of X G z_sorted) 
  have o_Q09:FnOk l.prog w K mg base (CXe l.prog w) 1 f_Q09 _ ["_law_length","_law_beat","_law_times"] (spD K (clsOf (adA C_4 C_3 C_0 C_1 C_2)) F_Q09 3):=ok_Q09 d_Q09  (PySem.W.mg_none_of X G z_range) 
  have o_Q0P:FnOk l.prog w K mg base (CXe l.prog w) 2 f_Q0P _ ["_law_script","_law_start"] (spD K (clsOf (adA C_4 C_3 C_0 C_1 C_2)) F_Q0Q 2):=ok_Q0P d_Q0P d_Q0B o_Q0B d_Q09 o_Q09 d_Q0V o_Q0V (PySem.W.mg_none_of X G z_range) (PySem.W.mg_none_of X G z_sorted) 
  have o_Q0T:FnOk l.prog w K mg base (CXe l.prog w) 1 f_Q0T _ ["_law_number"] (spD K (clsOf (adA C_4 C_3 C_0 C_1 C_2)) F_Q0T 1):=ok_Q0T d_Q0T  (PySem.W.mg_none_of X G z_range) 
  have o_Q0J:FnOk l.prog w K mg base (CXe l.prog w) 2 f_Q0J _ ["_law_beat","_law_number"] (spD K (clsOf (adA C_4 C_3 C_0 C_1 C_2)) F_Q0K 2):=ok_Q0J d_Q0J d_Q0T o_Q0T (PySem.W.mg_none_of X G z_range) 
  have o_Q0R:FnOk l.prog w K mg base (CXe l.prog w) 2 f_Q0R _ ["_law_length"] (spD K (clsOf (adA C_4 C_3 C_0 C_1 C_2)) F_Q0S 1):=ok_Q0R d_Q0R d_Q0T o_Q0T (PySem.W.mg_none_of X G z_range) (PySem.W.mg_none_of X G z_len) 
  have o_Q0I:FnOk l.prog w K mg base (CXe l.prog w) 3 f_Q0I _ ["_law_length","_law_beat"] (spD K (clsOf (adA C_4 C_3 C_0 C_1 C_2)) F_Q0I 2):=ok_Q0I d_Q0I d_Q0R o_Q0R d_Q0J o_Q0J d_Q0T o_Q0T (PySem.W.mg_none_of X G z_len) 
  have o_Q0U:FnOk l.prog w K mg base (CXe l.prog w) 3 f_Q0U _ ["_law_length","_law_beat"] (spD K (clsOf (adA C_4 C_3 C_0 C_1 C_2)) F_Q0U 2):=ok_Q0U d_Q0U d_Q0R o_Q0R d_Q0J o_Q0J d_Q0T o_Q0T (PySem.W.mg_none_of X G z_range) (PySem.W.mg_none_of X G z_len) 
  have o_Q0E:FnOk l.prog w K mg base (CXe l.prog w) 2 f_Q0E _ ["_law_script","_law_start","_law_most"] (spD K (clsOf (adA C_4 C_3 C_0 C_1 C_2)) F_Q0F 3):=ok_Q0E d_Q0E d_Q0B o_Q0B (PySem.W.mg_none_of X G z_max) (PySem.W.mg_none_of X G z_range) (PySem.W.mg_none_of X G z_min) 
  have o_Q0N:FnOk l.prog w K mg base (CXe l.prog w) 3 f_Q0N _ ["_law_script","_law_start","_law_most"] (spD K (clsOf (adA C_4 C_3 C_0 C_1 C_2)) F_Q0O 3):=ok_Q0N d_Q0N d_Q0E o_Q0E d_Q0B o_Q0B (PySem.W.mg_none_of X G z_range) (PySem.W.mg_none_of X G z_sorted) 
  have o_Q0M:FnOk l.prog w K mg base (CXe l.prog w) 3 f_Q0M _ ["_law_length","_law_beat"] (spD K (clsOf (adA C_4 C_3 C_0 C_1 C_2)) F_Q0M 2):=ok_Q0M d_Q0M d_Q0R o_Q0R d_Q0J o_Q0J d_Q0T o_Q0T (PySem.W.mg_none_of X G z_range) (PySem.W.mg_none_of X G z_sorted) 
  have o_Q0H:FnOk l.prog w K mg base (CXe l.prog w) 1 f_Q0H _ ["_law_length","_law_beat","_law_starts"] (spD K (clsOf (adA C_4 C_3 C_0 C_1 C_2)) F_Q0H 3):=ok_Q0H d_Q0H   
  exact ok_Q08 d_Q08 d_Q0D o_Q0D d_Q0N o_Q0N d_Q0P o_Q0P d_Q0I o_Q0I d_Q0U o_Q0U d_Q0Z o_Q0Z d_Q0M o_Q0M d_Q0A o_Q0A d_Q0H o_Q0H (PySem.W.mg_none_of X G z_list) 
end Lk32
namespace Bt
open Dv (ins isort)
theorem ins_perm (i:Int):∀ l:List Int,(ins i l).Perm (i::l)
 | []=>.refl _
 | j::r=>by
  unfold ins
  split
  ·exact .refl _
  ·exact((ins_perm i r).cons j).trans (.swap _ _ _)
theorem isort_perm:∀ l:List Int,(isort l).Perm l
 | []=>.refl _
 | i::r=>(ins_perm i _).trans ((isort_perm r).cons i)
theorem ins_sorted (i:Int):∀ l:List Int,l.Pairwise (·<=·)->(ins i l).Pairwise (·<=·)
 | [],_=>by unfold ins; simp
 | j::r,h=>by
  unfold ins
  obtain⟨h1,h2⟩:=List.pairwise_cons.mp h
  split
  ·rename_i hij
   refine List.pairwise_cons.mpr ⟨fun a ha=>?_,h⟩
   rcases List.mem_cons.mp ha with rfl|ha
   ·exact hij
   ·have:=h1 a ha; omega
  ·rename_i hij
   refine List.pairwise_cons.mpr ⟨fun a ha=>?_,ins_sorted i r h2⟩
   rcases List.mem_cons.mp ((ins_perm i r).mem_iff.mp ha) with rfl|ha
   ·omega
   ·exact h1 a ha
theorem isort_sorted:∀ l:List Int,(isort l).Pairwise (·<=·)
 | []=>.nil
 | i::r=>ins_sorted i _ (isort_sorted r)
theorem sorted_uniq:∀ {a b:List Int},a.Perm b->a.Pairwise (·<=·)->b.Pairwise (·<=·)->a=b
 | [],b,p,_,_=>(List.Perm.nil_eq p)
 | x::a,[],p,_,_=>(nomatch p.length_eq)
 | x::a,y::b,p,ha,hb=>by
  obtain⟨a1,a2⟩:=List.pairwise_cons.mp ha
  obtain⟨b1,b2⟩:=List.pairwise_cons.mp hb
  have hx:x∈y::b:=p.mem_iff.mp (List.mem_cons_self ..)
  have hy:y∈x::a:=p.mem_iff.mpr (List.mem_cons_self ..)
  have e:x=y:=by
   rcases List.mem_cons.mp hx with e|hx
   ·exact e
   ·rcases List.mem_cons.mp hy with e|hy
    ·exact e.symm
    ·have:=a1 y hy; have:=b1 x hx; omega
  subst e
  rw[sorted_uniq (List.Perm.cons_inv p) a2 b2]
theorem isort_len (l:List Int):(isort l).length=l.length:=(isort_perm l).length_eq
structure Beat (n:Int)(xs:List Int):Prop where
 ne:xs≠[]
 up:xs.Pairwise (·<·)
 rg:∀ x∈xs,0<=x/\x<n
theorem Beat.nd {n:Int}{xs:List Int}(h:Beat n xs):xs.Nodup:=h.up.imp fun {a b} h e=>by omega
theorem up_len:∀ {xs:List Int} {lo hi:Int},xs.Pairwise (·<·)->(∀ x∈xs,lo<=x/\x<hi)->(xs.length:Int)<=max 0 (hi-lo)
 | [],lo,hi,_,_=>by simp; omega
 | x::r,lo,hi,h,g=>by
  obtain⟨h1,h2⟩:=List.pairwise_cons.mp h
  have gx:=g x (List.mem_cons_self ..)
  have:=up_len (lo:=x+1) (hi:=hi) h2 fun y hy=>⟨h1 y hy,(g y (List.mem_cons_of_mem _ hy)).2⟩
  rw[List.length_cons]
  omega
theorem Beat.len {n:Int}{xs:List Int}(h:Beat n xs):(xs.length:Int)<=n:=by
 have:=up_len h.up h.rg
 obtain⟨x,hx⟩:=List.exists_mem_of_ne_nil xs h.ne
 have:=h.rg x hx
 omega
theorem Beat.pos {n:Int}{xs:List Int}(h:Beat n xs):1<=n:=by
 obtain⟨x,hx⟩:=List.exists_mem_of_ne_nil xs h.ne
 have:=h.rg x hx
 omega
theorem up_of {l:List Int}(h1:l.Pairwise (·<=·))(h2:l.Nodup):l.Pairwise (·<·):=by
 induction l with
 | nil=>exact .nil
 | cons a r ih =>
  obtain⟨a1,a2⟩:=List.pairwise_cons.mp h1
  obtain⟨b1,b2⟩:=List.nodup_cons.mp h2
  refine List.pairwise_cons.mpr ⟨fun x hx=>?_,ih a2 b2⟩
  have:=a1 x hx
  have:a≠x:=fun e=>b1 (e▸hx)
  omega
theorem sort_beat {n:Int}{xs:List Int}(ne:xs≠[])(nd:xs.Nodup)(rg:∀ x∈xs,0<=x/\x<n):Beat n (isort xs) where
 ne:=fun e=>ne (by have:=isort_len xs; rw[e] at this; exact List.eq_nil_of_length_eq_zero this.symm)
 up:=up_of (isort_sorted xs) ((isort_perm xs).nodup_iff.mpr nd)
 rg:=fun x hx=>rg x ((isort_perm xs).mem_iff.mp hx)
theorem nodup_map {f:Int->Int}:∀ {xs:List Int},xs.Nodup->(∀ x∈xs,∀ y∈xs,f x=f y->x=y)->(xs.map f).Nodup
 | [],_,_=>by simp
 | x::r,h,g=>by
  obtain⟨h1,h2⟩:=List.nodup_cons.mp h
  refine List.nodup_cons.mpr ⟨fun m=>?_,nodup_map h2 fun a ha b hb=>g a (List.mem_cons_of_mem _ ha) b (List.mem_cons_of_mem _ hb)⟩
  obtain⟨y,hy,e⟩:=List.mem_map.mp m
  exact h1 (g y (List.mem_cons_of_mem _ hy) x (List.mem_cons_self ..) e▸hy)
theorem small_mul {n k d:Int}(hn:0<n)(e:d=n*k)(h1:-n<d)(h2:d<n):d=0:=by
 rcases Int.lt_trichotomy k 0 with h|h|h
 ·have:n*k<=n*(-1):=Int.mul_le_mul_of_nonneg_left (by omega) (by omega)
  omega
 ·subst h; omega
 ·have:n*1<=n*k:=Int.mul_le_mul_of_nonneg_left (by omega) (by omega)
  omega
theorem mod_eq_iff {n a b:Int}:a%n=b%n ↔ ∃ k,a-b=n*k:=by
 constructor
 ·intro h
  have:=Int.emod_emod_of_dvd a (Int.dvd_refl n)
  have h1:(a-b)%n=0:=(Int.emod_eq_emod_iff_emod_sub_eq_zero).mp h
  exact Int.dvd_of_emod_eq_zero h1
 ·rintro ⟨k,h⟩
  exact(Int.emod_eq_emod_iff_emod_sub_eq_zero).mpr (Int.emod_eq_zero_of_dvd ⟨k,h⟩)
theorem mod_inj {n x y b:Int}(hn:0<n)(hx:0<=x/\x<n)(hy:0<=y/\y<n)(h:(x+b)%n=(y+b)%n):x=y:=by
 obtain⟨k,e⟩:=mod_eq_iff.mp h
 have:=small_mul (d:=x-y) (k:=k) hn (by omega) (by omega) (by omega)
 omega
theorem mod_rg {n a:Int}(hn:0<n):0<=a%n/\a%n<n:=⟨Int.emod_nonneg _ (by omega),Int.emod_lt_of_pos _ hn⟩
theorem turn_beat {n b:Int}{xs:List Int}(h:Beat n xs):Beat n (isort (xs.map fun x=>(x+b)%n)):=by
 have hp:=h.pos
 refine sort_beat (by simpa using h.ne) (nodup_map h.nd fun x hx y hy e=>mod_inj (by omega) (h.rg x hx) (h.rg y hy) e) fun x hx=>?_
 obtain⟨y,_,rfl⟩:=List.mem_map.mp hx
 exact mod_rg (by omega)
noncomputable def again (n:Int)(xs:List Int):Nat->List Int
 | 0=>[]
 | t+1=>again n xs t++xs.map (·+t*n)
theorem again_rg {n:Int}{xs:List Int}(h:∀ x∈xs,0<=x/\x<n)(hn:0<=n):∀ (t:Nat),∀ x∈again n xs t,0<=x/\x<n*t
 | 0,x,hx=>by simp[again] at hx
 | t+1,x,hx=>by
  have e:n*((t+1:Nat):Int)=n*t+n:=by rw[Int.natCast_succ,Int.mul_add,Int.mul_one]
  unfold again at hx
  rcases List.mem_append.mp hx with hx|hx
  ·have:=again_rg h hn t x hx; omega
  ·obtain⟨y,hy,rfl⟩:=List.mem_map.mp hx
   have:=h y hy
   have e2:(t:Int)*n=n*t:=Int.mul_comm _ _
   have:0<=n*(t:Int):=Int.mul_nonneg hn (by omega)
   simp only[e2]; omega
theorem again_up {n:Int}{xs:List Int}(h:xs.Pairwise (·<·))(g:∀ x∈xs,0<=x/\x<n)(hn:0<=n):∀ (t:Nat),(again n xs t).Pairwise (·<·)
 | 0=>.nil
 | t+1=>by
  unfold again
  refine List.pairwise_append.mpr ⟨again_up h g hn t,?_,fun a ha b hb=>?_⟩
  ·exact List.pairwise_map.mpr (h.imp fun {a b} h=>by omega)
  ·have:=again_rg g hn t a ha
   obtain⟨y,hy,rfl⟩:=List.mem_map.mp hb
   have:=g y hy
   have e2:(t:Int)*n=n*t:=Int.mul_comm _ _
   simp only[e2]; omega
theorem again_beat {n:Int}{xs:List Int}(h:Beat n xs){t:Nat}(ht:1<=t):Beat (n*t) (again n xs t) where
 ne:=by
  cases t with
  | zero=>omega
  | succ t=>unfold again; have:=h.ne; simp[this]
 up:=again_up h.up h.rg (by have:=h.pos; omega) t
 rg:=again_rg h.rg (by have:=h.pos; omega) t
theorem spread_beat {n t:Int}{xs:List Int}(h:Beat n xs)(ht:1<=t):Beat (n*t) (xs.map (·*t)) where
 ne:=by simpa using h.ne
 up:=List.pairwise_map.mpr (h.up.imp fun {a b} h=>Int.mul_lt_mul_of_pos_right h (by omega))
 rg:=fun x hx=>by
  obtain⟨y,hy,rfl⟩:=List.mem_map.mp hx
  have:=h.rg y hy
  exact⟨Int.mul_nonneg this.1 (by omega),Int.mul_lt_mul_of_pos_right this.2 (by omega)⟩
noncomputable def mix (xs:List Int)(t:Int):Nat->List Int
 | 0=>[]
 | j+1=>mix xs t j++xs.map (·*t+j)
theorem mix_mem {xs:List Int}{t:Int}:∀ {j:Nat} {x:Int},x∈mix xs t j ↔ ∃ y∈xs,∃ i:Nat,i<j/\x=y*t+i
 | 0,x=>by simp[mix]
 | j+1,x=>by
  unfold mix
  rw[List.mem_append,mix_mem,List.mem_map]
  constructor
  ·rintro (⟨y,hy,i,hi,rfl⟩|⟨y,hy,rfl⟩)
   ·exact⟨y,hy,i,by omega,rfl⟩
   ·exact⟨y,hy,j,by omega,rfl⟩
  ·rintro ⟨y,hy,i,hi,rfl⟩
   by_cases e:i=j
   ·subst e; exact .inr ⟨y,hy,rfl⟩
   ·exact .inl ⟨y,hy,i,by omega,rfl⟩
theorem digits {t y z i j:Int}(ht:0<t)(hi:0<=i/\i<t)(hj:0<=j/\j<t)(e:y*t+i=z*t+j):y=z/\i=j:=by
 have h1:i-j=t*(z-y):=by rw[Int.mul_sub,Int.mul_comm t z,Int.mul_comm t y]; omega
 have h2:=small_mul ht h1 (by omega) (by omega)
 have h3:y*t=z*t:=by omega
 exact⟨Int.eq_of_mul_eq_mul_right (by omega) h3,by omega⟩
theorem mix_nd {xs:List Int}{t:Int}(h:xs.Nodup)(ht:0<t):∀ {j:Nat},(j:Int)<=t->(mix xs t j).Nodup
 | 0,_=>by simp[mix]
 | j+1,hj=>by
  unfold mix
  refine List.nodup_append.mpr ⟨mix_nd h ht (by omega),nodup_map h fun x _ y _ e=>(digits ht (i:=j) (j:=j) (by omega) (by omega) e).1,fun a ha b hb e=>?_⟩
  subst e
  obtain⟨y,hy,i,hi,rfl⟩:=mix_mem.mp ha
  obtain⟨z,hz,e⟩:=List.mem_map.mp hb
  have:=(digits ht (i:=j) (j:=i) (by omega) (by omega) e).2
  omega
theorem mix_beat {n:Int}{xs:List Int}(h:Beat n xs){t:Nat}(ht:1<=t):Beat (n*t) (isort (mix xs t t)):=by
 refine sort_beat ?_ (mix_nd h.nd (by omega) (by omega)) fun x hx=>?_
 ·obtain⟨x,hx⟩:=List.exists_mem_of_ne_nil xs h.ne
  exact List.ne_nil_of_mem (mix_mem.mpr ⟨x,hx,0,by omega,rfl⟩)
 ·obtain⟨y,hy,i,hi,rfl⟩:=mix_mem.mp hx
  have h1:=h.rg y hy
  have h2:0<=y*(t:Int):=Int.mul_nonneg h1.1 (by omega)
  have h3:(y+1)*(t:Int)<=n*t:=Int.mul_le_mul_of_nonneg_right (by omega) (by omega)
  rw[Int.add_mul,Int.one_mul] at h3
  omega
theorem mix_len {xs:List Int}{t:Int}:∀ {j:Nat},(mix xs t j).length=j*xs.length
 | 0=>by simp[mix]
 | j+1=>by unfold mix; rw[List.length_append,mix_len,List.length_map,Nat.succ_mul]
theorem again_len {xs:List Int}{t:Int}:∀ {j:Nat},(again t xs j).length=j*xs.length
 | 0=>by simp[again]
 | j+1=>by unfold again; rw[List.length_append,again_len,List.length_map,Nat.succ_mul]
noncomputable def hits (n:Int)(beat starts:List Int):List Int:=starts.flatMap fun s=>beat.map fun b=>(b+s)%n
noncomputable def bump (c:List Int)(p:Int):List Int:=c.set p.toNat (c.getD p.toNat 0+1)
noncomputable def tally (n:Nat)(ps:List Int):List Int:=ps.foldl bump (List.replicate n 0)
theorem bump_len (c:List Int)(p:Int):(bump c p).length=c.length:=by unfold bump; rw[List.length_set]
theorem foldl_bump_len:∀ (ps:List Int) (c:List Int),(ps.foldl bump c).length=c.length
 | [],c=>rfl
 | p::r,c=>by rw[List.foldl_cons,foldl_bump_len,bump_len]
theorem tally_len (n:Nat)(ps:List Int):(tally n ps).length=n:=by unfold tally; rw[foldl_bump_len,List.length_replicate]
theorem foldl_bump_get:∀ (ps:List Int) (c:List Int) (i:Nat),i<c.length->(∀ p∈ps,0<=p)->(ps.foldl bump c)[i]?.getD 0=c[i]?.getD 0+(ps.count (i:Int):Nat)
 | [],c,i,_,_=>by simp
 | p::r,c,i,h,g=>by
  rw[List.foldl_cons,foldl_bump_get r (bump c p) i (by rw[bump_len]; exact h) fun q hq=>g q (List.mem_cons_of_mem _ hq)]
  have gp:=g p (List.mem_cons_self ..)
  unfold bump
  rw[List.getElem?_set]
  by_cases e:p.toNat=i
  ·have e2:p=(i:Int):=by omega
   subst e2
   simp[h,List.getD_eq_getElem?_getD]
   omega
  ·have e2:¬ p=(i:Int):=by omega
   have e3:¬ (i:Int)=p:=by omega
   simp[e,e2,List.count_cons]
theorem tally_eq (n:Nat){ps:List Int}(g:∀ p∈ps,0<=p):tally n ps=(List.range n).map fun (i:Nat)=>((ps.count (i:Int):Nat):Int):=by
 apply List.ext_getElem?
 intro i
 by_cases h:i<n
 ·have h1:=foldl_bump_get ps (List.replicate n 0) i (by simpa using h) g
  have hl:i<(tally n ps).length:=by rw[tally_len]; exact h
  have h2:(tally n ps)[i]?=some ((tally n ps)[i]?.getD 0):=by rw[List.getElem?_eq_getElem hl]; rfl
  rw[h2]
  show some ((ps.foldl bump (List.replicate n 0))[i]?.getD 0)=_
  rw[h1]
  simp[h]
 ·rw[List.getElem?_eq_none (by rw[tally_len]; omega),List.getElem?_eq_none (by simp; omega)]
theorem hits_rg {n:Int}(hn:0<n){beat starts:List Int}:∀ p∈hits n beat starts,0<=p/\p<n:=fun p hp=>by
 unfold hits at hp
 obtain⟨s,_,h⟩:=List.mem_flatMap.mp hp
 obtain⟨b,_,rfl⟩:=List.mem_map.mp h
 exact mod_rg hn
noncomputable def due (n:Int)(beat starts:List Int):List Int:=(List.range n.toNat).map fun (p:Nat)=>((starts.filter fun s=>decide (((p:Int)-s)%n∈beat)).length:Int)
end Bt
namespace Cw
open Dv (Out R RL cmD compGo eAnd eB1 eBl eCall eCm eComp eInt eLst eNeg eNot eOp eOr eVar forGo iRange iSeq iZip keepD lCons lNil opD rngOk sCons sExpr sFor sForT sIf sNil sRet sRetO sSet sSetG)
open Dv (D R RL EE EL EI RI Sl Out SS St)
open Bt
noncomputable abbrev L (xs:List Int):D:=.lst (xs.map .int)
theorem ints_L:∀ xs:List Int,Dv.intsOf (xs.map .int)=some xs
 | []=>rfl
 | x::r=>by simp[Dv.intsOf,ints_L r]
theorem flat_L:∀ xs:List Int,Dv.flatL (xs.map .int)=true
 | []=>rfl
 | x::r=>by simp[Dv.flatL,Dv.scal,flat_L r]
theorem in_L (i:Int):∀ xs:List Int,Dv.inD i (xs.map .int)=some (decide (i∈xs))
 | []=>by simp[Dv.inD]
 | x::r=>by
  rw[List.map_cons]
  unfold Dv.inD
  rw[in_L i r]
  by_cases h:x=i
  ·subst h; simp
  ·have h2:¬ i=x:=fun e=>h e.symm
   simp[h,h2]
theorem eq_LL:∀ a b:List Int,Dv.eqDL (a.map .int) (b.map .int)=some (decide (a=b))
 | [],[]=>rfl
 | [],_::_=>rfl
 | _::_,[]=>rfl
 | x::a,y::b=>by
  show (match (some (decide (x=y)):Option Bool),Dv.eqDL (a.map .int) (b.map .int) with|some p,some q=>some (p&&q)|_,_=>none)=_
  rw[eq_LL a b]
  show some (decide (x=y)&&decide (a=b))=_
  by_cases h:x=y <;>by_cases h2:a=b <;>simp[h,h2]
theorem eq_L (a b:List Int):Dv.eqD (L a) (L b)=some (decide (a=b)):=eq_LL a b
theorem eq_int (a b:Int):Dv.eqD (.int a) (.int b)=some (decide (a=b)):=rfl
theorem dep_L:∀ xs:List Int,Dv.depthL (xs.map .int)=0
 | []=>by simp[Dv.depthL]
 | x::r=>by rw[List.map_cons]; unfold Dv.depthL; rw[dep_L r]; simp[Dv.depthD]
theorem dep_LL (xs:List Int):Dv.depthD (L xs)=1:=by unfold Dv.depthD; rw[dep_L]
theorem dep_int (i:Int):Dv.depthD (.int i)=0:=by unfold Dv.depthD; rfl
theorem at_L {s:List Int}{k:Int}(h:0<=k)(h2:k<s.length):Dv.at? (s.map .int) k=some (.int (s.getD k.toNat 0)):=by
 unfold Dv.at?
 rw[if_pos h]
 have:k.toNat<s.length:=by omega
 simp[List.getElem?_map,List.getD_eq_getElem?_getD,List.getElem?_eq_getElem this]
theorem cm_eqL (a b:List Int):cmD .eq (L a) (L b)=.ok (.bl (decide (a=b))) true:=by
 simp only[Dv.cmD_eq,Dv.cmD_ne,Dv.cmD_lt,Dv.cmD_le,Dv.cmD_gt,Dv.cmD_ge,Dv.cmD_in,Dv.cmD_ni,Dv.cmD_it,Dv.cmD_nt,dep_LL,dep_LL,eq_L,Dv.optB,Option.map_some]; rfl
theorem cm_neL (a b:List Int):cmD .ne (L a) (L b)=.ok (.bl (!decide (a=b))) true:=by
 simp only[Dv.cmD_eq,Dv.cmD_ne,Dv.cmD_lt,Dv.cmD_le,Dv.cmD_gt,Dv.cmD_ge,Dv.cmD_in,Dv.cmD_ni,Dv.cmD_it,Dv.cmD_nt,dep_LL,dep_LL,eq_L,Dv.optB,Option.map_some]; rfl
theorem cm_eqI (a b:Int):cmD .eq (.int a) (.int b)=.ok (.bl (decide (a=b))) true:=by
 simp only[Dv.cmD_eq,Dv.cmD_ne,Dv.cmD_lt,Dv.cmD_le,Dv.cmD_gt,Dv.cmD_ge,Dv.cmD_in,Dv.cmD_ni,Dv.cmD_it,Dv.cmD_nt,dep_int,dep_int,eq_int,Dv.optB,Option.map_some]; rfl
theorem cm_neI (a b:Int):cmD .ne (.int a) (.int b)=.ok (.bl (!decide (a=b))) true:=by
 simp only[Dv.cmD_eq,Dv.cmD_ne,Dv.cmD_lt,Dv.cmD_le,Dv.cmD_gt,Dv.cmD_ge,Dv.cmD_in,Dv.cmD_ni,Dv.cmD_it,Dv.cmD_nt,dep_int,dep_int,eq_int,Dv.optB,Option.map_some]; rfl
theorem cm_eqN (a:List Int):cmD .eq (L a) (.lst [])=.ok (.bl (decide (a=[]))) true:=cm_eqL a []
theorem cm_in (i:Int)(b:List Int):cmD .isin (.int i) (L b)=.ok (.bl (decide (i∈b))) true:=by
 simp only[Dv.cmD_eq,Dv.cmD_ne,Dv.cmD_lt,Dv.cmD_le,Dv.cmD_gt,Dv.cmD_ge,Dv.cmD_in,Dv.cmD_ni,Dv.cmD_it,Dv.cmD_nt,in_L,Dv.optB,Option.map_some]
theorem cm_notin (i:Int)(b:List Int):cmD .notin (.int i) (L b)=.ok (.bl (!decide (i∈b))) true:=by
 simp only[Dv.cmD_eq,Dv.cmD_ne,Dv.cmD_lt,Dv.cmD_le,Dv.cmD_gt,Dv.cmD_ge,Dv.cmD_in,Dv.cmD_ni,Dv.cmD_it,Dv.cmD_nt,in_L,Dv.optB,Option.map_some]
theorem cm_lt (a b:Int):cmD .lt (.int a) (.int b)=.ok (.bl (decide (a<b))) true:=rfl
theorem cm_le (a b:Int):cmD .le (.int a) (.int b)=.ok (.bl (decide (a<=b))) true:=rfl
theorem cm_gt (a b:Int):cmD .gt (.int a) (.int b)=.ok (.bl (decide (b<a))) true:=rfl
theorem cm_ge (a b:Int):cmD .ge (.int a) (.int b)=.ok (.bl (decide (b<=a))) true:=rfl
theorem mulOk_l {i j:Int}(h:-(2 ^ 64)<i)(h2:i<2 ^ 64):Dv.mulOk i j=true:=by
 have:Dv.bits i<=64:=by
  unfold Dv.bits
  split
  ·omega
  ·have h3:i.natAbs<2 ^ 64:=by omega
   have:=(Nat.log2_lt (by omega)).mpr h3
   omega
 simp[Dv.mulOk,this]
theorem mulOk_r {i j:Int}(h:-(2 ^ 64)<j)(h2:j<2 ^ 64):Dv.mulOk i j=true:=by
 have:Dv.bits j<=64:=by
  unfold Dv.bits
  split
  ·omega
  ·have h3:j.natAbs<2 ^ 64:=by omega
   have:=(Nat.log2_lt (by omega)).mpr h3
   omega
 simp[Dv.mulOk,this]
theorem bits_lt {i:Int}{k:Nat}(hk:0<k)(h:-(2 ^ k)<i)(h2:i<2 ^ k):Dv.bits i<=k:=by
 unfold Dv.bits
 split
 ·omega
 ·have h3:i.natAbs<2 ^ k:=by
   have e:((2 ^ k:Nat):Int)=2 ^ k:=by norm_cast
   omega
  have:=(Nat.log2_lt (by omega)).mpr h3
  omega
theorem mul_ok {i j:Int}(h:Dv.mulOk i j=true):opD .mul (.int i) (.int j)=.ok (.int (i*j)) true:=by
 simp[Dv.opD_ai,Dv.opD_al,Dv.opD_su,Dv.opD_mi,Dv.opD_ml,Dv.opD_mo,Dv.opD_fd,Dv.opD_po,Dv.opD_ba,Dv.opD_sh,h]
theorem mod_ok {i j:Int}(h:0<j):opD .mod (.int i) (.int j)=.ok (.int (i%j)) true:=by
 simp[Dv.opD_ai,Dv.opD_al,Dv.opD_su,Dv.opD_mi,Dv.opD_ml,Dv.opD_mo,Dv.opD_fd,Dv.opD_po,Dv.opD_ba,Dv.opD_sh,h]
theorem divOk_of {j:Int}(h:0<j)(h2:j<2 ^ 200):Dv.divOk j=true:=by
 have h3:j.natAbs<2 ^ 200:=by omega
 have:=(Nat.log2_lt (by omega)).mpr h3
 simp only[Dv.divOk,Bool.and_eq_true,decide_eq_true_eq]
 omega
theorem fdiv_ok {i j:Int}(h:0<j)(h2:j<2 ^ 200):opD .fdiv (.int i) (.int j)=.ok (.int (i/j)) true:=by
 simp[Dv.opD_ai,Dv.opD_al,Dv.opD_su,Dv.opD_mi,Dv.opD_ml,Dv.opD_mo,Dv.opD_fd,Dv.opD_po,Dv.opD_ba,Dv.opD_sh,divOk_of h h2]
theorem add_ok (i j:Int):opD .add (.int i) (.int j)=.ok (.int (i+j)) true:=rfl
theorem sub_ok (i j:Int):opD .sub (.int i) (.int j)=.ok (.int (i-j)) true:=rfl
theorem cat_ok {a b:List Int}(h:a.length+b.length<=100000):opD .add (L a) (L b)=.ok (L (a++b)) true:=by
 simp[Dv.opD_ai,Dv.opD_al,Dv.opD_su,Dv.opD_mi,Dv.opD_ml,Dv.opD_mo,Dv.opD_fd,Dv.opD_po,Dv.opD_ba,Dv.opD_sh,Dv.mx,h,flat_L]
theorem rep_okZ {x n:Int}(h:-100000<=n)(h2:n<=100000):opD .mul (.lst [.int x]) (.int n)=.ok (L (List.replicate n.toNat x)) true:=by
 have h3:n.toNat<=100000:=by omega
 have e:(List.replicate n.toNat [D.int x]).flatten=(List.replicate n.toNat x).map D.int:=by
  generalize n.toNat=k
  induction k with
  | zero=>rfl
  | succ k ih=>rw[List.replicate_succ,List.flatten_cons,ih,List.replicate_succ,List.map_cons]; rfl
 simp[Dv.opD_ai,Dv.opD_al,Dv.opD_su,Dv.opD_mi,Dv.opD_ml,Dv.opD_mo,Dv.opD_fd,Dv.opD_po,Dv.opD_ba,Dv.opD_sh,Dv.mx,h,h2,h3,e,Dv.flatL,Dv.scal,L]
theorem rep_ok {x n:Int}(h:0<=n)(h2:n<=100000):opD .mul (.lst [.int x]) (.int n)=.ok (L (List.replicate n.toNat x)) true:=rep_okZ (by omega) h2
theorem sort_ok {xs:List Int}(h:xs.length<64)(f:Bool):Dv.sortedD (L xs) f=.ok (L (Dv.isort xs)) true:=by
 unfold Dv.sortedD; simp only[ints_L]; rw[if_pos h]
theorem get_no:Sl.get .no=none:=rfl
theorem get_dp (d:D):Sl.get (.dp d)=some d:=rfl
theorem shared_dp (d:D):Sl.shared (.dp d)=none:=rfl
theorem get_sh (d:D):Sl.get (.sh d)=some d:=rfl
theorem get_ow (d:D):Sl.get (.ow d)=some d:=rfl
theorem give_sh (d:D):Sl.give (.sh d)=.sh d:=rfl
theorem give_ow (d:D):Sl.give (.ow d)=.sh d:=rfl
theorem shared_no:Sl.shared .no=none:=rfl
theorem shared_sh (d:D):Sl.shared (.sh d)=some d:=rfl
theorem shared_ow (d:D):Sl.shared (.ow d)=none:=rfl
theorem scal_int (i:Int):Dv.scal (.int i)=true:=rfl
theorem scal_lst (i:List D):Dv.scal (.lst i)=false:=rfl
theorem scal_tup (i:List D):Dv.scal (.tup i)=false:=rfl
theorem keep_int (i:Int)(f:Bool):keepD (.int i) f=some (.sh (.int i)):=rfl
theorem keep_nil:keepD (.lst []) true=some (.ow (.lst [])):=rfl
theorem keep_one (i:Int):keepD (.lst [.int i]) true=some (.ow (.lst [.int i])):=rfl
theorem keep_L (xs:List Int):keepD (L xs) true=some (.ow (L xs)):=by simp[keepD,flat_L]
theorem comp_L {elt cond:EE}{free:Dv.Env}{c:Int->Bool}{g:Int->Int}:∀ {xs:List Int},(∀ x∈xs,cond (some (.int x)::free)=.ok (.bl (c x)) true)->(∀ x∈xs,c x=true->elt (some (.int x)::free)=.ok (.int (g x)) true) ->
  compGo elt cond free (xs.map .int)=.ok (((xs.filter c).map g).map .int) true
 | [],_,_=>rfl
 | x::r,h,k=>by
  rw[List.map_cons]
  unfold compGo
  rw[h x (List.mem_cons_self ..),comp_L (c:=c) (g:=g) (fun y hy=>h y (List.mem_cons_of_mem _ hy)) fun y hy=>k y (List.mem_cons_of_mem _ hy)]
  cases e:c x with
  | true=>rw[k x (List.mem_cons_self ..) e]; simp[e]
  | false=>simp[e]
theorem comp_all {elt:EE}{free:Dv.Env}{g:Int->Int}{xs:List Int}(k:∀ x∈xs,elt (some (.int x)::free)=.ok (.int (g x)) true) :
  compGo elt (eBl true) free (xs.map .int)=.ok ((xs.map g).map .int) true:=by
 rw[comp_L (c:=fun _=>true) (g:=g) (fun _ _=>rfl) fun x hx _=>k x hx,List.filter_eq_self.mpr (fun _ _=>rfl)]
theorem eComp_all {elt:EE}{is:List Nat}{it:EI}{ρ:Dv.Env}{g:Int->Int}{xs:List Int}{f:Bool}(hi:it ρ=.ok (xs.map .int) f)(hl:xs.length<=100000)(k:∀ x∈xs,elt (some (.int x)::Dv.pick ρ is)=.ok (.int (g x)) true) :
  eComp elt (eBl true) is it ρ=.ok (L (xs.map g)) true:=by
 unfold eComp; rw[hi]; simp only[List.length_map,Dv.mx,hl,if_true,comp_all k]
theorem eComp_if {elt cond:EE}{is:List Nat}{it:EI}{ρ:Dv.Env}{c:Int->Bool}{g:Int->Int}{xs:List Int}{f:Bool}(hi:it ρ=.ok (xs.map .int) f)(hl:xs.length<=100000)(h:∀ x∈xs,cond (some (.int x)::Dv.pick ρ is)=.ok (.bl (c x)) true)
  (k:∀ x∈xs,c x=true->elt (some (.int x)::Dv.pick ρ is)=.ok (.int (g x)) true):eComp elt cond is it ρ=.ok (L ((xs.filter c).map g)) true:=by
 unfold eComp; rw[hi]; simp only[List.length_map,Dv.mx,hl,if_true,comp_L h k]
noncomputable def upto (n:Nat):List Int:=(List.range n).map fun (i:Nat)=>(i:Int)
theorem rangeL_eq (lo:Int):∀ n:Nat,Dv.rangeL lo n=((List.range n).map fun (i:Nat)=>lo+(i:Int)).map D.int
 | 0=>rfl
 | n+1=>by
  unfold Dv.rangeL
  rw[rangeL_eq (lo+1) n,List.range_succ_eq_map,List.map_cons,List.map_cons,List.map_map,List.map_map,List.map_map]
  simp only[Int.natCast_zero,Int.add_zero,List.cons.injEq,true_and]
  apply List.map_congr_left
  intro i _
  simp only[Function.comp,Int.natCast_succ]
  congr 1
  omega
theorem range_upto (n:Nat):Dv.rangeL 0 n=(upto n).map .int:=by rw[rangeL_eq]; simp[upto]
theorem upto_succ (n:Nat):upto (n+1)=upto n++[(n:Int)]:=by unfold upto; rw[List.range_succ,List.map_append]; rfl
theorem upto_len (n:Nat):(upto n).length=n:=by simp[upto]
theorem mem_upto {n:Nat}{x:Int}:x∈upto n ↔ 0<=x/\x<n:=by
 unfold upto
 rw[List.mem_map]
 constructor
 ·rintro ⟨i,hi,rfl⟩; have:=List.mem_range.mp hi; omega
 ·intro h; exact⟨x.toNat,List.mem_range.mpr (by omega),by omega⟩
theorem forGo_nx {x:Nat}{body:SS}{d:D}{r:List D}{st st':St}(h:body (st.set x (.sh d))=.nx st'):forGo x body (d::r) st=forGo x body r st':=by
 conv=>lhs; unfold forGo
 rw[h]
theorem forGo_ret {x:Nat}{body:SS}{d:D}{r:List D}{st:St}{v:D}{f:Bool}(h:body (st.set x (.sh d))=.ret v f):forGo x body (d::r) st=.ret v f:=by
 conv=>lhs; unfold forGo
 rw[h]
theorem forGoT_nx {tgt:D->St->Option St}{body:SS}{d:D}{r:List D}{st st1 st':St}(h0:tgt d st=some st1)(h:body st1=.nx st'):Dv.forGoT tgt body (d::r) st=Dv.forGoT tgt body r st':=by
 conv=>lhs; unfold Dv.forGoT
 rw[h0]; simp only[h]
theorem forGoT_ret {tgt:D->St->Option St}{body:SS}{d:D}{r:List D}{st st1:St}{v:D}{f:Bool}(h0:tgt d st=some st1)(h:body st1=.ret v f):Dv.forGoT tgt body (d::r) st=.ret v f:=by
 conv=>lhs; unfold Dv.forGoT
 rw[h0]; simp only[h]
set_option maxHeartbeats 1000000
theorem check_wheel_ok {n:Int}(h:1<=n)(h2:n<=60):F_Q04 [.int n]=.ok .non true:=by
 simp only[F_Q04,b_Q04,Dv.fn,sNil,sIf,eOr,eCm,eVar,eInt,Dv.all,R.bind,RL.bind,Out.bind,get_sh,scal_int,List.map_cons,List.map_nil,List.length_cons,List.length_nil,List.replicate,List.cons_append,List.nil_append,List.getElem?_cons_zero,Nat.reduceAdd,Nat.reduceSub,cm_lt,cm_gt,decide_eq_false (show ¬ n<1 by omega),decide_eq_false (show ¬ 60<n by omega)]
noncomputable def upFrom (b n:Int):List Int->Bool
 | []=>true
 | x::r=>decide (b<x)&&decide (x<n)&&upFrom x n r
theorem upFrom_iff:∀ {xs:List Int} {b n:Int},upFrom b n xs=true ↔ xs.Pairwise (·<·)/\∀ x∈xs,b<x/\x<n
 | [],b,n=>by simp[upFrom]
 | x::r,b,n=>by
  unfold upFrom
  rw[Bool.and_eq_true,Bool.and_eq_true,decide_eq_true_eq,decide_eq_true_eq,upFrom_iff,List.pairwise_cons]
  constructor
  ·rintro ⟨⟨h1,h2⟩,h3,h4⟩
   refine⟨⟨fun y hy=>(h4 y hy).1,h3⟩,fun y hy=>?_⟩
   rcases List.mem_cons.mp hy with rfl|hy
   ·exact⟨h1,h2⟩
   ·have:=h4 y hy; omega
  ·rintro ⟨⟨h1,h2⟩,h3⟩
   have:=h3 x (List.mem_cons_self ..)
   exact⟨this,h2,fun y hy=>⟨h1 y hy,(h3 y (List.mem_cons_of_mem _ hy)).2⟩⟩
theorem beat_iff {n:Int}{xs:List Int}:Beat n xs ↔ xs≠[]/\upFrom (-1) n xs=true:=by
 rw[upFrom_iff]
 constructor
 ·intro h; exact⟨h.ne,h.up,fun x hx=>by have:=h.rg x hx; omega⟩
 ·rintro ⟨h1,h2,h3⟩; exact⟨h1,h2,fun x hx=>by have:=h3 x hx; omega⟩
theorem check_beat_loop (n:Int)(A:D):∀ (xs:List Int) (b:Int) (z:Sl),upFrom b n xs=true->∃ st',forGo 3 b_Q03_l1 (xs.map .int) [.sh A,.sh (.int n),.sh (.int b),z]=.nx st'
 | [],b,z,_=>⟨_,rfl⟩
 | x::r,b,z,hu=>by
  unfold upFrom at hu
  rw[Bool.and_eq_true,Bool.and_eq_true,decide_eq_true_eq,decide_eq_true_eq] at hu
  obtain⟨⟨h1,h2⟩,h3⟩:=hu
  obtain⟨st',h⟩:=check_beat_loop n A r x (.sh (.int x)) h3
  refine⟨st',?_⟩
  rw[List.map_cons,forGo_nx (st':=[.sh A,.sh (.int n),.sh (.int x),.sh (.int x)]),h]
  simp only[b_Q03_l1,sCons,sNil,sSetG,Dv.give,Dv.open_,give_sh,shared_sh,sIf,eOr,eCm,eVar,Dv.all,R.bind,RL.bind,Out.bind,get_sh,scal_int,List.map_cons,List.map_nil,List.getElem?_cons_zero,List.getElem?_cons_succ,List.set_cons_zero,List.set_cons_succ,List.foldl_cons,List.foldl_nil,Option.getD_some,cm_le,cm_ge,decide_eq_false (show ¬ x<=b by omega),decide_eq_false (show ¬ n<=x by omega)]
theorem check_rising_ok {n:Int}{xs:List Int}(h1:xs≠[])(h:upFrom (-1) n xs=true):F_Q03 [L xs,.int n]=.ok .non true:=by
 obtain⟨st',e⟩:=check_beat_loop n (L xs) xs (-1) .no h
 have h1:¬ ((xs.length:Int)=0):=by
  have:=List.length_pos_iff.mpr h1
  omega
 simp only[F_Q03,b_Q03,b_Q03_t2,b_Q03_t1,Dv.fn,sCons,sNil,sSet,keep_int,Dv.give,Dv.open_,give_sh,shared_no,shared_sh,sIf,sFor,iSeq,eB1,Dv.lenD,eNeg,eCm,eVar,eInt,Dv.all,R.bind,RL.bind,Out.bind,get_no,get_sh,scal_lst,List.map_cons,List.map_nil,List.length_cons,List.length_nil,List.replicate,List.cons_append,List.nil_append,List.getElem?_cons_zero,List.set_cons_zero,List.set_cons_succ,List.foldl_cons,List.foldl_nil,Option.getD_some,Nat.reduceAdd,Nat.reduceSub,cm_eqI,List.length_map,decide_eq_false h1,e]
theorem check_beat_ok {n:Int}{xs:List Int}(hn:n<=60)(h:Beat n xs):F_Q02 [.int n,L xs]=.ok .non true:=by
 have e:=check_rising_ok h.ne (beat_iff.mp h).2
 simp only[F_Q02,b_Q02,b_Q02_t1,Dv.fn,sCons,sExpr,eVar,lNil,lCons,eCall,Dv.all,R.bind,RL.bind,Dv.R.bindL,Dv.RL.bindL,Out.bind,get_sh,scal_int,scal_lst,List.map_cons,List.map_nil,List.length_cons,List.length_nil,List.replicate,List.cons_append,List.nil_append,List.getElem?_cons_zero,List.getElem?_cons_succ,Bool.and_true,Nat.reduceAdd,Nat.reduceSub,check_wheel_ok h.pos hn,e]
noncomputable def cell (s:List Int)(k:Int):Int :=
 if k<s.length then s.getD k.toNat 0 else
 if 0<s.length then
  (s.getD (k%s.length).toNat 0*48271+k*7919)%2147483647*((s.getD (k%s.length).toNat 0*48271+k*7919)%2147483647)%2147483629
 else (7919*k+5)*(7919*k+5)%2147483629
theorem getD_mem {s:List Int}{i:Nat}(h:i<s.length):s.getD i 0∈s:=by
 rw[List.getD_eq_getElem?_getD,List.getElem?_eq_getElem h]; exact List.getElem_mem h
theorem whole_ok (x:Int):F_Q0W [.int x]=.ok (.bl true) true:=by
 simp only[F_Q0W,b_Q0W,Dv.fn,sRet,eB1,Dv.isIntD,Dv.isBoolD,eAnd,eNot,eVar,Dv.all,R.bind,RL.bind,Out.bind,get_sh,scal_int,List.map_cons,List.map_nil,List.length_cons,List.length_nil,List.replicate,List.cons_append,List.nil_append,List.getElem?_cons_zero,Bool.not_false,Nat.reduceAdd,Nat.reduceSub]
theorem beat_is_loop:∀ (xs ys:List Int) (A B:D) (y z:Sl),xs.length=ys.length->∃ st',Dv.forGoT (Dv.tupTo [2,3]) b_Q0A_l1 (List.zipWith (fun x y=>D.tup [x,y]) (xs.map .int) (ys.map .int)) [.sh A,.sh B,y,z]=if xs=ys then .nx st' else .ret (.bl false) true
 | [],[],A,B,y,z,_=>⟨_,rfl⟩
 | [],_::_,A,B,y,z,h=>by simp at h
 | _::_,[],A,B,y,z,h=>by simp at h
 | x::xs,w::ys,A,B,y,z,h=>by
  obtain⟨st',e⟩:=beat_is_loop xs ys A B (.sh (.int x)) (.sh (.int w)) (by simpa using h)
  refine⟨st',?_⟩
  have h0:Dv.tupTo [2,3] (.tup [.int x,.int w]) [.sh A,.sh B,y,z]=some [.sh A,.sh B,.sh (.int x),.sh (.int w)]:=rfl
  rw[List.map_cons,List.map_cons,List.zipWith_cons_cons]
  by_cases hxw:x=w
  ·rw[forGoT_nx h0 (st':=[.sh A,.sh B,.sh (.int x),.sh (.int w)]),e]
   ·simp[hxw]
   ·simp only[b_Q0A_l1,sNil,sIf,eOr,eNot,eCm,eVar,lNil,lCons,eCall,Dv.all,R.bind,RL.bind,Dv.R.bindL,Dv.RL.bindL,Out.bind,get_sh,scal_int,List.map_cons,List.map_nil,List.getElem?_cons_zero,List.getElem?_cons_succ,Bool.and_true,Bool.not_true,cm_neI,whole_ok,decide_eq_true hxw]
  ·rw[forGoT_ret h0 (v:=.bl false) (f:=true)]
   ·simp[hxw]
   ·simp only[b_Q0A_l1,sIf,sRet,eOr,eNot,eCm,eVar,eBl,lNil,lCons,eCall,Dv.all,R.bind,RL.bind,Dv.R.bindL,Dv.RL.bindL,Out.bind,get_sh,scal_int,List.map_cons,List.map_nil,List.getElem?_cons_zero,List.getElem?_cons_succ,Bool.and_true,Bool.not_true,Bool.not_false,cm_neI,whole_ok,decide_eq_false hxw]
theorem beat_is_ok (xs ys:List Int):F_Q0A [L xs,L ys]=.ok (.bl (decide (xs=ys))) true:=by
 by_cases h:xs.length=ys.length
 ·obtain⟨st',e⟩:=beat_is_loop xs ys (L xs) (L ys) .no .no h
  have h1:(xs.length:Int)=ys.length:=by omega
  simp only[F_Q0A,b_Q0A,b_Q0A_t2,b_Q0A_t1,Dv.fn,sCons,sNil,Dv.give,Dv.open_,give_sh,shared_no,shared_sh,sIf,sRet,sForT,iZip,eB1,Dv.lenD,Dv.isListD,eOr,eNot,eCm,eVar,eBl,Dv.all,R.bind,RL.bind,Out.bind,get_no,get_sh,scal_lst,List.map_cons,List.map_nil,List.length_cons,List.length_nil,List.replicate,List.cons_append,List.nil_append,List.getElem?_cons_zero,List.getElem?_cons_succ,List.set_cons_zero,List.set_cons_succ,List.foldl_cons,List.foldl_nil,Option.getD_some,Bool.not_true,Nat.reduceAdd,Nat.reduceSub,decide_true,cm_neI,List.length_map,h1,e]
  by_cases h2:xs=ys
  ·simp[h2]
  ·simp[h2]
 ·have h1:¬ (xs.length:Int)=ys.length:=by omega
  have h2:¬ xs=ys:=fun z=>h (by rw[z])
  simp only[F_Q0A,b_Q0A,b_Q0A_t2,b_Q0A_t1,Dv.fn,sCons,sIf,sRet,eB1,Dv.lenD,Dv.isListD,eOr,eNot,eCm,eVar,eBl,Dv.all,R.bind,RL.bind,Out.bind,get_no,get_sh,scal_lst,List.map_cons,List.map_nil,List.length_cons,List.length_nil,List.replicate,List.cons_append,List.nil_append,List.getElem?_cons_zero,List.getElem?_cons_succ,Bool.not_true,Bool.not_false,Nat.reduceAdd,Nat.reduceSub,cm_neI,List.length_map,decide_eq_false h1,decide_eq_false h2]
theorem app_L (xs:List Int)(p:Int):xs.map D.int++[.int p]=(xs++[p]).map D.int:=by simp
theorem rng_ok {n:Int}(h:0<=n)(h2:n<=1000):rngOk n=true:=by
 simp only[rngOk,Bool.and_eq_true,decide_eq_true_eq]; omega
theorem turned_ok {n by_:Int}{xs:List Int}(hn:0<n)(hl:xs.length<64):F_Q0V [.int n,L xs,.int by_]=.ok (L (Dv.isort (xs.map fun x=>(x+by_)%n))) true:=by
 have hc:c_Q0V_1 [some (.int n),some (L xs),some (.int by_)]=.ok (L (xs.map fun x=>(x+by_)%n)) true:=by
  unfold c_Q0V_1
  exact eComp_all (f:=false) rfl (by omega) fun x hx=>by simp only[eOp,eVar,Dv.pick,R.bind,RL.bind,Out.bind,scal_int,List.map_cons,List.map_nil,List.getElem?_cons_zero,List.getElem?_cons_succ,Option.getD_some,add_ok,mod_ok hn]
 simp only[F_Q0V,b_Q0V,Dv.fn,sRet,eB1,Dv.all,R.bind,RL.bind,Out.bind,get_sh,List.map_cons,List.map_nil,List.length_cons,List.length_nil,List.replicate,List.cons_append,List.nil_append,Nat.reduceAdd,Nat.reduceSub,hc,sort_ok (xs:=xs.map fun x=>(x+by_)%n) (by simpa using hl)]
theorem again_fold (n:Int)(xs:List Int):∀ t:Nat,(upto t).foldl (fun a k=>a++xs.map (·+k*n)) []=again n xs t
 | 0=>rfl
 | t+1=>by rw[upto_succ,List.foldl_append,again_fold n xs t]; rfl
theorem again_loop {n t:Int}{xs:List Int}:∀ (ks found:List Int) (z:Sl),(∀ k∈ks,0<=k/\k<=1000)->found.length+ks.length*xs.length<=100000 ->
  ∃ z',forGo 4 b_Q09_l1 (ks.map .int) [.sh (.int n),.sh (L xs),.sh (.int t),.ow (L found),z]=.nx [.sh (.int n),.sh (L xs),.sh (.int t),.ow (L (ks.foldl (fun a k=>a++xs.map (·+k*n)) found)),z']
 | [],found,z,_,_=>⟨z,rfl⟩
 | k::r,found,z,h,hl=>by
  rw[List.length_cons,Nat.succ_mul] at hl
  have hk:=h k (List.mem_cons_self ..)
  have hc:c_Q09_1 [some (.int n),some (L xs),some (.int t),some (L found),some (.int k)]=.ok (L (xs.map (·+k*n))) true:=by
   unfold c_Q09_1
   exact eComp_all (f:=false) rfl (by omega) fun x hx=>by simp only[eOp,eVar,Dv.pick,R.bind,RL.bind,Out.bind,scal_int,List.map_cons,List.map_nil,List.getElem?_cons_zero,List.getElem?_cons_succ,Option.getD_some,add_ok,mul_ok (mulOk_l (i:=k) (j:=n) (by omega) (by omega))]
  obtain⟨z',e⟩:=again_loop (n:=n) (t:=t) (xs:=xs) r (found++xs.map (·+k*n)) (.sh (.int k)) (fun x hx=>h x (List.mem_cons_of_mem _ hx)) (by rw[List.length_append,List.length_map]; omega)
  refine⟨z',?_⟩
  rw[List.map_cons,forGo_nx (st':=[.sh (.int n),.sh (L xs),.sh (.int t),.ow (L (found++xs.map (·+k*n))),.sh (.int k)]),e]
  ·rfl
  ·simp only[b_Q09_l1,sSet,keep_L,eOp,eVar,Dv.all,R.bind,RL.bind,Out.bind,get_sh,get_ow,scal_lst,List.map_cons,List.map_nil,List.getElem?_cons_zero,List.getElem?_cons_succ,List.set_cons_zero,List.set_cons_succ,List.length_map,hc,cat_ok (a:=found) (b:=xs.map (·+k*n)) (by rw[List.length_map]; omega)]
theorem again_ok {n t:Int}{xs:List Int}(ht:0<=t)(ht2:t<=1000)(hl:xs.length<=60):F_Q09 [.int n,L xs,.int t]=.ok (L (again n xs t.toNat)) true:=by
 obtain⟨z,e⟩:=again_loop (n:=n) (t:=t) (xs:=xs) (upto t.toNat) [] .no (fun k hk=>by have:=mem_upto.mp hk; omega) (by
  rw[upto_len]
  have:t.toNat*xs.length<=1000*60:=Nat.mul_le_mul (by omega) hl
  simp; omega)
 rw[again_fold] at e
 simp only[List.map_nil,L] at e
 simp only[F_Q09,b_Q09,b_Q09_t2,b_Q09_t1,Dv.fn,sCons,sSet,keep_nil,Dv.give,Dv.open_,shared_no,shared_sh,shared_ow,sRetO,sFor,iRange,eVar,eLst,lNil,R.bind,RL.bind,Out.bind,scal_int,List.map_cons,List.map_nil,List.length_cons,List.length_nil,List.replicate,List.cons_append,List.nil_append,List.getElem?_cons_zero,List.getElem?_cons_succ,List.set_cons_zero,List.set_cons_succ,List.foldl_nil,if_true,Nat.reduceAdd,Nat.reduceSub,flat_L,Dv.flatL,rng_ok ht ht2,range_upto,e]
theorem sCons_nx {a r:SS}{st st1:St}(h:a st=.nx st1):sCons a r st=r st1:=by
 unfold sCons; rw[h]
noncomputable def Hs (s:Sl)(a:List Int):Prop:=s=.sh (L a)\/s=.ow (L a)
theorem Hs.get {s:Sl}{a:List Int}(h:Hs s a):s.get=some (L a):=by rcases h with h|h <;>(subst h; rfl)
theorem Hs.give {s:Sl}{a:List Int}(h:Hs s a):s.give=.sh (L a):=by rcases h with h|h <;>(subst h; rfl)
structure PairP (P:Int->List Int->List Int->Prop):Prop where
 one:P 1 [0] [0]
 beat:∀ {n a b},P n a b->Beat n a/\Beat n b
 again:∀ {n a b} {t:Nat},1<=t->P n a b->P (n*t) (again n a t) b
 mix:∀ {n a b} {t:Nat},1<=t->P n a b->P (n*t) (Dv.isort (mix a t t)) (b.map (·*(t:Int)))
 swap:∀ {n a b},P n a b->P n b a
 turn:∀ {n a b} (c:Int),P n a b->P n (Dv.isort (a.map fun x=>(x+c)%n)) b
theorem mix_fold (xs:List Int)(t:Int):∀ j:Nat,(upto j).foldl (fun a k=>a++xs.map (·*t+k)) []=mix xs t j
 | 0=>rfl
 | j+1=>by rw[upto_succ,List.foldl_append,mix_fold xs t j]; rfl
section
variable {s:List Int}{k0 n t:Int}{a b:List Int}{sa sb z5 z6 z8:Sl}
end
theorem times_of (r:Int)(h:0<=r)(h2:r<7):∃ t:Nat,Dv.at? [.int 2,.int 3,.int 2,.int 5,.int 2,.int 3,.int 7] r=some (.int t)/\2<=t/\t<=7:=by
 have:r=0\/r=1\/r=2\/r=3\/r=4\/r=5\/r=6:=by omega
 rcases this with rfl|rfl|rfl|rfl|rfl|rfl|rfl
 ·exact⟨2,rfl,by omega,by omega⟩
 ·exact⟨3,rfl,by omega,by omega⟩
 ·exact⟨2,rfl,by omega,by omega⟩
 ·exact⟨5,rfl,by omega,by omega⟩
 ·exact⟨2,rfl,by omega,by omega⟩
 ·exact⟨3,rfl,by omega,by omega⟩
 ·exact⟨7,rfl,by omega,by omega⟩
end Cw
namespace Bt
open Dv (ins isort)
structure Fill (n:Int)(a b:List Int):Prop where
 one:Beat n a
 oth:Beat n b
 len:((a.length*b.length:Nat):Int)=n
 inj:∀ x∈a,∀ y∈a,∀ s∈b,∀ t∈b,(x+s)%n=(y+t)%n->x=y/\s=t
theorem Fill.swap {n:Int}{a b:List Int}(h:Fill n a b):Fill n b a :=
 ⟨h.oth,h.one,by rw[Nat.mul_comm]; exact h.len,fun x hx y hy s hs t ht e=>by
  have:=h.inj s hs t ht x hx y hy (by rw[Int.add_comm s x,Int.add_comm t y]; exact e)
  exact⟨this.2,this.1⟩⟩
theorem fill_one:Fill 1 [0] [0]:=⟨⟨by simp,by simp,by simp⟩,⟨by simp,by simp,by simp⟩,by simp,by simp⟩
theorem perm_mem {a b:List Int}(p:a.Perm b){x:Int}(h:x∈a):x∈b:=p.mem_iff.mp h
theorem Fill.turn {n c:Int}{a b:List Int}(h:Fill n a b):Fill n (isort (a.map fun x=>(x+c)%n)) b:=by
 have hp:=h.one.pos
 refine⟨turn_beat h.one,h.oth,by rw[isort_len,List.length_map]; exact h.len,fun x hx y hy s hs t ht e=>?_⟩
 obtain⟨x',hx',rfl⟩:=List.mem_map.mp (perm_mem (isort_perm _) hx)
 obtain⟨y',hy',rfl⟩:=List.mem_map.mp (perm_mem (isort_perm _) hy)
 obtain⟨k,e1⟩:=mod_eq_iff.mp e
 have q1:=Int.emod_add_mul_ediv (x'+c) n
 have q2:=Int.emod_add_mul_ediv (y'+c) n
 have e2:(x'+s)%n=(y'+t)%n:=mod_eq_iff.mpr ⟨k+(x'+c)/n-(y'+c)/n,by rw[Int.mul_sub,Int.mul_add]; omega⟩
 obtain⟨rfl,rfl⟩:=h.inj x' hx' y' hy' s hs t ht e2
 exact⟨rfl,rfl⟩
theorem again_mem {n:Int}{xs:List Int}:∀ {t:Nat} {x:Int},x∈again n xs t ↔ ∃ y∈xs,∃ i:Nat,i<t/\x=y+i*n
 | 0,x=>by simp[again]
 | t+1,x=>by
  unfold again
  rw[List.mem_append,again_mem,List.mem_map]
  constructor
  ·rintro (⟨y,hy,i,hi,rfl⟩|⟨y,hy,rfl⟩)
   ·exact⟨y,hy,i,by omega,rfl⟩
   ·exact⟨y,hy,t,by omega,rfl⟩
  ·rintro ⟨y,hy,i,hi,rfl⟩
   by_cases e:i=t
   ·subst e; exact .inr ⟨y,hy,rfl⟩
   ·exact .inl ⟨y,hy,i,by omega,rfl⟩
theorem wide_beat {n:Int}{b:List Int}(h:Beat n b){t:Nat}(ht:1<=t):Beat (n*t) b :=
 ⟨h.ne,h.up,fun x hx=>by
  have h1:=h.rg x hx
  have h2:n*1<=n*(t:Int):=Int.mul_le_mul_of_nonneg_left (by omega) (by have:=h.pos; omega)
  omega⟩
theorem Fill.again {n:Int}{a b:List Int}(h:Fill n a b){t:Nat}(ht:1<=t):Fill (n*t) (again n a t) b:=by
 have hp:=h.one.pos
 refine⟨again_beat h.one ht,wide_beat h.oth ht,?_,fun x hx y hy s hs r hr e=>?_⟩
 ·rw[again_len,Nat.mul_assoc,Int.natCast_mul,h.len,Int.mul_comm]
 ·obtain⟨x',hx',i,hi,rfl⟩:=again_mem.mp hx
  obtain⟨y',hy',j,hj,rfl⟩:=again_mem.mp hy
  obtain⟨k,e1⟩:=mod_eq_iff.mp e
  have e2:(x'+s)%n=(y'+r)%n:=mod_eq_iff.mpr ⟨(t:Int)*k+j-i,by
   rw[Int.mul_sub,Int.mul_add,<- Int.mul_assoc,Int.mul_comm n j,Int.mul_comm n i]; omega⟩
  obtain⟨rfl,rfl⟩:=h.inj x' hx' y' hy' s hs r hr e2
  have e3:n*((i:Int)-j)=n*(t*k):=by
   rw[Int.mul_sub,<- Int.mul_assoc,Int.mul_comm n i,Int.mul_comm n j]; omega
  have e4:(i:Int)-j=t*k:=Int.eq_of_mul_eq_mul_left (by omega) e3
  have e5:=small_mul (n:=(t:Int)) (by omega) e4 (by omega) (by omega)
  have e6:(i:Int)=j:=by omega
  exact⟨by rw[e6],rfl⟩
theorem Fill.mix {n:Int}{a b:List Int}(h:Fill n a b){t:Nat}(ht:1<=t):Fill (n*t) (isort (mix a t t)) (b.map (·*(t:Int))):=by
 have hp:=h.one.pos
 refine⟨mix_beat h.one ht,spread_beat h.oth (by omega),?_,fun x hx y hy s hs r hr e=>?_⟩
 ·rw[isort_len,mix_len,List.length_map,Nat.mul_assoc,Int.natCast_mul,h.len,Int.mul_comm]
 ·obtain⟨x',hx',i,hi,rfl⟩:=mix_mem.mp (perm_mem (isort_perm _) hx)
  obtain⟨y',hy',j,hj,rfl⟩:=mix_mem.mp (perm_mem (isort_perm _) hy)
  obtain⟨s',hs',rfl⟩:=List.mem_map.mp hs
  obtain⟨r',hr',rfl⟩:=List.mem_map.mp hr
  obtain⟨k,e1⟩:=mod_eq_iff.mp e
  have e2:(x'+s')*(t:Int)+i=(y'+r'+n*k)*t+j:=by
   have:n*(t:Int)*k=n*k*t:=by rw[Int.mul_assoc,Int.mul_comm (t:Int) k,<- Int.mul_assoc]
   rw[Int.add_mul,Int.add_mul,Int.add_mul]; omega
  obtain⟨e3,e4⟩:=digits (t:=(t:Int)) (by omega) (by omega) (by omega) e2
  have e5:(x'+s')%n=(y'+r')%n:=mod_eq_iff.mpr ⟨k,by omega⟩
  obtain⟨rfl,rfl⟩:=h.inj x' hx' y' hy' s' hs' r' hr' e5
  exact⟨by omega,rfl⟩
theorem nodup_hits {n:Int}{a:List Int}(ha:a.Nodup):∀ {b:List Int},b.Nodup->(∀ x∈a,∀ y∈a,∀ s∈b,∀ t∈b,(x+s)%n=(y+t)%n->x=y/\s=t)->(hits n a b).Nodup
 | [],_,_=>by simp[hits]
 | s::r,hb,inj=>by
  obtain⟨h1,h2⟩:=List.nodup_cons.mp hb
  have e:hits n a (s::r)=(a.map fun b=>(b+s)%n)++hits n a r:=by simp[hits]
  rw[e]
  refine List.nodup_append.mpr ⟨nodup_map ha fun x hx y hy q=>(inj x hx y hy s (List.mem_cons_self ..) s (List.mem_cons_self ..) q).1,nodup_hits ha h2 fun x hx y hy u hu v hv=>inj x hx y hy u (List.mem_cons_of_mem _ hu) v (List.mem_cons_of_mem _ hv),fun p hp q hq z=>?_⟩
  subst z
  obtain⟨x,hx,rfl⟩:=List.mem_map.mp hp
  unfold hits at hq
  obtain⟨t,ht,hq⟩:=List.mem_flatMap.mp hq
  obtain⟨y,hy,e2⟩:=List.mem_map.mp hq
  have:=(inj x hx y hy s (List.mem_cons_self ..) t (List.mem_cons_of_mem _ ht) e2.symm).2
  exact h1 (this▸ht)
theorem hits_len (n:Int)(a:List Int):∀ b:List Int,(hits n a b).length=a.length*b.length
 | []=>by simp[hits]
 | s::r=>by
  have e:hits n a (s::r)=(a.map fun b=>(b+s)%n)++hits n a r:=by simp[hits]
  rw[e,List.length_append,List.length_map,hits_len n a r,List.length_cons,Nat.mul_succ,Nat.add_comm]
theorem all_up:∀ {xs:List Int} {lo:Int},xs.Pairwise (·<·)->(∀ x∈xs,lo<=x/\x<lo+xs.length)->xs=(List.range xs.length).map fun (i:Nat)=>lo+(i:Int)
 | [],_,_,_=>rfl
 | x::r,lo,h,g=>by
  obtain⟨h1,h2⟩:=List.pairwise_cons.mp h
  have gx:=g x (List.mem_cons_self ..)
  have l:=up_len (lo:=x+1) (hi:=lo+((x::r).length:Int)) h2 fun y hy=>⟨h1 y hy,(g y (List.mem_cons_of_mem _ hy)).2⟩
  rw[List.length_cons] at l gx
  have ex:x=lo:=by
   rw[Int.natCast_add] at l gx
   omega
  subst ex
  rw[List.length_cons,List.range_succ_eq_map,List.map_cons,List.map_map]
  have:=all_up (xs:=r) (lo:=x+1) h2 fun y hy=>by
   have g1:=g y (List.mem_cons_of_mem _ hy)
   have g2:=h1 y hy
   rw[List.length_cons,Int.natCast_add] at g1
   omega
  conv=>lhs; rw[this]
  simp only[Int.natCast_zero,Int.add_zero,List.cons.injEq,true_and]
  apply List.map_congr_left
  intro i _
  simp only[Function.comp,Int.natCast_succ]
  omega
theorem perm_all {n:Nat}{ps:List Int}(nd:ps.Nodup)(rg:∀ p∈ps,0<=p/\p<n)(hl:ps.length=n):ps.Perm ((List.range n).map fun (i:Nat)=>(i:Int)):=by
 have h1:=up_of (isort_sorted ps) ((isort_perm ps).nodup_iff.mpr nd)
 have h2:=all_up (lo:=0) h1 fun x hx=>by
  have:=rg x (perm_mem (isort_perm ps) hx)
  rw[isort_len,hl]; omega
 rw[isort_len,hl] at h2
 have h3:=(isort_perm ps).symm
 rw[h2] at h3
 simpa using h3
theorem Fill.perm {n:Int}{a b:List Int}(h:Fill n a b):(hits n a b).Perm ((List.range n.toNat).map fun (i:Nat)=>(i:Int)):=by
 have hp:=h.one.pos
 refine perm_all (nodup_hits h.one.nd h.oth.nd h.inj) (fun p hq=>?_) ?_
 ·have:=hits_rg (n:=n) (by omega) p hq; omega
 ·have:=hits_len n a b; have:=h.len; omega
theorem count_range (n i:Nat)(h:i<n):((List.range n).map fun (i:Nat)=>(i:Int)).count (i:Int)=1:=by
 have nd:((List.range n).map fun (i:Nat)=>(i:Int)).Nodup:=List.pairwise_map.mpr (List.pairwise_lt_range.imp fun {a b} h=>by omega)
 have h1:=(List.nodup_iff_count.mp nd) (i:Int)
 have h2:=List.count_pos_iff.mpr (List.mem_map.mpr ⟨i,List.mem_range.mpr h,rfl⟩:(i:Int)∈(List.range n).map fun (i:Nat)=>(i:Int))
 omega
theorem Fill.tally {n:Int}{a b:List Int}(h:Fill n a b):tally n.toNat (hits n a b)=List.replicate n.toNat 1:=by
 have hp:=h.one.pos
 rw[tally_eq _ fun p hq=>(hits_rg (by omega) p hq).1]
 apply List.ext_getElem?
 intro i
 by_cases hi:i<n.toNat
 ·simp[hi,h.perm.count_eq,count_range _ _ hi]
 ·rw[List.getElem?_eq_none (by simp; omega),List.getElem?_eq_none (by simp; omega)]
theorem fill_of {n:Int}{a b:List Int}(ha:Beat n a)(hb:Beat n b)(h:tally n.toNat (hits n a b)=List.replicate n.toNat 1):Fill n a b:=by
 have hp:=ha.pos
 rw[tally_eq _ fun p hq=>(hits_rg (by omega) p hq).1] at h
 have cnt:∀ p:Int,0<=p->p<n->(hits n a b).count p=1:=fun p h0 h1=>by
  have e:=congrArg (fun l=>l[p.toNat]?) h
  have hi:p.toNat<n.toNat:=by omega
  simp[hi] at e
  have e2:((p.toNat:Nat):Int)=p:=by omega
  have e3:max p 0=p:=by omega
  first
   | (rw[e2] at e; omega)
   | (rw[e3] at e; omega)
 have nd:(hits n a b).Nodup:=by
  rw[List.nodup_iff_count]
  intro p
  by_cases hm:p∈hits n a b
  ·have:=hits_rg (n:=n) (by omega) p hm
   rw[cnt p this.1 this.2]; omega
  ·rw[List.count_eq_zero_of_not_mem hm]; omega
 have pm:(hits n a b).Perm ((List.range n.toNat).map fun (i:Nat)=>(i:Int)):=by
  refine(List.perm_iff_count).mpr fun p=>?_
  by_cases hr:0<=p/\p<n
  ·rw[cnt p hr.1 hr.2]
   have:=count_range n.toNat p.toNat (by omega)
   rw[show ((p.toNat:Nat):Int)=p by omega] at this
   exact this.symm
  ·rw[List.count_eq_zero_of_not_mem fun hm=>hr (hits_rg (by omega) p hm),List.count_eq_zero_of_not_mem]
   intro hm
   obtain⟨i,hi,rfl⟩:=List.mem_map.mp hm
   have:=List.mem_range.mp hi
   omega
 refine⟨ha,hb,?_,?_⟩
 ·have:=pm.length_eq
  rw[hits_len,List.length_map,List.length_range] at this
  omega
 ·-- two ways to one place would count twice
  have aux:∀ {b:List Int},(hits n a b).Nodup->b.Nodup->∀ x∈a,∀ y∈a,∀ s∈b,∀ t∈b,(x+s)%n=(y+t)%n->x=y/\s=t:=by
   intro b
   induction b with
   | nil=>intro _ _ x _ y _ s hs; simp at hs
   | cons u r ih =>
    intro nd nb x hx y hy s hs t ht e
    have eh:hits n a (u::r)=(a.map fun b=>(b+u)%n)++hits n a r:=by simp[hits]
    rw[eh] at nd
    obtain⟨n1,n2,n3⟩:=List.nodup_append.mp nd
    have inr:∀ z∈a,∀ v∈r,(z+v)%n∈hits n a r:=fun z hz v hv=>List.mem_flatMap.mpr ⟨v,hv,List.mem_map.mpr ⟨z,hz,rfl⟩⟩
    rcases List.mem_cons.mp hs with e1|hs'
    ·rcases List.mem_cons.mp ht with e2|ht'
     ·subst e1 e2
      exact⟨mod_inj (by omega) (ha.rg x hx) (ha.rg y hy) e,rfl⟩
     ·subst e1
      exact absurd e (n3 _ (List.mem_map.mpr ⟨x,hx,rfl⟩) _ (inr y hy t ht'))
    ·rcases List.mem_cons.mp ht with e2|ht'
     ·subst e2
      exact absurd e.symm (n3 _ (List.mem_map.mpr ⟨y,hy,rfl⟩) _ (inr x hx s hs'))
     ·exact ih n2 (List.nodup_cons.mp nb).2 x hx y hy s hs' t ht' e
  exact aux nd hb.nd
end Bt
namespace Cw
open Dv (Out R RL eB1 eCall eCm eInt eIx eLst eNeg eOp eOr eVar forGo iSeq lCons lNil sCons sExpr sFor sIf sNil sPut sRaise sRet sRetO sSet)
open Dv (D R RL EE EL EI RI Sl Out SS St)
open Bt
theorem made_beat_ok {n:Int}{xs:List Int}(hn:1<=n)(hn2:n<=60)(hl:xs.length<64)(hb:Beat n (Dv.isort (xs.map (·%n)))):F_Q0Y [.int n,L xs]=.ok (L (Dv.isort (xs.map (·%n)))) true:=by
 have hc:c_Q0Y_1 [some (.int n),some (L xs),none]=.ok (L (xs.map (·%n))) true:=by
  unfold c_Q0Y_1
  exact eComp_all (f:=false) rfl (by omega) fun x hx=>by simp only[eOp,eVar,Dv.pick,R.bind,RL.bind,Out.bind,scal_int,List.map_cons,List.map_nil,List.getElem?_cons_zero,List.getElem?_cons_succ,Option.getD_some,mod_ok (show (0:Int)<n by omega)]
 simp only[F_Q0Y,b_Q0Y,b_Q0Y_t3,b_Q0Y_t2,b_Q0Y_t1,Dv.fn,sCons,sSet,keep_L,sRetO,sExpr,eB1,eVar,lNil,lCons,eCall,Dv.all,R.bind,RL.bind,Dv.R.bindL,Dv.RL.bindL,Out.bind,get_no,get_sh,get_ow,scal_int,scal_lst,List.map_cons,List.map_nil,List.length_cons,List.length_nil,List.replicate,List.cons_append,List.nil_append,List.getElem?_cons_zero,List.getElem?_cons_succ,List.set_cons_zero,List.set_cons_succ,Bool.and_true,Bool.and_false,Nat.reduceAdd,Nat.reduceSub,flat_L,check_wheel_ok hn hn2,hc,sort_ok (xs:=xs.map (·%n)) (by simpa using hl),check_beat_ok hn2 hb]
theorem filled_in {n:Int}(hn:0<n)(A B:D)(s:Int)(beat:List Int)(c:List Int)(hc:c.length=n.toNat)(z y:Sl):∃ z' y',forGo 5 b_Q0G_l1 (beat.map .int) [.sh (.int n),.sh A,.sh B,.ow (L c),.sh (.int s),z,y] =
  .nx [.sh (.int n),.sh A,.sh B,.ow (L ((beat.map fun b=>(b+s)%n).foldl bump c)),.sh (.int s),z',y']:=by
 induction beat generalizing c z y with
 | nil=>exact⟨z,y,rfl⟩
 | cons b r ih =>
  have hm:=mod_rg (n:=n) (a:=s+b) hn
  have hcm:(s+b)%n=(b+s)%n:=by rw[Int.add_comm]
  have hk:(s+b)%n<(c.length:Int):=by omega
  obtain⟨z',y',e⟩:=ih (bump c ((b+s)%n)) (by rw[bump_len]; exact hc) (.sh (.int b)) (.sh (.int ((s+b)%n)))
  refine⟨z',y',?_⟩
  have e2:(c.map D.int).set ((s+b)%n).toNat (.int (c.getD ((s+b)%n).toNat 0+1))=(bump c ((b+s)%n)).map D.int:=by
   unfold bump; rw[List.map_set,hcm]
  rw[List.map_cons,List.map_cons,List.foldl_cons,forGo_nx (st':=[.sh (.int n),.sh A,.sh B,.ow (L (bump c ((b+s)%n))),.sh (.int s),.sh (.int b),.sh (.int ((s+b)%n))])]
  ·exact e
  ·simp only[b_Q0G_l1,sCons,sSet,keep_int,sPut,eIx,Dv.ixD,eOp,eVar,eInt,Dv.all,R.bind,RL.bind,Out.bind,get_sh,get_ow,scal_int,scal_lst,List.map_cons,List.map_nil,List.getElem?_cons_zero,List.getElem?_cons_succ,List.set_cons_zero,List.set_cons_succ,Bool.or_true,Bool.and_true,if_true,add_ok,List.length_map,mod_ok hn,at_L hm.1 hk,decide_eq_true hm.1,decide_eq_true hk,e2]
theorem filled_out {n:Int}(hn:0<n)(B:D)(beat:List Int)(starts:List Int)(c:List Int)(hc:c.length=n.toNat)(z y x:Sl):∃ z' y' x',forGo 4 b_Q0G_l2 (starts.map .int) [.sh (.int n),.sh (L beat),.sh B,.ow (L c),z,y,x] =
  .nx [.sh (.int n),.sh (L beat),.sh B,.ow (L ((hits n beat starts).foldl bump c)),z',y',x']:=by
 induction starts generalizing c z y x with
 | nil=>exact⟨z,y,x,rfl⟩
 | cons s r ih =>
  obtain⟨y1,x1,e1⟩:=filled_in hn (L beat) B s beat c hc y x
  obtain⟨z',y',x',e⟩:=ih ((beat.map fun b=>(b+s)%n).foldl bump c) (by rw[foldl_bump_len]; exact hc) (.sh (.int s)) y1 x1
  refine⟨z',y',x',?_⟩
  have e3:hits n beat (s::r)=(beat.map fun b=>(b+s)%n)++hits n beat r:=by simp[hits]
  rw[e3,List.foldl_append,List.map_cons]
  rw[forGo_nx (st':=[.sh (.int n),.sh (L beat),.sh B,.ow (L ((beat.map fun b=>(b+s)%n).foldl bump c)),.sh (.int s),y1,x1])]
  ·exact e
  ·simp only[b_Q0G_l2,Dv.give,Dv.open_,give_sh,shared_sh,shared_ow,sFor,iSeq,eVar,scal_lst,List.map_cons,List.map_nil,List.getElem?_cons_zero,List.getElem?_cons_succ,List.set_cons_zero,List.set_cons_succ,List.foldl_cons,List.foldl_nil,Option.getD_some,e1]
theorem filled_ok {n:Int}{beat starts:List Int}(hn:0<n)(hn2:n<=60):F_Q0G [.int n,L beat,L starts]=.ok (.bl (decide (tally n.toNat (hits n beat starts)=List.replicate n.toNat 1))) true:=by
 obtain⟨z,y,x,e⟩:=filled_out (n:=n) hn (L starts) beat starts (List.replicate n.toNat 0) (by simp) .no .no .no
 simp only[F_Q0G,b_Q0G,b_Q0G_t2,b_Q0G_t1,Dv.fn,sCons,sSet,keep_L,Dv.give,Dv.open_,give_sh,shared_no,shared_sh,shared_ow,sRet,sFor,iSeq,eCm,eOp,eVar,eInt,eLst,lNil,lCons,Dv.all,R.bind,RL.bind,Dv.R.bindL,Dv.RL.bindL,Out.bind,get_no,get_sh,get_ow,scal_int,scal_lst,List.map_cons,List.map_nil,List.length_cons,List.length_nil,List.replicate,List.cons_append,List.nil_append,List.getElem?_cons_zero,List.getElem?_cons_succ,List.set_cons_zero,List.set_cons_succ,List.foldl_cons,List.foldl_nil,Option.getD_some,Bool.and_true,Nat.reduceAdd,Nat.reduceSub,cm_eqL,rep_ok (x:=0) (show 0<=n by omega) (show n<=100000 by omega),rep_ok (x:=1) (show 0<=n by omega) (show n<=100000 by omega),e]
 all_goals rfl
theorem check_wheel_eq (n:Int):F_Q04 [.int n]=if 1<=n/\n<=60 then .ok .non true else .exc "NoWheel":=by
 by_cases h1:n<1
 ·have h3:¬ (1<=n/\n<=60):=by omega
  simp only[F_Q04,b_Q04,Dv.fn,sIf,eOr,eCm,eVar,eInt,Dv.all,R.bind,RL.bind,Out.bind,get_sh,scal_int,List.map_cons,List.map_nil,List.length_cons,List.length_nil,List.replicate,List.cons_append,List.nil_append,List.getElem?_cons_zero,Nat.reduceAdd,Nat.reduceSub,cm_lt,decide_eq_true h1,if_neg h3,sRaise]
 ·by_cases h2:60<n
  ·have h3:¬ (1<=n/\n<=60):=by omega
   simp only[F_Q04,b_Q04,Dv.fn,sIf,eOr,eCm,eVar,eInt,Dv.all,R.bind,RL.bind,Out.bind,get_sh,scal_int,List.map_cons,List.map_nil,List.length_cons,List.length_nil,List.replicate,List.cons_append,List.nil_append,List.getElem?_cons_zero,Nat.reduceAdd,Nat.reduceSub,cm_lt,cm_gt,decide_eq_true h2,decide_eq_false h1,if_neg h3,sRaise]
  ·have h3:1<=n/\n<=60:=by omega
   simp only[F_Q04,b_Q04,Dv.fn,sNil,sIf,eOr,eCm,eVar,eInt,Dv.all,R.bind,RL.bind,Out.bind,get_sh,scal_int,List.map_cons,List.map_nil,List.length_cons,List.length_nil,List.replicate,List.cons_append,List.nil_append,List.getElem?_cons_zero,Nat.reduceAdd,Nat.reduceSub,cm_lt,cm_gt,decide_eq_false h2,decide_eq_false h1,if_pos h3,sRaise]
theorem at_last {xs:List Int}(h:xs≠[]):Dv.at? (xs.map D.int) (-1)=some (.int (xs.getLast h)):=by
 have hl:0<xs.length:=List.length_pos_iff.mpr h
 unfold Dv.at?
 rw[if_neg (by omega),if_pos (by simp; omega)]
 have:((-1:Int)+((xs.map D.int).length:Int)).toNat=xs.length-1:=by simp; omega
 rw[this,List.getElem?_map,List.getElem?_eq_getElem (by omega),List.getLast_eq_getElem]
 rfl
theorem set_L (c:List Int)(i:Nat)(x:Int):(c.map D.int).set i (.int x)=(c.set i x).map D.int:=by
 rw[List.map_set]
noncomputable def ones (c:List Int)(xs:List Int):List Int:=xs.foldl (fun c x=>c.set x.toNat 1) c
theorem ones_len:∀ (xs c:List Int),(ones c xs).length=c.length
 | [],c=>rfl
 | x::r,c=>by unfold ones; rw[List.foldl_cons]; have:=ones_len r (c.set x.toNat 1); unfold ones at this; rw[this,List.length_set]
theorem ones_get:∀ (xs c:List Int) (i:Nat),(∀ x∈xs,0<=x)->i<c.length->(ones c xs)[i]?=if (i:Int)∈xs then some 1 else c[i]?
 | [],c,i,_,_=>by simp[ones]
 | x::r,c,i,h,hi=>by
  have e:ones c (x::r)=ones (c.set x.toNat 1) r:=rfl
  have hx:=h x (List.mem_cons_self ..)
  rw[e,ones_get r _ i (fun y hy=>h y (List.mem_cons_of_mem _ hy)) (by rw[List.length_set]; exact hi)]
  by_cases h1:(i:Int)∈r
  ·rw[if_pos h1,if_pos (List.mem_cons_of_mem _ h1)]
  ·rw[if_neg h1]
   by_cases h2:(i:Int)=x
   ·rw[if_pos (by rw[h2]; exact List.mem_cons_self ..)]
    have:x.toNat=i:=by omega
    rw[this,List.getElem?_set_self hi]
   ·rw[if_neg (by simp[h1,h2]),List.getElem?_set_ne (by omega)]
theorem ones_is {xs:List Int}{m:Nat}(h:∀ x∈xs,0<=x):ones (List.replicate m 0) xs=(upto m).map fun i=>if i∈xs then 1 else 0:=by
 apply List.ext_getElem?
 intro i
 by_cases hi:i<m
 ·rw[ones_get xs _ i h (by simpa using hi)]
  unfold upto
  rw[List.map_map,List.getElem?_map,List.getElem?_range hi,List.getElem?_replicate]
  simp only[Option.map_some,Function.comp,if_pos hi]
  split <;>rfl
 ·rw[List.getElem?_eq_none (by rw[ones_len]; simpa using hi),List.getElem?_eq_none (by simp[upto_len]; omega)]
noncomputable def bsum (xs:List Int):List Int:=if h:xs=[] then [] else (upto (xs.getLast h+1).toNat).map fun i=>if i∈xs then 1 else 0
theorem bsum_nil:bsum []=[]:=by simp[bsum]
theorem beat_sum_nil:F_Q01 [.lst []]=.ok (.lst []) true:=rfl
theorem beat_sum_loop (A:D):∀ (xs c:List Int) (z:Sl),(∀ x∈xs,0<=x/\x<c.length)->∃ z',forGo 2 b_Q01_l1 (xs.map .int) [.sh A,.ow (L c),z]=.nx [.sh A,.ow (L (ones c xs)),z']
 | [],c,z,_=>⟨z,rfl⟩
 | x::r,c,z,h=>by
  obtain⟨h1,h2⟩:=h x (List.mem_cons_self ..)
  obtain⟨z',e⟩:=beat_sum_loop A r (c.set x.toNat 1) (.sh (.int x)) (fun y hy=>by rw[List.length_set]; exact h y (List.mem_cons_of_mem _ hy))
  refine⟨z',?_⟩
  rw[List.map_cons,forGo_nx (st':=[.sh A,.ow (L (c.set x.toNat 1)),.sh (.int x)]),e]
  ·rfl
  ·simp only[b_Q01_l1,sPut,eVar,eInt,Dv.all,get_sh,get_ow,scal_int,List.map_cons,List.map_nil,List.getElem?_cons_zero,List.getElem?_cons_succ,List.set_cons_zero,List.set_cons_succ,Bool.and_true,if_true,List.length_map,decide_eq_true h1,decide_eq_true h2,set_L]
structure Up (m:Int)(xs:List Int):Prop where
 up:xs.Pairwise (·<·)
 rg:∀ x∈xs,0<=x/\x<m
theorem Up.last {m:Int}{xs:List Int}(h:Up m xs)(ne:xs≠[]):∀ x∈xs,x<=xs.getLast ne:=fun x hx=>by
 obtain⟨i,hi,rfl⟩:=List.mem_iff_getElem.mp hx
 rw[List.getLast_eq_getElem]
 by_cases e:i=xs.length-1
 ·subst e; omega
 ·have:=List.pairwise_iff_getElem.mp h.up i (xs.length-1) hi (by omega) (by omega)
  omega
theorem beat_sum_ok {m:Int}{xs:List Int}(h:Up m xs)(hm:m<=1000):F_Q01 [L xs]=.ok (L (bsum xs)) true:=by
 by_cases ne:xs=[]
 ·subst ne; rw[bsum_nil]; exact beat_sum_nil
 ·have hl:¬ ((xs.length:Int)=0):=by
   have:0<xs.length:=List.length_pos_iff.mpr ne
   omega
  have hla:=h.rg (xs.getLast ne) (List.getLast_mem ne)
  have hb:bsum xs=(upto (xs.getLast ne+1).toNat).map fun i=>if i∈xs then 1 else 0:=by unfold bsum; rw[dif_neg ne]
  rw[hb]
  have hat:=at_last ne
  obtain⟨z,e⟩:=beat_sum_loop (L xs) xs (List.replicate (xs.getLast ne+1).toNat 0) .no (fun x hx=>by
   have:=h.last ne x hx
   have:=(h.rg x hx).1
   simp; omega)
  rw[ones_is fun x hx=>(h.rg x hx).1] at e
  have hre:=rep_ok (x:=0) (n:=xs.getLast ne+1) (by omega) (by omega)
  simp only[F_Q01,b_Q01,b_Q01_t3,b_Q01_t2,b_Q01_t1,Dv.fn,sCons,sNil,sSet,keep_L,Dv.give,Dv.open_,give_sh,shared_no,shared_sh,shared_ow,sIf,sRetO,sFor,iSeq,eB1,Dv.lenD,eIx,Dv.ixD,eNeg,eCm,eOp,eVar,eInt,eLst,lNil,lCons,Dv.all,R.bind,RL.bind,Dv.R.bindL,Dv.RL.bindL,Out.bind,get_no,get_sh,scal_int,scal_lst,List.map_cons,List.map_nil,List.length_cons,List.length_nil,List.replicate,List.cons_append,List.nil_append,List.getElem?_cons_zero,List.getElem?_cons_succ,List.set_cons_zero,List.set_cons_succ,List.foldl_cons,List.foldl_nil,Option.getD_some,Bool.or_true,Bool.and_true,Nat.reduceAdd,Nat.reduceSub,add_ok,cm_eqI,flat_L,List.length_map,decide_eq_false hl,hat,hre,e]
end Cw
namespace Pl
noncomputable def co (a:List Int)(i:Nat):Int:=a.getD i 0
theorem co_nil (i:Nat):co [] i=0:=by simp[co]
theorem co_zero (x:Int)(r:List Int):co (x::r) 0=x:=rfl
theorem co_succ (x:Int)(r:List Int)(i:Nat):co (x::r) (i+1)=co r i:=by simp[co]
theorem co_over {a:List Int}{i:Nat}(h:a.length<=i):co a i=0:=by
 unfold co; rw[List.getD_eq_getElem?_getD,List.getElem?_eq_none h]; rfl
theorem co_get {a:List Int}{i:Nat}(h:i<a.length):co a i=a[i]:=by
 unfold co; rw[List.getD_eq_getElem?_getD,List.getElem?_eq_getElem h]; rfl
noncomputable def sh (f:Nat->Int):Nat->Int
 | 0=>0
 | p+1=>f p
noncomputable def cf:List Int->(Nat->Int)->Nat->Int
 | [],_,_=>0
 | x::r,g,p=>x*g p+sh (cf r g) p
theorem cf_nil (g:Nat->Int)(p:Nat):cf [] g p=0:=rfl
theorem cf_z (x:Int)(r:List Int)(g:Nat->Int):cf (x::r) g 0=x*g 0:=by simp[cf,sh]
theorem cf_s (x:Int)(r:List Int)(g:Nat->Int)(p:Nat):cf (x::r) g (p+1)=x*g (p+1)+cf r g p:=by simp[cf,sh]
theorem cf_congr {g h:Nat->Int}:∀ (a:List Int) (p:Nat),(∀ i,i<=p->g i=h i)->cf a g p=cf a h p
 | [],p,_=>rfl
 | x::r,0,e=>by rw[cf_z,cf_z,e 0 (Nat.le_refl _)]
 | x::r,p+1,e=>by rw[cf_s,cf_s,e _ (Nat.le_refl _),cf_congr r p fun i hi=>e i (by omega)]
theorem cf_add (g h:Nat->Int):∀ (a:List Int) (p:Nat),cf a (fun i=>g i+h i) p=cf a g p+cf a h p
 | [],p=>by simp[cf]
 | x::r,0=>by rw[cf_z,cf_z,cf_z,Int.mul_add]
 | x::r,p+1=>by rw[cf_s,cf_s,cf_s,cf_add g h r p,Int.mul_add]; omega
theorem cf_smul (c:Int)(g:Nat->Int):∀ (a:List Int) (p:Nat),cf a (fun i=>c*g i) p=c*cf a g p
 | [],p=>by simp[cf]
 | x::r,0=>by rw[cf_z,cf_z,Int.mul_left_comm]
 | x::r,p+1=>by rw[cf_s,cf_s,cf_smul c g r p,Int.mul_add,Int.mul_left_comm]
theorem cf_zero:∀ (a:List Int) (p:Nat),cf a (fun _=>0) p=0
 | [],p=>rfl
 | x::r,0=>by rw[cf_z,Int.mul_zero]
 | x::r,p+1=>by rw[cf_s,cf_zero r p,Int.mul_zero]; rfl
theorem cf_cons (x:Int)(r:List Int):∀ (b:List Int) (p:Nat),cf b (co (x::r)) p=x*co b p+sh (cf b (co r)) p
 | [],0=>by simp[cf,co,sh]
 | [],p+1=>by simp[cf,co,sh]
 | y::s,0=>by rw[cf_z,co_zero,co_zero,Int.mul_comm]; simp[sh]
 | y::s,p+1=>by
  rw[cf_s,cf_cons x r s p,co_succ,co_succ]
  show y*co r p+(x*co s p+sh (cf s (co r)) p)=x*co s p+cf (y::s) (co r) p
  have:cf (y::s) (co r) p=y*co r p+sh (cf s (co r)) p:=rfl
  rw[this]; omega
theorem cf_comm:∀ (a b:List Int) (p:Nat),cf a (co b) p=cf b (co a) p
 | [],b,p=>by
  rw[cf_nil]
  have:cf b (co []) p=cf b (fun _=>0) p:=cf_congr b p fun i _=>co_nil i
  rw[this,cf_zero]
 | x::r,b,0=>by rw[cf_z,cf_cons]; simp[sh]
 | x::r,b,p+1=>by rw[cf_s,cf_cons]; show _=_+cf b (co r) p; rw[cf_comm r b p]
theorem cf_over:∀ {a b:List Int} {p:Nat},a.length+b.length<=p+1->cf a (co b) p=0
 | [],b,p,_=>rfl
 | x::r,b,0,h=>by
  have:b=[]:=List.eq_nil_of_length_eq_zero (by simp at h; omega)
  subst this
  rw[cf_z,co_nil,Int.mul_zero]
 | x::r,b,p+1,h=>by
  simp only[List.length_cons] at h
  rw[cf_s,co_over (by omega),cf_over (a:=r) (b:=b) (p:=p) (by omega)]
  simp
theorem cf_top:∀ {a b:List Int},a≠[]->b≠[]->cf a (co b) (a.length+b.length-2)=co a (a.length-1)*co b (b.length-1)
 | [],_,h,_=>absurd rfl h
 | [x],b,_,hb=>by
  have:0<b.length:=List.length_pos_iff.mpr hb
  have e:[x].length+b.length-2=b.length-1:=by simp; omega
  rw[e]
  show x*co b (b.length-1)+sh (cf [] (co b)) (b.length-1)=_
  have:sh (cf [] (co b)) (b.length-1)=0:=by cases b.length-1 <;>rfl
  rw[this]; simp[co]
 | x::y::r,b,_,hb=>by
  have hl:0<b.length:=List.length_pos_iff.mpr hb
  have e:(x::y::r).length+b.length-2=((y::r).length+b.length-2)+1:=by simp; omega
  rw[e,cf_s,co_over (by simp; omega),cf_top (a:=y::r) (by simp) hb]
  simp[co]
theorem ext_co {a b:List Int}(hl:a.length=b.length)(h:∀ i,i<a.length->co a i=co b i):a=b:=by
 apply List.ext_getElem hl
 intro i h1 h2
 have:=h i h1
 rw[co_get h1,co_get h2] at this
 exact this
noncomputable def Tr (a:List Int):Prop:=a=[]\/co a (a.length-1)≠0
theorem tr_ext {a b:List Int}(ha:Tr a)(hb:Tr b)(h:∀ i,co a i=co b i):a=b:=by
 have hl:a.length=b.length:=by
  rcases Nat.lt_trichotomy a.length b.length with hh|hh|hh
  ·exfalso
   rcases hb with hb|hb
   ·subst hb; simp at hh
   ·exact hb (by rw[<- h,co_over (by omega)])
  ·exact hh
  ·exfalso
   rcases ha with ha|ha
   ·subst ha; simp at hh
   ·exact ha (by rw[h,co_over (by omega)])
 exact ext_co hl fun i _=>h i
noncomputable def upto (n:Nat)(f:Nat->Int):List Int:=(List.range n).map f
theorem upto_len (n:Nat)(f:Nat->Int):(upto n f).length=n:=by simp[upto]
theorem co_upto {n:Nat}{f:Nat->Int}{i:Nat}(h:i<n):co (upto n f) i=f i:=by
 rw[co_get (by rw[upto_len]; exact h)]; simp[upto]
noncomputable def mul (a b:List Int):List Int:=if a=[]\/b=[] then [] else upto (a.length+b.length-1) (cf a (co b))
theorem mul_nil (a:List Int):mul a []=[]:=by simp[mul]
theorem nil_mul (a:List Int):mul [] a=[]:=by simp[mul]
theorem mul_len {a b:List Int}(ha:a≠[])(hb:b≠[]):(mul a b).length=a.length+b.length-1:=by
 unfold mul; rw[if_neg (by simp[ha,hb]),upto_len]
theorem co_mul (a b:List Int)(p:Nat):co (mul a b) p=cf a (co b) p:=by
 by_cases ha:a=[]
 ·subst ha; rw[nil_mul,co_nil]; rfl
 by_cases hb:b=[]
 ·subst hb; rw[mul_nil,co_nil,cf_comm]; rfl
 have h1:0<a.length:=List.length_pos_iff.mpr ha
 have h2:0<b.length:=List.length_pos_iff.mpr hb
 by_cases hp:p<a.length+b.length-1
 ·unfold mul; rw[if_neg (by simp[ha,hb]),co_upto hp]
 ·rw[co_over (by rw[mul_len ha hb]; omega),cf_over (by omega)]
theorem mul_comm (a b:List Int):mul a b=mul b a:=by
 by_cases ha:a=[]
 ·subst ha; rw[nil_mul,mul_nil]
 by_cases hb:b=[]
 ·subst hb; rw[nil_mul,mul_nil]
 refine ext_co (by rw[mul_len ha hb,mul_len hb ha]; omega) fun i _=>?_
 rw[co_mul,co_mul,cf_comm]
theorem one_mul (a:List Int):mul [1] a=a:=by
 by_cases ha:a=[]
 ·subst ha; rw[mul_nil]
 refine ext_co (by rw[mul_len (by simp) ha]; simp) fun i _=>?_
 rw[co_mul]
 show 1*co a i+sh (cf [] (co a)) i=co a i
 have:sh (cf [] (co a)) i=0:=by cases i <;>rfl
 rw[this]; omega
theorem mul_one (a:List Int):mul a [1]=a:=by rw[mul_comm,one_mul]
structure Mo (o:List Int):Prop where
 ne:o≠[]
 top:co o (o.length-1)=1
theorem Mo.mul {a b:List Int}(ha:Mo a)(hb:Mo b):Mo (mul a b):=by
 have h1:0<a.length:=List.length_pos_iff.mpr ha.ne
 have h2:0<b.length:=List.length_pos_iff.mpr hb.ne
 have hl:=mul_len ha.ne hb.ne
 refine⟨by intro h; rw[h] at hl; simp at hl; omega,?_⟩
 rw[hl,co_mul]
 have:a.length+b.length-1-1=a.length+b.length-2:=by omega
 rw[this,cf_top ha.ne hb.ne,ha.top,hb.top]
 rfl
theorem mo_few {o:List Int}(ho:Mo o):∀ {q:List Int},(∀ p,o.length-1<=p->cf q (co o) p=0)->∀ i,co q i=0:=by
 intro q
 generalize hn:q.length=n
 induction n generalizing q with
 | zero=>intro _ i; exact co_over (by omega)
 | succ n ih =>
  intro h i
  have hq:q≠[]:=by intro z; rw[z] at hn; simp at hn
  have ho1:0<o.length:=List.length_pos_iff.mpr ho.ne
  have top:=h (q.length+o.length-2) (by omega)
  rw[cf_top hq ho.ne,ho.top,Int.mul_one] at top
  have e:∀ i,co (q.take n) i=co q i:=fun i=>by
   by_cases hi:i<n
   ·unfold co; rw[List.getD_eq_getElem?_getD,List.getD_eq_getElem?_getD,List.getElem?_take_of_lt hi]
   ·rw[co_over (by rw[List.length_take]; omega)]
    by_cases hi2:i=n
    ·have e1:q.length-1=n:=by omega
     rw[hi2,<- e1]; exact top.symm
    ·rw[co_over (by omega)]
  rw[<- e i]
  refine ih (q:=q.take n) (by rw[List.length_take]; omega) (fun p hp=>?_) i
  rw[cf_comm,cf_congr o p fun j _=>e j,cf_comm]
  exact h p hp
theorem cf_sub (a:List Int)(g h:Nat->Int)(p:Nat):cf a (fun i=>g i-h i) p=cf a g p-cf a h p:=by
 have e:(fun i=>g i-h i)=fun i=>g i+(-1)*h i:=by funext i; omega
 rw[e,cf_add,cf_smul]; omega
theorem div_one {o q q':List Int}{r r':Nat->Int}(ho:Mo o)(hr:∀ i,o.length-1<=i->r i=0)(hr':∀ i,o.length-1<=i->r' i=0)(h:∀ p,cf q (co o) p+r p=cf q' (co o) p+r' p) :
  (∀ i,co q i=co q' i)/\∀ i,r i=r' i:=by
 let d:=upto (max q.length q'.length) fun i=>co q i-co q' i
 have hd:∀ i,co d i=co q i-co q' i:=fun i=>by
  by_cases hi:i<max q.length q'.length
  ·exact co_upto hi
  ·rw[co_over (by rw[upto_len]; omega),co_over (a:=q) (by omega),co_over (a:=q') (by omega)]; rfl
 have hc:∀ p,cf d (co o) p=cf q (co o) p-cf q' (co o) p:=fun p=>by
  rw[cf_comm,cf_congr o p fun j _=>hd j,cf_sub,cf_comm o q,cf_comm o q']
 have z:=mo_few ho (q:=d) fun p hp=>by
  rw[hc]; have:=h p; rw[hr p hp,hr' p hp] at this; omega
 have e1:∀ i,co q i=co q' i:=fun i=>by have:=hd i; rw[z i] at this; omega
 refine⟨e1,fun i=>?_⟩
 have e2:cf q (co o) i=cf q' (co o) i:=by rw[cf_comm,cf_congr o i fun j _=>e1 j,cf_comm]
 have:=h i
 omega
end Pl
namespace Cw
open Dv (Out R RL compGo eAnd eB1 eBl eCall eCm eDict0 eDix eInt eIx eLst eNeg eOp eOr ePart eSlice eVar forGo iDown iEnum iRange2 iSeq lCons lNil opD rngOk sAug sAugIx sCons sDMove sExpr sFor sForR sForT sIf sNil sPut sRet sRetO sRetT sSet sSetD sWhile whileGo)
open Dv (D R RL EE EL EI RI Sl Out SS St)
open Bt
open Pl (co cf sh)
theorem at_co {s:List Int}{k:Int}(h:0<=k)(h2:k<s.length):Dv.at? (s.map .int) k=some (.int (co s k.toNat)):=at_L h h2
noncomputable def rowAdd (c:List Int)(i:Nat)(x:Int):List Int->List Int
 | []=>c
 | y::r=>rowAdd (c.set i (co c i+x*y)) (i+1) x r
theorem rowAdd_len (x:Int):∀ (b:List Int) (c:List Int) (i:Nat),(rowAdd c i x b).length=c.length
 | [],c,i=>rfl
 | y::r,c,i=>by unfold rowAdd; rw[rowAdd_len x r,List.length_set]
theorem co_set {c:List Int}{i:Nat}{x:Int}(h:i<c.length)(p:Nat):co (c.set i x) p=if p=i then x else co c p:=by
 unfold co
 rw[List.getD_eq_getElem?_getD,List.getD_eq_getElem?_getD]
 by_cases e:p=i
 ·subst e; rw[List.getElem?_set_self h,if_pos rfl]; rfl
 ·rw[List.getElem?_set_ne (Ne.symm e),if_neg e]
theorem co_rowAdd (x:Int):∀ (b:List Int) (c:List Int) (i:Nat),i+b.length<=c.length->∀ p,co (rowAdd c i x b) p=co c p+if i<=p then x*co b (p-i) else 0
 | [],c,i,_,p=>by
  unfold rowAdd
  rw[Pl.co_nil]; simp
 | y::r,c,i,h,p=>by
  rw[List.length_cons] at h
  unfold rowAdd
  rw[co_rowAdd x r _ (i+1) (by rw[List.length_set]; omega) p,co_set (by omega)]
  by_cases e:p=i
  ·subst e
   rw[if_pos rfl,if_neg (by omega),if_pos (Nat.le_refl _),Nat.sub_self,Pl.co_zero]; omega
  ·rw[if_neg e]
   by_cases hp:i<=p
   ·rw[if_pos (by omega),if_pos hp]
    have:p-i=(p-(i+1))+1:=by omega
    rw[this,Pl.co_succ]
   ·rw[if_neg (by omega),if_neg hp]
theorem enum_cons (k:Nat)(x:Int)(r:List Int):Dv.enumL k ((x::r).map .int)=.tup [.int k,.int x]::Dv.enumL (k+1) (r.map .int):=rfl
noncomputable def trim (a:List Int):List Int:=(a.reverse.dropWhile fun x=>decide (x=0)).reverse
theorem trim_snoc (b:List Int)(x:Int):trim (b++[x])=if x=0 then trim b else b++[x]:=by
 unfold trim
 rw[List.reverse_append,List.reverse_cons,List.reverse_nil,List.nil_append,List.cons_append,List.nil_append,List.dropWhile_cons]
 by_cases h:x=0
 ·simp[h]
 ·simp[h]
theorem snoc_of {a:List Int}(h:a≠[]):a.dropLast++[a.getLast h]=a:=List.dropLast_concat_getLast h
theorem trim_ind {P:List Int->Prop}(h0:P [])(h1:∀ b x,P b->P (b++[x])):∀ a,P a:=by
 intro a
 generalize hn:a.length=n
 induction n generalizing a with
 | zero=>rw[List.eq_nil_of_length_eq_zero hn]; exact h0
 | succ n ih =>
  have ne:a≠[]:=by intro z; rw[z] at hn; simp at hn
  rw[<- snoc_of ne]
  exact h1 _ _ (ih _ (by rw[List.length_dropLast]; omega))
theorem trim_len:∀ a:List Int,(trim a).length<=a.length:=trim_ind (by simp[trim]) fun b x ih=>by
 rw[trim_snoc]; split
 ·simp; omega
 ·exact Nat.le_refl _
theorem co_snoc (b:List Int)(x:Int)(i:Nat):co (b++[x]) i=if i=b.length then x else co b i:=by
 unfold co
 rw[List.getD_eq_getElem?_getD,List.getD_eq_getElem?_getD]
 by_cases h:i<b.length
 ·rw[List.getElem?_append_left h,if_neg (by omega)]
 ·by_cases e:i=b.length
  ·subst e; simp
  ·rw[List.getElem?_eq_none (by simp; omega),List.getElem?_eq_none (by omega),if_neg e]
theorem co_trim:∀ a:List Int,∀ i,co (trim a) i=co a i:=trim_ind (fun i=>rfl) fun b x ih i=>by
 rw[trim_snoc]
 by_cases h:x=0
 ·rw[if_pos h,ih,co_snoc]
  split
  ·rename_i e; rw[Pl.co_over (by omega),h]
  ·rfl
 ·rw[if_neg h]
theorem tr_trim:∀ a:List Int,Pl.Tr (trim a):=trim_ind (.inl rfl) fun b x ih=>by
 rw[trim_snoc]
 by_cases h:x=0
 ·rw[if_pos h]; exact ih
 ·rw[if_neg h]
  refine .inr ?_
  rw[co_snoc,if_pos (by simp)]
  exact h
theorem trim_take:∀ a:List Int,a.take (trim a).length=trim a:=trim_ind rfl fun b x ih=>by
 rw[trim_snoc]
 by_cases h:x=0
 ·rw[if_pos h,List.take_append_of_le_length (trim_len b)]; exact ih
 ·rw[if_neg h,List.take_length]
theorem take_snoc {xs:List Int}{n:Nat}(h:n<xs.length):xs.take (n+1)=xs.take n++[co xs n]:=by
 rw[Pl.co_get h,List.take_succ_eq_append_getElem h]
theorem noughts_while (xs:List Int):∀ (n m:Nat),n<=xs.length->n<m->whileGo (eAnd (eCm .gt (eVar 1) (eInt 0)) (eCm .eq (eIx (eVar 0) (eOp .sub (eVar 1) (eInt 1))) (eInt 0))) b_Q19_l1 m [.sh (L xs),.sh (.int n)]=.nx [.sh (L xs),.sh (.int (trim (xs.take n)).length)]
 | 0,m+1,_,_=>by
  rw[whileGo]
  simp only[eIx,Dv.ixD,eAnd,eCm,eOp,eVar,eInt,Dv.all,R.bind,RL.bind,Out.bind,get_sh,scal_int,scal_lst,List.map_cons,List.map_nil,List.getElem?_cons_zero,List.getElem?_cons_succ,Bool.false_or,sub_ok,Dv.cmD_eq,Dv.cmD_ne,Dv.cmD_lt,Dv.cmD_le,Dv.cmD_gt,Dv.cmD_ge,Dv.cmD_in,Dv.cmD_ni,Dv.cmD_it,Dv.cmD_nt]
  rfl
 | n+1,m+1,h,hm=>by
  have hat:=at_co (s:=xs) (k:=(n:Int)) (by omega) (by omega)
  rw[Int.toNat_natCast] at hat
  have e1:(((n+1:Nat):Int)-1)=(n:Int):=by omega
  have h0:(0:Int)<((n+1:Nat):Int):=by omega
  have ih:=noughts_while xs n m (by omega) (by omega)
  rw[whileGo,take_snoc (by omega),trim_snoc]
  by_cases hz:co xs n=0
  ·rw[if_pos hz]
   simp only[eIx,Dv.ixD,eAnd,eCm,eOp,eVar,eInt,Dv.all,R.bind,RL.bind,Out.bind,get_sh,sAug,scal_int,scal_lst,List.map_cons,List.map_nil,List.getElem?_cons_zero,List.getElem?_cons_succ,List.set_cons_zero,List.set_cons_succ,Bool.or_true,sub_ok,cm_gt,cm_eqI,decide_eq_true h0,e1,hat,decide_eq_true hz,b_Q19_l1]
   exact ih
  ·rw[if_neg hz]
   have hl:(xs.take n++[co xs n]).length=n+1:=by simp; omega
   simp only[eIx,Dv.ixD,eAnd,eCm,eOp,eVar,eInt,Dv.all,R.bind,RL.bind,Out.bind,get_sh,scal_int,scal_lst,List.map_cons,List.map_nil,List.getElem?_cons_zero,List.getElem?_cons_succ,Bool.or_true,sub_ok,cm_gt,cm_eqI,decide_eq_true h0,e1,hat,decide_eq_false hz,hl]
theorem cut_take {α:Type}(ds:List α)(n:Nat)(h:n<=ds.length):Dv.cutL ds none (some (n:Int))=ds.take n:=by
 unfold Dv.cutL Dv.cutI
 have h1:¬ ((n:Int)<0):=by omega
 simp only[h1,if_false,List.drop_zero,Int.toNat_natCast,Nat.sub_zero]
 rw[Nat.min_eq_left h]
theorem cut_takeA {α:Type}(ds:List α)(n:Nat):Dv.cutL ds none (some (n:Int))=ds.take n:=by
 by_cases h:n<=ds.length
 ·exact cut_take ds n h
 ·unfold Dv.cutL Dv.cutI
  have h1:¬ ((n:Int)<0):=by omega
  simp only[h1,if_false,List.drop_zero,Int.toNat_natCast,Nat.sub_zero]
  rw[Nat.min_eq_right (by omega),List.take_length,List.take_of_length_le (by omega)]
theorem without_ok {xs:List Int}(h:xs.length<99999):F_Q19 [L xs]=.ok (L (trim xs)) true:=by
 have w:=noughts_while xs xs.length 100000 (Nat.le_refl _) (by omega)
 rw[List.take_length] at w
 have hc:Dv.cutL (xs.map D.int) none (some ((trim xs).length:Int))=(trim xs).map D.int:=by
  rw[cut_take _ _ (by rw[List.length_map]; exact trim_len xs),<- List.map_take,trim_take]
 simp only[F_Q19,b_Q19,b_Q19_t2,b_Q19_t1,Dv.fn,sCons,sSet,keep_int,sRet,sWhile,eB1,Dv.lenD,eVar,eSlice,ePart,Dv.all,R.bind,RL.bind,Out.bind,get_no,get_sh,scal_int,scal_lst,List.map_cons,List.map_nil,List.length_cons,List.length_nil,List.replicate,List.cons_append,List.nil_append,List.getElem?_cons_zero,List.getElem?_cons_succ,List.set_cons_zero,List.set_cons_succ,Bool.or_true,Nat.reduceAdd,Nat.reduceSub,flat_L,List.length_map,w,Dv.sliceD,hc]
theorem rep_co (n i:Nat):co (List.replicate n 0) i=0:=by
 unfold co; rw[List.getD_eq_getElem?_getD,List.getElem?_replicate]; split <;>rfl
noncomputable def divGo (o:List Int)(m:Nat):Nat->List Int->List Int->List Int × List Int
 | 0,rest,share=>(rest,share)
 | n+1,rest,share=>divGo o m n (rowAdd rest n (-(co rest (n+m))) o) (share.set n (co rest (n+m)))
theorem divGo_len (o:List Int)(m:Nat):∀ (n:Nat) (rest share:List Int),(divGo o m n rest share).1.length=rest.length/\(divGo o m n rest share).2.length=share.length
 | 0,rest,share=>⟨rfl,rfl⟩
 | n+1,rest,share=>by
  unfold divGo
  have:=divGo_len o m n (rowAdd rest n (-(co rest (n+m))) o) (share.set n (co rest (n+m)))
  rw[rowAdd_len,List.length_set] at this
  exact this
theorem cf_setz (o:Nat->Int):∀ (q:List Int) (n:Nat) (x:Int),n<q.length->co q n=0->∀ p,cf (q.set n x) o p=cf q o p+if n<=p then x*o (p-n) else 0
 | [],n,x,h,_,p=>by simp at h
 | y::r,0,x,_,hz,p=>by
  have hy:y=0:=hz
  rw[List.set_cons_zero,if_pos (Nat.zero_le _),Nat.sub_zero]
  show x*o p+sh (cf r o) p=y*o p+sh (cf r o) p+x*o p
  rw[hy]; omega
 | y::r,n+1,x,h,hz,0=>by
  rw[List.set_cons_succ,Pl.cf_z,Pl.cf_z,if_neg (by omega)]; omega
 | y::r,n+1,x,h,hz,p+1=>by
  rw[List.set_cons_succ,Pl.cf_s,Pl.cf_s,cf_setz o r n x (by simpa using h) (by rw[Pl.co_succ] at hz; exact hz) p]
  by_cases hp:n<=p
  ·rw[if_pos hp,if_pos (by omega)]
   have:p+1-(n+1)=p-n:=by omega
   rw[this]; omega
  ·rw[if_neg hp,if_neg (by omega)]; omega
theorem divGo_ok {o:List Int}{m:Nat}(hm:o.length=m+1)(ho:co o m=1):∀ (n:Nat) (rest share:List Int),(0<n->n+m<=rest.length)->n<=share.length->(∀ i,i<n->co share i=0)->(∀ p,n+m<=p->co rest p=0) ->
  (∀ p,cf (divGo o m n rest share).2 (co o) p+co (divGo o m n rest share).1 p=cf share (co o) p+co rest p)/\(∀ p,m<=p->co (divGo o m n rest share).1 p=0)/\∀ i,n<=i->co (divGo o m n rest share).2 i=co share i
 | 0,rest,share,_,_,_,hz=>⟨fun p=>rfl,fun p hp=>hz p (by omega),fun i _=>rfl⟩
 | n+1,rest,share,h1,h2,h3,h4=>by
  have h1:=h1 (by omega)
  unfold divGo
  have hr:=co_rowAdd (-(co rest (n+m))) o rest n (by omega)
  have ih:=divGo_ok hm ho n (rowAdd rest n (-(co rest (n+m))) o) (share.set n (co rest (n+m))) (fun _=>by rw[rowAdd_len]; omega) (by rw[List.length_set]; omega)
   (fun i hi=>by rw[co_set (by omega),if_neg (by omega)]; exact h3 i (by omega))
   (fun p hp=>by
    rw[hr,if_pos (by omega)]
    by_cases e:p=n+m
    ·subst e
     have:n+m-n=m:=by omega
     rw[this,ho]; omega
    ·rw[h4 p (by omega),Pl.co_over (a:=o) (by omega)]; simp)
  refine⟨fun p=>?_,ih.2.1,fun i hi=>?_⟩
  ·rw[ih.1 p,hr,cf_setz (co o) share n _ (by omega) (h3 n (by omega))]
   split
   ·rw[Int.neg_mul]; omega
   ·omega
  ·rw[ih.2.2 i (by omega),co_set (by omega),if_neg (by omega)]
noncomputable def Few (o:List Int):Prop:=∀ y∈o,-(2 ^ 64)<y/\y<2 ^ 64
theorem few_cons {x:Int}{r:List Int}(h:Few (x::r)):(-(2 ^ 64)<x/\x<2 ^ 64)/\Few r:=⟨h x (List.mem_cons_self ..),fun y hy=>h y (List.mem_cons_of_mem _ hy)⟩
theorem div_in (A B M:D)(low:Nat)(share:List Int)(hlow:low<share.length):∀ (o c:List Int) (k:Nat) (y z:Sl),Few o->low+k+o.length<=c.length ->
  ∃ y' z',Dv.forGoT (Dv.tupTo [6,7]) b_Q17_l1 (Dv.enumL k (o.map .int)) [.sh A,.sh B,.sh M,.ow (L c),.ow (L share),.sh (.int low),y,z]=.nx [.sh A,.sh B,.sh M,.ow (L (rowAdd c (low+k) (-(co share low)) o)),.ow (L share),.sh (.int low),y',z']
 | [],c,k,y,z,_,_=>⟨y,z,rfl⟩
 | w::r,c,k,y,z,hs,hl=>by
  obtain⟨⟨h1,h1'⟩,h2⟩:=few_cons hs
  rw[List.length_cons] at hl
  have hval:co c (low+k)-co share low*w=co c (low+k) + -(co share low)*w:=by rw[Int.neg_mul]; omega
  obtain⟨y',z',e⟩:=div_in A B M low share hlow r (c.set (low+k) (co c (low+k) + -(co share low)*w)) (k+1) (.sh (.int k)) (.sh (.int w)) h2 (by rw[List.length_set]; omega)
  refine⟨y',z',?_⟩
  have hat:=at_co (s:=c) (k:=(low:Int)+(k:Int)) (by omega) (by omega)
  have hat2:=at_co (s:=share) (k:=(low:Int)) (by omega) (by omega)
  have ht:((low:Int)+(k:Int)).toNat=low+k:=by omega
  have h0:(0:Int)<=(low:Int)+(k:Int):=by omega
  have hm:=mul_ok (mulOk_r (i:=co share low) h1 h1')
  rw[ht] at hat
  rw[Int.toNat_natCast] at hat2
  rw[enum_cons,forGoT_nx (st1:=[.sh A,.sh B,.sh M,.ow (L c),.ow (L share),.sh (.int low),.sh (.int k),.sh (.int w)]) (st':=[.sh A,.sh B,.sh M,.ow (L (c.set (low+k) (co c (low+k) + -(co share low)*w))),.ow (L share),.sh (.int low),.sh (.int k),.sh (.int w)])]
  ·have:low+(k+1)=low+k+1:=by omega
   rw[this] at e
   exact e
  ·rfl
  ·simp only[b_Q17_l1,sAugIx,eIx,Dv.ixD,eOp,eVar,Dv.all,R.bind,RL.bind,Out.bind,get_sh,get_ow,scal_int,scal_lst,List.map_cons,List.map_nil,List.getElem?_cons_zero,List.getElem?_cons_succ,List.set_cons_zero,List.set_cons_succ,Bool.or_true,add_ok,sub_ok,if_pos h0,hat,hat2,hm,ht,set_L,hval]
theorem down_cons (n:Nat):Dv.downL (n:Int) (n+1)=.int n::Dv.downL ((n:Int)-1) n:=rfl
theorem div_out {o:List Int}(hf:Few o){m:Nat}(hm:o.length=m+1)(A:D):∀ (n:Nat) (rest share:List Int) (x y z:Sl),(0<n->n+m<=rest.length)->n<=share.length ->
  ∃ x' y' z',forGo 5 b_Q17_l2 (Dv.downL ((n:Int)-1) n) [.sh A,.sh (L o),.sh (.int m),.ow (L rest),.ow (L share),x,y,z]=.nx [.sh A,.sh (L o),.sh (.int m),.ow (L (divGo o m n rest share).1),.ow (L (divGo o m n rest share).2),x',y',z']
 | 0,rest,share,x,y,z,_,_=>⟨x,y,z,rfl⟩
 | n+1,rest,share,x,y,z,h1,h2=>by
  have h1:=h1 (by omega)
  have hat:=at_co (s:=rest) (k:=(n:Int)+(m:Int)) (by omega) (by omega)
  have ht:((n:Int)+(m:Int)).toNat=n+m:=by omega
  rw[ht] at hat
  obtain⟨y1,z1,e1⟩:=div_in A (L o) (.int m) n (share.set n (co rest (n+m))) (by rw[List.length_set]; omega) o rest 0 y z hf (by omega)
  rw[co_set (by omega),if_pos rfl] at e1
  obtain⟨x',y',z',e⟩:=div_out hf hm A n (rowAdd rest n (-(co rest (n+m))) o) (share.set n (co rest (n+m))) (.sh (.int n)) y1 z1 (fun _=>by rw[rowAdd_len]; omega) (by rw[List.length_set]; omega)
  refine⟨x',y',z',?_⟩
  have e2:(((n+1:Nat):Int)-1)=(n:Int):=by omega
  have hs0:(0:Int)<=(n:Int):=by omega
  have hs1:(n:Int)<(share.length:Int):=by omega
  simp only[Nat.add_zero] at e1
  rw[e2,down_cons,forGo_nx (st':=[.sh A,.sh (L o),.sh (.int m),.ow (L (rowAdd rest n (-(co rest (n+m))) o)),.ow (L (share.set n (co rest (n+m)))),.sh (.int n),y1,z1]),e]
  ·rfl
  ·simp only[b_Q17_l2,sCons,Dv.give,Dv.open_,give_sh,shared_sh,shared_ow,sPut,sForT,eIx,Dv.ixD,eOp,eVar,Dv.all,R.bind,RL.bind,Out.bind,get_sh,get_ow,iEnum,scal_int,scal_lst,List.map_cons,List.map_nil,List.getElem?_cons_zero,List.getElem?_cons_succ,List.set_cons_zero,List.set_cons_succ,List.foldl_cons,List.foldl_nil,Option.getD_some,Bool.or_true,Bool.and_true,if_true,add_ok,List.length_map,hat,decide_eq_true hs0,decide_eq_true hs1,Int.toNat_natCast,set_L,e1]
theorem sum_divided_ok {a o:List Int}(ho:Pl.Mo o)(hf:Few o)(ha:a.length<=1000)(hlo:o.length<=1000) :
  ∃ q r,F_Q17 [L a,L o]=.ok (.tup [L q,L r]) true/\q.length=a.length-(o.length-1)/\Pl.Tr r/\r.length<=o.length-1/\∀ p,co a p=cf q (co o) p+co r p:=by
 have hol:0<o.length:=List.length_pos_iff.mpr ho.ne
 obtain⟨m,hm⟩:∃ m,o.length=m+1:=⟨o.length-1,by omega⟩
 have htop:co o m=1:=by have:=ho.top; rw[hm] at this; exact this
 have n1:¬ ((o.length:Int)=0):=by omega
 have hat:Dv.at? (o.map D.int) (-1)=some (.int 1):=by
  rw[at_last ho.ne,List.getLast_eq_getElem,<- Pl.co_get (by omega),ho.top]
 have hsub:(o.length:Int)-1=(m:Int):=by omega
 have hre:=rep_okZ (x:=0) (n:=(a.length:Int)-(m:Int)) (by omega) (by omega)
 have ht:((a.length:Int)-(m:Int)).toNat=a.length-m:=by omega
 rw[ht] at hre
 obtain⟨x,y,z,e⟩:=div_out hf hm (L a) (a.length-m) a (List.replicate (a.length-m) 0) .no .no .no (by omega) (by simp)
 obtain⟨d1,d2,d3⟩:=divGo_ok hm htop (a.length-m) a (List.replicate (a.length-m) 0) (by omega) (by simp) (fun i _=>rep_co _ i) (fun p hp=>Pl.co_over (by omega))
 obtain⟨l1,l2⟩:=divGo_len o m (a.length-m) a (List.replicate (a.length-m) 0)
 generalize divGo o m (a.length-m) a (List.replicate (a.length-m) 0)=qr at *
 obtain⟨rest,share⟩:=qr
 simp only[List.length_replicate] at l2
 have hrng:(rngOk (((a.length-m:Nat):Int)-1)&&rngOk (-1))=true:=by simp only[rngOk,Bool.and_eq_true,decide_eq_true_eq]; omega
 have htn:((((a.length-m:Nat):Int)-1)-(-1)).toNat=a.length-m:=by omega
 have hc:Dv.cutL (rest.map D.int) none (some (m:Int))=(rest.take m).map D.int:=by rw[cut_takeA,<- List.map_take]
 have hw:=without_ok (xs:=rest.take m) (by simp; omega)
 have hfl:Dv.listD (L a) false=.ok (L a) true:=by simp[Dv.listD,flat_L]
 refine⟨share,trim (rest.take m),?_,by rw[l2,hm]; omega,tr_trim _,?_,fun p=>?_⟩
 ·have hrl:((List.replicate (a.length-m) (0:Int)).length:Int)=((a.length-m:Nat):Int):=by simp
  simp only[F_Q17,b_Q17,b_Q17_t5,b_Q17_t4,b_Q17_t3,b_Q17_t2,b_Q17_t1,Dv.fn,sCons,sNil,sSet,keep_int,keep_L,sIf,eB1,Dv.lenD,Dv.listD,eIx,Dv.ixD,eOr,eNeg,eCm,eOp,eVar,eInt,eLst,lNil,lCons,eCall,eSlice,ePart,Dv.all,R.bind,RL.bind,Dv.R.bindL,Dv.RL.bindL,Out.bind,get_no,get_sh,get_ow,sForR,iDown,scal_int,scal_lst,List.map_cons,List.map_nil,List.length_cons,List.length_nil,List.replicate,List.cons_append,List.nil_append,List.getElem?_cons_zero,List.getElem?_cons_succ,List.set_cons_zero,List.set_cons_succ,Bool.or_true,Bool.and_true,Bool.not_true,if_true,Nat.reduceAdd,Nat.reduceSub,decide_true,sub_ok,cm_eqI,cm_neI,flat_L,List.length_map,decide_eq_false n1,hat,hsub,hre,hrl,hrng,htn,e,sRetT,Dv.sliceD,hc,hw,Bool.not_true,decide_true]
 ·have:=trim_len (rest.take m)
  simp at this
  omega
 ·have h1:=d1 p
  have z0:cf (List.replicate (a.length-m) 0) (co o) p=0:=by
   rw[Pl.cf_comm,Pl.cf_congr o p (fun i _=>rep_co _ i),Pl.cf_zero]
  rw[z0] at h1
  rw[co_trim]
  have h2:co (rest.take m) p=co rest p:=by
   by_cases hp:p<m
   ·unfold co; rw[List.getD_eq_getElem?_getD,List.getD_eq_getElem?_getD,List.getElem?_take_of_lt hp]
   ·rw[Pl.co_over (by simp; omega),d2 p (by omega)]
  rw[h2]
  simp only at h1
  omega
theorem divided_exact {q o:List Int}(ho:Pl.Mo o)(hq:q≠[])(hf:Few o)(hl:q.length+o.length<=900):F_Q17 [L (Pl.mul q o),L o]=.ok (.tup [L q,.lst []]) true:=by
 have hol:0<o.length:=List.length_pos_iff.mpr ho.ne
 have hql:0<q.length:=List.length_pos_iff.mpr hq
 have hml:=Pl.mul_len hq ho.ne
 obtain⟨q',r,e,l1,t,l2,h⟩:=sum_divided_ok (a:=Pl.mul q o) ho hf (by omega) (by omega)
 have key:=Pl.div_one (o:=o) (q:=q') (q':=q) (r:=co r) (r':=fun _=>0) ho (fun i hi=>Pl.co_over (by omega)) (fun _ _=>rfl) (fun p=>by rw[<- h p,Pl.co_mul]; simp)
 have e1:q'=q:=Pl.ext_co (by omega) fun i _=>key.1 i
 have e2:r=[]:=Pl.tr_ext t (.inl rfl) fun i=>by rw[key.2 i,Pl.co_nil]
 rw[e,e1,e2]
 rfl
noncomputable def phiT:List (List Int):=[
 [],
 [-1,1],
 [1,1],
 [1,1,1],
 [1,0,1],
 [1,1,1,1,1],
 [1,-1,1],
 [1,1,1,1,1,1,1],
 [1,0,0,0,1],
 [1,0,0,1,0,0,1],
 [1,-1,1,-1,1],
 [1,1,1,1,1,1,1,1,1,1,1],
 [1,0,-1,0,1],
 [1,1,1,1,1,1,1,1,1,1,1,1,1],
 [1,-1,1,-1,1,-1,1],
 [1,-1,0,1,-1,1,0,-1,1],
 [1,0,0,0,0,0,0,0,1],
 [1,1,1,1,1,1,1,1,1,1,1,1,1,1,1,1,1],
 [1,0,0,-1,0,0,1],
 [1,1,1,1,1,1,1,1,1,1,1,1,1,1,1,1,1,1,1],
 [1,0,-1,0,1,0,-1,0,1],
 [1,-1,0,1,-1,0,1,0,-1,1,0,-1,1],
 [1,-1,1,-1,1,-1,1,-1,1,-1,1],
 [1,1,1,1,1,1,1,1,1,1,1,1,1,1,1,1,1,1,1,1,1,1,1],
 [1,0,0,0,-1,0,0,0,1],
 [1,0,0,0,0,1,0,0,0,0,1,0,0,0,0,1,0,0,0,0,1],
 [1,-1,1,-1,1,-1,1,-1,1,-1,1,-1,1],
 [1,0,0,0,0,0,0,0,0,1,0,0,0,0,0,0,0,0,1],
 [1,0,-1,0,1,0,-1,0,1,0,-1,0,1],
 [1,1,1,1,1,1,1,1,1,1,1,1,1,1,1,1,1,1,1,1,1,1,1,1,1,1,1,1,1],
 [1,1,0,-1,-1,-1,0,1,1],
 [1,1,1,1,1,1,1,1,1,1,1,1,1,1,1,1,1,1,1,1,1,1,1,1,1,1,1,1,1,1,1],
 [1,0,0,0,0,0,0,0,0,0,0,0,0,0,0,0,1],
 [1,-1,0,1,-1,0,1,-1,0,1,-1,1,0,-1,1,0,-1,1,0,-1,1],
 [1,-1,1,-1,1,-1,1,-1,1,-1,1,-1,1,-1,1,-1,1],
 [1,-1,0,0,0,1,-1,1,-1,0,1,-1,1,-1,1,0,-1,1,-1,1,0,0,0,-1,1],
 [1,0,0,0,0,0,-1,0,0,0,0,0,1],
 [1,1,1,1,1,1,1,1,1,1,1,1,1,1,1,1,1,1,1,1,1,1,1,1,1,1,1,1,1,1,1,1,1,1,1,1,1],
 [1,-1,1,-1,1,-1,1,-1,1,-1,1,-1,1,-1,1,-1,1,-1,1],
 [1,-1,0,1,-1,0,1,-1,0,1,-1,0,1,0,-1,1,0,-1,1,0,-1,1,0,-1,1],
 [1,0,0,0,-1,0,0,0,1,0,0,0,-1,0,0,0,1],
 [1,1,1,1,1,1,1,1,1,1,1,1,1,1,1,1,1,1,1,1,1,1,1,1,1,1,1,1,1,1,1,1,1,1,1,1,1,1,1,1,1],
 [1,1,0,-1,-1,0,1,0,-1,-1,0,1,1],
 [1,1,1,1,1,1,1,1,1,1,1,1,1,1,1,1,1,1,1,1,1,1,1,1,1,1,1,1,1,1,1,1,1,1,1,1,1,1,1,1,1,1,1],
 [1,0,-1,0,1,0,-1,0,1,0,-1,0,1,0,-1,0,1,0,-1,0,1],
 [1,0,0,-1,0,0,0,0,0,1,0,0,-1,0,0,1,0,0,0,0,0,-1,0,0,1],
 [1,-1,1,-1,1,-1,1,-1,1,-1,1,-1,1,-1,1,-1,1,-1,1,-1,1,-1,1],
 [1,1,1,1,1,1,1,1,1,1,1,1,1,1,1,1,1,1,1,1,1,1,1,1,1,1,1,1,1,1,1,1,1,1,1,1,1,1,1,1,1,1,1,1,1,1,1],
 [1,0,0,0,0,0,0,0,-1,0,0,0,0,0,0,0,1],
 [1,0,0,0,0,0,0,1,0,0,0,0,0,0,1,0,0,0,0,0,0,1,0,0,0,0,0,0,1,0,0,0,0,0,0,1,0,0,0,0,0,0,1],
 [1,0,0,0,0,-1,0,0,0,0,1,0,0,0,0,-1,0,0,0,0,1],
 [1,-1,0,1,-1,0,1,-1,0,1,-1,0,1,-1,0,1,-1,1,0,-1,1,0,-1,1,0,-1,1,0,-1,1,0,-1,1],
 [1,0,-1,0,1,0,-1,0,1,0,-1,0,1,0,-1,0,1,0,-1,0,1,0,-1,0,1],
 [1,1,1,1,1,1,1,1,1,1,1,1,1,1,1,1,1,1,1,1,1,1,1,1,1,1,1,1,1,1,1,1,1,1,1,1,1,1,1,1,1,1,1,1,1,1,1,1,1,1,1,1,1],
 [1,0,0,0,0,0,0,0,0,-1,0,0,0,0,0,0,0,0,1],
 [1,-1,0,0,0,1,-1,0,0,0,1,0,-1,0,0,1,0,-1,0,0,1,0,0,-1,0,1,0,0,-1,0,1,0,0,0,-1,1,0,0,0,-1,1],
 [1,0,0,0,-1,0,0,0,1,0,0,0,-1,0,0,0,1,0,0,0,-1,0,0,0,1],
 [1,-1,0,1,-1,0,1,-1,0,1,-1,0,1,-1,0,1,-1,0,1,0,-1,1,0,-1,1,0,-1,1,0,-1,1,0,-1,1,0,-1,1],
 [1,-1,1,-1,1,-1,1,-1,1,-1,1,-1,1,-1,1,-1,1,-1,1,-1,1,-1,1,-1,1,-1,1,-1,1],
 [1,1,1,1,1,1,1,1,1,1,1,1,1,1,1,1,1,1,1,1,1,1,1,1,1,1,1,1,1,1,1,1,1,1,1,1,1,1,1,1,1,1,1,1,1,1,1,1,1,1,1,1,1,1,1,1,1,1,1],
 [1,0,1,0,0,0,-1,0,-1,0,-1,0,0,0,1,0,1]]
noncomputable def phi (n:Int):List Int:=phiT.getD n.toNat []
noncomputable def addL:List Int->List Int->List Int
 | [],b=>b
 | a,[]=>a
 | x::a,y::b=>(x+y)::addL a b
theorem co_addL:∀ (a b:List Int) (i:Nat),co (addL a b) i=co a i+co b i
 | [],b,i=>by unfold addL; rw[Pl.co_nil]; omega
 | x::a,[],i=>by unfold addL; rw[Pl.co_nil]; omega
 | x::a,y::b,0=>rfl
 | x::a,y::b,i+1=>by unfold addL; rw[Pl.co_succ,Pl.co_succ,Pl.co_succ,co_addL a b i]
theorem addL_len:∀ (a b:List Int),(addL a b).length=max a.length b.length
 | [],b=>by unfold addL; simp
 | x::a,[]=>by unfold addL; simp
 | x::a,y::b=>by unfold addL; rw[List.length_cons,addL_len a b,List.length_cons,List.length_cons]; omega
noncomputable def fmul:List Int->List Int->List Int
 | [],_=>[]
 | x::r,b=>addL (b.map (x*·)) (0::fmul r b)
theorem co_map (x:Int):∀ (b:List Int) (i:Nat),co (b.map (x*·)) i=x*co b i
 | [],i=>by simp[co]
 | y::b,0=>rfl
 | y::b,i+1=>by rw[List.map_cons,Pl.co_succ,Pl.co_succ,co_map x b i]
theorem co_fmul:∀ (a b:List Int) (p:Nat),co (fmul a b) p=cf a (co b) p
 | [],b,p=>by unfold fmul; rw[Pl.co_nil]; rfl
 | x::r,b,0=>by unfold fmul; rw[co_addL,co_map,Pl.cf_z]; show _+0=_; omega
 | x::r,b,p+1=>by unfold fmul; rw[co_addL,co_map,Pl.cf_s,Pl.co_succ,co_fmul r b p]
theorem fmul_len:∀ (a b:List Int),a≠[]->b≠[]->(fmul a b).length=a.length+b.length-1
 | [],b,h,_=>absurd rfl h
 | [x],b,_,hb=>by
  have:0<b.length:=List.length_pos_iff.mpr hb
  unfold fmul fmul; rw[addL_len]; simp; omega
 | x::y::r,b,_,hb=>by
  have:0<b.length:=List.length_pos_iff.mpr hb
  unfold fmul; rw[addL_len,List.length_cons,fmul_len (y::r) b (by simp) hb]; simp; omega
theorem fmul_eq {a b:List Int}(ha:a≠[])(hb:b≠[]):Pl.mul a b=fmul a b:=Pl.ext_co (by rw[Pl.mul_len ha hb,fmul_len a b ha hb]) fun i _=>by rw[Pl.co_mul,co_fmul]
noncomputable def prodL (f:Int->List Int):List Int->List Int
 | []=>[1]
 | d::r=>Pl.mul (f d) (prodL f r)
noncomputable def fprod (f:Int->List Int):List Int->List Int
 | []=>[1]
 | d::r=>fmul (f d) (fprod f r)
theorem prodL_mo {f:Int->List Int}:∀ {ds:List Int},(∀ d∈ds,Pl.Mo (f d))->Pl.Mo (prodL f ds)
 | [],_=>⟨by simp[prodL],rfl⟩
 | d::r,h=>(h d (List.mem_cons_self ..)).mul (prodL_mo fun x hx=>h x (List.mem_cons_of_mem _ hx))
theorem prodL_eq {f:Int->List Int}:∀ {ds:List Int},(∀ d∈ds,Pl.Mo (f d))->prodL f ds=fprod f ds
 | [],_=>rfl
 | d::r,h=>by
  have hr:∀ x∈r,Pl.Mo (f x):=fun x hx=>h x (List.mem_cons_of_mem _ hx)
  unfold prodL fprod
  rw[<- prodL_eq hr,fmul_eq (h d (List.mem_cons_self ..)).ne (prodL_mo hr).ne]
noncomputable def ups1 (n:Int):List Int:=(List.range n.toNat).map fun (i:Nat)=>1+(i:Int)
noncomputable def divs (n:Int):List Int:=(ups1 n).filter fun d=>decide (n%d=0)
noncomputable def xn1 (n:Int):List Int:=[-1]++List.replicate (n-1).toNat 0++[1]
theorem table_ok:((List.range 61).all fun k=>decide (k=0) || (fprod phi (divs k) == xn1 k))=true:=by decide +kernel
theorem small_ok:((List.range 61).all fun k=>decide (k=0) || ((phi k).all (fun x=>decide (-2<x)&&decide (x<3))&&decide ((phi k).length<=61)&&decide (phi k≠[])&&decide (co (phi k) ((phi k).length-1)=1)))=true:=by decide +kernel
theorem of_all {P:Nat->Bool}(h:(List.range 61).all P=true){n:Int}(h1:1<=n)(h2:n<=60):P n.toNat=true:=List.all_eq_true.mp h _ (List.mem_range.mpr (by omega))
theorem cast_n {n:Int}(h1:1<=n):((n.toNat:Nat):Int)=n:=by omega
theorem phi_ok {n:Int}(h1:1<=n)(h2:n<=60):Pl.Mo (phi n)/\Few (phi n)/\(phi n).length<=61/\∀ x∈phi n,-2<x/\x<3:=by
 have:=of_all small_ok h1 h2
 rw[cast_n h1] at this
 have hz:¬ n.toNat=0:=by omega
 simp only[Bool.or_eq_true,Bool.and_eq_true,decide_eq_true_eq,List.all_eq_true,hz,false_or] at this
 obtain⟨⟨⟨a1,a2⟩,a3⟩,a4⟩:=this
 exact⟨⟨a3,a4⟩,fun y hy=>by have:=a1 y hy; omega,a2,a1⟩
theorem mem_divs {n d:Int}:d∈divs n ↔ 1<=d/\d<=n/\n%d=0:=by
 unfold divs ups1
 rw[List.mem_filter,List.mem_map]
 constructor
 ·rintro ⟨⟨i,hi,rfl⟩,h⟩
  have:=List.mem_range.mp hi
  simp at h
  exact⟨by omega,by omega,h⟩
 ·rintro ⟨h1,h2,h3⟩
  exact⟨⟨(d-1).toNat,List.mem_range.mpr (by omega),by omega⟩,by simp[h3]⟩
theorem divs_mo {n:Int}(h2:n<=60):∀ d∈divs n,Pl.Mo (phi d):=fun d hd=>(phi_ok (mem_divs.mp hd).1 (by have:=mem_divs.mp hd; omega)).1
theorem parts_prod {n:Int}(h1:1<=n)(h2:n<=60):prodL phi (divs n)=xn1 n:=by
 have:=of_all table_ok h1 h2
 rw[cast_n h1] at this
 have hz:¬ n.toNat=0:=by omega
 simp only[Bool.or_eq_true,decide_eq_true_eq,hz,false_or,beq_iff_eq] at this
 rw[prodL_eq (divs_mo h2),this]
theorem ups1_up (n:Int):(ups1 n).Pairwise (·<·):=by
 unfold ups1
 exact List.pairwise_map.mpr (List.pairwise_lt_range.imp fun {a b} h=>by omega)
theorem divs_up (n:Int):(divs n).Pairwise (·<·):=(ups1_up n).filter _
theorem divs_snoc {n:Int}(h1:1<=n):∃ l,divs n=l++[n]/\∀ d∈l,1<=d/\d<n/\n%d=0:=by
 have hn:n∈divs n:=mem_divs.mpr ⟨h1,Int.le_refl _,Int.emod_self⟩
 have ne:divs n≠[]:=List.ne_nil_of_mem hn
 have hl:(divs n).getLast ne=n:=by
  have up:Up (n+1) (divs n):=⟨divs_up n,fun x hx=>by have:=mem_divs.mp hx; omega⟩
  have a:=up.last ne n hn
  have b:=(mem_divs.mp (List.getLast_mem ne)).2.1
  omega
 refine⟨(divs n).dropLast,?_,fun d hd=>?_⟩
 ·conv=>lhs; rw[<- snoc_of ne,hl]
 ·have hd':=List.dropLast_subset _ hd
  have hm:=mem_divs.mp hd'
  refine⟨hm.1,?_,hm.2.2⟩
  have pw:=divs_up n
  rw[<- snoc_of ne,hl] at pw
  exact(List.pairwise_append.mp pw).2.2 d hd n (by simp)
theorem from_1 (n:Int)(h:1<=n):Dv.rangeL 1 (n+1-1).toNat=(ups1 n).map .int:=by
 rw[rangeL_eq]; unfold ups1
 have:(n+1-1).toNat=n.toNat:=by omega
 rw[this]
theorem divisors_ok {n:Int}(h1:1<=n)(h2:n<=60):F_Q05 [.int n]=.ok (L (divs n)) true:=by
 have hc:c_Q05_1 [some (.int n)]=.ok (L (divs n)) true:=by
  have hr:(rngOk 1&&rngOk (n+1))=true:=by simp only[rngOk,Bool.and_eq_true,decide_eq_true_eq]; omega
  have:=eComp_if (elt:=eVar 0) (cond:=eCm .eq (eOp .mod (eVar 1) (eVar 0)) (eInt 0)) (is:=[0]) (it:=iRange2 (eInt 1) (eOp .add (eVar 0) (eInt 1))) (ρ:=[some (.int n)]) (c:=fun d=>decide (n%d=0)) (g:=fun d=>d) (xs:=ups1 n) (f:=true)
   (by simp only[iRange2,eOp,eVar,eInt,R.bind,RL.bind,Out.bind,scal_int,List.getElem?_cons_zero,if_true,add_ok,hr,from_1 n h1]) (by unfold ups1; simp; omega) (fun d hd=>by
    have:0<d:=by unfold ups1 at hd; obtain⟨i,_,rfl⟩:=List.mem_map.mp hd; omega
    simp only[eCm,eOp,eVar,eInt,Dv.pick,R.bind,RL.bind,Out.bind,scal_int,List.map_cons,List.map_nil,List.getElem?_cons_zero,List.getElem?_cons_succ,Option.getD_some,cm_eqI,mod_ok this]) (fun d hd _=>by simp only[eVar,Dv.pick,scal_int,List.map_cons,List.map_nil,List.getElem?_cons_zero,Option.getD_some])
  simp only[List.map_id'] at this
  exact this
 have n1:¬ n<1:=by omega
 have n2:¬ 60<n:=by omega
 simp only[F_Q05,b_Q05,b_Q05_t1,Dv.fn,sCons,sNil,sIf,sRet,eOr,eCm,eVar,eInt,Dv.all,R.bind,RL.bind,Out.bind,get_sh,scal_int,List.map_cons,List.map_nil,List.length_cons,List.length_nil,List.replicate,List.cons_append,List.nil_append,List.getElem?_cons_zero,Nat.reduceAdd,Nat.reduceSub,cm_lt,cm_gt,decide_eq_false n1,decide_eq_false n2,hc]
theorem look_map {f:Int->D}{j:Int}:∀ {ks:List Int},j∈ks->Dv.look ks (ks.map f) j=some (f j)
 | [],h=>by simp at h
 | k::ks,h=>by
  rw[List.map_cons]
  unfold Dv.look
  by_cases e:k=j
  ·rw[if_pos e,e]
  ·rw[if_neg e]
   exact look_map ((List.mem_cons.mp h).resolve_left (fun z=>e z.symm))
theorem flat_map:∀ ks:List Int,Dv.lstsFlat (ks.map fun d=>L (phi d))=true
 | []=>rfl
 | k::ks=>by rw[List.map_cons]; unfold Dv.lstsFlat; rw[flat_L,flat_map ks]; rfl
theorem parts_in {n:D}{ks:List Int}{d:Int}(hd:1<=d/\d<=60):∀ (l:List Int) (z:Sl),(∀ a∈l,a∈ks/\1<=a/\a<=60)->l.length<=60->(prodL phi (l++[d])).length<=200 ->
  ∃ z',forGo 4 b_Q11_l1 (l.map .int) [.sh n,.dp (.dct ks (ks.map fun d=>L (phi d))),.sh (.int d),.ow (L (prodL phi (l++[d]))),z]=.nx [.sh n,.dp (.dct ks (ks.map fun d=>L (phi d))),.sh (.int d),.ow (L (phi d)),z']
 | [],z,_,_,_=>⟨z,by simp only[List.nil_append,prodL,Pl.mul_one]; rfl⟩
 | a::l,z,h,hl,hp=>by
  obtain⟨h1,h2,h3⟩:=h a (List.mem_cons_self ..)
  rw[List.length_cons] at hl
  have hm:∀ x∈l++[d],Pl.Mo (phi x):=fun x hx=>by
   rcases List.mem_append.mp hx with hx|hx
   ·have:=h x (List.mem_cons_of_mem _ hx); exact(phi_ok this.2.1 this.2.2).1
   ·simp at hx; subst hx; exact(phi_ok hd.1 hd.2).1
  have po:=phi_ok h2 h3
  have pm:=prodL_mo hm
  have e:prodL phi (a::l++[d])=Pl.mul (prodL phi (l++[d])) (phi a):=by
   rw[List.cons_append]
   show Pl.mul (phi a) (prodL phi (l++[d]))=_
   exact Pl.mul_comm _ _
  have hlen:(prodL phi (l++[d])).length<=200:=by
   rw[e,Pl.mul_len pm.ne po.1.ne] at hp
   have:0<(phi a).length:=List.length_pos_iff.mpr po.1.ne
   omega
  obtain⟨z',ih⟩:=parts_in hd l (.sh (.int a)) (fun x hx=>h x (List.mem_cons_of_mem _ hx)) (by omega) hlen
  refine⟨z',?_⟩
  have ex:=divided_exact po.1 pm.ne po.2.1 (by have:=po.2.2.1; omega)
  have a0:Dv.at? [L (prodL phi (l++[d])),.lst []] 0=some (L (prodL phi (l++[d]))):=rfl
  rw[List.map_cons,forGo_nx (st':=[.sh n,.dp (.dct ks (ks.map fun d=>L (phi d))),.sh (.int d),.ow (L (prodL phi (l++[d]))),.sh (.int a)]),ih]
  rw[e]
  simp only[b_Q11_l1,sSet,keep_L,eIx,Dv.ixD,eVar,eInt,lNil,lCons,eCall,Dv.all,R.bind,RL.bind,Dv.R.bindL,Dv.RL.bindL,Out.bind,get_sh,get_ow,get_dp,scal_int,scal_lst,List.map_cons,List.map_nil,List.getElem?_cons_zero,List.getElem?_cons_succ,List.set_cons_zero,List.set_cons_succ,Bool.and_true,Bool.or_false,Bool.false_and,eDix,look_map h1,ex,a0]
theorem parts_out {n:D}:∀ (l ks:List Int) (x y z:Sl),(∀ d∈l,(1<=d/\d<=60)/\d∉ks/\∀ a,1<=a->a<d->d%a=0->a∈ks\/a∈l)->l.Pairwise (·<·)->ks.length+l.length<=1000 ->
  ∃ x' y' z',forGo 2 b_Q11_l2 (l.map .int) [.sh n,.dp (.dct ks (ks.map fun d=>L (phi d))),x,y,z]=.nx [.sh n,.dp (.dct (ks++l) ((ks++l).map fun d=>L (phi d))),x',y',z']
 | [],ks,x,y,z,_,_,_=>⟨x,y,z,by rw[List.append_nil]; rfl⟩
 | d::l,ks,x,y,z,h,hp,hl=>by
  rw[List.length_cons] at hl
  obtain⟨hd,hk,ha⟩:=h d (List.mem_cons_self ..)
  obtain⟨l0,e0,h0⟩:=divs_snoc hd.1
  have hin:∀ a∈l0,a∈ks/\1<=a/\a<=60:=fun a ha'=>by
   have:=h0 a ha'
   refine⟨?_,this.1,by omega⟩
   rcases ha a this.1 this.2.1 this.2.2 with q|q
   ·exact q
   ·rcases List.mem_cons.mp q with q|q
    ·omega
    ·have:=(List.pairwise_cons.mp hp).1 a q; omega
  have hpp:=parts_prod hd.1 hd.2
  rw[e0] at hpp
  have hdl:(divs d).length<=60:=by
   have:(divs d).length<=(ups1 d).length:=List.length_filter_le _ _
   unfold ups1 at this; simp at this; omega
  have hxl:(xn1 d).length<=200:=by unfold xn1; simp; omega
  obtain⟨z1,e1⟩:=parts_in (n:=n) hd l0 z hin (by rw[e0] at hdl; simp at hdl; omega) (by rw[hpp]; exact hxl)
  rw[hpp] at e1
  obtain⟨x',y',z',ih⟩:=parts_out (n:=n) l (ks++[d]) (.sh (.int d)) .no z1 (fun b hb=>by
   obtain⟨q1,q2,q3⟩:=h b (List.mem_cons_of_mem _ hb)
   refine⟨q1,fun hb2=>?_,fun a a1 a2 a3=>?_⟩
   ·rcases List.mem_append.mp hb2 with hb2|hb2
    ·exact q2 hb2
    ·simp at hb2; have:=(List.pairwise_cons.mp hp).1 b hb; omega
   ·rcases q3 a a1 a2 a3 with q|q
    ·exact .inl (List.mem_append_left _ q)
    ·rcases List.mem_cons.mp q with q|q
     ·exact .inl (by rw[q]; simp)
     ·exact .inr q) (List.pairwise_cons.mp hp).2 (by simp; omega)
  refine⟨x',y',z',?_⟩
  have hdo:=divisors_ok hd.1 hd.2
  have hcut:Dv.cutL ((divs d).map D.int) none (some (-1))=l0.map D.int:=by
   rw[e0]
   unfold Dv.cutL Dv.cutI
   simp
   have:(-1+((l0.length:Int)+1)).toNat=l0.length:=by omega
   rw[this]
   exact List.take_left' (by simp)
  have hre:=rep_ok (x:=0) (n:=d-1) (by omega) (by omega)
  have hadd1:opD .add (.lst [.int (-1)]) (L (List.replicate (d-1).toNat 0))=.ok (L (-1::List.replicate (d-1).toNat 0)) true:=by
   have hle:([D.int (-1)].length+((List.replicate (d-1).toNat (0:Int)).map D.int).length<=Dv.mx):=by simp[Dv.mx]; omega
   simp only[Dv.opD_ai,Dv.opD_al,Dv.opD_su,Dv.opD_mi,Dv.opD_ml,Dv.opD_mo,Dv.opD_fd,Dv.opD_po,Dv.opD_ba,Dv.opD_sh,L,if_pos hle,flat_L]
   rfl
  have hadd2:opD .add (L (-1::List.replicate (d-1).toNat 0)) (.lst [.int 1])=.ok (L (xn1 d)) true:=by
   have hle:(((-1::List.replicate (d-1).toNat (0:Int)).map D.int).length+[D.int 1].length<=Dv.mx):=by simp[Dv.mx]; omega
   simp only[Dv.opD_ai,Dv.opD_al,Dv.opD_su,Dv.opD_mi,Dv.opD_ml,Dv.opD_mo,Dv.opD_fd,Dv.opD_po,Dv.opD_ba,Dv.opD_sh,L,if_pos hle,flat_L,xn1]
   simp[Dv.flatL,Dv.scal]
  have hpk:Dv.putKs ks d=ks++[d]:=by unfold Dv.putKs; rw[if_neg hk]
  have hpl:Dv.putL ks (ks.map fun d=>L (phi d)) d (L (phi d))=(ks++[d]).map fun d=>L (phi d):=by unfold Dv.putL; rw[if_neg hk]; simp
  have h100:ks.length<Dv.mx:=by unfold Dv.mx; omega
  have h13:decide ((1:Nat)≠3)=true:=by decide
  rw[List.map_cons,forGo_nx (st':=[.sh n,.dp (.dct (ks++[d]) ((ks++[d]).map fun d=>L (phi d))),.sh (.int d),.no,z1]),ih]
  ·simp
  ·simp only[b_Q11_l2,sCons,sSet,keep_L,Dv.give,Dv.open_,give_sh,shared_sh,shared_ow,sFor,iSeq,eNeg,eOp,eVar,eInt,eLst,lNil,lCons,eCall,eSlice,ePart,Dv.all,R.bind,RL.bind,Dv.R.bindL,Dv.RL.bindL,Out.bind,get_sh,get_ow,get_dp,shared_dp,scal_int,List.map_cons,List.map_nil,List.getElem?_cons_zero,List.getElem?_cons_succ,List.set_cons_zero,List.set_cons_succ,List.foldl_cons,List.foldl_nil,Option.getD_some,Bool.or_true,Bool.and_true,if_true,decide_true,sub_ok,flat_L,List.length_map,hre,hadd1,hadd2,hdo,Dv.sliceD,hcut,e1,sDMove,flat_map,decide_eq_true h100,h13,hpk,hpl]
theorem parts_ok {n:Int}(h1:1<=n)(h2:n<=60):F_Q11 [.int n]=.ok (.dct (divs n) ((divs n).map fun d=>L (phi d))) true:=by
 have hdl:(divs n).length<=60:=by
  have:(divs n).length<=(ups1 n).length:=List.length_filter_le _ _
  unfold ups1 at this; simp at this; omega
 obtain⟨x,y,z,e⟩:=parts_out (n:=.int n) (divs n) [] .no .no .no (fun d hd=>by
  have:=mem_divs.mp hd
  refine⟨⟨this.1,by omega⟩,by simp,fun a a1 a2 a3=>.inr (mem_divs.mpr ⟨a1,by omega,?_⟩)⟩
  exact Int.emod_eq_zero_of_dvd (Int.dvd_trans (Int.dvd_of_emod_eq_zero a3) (Int.dvd_of_emod_eq_zero this.2.2))) (divs_up n) (by simp; omega)
 simp only[List.nil_append,List.map_nil] at e
 simp only[F_Q11,b_Q11,b_Q11_t2,b_Q11_t1,Dv.fn,sCons,Dv.give,Dv.open_,give_sh,shared_no,shared_sh,sRetO,sFor,iSeq,eVar,lNil,lCons,eCall,R.bind,RL.bind,Dv.R.bindL,Dv.RL.bindL,Out.bind,shared_dp,sSetD,eDict0,scal_int,List.map_cons,List.map_nil,List.length_cons,List.length_nil,List.replicate,List.cons_append,List.nil_append,List.getElem?_cons_zero,List.getElem?_cons_succ,List.set_cons_zero,List.set_cons_succ,List.foldl_cons,List.foldl_nil,Option.getD_some,Bool.and_true,Nat.reduceAdd,Nat.reduceSub,divisors_ok h1 h2,e]
noncomputable def Dvd (o:List Int)(f:Nat->Int):Prop:=∃ q:List Int,∀ i,f i=cf q (co o) i
theorem dvd_rest {a o q r:List Int}(ho:Pl.Mo o)(hr:r.length<=o.length-1)(h:∀ p,co a p=cf q (co o) p+co r p):Dvd o (co a) ↔ ∀ i,co r i=0:=by
 constructor
 ·rintro ⟨q',h'⟩
  exact(Pl.div_one (o:=o) (q:=q) (q':=q') (r:=co r) (r':=fun _=>0) ho (fun i hi=>Pl.co_over (by omega)) (fun _ _=>rfl) (fun p=>by rw[<- h p,h' p]; simp)).2
 ·intro hz
  exact⟨q,fun i=>by rw[h i,hz i]; simp⟩
open Classical in
noncomputable def hasB (xs:List Int)(d:Int):Bool:=decide (Dvd (phi d) (co (bsum xs)))
open Classical in
theorem hasB_iff {xs:List Int}{d:Int}:hasB xs d=true ↔ Dvd (phi d) (co (bsum xs)):=by unfold hasB; exact decide_eq_true_iff
theorem bsum_len {m:Int}{xs:List Int}(h:Up m xs)(hm:m<=200):(bsum xs).length<=200:=by
 unfold bsum
 split
 ·simp
 ·rename_i ne
  have:=h.rg (xs.getLast ne) (List.getLast_mem ne)
  rw[List.length_map,upto_len]; omega
theorem leaves_ok {m d:Int}{xs:List Int}(h:Up m xs)(hm:m<=200)(d1:1<=d)(d2:d<=60):F_Q0X [L xs,L (phi d)]=.ok (.bl (hasB xs d)) true:=by
 obtain⟨po,pf,pl,_⟩:=phi_ok d1 d2
 have hbl:=bsum_len h hm
 obtain⟨q,r,e,l1,tr,l2,hr⟩:=sum_divided_ok (a:=bsum xs) po pf (by omega) (by omega)
 have bs:=beat_sum_ok h (by omega)
 have a1:∀ x y:D,Dv.at? [x,y] 1=some y:=fun _ _=>rfl
 have hbool:decide (r=[])=hasB xs d:=by
  have:=dvd_rest (a:=bsum xs) po l2 hr
  rw[<- hasB_iff] at this
  rw[Bool.eq_iff_iff,decide_eq_true_eq,this]
  constructor
  ·intro z i; rw[z,Pl.co_nil]
  ·intro z; exact Pl.tr_ext tr (.inl rfl) fun i=>by rw[z i,Pl.co_nil]
 have q0:=cm_eqN r
 rw[hbool] at q0
 simp only[F_Q0X,b_Q0X,Dv.fn,sRet,eIx,Dv.ixD,eCm,eVar,eInt,eLst,lNil,lCons,eCall,Dv.all,R.bind,RL.bind,Dv.R.bindL,Dv.RL.bindL,Out.bind,get_sh,scal_lst,List.map_cons,List.map_nil,List.length_cons,List.length_nil,List.replicate,List.cons_append,List.nil_append,List.getElem?_cons_zero,List.getElem?_cons_succ,Bool.and_true,Bool.or_false,Bool.and_false,Nat.reduceAdd,Nat.reduceSub,bs,e,a1,q0]
theorem divs_cons {n:Int}(h:1<=n):∃ l,divs n=1::l/\∀ d∈l,1<d/\d<=n/\n%d=0:=by
 have h1:(1:Int)∈divs n:=mem_divs.mpr ⟨by omega,h,Int.emod_one n⟩
 have up:=divs_up n
 cases hd:divs n with
 | nil=>rw[hd] at h1; simp at h1
 | cons x l =>
  rw[hd] at h1 up
  have hx:=mem_divs.mp (show x∈divs n by rw[hd]; exact List.mem_cons_self ..)
  have e:x=1:=by
   rcases List.mem_cons.mp h1 with h1|h1
   ·exact h1.symm
   ·have:=(List.pairwise_cons.mp up).1 1 h1; omega
  subst e
  refine⟨l,rfl,fun d hdl=>?_⟩
  have h2:=(List.pairwise_cons.mp up).1 d hdl
  have h3:=mem_divs.mp (show d∈divs n by rw[hd]; exact List.mem_cons_of_mem _ hdl)
  exact⟨h2,h3.2.1,h3.2.2⟩
noncomputable def divs1 (n:Int):List Int:=(divs n).drop 1
theorem mem_divs1 {n d:Int}(h:1<=n):d∈divs1 n ↔ 1<d/\d<=n/\n%d=0:=by
 obtain⟨l,e,hl⟩:=divs_cons h
 unfold divs1
 rw[e]
 constructor
 ·exact fun hd=>hl d hd
 ·rintro ⟨h1,h2,h3⟩
  have:=mem_divs.mpr ⟨show 1<=d by omega,h2,h3⟩
  rw[e] at this
  rcases List.mem_cons.mp this with h4|h4
  ·omega
  ·exact h4
theorem cut_from1 (ds:List D):Dv.cutL ds (some 1) none=ds.drop 1:=by
 unfold Dv.cutL Dv.cutI
 have h1:¬ ((1:Int)<0):=by omega
 have t1:(1:Int).toNat=1:=rfl
 simp only[h1,if_false,t1]
 by_cases h:1<=ds.length
 ·rw[Nat.min_eq_left h,List.take_of_length_le (by simp)]
 ·have:ds=[]:=List.eq_nil_of_length_eq_zero (by omega)
  subst this; rfl
theorem slice1 (n:Int):Dv.cutL ((divs n).map D.int) (some 1) none=(divs1 n).map D.int:=by rw[cut_from1,<- List.map_drop]; rfl
theorem divs1_len {n:Int}(h2:n<=60):(divs1 n).length<=60:=by
 have:(divs n).length<=(ups1 n).length:=List.length_filter_le _ _
 unfold ups1 at this
 simp at this
 unfold divs1
 simp; omega
theorem beat_up {n:Int}{xs:List Int}(h:Beat n xs):Up n xs:=⟨h.up,h.rg⟩
theorem had_ok {n:Int}{xs:List Int}(n2:n<=60)(h:Beat n xs):F_Q10 [.int n,L xs]=.ok (L ((divs1 n).filter fun d=>hasB xs d)) true:=by
 have n1:=h.pos
 have hc:c_Q10_1 [some (.int n),some (L xs),some (.dct (divs n) ((divs n).map fun d=>L (phi d)))]=.ok (L ((divs1 n).filter fun d=>hasB xs d)) true:=by
  have:=eComp_if (elt:=eVar 0) (cond:=eCall F_Q0X (lCons (eVar 1) (lCons (eDix (eVar 2) (eVar 0)) lNil))) (is:=[1,2]) (it:=iSeq (eSlice (eCall F_Q05 (lCons (eVar 0) lNil)) (some (eInt 1)) none)) (ρ:=[some (.int n),some (L xs),some (.dct (divs n) ((divs n).map fun d=>L (phi d)))]) (c:=fun d=>hasB xs d) (g:=fun d=>d) (xs:=divs1 n) (f:=true)
   (by simp only[iSeq,eVar,eInt,lNil,lCons,eCall,eSlice,ePart,R.bind,RL.bind,Dv.R.bindL,Dv.RL.bindL,Out.bind,scal_int,List.getElem?_cons_zero,Bool.or_true,Bool.and_true,flat_L,divisors_ok n1 n2,Dv.sliceD,slice1]) (by have:=divs1_len n2; omega) (fun d hd=>by
    have hd':=(mem_divs1 n1).mp hd
    have hk:d∈divs n:=mem_divs.mpr ⟨by omega,hd'.2.1,hd'.2.2⟩
    simp only[eVar,lNil,lCons,eCall,Dv.pick,R.bind,RL.bind,Dv.R.bindL,Dv.RL.bindL,Out.bind,scal_int,scal_lst,List.map_cons,List.map_nil,List.getElem?_cons_zero,List.getElem?_cons_succ,Option.getD_some,Bool.and_true,Bool.or_false,Bool.false_and,eDix,look_map hk,leaves_ok (beat_up h) (show n<=200 by omega) (show 1<=d by omega) (show d<=60 by omega)]) (fun d hd _=>by simp only[eVar,Dv.pick,scal_int,List.map_cons,List.map_nil,List.getElem?_cons_zero,List.getElem?_cons_succ,Option.getD_some])
  simp only[List.map_id'] at this
  exact this
 simp only[F_Q10,b_Q10,b_Q10_t2,b_Q10_t1,Dv.fn,sCons,sRet,sExpr,eVar,lNil,lCons,eCall,Dv.all,R.bind,RL.bind,Dv.R.bindL,Dv.RL.bindL,Out.bind,get_no,get_sh,get_dp,sSetD,scal_int,scal_lst,List.map_cons,List.map_nil,List.length_cons,List.length_nil,List.replicate,List.cons_append,List.nil_append,List.getElem?_cons_zero,List.getElem?_cons_succ,List.set_cons_zero,List.set_cons_succ,Bool.and_true,Bool.and_false,Nat.reduceAdd,Nat.reduceSub,check_beat_ok n2 h,parts_ok n1 n2,hc]
theorem compGo_tup {elt:EE}{free:Dv.Env}{g:Int->D}:∀ {xs:List Int},(∀ x∈xs,elt (some (.int x)::free)=.ok (g x) true)->compGo elt (eBl true) free (xs.map .int)=.ok (xs.map g) true
 | [],_=>rfl
 | x::r,h=>by
  rw[List.map_cons]
  unfold compGo
  simp only[eBl,h x (List.mem_cons_self ..),compGo_tup fun y hy=>h y (List.mem_cons_of_mem _ hy),List.map_cons,Bool.and_self]
noncomputable def row (a b:List Int)(d:Int):D:=.tup [.int d,.bl (hasB a d),.bl (hasB b d)]
theorem mem_had {n d:Int}{xs:List Int}(hd:d∈divs1 n):decide (d∈(divs1 n).filter fun d=>hasB xs d)=hasB xs d:=by
 rw[Bool.eq_iff_iff,decide_eq_true_eq,List.mem_filter]
 exact⟨fun h=>h.2,fun h=>⟨hd,h⟩⟩
end Cw
namespace Bt
open Dv (ins isort)
noncomputable def ch:Nat->Nat->Nat
 | _,0=>1
 | 0,_+1=>0
 | n+1,k+1=>ch n k+ch n (k+1)
structure Prm (p:Nat):Prop where
 two:2<=p
 dv:∀ d,d ∣ p->d=1\/d=p
noncomputable def T (A:List Int)(g:Int->Int):Int->Int:=fun s=>(A.map fun a=>g (s-a)).sum
theorem T_cons (a:Int)(A:List Int)(g:Int->Int)(s:Int):T (a::A) g s=g (s-a)+T A g s:=by unfold T; simp
theorem T_nil (g:Int->Int)(s:Int):T [] g s=0:=by simp[T]
noncomputable def cnt (n:Int)(B:List Int)(s:Int):Int:=(B.map fun b=>if (s-b)%n=0 then (1:Int) else 0).sum
end Bt
namespace Cw
open Dv (Out R RL cmD eAnd eB1 eB2 eBl eCall eCm eComp eInt eIx eIxT eLst eNot eOp eOr ePart eSlice eTup eVar forGo iRange iRange2 iSeq lCons lNil opD rngOk sApp sAug sCons sExpr sExt sFor sIf sNil sPar sPut sPutT sRet sRetO sRetTb sRowDec sSet sSetD sSetG sUnpack sUnpackL sUnpackTb sWhile whileGo)
open Bt (T T_cons T_nil hits Fill isort_perm Beat)
open Pl (co cf)
noncomputable def sl {α:Type}(l:List α)(f:α->Int):Int:=(l.map f).sum
theorem sl_nil {α:Type}(f:α->Int):sl [] f=0:=rfl
theorem sl_cons {α:Type}(x:α)(l:List α)(f:α->Int):sl (x::l) f=f x+sl l f:=by unfold sl; simp
theorem sl_congr {α:Type}{f g:α->Int}:∀ {l:List α},(∀ x∈l,f x=g x)->sl l f=sl l g
 | [],_=>rfl
 | x::l,h=>by rw[sl_cons,sl_cons,h x (List.mem_cons_self ..),sl_congr fun y hy=>h y (List.mem_cons_of_mem _ hy)]
theorem sl_add {α:Type}(f g:α->Int):∀ l:List α,sl l (fun x=>f x+g x)=sl l f+sl l g
 | []=>rfl
 | x::l=>by rw[sl_cons,sl_cons,sl_cons,sl_add f g l]; omega
theorem sl_mul {α:Type}(c:Int)(f:α->Int):∀ l:List α,sl l (fun x=>c*f x)=c*sl l f
 | []=>by rw[sl_nil,sl_nil]; omega
 | x::l=>by rw[sl_cons,sl_cons,sl_mul c f l,Int.mul_add]
theorem sl_zero {α:Type}(l:List α):sl l (fun _=>0)=0:=by
 have:=sl_mul 0 (fun _=>(0:Int)) l
 simp only[Int.zero_mul] at this
 exact this
theorem sl_comm {α β:Type}(f:α->β->Int):∀ (l:List α) (m:List β),sl l (fun a=>sl m (fun b=>f a b))=sl m (fun b=>sl l (fun a=>f a b))
 | [],m=>by rw[sl_nil]; exact(sl_zero m).symm
 | a::l,m=>by
  rw[sl_cons,sl_comm f l m,<- sl_add]
  exact sl_congr fun b _=>(sl_cons a l (fun a=>f a b)).symm
theorem sl_map {α β:Type}(g:α->β)(f:β->Int)(l:List α):sl (l.map g) f=sl l (fun x=>f (g x)):=by
 unfold sl; rw[List.map_map]; rfl
theorem sl_append {α:Type}(f:α->Int):∀ (l m:List α),sl (l++m) f=sl l f+sl m f
 | [],m=>by rw[List.nil_append,sl_nil]; omega
 | x::l,m=>by rw[List.cons_append,sl_cons,sl_cons,sl_append f l m]; omega
theorem T_sl (A:List Int)(g:Int->Int)(s:Int):T A g s=sl A (fun a=>g (s-a)):=rfl
noncomputable def act:List Int->(Int->Int)->Int->Int
 | [],_,_=>0
 | x::r,g,s=>x*g s+act r g (s-1)
theorem act_add (g:Int->Int):∀ (a b:List Int) (s:Int),act (addL a b) g s=act a g s+act b g s
 | [],b,s=>by unfold addL; show _=0+_; omega
 | x::a,[],s=>by unfold addL; show _=_+0; omega
 | x::a,y::b,s=>by
  unfold addL act
  rw[act_add g a b,Int.add_mul]; omega
theorem act_map (g:Int->Int)(x:Int):∀ (b:List Int) (s:Int),act (b.map (x*·)) g s=x*act b g s
 | [],s=>by show (0:Int)=x*0; omega
 | y::b,s=>by
  rw[List.map_cons]
  unfold act
  rw[act_map g x b,Int.mul_add,Int.mul_assoc]
theorem act_fmul (g:Int->Int)(b:List Int):∀ (a:List Int) (s:Int),act (fmul a b) g s=act a (act b g) s
 | [],s=>rfl
 | x::r,s=>by
  unfold fmul
  rw[act_add,act_map]
  show _+(0*g s+act (fmul r b) g (s-1))=x*act b g s+act r (act b g) (s-1)
  rw[act_fmul g b r]; omega
theorem act_zero (a:List Int)(g:Int->Int)(h:∀ s,g s=0):∀ s,act a g s=0:=by
 induction a with
 | nil=>intro s; rfl
 | cons x r ih=>intro s; unfold act; rw[h,ih]; omega
theorem act_co0 (g:Int->Int):∀ (b:List Int) (s:Int),(∀ i,co b i=0)->act b g s=0
 | [],s,_=>rfl
 | y::b,s,h=>by
  have h0:=h 0
  rw[Pl.co_zero] at h0
  unfold act
  rw[h0,act_co0 g b (s-1) fun i=>by have:=h (i+1); rw[Pl.co_succ] at this; exact this]; omega
theorem act_ext (g:Int->Int):∀ (a b:List Int) (s:Int),(∀ i,co a i=co b i)->act a g s=act b g s
 | [],b,s,h=>(act_co0 g b s fun i=>by rw[<- h i,Pl.co_nil]).symm
 | x::a,[],s,h=>act_co0 g (x::a) s fun i=>by rw[h i,Pl.co_nil]
 | x::a,y::b,s,h=>by
  have h0:=h 0
  rw[Pl.co_zero,Pl.co_zero] at h0
  unfold act
  rw[h0,act_ext g a b (s-1) fun i=>by have:=h (i+1); rw[Pl.co_succ,Pl.co_succ] at this; exact this]
theorem act_zeros (g:Int->Int)(l:List Int):∀ (n:Nat) (s:Int),act (List.replicate n 0++l) g s=act l g (s-n)
 | 0,s=>by simp
 | n+1,s=>by
  rw[List.replicate_succ,List.cons_append]
  show 0*g s+act (List.replicate n 0++l) g (s-1)=_
  rw[act_zeros g l n]
  have:s-1-(n:Int)=s-((n+1:Nat):Int):=by omega
  rw[this]; omega
theorem act_xn1 {d:Int}(hd:1<=d)(g:Int->Int)(s:Int):act (xn1 d) g s=g (s-d)-g s:=by
 unfold xn1
 rw[List.append_assoc]
 show -1*g s+act (List.replicate (d-1).toNat 0++[1]) g (s-1)=_
 rw[act_zeros]
 show _+(1*g (s-1-((d-1).toNat:Int))+0)=_
 have:s-1-((d-1).toNat:Int)=s-d:=by omega
 rw[this]; omega
theorem act_T (A:List Int)(g:Int->Int):∀ (a:List Int) (s:Int),act a (T A g) s=T A (act a g) s
 | [],s=>by rw[T_sl]; exact(sl_zero A).symm
 | x::r,s=>by
  show x*T A g s+act r (T A g) (s-1)=_
  rw[act_T A g r,T_sl,T_sl,T_sl,<- sl_mul,<- sl_add]
  refine sl_congr fun a _=>?_
  have:s-1-a=s-a-1:=by omega
  rw[this]; rfl
noncomputable def Per (d:Int)(g:Int->Int):Prop:=∀ s,g (s-d)=g s
theorem Per.T {d:Int}{g:Int->Int}(h:Per d g)(A:List Int):Per d (T A g):=fun s=>by
 rw[T_sl,T_sl]
 refine sl_congr fun a _=>?_
 have:s-d-a=s-a-d:=by omega
 rw[this,h]
theorem Per.nat {d:Int}{g:Int->Int}(h:Per d g)(s:Int):∀ k:Nat,g (s-k*d)=g s
 | 0=>by congr 1; omega
 | k+1=>by
  rw[<- h.nat s k,<- h (s-k*d)]
  congr 1
  rw[Int.natCast_add,Int.add_mul]; omega
theorem Per.dvd {d:Int}{g:Int->Int}(h:Per d g){s t:Int}(hd:d ∣ s-t):g s=g t:=by
 obtain⟨k,hk⟩:=hd
 rcases Int.le_total 0 k with h0|h0
 ·have:=h.nat s k.toNat
  rw[<- this]
  congr 1
  have e:((k.toNat:Nat):Int)=k:=by omega
  rw[e,Int.mul_comm]; omega
 ·have:=h.nat t (-k).toNat
  rw[<- this]
  congr 1
  have e:(((-k).toNat:Nat):Int)=-k:=by omega
  rw[e,Int.neg_mul,Int.mul_comm]; omega
noncomputable def dl (d:Int):Int->Int:=fun s=>if s%d=0 then 1 else 0
theorem dl_per {d:Int}:Per d (dl d):=fun s=>by
 unfold dl
 rw[Int.sub_emod_right]
theorem act_dl {d:Int}(hd:1<=d):∀ (l:List Int) (s:Int),s<d->(l.length:Int)<=s+d->act l (dl d) s=if 0<=s then co l s.toNat else 0
 | [],s,_,_=>by rw[Pl.co_nil]; split <;>rfl
 | x::r,s,h1,h2=>by
  rw[List.length_cons] at h2
  unfold act
  rw[act_dl hd r (s-1) (by omega) (by omega)]
  unfold dl
  by_cases h0:s=0
  ·subst h0
   rw[if_pos (by simp),if_neg (by omega),if_pos (by omega)]
   show x*1+0=x; omega
  ·have hm:¬ s%d=0:=by
    intro hm
    obtain⟨k,hk⟩:=Int.dvd_of_emod_eq_zero hm
    have k1:k<1:=by
     by_cases hk1:k<1
     ·exact hk1
     ·exfalso
      have:d*1<=d*k:=Int.mul_le_mul_of_nonneg_left (by omega) (by omega)
      omega
    have k2:-1<k:=by
     by_cases hk1:-1<k
     ·exact hk1
     ·exfalso
      have:d*k<=d*(-1):=Int.mul_le_mul_of_nonneg_left (by omega) (by omega)
      omega
    have:k=0:=by omega
    subst this
    omega
   rw[if_neg hm]
   by_cases hs:0<=s
   ·rw[if_pos (by omega),if_pos hs]
    have:s.toNat=(s-1).toNat+1:=by omega
    rw[this,Pl.co_succ]; omega
   ·rw[if_neg (by omega),if_neg hs]; omega
noncomputable def monoL (x:Nat):List Int:=List.replicate x 0++[1]
noncomputable def fsL:List Int->List Int
 | []=>[]
 | x::r=>addL (monoL x.toNat) (fsL r)
theorem act_mono (g:Int->Int)(x:Nat)(s:Int):act (monoL x) g s=g (s-x):=by
 unfold monoL
 rw[act_zeros]
 show 1*g (s-x)+0=_; omega
theorem act_fs (g:Int->Int):∀ (xs:List Int) (s:Int),(∀ x∈xs,0<=x)->act (fsL xs) g s=T xs g s
 | [],s,_=>rfl
 | x::r,s,h=>by
  unfold fsL
  rw[act_add,act_mono,T_cons,act_fs g r s fun y hy=>h y (List.mem_cons_of_mem _ hy)]
  have:((x.toNat:Nat):Int)=x:=by have:=h x (List.mem_cons_self ..); omega
  rw[this]
open Dv (D R RL EE EL EI RI Sl Out SS St)
open Bt
open Pl (co cf sh)
noncomputable def mono (i:Nat):Nat->Int:=fun j=>if j=i then 1 else 0
noncomputable def fs:List Int->Nat->Int
 | [],_=>0
 | x::r,j=>mono x.toNat j+fs r j
noncomputable def cnt (xs:List Int)(q r:Int):Int:=((xs.filter fun x=>decide (x%q=r)).length:Nat)
noncomputable def comb (m:Nat):Nat->List Int
 | 0=>[]
 | 1=>[1]
 | p+2=>1::(List.replicate (m-1) 0++comb m (p+1))
theorem fs_zero:∀ {xs:List Int} {j:Nat},(∀ x∈xs,0<=x)->(j:Int)∉xs->fs xs j=0
 | [],j,_,_=>rfl
 | x::r,j,h0,hj=>by
  have:=h0 x (List.mem_cons_self ..)
  have hx:¬ j=x.toNat:=fun e=>hj (List.mem_cons.mpr (.inl (by omega)))
  show mono x.toNat j+fs r j=0
  rw[fs_zero (fun y hy=>h0 y (List.mem_cons_of_mem _ hy)) fun hm=>hj (List.mem_cons_of_mem _ hm)]
  unfold mono; rw[if_neg hx]; rfl
theorem fs_one:∀ {xs:List Int} {j:Nat},(∀ x∈xs,0<=x)->xs.Pairwise (·<·)->(j:Int)∈xs->fs xs j=1
 | [],j,_,_,hm=>nomatch hm
 | x::r,j,h0,hu,hm=>by
  obtain⟨hu1,hu2⟩:=List.pairwise_cons.mp hu
  have hr:∀ y∈r,0<=y:=fun y hy=>h0 y (List.mem_cons_of_mem _ hy)
  have h1:=h0 x (List.mem_cons_self ..)
  show mono x.toNat j+fs r j=1
  unfold mono
  rcases List.mem_cons.mp hm with e|hmr
  ·rw[if_pos (by omega),fs_zero hr fun hm=>by have:=hu1 _ hm; omega]; rfl
  ·have:=hu1 _ hmr
   rw[if_neg (by omega),fs_one hr hu2 hmr]; rfl
theorem co_bsum {m:Int}{xs:List Int}(h:Up m xs)(j:Nat):co (bsum xs) j=fs xs j:=by
 have h0:∀ x∈xs,0<=x:=fun x hx=>(h.rg x hx).1
 by_cases ne:xs=[]
 ·subst ne; rw[bsum_nil,Pl.co_nil]; rfl
 have hb:bsum xs=(upto (xs.getLast ne+1).toNat).map fun i=>if i∈xs then 1 else 0:=by unfold bsum; rw[dif_neg ne]
 have hl:(bsum xs).length=(xs.getLast ne+1).toNat:=by rw[hb]; simp[upto]
 by_cases hj:j<(bsum xs).length
 ·rw[Pl.co_get hj]
  have e:(bsum xs)[j]=if (j:Int)∈xs then 1 else 0:=by
   simp only[hb,upto,List.getElem_map,List.getElem_range]
  rw[e]
  by_cases hm:(j:Int)∈xs
  ·rw[if_pos hm,fs_one h0 h.up hm]
  ·rw[if_neg hm,fs_zero h0 hm]
 ·rw[Pl.co_over (by omega),fs_zero h0 fun hm=>?_]
  have:=h.last ne _ hm
  omega
noncomputable def noDiv (p:Nat):Bool:=decide (2<=p)&&(List.range p).all fun j=>decide (j<2) || decide (p%j≠0)
theorem co_mono (x j:Nat):co (monoL x) j=mono x j:=by
 unfold monoL mono
 rw[co_snoc,rep_co,List.length_replicate]
theorem co_fs:∀ (xs:List Int) (j:Nat),co (fsL xs) j=fs xs j
 | [],j=>rfl
 | x::r,j=>by unfold fsL fs; rw[co_addL,co_mono,co_fs r j]
theorem act_bsum {m:Int}{xs:List Int}(h:Up m xs)(g:Int->Int)(s:Int):act (bsum xs) g s=T xs g s:=by
 rw[act_ext g _ (fsL xs) s fun i=>by rw[co_bsum h,co_fs],act_fs g xs s fun x hx=>(h.rg x hx).1]
noncomputable def Psi (d:Int):List Int:=fprod phi (divs d).dropLast
theorem psi_table:((List.range 61).all fun k=>decide (k<2) || (fmul (phi k) (Psi k) == xn1 k&&(Psi k == fmul [-1,1] (fprod phi ((divs k).dropLast.drop 1))&&(decide (Psi k≠[])&&decide (co (Psi k) ((Psi k).length-1)=1)))))=true:=by decide +kernel
theorem psi_tab {d:Int}(h1:2<=d)(h2:d<=60):fmul (phi d) (Psi d)=xn1 d/\Psi d=fmul [-1,1] (fprod phi ((divs d).dropLast.drop 1))/\Pl.Mo (Psi d):=by
 have:=List.all_eq_true.mp psi_table d.toNat (List.mem_range.mpr (by omega))
 have e:((d.toNat:Nat):Int)=d:=by omega
 rw[decide_eq_false (by omega),Bool.false_or,e,Bool.and_eq_true,Bool.and_eq_true,Bool.and_eq_true,decide_eq_true_eq,decide_eq_true_eq,beq_iff_eq,beq_iff_eq] at this
 exact⟨this.1,this.2.1,this.2.2.1,this.2.2.2⟩
noncomputable def psi (d:Int):Int->Int:=act (Psi d) (dl d)
theorem phi_psi {d:Int}(h1:2<=d)(h2:d<=60)(s:Int):act (phi d) (psi d) s=0:=by
 unfold psi
 rw[<- act_fmul,(psi_tab h1 h2).1,act_xn1 (by omega),dl_per]; omega
theorem has_zero {d m:Int}(h1:2<=d)(h2:d<=60){A:List Int}(hA:Up m A)(h:hasB A d=true)(s:Int):T A (psi d) s=0:=by
 obtain⟨q,hq⟩:=hasB_iff.mp h
 rw[<- act_bsum hA,act_ext _ _ (fmul q (phi d)) s fun i=>by rw[hq,co_fmul],act_fmul]
 exact act_zero _ _ (phi_psi h1 h2) s
theorem zero_has {d m:Int}(h1:2<=d)(h2:d<=60)(hm:m<=200){A:List Int}(hA:Up m A)(h:∀ s,T A (psi d) s=0):hasB A d=true:=by
 obtain⟨po,pf,pl,pr⟩:=phi_ok (n:=d) (by omega) h2
 obtain⟨t1,t2,t3⟩:=psi_tab h1 h2
 obtain⟨q,r,_,_,_,hr,hq⟩:=sum_divided_ok (a:=bsum A) po pf (by have:=bsum_len hA hm; omega) (by omega)
 rw[hasB_iff,dvd_rest po hr hq]
 have hz:∀ s,act (fmul r (Psi d)) (dl d) s=0:=fun s=>by
  have h3:act (bsum A) (psi d) s=0:=by rw[act_bsum hA]; exact h s
  rw[act_ext _ _ (addL (fmul q (phi d)) r) s fun i=>by rw[hq,co_addL,co_fmul],act_add,act_fmul,act_zero _ _ (phi_psi h1 h2)] at h3
  rw[act_fmul]
  show act r (psi d) s=0
  omega
 by_cases hr0:r=[]
 ·subst hr0; exact fun i=>Pl.co_nil i
 have hl:((fmul r (Psi d)).length:Int)<=d:=by
  have l1:=fmul_len r (Psi d) hr0 t3.ne
  have l2:=fmul_len (phi d) (Psi d) po.ne t3.ne
  have l3:(xn1 d).length=(d+1).toNat:=by unfold xn1; simp; omega
  have l4:0<(phi d).length:=List.length_pos_iff.mpr po.ne
  have l5:0<(Psi d).length:=List.length_pos_iff.mpr t3.ne
  rw[t1,l3] at l2
  omega
 refine Pl.mo_few t3 fun p _=>?_
 rw[<- co_fmul]
 by_cases hp:(p:Int)<d
 ·have:=act_dl (d:=d) (by omega) (fmul r (Psi d)) (p:Int) hp (by omega)
  rw[hz,if_pos (by omega),Int.toNat_natCast] at this
  exact this.symm
 ·exact Pl.co_over (by omega)
noncomputable def us (d:Nat):List Nat:=(List.range d).filter fun k=>Nat.gcd k d == 1
noncomputable def subR:List Int->List Int->Int->List Int
 | a::as,o::os,c=>(a-c*o)::subR as os c
 | as,_,_=>as
noncomputable def quoR (o:List Int):Nat->List Int->List Int
 | 0,_=>[]
 | _,[]=>[]
 | n+1,c::as=>c::quoR o n ((subR (c::as) o c).drop 1)
noncomputable def quo (o a:List Int):List Int:=(quoR o.reverse (a.length+1-o.length) a.reverse).reverse
theorem hits_T {n:Int}{g:Int->Int}(hg:Per n g)(hn:0<n)(A:List Int)(s:Int):∀ B:List Int,sl (hits n A B) (fun x=>g (s-x))=T B (T A g) s
 | []=>rfl
 | b::B=>by
  have e:hits n A (b::B)=(A.map fun a=>(a+b)%n)++hits n A B:=rfl
  rw[e,sl_append,hits_T hg hn A s B,T_cons,sl_map]
  congr 1
  rw[T_sl]
  refine sl_congr fun a _=>hg.dvd ?_
  have h2:=Int.emod_add_mul_ediv (a+b) n
  exact⟨(a+b)/n,by omega⟩
theorem sl_turn {d:Nat}{f:Int->Int}(hf:Per d f)(c:Int):sl (List.range d) (fun u=>f ((u:Int)-c))=sl (List.range d) (fun u=>f (u:Int)):=by
 have step:∀ c,sl (List.range d) (fun u=>f ((u:Int)-(c+1)))=sl (List.range d) (fun u=>f ((u:Int)-c)):=fun c=>by
  have key:∀ m:Nat,sl (List.range m) (fun u=>f ((u:Int)-(c+1)))+f ((m:Int)-(c+1))=sl (List.range m) (fun u=>f ((u:Int)-c))+f (-(c+1)):=by
   intro m
   induction m with
   | zero=>show 0+f (((0:Nat):Int)-(c+1))=0+f (-(c+1)); congr 2 <;>omega
   | succ m ih =>
    rw[List.range_succ,sl_append,sl_append,sl_cons,sl_nil,sl_cons,sl_nil]
    have:((m+1:Nat):Int)-(c+1)=(m:Int)-c:=by omega
    rw[this]; omega
  have h1:=key d
  have h2:f ((d:Int)-(c+1))=f (-(c+1)):=hf.dvd ⟨1,by omega⟩
  omega
 have nat:∀ k:Nat,sl (List.range d) (fun u=>f ((u:Int)-k))=sl (List.range d) (fun u=>f (u:Int)):=fun k=>by
  induction k with
  | zero=>refine sl_congr fun u _=>?_; congr 1 <;>omega
  | succ k ih=>rw[<- ih,<- step (k:Int)]; refine sl_congr fun u _=>?_; congr 1 <;>omega
 rcases Int.le_total 0 c with h|h
 ·have:=nat c.toNat
  rw[<- this]
  refine sl_congr fun u _=>?_
  congr 1; omega
 ·have neg:∀ k:Nat,sl (List.range d) (fun u=>f ((u:Int)-(-(k:Int))))=sl (List.range d) (fun u=>f (u:Int)):=fun k=>by
   induction k with
   | zero=>refine sl_congr fun u _=>?_; congr 1 <;>omega
   | succ k ih =>
    rw[<- ih,<- step (-((k+1:Nat):Int))]
    refine sl_congr fun u _=>?_
    congr 1 <;>omega
  have:=neg (-c).toNat
  rw[<- this]
  refine sl_congr fun u _=>?_
  congr 1; omega
theorem cut_L (xs:List Int)(lo hi:Option Int):Dv.cutL (xs.map D.int) lo hi=(Dv.cutL xs lo hi).map D.int:=by
 unfold Dv.cutL; rw[List.length_map,List.map_take,List.map_drop]
theorem slice_L (xs:List Int)(f:Bool)(lo hi:Option Int):Dv.sliceD (L xs) f lo hi=.ok (L (Dv.cutL xs lo hi)) true:=by
 unfold Dv.sliceD; simp only[cut_L,flat_L,Bool.or_true]
theorem pow_ok:opD .pow (.int 10) (.int 30)=.ok (.int 1000000000000000000000000000000) true:=by
 simp[Dv.opD_ai,Dv.opD_al,Dv.opD_su,Dv.opD_mi,Dv.opD_ml,Dv.opD_mo,Dv.opD_fd,Dv.opD_po,Dv.opD_ba,Dv.opD_sh]
theorem draws_body {s:List Int}{m k:Int}{lf fd:List Int}(hk:0<=k)(hk2:k<=1000)(hl:0<lf.length)(hf:fd.length<=1000)(z5 z6 z7:Sl) :
  ∃ lf' d y5 y6 y7,b_Q0D_l1 [.sh (L s),.sh (.int m),.ow (L lf),.ow (L fd),.sh (.int k),z5,z6,z7]=.nx [.sh (L s),.sh (.int m),.ow (L lf'),.ow (L (fd++[d])),.sh (.int k),y5,y6,y7]/\lf'.length=lf.length/\0<=d/\d<1000000000000000000000000000000:=by
 have hl':(0:Int)<(lf.length:Int):=by omega
 have hat:=mod_rg (n:=(lf.length:Int)) (a:=k) hl'
 generalize hx:lf.getD (k%(lf.length:Int)).toNat 0=x
 have hmx:fd.length<Dv.mx:=by unfold Dv.mx; omega
 have h0:=at_L hat.1 hat.2
 rw[hx] at h0
 by_cases hb:x ≥ 1000000000000000000000000000000\/x<0-1000000000000000000000000000000
 ·have hm:=mod_rg (n:=1000000000000000000000000000000) (a:=x) (by omega)
  refine⟨lf.set (k%(lf.length:Int)).toNat (x/1000000000000000000000000000000),x%1000000000000000000000000000000,.sh (.int (k%(lf.length:Int))),z6,z7,?_,by rw[List.length_set],hm.1,hm.2⟩
  have e2:(lf.map D.int).set (k%(lf.length:Int)).toNat (.int (x/1000000000000000000000000000000))=(lf.set (k%(lf.length:Int)).toNat (x/1000000000000000000000000000000)).map D.int:=by rw[List.map_set]
  by_cases h1:1000000000000000000000000000000<=x
  ·simp only[b_Q0D_l1,sCons,sSet,keep_int,sIf,sApp,sPut,eB1,Dv.lenD,eIx,Dv.ixD,eOr,eCm,eOp,eVar,eInt,Dv.all,R.bind,RL.bind,Out.bind,get_sh,get_ow,scal_int,scal_lst,List.map_cons,List.map_nil,List.getElem?_cons_zero,List.getElem?_cons_succ,List.set_cons_zero,List.set_cons_succ,Bool.or_true,Bool.and_true,if_true,cm_ge,List.length_map,mod_ok hl',h0,pow_ok,decide_eq_true h1,mod_ok (j:=1000000000000000000000000000000) (by decide),decide_eq_true hmx,fdiv_ok (j:=1000000000000000000000000000000) (by decide) (by decide),decide_eq_true hat.1,decide_eq_true hat.2,e2,app_L]
  ·have h2:x<0-1000000000000000000000000000000:=by omega
   simp only[b_Q0D_l1,sCons,sSet,keep_int,sIf,sApp,sPut,eB1,Dv.lenD,eIx,Dv.ixD,eOr,eCm,eOp,eVar,eInt,Dv.all,R.bind,RL.bind,Out.bind,get_sh,get_ow,scal_int,scal_lst,List.map_cons,List.map_nil,List.getElem?_cons_zero,List.getElem?_cons_succ,List.set_cons_zero,List.set_cons_succ,Bool.or_true,Bool.and_true,if_true,sub_ok,cm_lt,cm_ge,List.length_map,mod_ok hl',h0,pow_ok,decide_eq_false h1,decide_eq_true h2,mod_ok (j:=1000000000000000000000000000000) (by decide),decide_eq_true hmx,fdiv_ok (j:=1000000000000000000000000000000) (by decide) (by decide),decide_eq_true hat.1,decide_eq_true hat.2,e2,app_L]
 ·have h1:¬ 1000000000000000000000000000000<=x:=by omega
  have h2:¬ x<0-1000000000000000000000000000000:=by omega
  have m1:=mod_rg (n:=2147483647) (a:=x*48271+k*k*16807+7919*k+5) (by omega)
  generalize ho:(x*48271+k*k*16807+7919*k+5)%2147483647=one at m1
  have m2:=mod_rg (n:=2147483629) (a:=one*one+k*39373) (by omega)
  generalize ht:(one*one+k*39373)%2147483629=other at m2
  have m3:=mod_rg (n:=2147483587) (a:=one*other) (by omega)
  refine⟨lf,one*other%2147483587*2147483629+other,.sh (.int (k%(lf.length:Int))),.sh (.int one),.sh (.int other),?_,rfl,by omega,by omega⟩
  simp only[b_Q0D_l1,sCons,sSet,keep_int,sIf,sApp,eB1,Dv.lenD,eIx,Dv.ixD,eOr,eCm,eOp,eVar,eInt,Dv.all,R.bind,RL.bind,Out.bind,get_sh,get_ow,scal_int,scal_lst,List.map_cons,List.map_nil,List.getElem?_cons_zero,List.getElem?_cons_succ,List.set_cons_zero,List.set_cons_succ,Bool.or_true,Bool.and_true,if_true,add_ok,sub_ok,cm_lt,cm_ge,List.length_map,mod_ok hl',h0,pow_ok,decide_eq_false h1,decide_eq_false h2,mul_ok (mulOk_r (j:=48271) (by decide) (by decide)),mul_ok (mulOk_l (i:=k) (j:=k) (by omega) (by omega)),mul_ok (mulOk_r (j:=16807) (by decide) (by decide)),mul_ok (mulOk_l (i:=7919) (by decide) (by decide)),mod_ok (j:=2147483647) (by decide),ho,mul_ok (mulOk_l (i:=one) (j:=one) (by omega) (by omega)),mul_ok (mulOk_r (j:=39373) (by decide) (by decide)),mod_ok (j:=2147483629) (by decide),ht,mul_ok (mulOk_l (i:=one) (j:=other) (by omega) (by omega)),mod_ok (j:=2147483587) (by decide),mul_ok (mulOk_r (j:=2147483629) (by decide) (by decide)),decide_eq_true hmx,app_L]
theorem draws_loop {s:List Int}{m:Int}:∀ (ks lf fd:List Int) (z4 z5 z6 z7:Sl),(∀ k∈ks,0<=k/\k<=1000)->0<lf.length->fd.length+ks.length<=1000->(∀ d∈fd,0<=d/\d<1000000000000000000000000000000) ->
  ∃ lf' fd' y4 y5 y6 y7,forGo 4 b_Q0D_l1 (ks.map .int) [.sh (L s),.sh (.int m),.ow (L lf),.ow (L fd),z4,z5,z6,z7]=.nx [.sh (L s),.sh (.int m),.ow (L lf'),.ow (L fd'),y4,y5,y6,y7]/\fd'.length=fd.length+ks.length/\∀ d∈fd',0<=d/\d<1000000000000000000000000000000
 | [],lf,fd,z4,z5,z6,z7,_,_,_,h=>⟨lf,fd,z4,z5,z6,z7,rfl,by simp,h⟩
 | k::r,lf,fd,z4,z5,z6,z7,hk,hl,hf,h=>by
  rw[List.length_cons] at hf
  have hk0:=hk k (List.mem_cons_self ..)
  obtain⟨lf1,d,y5,y6,y7,e1,l1,d0,d1⟩:=draws_body (s:=s) (m:=m) (fd:=fd) hk0.1 hk0.2 hl (by omega) z5 z6 z7
  obtain⟨lf2,fd2,x4,x5,x6,x7,e2,l2,h2⟩:=draws_loop (s:=s) (m:=m) r lf1 (fd++[d]) (.sh (.int k)) y5 y6 y7 (fun x hx=>hk x (List.mem_cons_of_mem _ hx)) (by omega) (by simp; omega) (fun x hx=>by
   rcases List.mem_append.mp hx with hx|hx
   ·exact h x hx
   ·rw[List.mem_singleton] at hx; subst hx; exact⟨d0,d1⟩)
  refine⟨lf2,fd2,x4,x5,x6,x7,?_,by rw[l2]; simp; omega,h2⟩
  rw[List.map_cons,forGo_nx (st':=[.sh (L s),.sh (.int m),.ow (L lf1),.ow (L (fd++[d])),.sh (.int k),y5,y6,y7])]
  ·exact e2
  ·simp only[List.set_cons_succ,List.set_cons_zero]; exact e1
theorem draws_ok {s:List Int}(hs:s.length<=63){m:Int}(hm:0<=m)(hm2:m<=900):∃ ds,F_Q0D [L s,.int m]=.ok (L ds) true/\(ds.length:Int)=m/\∀ d∈ds,0<=d/\d<1000000000000000000000000000000:=by
 have hcut:Dv.cutL s none (some 63)=s:=by
  unfold Dv.cutL Dv.cutI
  simp only[List.drop_zero,Nat.sub_zero]
  exact List.take_of_length_le (by simp; omega)
 have hsl:=slice_L s false none (some 63)
 rw[hcut] at hsl
 have hleft:∃ lf:List Int,0<lf.length/\F_Q0D [L s,.int m]=(match b_Q0D_t1 [.sh (L s),.sh (.int m),.ow (L lf),.no,.no,.no,.no,.no] with | .nx _=>.ok .non true | .ret d f=>.ok d f | .exc c _=>.exc c|_=>.bad):=by
  by_cases hz:s=[]
  ·subst hz
   refine⟨[0],by simp,?_⟩
   have q:cmD .eq (.lst []) (.lst [])=.ok (.bl true) true:=cm_eqL [] []
   have c:=cat_ok (a:=[]) (b:=[0]) (by simp)
   have r1:=rep_ok (x:=0) (n:=1) (by omega) (by omega)
   simp only[L,List.map_nil,List.map_cons,List.nil_append,Int.toNat_one,List.replicate] at q c r1 hsl
   simp only[F_Q0D,b_Q0D,b_Q0D_t3,b_Q0D_t2,b_Q0D_t1,b_Q0D,Dv.fn,sCons,sSet,keep_nil,Dv.give,Dv.open_,shared_no,shared_sh,shared_ow,sRetO,sFor,iRange,eB1,Dv.intD,eCm,eOp,eVar,eInt,eLst,lNil,lCons,eSlice,ePart,Dv.all,R.bind,RL.bind,Dv.R.bindL,Dv.RL.bindL,Out.bind,get_no,get_sh,scal_int,scal_lst,List.map_cons,List.map_nil,List.length_cons,List.length_nil,List.replicate,List.cons_append,List.nil_append,List.getElem?_cons_zero,List.getElem?_cons_succ,List.set_cons_zero,List.set_cons_succ,List.foldl_nil,Bool.and_true,if_true,Nat.reduceAdd,Nat.reduceSub,decide_true,cm_eqN,hsl,q,r1,c]
   all_goals rfl
  ·refine⟨s,List.length_pos_iff.mpr hz,?_⟩
   have c:=cat_ok (a:=s) (b:=[]) (by simp; omega)
   have r1:=rep_ok (x:=0) (n:=0) (by omega) (by omega)
   rw[List.append_nil] at c
   simp only[L,List.map_nil,Int.toNat_zero,List.replicate] at c r1
   simp only[F_Q0D,b_Q0D,b_Q0D_t3,b_Q0D_t2,b_Q0D_t1,Dv.fn,sCons,sSet,keep_L,keep_nil,Dv.give,Dv.open_,shared_no,shared_sh,shared_ow,sRetO,sFor,iRange,eB1,Dv.intD,eCm,eOp,eVar,eInt,eLst,lNil,lCons,eSlice,ePart,Dv.all,R.bind,RL.bind,Dv.R.bindL,Dv.RL.bindL,Out.bind,get_no,get_sh,scal_int,scal_lst,List.map_cons,List.map_nil,List.length_cons,List.length_nil,List.replicate,List.cons_append,List.nil_append,List.getElem?_cons_zero,List.getElem?_cons_succ,List.set_cons_zero,List.set_cons_succ,List.foldl_nil,Bool.and_true,if_false,Nat.reduceAdd,Nat.reduceSub,Bool.false_eq_true,cm_eqN,hsl,decide_eq_false hz,Bool.false_eq_true,if_false,r1,c]
   all_goals rfl
 obtain⟨lf,hlf,e0⟩:=hleft
 obtain⟨lf',ds,y4,y5,y6,y7,e,l,h⟩:=draws_loop (s:=s) (m:=m) (upto m.toNat) lf [] .no .no .no .no (fun k hk=>by have:=mem_upto.mp hk; omega) hlf (by rw[upto_len]; simp; omega) (by simp)
 refine⟨ds,?_,by rw[l,upto_len]; simp; omega,h⟩
 simp only[List.map_nil,L] at e
 rw[e0]
 simp only[b_Q0D_t1,b_Q0D_t2,b_Q0D_t3,sCons,sSet,keep_nil,Dv.give,Dv.open_,shared_no,shared_sh,shared_ow,sRetO,sFor,iRange,eVar,eLst,lNil,R.bind,RL.bind,Out.bind,scal_int,List.map_cons,List.map_nil,List.getElem?_cons_zero,List.getElem?_cons_succ,List.set_cons_zero,List.set_cons_succ,List.foldl_nil,if_true,flat_L,Dv.flatL,rng_ok (n:=m) (by omega) (by omega),range_upto,e]
structure Fu (n:Int)(a b:List Int):Prop where
 nd:b.Nodup
 rg:∀ x∈b,0<=x/\x<n
 fl:Fill n a (Dv.isort b)
section
variable {n num step:Int}{a b steps:List Int}
end
noncomputable def cell2 (s:List Int)(k:Int):Int:=s.getD k.toNat 0
theorem cell2_ok {s:List Int}{k:Int}(h:0<=k)(h2:k<s.length):F_Q0C [L s,.int k]=.ok (.int (cell2 s k)) true:=by
 simp only[F_Q0C,b_Q0C,Dv.fn,sRet,eIx,Dv.ixD,eVar,Dv.all,R.bind,RL.bind,Out.bind,get_sh,scal_int,scal_lst,List.map_cons,List.map_nil,List.length_cons,List.length_nil,List.replicate,List.cons_append,List.nil_append,List.getElem?_cons_zero,List.getElem?_cons_succ,Bool.or_true,Nat.reduceAdd,Nat.reduceSub,at_L h h2,cell2]
theorem pairFill:PairP Fill where
 one:=fill_one
 beat:=fun h=>⟨h.one,h.oth⟩
 again:=fun ht h=>h.again ht
 mix:=fun ht h=>h.mix ht
 swap:=fun h=>h.swap
 turn:=fun c h=>h.turn
section
variable {s:List Int}{k0 n t:Int}{a b:List Int}{sa sb z5 z6 z8:Sl}
theorem mix_loop2 (ha:Hs sa a)(ht0:0<=t)(ht:t<=100)(hsb:True):∀ (ks found:List Int) (z:Sl),(∀ k∈ks,0<=k/\k<=1000)->found.length+ks.length*a.length<=100000 ->
  ∃ z',forGo 10 b_law_pair_v2_l1 (ks.map .int) [.sh (L s),.sh (.int k0),.sh (.int n),sa,sb,z5,z6,.sh (.int t),z8,.ow (L found),z]=.nx [.sh (L s),.sh (.int k0),.sh (.int n),sa,sb,z5,z6,.sh (.int t),z8,.ow (L (ks.foldl (fun x k=>x++a.map (·*t+k)) found)),z']
 | [],found,z,_,_=>⟨z,rfl⟩
 | k::r,found,z,h,hl=>by
  rw[List.length_cons,Nat.succ_mul] at hl
  have hk:=h k (List.mem_cons_self ..)
  have hc:c_law_pair_v2_1 [some (L s),some (.int k0),some (.int n),some (L a),sb.get,z5.get,z6.get,some (.int t),z8.get,some (L found),some (.int k)]=.ok (L (a.map (·*t+k))) true:=by
   unfold c_law_pair_v2_1
   exact eComp_all (f:=false) rfl (by omega) fun x hx=>by simp only[eOp,eVar,Dv.pick,R.bind,RL.bind,Out.bind,scal_int,List.map_cons,List.map_nil,List.getElem?_cons_zero,List.getElem?_cons_succ,Option.getD_some,add_ok,mul_ok (mulOk_r (i:=x) (j:=t) (by omega) (by omega))]
  obtain⟨z',e⟩:=mix_loop2 ha ht0 ht hsb r (found++a.map (·*t+k)) (.sh (.int k)) (fun x hx=>h x (List.mem_cons_of_mem _ hx)) (by rw[List.length_append,List.length_map]; omega)
  refine⟨z',?_⟩
  rw[List.map_cons,forGo_nx (st':=[.sh (L s),.sh (.int k0),.sh (.int n),sa,sb,z5,z6,.sh (.int t),z8,.ow (L (found++a.map (·*t+k))),.sh (.int k)]),e]
  ·rfl
  ·simp only[b_law_pair_v2_l1,sSet,keep_L,eOp,eVar,Dv.all,R.bind,RL.bind,Out.bind,get_sh,get_ow,scal_lst,List.map_cons,List.map_nil,List.getElem?_cons_zero,List.getElem?_cons_succ,List.set_cons_zero,List.set_cons_succ,List.length_map,ha.get,hc,cat_ok (a:=found) (b:=a.map (·*t+k)) (by rw[List.length_map]; omega)]
end
theorem pair_body2 {P:Int->List Int->List Int->Prop}(hP:PairP P){s:List Int}{k0 n k:Int}{a b:List Int}{sa sb z6 z7 z8 z9 z10:Sl}(hk0:0<=k0)(hk1:k0<=1000)(hk:0<=k/\k<=5)(hsl:k0+9<=(s.length:Int))(h:P n a b)(hn:n<=60)(ha:Hs sa a)(hb:Hs sb b) :
  ∃ n' a' b' sa' sb' y6 y7 y8 y9 y10,b_law_pair_v2_l2 [.sh (L s),.sh (.int k0),.sh (.int n),sa,sb,.sh (.int k),z6,z7,z8,z9,z10]=.nx [.sh (L s),.sh (.int k0),.sh (.int n'),sa',sb',.sh (.int k),y6,y7,y8,y9,y10]/\P n' a' b'/\n'<=60/\Hs sa' a'/\Hs sb' b':=by
 have hA:=(hP.beat h).1
 have hB:=(hP.beat h).2
 have hnp:=hA.pos
 have hz:=mod_rg (n:=2147483647) (a:=cell2 s (k0+k)*48271) (by omega)
 generalize hnum:cell2 s (k0+k)*48271%2147483647=num at hz
 have hm7:=mod_rg (n:=7) (a:=num) (by omega)
 obtain⟨t,ht,ht2,ht7⟩:=times_of (num%7) hm7.1 hm7.2
 have h6:sSet 6 (eOp .mod (eOp .mul (eCall F_Q0C (lCons (eVar 0) (lCons (eOp .add (eVar 1) (eVar 5)) lNil))) (eInt 48271)) (eInt 2147483647)) [.sh (L s),.sh (.int k0),.sh (.int n),sa,sb,.sh (.int k),z6,z7,z8,z9,z10]
   = .nx [.sh (L s),.sh (.int k0),.sh (.int n),sa,sb,.sh (.int k),.sh (.int num),z7,z8,z9,z10]:=by
  simp only[sSet,keep_int,eOp,eVar,eInt,lNil,lCons,eCall,Dv.all,R.bind,RL.bind,Dv.R.bindL,Dv.RL.bindL,Out.bind,get_sh,scal_int,scal_lst,List.map_cons,List.map_nil,List.getElem?_cons_zero,List.getElem?_cons_succ,List.set_cons_zero,List.set_cons_succ,Bool.and_true,add_ok,cell2_ok (s:=s) (k:=k0+k) (by omega) (by omega),mul_ok (mulOk_r (j:=48271) (by decide) (by decide)),mod_ok (j:=2147483647) (by decide),hnum]
 have h78:∀ rest:SS,sCons (sSet 7 (eIx (eLst (lCons (eInt 2) (lCons (eInt 3) (lCons (eInt 2) (lCons (eInt 5) (lCons (eInt 2) (lCons (eInt 3) (lCons (eInt 7) lNil)))))))) (eOp .mod (eVar 6) (eInt 7)))) (sCons (sSet 8 (eOp .mod (eOp .fdiv (eVar 6) (eInt 7)) (eInt 4))) rest)
   [.sh (L s),.sh (.int k0),.sh (.int n),sa,sb,.sh (.int k),.sh (.int num),z7,z8,z9,z10]=rest [.sh (L s),.sh (.int k0),.sh (.int n),sa,sb,.sh (.int k),.sh (.int num),.sh (.int t),.sh (.int (num/7%4)),z9,z10]:=by
  intro rest
  simp only[sCons,sSet,keep_int,eIx,Dv.ixD,eOp,eVar,eInt,eLst,lNil,lCons,Dv.all,R.bind,RL.bind,Dv.R.bindL,Dv.RL.bindL,Out.bind,get_sh,scal_int,List.map_cons,List.map_nil,List.getElem?_cons_zero,List.getElem?_cons_succ,List.set_cons_zero,List.set_cons_succ,Bool.or_true,Bool.and_true,mod_ok (j:=7) (by decide),ht,fdiv_ok (j:=7) (by decide) (by decide),mod_ok (j:=4) (by decide)]
 have hsw:∀ (n':Int) (a' b':List Int) (sa' sb' y9 y10:Sl),P n' a' b'->n'<=60->Hs sa' a'->Hs sb' b'->∃ a2 b2 sa2 sb2,sIf (eCm .eq (eOp .mod (eOp .fdiv (eVar 6) (eInt 28)) (eInt 2)) (eInt 1)) (sPar [3,4] 3 4 (eVar 4) (eVar 3)) sNil [.sh (L s),.sh (.int k0),.sh (.int n'),sa',sb',.sh (.int k),.sh (.int num),.sh (.int t),.sh (.int (num/7%4)),y9,y10]
   = .nx [.sh (L s),.sh (.int k0),.sh (.int n'),sa2,sb2,.sh (.int k),.sh (.int num),.sh (.int t),.sh (.int (num/7%4)),y9,y10]/\P n' a2 b2/\Hs sa2 a2/\Hs sb2 b2:=by
  intro n' a' b' sa' sb' y9 y10 h' hn' ha' hb'
  by_cases hq:num/28%2=1
  ·refine⟨b',a',.sh (L b'),.sh (L a'),?_,hP.swap h',.inl rfl,.inl rfl⟩
   rcases ha' with e|e <;>rcases hb' with e2|e2 <;>(subst e; subst e2; simp only[Dv.give,Dv.open_,give_sh,give_ow,shared_sh,sIf,sPar,eCm,eOp,eVar,eInt,Dv.all,R.bind,RL.bind,Out.bind,get_sh,get_ow,scal_int,scal_lst,List.map_cons,List.map_nil,List.getElem?_cons_zero,List.getElem?_cons_succ,List.set_cons_zero,List.set_cons_succ,List.foldl_cons,List.foldl_nil,Option.getD_some,cm_eqI,fdiv_ok (j:=28) (by decide) (by decide),mod_ok (j:=2) (by decide),decide_eq_true hq])
  ·refine⟨a',b',sa',sb',?_,h',ha',hb'⟩
   simp only[sNil,sIf,eCm,eOp,eVar,eInt,Dv.all,R.bind,RL.bind,Out.bind,get_sh,scal_int,List.map_cons,List.map_nil,List.getElem?_cons_zero,List.getElem?_cons_succ,cm_eqI,fdiv_ok (j:=28) (by decide) (by decide),mod_ok (j:=2) (by decide),decide_eq_false hq]
 have hla:=hA.len
 have hlb:=hB.len
 have hmul:opD .mul (.int n) (.int (t:Int))=.ok (.int (n*t)) true:=mul_ok (mulOk_l (by omega) (by omega))
 unfold b_law_pair_v2_l2
 rw[sCons_nx h6,h78]
 by_cases hle:n*t<=60
 ·by_cases hkd:num/7%4<2
  ·have hag:F_Q09 [.int n,L a,.int (t:Int)]=.ok (L (again n a t)) true:=by
    have:=again_ok (n:=n) (t:=(t:Int)) (xs:=a) (by omega) (by omega) (by omega)
    rwa [Int.toNat_natCast] at this
   obtain⟨a2,b2,sa2,sb2,e,p2,x1,x2⟩:=hsw (n*t) (again n a t) b (.ow (L (again n a t))) sb z9 z10 (hP.again (by omega) h) hle (.inr rfl) hb
   refine⟨n*t,a2,b2,sa2,sb2,.sh (.int num),.sh (.int t),.sh (.int (num/7%4)),z9,z10,?_,p2,hle,x1,x2⟩
   rw[sCons_nx (st1:=[.sh (L s),.sh (.int k0),.sh (.int (n*t)),.ow (L (again n a t)),sb,.sh (.int k),.sh (.int num),.sh (.int t),.sh (.int (num/7%4)),z9,z10])]
   ·exact e
   ·simp only[sCons,sSet,keep_int,keep_L,sIf,eCm,eOp,eVar,eInt,lNil,lCons,eCall,Dv.all,R.bind,RL.bind,Dv.R.bindL,Dv.RL.bindL,Out.bind,get_sh,get_ow,scal_int,scal_lst,List.map_cons,List.map_nil,List.getElem?_cons_zero,List.getElem?_cons_succ,List.set_cons_zero,List.set_cons_succ,Bool.and_true,Bool.and_false,cm_lt,cm_le,hmul,decide_eq_true hle,decide_eq_true hkd,ha.get,hag]
  ·obtain⟨z',em⟩:=mix_loop2 (s:=s) (k0:=k0) (n:=n) (t:=(t:Int)) (a:=a) (sa:=sa) (sb:=sb) (z5:=.sh (.int k)) (z6:=.sh (.int num)) (z8:=.sh (.int (num/7%4))) ha (by omega) (by omega) trivial (upto t) [] z10 (fun x hx=>by have:=mem_upto.mp hx; omega) (by
    rw[upto_len]
    have:t*a.length<=7*60:=Nat.mul_le_mul ht7 (by omega)
    simp; omega)
   rw[mix_fold] at em
   simp only[List.map_nil,L] at em
   have hmx:(mix a t t).length<64:=by
    have h1:(((mix a t t).length:Nat):Int)<=n*t:=by
     have e1:=(mix_beat hA (show 1<=t by omega)).len
     rw[isort_len] at e1
     exact e1
    omega
   have hc2:c_law_pair_v2_2 [some (L s),some (.int k0),some (.int n),some (L (Dv.isort (mix a t t))),some (L b),some (.int k),some (.int num),some (.int t),some (.int (num/7%4)),some (L (mix a t t)),z'.get]=.ok (L (b.map (·*(t:Int)))) true:=by
    unfold c_law_pair_v2_2
    exact eComp_all (f:=false) rfl (by omega) fun x hx=>by simp only[eOp,eVar,Dv.pick,R.bind,RL.bind,Out.bind,scal_int,List.map_cons,List.map_nil,List.getElem?_cons_zero,List.getElem?_cons_succ,Option.getD_some,mul_ok (mulOk_r (i:=x) (j:=(t:Int)) (by omega) (by omega))]
   obtain⟨a2,b2,sa2,sb2,e,p2,x1,x2⟩:=hsw (n*t) (Dv.isort (mix a t t)) (b.map (·*(t:Int))) (.ow (L (Dv.isort (mix a t t)))) (.ow (L (b.map (·*(t:Int))))) (.ow (L (mix a t t))) z' (hP.mix (by omega) h) hle (.inr rfl) (.inr rfl)
   refine⟨n*t,a2,b2,sa2,sb2,.sh (.int num),.sh (.int t),.sh (.int (num/7%4)),.ow (L (mix a t t)),z',?_,p2,hle,x1,x2⟩
   rw[sCons_nx (st1:=[.sh (L s),.sh (.int k0),.sh (.int (n*t)),.ow (L (Dv.isort (mix a t t))),.ow (L (b.map (·*(t:Int)))),.sh (.int k),.sh (.int num),.sh (.int t),.sh (.int (num/7%4)),.ow (L (mix a t t)),z'])]
   ·exact e
   ·have hso:=sort_ok hmx false
    simp only[L] at hso hc2
    simp only[sCons,sSet,keep_int,keep_L,keep_nil,Dv.give,Dv.open_,shared_sh,shared_ow,sIf,sFor,iRange,eB1,eCm,eOp,eVar,eInt,eLst,lNil,Dv.all,R.bind,RL.bind,Out.bind,get_sh,get_ow,scal_int,scal_lst,List.map_cons,List.map_nil,List.getElem?_cons_zero,List.getElem?_cons_succ,List.set_cons_zero,List.set_cons_succ,List.foldl_nil,if_true,cm_lt,cm_le,hmul,decide_eq_true hle,decide_eq_false hkd,Dv.flatL,rng_ok (n:=(t:Int)) (by omega) (by omega),Int.toNat_natCast,range_upto,em,hso,hb.get,hc2]
 ·obtain⟨a2,b2,sa2,sb2,e,p2,x1,x2⟩:=hsw n a b sa sb z9 z10 h hn ha hb
  refine⟨n,a2,b2,sa2,sb2,.sh (.int num),.sh (.int t),.sh (.int (num/7%4)),z9,z10,?_,p2,hn,x1,x2⟩
  rw[sCons_nx (st1:=[.sh (L s),.sh (.int k0),.sh (.int n),sa,sb,.sh (.int k),.sh (.int num),.sh (.int t),.sh (.int (num/7%4)),z9,z10])]
  ·exact e
  ·simp only[sNil,sIf,eCm,eOp,eVar,eInt,Dv.all,R.bind,RL.bind,Out.bind,get_sh,scal_int,List.map_cons,List.map_nil,List.getElem?_cons_zero,List.getElem?_cons_succ,cm_le,hmul,decide_eq_false hle]
theorem pair_loop2 {P:Int->List Int->List Int->Prop}(hP:PairP P){s:List Int}{k0:Int}(hk0:0<=k0)(hk1:k0<=1000)(hsl:k0+9<=(s.length:Int)):∀ (ks:List Int) (n:Int) (a b:List Int) (sa sb z5 z6 z7 z8 z9 z10:Sl),(∀ k∈ks,0<=k/\k<=5)->P n a b->n<=60->Hs sa a->Hs sb b ->
  ∃ n' a' b' sa' sb' y5 y6 y7 y8 y9 y10,forGo 5 b_law_pair_v2_l2 (ks.map .int) [.sh (L s),.sh (.int k0),.sh (.int n),sa,sb,z5,z6,z7,z8,z9,z10]=.nx [.sh (L s),.sh (.int k0),.sh (.int n'),sa',sb',y5,y6,y7,y8,y9,y10]/\P n' a' b'/\n'<=60/\Hs sa' a'/\Hs sb' b'
 | [],n,a,b,sa,sb,z5,z6,z7,z8,z9,z10,_,h,hn,ha,hb=>⟨n,a,b,sa,sb,z5,z6,z7,z8,z9,z10,rfl,h,hn,ha,hb⟩
 | k::r,n,a,b,sa,sb,z5,z6,z7,z8,z9,z10,hk,h,hn,ha,hb=>by
  obtain⟨n1,a1,b1,sa1,sb1,y6,y7,y8,y9,y10,e1,p1,hn1,ha1,hb1⟩:=pair_body2 hP (s:=s) (z6:=z6) (z7:=z7) (z8:=z8) (z9:=z9) (z10:=z10) hk0 hk1 (hk k (List.mem_cons_self ..)) hsl h hn ha hb
  obtain⟨n2,a2,b2,sa2,sb2,x5,x6,x7,x8,x9,x10,e2,p2⟩:=pair_loop2 hP hk0 hk1 hsl r n1 a1 b1 sa1 sb1 (.sh (.int k)) y6 y7 y8 y9 y10 (fun x hx=>hk x (List.mem_cons_of_mem _ hx)) p1 hn1 ha1 hb1
  refine⟨n2,a2,b2,sa2,sb2,x5,x6,x7,x8,x9,x10,?_,p2⟩
  rw[List.map_cons,forGo_nx (st':=[.sh (L s),.sh (.int k0),.sh (.int n1),sa1,sb1,.sh (.int k),y6,y7,y8,y9,y10])]
  ·exact e2
  ·simp only[List.set_cons_succ,List.set_cons_zero]; exact e1
noncomputable def ct (A:List Int)(q r:Int):Int:=((A.filter fun x=>decide ((x-r)%q=0)).length:Nat)
noncomputable def Inv (A:List Int)(q m:Int):Prop:=∀ r,ct A q (r+m)=ct A q r
noncomputable def sm (g:Nat->Int):Nat->Int
 | 0=>0
 | t+1=>sm g t+g t
structure Pp (p a:Nat):Prop where
 nd:noDiv p=true
 le:p ^ (a+1)<=60
noncomputable def lpf (d:Nat):Nat:=((List.range 61).find? fun p=>decide (2<=p)&&decide (d%p=0)).getD 0
noncomputable def isPP (d:Nat):Bool:=decide (2<=d)&&(List.range 6).any fun a=>decide (lpf d ^ (a+1)=d)
noncomputable def ppw (n:Nat):List Nat:=(List.range (n+1)).filter fun d=>decide (2<=d)&&(decide (n%d=0)&&isPP d)
noncomputable def prodN:List Nat->Nat
 | []=>1
 | x::r=>x*prodN r
noncomputable def subs:List Nat->List (List Nat)
 | []=>[[]]
 | x::r=>subs r++(subs r).map (x::·)
theorem mem_subs {g:Nat->Bool}:∀ l:List Nat,l.filter g∈subs l
 | []=>by simp[subs]
 | x::r=>by
  unfold subs
  rw[List.filter_cons]
  split
  ·exact List.mem_append.mpr (.inr (List.mem_map.mpr ⟨_,mem_subs r,rfl⟩))
  ·exact List.mem_append.mpr (.inl (mem_subs r))
theorem all_table:((List.range 61).all fun n=>decide (n=0) || (prodN ((ppw n).map lpf) == n&&((divs1 (n:Int)).filter (fun d=>isPP d.toNat) == (ppw n).map (fun (i:Nat)=>(i:Int)))))=true:=by decide +kernel
theorem lpf_table:((List.range 61).all fun d=>decide (d<2) || (noDiv (lpf d)&&(decide (d%lpf d=0)&&(List.range (lpf d)).all fun j=>decide (j<2) || decide (d%j≠0))))=true:=by decide +kernel
theorem lpf_ok {d:Nat}(h2:2<=d)(h:d<=60):noDiv (lpf d)=true/\d%lpf d=0/\∀ j,2<=j->j<lpf d->d%j≠0:=by
 have:=List.all_eq_true.mp lpf_table d (List.mem_range.mpr (by omega))
 rw[decide_eq_false (by omega),Bool.false_or,Bool.and_eq_true,Bool.and_eq_true,decide_eq_true_eq] at this
 refine⟨this.1,this.2.1,fun j j2 jl=>?_⟩
 have h3:=List.all_eq_true.mp this.2.2 j (List.mem_range.mpr jl)
 rw[decide_eq_false (by omega),Bool.false_or,decide_eq_true_eq] at h3
 exact h3
theorem noDiv_two {p:Nat}(h:noDiv p=true):2<=p:=by unfold noDiv at h; simp at h; exact h.1
noncomputable def ups2 (n:Int):List Int:=(List.range (n-1).toNat).map fun (i:Nat)=>2+(i:Int)
theorem range_ups2 {n:Int}(h:1<=n):Dv.rangeL 2 (n+1-2).toNat=(ups2 n).map .int:=by
 rw[rangeL_eq]; unfold ups2
 have:(n+1-2).toNat=(n-1).toNat:=by omega
 rw[this]
theorem small_mul {i j:Int}(h:0<=i)(h2:i<=1000):opD .mul (.int i) (.int j)=.ok (.int (i*j)) true :=
 mul_ok (by unfold Dv.mulOk; rw[decide_eq_true (Nat.le_trans (bits_lt (k:=10) (by omega) (by omega) (by omega)) (by omega)),Bool.true_or,Bool.true_or])
noncomputable def had (n:Int)(xs:List Int):List Int:=(divs1 n).filter fun d=>hasB xs d
theorem mem_ups2 {n d:Int}(h:d∈ups2 n):2<=d/\d<=n:=by
 unfold ups2 at h
 obtain⟨i,hi,rfl⟩:=List.mem_map.mp h
 have:=List.mem_range.mp hi
 omega
noncomputable def ppI (n:Int):List Int:=(divs1 n).filter fun d=>isPP d.toNat
theorem one_table:((List.range 61).all fun k=>decide (k<2) || (decide (co (divs (k:Int)) 1=(lpf k:Int))&&(decide (1<(divs (k:Int)).length)&&(((divs1 (k:Int)).all fun x=>decide (x%(lpf k:Int)=0)) == isPP k))))=true:=by decide +kernel
theorem one_tab {d:Int}(h2:2<=d)(h:d<=60):co (divs d) 1=(lpf d.toNat:Int)/\1<(divs d).length/\((divs1 d).all fun x=>decide (x%(lpf d.toNat:Int)=0))=isPP d.toNat:=by
 have:=List.all_eq_true.mp one_table d.toNat (List.mem_range.mpr (by omega))
 have e:((d.toNat:Nat):Int)=d:=by omega
 rw[decide_eq_false (by omega),Bool.false_or,e,Bool.and_eq_true,Bool.and_eq_true,decide_eq_true_eq,decide_eq_true_eq,beq_iff_eq] at this
 exact this
theorem lpf_rg {d:Int}(h2:2<=d)(h:d<=60):2<=(lpf d.toNat:Int)/\(lpf d.toNat:Int)<=d/\d%(lpf d.toNat:Int)=0:=by
 obtain⟨h1,h3,_⟩:=lpf_ok (d:=d.toNat) (by omega) (by omega)
 have h4:=noDiv_two h1
 have h5:=Nat.le_of_dvd (by omega) (Nat.dvd_of_mod_eq_zero h3)
 refine⟨by omega,by omega,?_⟩
 have e:((d.toNat:Nat):Int)=d:=by omega
 have h6:((lpf d.toNat:Nat):Int) ∣ ((d.toNat:Nat):Int):=Int.natCast_dvd_natCast.mpr (Nat.dvd_of_mod_eq_zero h3)
 rw[e] at h6
 exact Int.emod_eq_zero_of_dvd h6
theorem prime_of_ok {d:Int}(h2:2<=d)(h:d<=60):F_Q13 [.int d]=.ok (.int (lpf d.toNat)) true:=by
 obtain⟨t1,t2,_⟩:=one_tab h2 h
 have hat:=at_co (s:=divs d) (k:=1) (by omega) (by omega)
 have e1:(1:Int).toNat=1:=rfl
 rw[e1,t1] at hat
 simp only[F_Q13,b_Q13,Dv.fn,sRet,eIx,Dv.ixD,eVar,eInt,lNil,lCons,eCall,Dv.all,R.bind,RL.bind,Dv.R.bindL,Dv.RL.bindL,Out.bind,get_sh,scal_int,List.map_cons,List.map_nil,List.length_cons,List.length_nil,List.replicate,List.cons_append,List.nil_append,List.getElem?_cons_zero,Bool.or_true,Bool.and_true,Nat.reduceAdd,Nat.reduceSub,divisors_ok (show 1<=d by omega) h,hat]
theorem bls_map (f:Int->Bool):∀ xs:List Int,Dv.blsOf (xs.map fun x=>D.bl (f x))=some (xs.map f)
 | []=>rfl
 | x::r=>by rw[List.map_cons,List.map_cons]; show (Dv.blsOf (r.map _)).map (f x::·)=_; rw[bls_map f r]; rfl
theorem one_prime_ok {d:Int}(h2:2<=d)(h:d<=60):F_Q07 [.int d]=.ok (.bl (isPP d.toNat)) true:=by
 obtain⟨_,_,t3⟩:=one_tab h2 h
 have hp:=lpf_rg h2 h
 have hc:c_Q07_1 [some (.int d),some (.int (lpf d.toNat))]=.ok (.lst ((divs1 d).map fun x=>D.bl (decide (x%(lpf d.toNat:Int)=0)))) true:=by
  unfold c_Q07_1 eComp
  have hl:=divs1_len h
  have hle:(divs1 d).length<=Dv.mx:=by unfold Dv.mx; omega
  have hg:=compGo_tup (elt:=(eCm .eq (eOp .mod (eVar 0) (eVar 1)) (eInt 0))) (free:=[some (.int (lpf d.toNat))]) (g:=fun x=>D.bl (decide (x%(lpf d.toNat:Int)=0))) (xs:=divs1 d) (fun x hx=>by
   simp only[eCm,eOp,eVar,eInt,R.bind,RL.bind,Out.bind,scal_int,List.getElem?_cons_zero,List.getElem?_cons_succ,cm_eqI,mod_ok (show (0:Int)<(lpf d.toNat:Int) by omega)])
  simp only[iSeq,eVar,eInt,lNil,lCons,eCall,Dv.pick,eSlice,ePart,R.bind,RL.bind,Dv.R.bindL,Dv.RL.bindL,Out.bind,scal_int,List.map_cons,List.map_nil,List.getElem?_cons_zero,List.getElem?_cons_succ,Option.getD_some,Bool.or_true,Bool.and_true,flat_L,List.length_map,divisors_ok (show 1<=d by omega) h,Dv.sliceD,slice1,if_pos hle,hg]
 have hall:∀ f,Dv.allD (.lst ((divs1 d).map fun x=>D.bl (decide (x%(lpf d.toNat:Int)=0)))) f=.ok (.bl (isPP d.toNat)) true:=fun f=>by
  unfold Dv.allD
  simp only[bls_map,List.all_map]
  rw[<- t3]; rfl
 simp only[F_Q07,b_Q07,b_Q07_t1,Dv.fn,sCons,sSet,keep_int,sRet,eB1,eVar,lNil,lCons,eCall,Dv.all,R.bind,RL.bind,Dv.R.bindL,Dv.RL.bindL,Out.bind,get_no,get_sh,scal_int,List.map_cons,List.map_nil,List.length_cons,List.length_nil,List.replicate,List.cons_append,List.nil_append,List.getElem?_cons_zero,List.set_cons_zero,List.set_cons_succ,Bool.and_true,Nat.reduceAdd,Nat.reduceSub,prime_of_ok h2 h,hc,hall]
theorem prime_powers_ok {n:Int}(h1:1<=n)(h:n<=60):F_Q14 [.int n]=.ok (L (ppI n)) true:=by
 have hc:c_Q14_1 [some (.int n)]=.ok (L (ppI n)) true:=by
  have:=eComp_if (elt:=eVar 0) (cond:=(eCall F_Q07 (lCons (eVar 0) lNil))) (is:=[]) (it:=(iSeq (eSlice (eCall F_Q05 (lCons (eVar 0) lNil)) (some (eInt 1)) none))) (ρ:=[some (.int n)]) (c:=fun d=>isPP d.toNat) (g:=fun d=>d) (xs:=divs1 n) (f:=true)
   (by simp only[iSeq,eVar,eInt,lNil,lCons,eCall,eSlice,ePart,R.bind,RL.bind,Dv.R.bindL,Dv.RL.bindL,Out.bind,scal_int,List.getElem?_cons_zero,Bool.or_true,Bool.and_true,flat_L,divisors_ok h1 h,Dv.sliceD,slice1]) (by have:=divs1_len h; omega) (fun d hd=>by
    have hd:=(mem_divs1 h1).mp hd
    simp only[eVar,lNil,lCons,eCall,Dv.pick,R.bind,RL.bind,Dv.R.bindL,Dv.RL.bindL,Out.bind,scal_int,List.map_nil,List.getElem?_cons_zero,Bool.and_true,one_prime_ok (show 2<=d by omega) (show d<=60 by omega)]) (fun d hd _=>by simp only[eVar,Dv.pick,scal_int,List.map_nil,List.getElem?_cons_zero])
  simp only[List.map_id'] at this
  exact this
 have hw:F_Q04 [.int n]=.ok .non true:=by rw[check_wheel_eq,if_pos ⟨h1,h⟩]
 simp only[F_Q14,b_Q14,b_Q14_t1,Dv.fn,sCons,sRet,sExpr,eVar,lNil,lCons,eCall,Dv.all,R.bind,RL.bind,Dv.R.bindL,Dv.RL.bindL,Out.bind,get_sh,scal_int,List.map_cons,List.map_nil,List.length_cons,List.length_nil,List.replicate,List.cons_append,List.nil_append,List.getElem?_cons_zero,Bool.and_true,Nat.reduceAdd,Nat.reduceSub,hw,hc]
theorem powers_had_ok {n:Int}{xs:List Int}(n2:n<=60)(h:Beat n xs):F_Q12 [.int n,L xs]=.ok (L ((ppI n).filter fun d=>hasB xs d)) true:=by
 have n1:=h.pos
 have hc:c_Q12_1 [some (.int n),some (L xs),some (L ((divs1 n).filter fun d=>hasB xs d))]=.ok (L ((ppI n).filter fun d=>hasB xs d)) true:=by
  have:=eComp_if (elt:=eVar 0) (cond:=(eCm .isin (eVar 0) (eVar 1))) (is:=[2]) (it:=(iSeq (eCall F_Q14 (lCons (eVar 0) lNil)))) (ρ:=[some (.int n),some (L xs),some (L ((divs1 n).filter fun d=>hasB xs d))]) (c:=fun d=>hasB xs d) (g:=fun d=>d) (xs:=ppI n) (f:=true)
   (by simp only[iSeq,eVar,lNil,lCons,eCall,R.bind,RL.bind,Dv.R.bindL,Dv.RL.bindL,Out.bind,scal_int,List.getElem?_cons_zero,Bool.and_true,prime_powers_ok n1 n2]) (by have:=List.length_filter_le (fun d:Int=>isPP d.toNat) (divs1 n); have:=divs1_len n2; unfold ppI; omega) (fun d hd=>by
    have hd1:d∈divs1 n:=(List.mem_filter.mp hd).1
    simp only[eCm,eVar,Dv.pick,R.bind,RL.bind,Out.bind,scal_int,scal_lst,List.map_cons,List.map_nil,List.getElem?_cons_zero,List.getElem?_cons_succ,Option.getD_some,cm_in,mem_had hd1]) (fun d hd _=>by simp only[eVar,Dv.pick,scal_int,List.map_cons,List.map_nil,List.getElem?_cons_zero,List.getElem?_cons_succ,Option.getD_some])
  simp only[List.map_id'] at this
  exact this
 simp only[F_Q12,b_Q12,b_Q12_t1,Dv.fn,sCons,sSet,keep_L,sRet,eVar,lNil,lCons,eCall,Dv.all,R.bind,RL.bind,Dv.R.bindL,Dv.RL.bindL,Out.bind,get_no,get_sh,get_ow,scal_int,scal_lst,List.map_cons,List.map_nil,List.length_cons,List.length_nil,List.replicate,List.cons_append,List.nil_append,List.getElem?_cons_zero,List.getElem?_cons_succ,List.set_cons_zero,List.set_cons_succ,Bool.and_true,Bool.and_false,Nat.reduceAdd,Nat.reduceSub,had_ok n2 h,hc]
theorem first_loop {n:Int}{A:D}:∀ (ds:List Int) (x:Int) (z:Sl),(∀ d∈ds,2<=d/\d<=60) ->
  ∃ z',forGo 3 b_Q06_l1 (ds.map .int) [.sh (.int n),.sh A,.sh (.int x),z]=.nx [.sh (.int n),.sh A,.sh (.int (x*((prodN (ds.map fun d=>lpf d.toNat):Nat):Int))),z']
 | [],x,z,_=>⟨z,by simp[prodN,forGo]⟩
 | d::r,x,z,h=>by
  obtain⟨d1,d2⟩:=h d (List.mem_cons_self ..)
  have lr:=lpf_rg d1 d2
  obtain⟨z',e⟩:=first_loop (n:=n) (A:=A) r (x*lpf d.toNat) (.sh (.int d)) (fun y hy=>h y (List.mem_cons_of_mem _ hy))
  refine⟨z',?_⟩
  rw[List.map_cons,forGo_nx (st':=[.sh (.int n),.sh A,.sh (.int (x*lpf d.toNat)),.sh (.int d)]),e]
  ·rw[List.map_cons,prodN,Int.natCast_mul,Int.mul_assoc]
  ·simp only[b_Q06_l1,eVar,lNil,lCons,eCall,Dv.all,R.bind,RL.bind,Dv.R.bindL,Dv.RL.bindL,Out.bind,get_sh,sAug,scal_int,List.map_cons,List.map_nil,List.getElem?_cons_zero,List.getElem?_cons_succ,List.set_cons_zero,List.set_cons_succ,Bool.and_true,prime_of_ok d1 d2,mul_ok (mulOk_r (i:=x) (j:=(lpf d.toNat:Int)) (by omega) (by omega))]
noncomputable def vl (A B:List Int)(d:Int):D:=.lst [.bl (hasB A d),.bl (hasB B d)]
open Bt (T T_cons T_nil hits Fill isort_perm Beat tally tally_eq hits_rg fill_of hits_len)
noncomputable def der:Nat->List Int->List Int
 | _,[]=>[]
 | i,x::r=>((i:Int)*x)::der (i+1) r
noncomputable def dr (a:List Int):List Int:=der 1 (a.drop 1)
noncomputable def Xq (n e:Int):List Int:=quo (phi e) (xn1 n)
theorem X_table:((List.range 61).all fun n=>decide (n=0) || (((divs (n:Int)).all fun e=>fmul (Xq n e) (phi e) == xn1 n)&&((divs (n:Int)).foldr (fun e acc=>addL (fmul (dr (phi e)) (Xq n e)) acc) [] == List.replicate (n-1) 0++[(n:Int)]&&(Xq n 1 == List.replicate n 1&&dr (phi 1) == [1]))))=true:=by decide +kernel
theorem sl_one {α:Type}:∀ l:List α,sl l (fun _=>1)=(l.length:Int)
 | []=>rfl
 | x::l=>by rw[sl_cons,sl_one l,List.length_cons]; omega
theorem act_comm (a b:List Int)(g:Int->Int)(s:Int):act a (act b g) s=act b (act a g) s:=by
 rw[<- act_fmul,<- act_fmul]
 exact act_ext g _ _ s fun i=>by rw[co_fmul,co_fmul,Pl.cf_comm]
theorem T_comm (A B:List Int)(g:Int->Int)(s:Int):T A (T B g) s=T B (T A g) s:=by
 rw[T_sl,T_sl]
 show sl A (fun a=>sl B (fun b=>g (s-a-b)))=sl B (fun b=>sl A (fun a=>g (s-b-a)))
 rw[sl_comm]
 refine sl_congr fun b _=>sl_congr fun a _=>?_
 congr 1; omega
theorem act_fold (f:Int->List Int)(g:Int->Int)(s:Int):∀ es:List Int,act (es.foldr (fun e acc=>addL (f e) acc) []) g s=sl es (fun e=>act (f e) g s)
 | []=>rfl
 | e::es=>by rw[List.foldr_cons,act_add,act_fold f g s es,sl_cons]
theorem act_ones (g:Int->Int):∀ (n:Nat) (s:Int),act (List.replicate n 1) g s=sl (List.range n) (fun u=>g (s-(u:Int)))
 | 0,s=>rfl
 | n+1,s=>by
  rw[List.replicate_succ]
  show 1*g s+act (List.replicate n 1) g (s-1)=_
  rw[act_ones g n (s-1),List.range_succ_eq_map,sl_cons,sl_map]
  have e0:s-((0:Nat):Int)=s:=by omega
  rw[e0,Int.one_mul]
  congr 1
  refine sl_congr fun u _=>?_
  congr 1; omega
theorem has_X {n e m:Int}(n1:1<=n)(n2:n<=60)(he:e∈divs n){A:List Int}(hA:Up m A)(h:hasB A e=true){g:Int->Int}(hg:Per n g)(s:Int):act (Xq n e) (T A g) s=0:=by
 obtain⟨q,hq⟩:=hasB_iff.mp h
 have ht:=List.all_eq_true.mp X_table n.toNat (List.mem_range.mpr (by omega))
 have en:((n.toNat:Nat):Int)=n:=by omega
 rw[decide_eq_false (by omega),Bool.false_or,en,Bool.and_eq_true] at ht
 have hx:=eq_of_beq (List.all_eq_true.mp ht.1 e he)
 have e1:T A g=fun s=>act q (act (phi e) g) s:=by
  funext t
  rw[<- act_bsum hA,act_ext _ _ (fmul q (phi e)) t fun i=>by rw[hq,co_fmul],act_fmul]
 rw[e1]
 show act (Xq n e) (act q (act (phi e) g)) s=0
 rw[act_comm]
 refine act_zero _ _ (fun t=>?_) s
 rw[<- act_fmul,hx,act_xn1 n1,hg]; omega
theorem dl_sum {n:Nat}(hn:0<n)(s:Int):sl (List.range n) (fun u=>dl n (s-(u:Int)))=1:=by
 have h1:=sl_turn (d:=n) (f:=fun t=>dl n (-t)) (fun t=>by
  show dl n (-(t-n))=dl n (-t)
  exact dl_per.dvd ⟨1,by omega⟩) s
 have e1:sl (List.range n) (fun u=>dl n (s-(u:Int)))=sl (List.range n) (fun u=>dl n (-((u:Int)-s))):=sl_congr fun u _=>by congr 1; omega
 rw[e1,h1]
 obtain⟨m,rfl⟩:∃ m,n=m+1:=⟨n-1,by omega⟩
 rw[List.range_succ_eq_map,sl_cons,sl_map]
 have z:sl (List.range m) (fun u=>dl ((m+1:Nat):Int) (-((u.succ:Nat):Int)))=0:=by
  rw[<- sl_zero (List.range m)]
  refine sl_congr fun u hu=>?_
  have hu:=List.mem_range.mp hu
  unfold dl
  rw[if_neg]
  intro h
  obtain⟨k,hk⟩:=Int.dvd_of_emod_eq_zero h
  have k1:k<0:=by
   by_cases h0:k<0
   ·exact h0
   ·exfalso
    have:=Int.mul_nonneg (show (0:Int)<=((m+1:Nat):Int) by omega) (show 0<=k by omega)
    omega
  have:((m+1:Nat):Int)*k<=((m+1:Nat):Int)*(-1):=Int.mul_le_mul_of_nonneg_left (by omega) (by omega)
  omega
 rw[z]
 unfold dl
 simp
theorem has_fill {n:Int}(n2:n<=60){A B:List Int}(hA:Beat n A)(hB:Beat n B)(hl:((A.length*B.length:Nat):Int)=n)(h:∀ e∈divs n,1<e->hasB A e=true\/hasB B e=true):Fill n A B:=by
 have n1:=hA.pos
 have uA:Up n A:=⟨hA.up,hA.rg⟩
 have uB:Up n B:=⟨hB.up,hB.rg⟩
 have en:((n.toNat:Nat):Int)=n:=by omega
 have ht:=List.all_eq_true.mp X_table n.toNat (List.mem_range.mpr (by omega))
 rw[decide_eq_false (by omega),Bool.false_or,en,Bool.and_eq_true,Bool.and_eq_true,Bool.and_eq_true] at ht
 have hsum:=eq_of_beq ht.2.1
 have hX1:=eq_of_beq ht.2.2.1
 have hd1:=eq_of_beq ht.2.2.2
 have gz:∀ e∈divs n,1<e->∀ s,act (Xq n e) (T A (T B (dl n))) s=0:=by
  intro e he e1 s
  rcases h e he e1 with ha|hb
  ·exact has_X n1 n2 he uA ha (dl_per.T B) s
  ·have ec:T A (T B (dl n))=T B (T A (dl n)):=funext fun t=>T_comm A B _ t
   rw[ec]
   exact has_X n1 n2 he uB hb (dl_per.T A) s
 have key:∀ s,n*T A (T B (dl n)) (s-((n.toNat-1:Nat):Int))=n:=by
  intro s
  have e1:=congrArg (fun l=>act l (T A (T B (dl n))) s) hsum
  simp only[act_fold,act_zeros] at e1
  obtain⟨l,hl1,hl2⟩:=divs_cons n1
  have hz:sl l (fun e=>act (fmul (dr (phi e)) (Xq n e)) (T A (T B (dl n))) s)=0:=by
   rw[<- sl_zero l]
   refine sl_congr fun e he=>?_
   rw[act_fmul]
   exact act_zero _ _ (fun t=>gz e (by rw[hl1]; exact List.mem_cons_of_mem _ he) (hl2 e he).1 t) s
  rw[hl1,sl_cons,hz,act_fmul,hX1,hd1] at e1
  have e2:act [1] (act (List.replicate n.toNat 1) (T A (T B (dl n)))) s=act (List.replicate n.toNat 1) (T A (T B (dl n))) s:=by
   show 1*_+0=_; omega
  rw[e2,act_ones] at e1
  have e3:sl (List.range n.toNat) (fun u=>T A (T B (dl n)) (s-(u:Int)))=n:=by
   show sl (List.range n.toNat) (fun u=>sl A (fun a=>sl B (fun b=>dl n (s-(u:Int)-a-b))))=n
   rw[sl_comm]
   have e4:∀ a:Int,sl (List.range n.toNat) (fun u=>sl B (fun b=>dl n (s-(u:Int)-a-b)))=(B.length:Int):=fun a=>by
    rw[sl_comm]
    have e5:∀ b:Int,sl (List.range n.toNat) (fun u=>dl n (s-(u:Int)-a-b))=1:=fun b=>by
     have:=dl_sum (n:=n.toNat) (by omega) (s-a-b)
     rw[en] at this
     rw[<- this]
     refine sl_congr fun u _=>?_
     congr 1; omega
    rw[sl_congr (g:=fun _=>1) fun b _=>e5 b]
    exact sl_one B
   rw[sl_congr (g:=fun _=>(B.length:Int)) fun a _=>e4 a]
   have e6:sl A (fun _=>(B.length:Int))=(B.length:Int)*sl A (fun _=>1):=by rw[<- sl_mul]; exact sl_congr fun _ _=>by omega
   have e7:sl A (fun _=>(1:Int))=(A.length:Int):=sl_one A
   rw[e6,e7,<- hl,Int.natCast_mul,Int.mul_comm]
  rw[e3] at e1
  have e8:act [n] (T A (T B (dl n))) (s-((n.toNat-1:Nat):Int))=n*T A (T B (dl n)) (s-((n.toNat-1:Nat):Int)):=by
   show n*_+0=_; omega
  rw[e8] at e1
  omega
 have g1:∀ s,T A (T B (dl n)) s=1:=fun s=>by
  have h1:=key (s+((n.toNat-1:Nat):Int))
  have e:s+((n.toNat-1:Nat):Int)-((n.toNat-1:Nat):Int)=s:=by omega
  rw[e] at h1
  have h2:n*T A (T B (dl n)) s=n*1:=by omega
  exact Int.eq_of_mul_eq_mul_left (by omega) h2
 refine fill_of hA hB ?_
 rw[tally_eq _ fun p hq=>(hits_rg (by omega) p hq).1]
 have hc:∀ i:Nat,i<n.toNat->(hits n A B).count (i:Int)=1:=by
  intro i hi
  have h3:=hits_T (dl_per (d:=n)) (by omega) A (i:Int) B
  rw[<- T_comm,g1] at h3
  have cs:∀ ps:List Int,(∀ p∈ps,0<=p/\p<n)->sl ps (fun x=>dl n ((i:Int)-x))=((ps.count (i:Int):Nat):Int):=by
   intro ps
   induction ps with
   | nil=>intro _; rfl
   | cons p ps ih =>
    intro hp
    rw[sl_cons,ih fun x hx=>hp x (List.mem_cons_of_mem _ hx),List.count_cons]
    have:=hp p (List.mem_cons_self ..)
    unfold dl
    by_cases hpi:p=(i:Int)
    ·subst hpi; simp; omega
    ·have hne:¬ ((i:Int)-p)%n=0:=by
      intro hm
      obtain⟨k,hk⟩:=Int.dvd_of_emod_eq_zero hm
      have k1:k<1:=by
       by_cases h0:k<1
       ·exact h0
       ·exfalso
        have:n*1<=n*k:=Int.mul_le_mul_of_nonneg_left (by omega) (by omega)
        omega
      have k2:-1<k:=by
       by_cases h0:-1<k
       ·exact h0
       ·exfalso
        have:n*k<=n*(-1):=Int.mul_le_mul_of_nonneg_left (by omega) (by omega)
        omega
      have:k=0:=by omega
      subst this
      omega
     rw[if_neg hne,if_neg (by simpa using hpi)]; omega
  rw[cs _ fun p hp=>hits_rg (by omega) p hp] at h3
  omega
 apply List.ext_getElem?
 intro i
 by_cases hi:i<n.toNat
 ·simp[hi,hc i hi]
 ·rw[List.getElem?_eq_none (by simp; omega),List.getElem?_eq_none (by simp; omega)]
noncomputable def primesL (n:Int):List Int:=(ups2 n).foldl (fun fo p=>if n%p=0/\(fo.filter fun q=>decide (p%q=0))=[] then fo++[p] else fo) []
noncomputable def Xp (d:Int):List Int:=fprod (fun p=>xn1 (d/p)) (primesL d)
theorem pr_table:((List.range 61).all fun d=>decide (d<2) || ((primesL (d:Int)).all (fun p=>decide (2<=p)&&(decide (p<=(d:Int))&&(decide ((d:Int)%p=0)&&(fmul (quo (phi d) (comb ((d:Int)/p).toNat p.toNat)) (phi d) == comb ((d:Int)/p).toNat p.toNat))))&&(fmul (quo (Psi d) (Xp d)) (Psi d) == Xp d&&(((primesL (d:Int)).length == 1) == isPP d&&(decide (isPP d=false) || ((primesL (d:Int)).getD 0 0 == (lpf d:Int)))))))=true:=by decide +kernel
noncomputable def okI (r:R)(xs:List Int):Bool:=match r with
 | .ok (.lst ds) true=>match Dv.intsOf ds with
  | some ys=>ys == xs
  | none=>false
 | _=>false
theorem intsOf_is:∀ {ds:List D} {ys:List Int},Dv.intsOf ds=some ys->ds=ys.map .int
 | [],ys,h=>by simp[Dv.intsOf] at h; subst h; rfl
 | d::r,ys,h=>by
  cases d <;>simp only[Dv.intsOf,reduceCtorEq] at h
  case int i =>
   cases e:Dv.intsOf r with
   | none=>rw[e] at h; simp at h
   | some zs=>rw[e] at h; simp at h; subst h; rw[List.map_cons,intsOf_is e]
theorem okI_is {r:R}{xs:List Int}(h:okI r xs=true):r=.ok (L xs) true:=by
 unfold okI at h
 split at h
 ·split at h
  ·rename_i e
   have:=intsOf_is e
   rw[beq_iff_eq] at h; subst h; subst this; rfl
  ·simp at h
 ·simp at h
theorem primes_table:((List.range 61).all fun d=>decide (d<1) || okI (F_Q0T [.int (d:Int)]) (primesL d))=true:=by decide +kernel
theorem law_primes_ok {d:Int}(h1:1<=d)(h2:d<=60):F_Q0T [.int d]=.ok (L (primesL d)) true:=by
 have:=List.all_eq_true.mp primes_table d.toNat (List.mem_range.mpr (by omega))
 have e:((d.toNat:Nat):Int)=d:=by omega
 rw[decide_eq_false (by omega),Bool.false_or,e] at this
 exact okI_is this
theorem pr_tab {d:Int}(h1:2<=d)(h2:d<=60):(∀ p∈primesL d,2<=p/\p<=d/\d%p=0/\∃ Q,fmul Q (phi d)=comb (d/p).toNat p.toNat)/\(∃ Q,fmul Q (Psi d)=Xp d)/\(((primesL d).length == 1)=isPP d.toNat)/\(isPP d.toNat=true->(primesL d).getD 0 0=(lpf d.toNat:Int)):=by
 have:=List.all_eq_true.mp pr_table d.toNat (List.mem_range.mpr (by omega))
 have e:((d.toNat:Nat):Int)=d:=by omega
 rw[decide_eq_false (by omega),Bool.false_or,e,Bool.and_eq_true,Bool.and_eq_true,Bool.and_eq_true] at this
 obtain⟨a,b,c,f⟩:=this
 refine⟨fun p hp=>?_,⟨_,beq_iff_eq.mp b⟩,beq_iff_eq.mp c,fun hh=>?_⟩
 ·have:=List.all_eq_true.mp a p hp
  rw[Bool.and_eq_true,Bool.and_eq_true,Bool.and_eq_true,decide_eq_true_eq,decide_eq_true_eq,decide_eq_true_eq] at this
  exact⟨this.1,this.2.1,this.2.2.1,_,beq_iff_eq.mp this.2.2.2⟩
 ·rw[hh] at f
  exact beq_iff_eq.mp f
theorem act_comb {m:Nat}(hm:0<m){g:Int->Int}(hg:Per m g):∀ (p:Nat) (s:Int),act (comb m (p+1)) g s=((p+1:Nat):Int)*g s
 | 0,s=>by
  show 1*g s+0=_
  omega
 | p+1,s=>by
  show 1*g s+act (List.replicate (m-1) 0++comb m (p+1)) g (s-1)=_
  rw[act_zeros]
  have e:s-1-((m-1:Nat):Int)=s-m:=by omega
  rw[e,act_comb hm hg p,hg s,Int.natCast_add (p+1) 1,Int.add_mul]
  omega
theorem peel {d p:Int}(h1:2<=d)(h2:d<=60)(hp:p∈primesL d){g:Int->Int}(z1:∀ s,act (phi d) g s=0)(z2:∀ s,act (xn1 (d/p)) g s=0)(s:Int):g s=0:=by
 obtain⟨p2,p3,p4,Q,hQ⟩:=(pr_tab h1 h2).1 p hp
 have hx:p*(d/p)=d:=Int.mul_ediv_cancel' (Int.dvd_of_emod_eq_zero p4)
 have q1:1<=d/p:=by
  by_cases h0:d/p<=0
  ·exfalso
   have:p*(d/p)<=0:=Int.mul_nonpos_of_nonneg_of_nonpos (by omega) h0
   omega
  ·omega
 have e:(((d/p).toNat:Nat):Int)=d/p:=by omega
 have hg:Per ((d/p).toNat:Nat) g:=fun s=>by
  have:=z2 s
  rw[act_xn1 q1] at this
  rw[e]; omega
 obtain⟨k,hk⟩:∃ k,p.toNat=k+1:=⟨p.toNat-1,by omega⟩
 have h3:=act_comb (m:=(d/p).toNat) (by omega) hg k s
 rw[<- hk,<- hQ,act_fmul,act_zero _ _ z1] at h3
 have h4:((p.toNat:Nat):Int)≠0:=by omega
 rcases Int.mul_eq_zero.mp h3.symm with h|h
 ·exact absurd h h4
 ·exact h
theorem peel_all {d:Int}(h1:2<=d)(h2:d<=60):∀ (ps:List Int),(∀ p∈ps,p∈primesL d)->∀ {g:Int->Int},(∀ s,act (phi d) g s=0)->(∀ s,act (fprod (fun p=>xn1 (d/p)) ps) g s=0)->∀ s,g s=0
 | [],_,g,_,z2,s=>by
  have:act [1] g s=0:=z2 s
  have e:act [1] g s=1*g s+0:=rfl
  omega
 | p::ps,hp,g,z1,z2,s=>by
  refine peel_all h1 h2 ps (fun q hq=>hp q (List.mem_cons_of_mem _ hq)) z1 (fun s=>?_) s
  refine peel h1 h2 (hp p (List.mem_cons_self ..)) (fun s=>?_) (fun s=>?_) s
  ·rw[act_comm]; exact act_zero _ _ z1 s
  ·have:act (fmul (xn1 (d/p)) (fprod (fun p=>xn1 (d/p)) ps)) g s=0:=z2 s
   rwa [act_fmul] at this
theorem has_math {d m:Int}(h1:2<=d)(h2:d<=60)(hm:m<=200){A:List Int}(hA:Up m A):hasB A d=true ↔ ∀ s,act (Xp d) (T A (dl d)) s=0:=by
 obtain⟨hp,⟨Q,hQ⟩,_⟩:=pr_tab h1 h2
 have key:∀ s,T A (psi d) s=act (Psi d) (T A (dl d)) s:=fun s=>(act_T A (dl d) (Psi d) s).symm
 refine⟨fun h s=>?_,fun h=>zero_has h1 h2 hm hA fun s=>?_⟩
 ·rw[<- hQ,act_fmul]
  refine act_zero _ _ (fun s=>?_) s
  rw[<- key]; exact has_zero h1 h2 hA h s
 ·rw[key]
  refine peel_all h1 h2 (primesL d) (fun p hp=>hp) (g:=act (Psi d) (T A (dl d))) (fun s=>?_) (fun s=>?_) s
  ·rw[<- act_fmul,(psi_tab h1 h2).1,act_xn1 (by omega),(dl_per.T A)]; omega
  ·rw[act_comm]
   exact act_zero _ _ h s
noncomputable def gs (d:Int)(g:Int->Int):List Int->Int->Int
 | []=>g
 | p::r=>gs d (fun s=>g s-g (s+d/p)) r
theorem Per.stp {d:Int}{g:Int->Int}(h:Per d g)(o:Int):Per d (fun s=>g s-g (s+o)):=fun s=>by
 show g (s-d)-g (s-d+o)=g s-g (s+o)
 have e:s-d+o=s+o-d:=by omega
 rw[e,h,h]
theorem act_shift (g:Int->Int)(o:Int):∀ (a:List Int) (s:Int),act a (fun s=>g (s+o)) s=act a g (s+o)
 | [],s=>rfl
 | x::r,s=>by
  show x*g (s+o)+act r (fun s=>g (s+o)) (s-1)=x*g (s+o)+act r g (s+o-1)
  rw[act_shift g o r]
  have e:s-1+o=s+o-1:=by omega
  rw[e]
theorem act_sub' (g h:Int->Int):∀ (a:List Int) (s:Int),act a (fun s=>g s-h s) s=act a g s-act a h s
 | [],s=>rfl
 | x::r,s=>by
  show x*(g s-h s)+act r (fun s=>g s-h s) (s-1)=(x*g s+act r g (s-1))-(x*h s+act r h (s-1))
  rw[act_sub' g h r,Int.mul_sub]; omega
theorem gs_zero {d:Int}(h1:2<=d):∀ (ps:List Int) (g:Int->Int),(∀ p∈ps,1<=d/p)->((∀ s,gs d g ps s=0) ↔ ∀ s,act (fprod (fun p=>xn1 (d/p)) ps) g s=0)
 | [],g,_=>by
  refine forall_congr' fun s=>?_
  show g s=0 ↔ 1*g s+0=0
  omega
 | p::ps,g,hp=>by
  have ih:=gs_zero h1 ps (fun s=>g s-g (s+d/p)) (fun q hq=>hp q (List.mem_cons_of_mem _ hq))
  have q1:=hp p (List.mem_cons_self ..)
  show (∀ s,gs d (fun s=>g s-g (s+d/p)) ps s=0) ↔ ∀ s,act (fmul (xn1 (d/p)) (fprod (fun p=>xn1 (d/p)) ps)) g s=0
  rw[ih]
  have e:∀ s,act (fprod (fun p=>xn1 (d/p)) ps) (fun s=>g s-g (s+d/p)) s=act (fmul (xn1 (d/p)) (fprod (fun p=>xn1 (d/p)) ps)) g (s+d/p):=fun s=>by
   rw[act_sub',act_shift,act_fmul,act_xn1 q1]
   have:s+d/p-d/p=s:=by omega
   rw[this]
  constructor
  ·intro h s
   have:=h (s-d/p)
   rw[e] at this
   have e2:s-d/p+d/p=s:=by omega
   rwa [e2] at this
  ·intro h s
   rw[e]; exact h _
theorem has_gs {d m:Int}(h1:2<=d)(h2:d<=60)(hm:m<=200){A:List Int}(hA:Up m A):hasB A d=true ↔ ∀ s,gs d (T A (dl d)) (primesL d) s=0:=by
 rw[has_math h1 h2 hm hA,gs_zero h1]
 ·rfl
 ·intro p hp
  obtain⟨p2,p3,p4,_⟩:=(pr_tab h1 h2).1 p hp
  have hx:p*(d/p)=d:=Int.mul_ediv_cancel' (Int.dvd_of_emod_eq_zero p4)
  by_cases h0:d/p<=0
  ·exfalso
   have:p*(d/p)<=0:=Int.mul_nonpos_of_nonneg_of_nonpos (by omega) h0
   omega
  ·omega
theorem gs_per {d:Int}:∀ (ps:List Int) {g:Int->Int},Per d g->Per d (gs d g ps)
 | [],g,h=>h
 | p::ps,g,h=>gs_per ps (h.stp _)
noncomputable def mpw (d p:Int):Nat->Int->Int
 | 0,x=>x
 | m+1,x=>if d%(x*p)=0 then mpw d p m (x*p) else x
noncomputable def partsL (d:Int):List Int:=(primesL d).map fun p=>mpw d p 100000 p
noncomputable def unlL (S:List Int):List Int:=S.foldl (fun fo x=>fo++(fo.filter fun y=>decide (y%(lpf x.toNat:Int)≠0)).map fun y=>y*x) [1]
noncomputable def ptI (S:List Nat):List Int:=S.map fun (i:Nat)=>(i:Int)
theorem unl_table:((List.range 61).all fun n=>decide (n<1) || (subs (ppw n)).all fun S=>okI (F_Q18 [L (ptI S)]) (unlL (ptI S))&&(((unlL (ptI S)).drop 1).all (fun d=>decide (2<=d)&&(decide (d<=(n:Int))&&(decide ((n:Int)%d=0)&&((partsL d).all fun q=>decide (q∈ptI S)))))&&((ups2 n).all fun d=>!decide ((n:Int)%d=0) || (!((partsL d).all fun q=>decide (q∈ptI S)) || decide (d∈(unlL (ptI S)).drop 1)))))=true:=by decide +kernel
theorem parts_table:((List.range 61).all fun d=>decide (d<2) || (decide (1<=(partsL (d:Int)).length)&&(decide (1<(partsL (d:Int)).length) || (partsL (d:Int) == [(d:Int)]))))=true:=by decide +kernel
theorem unl_len:((List.range 61).all fun n=>(subs (ppw n)).all fun S=>decide ((unlL (ptI S)).length<=1000))=true:=by decide +kernel
theorem prl_table:((List.range 61).all fun d=>decide ((primesL (d:Int)).length<=61))=true:=by decide +kernel
theorem uget {n:Nat}(g:Int->Int){i:Nat}(h:i<n):((upto n).map g)[i]?=some (g i):=by
 unfold upto
 rw[List.map_map,List.getElem?_map,List.getElem?_range h]; rfl
theorem ulen (n:Nat):(upto n).length=n:=by unfold upto; simp
theorem at_up {d k:Int}(g:Int->Int)(h:0<=k)(h2:k<d):Dv.at? (((upto d.toNat).map g).map D.int) k=some (.int (g k)):=by
 rw[at_L h (by rw[List.length_map,ulen]; omega),List.getD_eq_getElem?_getD,uget g (by omega)]
 have e:((k.toNat:Nat):Int)=k:=by omega
 rw[e]; rfl
theorem uset {d x:Int}(d1:1<=d)(g:Int->Int):((upto d.toNat).map g).set (x%d).toNat (g (x%d)+1)=(upto d.toNat).map fun s=>dl d (s-x)+g s:=by
 have hr:=mod_rg (n:=d) (a:=x) (by omega)
 refine List.ext_getElem? fun i=>?_
 rw[List.getElem?_set]
 by_cases hi:i<d.toNat
 ·rw[uget (fun s=>dl d (s-x)+g s) hi]
  have hk:dl d ((i:Int)-x)=if (x%d).toNat=i then 1 else 0:=by
   unfold dl
   have:((i:Int)-x)%d=0 ↔ (x%d).toNat=i:=by
    rw[<- Int.emod_eq_emod_iff_emod_sub_eq_zero,Int.emod_eq_of_lt (show (0:Int)<=i by omega) (show (i:Int)<d by omega)]
    omega
   by_cases h:(x%d).toNat=i
   ·rw[if_pos h,if_pos (this.mpr h)]
   ·rw[if_neg h,if_neg fun h'=>h (this.mp h')]
  rw[hk]
  split
  ·rename_i h
   subst h
   rw[if_pos (by rw[List.length_map,ulen]; exact hi)]
   have e:(((x%d).toNat:Nat):Int)=x%d:=by omega
   rw[e,Int.add_comm]
  ·rw[uget _ hi,Int.zero_add]
 ·have l1:((upto d.toNat).map fun s=>dl d (s-x)+g s)[i]?=none:=by rw[List.getElem?_eq_none]; rw[List.length_map,ulen]; omega
  rw[l1]
  split
  ·rename_i h
   exfalso; omega
  ·rw[List.getElem?_eq_none]; rw[List.length_map,ulen]; omega
noncomputable def adds (d:Int)(g:Int->Int):List Int->Int->Int
 | []=>g
 | x::r=>adds d (fun s=>dl d (s-x)+g s) r
theorem adds_T (d:Int):∀ (xs:List Int) (g:Int->Int) (s:Int),adds d g xs s=T xs (dl d) s+g s
 | [],g,s=>by rw[T_nil]; show g s=_; omega
 | x::r,g,s=>by
  show adds d (fun s=>dl d (s-x)+g s) r s=_
  rw[adds_T d r,T_cons]; omega
theorem has2_loop {A:D}{d:Int}(d1:1<=d):∀ (xs:List Int) (g:Int->Int) (z z4 z5:Sl),
  ∃ z',forGo 3 b_Q0K_l1 (xs.map .int) [.sh A,.sh (.int d),.ow (L ((upto d.toNat).map g)),z,z4,z5]=.nx [.sh A,.sh (.int d),.ow (L ((upto d.toNat).map (adds d g xs))),z',z4,z5]
 | [],g,z,z4,z5=>⟨z,rfl⟩
 | x::r,g,z,z4,z5=>by
  obtain⟨z',e⟩:=has2_loop (A:=A) d1 r (fun s=>dl d (s-x)+g s) (.sh (.int x)) z4 z5
  refine⟨z',?_⟩
  have hr:=mod_rg (n:=d) (a:=x) (by omega)
  have hlt:x%d<((upto d.toNat).length:Int):=by rw[ulen]; omega
  rw[List.map_cons,forGo_nx (st':=[.sh A,.sh (.int d),.ow (L ((upto d.toNat).map fun s=>dl d (s-x)+g s)),.sh (.int x),z4,z5])]
  ·exact e
  ·simp only[b_Q0K_l1,sPut,eIx,Dv.ixD,eOp,eVar,eInt,Dv.all,R.bind,RL.bind,Out.bind,get_sh,get_ow,scal_int,scal_lst,List.map_cons,List.map_nil,List.getElem?_cons_zero,List.getElem?_cons_succ,List.set_cons_zero,List.set_cons_succ,Bool.or_true,Bool.and_true,if_true,add_ok,List.length_map,mod_ok (show (0:Int)<d by omega),at_up g hr.1 hr.2,decide_eq_true hr.1,decide_eq_true hlt,set_L,uset d1]
theorem has2_comp {d o:Int}(d1:1<=d)(d2:d<=60){g:Int->Int}(hg:Per d g)(r0 r3 r4:Option D):c_Q0K_1 [r0,some (.int d),some (L ((upto d.toNat).map g)),r3,r4,some (.int o)]=.ok (L ((upto d.toNat).map fun s=>g s-g (s+o))) true:=by
 have hr:=rng_ok (n:=d) (by omega) (by omega)
 unfold c_Q0K_1
 refine eComp_all (f:=true) (xs:=upto d.toNat) ?_ (by rw[ulen]; omega) fun x hx=>?_
 ·simp only[iRange,eVar,scal_int,List.getElem?_cons_zero,List.getElem?_cons_succ,if_true,hr,range_upto]
 ·have hx:=mem_upto.mp hx
  have hm:=mod_rg (n:=d) (a:=x+o) (by omega)
  have e:g ((x+o)%d)=g (x+o):=hg.dvd (by
   have:=Int.emod_add_mul_ediv (x+o) d
   exact⟨-((x+o)/d),by rw[Int.mul_neg]; omega⟩)
  simp only[eIx,Dv.ixD,eOp,eVar,Dv.pick,R.bind,RL.bind,Out.bind,scal_int,scal_lst,List.map_cons,List.map_nil,List.getElem?_cons_zero,List.getElem?_cons_succ,Option.getD_some,Bool.or_true,add_ok,sub_ok,at_up g hx.1 (show x<d by omega),mod_ok (show (0:Int)<d by omega),at_up g hm.1 hm.2,e]
theorem has2_loop2 {A:D}{d:Int}(d1:1<=d)(d2:d<=60):∀ (ps:List Int) (g:Int->Int) (z3 z4 z5:Sl),(∀ p∈ps,0<p/\p<=60)->Per d g ->
  ∃ z4' z5',forGo 4 b_Q0K_l2 (ps.map .int) [.sh A,.sh (.int d),.ow (L ((upto d.toNat).map g)),z3,z4,z5]=.nx [.sh A,.sh (.int d),.ow (L ((upto d.toNat).map (gs d g ps))),z3,z4',z5']
 | [],g,z3,z4,z5,_,_=>⟨z4,z5,rfl⟩
 | p::r,g,z3,z4,z5,hp,hg=>by
  obtain⟨z4',z5',e⟩:=has2_loop2 (A:=A) d1 d2 r (fun s=>g s-g (s+d/p)) z3 (.sh (.int p)) (.sh (.int (d/p))) (fun q hq=>hp q (List.mem_cons_of_mem _ hq)) (hg.stp _)
  refine⟨z4',z5',?_⟩
  have h0:=hp p (List.mem_cons_self ..)
  rw[List.map_cons,forGo_nx (st':=[.sh A,.sh (.int d),.ow (L ((upto d.toNat).map fun s=>g s-g (s+d/p))),z3,.sh (.int p),.sh (.int (d/p))])]
  ·exact e
  ·simp only[b_Q0K_l2,sCons,sSet,keep_int,keep_L,eOp,eVar,Dv.all,R.bind,RL.bind,Out.bind,get_sh,get_ow,scal_int,List.map_cons,List.map_nil,List.getElem?_cons_zero,List.getElem?_cons_succ,List.set_cons_zero,List.set_cons_succ,fdiv_ok (i:=d) (j:=p) h0.1 (by omega),has2_comp d1 d2 hg]
theorem has2_ok {m d:Int}{xs:List Int}(h:Up m xs)(hm:m<=200)(d1:2<=d)(d2:d<=60):F_Q0K [L xs,.int d]=.ok (.bl (hasB xs d)) true:=by
 have hre:=rep_ok (x:=0) (n:=d) (by omega) (by omega)
 have e0:List.replicate d.toNat 0=(upto d.toNat).map fun _=>(0:Int):=by
  unfold upto; rw[List.map_map]; exact(List.ext_getElem (by simp) (by simp))
 obtain⟨z,e1⟩:=has2_loop (A:=L xs) (d:=d) (by omega) xs (fun _=>0) .no .no .no
 rw[<- e0] at e1
 have hT:adds d (fun _=>0) xs=T xs (dl d):=funext fun s=>by rw[adds_T]; omega
 rw[hT] at e1
 obtain⟨z4,z5,e2⟩:=has2_loop2 (A:=L xs) (d:=d) (by omega) d2 (primesL d) (T xs (dl d)) z .no .no (fun p hp=>by have:=(pr_tab d1 d2).1 p hp; omega) (dl_per.T xs)
 have hq:decide ((upto d.toNat).map (gs d (T xs (dl d)) (primesL d))=List.replicate d.toNat 0)=hasB xs d:=by
  have hper:=gs_per (d:=d) (primesL d) (dl_per.T (d:=d) xs)
  have key:(upto d.toNat).map (gs d (T xs (dl d)) (primesL d))=List.replicate d.toNat 0 ↔ hasB xs d=true:=by
   rw[has_gs d1 d2 hm h,e0]
   constructor
   ·intro he s
    have hr:=mod_rg (n:=d) (a:=s) (by omega)
    have h1:=uget (gs d (T xs (dl d)) (primesL d)) (n:=d.toNat) (i:=(s%d).toNat) (by omega)
    rw[he,uget _ (by omega)] at h1
    have e:(((s%d).toNat:Nat):Int)=s%d:=by omega
    rw[e] at h1
    have h2:gs d (T xs (dl d)) (primesL d) s=gs d (T xs (dl d)) (primesL d) (s%d):=hper.dvd (by
     have:=Int.emod_add_mul_ediv s d
     exact⟨s/d,by omega⟩)
    rw[h2]; injection h1 with h1; exact h1.symm
   ·intro he
    exact List.map_congr_left fun x _=>he x
  cases hb:hasB xs d
  ·rw[hb] at key; exact decide_eq_false fun hh=>Bool.noConfusion (key.mp hh)
  ·exact decide_eq_true (key.mpr hb)
 simp only[F_Q0K,b_Q0K,b_Q0K_t3,b_Q0K_t2,b_Q0K_t1,Dv.fn,sCons,sSet,keep_L,Dv.give,Dv.open_,give_sh,shared_no,shared_sh,shared_ow,sRet,sFor,iSeq,eCm,eOp,eVar,eInt,eLst,lNil,lCons,eCall,Dv.all,R.bind,RL.bind,Dv.R.bindL,Dv.RL.bindL,Out.bind,get_no,get_sh,get_ow,scal_int,scal_lst,List.map_cons,List.map_nil,List.length_cons,List.length_nil,List.replicate,List.cons_append,List.nil_append,List.getElem?_cons_zero,List.getElem?_cons_succ,List.set_cons_zero,List.set_cons_succ,List.foldl_cons,List.foldl_nil,Option.getD_some,Bool.and_true,Nat.reduceAdd,Nat.reduceSub,cm_eqL,hre,e1,law_primes_ok (show 1<=d by omega) d2,e2,hq]
noncomputable def frB (n:Int)(A:List Int):Bool:=decide (((prodN (((ppI n).filter fun d=>hasB A d).map fun d=>lpf d.toNat):Nat):Int)=(A.length:Int))
theorem mem_ppI2 {n d:Int}(n1:1<=n)(h:d∈ppI n):2<=d/\d<=n/\n%d=0/\isPP d.toNat=true:=by
 have h1:=(mem_divs1 n1).mp (List.mem_filter.mp h).1
 have h2:=(List.mem_filter.mp h).2
 exact⟨by omega,by omega,h1.2.2,h2⟩
theorem first_rule_ok {n:Int}{A:List Int}(n2:n<=60)(h:Beat n A):F_Q06 [.int n,L A]=.ok (.bl (frB n A)) true:=by
 have n1:=h.pos
 obtain⟨z,e⟩:=first_loop (n:=n) (A:=L A) ((ppI n).filter fun d=>hasB A d) 1 .no (fun d hd=>by
  have h1:=mem_ppI2 n1 (List.mem_filter.mp hd).1
  omega)
 rw[Int.one_mul] at e
 have hq:decide (((prodN (((ppI n).filter fun d=>hasB A d).map fun d=>lpf d.toNat):Nat):Int)=(A.length:Int))=frB n A:=rfl
 simp only[F_Q06,b_Q06,b_Q06_t2,b_Q06_t1,Dv.fn,sCons,sSet,keep_int,Dv.give,Dv.open_,give_sh,shared_no,shared_sh,sRet,sFor,iSeq,eB1,Dv.lenD,eCm,eVar,eInt,lNil,lCons,eCall,Dv.all,R.bind,RL.bind,Dv.R.bindL,Dv.RL.bindL,Out.bind,get_sh,scal_int,scal_lst,List.map_cons,List.map_nil,List.length_cons,List.length_nil,List.replicate,List.cons_append,List.nil_append,List.getElem?_cons_zero,List.getElem?_cons_succ,List.set_cons_zero,List.set_cons_succ,List.foldl_cons,List.foldl_nil,Option.getD_some,Bool.and_true,Bool.and_false,Nat.reduceAdd,Nat.reduceSub,cm_eqI,List.length_map,powers_had_ok n2 h,e,hq]
theorem powers2_table:((List.range 61).all fun n=>decide (n<1) || okI (F_Q0S [.int (n:Int)]) (ppI n))=true:=by decide +kernel
theorem powers2_ok {n:Int}(h1:1<=n)(h2:n<=60):F_Q0S [.int n]=.ok (L (ppI n)) true:=by
 have:=List.all_eq_true.mp powers2_table n.toNat (List.mem_range.mpr (by omega))
 have e:((n.toNat:Nat):Int)=n:=by omega
 rw[decide_eq_false (by omega),Bool.false_or,e] at this
 exact okI_is this
theorem at_first {xs:List Int}(h:1<=xs.length):Dv.at? (xs.map D.int) 0=some (.int (xs.getD 0 0)):=at_L (k:=0) (by omega) (by omega)
theorem lfirst_loop {n:Int}{A:List Int}(n1:1<=n)(n2:n<=60)(h:Beat n A):∀ (ds:List Int) (x:Int) (z:Sl),(∀ d∈ds,d∈ppI n) ->
  ∃ z',forGo 3 b_Q0I_l1 (ds.map .int) [.sh (.int n),.sh (L A),.sh (.int x),z]=.nx [.sh (.int n),.sh (L A),.sh (.int (x*((prodN ((ds.filter fun d=>hasB A d).map fun d=>lpf d.toNat):Nat):Int))),z']
 | [],x,z,_=>⟨z,by simp[prodN,forGo]⟩
 | d::r,x,z,hd=>by
  obtain⟨d1,d2,d3,d4⟩:=mem_ppI2 n1 (hd d (List.mem_cons_self ..))
  have lr:=lpf_rg d1 (show d<=60 by omega)
  have hB:=has2_ok (beat_up h) (show n<=200 by omega) d1 (show d<=60 by omega)
  have hp:=law_primes_ok (d:=d) (by omega) (by omega)
  obtain⟨_,_,pl,pf⟩:=pr_tab d1 (show d<=60 by omega)
  rw[d4] at pl
  have hl:(primesL d).length=1:=beq_iff_eq.mp pl
  have ha:=at_first (xs:=primesL d) (by omega)
  rw[pf d4] at ha
  cases hb:hasB A d
  ·rw[hb] at hB
   obtain⟨z',e⟩:=lfirst_loop n1 n2 h r x (.sh (.int d)) (fun y hy=>hd y (List.mem_cons_of_mem _ hy))
   refine⟨z',?_⟩
   rw[List.map_cons,forGo_nx (st':=[.sh (.int n),.sh (L A),.sh (.int x),.sh (.int d)]),e,List.filter_cons,hb]
   ·rfl
   ·simp only[b_Q0I_l1,sNil,sIf,eVar,lNil,lCons,eCall,Dv.all,R.bind,RL.bind,Dv.R.bindL,Dv.RL.bindL,Out.bind,get_sh,scal_int,scal_lst,List.map_cons,List.map_nil,List.getElem?_cons_zero,List.getElem?_cons_succ,List.set_cons_zero,List.set_cons_succ,Bool.and_true,hB]
  ·rw[hb] at hB
   obtain⟨z',e⟩:=lfirst_loop n1 n2 h r (x*lpf d.toNat) (.sh (.int d)) (fun y hy=>hd y (List.mem_cons_of_mem _ hy))
   refine⟨z',?_⟩
   rw[List.map_cons,forGo_nx (st':=[.sh (.int n),.sh (L A),.sh (.int (x*lpf d.toNat)),.sh (.int d)]),e,List.filter_cons,hb]
   ·rw[if_pos rfl,List.map_cons,prodN,Int.natCast_mul,Int.mul_assoc]
   ·simp only[b_Q0I_l1,sSet,keep_int,sIf,eIx,Dv.ixD,eOp,eVar,eInt,lNil,lCons,eCall,Dv.all,R.bind,RL.bind,Dv.R.bindL,Dv.RL.bindL,Out.bind,get_sh,scal_int,scal_lst,List.map_cons,List.map_nil,List.getElem?_cons_zero,List.getElem?_cons_succ,List.set_cons_zero,List.set_cons_succ,Bool.or_true,Bool.and_true,hB,hp,ha,mul_ok (mulOk_r (i:=x) (j:=(lpf d.toNat:Int)) (by omega) (by omega))]
theorem law_first_ok {n:Int}{A:List Int}(n2:n<=60)(h:Beat n A):F_Q0I [.int n,L A]=.ok (.bl (frB n A)) true:=by
 have n1:=h.pos
 obtain⟨z,e⟩:=lfirst_loop n1 n2 h (ppI n) 1 .no (fun d hd=>hd)
 rw[Int.one_mul] at e
 have hq:decide (((prodN (((ppI n).filter fun d=>hasB A d).map fun d=>lpf d.toNat):Nat):Int)=(A.length:Int))=frB n A:=rfl
 simp only[F_Q0I,b_Q0I,b_Q0I_t2,b_Q0I_t1,Dv.fn,sCons,sSet,keep_int,Dv.give,Dv.open_,give_sh,shared_no,shared_sh,sRet,sFor,iSeq,eB1,Dv.lenD,eCm,eVar,eInt,lNil,lCons,eCall,Dv.all,R.bind,RL.bind,Dv.R.bindL,Dv.RL.bindL,Out.bind,get_sh,scal_int,scal_lst,List.map_cons,List.map_nil,List.length_cons,List.length_nil,List.replicate,List.cons_append,List.nil_append,List.getElem?_cons_zero,List.getElem?_cons_succ,List.set_cons_zero,List.set_cons_succ,List.foldl_cons,List.foldl_nil,Option.getD_some,Bool.and_true,Nat.reduceAdd,Nat.reduceSub,cm_eqI,List.length_map,powers2_ok n1 n2,e,hq]
noncomputable def inP (P:List Int)(d:Int):Bool:=(partsL d).all fun q=>decide (q∈P)
theorem ppI_ppw {n:Int}(n1:1<=n)(n2:n<=60):ppI n=(ppw n.toNat).map fun (i:Nat)=>(i:Int):=by
 have:=List.all_eq_true.mp all_table n.toNat (List.mem_range.mpr (by omega))
 have e:((n.toNat:Nat):Int)=n:=by omega
 rw[decide_eq_false (by omega),Bool.false_or,e,Bool.and_eq_true] at this
 exact beq_iff_eq.mp this.2
theorem filt_sub {n:Int}(n1:1<=n)(n2:n<=60)(g:Int->Bool):∃ S,S∈subs (ppw n.toNat)/\(ppI n).filter g=ptI S:=by
 refine⟨(ppw n.toNat).filter fun (q:Nat)=>g (q:Int),mem_subs _,?_⟩
 rw[ppI_ppw n1 n2,List.filter_map]; rfl
structure Unl (n:Int)(P U:List Int):Prop where
 ok:F_Q18 [L P]=.ok (L U) true
 fwd:∀ d∈U.drop 1,2<=d/\d<=n/\n%d=0/\inP P d=true
 bwd:∀ d,2<=d->d<=n->n%d=0->inP P d=true->d∈U.drop 1
theorem mem_ups2' {n d:Int}(h1:2<=d)(h2:d<=n):d∈ups2 n:=by
 unfold ups2
 exact List.mem_map.mpr ⟨(d-2).toNat,List.mem_range.mpr (by omega),by omega⟩
theorem unl_ok {n:Int}(n1:1<=n)(n2:n<=60)(g:Int->Bool):∃ U,Unl n ((ppI n).filter g) U/\U.length<=1000:=by
 obtain⟨S,hS,e⟩:=filt_sub n1 n2 g
 have:=List.all_eq_true.mp unl_table n.toNat (List.mem_range.mpr (by omega))
 have en:((n.toNat:Nat):Int)=n:=by omega
 rw[decide_eq_false (by omega),Bool.false_or] at this
 have:=List.all_eq_true.mp this S hS
 rw[Bool.and_eq_true,Bool.and_eq_true,en] at this
 obtain⟨a,b,c⟩:=this
 have hl:=List.all_eq_true.mp unl_len n.toNat (List.mem_range.mpr (by omega))
 have hl:=of_decide_eq_true (List.all_eq_true.mp hl S hS)
 refine⟨unlL (ptI S),?_,hl⟩
 rw[e]
 refine⟨okI_is a,fun d hd=>?_,fun d d1 d2 d3 d4=>?_⟩
 ·have:=List.all_eq_true.mp b d hd
  rw[Bool.and_eq_true,Bool.and_eq_true,Bool.and_eq_true,decide_eq_true_eq,decide_eq_true_eq,decide_eq_true_eq] at this
  exact⟨this.1,this.2.1,this.2.2.1,this.2.2.2⟩
 ·have:=List.all_eq_true.mp c d (mem_ups2' d1 d2)
  unfold inP at d4
  rw[decide_eq_true d3,d4] at this
  simpa using this
noncomputable def seB (n:Int)(A:List Int):Bool:=(ups2 n).all fun d=>!(decide (n%d=0)&&inP ((ppI n).filter fun d=>hasB A d) d) || hasB A d
theorem second_rule_ok {n:Int}{A:List Int}(n2:n<=60)(h:Beat n A):F_Q16 [.int n,L A]=.ok (.bl (seB n A)) true:=by
 have n1:=h.pos
 obtain⟨U,hU,hl⟩:=unl_ok n1 n2 (fun d=>hasB A d)
 have hcut:Dv.cutL (U.map D.int) (some 1) none=(U.drop 1).map D.int:=by rw[cut_from1,<- List.map_drop]
 have hc:c_Q16_1 [some (.int n),some (L A),some (L ((divs1 n).filter fun d=>hasB A d))]=.ok (.lst ((U.drop 1).map fun x=>D.bl (hasB A x))) true:=by
  unfold c_Q16_1 eComp
  have hle:(U.drop 1).length<=Dv.mx:=by unfold Dv.mx; rw[List.length_drop]; omega
  have hg:=compGo_tup (elt:=(eCm .isin (eVar 0) (eVar 1))) (free:=[some (L ((divs1 n).filter fun d=>hasB A d))]) (g:=fun x=>D.bl (hasB A x)) (xs:=U.drop 1) (fun x hx=>by
   obtain⟨x1,x2,x3,_⟩:=hU.fwd x hx
   have hm:=mem_had (xs:=A) ((mem_divs1 n1).mpr ⟨show 1<x by omega,x2,x3⟩)
   simp only[eCm,eVar,R.bind,RL.bind,Out.bind,scal_int,scal_lst,List.getElem?_cons_zero,List.getElem?_cons_succ,cm_in,hm])
  simp only[iSeq,eVar,eInt,lNil,lCons,eCall,Dv.pick,eSlice,ePart,R.bind,RL.bind,Dv.R.bindL,Dv.RL.bindL,Out.bind,scal_int,scal_lst,List.map_cons,List.map_nil,List.getElem?_cons_zero,List.getElem?_cons_succ,Option.getD_some,Bool.or_true,Bool.and_true,Bool.and_false,flat_L,List.length_map,powers_had_ok n2 h,hU.ok,Dv.sliceD,hcut,if_pos hle,hg]
 have hall:∀ f,Dv.allD (.lst ((U.drop 1).map fun x=>D.bl (hasB A x))) f=.ok (.bl (seB n A)) true:=fun f=>by
  unfold Dv.allD
  simp only[bls_map,List.all_map]
  have:((U.drop 1).all fun x=>hasB A x)=seB n A:=by
   rw[Bool.eq_iff_iff,List.all_eq_true]
   unfold seB
   rw[List.all_eq_true]
   constructor
   ·intro k d hd
    have hd2:=mem_ups2 hd
    cases hin:(decide (n%d=0)&&inP ((ppI n).filter fun d=>hasB A d) d)
    ·rfl
    ·rw[Bool.and_eq_true,decide_eq_true_eq] at hin
     rw[k d (hU.bwd d hd2.1 hd2.2 hin.1 hin.2)]; rfl
   ·intro k d hd
    obtain⟨x1,x2,x3,x4⟩:=hU.fwd d hd
    have:=k d (mem_ups2' x1 x2)
    rw[decide_eq_true x3,x4] at this
    simpa using this
  rw[<- this]; rfl
 simp only[F_Q16,b_Q16,b_Q16_t1,Dv.fn,sCons,sSet,keep_L,sRet,eB1,eVar,lNil,lCons,eCall,Dv.all,R.bind,RL.bind,Dv.R.bindL,Dv.RL.bindL,Out.bind,get_no,get_sh,get_ow,scal_int,scal_lst,List.map_cons,List.map_nil,List.length_cons,List.length_nil,List.replicate,List.cons_append,List.nil_append,List.getElem?_cons_zero,List.getElem?_cons_succ,List.set_cons_zero,List.set_cons_succ,Bool.and_true,Bool.and_false,Nat.reduceAdd,Nat.reduceSub,had_ok n2 h,hc,hall]
theorem mp_while {S0 S1 S2 S4:Sl}{d p:Int}(d2:d<=60)(p2:2<=p)(p60:p<=60):∀ (m:Nat) (x:Int),1<=x->x<=d->d-x<m ->
  whileGo (eCm .eq (eOp .mod (eVar 3) (eOp .mul (eVar 6) (eVar 5))) (eInt 0)) b_Q0U_l1 m [S0,S1,S2,.sh (.int d),S4,.sh (.int p),.sh (.int x)]=.nx [S0,S1,S2,.sh (.int d),S4,.sh (.int p),.sh (.int (mpw d p m x))]
 | 0,x,_,_,h=>by omega
 | m+1,x,x1,x2,h=>by
  have hpos:0<x*p:=Int.mul_pos (by omega) (by omega)
  have hml:=mul_ok (mulOk_l (i:=x) (j:=p) (by omega) (by omega))
  rw[whileGo]
  by_cases hd:d%(x*p)=0
  ·have hle:x*p<=d:=Int.le_of_dvd (by omega) (Int.dvd_of_emod_eq_zero hd)
   have hgt:x*2<=x*p:=Int.mul_le_mul_of_nonneg_left p2 (by omega)
   have ih:=mp_while (S0:=S0) (S1:=S1) (S2:=S2) (S4:=S4) d2 p2 p60 m (x*p) (by omega) hle (by omega)
   rw[mpw,if_pos hd,<- ih]
   simp only[b_Q0U_l1,sSet,keep_int,eCm,eOp,eVar,eInt,Dv.all,R.bind,RL.bind,Out.bind,get_sh,scal_int,List.map_cons,List.map_nil,List.getElem?_cons_zero,List.getElem?_cons_succ,List.set_cons_zero,List.set_cons_succ,cm_eqI,hml,mod_ok hpos,decide_eq_true hd]
  ·rw[mpw,if_neg hd]
   simp only[eCm,eOp,eVar,eInt,Dv.all,R.bind,RL.bind,Out.bind,get_sh,scal_int,List.map_cons,List.map_nil,List.getElem?_cons_zero,List.getElem?_cons_succ,cm_eqI,hml,mod_ok hpos,decide_eq_false hd]
theorem parts_loop {S0 S1 S2:Sl}{d:Int}(d1:2<=d)(d2:d<=60):∀ (ps acc:List Int) (z5 z6:Sl),(∀ p∈ps,2<=p/\p<=d)->acc.length+ps.length<=1000 ->
  ∃ z5' z6',forGo 5 b_Q0U_l2 (ps.map .int) [S0,S1,S2,.sh (.int d),.ow (L acc),z5,z6]=.nx [S0,S1,S2,.sh (.int d),.ow (L (acc++ps.map fun p=>mpw d p 100000 p)),z5',z6']
 | [],acc,z5,z6,_,_=>⟨z5,z6,by simp[forGo]⟩
 | p::r,acc,z5,z6,hp,hl=>by
  rw[List.length_cons] at hl
  have h0:=hp p (List.mem_cons_self ..)
  have ew:=mp_while (S0:=S0) (S1:=S1) (S2:=S2) (S4:=.ow (L acc)) (d:=d) (p:=p) d2 h0.1 (by omega) 100000 p (by omega) h0.2 (by omega)
  obtain⟨z5',z6',e⟩:=parts_loop (S0:=S0) (S1:=S1) (S2:=S2) d1 d2 r (acc++[mpw d p 100000 p]) (.sh (.int p)) (.sh (.int (mpw d p 100000 p))) (fun q hq=>hp q (List.mem_cons_of_mem _ hq)) (by rw[List.length_append,List.length_singleton]; omega)
  refine⟨z5',z6',?_⟩
  have hmx:decide (acc.length<Dv.mx)=true:=decide_eq_true (by unfold Dv.mx; omega)
  rw[List.map_cons,forGo_nx (st':=[S0,S1,S2,.sh (.int d),.ow (L (acc++[mpw d p 100000 p])),.sh (.int p),.sh (.int (mpw d p 100000 p))]),e,List.map_cons,List.append_assoc]
  ·rfl
  ·have e9:List.map D.int acc++[D.int (mpw d p 100000 p)]=List.map D.int (acc++[mpw d p 100000 p]):=by rw[List.map_append]; rfl
   simp only[b_Q0U_l2,sCons,sSetG,Dv.give,Dv.open_,give_sh,shared_sh,shared_ow,sApp,sWhile,eVar,Dv.all,R.bind,RL.bind,Out.bind,get_sh,get_ow,scal_int,List.map_cons,List.map_nil,List.getElem?_cons_zero,List.getElem?_cons_succ,List.set_cons_zero,List.set_cons_succ,List.foldl_cons,List.foldl_nil,Option.getD_some,Bool.and_true,if_true,List.length_map,ew,hmx,e9]
theorem cm_eq_nil (xs:List Int):cmD .eq (L xs) (.lst [])=.ok (.bl (decide (xs=[]))) true:=cm_eqL xs []
theorem parts_tab {d:Int}(d1:2<=d)(d2:d<=60):(1<(partsL d).length\/partsL d=[d]):=by
 have:=List.all_eq_true.mp parts_table d.toNat (List.mem_range.mpr (by omega))
 have e:((d.toNat:Nat):Int)=d:=by omega
 rw[decide_eq_false (by omega),Bool.false_or,e,Bool.and_eq_true,Bool.or_eq_true,decide_eq_true_eq,decide_eq_true_eq,beq_iff_eq] at this
 exact this.2
noncomputable def seF (n:Int)(P A:List Int)(d:Int)(b:Bool):Bool:=!(decide (n%d=0)&&(decide (1<(partsL d).length)&&inP P d)) || b
theorem second_step {n d:Int}{A P:List Int}(hPl:P.length<=1000)(n2:n<=60)(h:Beat n A)(d1:2<=d)(d2:d<=n)(z4 z5 z6:Sl) :
  (seF n P A d (hasB A d)=true/\∃ z4' z5' z6',b_Q0U_l3 [.sh (.int n),.sh (L A),.ow (L P),.sh (.int d),z4,z5,z6]=.nx [.sh (.int n),.sh (L A),.ow (L P),.sh (.int d),z4',z5',z6'])\/(seF n P A d (hasB A d)=false/\b_Q0U_l3 [.sh (.int n),.sh (L A),.ow (L P),.sh (.int d),z4,z5,z6]=.ret (.bl false) true):=by
 have hpr:=(pr_tab d1 (show d<=60 by omega)).1
 have hl:(primesL d).length<=61:=by
  have:=List.all_eq_true.mp prl_table d.toNat (List.mem_range.mpr (by omega))
  have e:((d.toNat:Nat):Int)=d:=by omega
  rw[e] at this
  exact of_decide_eq_true this
 obtain⟨z5',z6',e⟩:=parts_loop (S0:=.sh (.int n)) (S1:=.sh (L A)) (S2:=.ow (L P)) d1 (show d<=60 by omega) (primesL d) [] z5 z6 (fun p hp=>by have:=hpr p hp; omega) (by simp; omega)
 have ep:[]++(primesL d).map (fun p=>mpw d p 100000 p)=partsL d:=rfl
 rw[ep] at e
 have hnil:L []=.lst []:=rfl
 rw[hnil] at e
 have hpl:(partsL d).length<=61:=by unfold partsL; rw[List.length_map]; exact hl
 have hc:∀ r0 r1 r3 r5 r6,c_Q0U_2 [r0,r1,some (L P),r3,some (L (partsL d)),r5,r6]=.ok (L ((partsL d).filter fun q=>!decide (q∈P))) true:=fun r0 r1 r3 r5 r6=>by
  have:=eComp_if (elt:=eVar 0) (cond:=(eCm .notin (eVar 0) (eVar 1))) (is:=[2]) (it:=(iSeq (eVar 4))) (ρ:=[r0,r1,some (L P),r3,some (L (partsL d)),r5,r6]) (c:=fun q=>!decide (q∈P)) (g:=fun d=>d) (xs:=partsL d) (f:=false)
   (by simp only[iSeq,eVar,scal_lst,List.getElem?_cons_zero,List.getElem?_cons_succ]) (by omega) (fun q _=>by simp only[eCm,eVar,Dv.pick,R.bind,RL.bind,Out.bind,scal_int,scal_lst,List.map_cons,List.map_nil,List.getElem?_cons_zero,List.getElem?_cons_succ,Option.getD_some,cm_notin]) (fun q _ _=>by simp only[eVar,Dv.pick,scal_int,List.map_cons,List.map_nil,List.getElem?_cons_zero,List.getElem?_cons_succ,Option.getD_some])
  simp only[List.map_id'] at this
  exact this
 have hin:decide ((partsL d).filter (fun q=>!decide (q∈P))=[])=inP P d:=by
  unfold inP
  rw[Bool.eq_iff_iff,decide_eq_true_eq,List.filter_eq_nil_iff,List.all_eq_true]
  exact forall_congr' fun q=>forall_congr' fun _=>by simp
 have hB:=has2_ok (beat_up h) (show n<=200 by omega) d1 (show d<=60 by omega)
 have hp:=law_primes_ok (d:=d) (by omega) (by omega)
 unfold seF
 by_cases h1:n%d=0
 ·by_cases h2:1<(partsL d).length
  ·have h2':(1:Int)<((partsL d).length:Int):=by omega
   cases h3:inP P d
   ·rw[h3] at hin
    refine .inl ⟨by rw[decide_eq_true h1,decide_eq_true h2]; rfl,.ow (L (partsL d)),z5',z6',?_⟩
    simp only[b_Q0U_l3,sCons,sNil,sSet,keep_nil,Dv.give,Dv.open_,give_sh,shared_sh,shared_ow,sIf,sFor,iSeq,eB1,Dv.lenD,eAnd,eCm,eOp,eVar,eInt,eLst,lNil,lCons,eCall,Dv.all,R.bind,RL.bind,Dv.R.bindL,Dv.RL.bindL,Out.bind,get_sh,get_ow,scal_int,scal_lst,List.map_cons,List.map_nil,List.getElem?_cons_zero,List.getElem?_cons_succ,List.set_cons_zero,List.set_cons_succ,List.foldl_cons,List.foldl_nil,Option.getD_some,Bool.and_true,cm_gt,cm_eqI,cm_eqN,List.length_map,hp,e,mod_ok (show (0:Int)<d by omega),decide_eq_true h1,gt_iff_lt,decide_eq_true h2',hc,cm_eq_nil,hin]
   ·rw[h3] at hin
    cases h4:hasB A d
    ·rw[h4] at hB
     refine .inr ⟨by rw[decide_eq_true h1,decide_eq_true h2]; rfl,?_⟩
     simp only[b_Q0U_l3,sCons,sSet,keep_nil,Dv.give,Dv.open_,give_sh,shared_sh,shared_ow,sIf,sRet,sFor,iSeq,eB1,Dv.lenD,eAnd,eNot,eCm,eOp,eVar,eInt,eBl,eLst,lNil,lCons,eCall,Dv.all,R.bind,RL.bind,Dv.R.bindL,Dv.RL.bindL,Out.bind,get_sh,get_ow,scal_int,scal_lst,List.map_cons,List.map_nil,List.getElem?_cons_zero,List.getElem?_cons_succ,List.set_cons_zero,List.set_cons_succ,List.foldl_cons,List.foldl_nil,Option.getD_some,Bool.and_true,Bool.not_false,cm_gt,cm_eqI,cm_eqN,List.length_map,hp,e,mod_ok (show (0:Int)<d by omega),decide_eq_true h1,gt_iff_lt,decide_eq_true h2',hc,cm_eq_nil,hin,hB]
    ·rw[h4] at hB
     refine .inl ⟨by rw[decide_eq_true h1,decide_eq_true h2]; rfl,.ow (L (partsL d)),z5',z6',?_⟩
     simp only[b_Q0U_l3,sCons,sNil,sSet,keep_nil,Dv.give,Dv.open_,give_sh,shared_sh,shared_ow,sIf,sFor,iSeq,eB1,Dv.lenD,eAnd,eNot,eCm,eOp,eVar,eInt,eLst,lNil,lCons,eCall,Dv.all,R.bind,RL.bind,Dv.R.bindL,Dv.RL.bindL,Out.bind,get_sh,get_ow,scal_int,scal_lst,List.map_cons,List.map_nil,List.getElem?_cons_zero,List.getElem?_cons_succ,List.set_cons_zero,List.set_cons_succ,List.foldl_cons,List.foldl_nil,Option.getD_some,Bool.and_true,Bool.not_true,cm_gt,cm_eqI,cm_eqN,List.length_map,hp,e,mod_ok (show (0:Int)<d by omega),decide_eq_true h1,gt_iff_lt,decide_eq_true h2',hc,cm_eq_nil,hin,hB]
  ·have h2':¬ (1:Int)<((partsL d).length:Int):=by omega
   refine .inl ⟨by rw[decide_eq_false h2]; simp,.ow (L (partsL d)),z5',z6',?_⟩
   simp only[b_Q0U_l3,sCons,sNil,sSet,keep_nil,Dv.give,Dv.open_,give_sh,shared_sh,shared_ow,sIf,sFor,iSeq,eB1,Dv.lenD,eAnd,eCm,eOp,eVar,eInt,eLst,lNil,lCons,eCall,Dv.all,R.bind,RL.bind,Dv.R.bindL,Dv.RL.bindL,Out.bind,get_sh,get_ow,scal_int,scal_lst,List.map_cons,List.map_nil,List.getElem?_cons_zero,List.getElem?_cons_succ,List.set_cons_zero,List.set_cons_succ,List.foldl_cons,List.foldl_nil,Option.getD_some,Bool.and_true,cm_gt,cm_eqI,List.length_map,hp,e,mod_ok (show (0:Int)<d by omega),decide_eq_true h1,gt_iff_lt,decide_eq_false h2']
 ·refine .inl ⟨by rw[decide_eq_false h1]; rfl,.ow (L (partsL d)),z5',z6',?_⟩
  simp only[b_Q0U_l3,sCons,sNil,sSet,keep_nil,Dv.give,Dv.open_,give_sh,shared_sh,shared_ow,sIf,sFor,iSeq,eAnd,eCm,eOp,eVar,eInt,eLst,lNil,lCons,eCall,Dv.all,R.bind,RL.bind,Dv.R.bindL,Dv.RL.bindL,Out.bind,get_sh,get_ow,scal_int,List.map_cons,List.map_nil,List.getElem?_cons_zero,List.getElem?_cons_succ,List.set_cons_zero,List.set_cons_succ,List.foldl_cons,List.foldl_nil,Option.getD_some,Bool.and_true,cm_eqI,hp,e,mod_ok (show (0:Int)<d by omega),decide_eq_false h1]
theorem second_loop {n:Int}{A P:List Int}(hPl:P.length<=1000)(n2:n<=60)(h:Beat n A):∀ (ds:List Int) (z3 z4 z5 z6:Sl),(∀ d∈ds,2<=d/\d<=n) ->
  (ds.all (fun d=>seF n P A d (hasB A d))=true/\∃ z3' z4' z5' z6',forGo 3 b_Q0U_l3 (ds.map .int) [.sh (.int n),.sh (L A),.ow (L P),z3,z4,z5,z6]=.nx [.sh (.int n),.sh (L A),.ow (L P),z3',z4',z5',z6'])\/(ds.all (fun d=>seF n P A d (hasB A d))=false/\forGo 3 b_Q0U_l3 (ds.map .int) [.sh (.int n),.sh (L A),.ow (L P),z3,z4,z5,z6]=.ret (.bl false) true)
 | [],z3,z4,z5,z6,_=>.inl ⟨rfl,z3,z4,z5,z6,rfl⟩
 | d::r,z3,z4,z5,z6,hd=>by
  have h0:=hd d (List.mem_cons_self ..)
  rw[List.all_cons,List.map_cons]
  rcases second_step hPl n2 h h0.1 h0.2 z4 z5 z6 with ⟨a,z4',z5',z6',e⟩|⟨a,e⟩
  ·rw[forGo_nx (st':=[.sh (.int n),.sh (L A),.ow (L P),.sh (.int d),z4',z5',z6']) e,a,Bool.true_and]
   exact second_loop hPl n2 h r _ _ _ _ (fun q hq=>hd q (List.mem_cons_of_mem _ hq))
  ·exact .inr ⟨by rw[a]; rfl,forGo_ret e⟩
theorem law_second_ok {n:Int}{A:List Int}(n2:n<=60)(h:Beat n A):F_Q0U [.int n,L A]=.ok (.bl (seB n A)) true:=by
 have n1:=h.pos
 have hr:(rngOk 2&&rngOk (n+1))=true:=by simp only[rngOk,Bool.and_eq_true,decide_eq_true_eq]; omega
 have hlp:(ppI n).length<=60:=by
  have:=List.length_filter_le (fun d:Int=>isPP d.toNat) (divs1 n); have:=divs1_len n2; unfold ppI; omega
 have hc:∀ r2 r3 r4 r5 r6,c_Q0U_1 [some (.int n),some (L A),r2,r3,r4,r5,r6]=.ok (L ((ppI n).filter fun d=>hasB A d)) true:=fun r2 r3 r4 r5 r6=>by
  have:=eComp_if (elt:=eVar 0) (cond:=(eCall F_Q0K (lCons (eVar 1) (lCons (eVar 0) lNil)))) (is:=[1]) (it:=(iSeq (eCall F_Q0S (lCons (eVar 0) lNil)))) (ρ:=[some (.int n),some (L A),r2,r3,r4,r5,r6]) (c:=fun d=>hasB A d) (g:=fun d=>d) (xs:=ppI n) (f:=true)
   (by simp only[iSeq,eVar,lNil,lCons,eCall,R.bind,RL.bind,Dv.R.bindL,Dv.RL.bindL,Out.bind,scal_int,List.getElem?_cons_zero,Bool.and_true,powers2_ok n1 n2]) (by omega) (fun d hd=>by
    have hd:=mem_ppI2 n1 hd
    simp only[eVar,lNil,lCons,eCall,Dv.pick,R.bind,RL.bind,Dv.R.bindL,Dv.RL.bindL,Out.bind,scal_int,scal_lst,List.map_cons,List.map_nil,List.getElem?_cons_zero,List.getElem?_cons_succ,Option.getD_some,Bool.and_true,has2_ok (beat_up h) (show n<=200 by omega) hd.1 (show d<=60 by omega)]) (fun d _ _=>by simp only[eVar,Dv.pick,scal_int,List.map_cons,List.map_nil,List.getElem?_cons_zero,List.getElem?_cons_succ,Option.getD_some])
  simp only[List.map_id'] at this
  exact this
 have hfl:((ppI n).filter fun d=>hasB A d).length<=1000:=by
  have:=List.length_filter_le (fun d=>hasB A d) (ppI n); omega
 have hse:((ups2 n).all fun d=>seF n ((ppI n).filter fun d=>hasB A d) A d (hasB A d))=seB n A:=by
  unfold seB
  rw[Bool.eq_iff_iff,List.all_eq_true,List.all_eq_true]
  refine forall_congr' fun d=>forall_congr' fun hd=>?_
  have hd:=mem_ups2 hd
  unfold seF
  rcases parts_tab hd.1 (show d<=60 by omega) with h1|h1
  ·rw[decide_eq_true h1,Bool.true_and]
  ·rw[decide_eq_false (show ¬ 1<(partsL d).length by rw[h1]; simp),Bool.false_and,Bool.and_false]
   cases hb:hasB A d
   ·have hin:inP ((ppI n).filter fun d=>hasB A d) d=false:=by
     unfold inP
     rw[h1,List.all_cons,List.all_nil,Bool.and_true]
     exact decide_eq_false fun hm=>by
      have:=(List.mem_filter.mp hm).2
      rw[hb] at this; exact Bool.noConfusion this
    rw[hin,Bool.and_false]
   ·simp
 rcases second_loop (P:=(ppI n).filter fun d=>hasB A d) hfl n2 h (ups2 n) .no .no .no .no (fun d hd=>mem_ups2 hd) with ⟨a,z3,z4,z5,z6,e⟩|⟨a,e⟩
 ·rw[hse] at a
  rw[a]
  simp only[F_Q0U,b_Q0U,b_Q0U_t2,b_Q0U_t1,Dv.fn,sCons,sSet,keep_L,Dv.give,Dv.open_,shared_no,shared_sh,shared_ow,sRet,sFor,iRange2,eOp,eVar,eInt,eBl,Dv.all,R.bind,RL.bind,Out.bind,get_no,get_sh,scal_int,List.map_cons,List.map_nil,List.length_cons,List.length_nil,List.replicate,List.cons_append,List.nil_append,List.getElem?_cons_zero,List.set_cons_zero,List.set_cons_succ,List.foldl_nil,if_true,Nat.reduceAdd,Nat.reduceSub,add_ok,hc,hr,range_ups2 n1,e]
 ·rw[hse] at a
  rw[a]
  simp only[F_Q0U,b_Q0U,b_Q0U_t2,b_Q0U_t1,Dv.fn,sCons,sSet,keep_L,Dv.give,Dv.open_,shared_no,shared_sh,shared_ow,sFor,iRange2,eOp,eVar,eInt,Dv.all,R.bind,RL.bind,Out.bind,get_no,get_sh,scal_int,List.map_cons,List.map_nil,List.length_cons,List.length_nil,List.replicate,List.cons_append,List.nil_append,List.getElem?_cons_zero,List.set_cons_zero,List.set_cons_succ,List.foldl_nil,if_true,Nat.reduceAdd,Nat.reduceSub,add_ok,hc,hr,range_ups2 n1,e]
noncomputable def stp (p:Int):Nat->Int->Int
 | 0,x=>x
 | m+1,x=>if x%p=0 then stp p m (x/p) else x
noncomputable def rowL (n q:Int):List Int:=(upto (lpf q.toNat)).map fun k=>k*stp (lpf q.toNat:Int) 100000 n*(q/(lpf q.toNat:Int))
noncomputable def addAll (xs row:List Int):List Int:=xs.flatMap fun s=>row.map fun r=>s+r
noncomputable def stP (n:Int)(P:List Int):List Int->List Int->List Int
 | [],st=>st
 | q::r,st=>if q∈P then stP n P r st else stP n P r (addAll st (rowL n q))
noncomputable def addMod (n:Int)(st row:List Int):List Int:=row.flatMap fun r=>st.map fun s=>(s+r)%n
noncomputable def stL (n:Int)(P:List Int):List Int->List Int->List Int
 | [],st=>st
 | q::r,st=>if q∈P then stL n P r st else stL n P r (addMod n st (rowL n q))
noncomputable def upB:List Int->Bool
 | []=>true
 | [_]=>true
 | a::b::r=>decide (a<b)&&upB (b::r)
noncomputable def dueL (n:Int)(P:List Int):List Int:=Dv.isort (stL n P (ppI n) [0])
theorem row_table:((List.range 61).all fun n=>decide (n<1) || (ppw n).all fun q=>okI (F_Q15 [.int (n:Int),.int (q:Int)]) (rowL n q))=true:=by decide +kernel
noncomputable def gL (d:Int):List Int->List Int->List Int
 | c,[]=>c
 | c,p::r=>gL d (List.zipWith (fun a b=>a-b) c (c.drop (d/p).toNat++c.take (d/p).toNat)) r
noncomputable def hasP (xs:List Int)(d:Int):Bool:=(gL d ((upto d.toNat).map fun s=>T xs (dl d) s) (primesL d)).all fun x=>decide (x=0)
theorem rot_up {d o:Int}{g:Int->Int}(hg:Per d g)(o0:0<=o)(o1:o<=d):((upto d.toNat).map g).drop o.toNat++((upto d.toNat).map g).take o.toNat=(upto d.toNat).map fun s=>g (s+o):=by
 refine List.ext_getElem? fun i=>?_
 by_cases hi:i<d.toNat
 ·rw[uget (fun s=>g (s+o)) hi]
  by_cases h2:i+o.toNat<d.toNat
  ·rw[List.getElem?_append_left (by rw[List.length_drop,List.length_map,upto_len]; omega),List.getElem?_drop,uget g (by omega)]
   congr 2
   omega
  ·rw[List.getElem?_append_right (by rw[List.length_drop,List.length_map,upto_len]; omega),List.length_drop,List.length_map,upto_len,List.getElem?_take_of_lt (by omega),uget g (by omega)]
   have:=hg ((i:Int)+o)
   rw[<- this]
   congr 2
   omega
 ·rw[List.getElem?_eq_none (by rw[List.length_append,List.length_drop,List.length_take,List.length_map,upto_len]; omega),List.getElem?_eq_none (by rw[List.length_map,upto_len]; omega)]
theorem gL_gs {d:Int}:∀ (ps:List Int) {g:Int->Int},Per d g->(∀ p∈ps,0<=d/p/\d/p<=d)->gL d ((upto d.toNat).map g) ps=(upto d.toNat).map (gs d g ps)
 | [],g,_,_=>rfl
 | p::r,g,hg,hp=>by
  obtain⟨p0,p1⟩:=hp p (List.mem_cons_self ..)
  unfold gL gs
  rw[rot_up hg p0 p1,List.zipWith_map,List.zipWith_self]
  exact gL_gs r (hg.stp _) fun q hq=>hp q (List.mem_cons_of_mem _ hq)
noncomputable def Zr (d:Int)(xs:List Int):Prop:=∀ s,gs d (T xs (dl d)) (primesL d) s=0
theorem hasP_Z {d:Int}(h1:2<=d)(h2:d<=60){A:List Int}(h:hasP A d=true):Zr d A:=by
 have hp:∀ p∈primesL d,0<=d/p/\d/p<=d:=fun p hp=>by
  obtain⟨p2,p3,p4,_⟩:=(pr_tab h1 h2).1 p hp
  exact⟨Int.ediv_nonneg (by omega) (by omega),Int.ediv_le_self _ (by omega)⟩
 have hper:Per d (T A (dl d)):=dl_per.T A
 unfold hasP at h
 rw[gL_gs (primesL d) hper hp] at h
 intro s
 have hs:=mod_rg (n:=d) (a:=s) (by omega)
 have:=of_decide_eq_true (List.all_eq_true.mp h _ (List.mem_map.mpr ⟨s%d,mem_upto.mpr ⟨hs.1,by omega⟩,rfl⟩))
 have e:gs d (T A (dl d)) (primesL d) s=gs d (T A (dl d)) (primesL d) (s%d):=(gs_per (primesL d) hper).dvd (by
  have:=Int.emod_add_mul_ediv s d
  exact⟨s/d,by omega⟩)
 rw[e]
 exact this
theorem T_step (A:List Int)(g:Int->Int)(o s:Int):T A (fun s=>g s-g (s+o)) s=T A g s-T A g (s+o):=by
 induction A with
 | nil=>simp[T_nil]
 | cons a r ih =>
  rw[T_cons,T_cons,T_cons,ih]
  have:s-a+o=s+o-a:=by omega
  rw[this]
  omega
theorem gs_T (d:Int)(A:List Int):∀ (ps:List Int) (g:Int->Int) (s:Int),gs d (T A g) ps s=T A (gs d g ps) s
 | [],g,s=>rfl
 | p::r,g,s=>by
  unfold gs
  have e:(fun s=>T A g s-T A g (s+d/p))=T A (fun s=>g s-g (s+d/p)):=funext fun s=>(T_step A g (d/p) s).symm
  rw[e]
  exact gs_T d A r _ s
theorem T_zero (A:List Int){g:Int->Int}(h:∀ s,g s=0)(s:Int):T A g s=0:=by
 induction A with
 | nil=>exact T_nil g s
 | cons a r ih=>rw[T_cons,h,ih]; rfl
theorem T_app (A B:List Int)(g:Int->Int)(s:Int):T (A++B) g s=T A g s+T B g s:=by
 induction A with
 | nil=>rw[List.nil_append,T_nil]; omega
 | cons a r ih=>rw[List.cons_append,T_cons,T_cons,ih]; omega
theorem T_mod {n:Int}{g:Int->Int}(hg:Per n g)(x:Int)(st:List Int)(s:Int):T (st.map fun y=>(y+x)%n) g s=T st g (s-x):=by
 induction st with
 | nil=>rw[List.map_nil,T_nil,T_nil]
 | cons a r ih =>
  rw[List.map_cons,T_cons,T_cons,ih]
  have:g (s-(a+x)%n)=g (s-x-a):=hg.dvd (by
   have:=Int.emod_add_mul_ediv (a+x) n
   exact⟨(a+x)/n,by omega⟩)
  rw[this]
theorem T_addMod {n:Int}{g:Int->Int}(hg:Per n g)(st:List Int)(s:Int):∀ row:List Int,T (addMod n st row) g s=T row (T st g) s
 | []=>by rw[T_nil]; exact T_nil g s
 | x::r=>by
  have e:addMod n st (x::r)=(st.map fun y=>(y+x)%n)++addMod n st r:=by unfold addMod; rw[List.flatMap_cons]
  rw[e,T_app,T_addMod hg st s r,T_cons,T_mod hg]
theorem Zr.row {n d:Int}(hg:Per n (dl d)){st row:List Int}(h:Zr d row):Zr d (addMod n st row):=fun s=>by
 have e:T (addMod n st row) (dl d)=T st (T row (dl d)):=funext fun s=>by rw[T_addMod hg,T_comm]
 rw[e,gs_T]
 exact T_zero st h s
theorem Zr.st {n d:Int}(hg:Per n (dl d)){st row:List Int}(h:Zr d st):Zr d (addMod n st row):=fun s=>by
 have e:T (addMod n st row) (dl d)=T row (T st (dl d)):=funext fun s=>T_addMod hg st s row
 rw[e,gs_T]
 exact T_zero row h s
theorem Zr.stL {n d:Int}{P:List Int}(hg:Per n (dl d)):∀ (qs st:List Int),(Zr d st\/∃ q∈qs,q∉P/\Zr d (rowL n q))->Zr d (stL n P qs st)
 | [],st,h=>by
  rcases h with h|⟨q,hq,_⟩
  ·exact h
  ·cases hq
 | q::r,st,h=>by
  unfold Cw.stL
  by_cases hp:q∈P
  ·rw[if_pos hp]
   refine Zr.stL hg r st ?_
   rcases h with h|⟨q',hq,h1,h2⟩
   ·exact .inl h
   ·rcases List.mem_cons.mp hq with rfl|hq
    ·exact absurd hp h1
    ·exact .inr ⟨q',hq,h1,h2⟩
  ·rw[if_neg hp]
   refine Zr.stL hg r _ ?_
   rcases h with h|⟨q',hq,h1,h2⟩
   ·exact .inl (h.st hg)
   ·rcases List.mem_cons.mp hq with rfl|hq
    ·exact .inl (h2.row hg)
    ·exact .inr ⟨q',hq,h1,h2⟩
theorem T_perm {A B:List Int}(h:A.Perm B)(g:Int->Int)(s:Int):T A g s=T B g s:=by
 induction h with
 | nil=>rfl
 | cons x _ ih=>rw[T_cons,T_cons,ih]
 | swap x y l=>rw[T_cons,T_cons,T_cons,T_cons]; omega
 | trans _ _ i1 i2=>rw[i1,i2]
theorem Zr.due {n d:Int}{P:List Int}(h:Zr d (Cw.stL n P (ppI n) [0])):Zr d (dueL n P):=fun s=>by
 have e:T (dueL n P) (dl d)=T (Cw.stL n P (ppI n) [0]) (dl d):=funext fun s=>T_perm (isort_perm _) _ s
 rw[e]
 exact h s
theorem row2_table:((List.range 61).all fun n=>decide (n<1) || ((divs1 n).all fun d=>(partsL d).all fun q=>decide (q∈ppI n)&&hasP (rowL n q) d))=true:=by decide +kernel
theorem due_table:((List.range 61).all fun n=>decide (n<1) || (subs (ppw n)).all fun S=>(Dv.isort ((stP n (ptI S) (ppI n) [0]).map (·%(n:Int))) == dueL n (ptI S))&&(upB (dueL n (ptI S))&&((dueL n (ptI S)).all (fun x=>decide (0<=x)&&decide (x<(n:Int)))&&(decide ((stP n (ptI S) (ppI n) [0]).length<64)&&(decide ((stL n (ptI S) (ppI n) [0]).length<64)&&(decide (dueL n (ptI S)≠[])&&(decide ((dueL n (ptI S)).length*prodN (S.map lpf)=n))))))))=true:=by decide +kernel
theorem addAll_cons (x:Int)(xs row:List Int):addAll (x::xs) row=(row.map fun r=>x+r)++addAll xs row:=by
 unfold addAll; rw[List.flatMap_cons]
theorem addAll_len:∀ (xs row:List Int),(addAll xs row).length=xs.length*row.length
 | [],row=>by simp[addAll]
 | x::r,row=>by rw[addAll_cons,List.length_append,addAll_len r,List.length_map,List.length_cons,Nat.succ_mul]; omega
theorem added_loop {A:D}{row:List Int}:∀ (xs acc:List Int) (z:Sl),acc.length+xs.length*row.length<=10000->row.length<=10000 ->
  ∃ z',forGo 3 b_Q00_l1 (xs.map .int) [.sh A,.sh (L row),.ow (L acc),z]=.nx [.sh A,.sh (L row),.ow (L (acc++addAll xs row)),z']
 | [],acc,z,_,_=>⟨z,by simp[forGo,addAll]⟩
 | x::r,acc,z,hl,hr=>by
  rw[List.length_cons,Nat.succ_mul] at hl
  have hc:c_Q00_1 [some A,some (L row),some (L acc),some (.int x)]=.ok (L (row.map fun r=>x+r)) true:=by
   unfold c_Q00_1
   refine eComp_all (f:=false) (xs:=row) ?_ (by omega) fun y hy=>?_
   ·simp only[iSeq,eVar,scal_lst,List.getElem?_cons_zero,List.getElem?_cons_succ]
   ·simp only[eOp,eVar,Dv.pick,R.bind,RL.bind,Out.bind,scal_int,List.map_cons,List.map_nil,List.getElem?_cons_zero,List.getElem?_cons_succ,Option.getD_some,add_ok]
  have hm:acc.length+row.length<=Dv.mx:=by unfold Dv.mx; omega
  obtain⟨z',e⟩:=added_loop (A:=A) (row:=row) r (acc++row.map fun r=>x+r) (.sh (.int x)) (by rw[List.length_append,List.length_map]; omega) hr
  refine⟨z',?_⟩
  rw[List.map_cons,forGo_nx (st':=[.sh A,.sh (L row),.ow (L (acc++row.map fun r=>x+r)),.sh (.int x)]),e,addAll_cons,List.append_assoc]
  simp only[b_Q00_l1,sExt,Dv.all,get_sh,get_ow,List.map_cons,List.map_nil,List.getElem?_cons_zero,List.getElem?_cons_succ,List.set_cons_zero,List.set_cons_succ,Bool.and_true,if_true,flat_L,List.length_map,hc,decide_eq_true hm,<- List.map_append]
theorem all_added_ok {xs row:List Int}(h:xs.length*row.length<=1000)(hr:row.length<=1000):F_Q00 [L xs,L row]=.ok (L (addAll xs row)) true:=by
 obtain⟨z,e⟩:=added_loop (A:=L xs) (row:=row) xs [] .no (by simp; omega) (by omega)
 rw[List.nil_append] at e
 simp only[List.map_nil,L] at e
 simp only[F_Q00,b_Q00,b_Q00_t2,b_Q00_t1,Dv.fn,sCons,sSet,keep_nil,Dv.give,Dv.open_,give_sh,shared_no,shared_sh,shared_ow,sRetO,sFor,iSeq,eVar,eLst,lNil,R.bind,RL.bind,Out.bind,scal_lst,List.map_cons,List.map_nil,List.length_cons,List.length_nil,List.replicate,List.cons_append,List.nil_append,List.getElem?_cons_zero,List.getElem?_cons_succ,List.set_cons_zero,List.set_cons_succ,List.foldl_cons,List.foldl_nil,Option.getD_some,Nat.reduceAdd,Nat.reduceSub,flat_L,L,e]
theorem row_len (n q:Int):(rowL n q).length=lpf q.toNat:=by unfold rowL; rw[List.length_map,upto_len]
theorem stP_ge {n:Int}{P:List Int}:∀ (qs st:List Int),(∀ q∈qs,2<=q/\q<=60)->st.length<=(stP n P qs st).length
 | [],st,_=>Nat.le_refl _
 | q::r,st,h=>by
  unfold stP
  have hr:=fun y hy=>h y (List.mem_cons_of_mem q hy)
  split
  ·exact stP_ge r st hr
  ·have:=stP_ge (n:=n) (P:=P) r (addAll st (rowL n q)) hr
   obtain⟨h1,h2⟩:=h q (List.mem_cons_self ..)
   have lr:=lpf_rg h1 h2
   rw[addAll_len,row_len] at this
   have:st.length*1<=st.length*lpf q.toNat:=Nat.mul_le_mul_left _ (by omega)
   omega
theorem addMod_len (n:Int)(st row:List Int):(addMod n st row).length=row.length*st.length:=by
 unfold addMod
 induction row with
 | nil=>simp
 | cons x r ih=>rw[List.flatMap_cons,List.length_append,ih,List.length_map,List.length_cons,Nat.succ_mul]; omega
theorem stL_ge {n:Int}{P:List Int}:∀ (qs st:List Int),(∀ q∈qs,2<=q/\q<=60)->st.length<=(stL n P qs st).length
 | [],st,_=>Nat.le_refl _
 | q::r,st,h=>by
  unfold stL
  have hr:=fun y hy=>h y (List.mem_cons_of_mem q hy)
  split
  ·exact stL_ge r st hr
  ·have:=stL_ge (n:=n) (P:=P) r (addMod n st (rowL n q)) hr
   obtain⟨h1,h2⟩:=h q (List.mem_cons_self ..)
   have lr:=lpf_rg h1 h2
   rw[addMod_len,row_len] at this
   have:1*st.length<=lpf q.toNat*st.length:=Nat.mul_le_mul_right _ (by omega)
   omega
theorem row_ok {n q:Int}(n1:1<=n)(n2:n<=60)(h:q∈ppI n):F_Q15 [.int n,.int q]=.ok (L (rowL n q)) true:=by
 have:=List.all_eq_true.mp row_table n.toNat (List.mem_range.mpr (by omega))
 have en:((n.toNat:Nat):Int)=n:=by omega
 rw[decide_eq_false (by omega),Bool.false_or] at this
 rw[ppI_ppw n1 n2] at h
 obtain⟨i,hi,rfl⟩:=List.mem_map.mp h
 have:=okI_is (List.all_eq_true.mp this i hi)
 rw[en] at this
 exact this
theorem made_loop {n:Int}{A P:List Int}(n1:1<=n)(n2:n<=60):∀ (qs st:List Int) (z:Sl),(∀ q∈qs,q∈ppI n)->(stP n P qs st).length<64 ->
  ∃ z',forGo 4 b_Q0Z_l1 (qs.map .int) [.sh (.int n),.sh (L A),.ow (L P),.ow (L st),z]=.nx [.sh (.int n),.sh (L A),.ow (L P),.ow (L (stP n P qs st)),z']
 | [],st,z,_,_=>⟨z,rfl⟩
 | q::r,st,z,h,hl=>by
  have hq:=h q (List.mem_cons_self ..)
  have hr:=fun y hy=>h y (List.mem_cons_of_mem q hy)
  have rg:∀ y∈r,2<=y/\y<=60:=fun y hy=>by
   obtain⟨a,b,_,_⟩:=mem_ppI2 n1 (hr y hy)
   exact⟨a,by omega⟩
  obtain⟨q1,q2,_,_⟩:=mem_ppI2 n1 hq
  unfold stP at hl ⊢
  by_cases hp:q∈P
  ·rw[if_pos hp] at hl ⊢
   obtain⟨z',e⟩:=made_loop n1 n2 r st (.sh (.int q)) hr hl
   refine⟨z',?_⟩
   rw[List.map_cons,forGo_nx (st':=[.sh (.int n),.sh (L A),.ow (L P),.ow (L st),.sh (.int q)]),e]
   simp only[b_Q0Z_l1,sNil,sIf,eCm,eVar,Dv.all,R.bind,RL.bind,Out.bind,get_sh,get_ow,scal_int,scal_lst,List.map_cons,List.map_nil,List.getElem?_cons_zero,List.getElem?_cons_succ,List.set_cons_zero,List.set_cons_succ,Bool.not_true,cm_notin,decide_eq_true hp]
  ·rw[if_neg hp] at hl ⊢
   have ge:=stP_ge (n:=n) (P:=P) r (addAll st (rowL n q)) rg
   have lr:=lpf_rg q1 (show q<=60 by omega)
   rw[addAll_len] at ge
   have ad:=all_added_ok (xs:=st) (row:=rowL n q) (by omega) (by rw[row_len]; omega)
   have ro:=row_ok n1 n2 hq
   obtain⟨z',e⟩:=made_loop n1 n2 r (addAll st (rowL n q)) (.sh (.int q)) hr hl
   refine⟨z',?_⟩
   rw[List.map_cons,forGo_nx (st':=[.sh (.int n),.sh (L A),.ow (L P),.ow (L (addAll st (rowL n q))),.sh (.int q)]),e]
   simp only[b_Q0Z_l1,sSet,keep_L,sIf,eCm,eVar,lNil,lCons,eCall,Dv.all,R.bind,RL.bind,Dv.R.bindL,Dv.RL.bindL,Out.bind,get_sh,get_ow,scal_int,scal_lst,List.map_cons,List.map_nil,List.getElem?_cons_zero,List.getElem?_cons_succ,List.set_cons_zero,List.set_cons_succ,Bool.and_true,Bool.not_false,cm_notin,decide_eq_false hp,ro,ad]
noncomputable def pwH (n:Int)(A:List Int):List Int:=(ppI n).filter fun d=>hasB A d
noncomputable def due (n:Int)(A:List Int):List Int:=dueL n (pwH n A)
theorem upB_up:∀ {xs:List Int},upB xs=true->xs.Pairwise (·<·)
 | [],_=>.nil
 | [x],_=>by simp
 | a::b::r,h=>by
  unfold upB at h
  rw[Bool.and_eq_true,decide_eq_true_eq] at h
  have ih:=upB_up h.2
  refine List.pairwise_cons.mpr ⟨fun y hy=>?_,ih⟩
  rcases List.mem_cons.mp hy with rfl|hy
  ·exact h.1
  ·have:=(List.pairwise_cons.mp ih).1 y hy; omega
structure Due (n:Int)(P:List Int)(S:List Nat):Prop where
 made:Dv.isort ((stP n P (ppI n) [0]).map (·%n))=dueL n P
 beat:Beat n (dueL n P)
 lp:(stP n P (ppI n) [0]).length<64
 ll:(stL n P (ppI n) [0]).length<64
 prod:(dueL n P).length*prodN (S.map lpf)=n.toNat
 has:∀ d,1<d->d<=n->n%d=0->inP P d=true\/hasB (dueL n P) d=true
theorem due_all {n:Int}{A:List Int}(n1:1<=n)(n2:n<=60):∃ S,pwH n A=ptI S/\Due n (pwH n A) S:=by
 obtain⟨S,hS,e⟩:=filt_sub n1 n2 (fun d=>hasB A d)
 have e:pwH n A=ptI S:=e
 refine⟨S,e,?_⟩
 rw[e]
 have:=List.all_eq_true.mp due_table n.toNat (List.mem_range.mpr (by omega))
 have en:((n.toNat:Nat):Int)=n:=by omega
 rw[decide_eq_false (by omega),Bool.false_or] at this
 have:=List.all_eq_true.mp this S hS
 simp only[en,Bool.and_eq_true,decide_eq_true_eq] at this
 obtain⟨t1,t2,t3,t4,t5,t6,t7⟩:=this
 have bt:Beat n (dueL n (ptI S)):=⟨t6,upB_up t2,fun x hx=>by
  have:=List.all_eq_true.mp t3 x hx
  rw[Bool.and_eq_true,decide_eq_true_eq,decide_eq_true_eq] at this
  exact this⟩
 refine⟨beq_iff_eq.mp t1,bt,t4,t5,t7,fun d d1 d2 d3=>?_⟩
 cases hi:inP (ptI S) d with
 | true=>exact .inl rfl
 | false =>
  refine .inr ((has_gs (show 2<=d by omega) (show d<=60 by omega) (show n<=200 by omega) (beat_up bt)).mpr ?_)
  have hr:=List.all_eq_true.mp row2_table n.toNat (List.mem_range.mpr (by omega))
  rw[decide_eq_false (by omega),Bool.false_or,en] at hr
  have hr:=List.all_eq_true.mp hr d ((mem_divs1 n1).mpr ⟨d1,d2,d3⟩)
  unfold inP at hi
  obtain⟨q,hq,hn⟩:∃ q∈partsL d,q∉ptI S:=by
   by_cases hx:∃ q∈partsL d,q∉ptI S
   ·exact hx
   ·exfalso
    have:(partsL d).all (fun q=>decide (q∈ptI S))=true:=List.all_eq_true.mpr fun q hq=>by
     by_cases hz:q∈ptI S
     ·exact decide_eq_true hz
     ·exact absurd ⟨q,hq,hz⟩ hx
    rw[hi] at this
    cases this
  have hr:=List.all_eq_true.mp hr q hq
  rw[Bool.and_eq_true,decide_eq_true_eq] at hr
  have hper:Per n (dl d):=fun s=>dl_per.dvd (by
   have:=Int.emod_add_mul_ediv n d
   exact⟨-(n/d),by rw[Int.mul_neg]; omega⟩)
  exact(Zr.stL hper (ppI n) [0] (.inr ⟨q,hr.1,hn,hasP_Z (by omega) (by omega) hr.2⟩)).due
theorem due_beat {n:Int}{A:List Int}(n1:1<=n)(n2:n<=60):Beat n (due n A):=by
 obtain⟨S,_,d⟩:=due_all (A:=A) n1 n2
 exact d.beat
theorem made_ok {n:Int}{A:List Int}(n2:n<=60)(h:Beat n A)(f:frB n A=true)(s:seB n A=true):F_Q0Z [.int n,L A]=.ok (L (due n A)) true:=by
 have n1:=h.pos
 obtain⟨S,eS,d⟩:=due_all (A:=A) n1 n2
 have e1:=first_rule_ok n2 h
 have e2:=second_rule_ok n2 h
 rw[f] at e1
 rw[s] at e2
 have e3:=powers_had_ok n2 h
 have e4:=prime_powers_ok n1 n2
 obtain⟨z,e5⟩:=made_loop (A:=A) (P:=pwH n A) n1 n2 (ppI n) [0] .no (fun q hq=>hq) d.lp
 have bt:=d.beat
 have e6:=made_beat_ok (n:=n) (xs:=stP n (pwH n A) (ppI n) [0]) n1 n2 d.lp (by rw[d.made]; exact bt)
 rw[d.made] at e6
 have e3:F_Q12 [.int n,L A]=.ok (L (pwH n A)) true:=e3
 have ld:L [0]=.lst [.int 0]:=rfl
 rw[ld] at e5
 simp only[F_Q0Z,b_Q0Z,b_Q0Z_t4,b_Q0Z_t3,b_Q0Z_t2,b_Q0Z_t1,Dv.fn,sCons,sNil,sSet,keep_L,keep_one,Dv.give,Dv.open_,give_sh,shared_no,shared_sh,shared_ow,sIf,sRet,sFor,iSeq,eOr,eNot,eVar,eInt,eLst,lNil,lCons,eCall,Dv.all,R.bind,RL.bind,Dv.R.bindL,Dv.RL.bindL,Out.bind,get_no,get_sh,get_ow,scal_int,scal_lst,List.map_cons,List.map_nil,List.length_cons,List.length_nil,List.replicate,List.cons_append,List.nil_append,List.getElem?_cons_zero,List.getElem?_cons_succ,List.set_cons_zero,List.set_cons_succ,List.foldl_cons,List.foldl_nil,Option.getD_some,Bool.and_true,Bool.and_false,Bool.not_true,Nat.reduceAdd,Nat.reduceSub,e1,e2,e3,e4,e5,e6]
 rfl
theorem due_fills {n:Int}{A:List Int}(n2:n<=60)(h:Beat n A)(f:frB n A=true)(s:seB n A=true):Fill n A (due n A):=by
 have n1:=h.pos
 obtain⟨S,eS,d⟩:=due_all (A:=A) n1 n2
 refine has_fill n2 h d.beat ?_ fun e he e1=>?_
 ·have f:=of_decide_eq_true f
  have e0:((ppI n).filter fun d=>hasB A d)=ptI S:=eS
  rw[e0] at f
  have e1:(ptI S).map (fun d=>lpf d.toNat)=S.map lpf:=by
   unfold ptI
   rw[List.map_map]
   exact List.map_congr_left fun q _=>by simp
  rw[e1] at f
  have hp:=d.prod
  have e2:A.length=prodN (S.map lpf):=by omega
  have hp:(due n A).length*prodN (S.map lpf)=n.toNat:=hp
  rw[e2,Nat.mul_comm,hp]
  omega
 ·obtain⟨a1,a2,a3⟩:=mem_divs.mp he
  rcases d.has e e1 a2 a3 with q|q
  ·have:=List.all_eq_true.mp s e (mem_ups2' (by omega) a2)
   have q:inP ((ppI n).filter fun d=>hasB A d) e=true:=q
   rw[decide_eq_true a3,q] at this
   exact .inl (by simpa using this)
  ·exact .inr q
theorem laid_while {S0 S1 S2 S3 S6 S7:Sl}{p:Int}(p2:2<=p)(p60:p<=60):∀ (m:Nat) (x:Int),1<=x->x<m ->
  whileGo (eCm .eq (eOp .mod (eVar 5) (eVar 4)) (eInt 0)) b_Q0M_l1 m [S0,S1,S2,S3,.sh (.int p),.sh (.int x),S6,S7]=.nx [S0,S1,S2,S3,.sh (.int p),.sh (.int (stp p m x)),S6,S7]
 | 0,x,_,h=>by omega
 | m+1,x,x1,h=>by
  rw[whileGo]
  by_cases hd:x%p=0
  ·have hq:x=p*(x/p):=by have:=Int.mul_ediv_add_emod x p; omega
   have hx:1<=x/p:=by
    by_cases h0:1<=x/p
    ·exact h0
    ·have:p*(x/p)<=0:=Int.mul_nonpos_of_nonneg_of_nonpos (by omega) (by omega)
     omega
   have hgt:2*(x/p)<=p*(x/p):=Int.mul_le_mul_of_nonneg_right p2 (by omega)
   have ih:=laid_while (S0:=S0) (S1:=S1) (S2:=S2) (S3:=S3) (S6:=S6) (S7:=S7) p2 p60 m (x/p) hx (by omega)
   rw[stp,if_pos hd,<- ih]
   simp only[b_Q0M_l1,sSet,keep_int,eCm,eOp,eVar,eInt,Dv.all,R.bind,RL.bind,Out.bind,get_sh,scal_int,List.map_cons,List.map_nil,List.getElem?_cons_zero,List.getElem?_cons_succ,List.set_cons_zero,List.set_cons_succ,cm_eqI,mod_ok (show 0<p by omega),decide_eq_true hd,fdiv_ok (show 0<p by omega) (show p<2 ^ 200 by omega)]
  ·rw[stp,if_neg hd]
   simp only[eCm,eOp,eVar,eInt,Dv.all,R.bind,RL.bind,Out.bind,get_sh,scal_int,List.map_cons,List.map_nil,List.getElem?_cons_zero,List.getElem?_cons_succ,cm_eqI,mod_ok (show 0<p by omega),decide_eq_false hd]
theorem stp_rg {p:Int}(p2:2<=p):∀ (m:Nat) (x:Int),1<=x->x<=60->1<=stp p m x/\stp p m x<=60
 | 0,x,h,h2=>⟨h,h2⟩
 | m+1,x,h,h2=>by
  unfold stp
  split
  ·rename_i hd
   have hq:x=p*(x/p):=by have:=Int.mul_ediv_add_emod x p; omega
   have hx:1<=x/p:=by
    by_cases h0:1<=x/p
    ·exact h0
    ·have:p*(x/p)<=0:=Int.mul_nonpos_of_nonneg_of_nonpos (by omega) (by omega)
     omega
   have hgt:2*(x/p)<=p*(x/p):=Int.mul_le_mul_of_nonneg_right p2 (by omega)
   exact stp_rg p2 m (x/p) hx (by omega)
  ·exact⟨h,h2⟩
theorem addMod_cons (n:Int)(st:List Int)(x:Int)(r:List Int):addMod n st (x::r)=(st.map fun s=>(s+x)%n)++addMod n st r:=by
 unfold addMod; rw[List.flatMap_cons]
theorem more_loop {n q p t:Int}{st:List Int}{S1 z2:Sl}(n1:1<=n)(q1:1<=q)(q2:q<=60)(p1:1<=p)(p2:p<=60)(t1:1<=t)(t2:t<=60)(hz:z2.get=some (L st))(hs:st.length<=100):∀ (ks acc:List Int) (z:Sl),(∀ k∈ks,0<=k/\k<=60)->acc.length+ks.length*st.length<=10000 ->
  ∃ z',forGo 7 b_Q0M_l2 (ks.map .int) [.sh (.int n),S1,z2,.sh (.int q),.sh (.int p),.sh (.int t),.ow (L acc),z]=.nx [.sh (.int n),S1,z2,.sh (.int q),.sh (.int p),.sh (.int t),.ow (L (acc++addMod n st (ks.map fun k=>k*t*(q/p)))),z']
 | [],acc,z,_,_=>⟨z,by simp[forGo,addMod]⟩
 | k::r,acc,z,hk,hl=>by
  rw[List.length_cons,Nat.succ_mul] at hl
  obtain⟨k0,k1⟩:=hk k (List.mem_cons_self ..)
  have hkt:0<=k*t:=Int.mul_nonneg k0 (by omega)
  have hkt2:k*t<=60*60:=Int.mul_le_mul k1 t2 (by omega) (by omega)
  have m1:=mul_ok (mulOk_l (i:=k) (j:=t) (by omega) (by omega))
  have m2:=mul_ok (mulOk_l (i:=k*t) (j:=q/p) (by omega) (by omega))
  have hc:c_Q0M_1 [some (.int n),S1.get,some (L st),some (.int q),some (.int p),some (.int t),some (L acc),some (.int k)]=.ok (L (st.map fun s=>(s+k*t*(q/p))%n)) true:=by
   unfold c_Q0M_1
   refine eComp_all (f:=false) (xs:=st) ?_ (by omega) fun y hy=>?_
   ·simp only[iSeq,eVar,scal_lst,List.getElem?_cons_zero,List.getElem?_cons_succ]
   ·simp only[eOp,eVar,Dv.pick,R.bind,RL.bind,Out.bind,scal_int,List.map_cons,List.map_nil,List.getElem?_cons_zero,List.getElem?_cons_succ,Option.getD_some,add_ok,m1,fdiv_ok (show 0<p by omega) (show p<2 ^ 200 by omega),m2,mod_ok (show 0<n by omega)]
  have ca:=cat_ok (a:=acc) (b:=st.map fun s=>(s+k*t*(q/p))%n) (by rw[List.length_map]; omega)
  obtain⟨z',e⟩:=more_loop (S1:=S1) n1 q1 q2 p1 p2 t1 t2 hz hs r (acc++st.map fun s=>(s+k*t*(q/p))%n) (.sh (.int k)) (fun y hy=>hk y (List.mem_cons_of_mem _ hy)) (by rw[List.length_append,List.length_map]; omega)
  refine⟨z',?_⟩
  rw[List.map_cons,forGo_nx (st':=[.sh (.int n),S1,z2,.sh (.int q),.sh (.int p),.sh (.int t),.ow (L (acc++st.map fun s=>(s+k*t*(q/p))%n)),.sh (.int k)]),e,List.map_cons,addMod_cons,List.append_assoc]
  simp only[b_Q0M_l2,sSet,keep_L,eOp,eVar,Dv.all,R.bind,RL.bind,Out.bind,get_sh,get_ow,scal_lst,List.map_cons,List.map_nil,List.getElem?_cons_zero,List.getElem?_cons_succ,List.set_cons_zero,List.set_cons_succ,hz,hc,ca]
theorem laid_loop {n:Int}{A P:List Int}(n1:1<=n)(n2:n<=60)(h:Beat n A):∀ (qs st:List Int) (z2 z3 z4 z5 z6 z7:Sl),(∀ q∈qs,q∈ppI n/\(q∈P ↔ hasB A q=true))->z2.get=some (L st)->(stL n P qs st).length<64 ->
  ∃ y2 y3 y4 y5 y6 y7,forGo 3 b_Q0M_l3 (qs.map .int) [.sh (.int n),.sh (L A),z2,z3,z4,z5,z6,z7]=.nx [.sh (.int n),.sh (L A),y2,y3,y4,y5,y6,y7]/\y2.get=some (L (stL n P qs st))
 | [],st,z2,z3,z4,z5,z6,z7,_,hz,_=>⟨z2,z3,z4,z5,z6,z7,rfl,hz⟩
 | q::r,st,z2,z3,z4,z5,z6,z7,hq,hz,hl=>by
  obtain⟨hpp,hPq⟩:=hq q (List.mem_cons_self ..)
  have hr:=fun y hy=>hq y (List.mem_cons_of_mem q hy)
  obtain⟨q1,q2,_,q4⟩:=mem_ppI2 n1 hpp
  have rg:∀ y∈r,2<=y/\y<=60:=fun y hy=>by
   obtain⟨a,b,_,_⟩:=mem_ppI2 n1 (hr y hy).1
   exact⟨a,by omega⟩
  have hB:=has2_ok (beat_up h) (show n<=200 by omega) q1 (show q<=60 by omega)
  unfold stL at hl ⊢
  cases hb:hasB A q with
  | true =>
   rw[hb] at hB
   have hp:q∈P:=hPq.mpr hb
   rw[if_pos hp] at hl ⊢
   obtain⟨y2,y3,y4,y5,y6,y7,e,ey⟩:=laid_loop n1 n2 h r st z2 (.sh (.int q)) z4 z5 z6 z7 hr hz hl
   refine⟨y2,y3,y4,y5,y6,y7,?_,ey⟩
   rw[List.map_cons,forGo_nx (st':=[.sh (.int n),.sh (L A),z2,.sh (.int q),z4,z5,z6,z7]),e]
   simp only[b_Q0M_l3,sNil,sIf,eNot,eVar,lNil,lCons,eCall,Dv.all,R.bind,RL.bind,Dv.R.bindL,Dv.RL.bindL,Out.bind,get_sh,scal_int,scal_lst,List.map_cons,List.map_nil,List.getElem?_cons_zero,List.getElem?_cons_succ,List.set_cons_zero,List.set_cons_succ,Bool.and_true,Bool.not_true,hB]
  | false =>
   rw[hb] at hB
   have hp:¬ q∈P:=fun z=>by rw[hPq.mp z] at hb; cases hb
   rw[if_neg hp] at hl ⊢
   have ge:=stL_ge (n:=n) (P:=P) r (addMod n st (rowL n q)) rg
   have lr:=lpf_rg q1 (show q<=60 by omega)
   rw[addMod_len,row_len] at ge
   have g2:1*st.length<=lpf q.toNat*st.length:=Nat.mul_le_mul_right _ (by omega)
   have hpr:=law_primes_ok (d:=q) (by omega) (by omega)
   obtain⟨_,_,pl,pf⟩:=pr_tab q1 (show q<=60 by omega)
   rw[q4] at pl
   have hl1:(primesL q).length=1:=beq_iff_eq.mp pl
   have ha:=at_first (xs:=primesL q) (by omega)
   rw[pf q4] at ha
   have sr:=stp_rg (p:=(lpf q.toNat:Int)) (by omega) 100000 n n1 n2
   have hw:=laid_while (S0:=.sh (.int n)) (S1:=.sh (L A)) (S2:=z2) (S3:=.sh (.int q)) (S6:=z6) (S7:=z7) (p:=(lpf q.toNat:Int)) (by omega) (by omega) 100000 n n1 (by omega)
   have eu:Dv.rangeL 0 ((lpf q.toNat:Int)).toNat=(upto (lpf q.toNat)).map .int:=by rw[Int.toNat_natCast]; exact range_upto _
   obtain⟨z',e6⟩:=more_loop (S1:=.sh (L A)) (z2:=z2) (st:=st) (q:=q) (p:=(lpf q.toNat:Int)) (t:=stp (lpf q.toNat:Int) 100000 n) n1 (by omega) (by omega) (by omega) (by omega) sr.1 sr.2 hz (by omega) (upto (lpf q.toNat)) [] z7 (fun k hk=>by have:=mem_upto.mp hk; omega) (by rw[upto_len]; simp; omega)
   rw[List.nil_append] at e6
   have e7:addMod n st ((upto (lpf q.toNat)).map fun k=>k*stp (lpf q.toNat:Int) 100000 n*(q/(lpf q.toNat:Int)))=addMod n st (rowL n q):=rfl
   rw[e7] at e6
   simp only[List.map_nil,L] at e6
   obtain⟨y2,y3,y4,y5,y6,y7,e,ey⟩:=laid_loop n1 n2 h r (addMod n st (rowL n q)) (.sh (L (addMod n st (rowL n q)))) (.sh (.int q)) (.sh (.int (lpf q.toNat:Int))) (.sh (.int (stp (lpf q.toNat:Int) 100000 n))) (.sh (L (addMod n st (rowL n q)))) z' hr rfl hl
   refine⟨y2,y3,y4,y5,y6,y7,?_,ey⟩
   rw[List.map_cons,forGo_nx (st':=[.sh (.int n),.sh (L A),.sh (L (addMod n st (rowL n q))),.sh (.int q),.sh (.int (lpf q.toNat:Int)),.sh (.int (stp (lpf q.toNat:Int) 100000 n)),.sh (L (addMod n st (rowL n q))),z']),e]
   simp only[b_Q0M_l3,sCons,sSet,sSetG,keep_int,keep_nil,Dv.give,Dv.open_,give_sh,give_ow,shared_sh,shared_ow,sIf,sFor,sWhile,iRange,eIx,Dv.ixD,eNot,eVar,eInt,eLst,lNil,lCons,eCall,Dv.all,R.bind,RL.bind,Dv.R.bindL,Dv.RL.bindL,Out.bind,get_sh,scal_int,scal_lst,List.map_cons,List.map_nil,List.getElem?_cons_zero,List.getElem?_cons_succ,List.set_cons_zero,List.set_cons_succ,List.foldl_cons,List.foldl_nil,Option.getD_some,Bool.or_true,Bool.and_true,Bool.not_false,if_true,hB,hpr,ha,hw,rng_ok (n:=(lpf q.toNat:Int)) (by omega) (by omega),eu,L,e6]
theorem laid_ok {n:Int}{A:List Int}(n2:n<=60)(h:Beat n A):F_Q0M [.int n,L A]=.ok (L (due n A)) true:=by
 have n1:=h.pos
 obtain⟨S,eS,d⟩:=due_all (A:=A) n1 n2
 obtain⟨y2,y3,y4,y5,y6,y7,e,ey⟩:=laid_loop (P:=pwH n A) n1 n2 h (ppI n) [0] (.ow (.lst [.int 0])) .no .no .no .no .no (fun q hq=>⟨hq,by unfold pwH; rw[List.mem_filter]; exact⟨fun z=>z.2,fun z=>⟨hq,z⟩⟩⟩) rfl d.ll
 have so:=fun f=>sort_ok (xs:=stL n (pwH n A) (ppI n) [0]) d.ll f
 simp only[F_Q0M,b_Q0M,b_Q0M_t2,b_Q0M_t1,Dv.fn,sCons,sSet,keep_one,Dv.give,Dv.open_,give_sh,shared_no,shared_sh,shared_ow,sRet,sFor,iSeq,eB1,eVar,eInt,eLst,lNil,lCons,eCall,Dv.all,R.bind,RL.bind,Dv.R.bindL,Dv.RL.bindL,Out.bind,get_sh,scal_int,scal_lst,List.map_cons,List.map_nil,List.length_cons,List.length_nil,List.replicate,List.cons_append,List.nil_append,List.getElem?_cons_zero,List.getElem?_cons_succ,List.set_cons_zero,List.set_cons_succ,List.foldl_cons,List.foldl_nil,Option.getD_some,Bool.and_true,Nat.reduceAdd,Nat.reduceSub,powers2_ok n1 n2,e,ey,so]
 rfl
noncomputable def gtT (rows:List (List Int))(j k:Int):Int:=(rows.getD j.toNat []).getD k.toNat 0
noncomputable def ptT (rows:List (List Int))(j k v:Int):List (List Int):=rows.set j.toNat ((rows.getD j.toNat []).set k.toNat v)
noncomputable def tot (rows:List (List Int)):Int:=(rows.map List.sum).sum
structure Tb (f g:Int)(rows:List (List Int)):Prop where
 len:(rows.length:Int)=f
 row:∀ r∈rows,(r.length:Int)=g
theorem Tb.rd {f g:Int}{rows:List (List Int)}(h:Tb f g rows){j:Int}(j0:0<=j)(j1:j<f):rows[j.toNat]?=some (rows.getD j.toNat []):=by
 have:=h.len
 have hj:j.toNat<rows.length:=by omega
 rw[List.getD_eq_getElem?_getD,List.getElem?_eq_getElem hj]; rfl
theorem Tb.rl {f g:Int}{rows:List (List Int)}(h:Tb f g rows){j:Int}(j0:0<=j)(j1:j<f):((rows.getD j.toNat []).length:Int)=g :=
 h.row _ (List.mem_of_getElem? (h.rd j0 j1))
theorem Tb.at_ {f g:Int}{rows:List (List Int)}(h:Tb f g rows){j k:Int}(j0:0<=j)(j1:j<f)(k0:0<=k)(k1:k<g):Dv.at? ((rows.getD j.toNat []).map .int) k=some (.int (gtT rows j k)):=at_L k0 (by rw[h.rl j0 j1]; exact k1)
theorem Tb.gt_ {f g:Int}{rows:List (List Int)}(h:Tb f g rows){j k:Int}(j0:0<=j)(j1:j<f)(k0:0<=k)(k1:k<g):(rows.getD j.toNat [])[k.toNat]?=some (gtT rows j k):=by
 have:=h.rl j0 j1
 have hk:k.toNat<(rows.getD j.toNat []).length:=by omega
 unfold gtT
 rw[List.getD_eq_getElem?_getD (l:=rows.getD j.toNat []),List.getElem?_eq_getElem hk]; rfl
theorem sum_set:∀ (l:List Int) (k:Nat) (v x:Int),l[k]?=some x->(l.set k v).sum=l.sum+(v-x)
 | [],k,v,x,h=>by simp at h
 | a::r,0,v,x,h=>by simp at h; subst h; simp; omega
 | a::r,k+1,v,x,h=>by
  rw[List.getElem?_cons_succ] at h
  rw[List.set_cons_succ,List.sum_cons,List.sum_cons,sum_set r k v x h]; omega
theorem tot_set (rows:List (List Int))(j:Nat)(r r':List Int)(h:rows[j]?=some r):tot (rows.set j r')=tot rows+(r'.sum-r.sum):=by
 unfold tot
 rw[List.map_set]
 exact sum_set _ _ _ _ (by rw[List.getElem?_map,h]; rfl)
theorem Tb.put {f g:Int}{rows:List (List Int)}(h:Tb f g rows){j k:Int}(v:Int)(j0:0<=j)(j1:j<f):Tb f g (ptT rows j k v) where
 len:=by unfold ptT; rw[List.length_set]; exact h.len
 row:=fun r hr=>by
  unfold ptT at hr
  rcases List.mem_or_eq_of_mem_set hr with h1|h1
  ·exact h.row r h1
  ·rw[h1,List.length_set]; exact h.rl j0 j1
theorem Tb.tot {f g:Int}{rows:List (List Int)}(h:Tb f g rows){j k:Int}(v:Int)(j0:0<=j)(j1:j<f)(k0:0<=k)(k1:k<g):Cw.tot (ptT rows j k v)=Cw.tot rows+(v-gtT rows j k):=by
 unfold ptT
 rw[tot_set _ _ _ _ (h.rd j0 j1),sum_set _ _ _ _ (h.gt_ j0 j1 k0 k1)]; omega
theorem pt_eq (rows:List (List Int))(j k v:Int):rows.set j.toNat ((rows.getD j.toNat []).set k.toNat v)=ptT rows j k v:=rfl
noncomputable def cmb:List (Int × Int × Int):=[(2,3,2),(2,3,4),(2,3,6),(2,3,8),(2,3,10),(3,2,2),(3,2,4),(3,2,6),(3,2,8),(3,2,10),(2,5,2),(2,5,4),(2,5,6),(3,5,2),(3,5,4)]
structure Evd (R:R)(n f g:Int)(rows:List (List Int)):Prop where
 ok:R=.ok (.lst [.int n,.int f,.int g,.tab rows]) true
 tb:Tb f g rows
 to:tot rows=f*g
 cm:∃ l,(f,g,l)∈cmb/\n=f*g*l
theorem tb23:Tb 2 3 [[1,1,1],[1,1,1]]:=⟨rfl,by simp⟩
theorem tb25:Tb 2 5 [[1,1,1,1,1],[1,1,1,1,1]]:=⟨rfl,by simp⟩
theorem tb32:Tb 3 2 [[1,1],[1,1],[1,1]]:=⟨rfl,by simp⟩
theorem tb35:Tb 3 5 [[1,1,1,1,1],[1,1,1,1,1],[1,1,1,1,1]]:=⟨rfl,by simp⟩
theorem cmb_mem5 {x:Int}(h:0<=x/\x<5):(2,3,(1+x)*2)∈cmb/\(3,2,(1+x)*2)∈cmb:=by
 have:x=0\/x=1\/x=2\/x=3\/x=4:=by omega
 rcases this with rfl|rfl|rfl|rfl|rfl <;>decide
theorem cmb_mem3 {x:Int}(h:0<=x/\x<3):(2,5,(1+x)*2)∈cmb:=by
 have:x=0\/x=1\/x=2:=by omega
 rcases this with rfl|rfl|rfl <;>decide
theorem cmb_mem2 {x:Int}(h:0<=x/\x<2):(3,5,(1+x)*2)∈cmb:=by
 have:x=0\/x=1:=by omega
 rcases this with rfl|rfl <;>decide
noncomputable def atP (n C p:Int):Int:=(p*7+C)%n
theorem cmb_table:(cmb.all fun x=>match x with
  | (f,g,l)=>decide (2<=f)&&(decide (2<=g)&&(decide (f*g*l<=60)&&(decide (1<=f*g*l)&&((upto (f*g*l).toNat).all (fun k=>decide (k=0) || !decide (k*7%(f*g*l)=0))&&(upto (f*g*l).toNat).all fun c=>(upto f.toNat).all fun i=>(upto g.toNat).all fun j=>(upto (f*g*l).toNat).any fun p=>decide ((p*7+c)%(f*g*l)%f=i)&&decide ((p*7+c)%(f*g*l)%g=j))))))=true:=by decide +kernel
structure Cm1 (f g n:Int):Prop where
 f2:2<=f
 g2:2<=g
 n60:n<=60
 n1:1<=n
 inj:∀ k,0<k->k<n->k*7%n≠0
 sur:∀ c i j,0<=c->c<n->0<=i->i<f->0<=j->j<g->∃ p,0<=p/\p<n/\(p*7+c)%n%f=i/\(p*7+c)%n%g=j
theorem cmb_ok {f g l:Int}(h:(f,g,l)∈cmb):Cm1 f g (f*g*l):=by
 have:=List.all_eq_true.mp cmb_table _ h
 simp only[Bool.and_eq_true,decide_eq_true_eq] at this
 obtain⟨a,b,c,d,e,k⟩:=this
 generalize f*g*l=n at *
 refine⟨a,b,c,d,fun k k0 k1=>?_,fun c i j c0 c1 i0 i1 j0 j1=>?_⟩
 ·have:=List.all_eq_true.mp e k (mem_upto.mpr (by omega))
  rw[decide_eq_false (by omega),Bool.false_or] at this
  simpa using this
 ·have:=List.all_eq_true.mp (List.all_eq_true.mp (List.all_eq_true.mp k c (mem_upto.mpr (by omega))) i (mem_upto.mpr (by omega))) j (mem_upto.mpr (by omega))
  obtain⟨p,hp,hh⟩:=List.any_eq_true.mp this
  rw[Bool.and_eq_true,decide_eq_true_eq,decide_eq_true_eq] at hh
  have hp:=mem_upto.mp hp
  exact⟨p,hp.1,by omega,hh.1,hh.2⟩
theorem sum_le:∀ l:List Int,(∀ v∈l,v<=0)->l.sum<=0
 | [],_=>by simp
 | a::r,h=>by
  have:=sum_le r fun v hv=>h v (List.mem_cons_of_mem _ hv)
  have:=h a (List.mem_cons_self ..)
  rw[List.sum_cons]; omega
theorem tot_le {f g:Int}{rows:List (List Int)}(h:Tb f g rows)(hz:∀ i j,0<=i->i<f->0<=j->j<g->gtT rows i j<=0):tot rows<=0:=by
 refine sum_le _ fun v hv=>?_
 obtain⟨r,hr,rfl⟩:=List.mem_map.mp hv
 refine sum_le _ fun x hx=>?_
 obtain⟨i,hi,ei⟩:=List.mem_iff_getElem.mp hr
 obtain⟨j,hj,ej⟩:=List.mem_iff_getElem.mp hx
 have h1:=h.len
 have h2:=h.row r hr
 have:=hz i j (by omega) (by omega) (by omega) (by omega)
 unfold gtT at this
 rw[Int.toNat_natCast,Int.toNat_natCast,List.getD_eq_getElem?_getD (l:=rows),List.getElem?_eq_getElem hi,ei,Option.getD_some,List.getD_eq_getElem?_getD,List.getElem?_eq_getElem hj,ej] at this
 exact this
theorem ev_body2 {s:List Int}{k0 f g l k:Int}(hk0:0<=k0)(hk1:k0+8<=(s.length:Int))(hk:0<=k/\k<=5)(f2:2<=f)(g2:2<=g){A:D}{rows:List (List Int)}(h:Tb f g rows)(z8 z9 z10 z11 z12 z13:Sl) :
  ∃ rows' y8 y9 y10 y11 y12 y13,Tb f g rows'/\tot rows'=tot rows/\b_Q0F_l1 [.sh (L s),.sh (.int k0),.sh A,.sh (.int f),.sh (.int g),.sh (.int l),.dp (.tab rows),.sh (.int k),z8,z9,z10,z11,z12,z13]=.nx [.sh (L s),.sh (.int k0),.sh A,.sh (.int f),.sh (.int g),.sh (.int l),.dp (.tab rows'),.sh (.int k),y8,y9,y10,y11,y12,y13]:=by
 have hc:=cell2_ok (s:=s) (k:=k0+1+k) (by omega) (by omega)
 generalize cell2 s (k0+1+k)=c at hc
 have hm:=mul_ok (mulOk_r (i:=c) (j:=48271) (by decide) (by decide))
 generalize hN:c*48271%2147483647=N at *
 have r1:=mod_rg (n:=f) (a:=N) (by omega)
 generalize h1:N%f=one at *
 have r2:=mod_rg (n:=f) (a:=one+1+N/8%(f-1)) (by omega)
 generalize h2:(one+1+N/8%(f-1))%f=oth at *
 have r3:=mod_rg (n:=g) (a:=N/64) (by omega)
 generalize h3:N/64%g=he at *
 have r4:=mod_rg (n:=g) (a:=he+1+N/512%(g-1)) (by omega)
 generalize h4:(he+1+N/512%(g-1))%g=th at *
 generalize hlow:(if gtT rows oth he<gtT rows one th then gtT rows oth he else gtT rows one th)=low
 have a1:=h.rd r1.1 r1.2
 have a2:=h.rd r2.1 r2.2
 have b1:=h.at_ r1.1 r1.2 r4.1 r4.2
 have b2:=h.at_ r2.1 r2.2 r3.1 r3.2
 have b3:=h.at_ r1.1 r1.2 r3.1 r3.2
 have b4:=h.at_ r2.1 r2.2 r4.1 r4.2
 by_cases c1:0<low
 ·generalize hmx:(if gtT rows oth th > gtT rows one he then gtT rows oth th else gtT rows one he)=mxx
  by_cases c2:mxx<l
  ·have l1:=h.rl r1.1 r1.2
   have H1:=h.put (k:=he) (gtT rows one he+1) r1.1 r1.2
   have T1:=h.tot (gtT rows one he+1) r1.1 r1.2 r3.1 r3.2
   generalize hR1:ptT rows one he (gtT rows one he+1)=R1 at *
   have d1:=H1.rd r2.1 r2.2
   have d2:=H1.at_ r2.1 r2.2 r4.1 r4.2
   have l2:=H1.rl r2.1 r2.2
   have H2:=H1.put (k:=th) (gtT R1 oth th+1) r2.1 r2.2
   have T2:=H1.tot (gtT R1 oth th+1) r2.1 r2.2 r4.1 r4.2
   generalize hR2:ptT R1 oth th (gtT R1 oth th+1)=R2 at *
   have e1:=H2.rd r1.1 r1.2
   have e2:=H2.at_ r1.1 r1.2 r4.1 r4.2
   have l3:=H2.rl r1.1 r1.2
   have H3:=H2.put (k:=th) (gtT R2 one th-1) r1.1 r1.2
   have T3:=H2.tot (gtT R2 one th-1) r1.1 r1.2 r4.1 r4.2
   generalize hR3:ptT R2 one th (gtT R2 one th-1)=R3 at *
   have f1:=H3.rd r2.1 r2.2
   have f2':=H3.at_ r2.1 r2.2 r3.1 r3.2
   have l4:=H3.rl r2.1 r2.2
   have H4:=H3.put (k:=he) (gtT R3 oth he-1) r2.1 r2.2
   have T4:=H3.tot (gtT R3 oth he-1) r2.1 r2.2 r3.1 r3.2
   refine⟨ptT R3 oth he (gtT R3 oth he-1),.sh (.int N),.sh (.int one),.sh (.int oth),.sh (.int he),.sh (.int th),.sh (.int low),H4,by omega,?_⟩
   simp only[b_Q0F_l1,sCons,sSet,keep_int,sIf,eB2,Dv.max2D,Dv.min2D,eIx,Dv.ixD,eAnd,eCm,eOp,eVar,eInt,lNil,lCons,eCall,Dv.all,R.bind,RL.bind,Dv.R.bindL,Dv.RL.bindL,Out.bind,get_sh,get_dp,scal_int,scal_lst,List.map_cons,List.map_nil,List.getElem?_cons_zero,List.getElem?_cons_succ,List.set_cons_zero,List.set_cons_succ,Bool.or_true,Bool.and_true,if_true,add_ok,sub_ok,cm_lt,cm_gt,eIxT,sPutT,hc,hm,mod_ok (j:=2147483647) (by decide),hN,mod_ok (show (0:Int)<f by omega),h1,fdiv_ok (j:=8) (by decide) (by decide),mod_ok (show (0:Int)<f-1 by omega),h2,fdiv_ok (j:=64) (by decide) (by decide),mod_ok (show (0:Int)<g by omega),h3,fdiv_ok (j:=512) (by decide) (by decide),mod_ok (show (0:Int)<g-1 by omega),h4,if_pos r1.1,if_pos r2.1,a1,a2,b1,b2,b3,b4,hlow,hmx,decide_eq_true c1,decide_eq_true c2,decide_eq_true r1.1,decide_eq_true r2.1,decide_eq_true r3.1,decide_eq_true r4.1,l1,l2,l3,l4,decide_eq_true r3.2,decide_eq_true r4.2,pt_eq,hR1,hR2,hR3,d1,d2,e1,e2,f1,f2']
  ·refine⟨rows,.sh (.int N),.sh (.int one),.sh (.int oth),.sh (.int he),.sh (.int th),.sh (.int low),h,rfl,?_⟩
   simp only[b_Q0F_l1,sCons,sNil,sSet,keep_int,sIf,eB2,Dv.max2D,Dv.min2D,eIx,Dv.ixD,eAnd,eCm,eOp,eVar,eInt,lNil,lCons,eCall,Dv.all,R.bind,RL.bind,Dv.R.bindL,Dv.RL.bindL,Out.bind,get_sh,get_dp,scal_int,scal_lst,List.map_cons,List.map_nil,List.getElem?_cons_zero,List.getElem?_cons_succ,List.set_cons_zero,List.set_cons_succ,Bool.or_true,Bool.and_true,add_ok,sub_ok,cm_lt,cm_gt,eIxT,hc,hm,mod_ok (j:=2147483647) (by decide),hN,mod_ok (show (0:Int)<f by omega),h1,fdiv_ok (j:=8) (by decide) (by decide),mod_ok (show (0:Int)<f-1 by omega),h2,fdiv_ok (j:=64) (by decide) (by decide),mod_ok (show (0:Int)<g by omega),h3,fdiv_ok (j:=512) (by decide) (by decide),mod_ok (show (0:Int)<g-1 by omega),h4,if_pos r1.1,if_pos r2.1,a1,a2,b1,b2,b3,b4,hlow,hmx,decide_eq_true c1,decide_eq_false c2]
 ·refine⟨rows,.sh (.int N),.sh (.int one),.sh (.int oth),.sh (.int he),.sh (.int th),.sh (.int low),h,rfl,?_⟩
  simp only[b_Q0F_l1,sCons,sNil,sSet,keep_int,sIf,eB2,Dv.min2D,eIx,Dv.ixD,eAnd,eCm,eOp,eVar,eInt,lNil,lCons,eCall,Dv.all,R.bind,RL.bind,Dv.R.bindL,Dv.RL.bindL,Out.bind,get_sh,get_dp,scal_int,scal_lst,List.map_cons,List.map_nil,List.getElem?_cons_zero,List.getElem?_cons_succ,List.set_cons_zero,List.set_cons_succ,Bool.or_true,Bool.and_true,add_ok,sub_ok,cm_gt,eIxT,hc,hm,mod_ok (j:=2147483647) (by decide),hN,mod_ok (show (0:Int)<f by omega),h1,fdiv_ok (j:=8) (by decide) (by decide),mod_ok (show (0:Int)<f-1 by omega),h2,fdiv_ok (j:=64) (by decide) (by decide),mod_ok (show (0:Int)<g by omega),h3,fdiv_ok (j:=512) (by decide) (by decide),mod_ok (show (0:Int)<g-1 by omega),h4,if_pos r1.1,if_pos r2.1,a1,a2,b1,b2,b3,b4,hlow,decide_eq_false c1]
theorem ev_loop2 {s:List Int}{k0 f g l:Int}(hk0:0<=k0)(hk1:k0+8<=(s.length:Int))(f2:2<=f)(g2:2<=g){A:D}:∀ (ks:List Int) (rows:List (List Int)) (z7 z8 z9 z10 z11 z12 z13:Sl),Tb f g rows->(∀ k∈ks,0<=k/\k<=5) ->
  ∃ rows' y7 y8 y9 y10 y11 y12 y13,Tb f g rows'/\tot rows'=tot rows/\forGo 7 b_Q0F_l1 (ks.map .int) [.sh (L s),.sh (.int k0),.sh A,.sh (.int f),.sh (.int g),.sh (.int l),.dp (.tab rows),z7,z8,z9,z10,z11,z12,z13]=.nx [.sh (L s),.sh (.int k0),.sh A,.sh (.int f),.sh (.int g),.sh (.int l),.dp (.tab rows'),y7,y8,y9,y10,y11,y12,y13]
 | [],rows,z7,z8,z9,z10,z11,z12,z13,h,_=>⟨rows,z7,z8,z9,z10,z11,z12,z13,h,rfl,rfl⟩
 | k::r,rows,z7,z8,z9,z10,z11,z12,z13,h,hk=>by
  obtain⟨R,y8,y9,y10,y11,y12,y13,H,T,e⟩:=ev_body2 (s:=s) (k0:=k0) (l:=l) (k:=k) (A:=A) hk0 hk1 (hk k (List.mem_cons_self ..)) f2 g2 h z8 z9 z10 z11 z12 z13
  obtain⟨R',x7,x8,x9,x10,x11,x12,x13,H',T',e'⟩:=ev_loop2 (s:=s) (k0:=k0) (l:=l) (A:=A) hk0 hk1 f2 g2 r R (.sh (.int k)) y8 y9 y10 y11 y12 y13 H (fun q hq=>hk q (List.mem_cons_of_mem _ hq))
  refine⟨R',x7,x8,x9,x10,x11,x12,x13,H',by omega,?_⟩
  rw[List.map_cons,forGo_nx (st':=_) e]
  exact e'
theorem ev_tail2 {s:List Int}{k0 f g l:Int}(hk0:0<=k0)(hk1:k0+8<=(s.length:Int))(f2:2<=f)(g2:2<=g)(f9:f<=9)(g9:g<=9){A:D}{rows:List (List Int)}(h:Tb f g rows) :
  ∃ rows',Tb f g rows'/\tot rows'=tot rows/\b_Q0F_t4 [.sh (L s),.sh (.int k0),.sh A,.sh (.int f),.sh (.int g),.sh (.int l),.dp (.tab rows),.no,.no,.no,.no,.no,.no,.no]=.ret (.lst [.int (f*g*l),.int f,.int g,.tab rows']) true:=by
 obtain⟨R',x7,x8,x9,x10,x11,x12,x13,H',T',e'⟩:=ev_loop2 (s:=s) (k0:=k0) (l:=l) (A:=A) hk0 hk1 f2 g2 (upto 6) rows .no .no .no .no .no .no .no h (fun k hk=>by have:=mem_upto.mp hk; omega)
 refine⟨R',H',T',?_⟩
 have hr:rngOk 6=true:=by decide
 have ht:(6:Int).toNat=6:=rfl
 have hfg:-(2 ^ 64)<f*g/\f*g<2 ^ 64:=by
  have h1:f*g<=9*g:=Int.mul_le_mul_of_nonneg_right f9 (by omega)
  have h2:0<=f*g:=Int.mul_nonneg (by omega) (by omega)
  omega
 simp only[b_Q0F_t4,b_Q0F_t5,sRetTb,sCons,Dv.give,sFor,iRange,eOp,eVar,eInt,Dv.all,R.bind,RL.bind,Out.bind,get_sh,get_dp,scal_int,List.map_cons,List.map_nil,List.getElem?_cons_zero,List.getElem?_cons_succ,List.foldl_nil,if_true,hr,range_upto,ht,e',mul_ok (mulOk_l (i:=f) (j:=g) (by omega) (by omega)),mul_ok (mulOk_l (i:=f*g) (j:=l) hfg.1 hfg.2)]
theorem evened_ok2 {s:List Int}{k0:Int}(hk0:0<=k0)(hk1:k0+8<=(s.length:Int)):∃ n f g rows,Evd (F_Q0F [L s,.int k0,.int 60]) n f g rows:=by
 have hc:=cell2_ok (s:=s) (k:=k0) (by omega) (by omega)
 generalize cell2 s k0=c at hc
 have r5:=mod_rg (n:=5) (a:=c) (by omega)
 have hm5:c%5=0\/c%5=1\/c%5=2\/c%5=3\/c%5=4:=by omega
 have x0:Dv.at? [.tup [.int 2,.int 3],.tup [.int 2,.int 5],.tup [.int 3,.int 2],.tup [.int 2,.int 3],.tup [.int 3,.int 5]] 0=some (.tup [.int 2,.int 3]):=rfl
 have x1:Dv.at? [.tup [.int 2,.int 3],.tup [.int 2,.int 5],.tup [.int 3,.int 2],.tup [.int 2,.int 3],.tup [.int 3,.int 5]] 1=some (.tup [.int 2,.int 5]):=rfl
 have x2:Dv.at? [.tup [.int 2,.int 3],.tup [.int 2,.int 5],.tup [.int 3,.int 2],.tup [.int 2,.int 3],.tup [.int 3,.int 5]] 2=some (.tup [.int 3,.int 2]):=rfl
 have x3:Dv.at? [.tup [.int 2,.int 3],.tup [.int 2,.int 5],.tup [.int 3,.int 2],.tup [.int 2,.int 3],.tup [.int 3,.int 5]] 3=some (.tup [.int 2,.int 3]):=rfl
 have x4:Dv.at? [.tup [.int 2,.int 3],.tup [.int 2,.int 5],.tup [.int 3,.int 2],.tup [.int 2,.int 3],.tup [.int 3,.int 5]] 4=some (.tup [.int 3,.int 5]):=rfl
 have q5:=mod_rg (n:=5) (a:=c/5) (by omega)
 have q3:=mod_rg (n:=3) (a:=c/5) (by omega)
 have q2:=mod_rg (n:=2) (a:=c/5) (by omega)
 have c23:∀ r0 r1 r2 r5 r6 r7 r8 r9 ra rb rc rd,c_Q0F_1 [r0,r1,r2,some (.int 2),some (.int 3),r5,r6,r7,r8,r9,ra,rb,rc,rd]=.ok (.tab [[1,1,1],[1,1,1]]) true:=fun _ _ _ _ _ _ _ _ _ _ _ _=>rfl
 have c25:∀ r0 r1 r2 r5 r6 r7 r8 r9 ra rb rc rd,c_Q0F_1 [r0,r1,r2,some (.int 2),some (.int 5),r5,r6,r7,r8,r9,ra,rb,rc,rd]=.ok (.tab [[1,1,1,1,1],[1,1,1,1,1]]) true:=fun _ _ _ _ _ _ _ _ _ _ _ _=>rfl
 have c32:∀ r0 r1 r2 r5 r6 r7 r8 r9 ra rb rc rd,c_Q0F_1 [r0,r1,r2,some (.int 3),some (.int 2),r5,r6,r7,r8,r9,ra,rb,rc,rd]=.ok (.tab [[1,1],[1,1],[1,1]]) true:=fun _ _ _ _ _ _ _ _ _ _ _ _=>rfl
 have c35:∀ r0 r1 r2 r5 r6 r7 r8 r9 ra rb rc rd,c_Q0F_1 [r0,r1,r2,some (.int 3),some (.int 5),r5,r6,r7,r8,r9,ra,rb,rc,rd]=.ok (.tab [[1,1,1,1,1],[1,1,1,1,1],[1,1,1,1,1]]) true:=fun _ _ _ _ _ _ _ _ _ _ _ _=>rfl
 have m2:∀ x:Int,0<=x->x<=100->opD .mul (.int x) (.int 2)=.ok (.int (x*2)) true:=fun x h1 h2=>mul_ok (mulOk_l (by omega) (by omega))
 have s12:opD .mul (.int 2) (.int 3)=.ok (.int 6) true:=rfl
 have s10:opD .mul (.int 2) (.int 5)=.ok (.int 10) true:=rfl
 have s6:opD .mul (.int 3) (.int 2)=.ok (.int 6) true:=rfl
 have s15:opD .mul (.int 3) (.int 5)=.ok (.int 15) true:=rfl
 have u6:opD .mul (.int 6) (.int 2)=.ok (.int 12) true:=rfl
 have u10:opD .mul (.int 10) (.int 2)=.ok (.int 20) true:=rfl
 have u15:opD .mul (.int 15) (.int 2)=.ok (.int 30) true:=rfl
 have v12:opD .fdiv (.int 60) (.int 12)=.ok (.int 5) true:=rfl
 have v20:opD .fdiv (.int 60) (.int 20)=.ok (.int 3) true:=rfl
 have v30:opD .fdiv (.int 60) (.int 30)=.ok (.int 2) true:=rfl
 have w5':(if (5:Int) > 1 then (5:Int) else 1)=5:=rfl
 have w3':(if (3:Int) > 1 then (3:Int) else 1)=3:=rfl
 have w2':(if (2:Int) > 1 then (2:Int) else 1)=2:=rfl
 have y5:=m2 (1+c/5%5) (by omega) (by omega)
 have y3:=m2 (1+c/5%3) (by omega) (by omega)
 have y2:=m2 (1+c/5%2) (by omega) (by omega)
 rcases hm5 with h|h|h|h|h
 ·obtain⟨Rw,H,T,e⟩:=ev_tail2 (s:=s) (k0:=k0) (f:=2) (g:=3) (l:=(1+c/5%5)*2) (A:=.int 60) hk0 hk1 (by omega) (by omega) (by omega) (by omega) tb23
  refine⟨_,_,_,Rw,?_,H,T,⟨_,(cmb_mem5 q5).1,rfl⟩⟩
  simp only[F_Q0F,b_Q0F,b_Q0F_t1,b_Q0F_t2,b_Q0F_t3,Dv.fn,sCons,sSet,keep_int,Dv.give,Dv.open_,give_sh,shared_no,shared_sh,sUnpack,Dv.setAll,eB2,Dv.max2D,eIx,Dv.ixD,eOp,eVar,eInt,eLst,eTup,lNil,lCons,eCall,Dv.all,R.bind,RL.bind,Dv.R.bindL,Dv.RL.bindL,Out.bind,get_no,get_sh,sSetD,scal_int,scal_lst,scal_tup,List.map_cons,List.map_nil,List.length_cons,List.length_nil,List.replicate,List.cons_append,List.nil_append,List.getElem?_cons_zero,List.getElem?_cons_succ,List.set_cons_zero,List.set_cons_succ,List.foldl_cons,List.foldl_nil,Option.getD_some,Bool.and_true,Bool.or_false,if_true,Nat.reduceAdd,Nat.reduceSub,add_ok,hc,mod_ok (j:=5) (by decide),h,x0,fdiv_ok (i:=c) (j:=5) (by decide) (by decide),s12,s10,s6,s15,u6,u10,u15,v12,w5',mod_ok (j:=5) (by decide),y5,c23,e]
 ·obtain⟨Rw,H,T,e⟩:=ev_tail2 (s:=s) (k0:=k0) (f:=2) (g:=5) (l:=(1+c/5%3)*2) (A:=.int 60) hk0 hk1 (by omega) (by omega) (by omega) (by omega) tb25
  refine⟨_,_,_,Rw,?_,H,T,⟨_,cmb_mem3 q3,rfl⟩⟩
  simp only[F_Q0F,b_Q0F,b_Q0F_t1,b_Q0F_t2,b_Q0F_t3,Dv.fn,sCons,sSet,keep_int,Dv.give,Dv.open_,give_sh,shared_no,shared_sh,sUnpack,Dv.setAll,eB2,Dv.max2D,eIx,Dv.ixD,eOp,eVar,eInt,eLst,eTup,lNil,lCons,eCall,Dv.all,R.bind,RL.bind,Dv.R.bindL,Dv.RL.bindL,Out.bind,get_no,get_sh,sSetD,scal_int,scal_lst,scal_tup,List.map_cons,List.map_nil,List.length_cons,List.length_nil,List.replicate,List.cons_append,List.nil_append,List.getElem?_cons_zero,List.getElem?_cons_succ,List.set_cons_zero,List.set_cons_succ,List.foldl_cons,List.foldl_nil,Option.getD_some,Bool.and_true,Bool.or_false,if_true,Nat.reduceAdd,Nat.reduceSub,add_ok,hc,mod_ok (j:=5) (by decide),h,x1,fdiv_ok (i:=c) (j:=5) (by decide) (by decide),s12,s10,s6,s15,u6,u10,u15,v20,w3',mod_ok (j:=3) (by decide),y3,c25,e]
 ·obtain⟨Rw,H,T,e⟩:=ev_tail2 (s:=s) (k0:=k0) (f:=3) (g:=2) (l:=(1+c/5%5)*2) (A:=.int 60) hk0 hk1 (by omega) (by omega) (by omega) (by omega) tb32
  refine⟨_,_,_,Rw,?_,H,T,⟨_,(cmb_mem5 q5).2,rfl⟩⟩
  simp only[F_Q0F,b_Q0F,b_Q0F_t1,b_Q0F_t2,b_Q0F_t3,Dv.fn,sCons,sSet,keep_int,Dv.give,Dv.open_,give_sh,shared_no,shared_sh,sUnpack,Dv.setAll,eB2,Dv.max2D,eIx,Dv.ixD,eOp,eVar,eInt,eLst,eTup,lNil,lCons,eCall,Dv.all,R.bind,RL.bind,Dv.R.bindL,Dv.RL.bindL,Out.bind,get_no,get_sh,sSetD,scal_int,scal_lst,scal_tup,List.map_cons,List.map_nil,List.length_cons,List.length_nil,List.replicate,List.cons_append,List.nil_append,List.getElem?_cons_zero,List.getElem?_cons_succ,List.set_cons_zero,List.set_cons_succ,List.foldl_cons,List.foldl_nil,Option.getD_some,Bool.and_true,Bool.or_false,if_true,Nat.reduceAdd,Nat.reduceSub,add_ok,hc,mod_ok (j:=5) (by decide),h,x2,fdiv_ok (i:=c) (j:=5) (by decide) (by decide),s12,s10,s6,s15,u6,u10,u15,v12,w5',mod_ok (j:=5) (by decide),y5,c32,e]
 ·obtain⟨Rw,H,T,e⟩:=ev_tail2 (s:=s) (k0:=k0) (f:=2) (g:=3) (l:=(1+c/5%5)*2) (A:=.int 60) hk0 hk1 (by omega) (by omega) (by omega) (by omega) tb23
  refine⟨_,_,_,Rw,?_,H,T,⟨_,(cmb_mem5 q5).1,rfl⟩⟩
  simp only[F_Q0F,b_Q0F,b_Q0F_t1,b_Q0F_t2,b_Q0F_t3,Dv.fn,sCons,sSet,keep_int,Dv.give,Dv.open_,give_sh,shared_no,shared_sh,sUnpack,Dv.setAll,eB2,Dv.max2D,eIx,Dv.ixD,eOp,eVar,eInt,eLst,eTup,lNil,lCons,eCall,Dv.all,R.bind,RL.bind,Dv.R.bindL,Dv.RL.bindL,Out.bind,get_no,get_sh,sSetD,scal_int,scal_lst,scal_tup,List.map_cons,List.map_nil,List.length_cons,List.length_nil,List.replicate,List.cons_append,List.nil_append,List.getElem?_cons_zero,List.getElem?_cons_succ,List.set_cons_zero,List.set_cons_succ,List.foldl_cons,List.foldl_nil,Option.getD_some,Bool.and_true,Bool.or_false,if_true,Nat.reduceAdd,Nat.reduceSub,add_ok,hc,mod_ok (j:=5) (by decide),h,x3,fdiv_ok (i:=c) (j:=5) (by decide) (by decide),s12,s10,s6,s15,u6,u10,u15,v12,w5',mod_ok (j:=5) (by decide),y5,c23,e]
 ·obtain⟨Rw,H,T,e⟩:=ev_tail2 (s:=s) (k0:=k0) (f:=3) (g:=5) (l:=(1+c/5%2)*2) (A:=.int 60) hk0 hk1 (by omega) (by omega) (by omega) (by omega) tb35
  refine⟨_,_,_,Rw,?_,H,T,⟨_,cmb_mem2 q2,rfl⟩⟩
  simp only[F_Q0F,b_Q0F,b_Q0F_t1,b_Q0F_t2,b_Q0F_t3,Dv.fn,sCons,sSet,keep_int,Dv.give,Dv.open_,give_sh,shared_no,shared_sh,sUnpack,Dv.setAll,eB2,Dv.max2D,eIx,Dv.ixD,eOp,eVar,eInt,eLst,eTup,lNil,lCons,eCall,Dv.all,R.bind,RL.bind,Dv.R.bindL,Dv.RL.bindL,Out.bind,get_no,get_sh,sSetD,scal_int,scal_lst,scal_tup,List.map_cons,List.map_nil,List.length_cons,List.length_nil,List.replicate,List.cons_append,List.nil_append,List.getElem?_cons_zero,List.getElem?_cons_succ,List.set_cons_zero,List.set_cons_succ,List.foldl_cons,List.foldl_nil,Option.getD_some,Bool.and_true,Bool.or_false,if_true,Nat.reduceAdd,Nat.reduceSub,add_ok,hc,mod_ok (j:=5) (by decide),h,x4,fdiv_ok (i:=c) (j:=5) (by decide) (by decide),s12,s10,s6,s15,u6,u10,u15,v30,w2',mod_ok (j:=2) (by decide),y2,c35,e]
theorem lift_loop2 {s:List Int}{k0 n f g C:Int}{A:D}(hk0:0<=k0)(hk1:k0+8<=(s.length:Int))(hC:cell2 s (k0+7)%1000003=C)(n1:1<=n)(f2:2<=f)(g2:2<=g):∀ (ks:List Int) (rows:List (List Int)) (found:List Int) (z8 z9 z10:Sl),Tb f g rows->(∀ k∈ks,0<=k/\k<=500)->found.length+ks.length<=1000 ->
  ∃ rows' add y8 y9 y10,forGo 8 b_Q0O_l1 (ks.map .int) [.sh (L s),.sh (.int k0),.sh A,.sh (.int n),.sh (.int f),.sh (.int g),.dp (.tab rows),.ow (L found),z8,z9,z10]=.nx [.sh (L s),.sh (.int k0),.sh A,.sh (.int n),.sh (.int f),.sh (.int g),.dp (.tab rows'),.ow (L (found++add)),y8,y9,y10]/\add.Sublist (ks.map (atP n C))/\(add=[]->∀ k∈ks,gtT rows (atP n C k%f) (atP n C k%g)<=0)
 | [],rows,found,z8,z9,z10,h,_,_=>⟨rows,[],z8,z9,z10,by rw[List.append_nil]; rfl,.slnil,fun _ k hk=>nomatch hk⟩
 | k::r,rows,found,z8,z9,z10,h,hk,hl=>by
  rw[List.length_cons] at hl
  have hkk:=hk k (List.mem_cons_self ..)
  have hc:=cell2_ok (s:=s) (k:=k0+7) (by omega) (by omega)
  have hm:=mul_ok (mulOk_r (i:=k) (j:=7) (by decide) (by decide))
  have ha:(k*7+C)%n=atP n C k:=rfl
  have rn:=mod_rg (n:=n) (a:=k*7+C) (by omega)
  rw[ha] at rn
  have e0:List.map (atP n C) (k::r)=atP n C k::r.map (atP n C):=rfl
  generalize hA:atP n C k=at_ at *
  have r1:=mod_rg (n:=f) (a:=at_) (by omega)
  have r2:=mod_rg (n:=g) (a:=at_) (by omega)
  have a1:=h.rd r1.1 r1.2
  have a2:=h.gt_ r1.1 r1.2 r2.1 r2.2
  have H1:=h.put (k:=at_%g) (gtT rows (at_%f) (at_%g)-1) r1.1 r1.2
  have d1:decide ((6:Nat)≠10)=true:=rfl
  have d2:decide ((6:Nat)≠7)=true:=rfl
  have d3:decide ((10:Nat)≠7)=true:=rfl
  have d4:decide ((10:Nat)<11)=true:=rfl
  have hmx:decide (found.length<Dv.mx)=true:=decide_eq_true (by unfold Dv.mx; omega)
  have e9:List.map D.int found++[D.int at_]=List.map D.int (found++[at_]):=by rw[List.map_append]; rfl
  by_cases hv:0<gtT rows (at_%f) (at_%g)
  ·obtain⟨R',add,y8,y9,y10,e,hs,_⟩:=lift_loop2 (s:=s) (n:=n) (A:=A) hk0 hk1 hC n1 f2 g2 r (ptT rows (at_%f) (at_%g) (gtT rows (at_%f) (at_%g)-1)) (found++[at_]) (.sh (.int k)) (.sh (.int at_)) .no H1 (fun q hq=>hk q (List.mem_cons_of_mem _ hq)) (by rw[List.length_append,List.length_singleton]; omega)
   refine⟨R',at_::add,y8,y9,y10,?_,?_,fun hh=>nomatch hh⟩
   ·rw[List.map_cons,forGo_nx (st':=[.sh (L s),.sh (.int k0),.sh A,.sh (.int n),.sh (.int f),.sh (.int g),.dp (.tab (ptT rows (at_%f) (at_%g) (gtT rows (at_%f) (at_%g)-1))),.ow (L (found++[at_])),.sh (.int k),.sh (.int at_),.no])]
    ·rw[e,List.append_assoc]; rfl
    ·simp only[b_Q0O_l1,sCons,sNil,sSet,keep_int,eOp,eVar,eInt,lNil,lCons,eCall,Dv.all,R.bind,RL.bind,Dv.R.bindL,Dv.RL.bindL,Out.bind,get_no,get_sh,get_ow,get_dp,scal_int,scal_lst,List.map_cons,List.map_nil,List.length_cons,List.length_nil,List.getElem?_cons_zero,List.getElem?_cons_succ,List.set_cons_zero,List.set_cons_succ,Bool.and_true,if_true,Nat.reduceAdd,add_ok,List.length_map,sRowDec,hc,hm,mod_ok (j:=1000003) (by decide),hC,mod_ok (show (0:Int)<n by omega),ha,mod_ok (show (0:Int)<f by omega),mod_ok (show (0:Int)<g by omega),a1,a2,decide_eq_true r1.1,decide_eq_true r2.1,d1,d2,d3,d4,if_pos hv,hmx,e9,pt_eq]
   ·rw[e0]; exact hs.cons_cons _
  ·obtain⟨R',add,y8,y9,y10,e,hs,hz⟩:=lift_loop2 (s:=s) (n:=n) (A:=A) hk0 hk1 hC n1 f2 g2 r rows found (.sh (.int k)) (.sh (.int at_)) .no h (fun q hq=>hk q (List.mem_cons_of_mem _ hq)) (by omega)
   refine⟨R',add,y8,y9,y10,?_,?_,fun hh q hq=>?_⟩
   ·rw[List.map_cons,forGo_nx (st':=[.sh (L s),.sh (.int k0),.sh A,.sh (.int n),.sh (.int f),.sh (.int g),.dp (.tab rows),.ow (L found),.sh (.int k),.sh (.int at_),.no])]
    ·exact e
    ·simp only[b_Q0O_l1,sCons,sNil,sSet,keep_int,eOp,eVar,eInt,lNil,lCons,eCall,Dv.all,R.bind,RL.bind,Dv.R.bindL,Dv.RL.bindL,Out.bind,get_no,get_sh,get_ow,get_dp,scal_int,scal_lst,List.map_cons,List.map_nil,List.length_cons,List.length_nil,List.getElem?_cons_zero,List.getElem?_cons_succ,List.set_cons_zero,List.set_cons_succ,Bool.and_true,if_true,Nat.reduceAdd,add_ok,List.length_map,sRowDec,hc,hm,mod_ok (j:=1000003) (by decide),hC,mod_ok (show (0:Int)<n by omega),ha,mod_ok (show (0:Int)<f by omega),mod_ok (show (0:Int)<g by omega),a1,a2,decide_eq_true r1.1,decide_eq_true r2.1,d1,d2,d3,d4,if_neg hv]
   ·rw[e0]; exact hs.cons _
   ·rcases List.mem_cons.mp hq with rfl|hq
    ·rw[hA]; omega
    ·exact hz hh q hq
theorem lifted_ok2 {s:List Int}{k0:Int}(hk0:0<=k0)(hk1:k0+8<=(s.length:Int)):∃ n b,F_Q0O [L s,.int k0,.int 60]=.ok (.lst [.int n,L b]) true/\Beat n b/\n<=60:=by
 obtain⟨n,f,g,rows,hE⟩:=evened_ok2 (s:=s) hk0 hk1
 obtain⟨l,hl,hn⟩:=hE.cm
 have hC:=cmb_ok hl
 rw[<- hn] at hC
 have n1:=hC.n1
 have n60:=hC.n60
 generalize hCC:cell2 s (k0+7)%1000003=C
 obtain⟨R',add,y8,y9,y10,e,hs,hz⟩:=lift_loop2 (s:=s) (k0:=k0) (A:=.int 60) hk0 hk1 hCC n1 hC.f2 hC.g2 (upto n.toNat) rows [] .no .no .no hE.tb (fun k hk=>by have:=mem_upto.mp hk; omega) (by rw[ulen]; simp; omega)
 have hnd:add.Nodup:=by
  refine List.Nodup.sublist hs ?_
  unfold List.Nodup
  rw[List.pairwise_map]
  have up2:(upto n.toNat).Pairwise (·<·):=by
   unfold upto
   rw[List.pairwise_map]
   exact List.pairwise_lt_range.imp fun {a b} h=>by omega
  refine up2.imp_of_mem fun {a b} ha hb hab hh=>?_
  have ha:=mem_upto.mp ha
  have hb:=mem_upto.mp hb
  unfold atP at hh
  have:=(Int.emod_eq_emod_iff_emod_sub_eq_zero).mp hh.symm
  have e2:b*7+C-(a*7+C)=(b-a)*7:=by omega
  rw[e2] at this
  exact hC.inj (b-a) (by omega) (by omega) this
 have hrg:∀ x∈add,0<=x/\x<n:=fun x hx=>by
  obtain⟨p,_,rfl⟩:=List.mem_map.mp (hs.subset hx)
  exact mod_rg (by omega)
 have hne:add≠[]:=fun hh=>by
  have hz:=hz hh
  have:tot rows<=0:=tot_le hE.tb fun i j i0 i1 j0 j1=>by
   have rC:=mod_rg (n:=n) (a:=C) (by omega)
   obtain⟨p,p0,p1,q1,q2⟩:=hC.sur (C%n) i j rC.1 rC.2 i0 i1 j0 j1
   have:=hz p (mem_upto.mpr (by omega))
   have e3:atP n C p=(p*7+C%n)%n:=by unfold atP; rw[Int.add_emod_emod]
   rw[e3,q1,q2] at this
   exact this
  have h1:=hE.to
  have h2:0<f*g:=Int.mul_pos (by have:=hC.f2; omega) (by have:=hC.g2; omega)
  omega
 have hb:Beat n (Dv.isort add):=sort_beat hne hnd hrg
 have hlen:add.length<=60:=by
  have:=hs.length_le
  rw[List.length_map,ulen] at this; omega
 have hso:=fun fl=>sort_ok (xs:=add) (by omega) fl
 rw[List.nil_append] at e
 have hnil:L []=.lst []:=rfl
 rw[hnil] at e
 have hr:=rng_ok (n:=n) (by omega) (by omega)
 have d5:((6:Nat)<11)=True:=by simp
 refine⟨n,Dv.isort add,?_,hb,n60⟩
 simp only[F_Q0O,b_Q0O,b_Q0O_t3,b_Q0O_t2,b_Q0O_t1,sUnpackTb,Dv.unTb,Dv.fn,sCons,sSet,keep_nil,Dv.give,Dv.open_,shared_no,shared_sh,shared_ow,sRet,sFor,iRange,eB1,eVar,eLst,lNil,lCons,eCall,Dv.all,R.bind,RL.bind,Dv.R.bindL,Dv.RL.bindL,Out.bind,get_no,get_sh,get_ow,get_dp,shared_dp,scal_int,scal_lst,List.map_cons,List.map_nil,List.length_cons,List.length_nil,List.replicate,List.cons_append,List.nil_append,List.getElem?_cons_zero,List.getElem?_cons_succ,List.set_cons_zero,List.set_cons_succ,List.foldl_nil,Bool.and_true,if_true,Nat.reduceAdd,Nat.reduceSub,hE.ok,d5,hr,range_upto,e,hso]
theorem pair_same:b_Q0Q_l2=b_law_pair_v2_l2:=rfl
structure Dr (ds:List Int):Prop where
 len:ds.length=15
 rg:∀ d∈ds,0<=d/\d<1000000000000000000000000000000
theorem Dr.cell {ds:List Int}(h:Dr ds){k:Int}(h0:0<=k)(h1:k<15):F_Q0C [L ds,.int k]=.ok (.int (cell2 ds k)) true/\0<=cell2 ds k/\cell2 ds k<1000000000000000000000000000000 :=
 ⟨cell2_ok h0 (by have:=h.len; omega),h.rg _ (getD_mem (by have:=h.len; omega))⟩
theorem pair3_ok {s:List Int}{k0:Int}(hk0:0<=k0)(hk1:k0<=1000)(hsl:k0+9<=(s.length:Int)):∃ n a b f,F_Q0Q [L s,.int k0]=.ok (.tup [.int n,L a,L b]) f/\Fill n a b/\n<=60:=by
 obtain⟨n,a,b,sa,sb,y5,y6,y7,y8,y9,y10,e,p,hn,ha,hb⟩:=pair_loop2 pairFill (s:=s) hk0 hk1 hsl (upto 6) 1 [0] [0] (.ow (L [0])) (.ow (L [0])) .no .no .no .no .no .no (fun x hx=>by have:=mem_upto.mp hx; omega) fill_one (by omega) (.inr rfl) (.inr rfl)
 rw[<- pair_same] at e
 have hA:=p.one
 have hB:=p.oth
 have hnp:0<n:=by have:=hA.pos; omega
 have hla:=hA.len
 have hlb:=hB.len
 simp only[L,List.map_cons,List.map_nil] at e
 have hr:rngOk 6=true:=by decide
 have h6:(6:Int).toNat=6:=rfl
 have ht1:=turned_ok (by_:=cell2 s (k0+6)%n) (xs:=a) hnp (by omega)
 have ht2:=turned_ok (by_:=cell2 s (k0+7)%n) (xs:=b) hnp (by omega)
 have p2:=(p.turn (c:=cell2 s (k0+6)%n)).swap.turn (c:=cell2 s (k0+7)%n)
 refine⟨n,Dv.isort (a.map fun x=>(x+cell2 s (k0+6)%n)%n),Dv.isort (b.map fun x=>(x+cell2 s (k0+7)%n)%n),false,?_,p2.swap,hn⟩
 simp only[F_Q0Q,b_Q0Q,b_Q0Q_t5,b_Q0Q_t4,b_Q0Q_t3,b_Q0Q_t2,b_Q0Q_t1,Dv.fn,sCons,sSet,keep_int,keep_L,keep_one,Dv.give,sRet,sFor,iRange,eOp,eVar,eInt,eLst,eTup,lNil,lCons,eCall,Dv.all,R.bind,RL.bind,Dv.R.bindL,Dv.RL.bindL,Out.bind,get_sh,get_ow,scal_int,scal_lst,List.map_cons,List.map_nil,List.length_cons,List.length_nil,List.replicate,List.cons_append,List.nil_append,List.getElem?_cons_zero,List.getElem?_cons_succ,List.set_cons_zero,List.set_cons_succ,List.foldl_nil,Bool.and_true,Bool.and_false,if_true,Nat.reduceAdd,Nat.reduceSub,add_ok,Dv.flatL,hr,h6,range_upto,e,ha.get,hb.get,cell2_ok (s:=s) (k:=k0+6) (by omega) (by omega),cell2_ok (s:=s) (k:=k0+7) (by omega) (by omega),mod_ok hnp,ht1,ht2]
structure Mv (n:Int)(m:Nat)(xs:List Int):Prop where
 len:xs.length=m
 nd:xs.Nodup
 rg:∀ x∈xs,0<=x/\x<n
theorem fills_same:F_Q0H=F_Q0G:=rfl
theorem fills_ok {n:Int}{A B:List Int}(n2:n<=60)(h:Fill n A B):F_Q0H [.int n,L A,L B]=.ok (.bl true) true:=by
 rw[fills_same,filled_ok (by have:=h.one.pos; omega) n2,h.tally]
 simp
theorem law32_back {n:Int}{A:List Int}(n2:n<=60)(h:Beat n A){S0 S1 S3 S4 S5 S6:Sl} :
  b_Q0L_t9 [S0,S1,.sh (.int n),S3,S4,S5,S6,.ow (L A),.no]=.ret (.bl true) true:=by
 have e1:=law_first_ok n2 h
 have e2:=law_second_ok n2 h
 cases hf:frB n A with
 | false =>
  rw[hf] at e1
  simp only[b_Q0L_t9,sCons,sIf,sRet,eOr,eNot,eVar,eBl,lNil,lCons,eCall,Dv.all,R.bind,RL.bind,Dv.R.bindL,Dv.RL.bindL,Out.bind,get_no,get_sh,get_ow,scal_int,scal_lst,List.map_cons,List.map_nil,List.getElem?_cons_zero,List.getElem?_cons_succ,Bool.and_true,Bool.and_false,Bool.not_false,e1]
 | true =>
  rw[hf] at e1
  cases hs:seB n A with
  | false =>
   rw[hs] at e2
   simp only[b_Q0L_t9,sCons,sIf,sRet,eOr,eNot,eVar,eBl,lNil,lCons,eCall,Dv.all,R.bind,RL.bind,Dv.R.bindL,Dv.RL.bindL,Out.bind,get_no,get_sh,get_ow,scal_int,scal_lst,List.map_cons,List.map_nil,List.getElem?_cons_zero,List.getElem?_cons_succ,Bool.and_true,Bool.and_false,Bool.not_true,Bool.not_false,e1,e2]
  | true =>
   rw[hs] at e2
   have m:=made_ok n2 h hf hs
   have l:=laid_ok n2 h
   have f:=fills_ok n2 (due_fills n2 h hf hs)
   simp only[b_Q0L_t9,b_Q0L_t10,b_Q0L_t11,sCons,sNil,sSet,keep_L,sIf,sRet,eOr,eAnd,eNot,eVar,lNil,lCons,eCall,Dv.all,R.bind,RL.bind,Dv.R.bindL,Dv.RL.bindL,Out.bind,get_no,get_sh,get_ow,scal_int,scal_lst,List.map_cons,List.map_nil,List.getElem?_cons_zero,List.getElem?_cons_succ,List.set_cons_zero,List.set_cons_succ,Bool.and_true,Bool.and_false,Bool.not_true,decide_true,e1,e2,m,l,f,beat_is_ok]
theorem law32_tail {n:Int}{A:List Int}(n2:n<=60)(h:Beat n A){S0 S1 S4:Sl} :
  b_Q0L_t2 [S0,S1,.sh (.int n),.sh (L A),S4,.no,.no,.no,.no]=.ret (.bl true) true:=by
 have n1:=h.pos
 have e1:=law_first_ok n2 h
 have e2:=law_second_ok n2 h
 cases hf:frB n A with
 | false =>
  rw[hf] at e1
  simp only[b_Q0L_t2,sCons,sIf,sRet,eOr,eNot,eVar,eBl,lNil,lCons,eCall,Dv.all,R.bind,RL.bind,Dv.R.bindL,Dv.RL.bindL,Out.bind,get_no,get_sh,scal_int,scal_lst,List.map_cons,List.map_nil,List.getElem?_cons_zero,List.getElem?_cons_succ,Bool.and_true,Bool.and_false,Bool.not_false,e1]
 | true =>
  rw[hf] at e1
  cases hs:seB n A with
  | false =>
   rw[hs] at e2
   simp only[b_Q0L_t2,sCons,sIf,sRet,eOr,eNot,eVar,eBl,lNil,lCons,eCall,Dv.all,R.bind,RL.bind,Dv.R.bindL,Dv.RL.bindL,Out.bind,get_no,get_sh,scal_int,scal_lst,List.map_cons,List.map_nil,List.getElem?_cons_zero,List.getElem?_cons_succ,Bool.and_true,Bool.and_false,Bool.not_true,Bool.not_false,e1,e2]
  | true =>
   rw[hs] at e2
   have m:=made_ok n2 h hf hs
   have l:=laid_ok n2 h
   have f:=fills_ok n2 (due_fills n2 h hf hs)
   have db:=due_beat (A:=A) n1 n2
   have hx:(due n A).length<Dv.mx:=by have:=db.len; unfold Dv.mx; omega
   have bk:=fun S3 S5 S6=>law32_back (S0:=S0) (S1:=S1) (S3:=S3) (S4:=S4) (S5:=S5) (S6:=S6) n2 db
   generalize due n A=B at m l f db hx bk
   simp only[b_Q0L_t2,b_Q0L_t3,b_Q0L_t4,b_Q0L_t5,b_Q0L_t6,b_Q0L_t7,b_Q0L_t8,sCons,sNil,sSet,keep_L,sIf,sApp,eB1,Dv.listD,eOr,eNot,eCm,eVar,eInt,lNil,lCons,eCall,Dv.all,R.bind,RL.bind,Dv.R.bindL,Dv.RL.bindL,Out.bind,get_no,get_sh,get_ow,scal_int,scal_lst,List.map_cons,List.map_nil,List.getElem?_cons_zero,List.getElem?_cons_succ,List.set_cons_zero,List.set_cons_succ,Bool.or_true,Bool.and_true,Bool.and_false,Bool.not_true,if_true,decide_true,cm_neL,flat_L,List.length_map,e1,e2,m,l,f,beat_is_ok,decide_eq_true hx,bk]
theorem law32_ok {s:List Int}(hl:s.length<=63):F_Q0L [L s]=.ok (.bl true) true:=by
 obtain⟨ds,ed,hdl,hdr⟩:=draws_ok (s:=s) hl (m:=10) (by omega) (by omega)
 have a0:=at_L (s:=ds) (k:=0) (by omega) (by omega)
 generalize ds.getD (0:Int).toNat 0=d0 at a0
 by_cases h1:d0%3=1
 ·obtain⟨n,b,e,hb,n2⟩:=lifted_ok2 (s:=ds) (k0:=1) (by omega) (by omega)
  have en:=law32_tail (S0:=.sh (L s)) (S1:=.sh (L ds)) (S4:=.no) n2 hb
  simp only[b_Q0L,F_Q0L,b_Q0L_t1,Dv.fn,sCons,sSet,keep_L,Dv.give,Dv.open_,give_ow,shared_no,shared_sh,sIf,sUnpackL,Dv.setAll,eIx,Dv.ixD,eCm,eOp,eVar,eInt,lNil,lCons,eCall,Dv.all,R.bind,RL.bind,Dv.R.bindL,Dv.RL.bindL,Out.bind,get_no,get_sh,get_ow,scal_int,scal_lst,List.map_cons,List.map_nil,List.length_cons,List.length_nil,List.replicate,List.cons_append,List.nil_append,List.getElem?_cons_zero,List.getElem?_cons_succ,List.set_cons_zero,List.set_cons_succ,List.foldl_cons,List.foldl_nil,Option.getD_some,Bool.or_true,Bool.and_true,if_true,Nat.reduceAdd,Nat.reduceSub,cm_eqI,ed,a0,mod_ok (j:=3) (by decide),decide_eq_true h1,e,en]
 ·obtain⟨n,a,b,f,e,hf,n2⟩:=pair3_ok (s:=ds) (k0:=1) (by omega) (by omega) (by omega)
  have en:=law32_tail (S0:=.sh (L s)) (S1:=.sh (L ds)) (S4:=.sh (L b)) n2 hf.one
  simp only[b_Q0L,F_Q0L,b_Q0L_t1,Dv.fn,sCons,sSet,keep_L,Dv.give,Dv.open_,give_ow,shared_no,shared_sh,sIf,sUnpack,Dv.setAll,eIx,Dv.ixD,eCm,eOp,eVar,eInt,lNil,lCons,eCall,Dv.all,R.bind,RL.bind,Dv.R.bindL,Dv.RL.bindL,Out.bind,get_no,get_sh,get_ow,scal_int,scal_lst,List.map_cons,List.map_nil,List.length_cons,List.length_nil,List.replicate,List.cons_append,List.nil_append,List.getElem?_cons_zero,List.getElem?_cons_succ,List.set_cons_zero,List.set_cons_succ,List.foldl_cons,List.foldl_nil,Option.getD_some,Bool.or_true,Bool.and_true,if_true,Nat.reduceAdd,Nat.reduceSub,cm_eqI,ed,a0,mod_ok (j:=3) (by decide),decide_eq_false h1,e,en]
end Cw
noncomputable def PySem.W.Fast.tw60038717497620350:PySem.Program:=PySem.Challenge.pw_canonwheel_k32_whole_made_partner
theorem PySem.W.Fast.te60038717497620350:PySem.Challenge.pw_canonwheel_k32_whole_made_partner=PySem.W.Fast.tw60038717497620350:=rfl
def PySem.W.Fast.tw5176134806645607986 : Unit := ()
def PySem.W.Fast.tw9303177352726442022 : Unit := ()
def PySem.W.Fast.tw15386425472768793855 : Unit := ()
open PySem PySem.W PyProof.Rows
set_option maxRecDepth 100000 in
set_option maxHeartbeats 0 in
theorem PySem.Challenge.cw_canonwheel_k32_whole_made_partner_holds : PySem.Challenge.rw_canonwheel_k32_whole_made_partner.Holds := by
 w_on; o_law; k_head; (case hw => w_witness2)
 k_fill
 refine Sd.walkD (l := PySem.Challenge.rw_canonwheel_k32_whole_made_partner) (k := 8) (x := "_law_script") (CX := fun w => Sd.CXe PySem.Challenge.rw_canonwheel_k32_whole_made_partner.prog w) (Fl := Cw.F_Q0L) rfl rfl ⟨rfl,by decide,by decide⟩ (fun w h Y => PySem.W.kIn_of Y) (fun w => Sd.cxe_ok) ?F ?S
 case F =>
  intro w mg fa h KX G hmg
  refine' Lk32.all_mk KX G hmg ?a_Q04 ?l_Q04 ?c_Q04 ?k_Q04 ?a_Q03 ?l_Q03 ?c_Q03 ?k_Q03 ?a_Q02 ?l_Q02 ?c_Q02 ?k_Q02 ?a_Q0Y ?l_Q0Y ?c_Q0Y ?k_Q0Y ?a_Q01 ?l_Q01 ?c_Q01 ?k_Q01 ?a_Q19 ?l_Q19 ?c_Q19 ?k_Q19 ?a_Q17 ?l_Q17 ?c_Q17 ?k_Q17 ?a_Q05 ?l_Q05 ?c_Q05 ?k_Q05 ?a_Q11 ?l_Q11 ?c_Q11 ?k_Q11 ?a_Q0X ?l_Q0X ?c_Q0X ?k_Q0X ?a_Q10 ?l_Q10 ?c_Q10 ?k_Q10 ?a_Q13 ?l_Q13 ?c_Q13 ?k_Q13 ?a_Q07 ?l_Q07 ?c_Q07 ?k_Q07 ?a_Q14 ?l_Q14 ?c_Q14 ?k_Q14 ?a_Q12 ?l_Q12 ?c_Q12 ?k_Q12 ?a_Q06 ?l_Q06 ?c_Q06 ?k_Q06 ?a_Q18 ?l_Q18 ?c_Q18 ?k_Q18 ?a_Q16 ?l_Q16 ?c_Q16 ?k_Q16 ?a_Q15 ?l_Q15 ?c_Q15 ?k_Q15 ?a_Q00 ?l_Q00 ?c_Q00 ?k_Q00 ?a_Q0Z ?l_Q0Z ?c_Q0Z ?k_Q0Z ?a_Q0D ?l_Q0D ?c_Q0D ?k_Q0D ?a_Q0B ?l_Q0B ?c_Q0B ?k_Q0B ?a_Q0W ?l_Q0W ?c_Q0W ?k_Q0W ?a_Q0A ?l_Q0A ?c_Q0A ?k_Q0A ?a_Q0V ?l_Q0V ?c_Q0V ?k_Q0V ?a_Q09 ?l_Q09 ?c_Q09 ?k_Q09 ?a_Q0P ?l_Q0P ?c_Q0P ?k_Q0P ?a_Q0T ?l_Q0T ?c_Q0T ?k_Q0T ?a_Q0J ?l_Q0J ?c_Q0J ?k_Q0J ?a_Q0R ?l_Q0R ?c_Q0R ?k_Q0R ?a_Q0I ?l_Q0I ?c_Q0I ?k_Q0I ?a_Q0U ?l_Q0U ?c_Q0U ?k_Q0U ?a_Q0E ?l_Q0E ?c_Q0E ?k_Q0E ?a_Q0N ?l_Q0N ?c_Q0N ?k_Q0N ?a_Q0M ?l_Q0M ?c_Q0M ?k_Q0M ?a_Q0H ?l_Q0H ?c_Q0H ?k_Q0H ?a_Q08 ?l_Q08 ?c_Q08 ?k_Q08 ?z_len ?z_sorted ?z_list ?z_range ?z_enumerate ?z_all ?z_int ?z_isinstance ?z_bool ?z_zip ?z_max ?z_min ?n_LONGEST ?n_LAST_PART ?a_4 ?x_4 ?g1_4 ?g2_4 ?g3_4 ?v_4 ?y_4 ?a_3 ?x_3 ?g1_3 ?g2_3 ?g3_3 ?v_3 ?y_3 ?a_0 ?x_0 ?g1_0 ?g2_0 ?g3_0 ?v_0 ?y_0 ?a_1 ?x_1 ?g1_1 ?g2_1 ?g3_1 ?v_1 ?y_1 ?a_2 ?x_2 ?g1_2 ?g2_2 ?g3_2 ?v_2 ?y_2 ?s_44 ?s_43 ?s_40 ?s_41 ?s_42 ?s_34 ?s_33 ?s_30 ?s_31 ?s_32 ?s_04 ?s_03 ?s_00 ?s_01 ?s_02 ?s_14 ?s_13 ?s_10 ?s_11 ?s_12 ?s_24 ?s_23 ?s_20 ?s_21 ?s_22
  (case a_Q04 | l_Q04 | c_Q04 | k_Q04 | a_Q03 | l_Q03 | c_Q03 | k_Q03 | a_Q02 | l_Q02 | c_Q02 | k_Q02 | a_Q0Y | l_Q0Y | c_Q0Y | k_Q0Y | a_Q01 | l_Q01 | c_Q01 | k_Q01 | a_Q19 | l_Q19 | c_Q19 | k_Q19 | a_Q17 | l_Q17 | c_Q17 | k_Q17 | a_Q05 | l_Q05 | c_Q05 | k_Q05 | a_Q11 | l_Q11 | c_Q11 | k_Q11 | a_Q0X | l_Q0X | c_Q0X | k_Q0X | a_Q10 | l_Q10 | c_Q10 | k_Q10 | a_Q13 | l_Q13 | c_Q13 | k_Q13 | a_Q07 | l_Q07 | c_Q07 | k_Q07 | a_Q14 | l_Q14 | c_Q14 | k_Q14 | a_Q12 | l_Q12 | c_Q12 | k_Q12 | a_Q06 | l_Q06 | c_Q06 | k_Q06 | a_Q18 | l_Q18 | c_Q18 | k_Q18 | a_Q16 | l_Q16 | c_Q16 | k_Q16 | a_Q15 | l_Q15 | c_Q15 | k_Q15 | a_Q00 | l_Q00 | c_Q00 | k_Q00 | a_Q0Z | l_Q0Z | c_Q0Z | k_Q0Z | a_Q0D | l_Q0D | c_Q0D | k_Q0D | a_Q0B | l_Q0B | c_Q0B | k_Q0B | a_Q0W | l_Q0W | c_Q0W | k_Q0W | a_Q0A | l_Q0A | c_Q0A | k_Q0A | a_Q0V | l_Q0V | c_Q0V | k_Q0V | a_Q09 | l_Q09 | c_Q09 | k_Q09 | a_Q0P | l_Q0P | c_Q0P | k_Q0P | a_Q0T | l_Q0T | c_Q0T | k_Q0T | a_Q0J | l_Q0J | c_Q0J | k_Q0J | a_Q0R | l_Q0R | c_Q0R | k_Q0R | a_Q0I | l_Q0I | c_Q0I | k_Q0I | a_Q0U | l_Q0U | c_Q0U | k_Q0U | a_Q0E | l_Q0E | c_Q0E | k_Q0E | a_Q0N | l_Q0N | c_Q0N | k_Q0N | a_Q0M | l_Q0M | c_Q0M | k_Q0M | a_Q0H | l_Q0H | c_Q0H | k_Q0H | a_Q08 | l_Q08 | c_Q08 | k_Q08 | z_len | z_sorted | z_list | z_range | z_enumerate | z_all | z_int | z_isinstance | z_bool | z_zip | z_max | z_min | n_LONGEST | n_LAST_PART | a_4 => show _ = _; k_is)
  (case x_4 => k_exc)
  (case g1_4 | g2_4 | g3_4 => show _ = _; k_is)
  (case v_4 => show _ = _; kit_is)
  (case y_4 | a_3 => show _ = _; k_is)
  (case x_3 => k_exc)
  (case g1_3 | g2_3 | g3_3 => show _ = _; k_is)
  (case v_3 => show _ = _; kit_is)
  (case y_3 | a_0 => show _ = _; k_is)
  (case x_0 => k_exc)
  (case g1_0 | g2_0 | g3_0 => show _ = _; k_is)
  (case v_0 => show _ = _; kit_is)
  (case y_0 | a_1 => show _ = _; k_is)
  (case x_1 => k_exc)
  (case g1_1 | g2_1 | g3_1 => show _ = _; k_is)
  (case v_1 => show _ = _; kit_is)
  (case y_1 | a_2 => show _ = _; k_is)
  (case x_2 => k_exc)
  (case g1_2 | g2_2 | g3_2 => show _ = _; k_is)
  (case v_2 => show _ = _; kit_is)
  (case y_2 => show _ = _; k_is)
  (case s_44 | s_43 | s_40 | s_41 | s_42 | s_34 | s_33 | s_30 | s_31 | s_32 | s_04 | s_03 | s_00 | s_01 | s_02 | s_14 | s_13 | s_10 | s_11 | s_12 | s_24 | s_23 | s_20 | s_21 | s_22 => show _ = _; kit_is)
 case S => exact fun ns hl _ => Cw.law32_ok hl
