import PyProof.Rows.All
import Wide.All
import OpenK.AllK
import Wide.FinOn
import Lean
import PyProof.EqAt
import PyProof.EqKinds
import PyProof.TupleCall
import KE.BitLaws
import KE.KRevIter
import PyProof.P3In
import PySem.Challenge.RW_canonwheel_k34_no_rule
set_option Elab.async false
set_option compiler.extract_closed false
set_option genSizeOf false
set_option genSizeOfSpec false
set_option bootstrap.genMatcherCode false
set_option linter.all false
set_option maxRecDepth 100000
open List renaming getElem?_cons_zero → yF, getElem?_cons_succ → yG, map_cons → yH, map_nil → yI, length_cons → yJ, set_cons_succ → yK, set_cons_zero → yL, mem_cons_of_mem → yM, cons_append → yO, length_map → yP, mem_cons_self → yR, nil_append → yS, length_nil → yT, foldl_nil → yV, getD_eq_getElem?_getD → yW, foldl_cons → yX, size_toArray → yY, length_append → za, mem_append_right → ze, getElem?_eq_getElem → zf, length_set → zh, getElem?_map → zi, getElem?_eq_none → zj, lookup_cons → zk, replicate_succ → zl, getElem?_set_ne → zp, getElem?_set_self → zq, mem_append_left → zx, append_nil → zz, length_replicate → zA, eq_nil_of_length_eq_zero → zB, filter_cons → zC, length_take → zE, getElem?_append_left → zF, length_drop → zG, all_eq_true → zH, length_filter_le → zI, flatten_cons → zJ, mem_of_getElem? → zN, getElem?_take_of_lt → zO, getElem?_replicate → zP, any_cons → zQ, find?_cons → zR, take_of_length_le → zV, count_eq_zero_of_not_mem → zY, append_assoc → zZ, length_singleton → Aa, ext_getElem? → Ab, map_map → Af, map_id' → Ag, getElem?_append_right → Ai, not_mem_nil → Aj, drop_eq_getElem_cons → Al, exists_mem_of_ne_nil → Am, map_append → An, mem_singleton → Ao, getLast_eq_getElem → Ar, mem_cons → Aw, getLast_mem → Az, of_mem_zip → AC, filterMap_cons → AF, map_congr_left → AG, drop_zero → AH, contains_cons → AL, zip_cons_cons → AM, exists_cons_of_ne_nil → AR, all_cons → AS, getElem_mem → AV, take_length → AW, map_set → AZ, range_succ_eq_map → A2, filter_eq_nil_iff → A3, getElem_of_mem → Bc, getElem?_range → Bd, map_take → Be, map_drop → Bf, sum_cons → Bh, ne_nil_of_mem → Bi, pairwise_cons → Bj, mem_map → Bm, getElem?_set → Bp, foldl_append → Bq, flatMap_cons → Bu, pairwise_map → Bv, getElem_inj → Bw, drop_length → BA, ext_getElem → BE, length_zip → BH, nodup_cons → BI, mem_filter → BK, filter_map → BN, set_set → BR, all_map → BV
open Bool renaming and_eq_true → yN, and_true → yQ, and_false → yZ, or_true → zc, false_or → zm, false_ne_true → zn, or_false → zD, not_true → zM, or_eq_true → zT, eq_iff_iff → zU, true_and → zX, false_and → Ac, false_eq_true → Ap, beq_eq_decide_eq → At, not_false → AK, true_or → Bl
open Option renaming getD_some → yU, map_eq_some_iff → zS, map_some → zW, getD_none → By
open Nat renaming le_refl → y4, ne_of_lt → zb, lt_of_lt_of_le → zg, succ_mul → zw, le_trans → zK, lt_irrefl → zL, mul_comm → Ad, mod_eq_of_lt → Ak, lt_succ_self → Av, div_lt_iff_lt_mul → AA, add_mul_mod_self_right → AN, pow_pos → AO, lt_succ_of_lt → AT, le_of_lt → AX, add_comm → AY, sub_zero → A0, pow_succ → A1, le_mul_of_pos_left → A4, dvd_of_mod_eq_zero → A5, zero_le → A6, log2_lt → A7, mul_le_mul_right → A8, pow_le_pow_right → A9, mod_lt → Bb, mod_eq_sub_mod → Bk, zero_add → Bo, add_div_right → Bs, le_succ → Bz, min_le_left → BG, min_eq_left → BJ, mod_add_div → BM, mul_le_mul → BO, ne_of_gt → BP, le_of_eq → BQ, add_zero → BS, pow_zero → BU
open Int renaming dvd_of_emod_eq_zero → zd, toNat_natCast → zo, emod_eq_zero_of_dvd → zr, mul_le_mul_of_nonneg_left → zt, emod_add_mul_ediv → zu, emod_eq_emod_iff_emod_sub_eq_zero → zy, mul_comm → Ae, fdiv_eq_ediv_of_nonneg → Ah, emod_lt_of_pos → Aq, mul_nonpos_of_nonneg_of_nonpos → As, mul_add → Ax, add_mul → Ay, mul_le_mul_of_nonneg_right → AB, emod_nonneg → AD, natCast_mul → AE, mul_nonneg → AI, mul_lt_mul_of_pos_right → AJ, add_mul_emod_self_left → AQ, emod_eq_of_lt → AU, mul_ediv_cancel' → Ba, mul_assoc → Bg, mul_zero → Bn, mul_left_comm → Br, mul_one → Bx, natCast_succ → BB, one_mul → BC, natCast_zero → BD, neg_mul → BF, natCast_add → BL, emod_one → BT, mul_sub → BW, mul_neg → BX, mul_pos → BY
namespace Au
theorem h1 (h:True:=by first|exact .inl rfl|exact .inr rfl|assumption):True:=h
theorem h2 (h:True:=by decide):True:=h
theorem h3 (h:True:=by intro _; rfl):True:=h
theorem h4 (h:True:=by rfl):True:=h
theorem h5 (h:True:=by intros; rfl):True:=h
theorem h6 (h:True:=by intro _ _ z; cases z):True:=h
theorem h7 (h:True:=by first|exact Or.inl rfl|exact Or.inr (Or.inl rfl)|exact Or.inr (Or.inr rfl)):True:=h
theorem h8 (h:True:=by intro _ _; rfl):True:=h
theorem h9 (h:True:=by with_unfolding_all rfl):True:=h
end Au
namespace L2
open PySem PySem.Spec PyProof.Rows
noncomputable abbrev Key:=Sum Int Str
noncomputable def iN:Key->Value->Bool
 | .inl k,v=>Value.isInt k v
 | .inr x,v=>Value.isStrOf x v
noncomputable def yc (w:World):Key->Int
 | .inl k=>hashInt k
 | .inr x=>hashStr w x
theorem bj:∀ {k:Key} {v:Value},iN k v=true->(∃ i t,k=Sum.inl i/\v=Value.int i t)\/(∃ x t,k=Sum.inr x/\v=Value.str x t)
 | .inl i,v,h=>by
  obtain⟨t,e⟩:=Value.isInt_shape (k:=i) (v:=v) h
  exact .inl ⟨i,t,rfl,e⟩
 | .inr x,v,h=>by
  obtain⟨t,e⟩:=Value.isStrOf_shape (x:=x) (v:=v) h
  exact .inr ⟨x,t,rfl,e⟩
theorem nT (i:Int)(t:Tok):iN (.inl i) (.int i t)=true:=by simp[iN,Value.isInt]
theorem oM (x:Str)(t:Tok):iN (.inr x) (.str x t)=true:=by simp[iN,Value.isStrOf]
theorem vM (a b:Int):decide ((Sum.inl a:Key)=Sum.inl b)=(a == b):=by
 by_cases e:a=b
 ·subst e; simp
 ·have h:¬ (Sum.inl a:Key)=Sum.inl b:=λ q=>e (Sum.inl.inj q)
  rw[decide_eq_false h]
  exact(beq_eq_false_iff_ne.mpr e).symm
theorem v8 (a b:Str):decide ((Sum.inr a:Key)=Sum.inr b)=decide (a=b):=by
 by_cases e:a=b
 ·subst e; simp
 ·have h:¬ (Sum.inr a:Key)=Sum.inr b:=λ q=>e (Sum.inr.inj q)
  rw[decide_eq_false h,decide_eq_false e]
theorem we (a:Int)(b:Str):decide ((Sum.inl a:Key)=Sum.inr b)=false:=decide_eq_false (λ q=>nomatch q)
theorem vA (a:Str)(b:Int):decide ((Sum.inr a:Key)=Sum.inl b)=false:=decide_eq_false (λ q=>nomatch q)
noncomputable def bB (prog:Program)(w:World):PySem.KeyKind prog w Key where
 is:=iN
 hash:=yc w
 inj:=λ v a b ha hb=>by
  rcases bj ha with ⟨i,t,rfl,rfl⟩|⟨x,t,rfl,rfl⟩
  ·rcases bj hb with ⟨j,u,rfl,e⟩|⟨y,u,rfl,e⟩
   ·injection e with e1 _; rw[e1]
   ·exact nomatch e
  ·rcases bj hb with ⟨j,u,rfl,e⟩|⟨y,u,rfl,e⟩
   ·exact nomatch e
   ·injection e with e1 _; rw[e1]
 byValue:=λ k v h=>by
  rcases bj h with ⟨i,t,rfl,rfl⟩|⟨x,t,rfl,rfl⟩ <;>rfl
 pyHash:=λ hv h=>by
  rcases bj hv with ⟨i,t,rfl,rfl⟩|⟨x,t,rfl,rfl⟩
  ·exact wpAny_pyHash_int h
  ·exact wpAny_pyHash_str h
 eqBool:=λ hu hv h=>by
  rcases bj hu with ⟨i,t,rfl,rfl⟩|⟨x,t,rfl,rfl⟩
  ·rcases bj hv with ⟨j,u,rfl,rfl⟩|⟨y,u,rfl,rfl⟩
   ·rw[vM] at h; exact wpAny_eqBool_int h
   ·rw[we] at h; exact SeqAt.EqAt.int_str i t y u _ _ _ _ h
  ·rcases bj hv with ⟨j,u,rfl,rfl⟩|⟨y,u,rfl,rfl⟩
   ·rw[vA] at h; exact SeqAt.EqAt.str_int x t j u _ _ _ _ h
   ·rw[v8] at h; exact wpAny_eqBool_str h
 «strs»:=λ k x t v h=>by
  rcases bj h with ⟨i,u,rfl,e⟩|⟨y,u,rfl,e⟩
  ·exact nomatch e
  ·injection e with e1 _
   subst e1
   cases v <;>rfl
theorem lz (prog:Program)(w:World)(i:Int)(t:Tok):(bB prog w).is (.inl i) (.int i t)=true:=nT i t
theorem lN (prog:Program)(w:World)(x:Str)(t:Tok):(bB prog w).is (.inr x) (.str x t)=true:=oM x t
inductive V where
 | non|bl (b:Bool)|int (i:Int)|str (x:Str)|byt (b:Array UInt8)|flt (b:UInt64)|ref (a:Addr)|ty (n:String)
 deriving DecidableEq
noncomputable def RelV:V->Value->Prop
 | .non,u=>u=Value.none
 | .bl b,u=>u=Value.bool b
 | .int i,u=>∃ t,u=Value.int i t
 | .str x,u=>∃ t,u=Value.str x t
 | .byt b,u=>∃ t,u=Value.bytes b t
 | .flt b,u=>∃ t,u=Value.float b t
 | .ref a,u=>u=Value.ref a
 | .ty n,u=>u=Value.type n
noncomputable abbrev Vals:List V->List Value->Prop:=Paired RelV
theorem Vals.length {xs:List V}{us:List Value}(r:Vals xs us):xs.length=us.length:=Paired.length r
theorem Vals.get:∀ {xs:List V} {us:List Value} {i:Nat} {x:V},Vals xs us->xs[i]?=some x->∃ u,us[i]?=some u/\RelV x u
 | _,_,_,_,.nil,e=>by simp at e
 | _,_,0,_,.cons r _,e=>by simp at e; subst e; exact⟨_,rfl,r⟩
 | _,_,i+1,x,.cons _ t,e=>by
  obtain⟨u,h1,h2⟩:=Vals.get (i:=i) (x:=x) t (by simpa using e)
  exact⟨u,by simpa using h1,h2⟩
theorem Vals.set {x:V}{u:Value}(r:RelV x u):∀ {xs:List V} {us:List Value} (i:Nat),Vals xs us->Vals (xs.set i x) (us.set i u)
 | _,_,_,.nil=>.nil
 | _,_,0,.cons _ t=>.cons r t
 | _,_,i+1,.cons q t=>.cons q (Vals.set r i t)
theorem Vals.append {xs ys:List V}{us ws:List Value}(q:Vals xs us)(s:Vals ys ws):Vals (xs++ys) (us++ws):=by
 induction q with
 | nil=>exact s
 | cons r t ih=>exact .cons r ih
theorem Vals.take:∀ {xs:List V} {us:List Value} (n:Nat),Vals xs us->Vals (xs.take n) (us.take n)
 | _,_,0,_=>.nil
 | _,_,_+1,.nil=>.nil
 | _,_,n+1,.cons r t=>.cons r (Vals.take n t)
theorem Vals.drop:∀ {xs:List V} {us:List Value} (n:Nat),Vals xs us->Vals (xs.drop n) (us.drop n)
 | _,_,0,r=>r
 | _,_,_+1,.nil=>.nil
 | _,_,n+1,.cons _ t=>Vals.drop n t
noncomputable def RelO:Option V->Option Value->Prop
 | some v,some u=>RelV v u
 | none,none=>True
 | _,_=>False
noncomputable def KV {κ:Type}:List (κ × V)->List (κ × Value)->Prop:=Paired λ (p:κ × V) (q:κ × Value)=>p.1=q.1/\RelV p.2 q.2
noncomputable def kV:Key->V
 | .inl i=>.int i
 | .inr x=>.str x
inductive HO where
  | lst (xs:List V)
  | tup (xs:List V)
  | dK (kvs:List (Key × V))|dT (kvs:List (List Key × V))
  | set (S:Int->Bool) (n:Nat)
  | ins (C dx:Addr) (fs:List (Str × V))
  | own (x:Addr)
  | xd (fs:List (Str × V))
  | met (f x:Addr)
  | rng (lo hi:Int)
  | frz (o:Obj) (u:HO)
  | tbl (ps:Array Value)
  | ext (φ:Heap->Prop)
noncomputable abbrev Hp:=Addr->Option HO
noncomputable def upd (H:Hp)(a:Addr)(o:HO):Hp:=λ b=>if b=a then some o else H b
theorem aD {H:Hp}{a:Addr}{o:HO}:upd H a o a=some o:=by unfold upd; rw[if_pos rfl]
theorem ar {H:Hp}{a b:Addr}{o:HO}(h:b≠a):upd H a o b=H b:=by unfold upd; rw[if_neg h]
theorem xw {H:Hp}{a b:Addr}{o u:HO}(h:H a=some o)(h':H b=some u)(d:o≠u):a≠b:=by
 intro e; subst e; rw[h] at h'; exact d (Option.some.inj h')
theorem ax {H:Hp}{a b:Addr}{o:HO}(h:H a=some o)(h':H b=none):a≠b:=by
 intro e; subst e; rw[h] at h'; cases h'
section
variable (P:Program)(w:World)
noncomputable def ObjOk (H:Hp)(h:Heap)(a:Addr):HO->Prop
 | .lst xs=>xs.length<=sizeLine/\∃ (its:List Value) (n:Nat),Vals xs its/\h.get? a=some { cls:=.type "list",data:=.seq its.toArray n }
 | .tup xs=>xs.length<=sizeLine/\∃ its:List Value,Vals xs its/\IsTup h a its.toArray
 | .dK kvs=>kvs.length<=sizeLine/\(a == sysModules)=false/\∃ vs,KV kvs vs/\h.DictOf (bB P w) a vs
 | .dT kvs=>kvs.length<=sizeLine/\(a == sysModules)=false/\∃ xs:List (List Key × Addr × Value),
   Paired (λ (p:List Key × V) (q:List Key × Addr × Value)=>p.1=q.1/\H q.2.1=some (.tup (p.1.map kV))/\RelV p.2 q.2.2) kvs xs /\
   ∃ o es ep,h.get? a=some o/\o.ExactDict/\o.data=.dict es ep/\es.toList=xs.map (entryOfKey (tupleKind (bB P w)))/\(xs.map (·.1)).Nodup
 | .set S n=>h.SetOf (intKind P w) a S n
 | .ins C dx fs=>H dx=some (.own a)/\fs.length<=1000/\dx≠a/\h.get? a=some (PySem.W.instObj C dx) /\
   ∃ mA,h.Ns1 dx mA/\(∀ f,RelO (fs.lookup f) (mA f))/\PySem.Within mA (fs.map (·.1))
 | .own _=>∃ o,h.get? a=some o
 | .xd fs=>∃ mA,h.Ns1 a mA/\∀ f,RelO (fs.lookup f) (mA f)
 | .rng lo hi=>∃ t u v,h.get? a=some { cls:=.type "range",data:=.fields #[.int lo t,.int hi u,.int 1 v] }
 | .frz o u=>h.get? a=some o/\ObjOk H h a u
 | .tbl ps=>h.get? a=some { cls:=.none,data:=.fields ps }
 | .met f x=>h.get? a=some (PySem.W.methodObj (.ref f) (.ref x))
 | .ext φ=>φ h/\(∃ o,h.get? a=some o)/\∀ h1 h2:Heap,φ h1->(∀ o,h1.get? a=some o->h2.get? a=some o)->φ h2
noncomputable def HOk (H:Hp)(h:Heap):Prop:=∀ a o,H a=some o->ObjOk P w H h a o
end
section
variable {P:Program}{w:World}{H H':Hp}{h h':Heap}{a:Addr}{o:HO}
theorem ObjOk.lt (x:ObjOk P w H h a o):a<h.objs.size:=by
 cases o with
 | lst xs=>obtain⟨_,_,_,_,e⟩:=x; exact Heap.lt_size e
 | tup xs=>obtain⟨_,_,_,p⟩:=x; exact p.lt
 | dK kvs=>obtain⟨_,_,_,_,o,_,_,e,_⟩:=x; exact Heap.lt_size e
 | dT kvs=>obtain⟨_,_,_,_,o,_,_,e,_⟩:=x; exact Heap.lt_size e
 | set S n=>obtain⟨o,_,_,_,e,_⟩:=x; exact Heap.lt_size e
 | ins C dx fs=>obtain⟨_,_,_,e,_⟩:=x; exact Heap.lt_size e
 | own y=>obtain⟨_,e⟩:=x; exact Heap.lt_size e
 | xd fs=>obtain⟨_,⟨_,_,_,e,_⟩,_⟩:=x; exact Heap.lt_size e
 | rng lo hi=>obtain⟨_,_,_,e⟩:=x; exact Heap.lt_size e
 | frz ob u=>obtain⟨e,_⟩:=x; exact Heap.lt_size e
 | tbl ps=>exact Heap.lt_size (show h.get? a=some _ from x)
 | met f y=>exact Heap.lt_size (show h.get? a=some _ from x)
 | ext φ=>obtain⟨_,⟨_,e⟩,_⟩:=x; exact Heap.lt_size e
theorem Paired.mapP {α β:Type}{F G:α->β->Prop}{l₁:List α}{l₂:List β}(q:Paired F l₁ l₂)(f:∀ a b,F a b->G a b):Paired G l₁ l₂:=by
 induction q with
 | nil=>exact .nil
 | cons r t ih=>exact .cons (f _ _ r) ih
theorem ObjOk.stay (x:ObjOk P w H h a o)(k:∀ b u,(b=a\/H b=some (.own a))->h.get? b=some u->h'.get? b=some u)
  (ho:∀ b,H b=some (.own a)->H' b=some (.own a)) (ht:∀ b xs,H b=some (.tup xs)->H' b=some (.tup xs)):ObjOk P w H' h' a o:=by
 induction o with
 | lst xs=>obtain⟨z,its,n,r,e⟩:=x; exact⟨z,its,n,r,k _ _ (.inl rfl) e⟩
 | tup xs=>obtain⟨z,its,r,ob,e,c⟩:=x; exact⟨z,its,r,ob,k _ _ (.inl rfl) e,c⟩
 | dK kvs=>obtain⟨z,y,vs,r,ob,es,ep,e,c⟩:=x; exact⟨z,y,vs,r,ob,es,ep,k _ _ (.inl rfl) e,c⟩
 | dT kvs =>
  obtain⟨z,y,xs,r,ob,es,ep,e,c⟩:=x
  exact⟨z,y,xs,Paired.mapP r λ p q z=>⟨z.1,ht _ _ z.2.1,z.2.2⟩,ob,es,ep,k _ _ (.inl rfl) e,c⟩
 | set S n=>obtain⟨ob,es,ep,t,e,c⟩:=x; exact⟨ob,es,ep,t,k _ _ (.inl rfl) e,c⟩
 | ins C dx fs =>
  obtain⟨d,z,ne,e,mA,⟨od,es,ep,e2,c⟩,r⟩:=x
  exact⟨ho _ d,z,ne,k _ _ (.inl rfl) e,mA,⟨od,es,ep,k _ _ (.inr d) e2,c⟩,r⟩
 | own y=>obtain⟨ob,e⟩:=x; exact⟨ob,k _ _ (.inl rfl) e⟩
 | xd fs=>obtain⟨mA,⟨od,es,ep,e,c⟩,r⟩:=x; exact⟨mA,⟨od,es,ep,k _ _ (.inl rfl) e,c⟩,r⟩
 | rng lo hi=>obtain⟨t,u,v,e⟩:=x; exact⟨t,u,v,k _ _ (.inl rfl) e⟩
 | frz ob u ih=>obtain⟨e,q⟩:=x; exact⟨k _ _ (.inl rfl) e,ih q⟩
 | tbl ps =>
  have e:h.get? a=some { cls:=.none,data:=.fields ps }:=x
  show h'.get? a=some { cls:=.none,data:=.fields ps }
  exact k a _ (.inl rfl) e
 | met f y =>
  have e:h.get? a=some (PySem.W.methodObj (.ref f) (.ref y)):=x
  show h'.get? a=some (PySem.W.methodObj (.ref f) (.ref y))
  exact k a _ (.inl rfl) e
 | ext φ=>obtain⟨p,⟨o,e⟩,st⟩:=x; exact⟨st _ _ p λ o q=>k _ _ (.inl rfl) q,⟨o,k _ _ (.inl rfl) e⟩,st⟩
theorem HOk.lt (x:HOk P w H h)(e:H a=some o):a<h.objs.size:=(x a o e).lt
theorem HOk.fresh (x:HOk P w H h)(e:h.objs.size<=a):H a=none:=by
 cases q:H a with
 | none=>rfl
 | some u=>exact absurd (zg (x.lt q) e) (zL _)
theorem HOk.kept (x:HOk P w H h)(k:∀ b u,h.get? b=some u->h'.get? b=some u):HOk P w H h':=λ a o e =>
 (x a o e).stay (λ b u _ q=>k b u q) (λ _ q=>q) λ _ _ q=>q
theorem HOk.laid (x:HOk P w H h)(k:∀ b u,h.get? b=some u->h'.get? b=some u)(hp:h.objs.size<=a)(new:ObjOk P w (upd H a o) h' a o):HOk P w (upd H a o) h':=λ b u e=>by
 have hn:=x.fresh hp
 by_cases hb:b=a
 ·subst hb; rw[aD] at e; cases e; exact new
 ·rw[ar hb] at e
  exact(x b u e).stay (λ c v _ q=>k c v q) (λ c q=>by rw[ar (ax q hn)]; exact q) λ c xs q=>by rw[ar (ax q hn)]; exact q
end
noncomputable def Rd (H:Hp)(a:Addr)(u:HO):Prop:=H a=some u\/∃ o,H a=some (.frz o u)
theorem Rd.ok {P:Program}{w:World}{H:Hp}{h:Heap}{a:Addr}{u:HO}(r:Rd H a u)(x:HOk P w H h):ObjOk P w H h a u:=by
 rcases r with r|⟨o,r⟩
 ·exact x a u r
 ·obtain⟨_,q⟩:=x a _ r
  exact q
noncomputable def Mut:Option HO->Prop
 | some (.lst _)=>True
 | some (.dK _)=>True
 | some (.dT _)=>True
 | some (.set _ _)=>True
 | some (.ins _ _ _)=>True
 | some (.ext _)=>True
 | _=>False
section
variable {P:Program}{w:World}{H:Hp}{h h':Heap}{x e:Addr}{o':HO}
theorem HOk.write (ok:HOk P w H h)(mu:Mut (H x))(he:e=x\/H e=some (.own x))(k:∀ b u,b≠e->h.get? b=some u->h'.get? b=some u)(heo:∃ u,h'.get? e=some u)
  (new:ObjOk P w (upd H x o') h' x o'):HOk P w (upd H x o') h':=λ b u q=>by
 have nown:∀ c y,H c=some (.own y)->c≠x:=λ c y r z=>by subst z; rw[r] at mu; exact mu
 have ntup:∀ c xs,H c=some (.tup xs)->c≠x:=λ c xs r z=>by subst z; rw[r] at mu; exact mu
 by_cases hb:b=x
 ·subst hb; rw[aD] at q; cases q; exact new
 ·rw[ar hb] at q
  by_cases hbe:b=e
  ·have q':H b=some (.own x):=by
    rcases he with z|z
    ·exact absurd (hbe.trans z) hb
    ·rw[hbe]; exact z
   rw[q] at q'; cases q'
   obtain⟨v,hv⟩:=heo
   exact⟨v,by rw[hbe]; exact hv⟩
  ·refine(ok b u q).stay (λ c v hc r=>k c v ?_ r) (λ c r=>by rw[ar (nown c b r)]; exact r) λ c xs r=>by rw[ar (ntup c xs r)]; exact r
   rcases hc with rfl|hc
   ·exact hbe
   ·rintro rfl
    rcases he with z|z
    ·exact nown c b hc z
    ·rw[hc] at z; cases z; exact hb rfl
end
structure Un (fs ex:List Addr)(H H':Hp)(h h':Heap):Prop where
 keep:∀ b o,h.get? b=some o->H b=none->b∉fs->b∉ex->h'.get? b=some o
 slot:∀ b o,h.get? b=some o->H b=none->b∈fs->b∉ex->∃ sl,h'.get? b=some { o with slots:=sl }
 free:∀ b o,h.get? b=some o->H b=none->b∉ex->H' b=none
 there:∀ b o,h.get? b=some o->b∉ex->∃ o',h'.get? b=some o'
 tups:∀ b xs,H b=some (.tup xs)->H' b=some (.tup xs)
 frzs:∀ b o u,H b=some (.frz o u)->H' b=some (.frz o u)
 tbls:∀ b ps,H b=some (.tbl ps)->∃ more,H' b=some (.tbl (ps++more))
section
variable {fs fs' ex ex':List Addr}{H H1 H2:Hp}{h h1 h2 h':Heap}{a x e:Addr}{o:HO}
theorem Un.any (u:Un fs ex H H1 h h1){b:Addr}{ob:Obj}(q:h.get? b=some ob)(n:H b=none)(hx:b∉ex):∃ sl,h1.get? b=some { ob with slots:=sl }:=by
 by_cases hb:b∈fs
 ·exact u.slot b ob q n hb hx
 ·exact⟨ob.slots,u.keep b ob q n hb hx⟩
theorem Un.trans (a:Un fs ex H H1 h h1)(b:Un fs ex H1 H2 h1 h2):Un fs ex H H2 h h2 where
 keep:=λ c ob q n hc hx=>b.keep c ob (a.keep c ob q n hc hx) (a.free c ob q n hx) hc hx
 slot:=λ c ob q n hc hx=>by
  obtain⟨sl,e1⟩:=a.slot c ob q n hc hx
  obtain⟨sl',e2⟩:=b.slot c _ e1 (a.free c ob q n hx) hc hx
  exact⟨sl',e2⟩
 free:=λ c ob q n hx=>by
  obtain⟨o',e1⟩:=a.there c ob q hx
  exact b.free c o' e1 (a.free c ob q n hx) hx
 there:=λ c ob q hx=>by
  obtain⟨o',e1⟩:=a.there c ob q hx
  exact b.there c o' e1 hx
 tups:=λ c xs q=>b.tups c xs (a.tups c xs q)
 frzs:=λ c ob xs q=>b.frzs c ob xs (a.frzs c ob xs q)
 tbls:=λ c ps q=>by
  obtain⟨m1,e1⟩:=a.tbls c ps q
  obtain⟨m2,e2⟩:=b.tbls c _ e1
  exact⟨m1++m2,by rw[e2,Array.append_assoc]⟩
theorem Un.kept (k:∀ b u,h.get? b=some u->h'.get? b=some u):Un fs ex H H h h' :=
 ⟨λ b ob q _ _ _=>k b ob q,λ b ob q _ _ _=>⟨ob.slots,k b ob q⟩,λ _ _ _ n _=>n,λ b ob q _=>⟨ob,k b ob q⟩,λ _ _ q=>q,λ _ _ _ q=>q,λ _ ps q=>⟨#[],by rw[q]; simp⟩⟩
theorem Un.refl:Un fs ex H H h h:=Un.kept λ _ _ q=>q
theorem Un.laid (k:∀ b u,h.get? b=some u->h'.get? b=some u)(hp:h.objs.size<=a)(hn:H a=none):Un fs ex H (upd H a o) h h' where
 keep:=λ b u q _ _ _=>k b u q
 slot:=λ b u q _ _ _=>⟨u.slots,k b u q⟩
 free:=λ b u q n _=>by rw[ar (zb (zg (Heap.lt_size q) hp))]; exact n
 there:=λ b u q _=>⟨u,k b u q⟩
 tups:=λ b xs q=>by rw[ar (ax q hn)]; exact q
 frzs:=λ b u xs q=>by rw[ar (ax q hn)]; exact q
 tbls:=λ b ps q=>⟨#[],by rw[ar (ax q hn),q]; simp⟩
theorem Un.write (mu:Mut (H x))(he:e=x\/H e=some (.own x))(k:∀ b u,b≠e->h.get? b=some u->h'.get? b=some u)(heo:∃ u,h'.get? e=some u):Un fs ex H (upd H x o) h h':=by
 have hx:∀ b,H b=none->b≠x:=λ b n z=>by subst z; rw[n] at mu; exact mu
 have hb:∀ b,H b=none->b≠e:=λ b n z=>by
  subst z
  rcases he with r|r
  ·exact hx b n r
  ·rw[n] at r; cases r
 have hm:∀ b u,H b=some u->¬ Mut (some u)->b≠x:=λ b u q nm z=>by subst z; rw[q] at mu; exact nm mu
 refine⟨λ b u q n _ _=>k b u (hb b n) q,λ b u q n _ _=>⟨u.slots,k b u (hb b n) q⟩,λ b u q n _=>by rw[ar (hx b n)]; exact n,λ b u q _=>?_,
  λ b xs q=>by rw[ar (hm b _ q λ z=>z)]; exact q,λ b u xs q=>by rw[ar (hm b _ q λ z=>z)]; exact q,λ b ps q=>⟨#[],by rw[ar (hm b _ q λ z=>z),q]; simp⟩⟩
 by_cases hbe:b=e
 ·subst hbe; exact heo
 ·exact⟨u,k b u hbe q⟩
end
noncomputable def trk (h:Heap)(H:Hp):List Addr:=(List.range h.objs.size).filter λ a=>(H a).isSome
noncomputable def jR (h:Heap)(H:Hp):Heap:=PySem.W.hideAll h (trk h H)
theorem n8 (h:Heap)(H:Hp):(jR h H).objs.size=h.objs.size:=PySem.W.hideAll_size _ _
theorem tj {h:Heap}{H:Hp}{b:Addr}{o:Obj}(e:h.get? b=some o)(n:H b=none):(jR h H).get? b=some o :=
 PySem.W.hideAll_get _ e λ hm=>by
  have q:(H b).isSome=true:=(List.mem_filter.mp hm).2
  rw[n] at q; simp at q
theorem uo {h:Heap}{H:Hp}{b:Addr}{o:Obj}(e:(jR h H).get? b=some o):h.get? b=some o/\H b=none:=by
 have e':h.get? b=some o:=PySem.W.of_hideAll (trk h H) e
 refine⟨e',?_⟩
 cases q:H b with
 | none=>rfl
 | some x =>
  have hm:b∈trk h H:=List.mem_filter.mpr ⟨List.mem_range.mpr (Heap.lt_size e'),by simp[q]⟩
  have z:(jR h H).get? b=none:=PySem.W.hideAll_none (trk h H) hm
  rw[z] at e; cases e
noncomputable def tT (g h:Heap)(L:Addr):List (Addr × Obj):=(List.range h.objs.size).filterMap λ a=>if a=L\/(g.get? a).isSome=true then none else (h.get? a).map λ o=>(a,o)
noncomputable def rest (g h:Heap)(L d:Addr):List (Addr × Obj):=(tT g h L).filter λ p=>decide (p.1≠d)
structure Mod (K:PySem.W.Frag)(mg:Str->Option Value)(base:Heap):Prop where
 kin:K.In base
 glob:base.Ns mainGlobals mg
 blt:∃ mb,base.Ns builtinsNs mb/\∀ x:Str,x≠"__name__"->mb x=bootBuiltins x
 nolimit:base.NoLimit
/-- the context: a def's body (or a comprehension's block) running. base: fixed through the whole law; s₀,H₀: the entry; outer: the frames whose slots others may change (a def's callers); stack: all frames that run;
   ex: iterators that were made ahead of the entry and are walked here (a comprehension's); fn: the names whose cells were made at the entry (a def: all; a comprehension's block: its own); calm: not within an except suite; pn: pins that every state bears; xe: what is wanted of an exception that leaves the code -/
structure Cx where
 prog:Program
 w:World
 K:PySem.W.Frag
 mg:Str->Option Value
 base:Heap
 A:Around
 N:List Str
 s₀:Shared
 H₀:Hp
 env:Env
 outer:List Env
 stack:List Env
 ex:List Addr
 fn:Str->Bool
 calm:Bool
 pn:List (Addr × Obj)
 xe:Value->Shared->Prop
noncomputable def frs (l:List Env):List Addr:=l.filterMap (·.frame)
noncomputable abbrev Cx.fs (X:Cx):List Addr:=frs X.outer
noncomputable def Vis (sc:Scope)(x:Str):Prop:=sc.names.lookup x=some .local\/sc.names.lookup x=some .cell\/sc.names.lookup x=some .free
noncomputable def Loc (sc:Scope)(x:Str):Prop:=sc.names.lookup x=some .local\/sc.names.lookup x=some .cell
noncomputable def ya (env:Env)(h:Heap)(m:Str->Option Value)(x:Str)(u:Value):Prop :=
 (env.kindOf x=some .local/\m x=some u)\/((env.kindOf x=some .cell\/env.kindOf x=some .free)/\∃ c,env.cells.lookup x=some c/\h.IsCell c (some u))
structure Cx.Ok (X:Cx):Prop where
 mod:Mod X.K X.mg X.base
 kind:X.env.scope.kind=.function
 glob:X.env.globals=mainGlobals
 blt:X.env.builtins=builtinsNs
 above:X.s₀.heap.objs.size<=X.env.locals
 inj:∀ x y c,X.env.cells.lookup x=some c->X.env.cells.lookup y=some c->x=y
 has:∀ x,(X.env.kindOf x=some .cell\/X.env.kindOf x=some .free)->∃ c,X.env.cells.lookup x=some c
 cab:∀ x c,X.fn x=true->X.env.cells.lookup x=some c->X.s₀.heap.objs.size<=c
 hd:X.calm=true->X.A.handled=none
 frames:X.A.frames=some X.stack
 stk:X.stack=X.outer\/(X.stack=X.env::X.outer/\X.env.frame=some X.env.locals)
 exf:∀ b∈X.ex,b≠X.env.locals/\∀ x c,X.env.cells.lookup x=some c->c≠b
 bs:∀ b o,X.base.get? b=some o->X.s₀.heap.get? b=some o/\X.H₀ b=none
 bsz:X.base.objs.size<=X.s₀.heap.objs.size
 noex:∀ b o,X.base.get? b=some o->b∉X.ex
 exfs:∀ b∈X.ex,b∉X.fs
 funs:X.s₀.heap.FunFrames X.base X.outer
 frf:∀ b∈X.fs,X.H₀ b=none
structure Inv (X:Cx)(pins:List (Addr × Obj))(σ:List (Option V))(H:Hp)(s:Shared):Prop where
 ok:X.Ok
 os:s.os=X.s₀.os
 bare:AllBare s.gens
 base:Un X.fs X.ex X.H₀ H X.s₀.heap s.heap
 loc:∃ m,s.heap.Ns X.env.locals m/\∀ (i:Nat) (x:Str) (v:V),X.N[i]?=some x->σ[i]?=some (some v)->Vis X.env.scope x->∃ u,RelV v u/\ya X.env s.heap m x u
 cell:∀ x c,X.env.cells.lookup x=some c->∃ v,s.heap.IsCell c v
 free:H X.env.locals=none
 freeC:∀ x c,X.env.cells.lookup x=some c->H c=none
 pin:∀ p∈X.pn++pins,s.heap.get? p.1=some p.2/\H p.1=none/\p.1≠X.env.locals/\p.1∉X.fs/\∀ v,p.2.data≠.cell v
 hok:HOk X.prog X.w H s.heap
 len:σ.length=X.N.length
section
variable {X:Cx}{pins:List (Addr × Obj)}{σ:List (Option V)}{H H':Hp}{s:Shared}{h':Heap}
theorem Cx.Ok.nofr (ok:X.Ok){b:Addr}{o:Obj}(e:X.base.get? b=some o):b∉X.fs:=λ hb=>by
 have:=(ok.funs.mem hb).1
 rw[e] at this; cases this
theorem Inv.bs (I:Inv X pins σ H s):∀ b o,X.base.get? b=some o->s.heap.get? b=some o/\H b=none:=λ b o e =>
 ⟨I.base.keep b o (I.ok.bs b o e).1 (I.ok.bs b o e).2 (I.ok.nofr e) (I.ok.noex b o e),I.base.free b o (I.ok.bs b o e).1 (I.ok.bs b o e).2 (I.ok.noex b o e)⟩
theorem Inv.bk (I:Inv X pins σ H s):∀ b o,X.base.get? b=some o->s.heap.get? b=some o:=λ b o e=>(I.bs b o e).1
theorem Inv.mod (I:Inv X pins σ H s):Mod X.K X.mg X.base:=I.ok.mod
theorem Inv.kIn (I:Inv X pins σ H s):X.K.In s.heap:=I.ok.mod.kin.keeps I.bk
theorem Inv.lt (I:Inv X pins σ H s):X.env.locals<s.heap.objs.size:=let ⟨_,hn,_⟩:=I.loc; hn.lt
theorem Inv.sz (I:Inv X pins σ H s):X.s₀.heap.objs.size<=s.heap.objs.size:=zK I.ok.above (AX I.lt)
theorem Inv.nofs (I:Inv X pins σ H s){a:Addr}(h:s.heap.objs.size<=a):a∉X.fs:=λ hb=>by
 obtain⟨_,o,ho,_⟩:=I.ok.funs.mem hb
 exact absurd (zg (Heap.lt_size ho) (zK I.sz h)) (zL _)
theorem Inv.cne (I:Inv X pins σ H s):∀ x c,X.env.cells.lookup x=some c->c≠X.env.locals:=λ x c e z=>by
 obtain⟨v,o,ho,hd⟩:=I.cell x c e
 obtain⟨m,⟨o',es,ep,ho',hd',_⟩,_⟩:=I.loc
 rw[z,ho'] at ho; cases ho; rw[hd'] at hd; cases hd
theorem Inv.funs (I:Inv X pins σ H s):s.heap.FunFrames X.base X.outer:=by
 have all:∀ (l:List Env),(∀ b∈frs l,b∈X.fs)->X.s₀.heap.FunFrames X.base l->s.heap.FunFrames X.base l:=by
  intro l
  induction l with
  | nil=>intro _ _; trivial
  | cons env r ih =>
   intro hs hl
   obtain⟨hk,⟨L,o,hf,hn,ho,hd⟩,hr⟩:=hl
   have hL:L∈X.fs:=hs L (by unfold frs; rw[AF,hf]; exact yR)
   obtain⟨sl,e⟩:=I.base.slot L o ho (I.ok.frf L hL) hL λ z=>I.ok.exfs L z hL
   exact⟨hk,⟨L,_,hf,hn,e,hd⟩,ih (λ b hb=>hs b (by unfold frs; rw[AF,hf]; exact yM _ hb)) hr⟩
 exact all X.outer (λ _ hb=>hb) I.ok.funs
theorem Inv.stack (I:Inv X pins σ H s):s.heap.FunFrames X.base X.stack:=by
 rcases I.ok.stk with e|⟨e,hf⟩
 ·rw[e]; exact I.funs
 ·rw[e]
  obtain⟨m,hn,_⟩:=I.loc
  refine .cons (by rw[I.ok.kind]; decide) hf hn ?_ I.funs
  exact Heap.get?_none_of_le (zK I.ok.bsz I.ok.above)
theorem Inv.stkSub (I:Inv X pins σ H s):∀ b∈frs X.stack,b∈X.env.locals::X.fs:=λ b hb=>by
 rcases I.ok.stk with e|⟨e,hf⟩
 ·rw[e] at hb; exact yM _ hb
 ·rw[e] at hb
  unfold frs at hb
  rw[AF,hf] at hb
  exact hb
theorem Inv.stkFree (I:Inv X pins σ H s):∀ b∈frs X.stack,H b=none:=λ b hb=>by
 rcases List.mem_cons.mp (I.stkSub b hb) with e|hb
 ·rw[e]; exact I.free
 ·obtain⟨_,o,ho,_⟩:=I.ok.funs.mem hb
  exact I.base.free b o ho (I.ok.frf b hb) λ z=>I.ok.exfs b z hb
theorem Inv.step {g':Array GenState}{t':Nat}{d':Drawn}{ch:List Addr}(I:Inv X pins σ H s)
  (hch:∀ b∈ch,(b∈X.ex\/X.s₀.heap.objs.size<=b)/\b≠X.env.locals/\(∀ x c,X.env.cells.lookup x=some c->c≠b)/\∀ p∈X.pn++pins,p.1≠b)
  (keep:∀ b o,b≠X.env.locals->b∉X.fs->b∉ch->s.heap.get? b=some o->H b=none->h'.get? b=some o)
  (slot:∀ b o,b≠X.env.locals->b∈X.fs->b∉ch->s.heap.get? b=some o->H b=none->∃ sl,h'.get? b=some { o with slots:=sl }) (free:∀ b o,b∉ch->s.heap.get? b=some o->H b=none->H' b=none)
  (there:∀ b o,b∉ch->s.heap.get? b=some o->∃ o',h'.get? b=some o')
  (tups:∀ b xs,H b=some (.tup xs)->H' b=some (.tup xs)) (frzs:∀ b o u,H b=some (.frz o u)->H' b=some (.frz o u)) (tbls:∀ b ps,H b=some (.tbl ps)->∃ more,H' b=some (.tbl (ps++more)))
  (ns:∀ m,s.heap.Ns X.env.locals m->h'.Ns X.env.locals m) (hok:HOk X.prog X.w H' h') (hg:AllBare g') :
  Inv X pins σ H' { s with heap:=h',gens:=g',drawn:=d',toks:=t' }:=by
 have neL:∀ b o,X.s₀.heap.get? b=some o->b≠X.env.locals:=λ b o e=>zb (zg (Heap.lt_size e) I.ok.above)
 have neC:∀ b o,X.s₀.heap.get? b=some o->b∉X.ex->b∉ch:=λ b o e hx hb=>by
  rcases (hch b hb).1 with z|z
  ·exact hx z
  ·exact absurd (zg (Heap.lt_size e) z) (zL _)
 have cellK:∀ x c,X.env.cells.lookup x=some c->∀ v,s.heap.IsCell c v->h'.IsCell c v:=λ x c e v ⟨o,ho,hd⟩=>by
  have nch:c∉ch:=λ z=>(hch c z).2.2.1 x c e rfl
  by_cases hc:c∈X.fs
  ·obtain⟨sl,q⟩:=slot c o (I.cne x c e) hc nch ho (I.freeC x c e)
   exact⟨_,q,hd⟩
  ·exact⟨o,keep c o (I.cne x c e) hc nch ho (I.freeC x c e),hd⟩
 refine⟨I.ok,I.os,hg,⟨λ b o e n hb hx=>?_,λ b o e n hb hx=>?_,λ b o e n hx=>?_,λ b o e hx=>?_,λ b xs e=>tups b xs (I.base.tups b xs e),λ b o xs e=>frzs b o xs (I.base.frzs b o xs e),λ b ps e=>?_⟩,?_,λ x c e=>?_,?_,λ x c e=>?_,λ p hp=>?_,hok,I.len⟩
 ·exact keep b o (neL b o e) hb (neC b o e hx) (I.base.keep b o e n hb hx) (I.base.free b o e n hx)
 ·obtain⟨sl,e1⟩:=I.base.slot b o e n hb hx
  obtain⟨sl',e2⟩:=slot b _ (neL b o e) hb (neC b o e hx) e1 (I.base.free b o e n hx)
  exact⟨sl',e2⟩
 ·obtain⟨o',e1⟩:=I.base.there b o e hx
  exact free b o' (neC b o e hx) e1 (I.base.free b o e n hx)
 ·obtain⟨o',e1⟩:=I.base.there b o e hx
  exact there b o' (neC b o e hx) e1
 ·obtain⟨m1,e1⟩:=I.base.tbls b ps e
  obtain⟨m2,e2⟩:=tbls b _ e1
  exact⟨m1++m2,by rw[e2,Array.append_assoc]⟩
 ·obtain⟨m,hn,hl⟩:=I.loc
  refine⟨m,ns m hn,λ i x v e1 e2 e3=>?_⟩
  obtain⟨u,r,l⟩:=hl i x v e1 e2 e3
  refine⟨u,r,?_⟩
  rcases l with l|⟨k,c,e,z⟩
  ·exact .inl l
  ·exact .inr ⟨k,c,e,cellK x c e _ z⟩
 ·obtain⟨v,z⟩:=I.cell x c e
  exact⟨v,cellK x c e v z⟩
 ·obtain⟨m,⟨o,_,_,ho,_⟩,_⟩:=I.loc
  exact free _ o (λ z=>(hch _ z).2.1 rfl) ho I.free
 ·obtain⟨v,o,ho,hd⟩:=I.cell x c e
  exact free c o (λ z=>(hch c z).2.2.1 x c e rfl) ho (I.freeC x c e)
 ·obtain⟨e,n,ne,nf,d⟩:=I.pin p hp
  have nch:p.1∉ch:=λ z=>(hch p.1 z).2.2.2 p hp rfl
  exact⟨keep p.1 p.2 ne nf nch e n,free p.1 p.2 nch e n,ne,nf,d⟩
theorem Inv.un {t':Nat}(I:Inv X pins σ H s)(u:Un X.fs [] H H' s.heap h')(hok:HOk X.prog X.w H' h'):Inv X pins σ H' { s with heap:=h',toks:=t' }:=by
 obtain⟨m,⟨o,es,ep,ho,r⟩,_⟩:=id I.loc
 obtain⟨sl,hL⟩:=u.any ho I.free (by simp)
 exact I.step (g':=s.gens) (d':=s.drawn) (ch:=[]) (λ _ z=>nomatch z) (λ b o _ hb _ e n=>u.keep b o e n hb (by simp)) (λ b o _ hb _ e n=>u.slot b o e n hb (by simp)) (λ b o _ e n=>u.free b o e n (by simp)) (λ b o _ e=>u.there b o e (by simp)) u.tups u.frzs u.tbls (λ m' hm=>by
  obtain⟨o',es',ep',ho',r'⟩:=hm
  rw[ho] at ho'; cases ho'
  exact⟨_,es',ep',hL,r'⟩) hok I.bare
theorem Inv.call {g':Array GenState}{t':Nat}{d':Drawn}{ch:List Addr}(I:Inv X pins σ H s)(u:Un (frs X.stack) ch H H' s.heap h')(hok:HOk X.prog X.w H' h')(hg:AllBare g')
  (hch:∀ b∈ch,(b∈X.ex\/X.s₀.heap.objs.size<=b)/\b≠X.env.locals/\(∀ x c,X.env.cells.lookup x=some c->c≠b)/\∀ p∈X.pn++pins,p.1≠b) :
  Inv X pins σ H' { s with heap:=h',gens:=g',drawn:=d',toks:=t' }:=by
 obtain⟨m,⟨o,es,ep,ho,r⟩,_⟩:=id I.loc
 obtain⟨sl,hL⟩:=u.any ho I.free λ z=>(hch _ z).2.1 rfl
 exact I.step (ch:=ch) hch (λ b o hL hb hc e n=>u.keep b o e n (λ z=>(List.mem_cons.mp (I.stkSub b z)).elim hL hb) hc) (λ b o _ _ hc e n=>u.any e n hc) (λ b o hc e n=>u.free b o e n hc) (λ b o hc e=>u.there b o e hc) u.tups u.frzs u.tbls (λ m' hm=>by
  obtain⟨o',es',ep',ho',r'⟩:=hm
  rw[ho] at ho'; cases ho'
  exact⟨_,es',ep',hL,r'⟩) hok hg
theorem Inv.turned {t':Nat}{it:Addr}(I:Inv X pins σ H s)(k:∀ b o,b≠it->s.heap.get? b=some o->h'.get? b=some o)(hn:H it=none)(hL:it≠X.env.locals)
  (h1:it∈X.ex\/X.s₀.heap.objs.size<=it) (h2:∀ x c,X.env.cells.lookup x=some c->c≠it) (h3:∀ p∈X.pn++pins,p.1≠it):Inv X pins σ H { s with heap:=h',toks:=t' }:=by
 have nit:∀ b u,H b=some u->b≠it:=λ b u e z=>by rw[z,hn] at e; cases e
 refine I.step (g':=s.gens) (d':=s.drawn) (ch:=[it]) (λ b hb=>?_) (λ b o _ _ hc e _=>k b o (λ z=>hc (by simp[z])) e) (λ b o _ _ hc e _=>⟨o.slots,k b o (λ z=>hc (by simp[z])) e⟩) (λ _ _ _ _ n=>n)
  (λ b o hc e=>⟨o,k b o (λ z=>hc (by simp[z])) e⟩) (λ _ _ e=>e) (λ _ _ _ e=>e) (λ b ps e=>⟨#[],by rw[e]; simp⟩) (λ m hm=>?_) (λ b u e=>?_) I.bare
 ·have e:b=it:=by simpa using hb
  subst e
  exact⟨h1,hL,h2,h3⟩
 ·obtain⟨o,es,ep,ho,r⟩:=hm
  exact⟨o,es,ep,k _ o (Ne.symm hL) ho,r⟩
 ·refine(I.hok b u e).stay (λ c v hc q=>k c v ?_ q) (λ _ q=>q) λ _ _ q=>q
  rcases hc with z|z
  ·rw[z]; exact nit b u e
  ·exact nit c _ z
theorem Inv.tok (I:Inv X pins σ H s)(t:Nat):Inv X pins σ H { s with toks:=t }:=I.un (h':=s.heap) (t':=t) Un.refl I.hok
theorem Inv.kept {t':Nat}(I:Inv X pins σ H s)(k:∀ b u,s.heap.get? b=some u->h'.get? b=some u):Inv X pins σ H { s with heap:=h',toks:=t' }:=I.un (Un.kept k) (I.hok.kept k)
theorem Inv.laid {a:Addr}{o:HO}{t':Nat}(I:Inv X pins σ H s)(k:∀ b u,s.heap.get? b=some u->h'.get? b=some u)(hp:s.heap.objs.size<=a)(new:ObjOk X.prog X.w (upd H a o) h' a o) :
  Inv X pins σ (upd H a o) { s with heap:=h',toks:=t' }:=I.un (Un.laid k hp (I.hok.fresh hp)) (I.hok.laid k hp new)
theorem Inv.write {x e:Addr}{o:HO}{t':Nat}(I:Inv X pins σ H s)(mu:Mut (H x))(he:e=x\/H e=some (.own x))(k:∀ b u,b≠e->s.heap.get? b=some u->h'.get? b=some u)(heo:∃ u,h'.get? e=some u)
  (new:ObjOk X.prog X.w (upd H x o) h' x o):Inv X pins σ (upd H x o) { s with heap:=h',toks:=t' }:=I.un (Un.write mu he k heo) (I.hok.write mu he k heo new)
theorem Inv.pins_of {pins':List (Addr × Obj)}(I:Inv X pins σ H s)(h:∀ p∈pins',s.heap.get? p.1=some p.2/\H p.1=none/\p.1≠X.env.locals/\p.1∉X.fs/\∀ v,p.2.data≠.cell v):Inv X pins' σ H s :=
 ⟨I.ok,I.os,I.bare,I.base,I.loc,I.cell,I.free,I.freeC,λ p hp=>(List.mem_append.mp hp).elim (λ z=>I.pin p (zx _ z)) (h p),I.hok,I.len⟩
theorem lq {N:List Str}(hN:N.Nodup){i j:Nat}{x:Str}(a:N[i]?=some x)(b:N[j]?=some x):i=j:=by
 obtain⟨h1,e1⟩:=List.getElem?_eq_some_iff.mp a
 obtain⟨h2,e2⟩:=List.getElem?_eq_some_iff.mp b
 exact(Bw hN).mp (e1.trans e2.symm)
theorem fX {M:Model}{A:Around}{E:Value->Shared->Prop}{i:Nat}{x:Str}{v:V}{u:Value}{Q:Unit->Shared->Prop}(I:Inv X pins σ H s)(hN:X.N.Nodup)(hi:X.N[i]?=some x)(hx:Loc X.env.scope x)(r:RelV v u)
  (h:∀ s',Inv X pins (σ.set i (some v)) H s'->(∃ a,Heap.SameBut a s.heap s'.heap/\(a=X.env.locals\/X.env.cells.lookup x=some a))->Q () s') (hf:autoParam (X.fn x=true\/X.env.scope.names.lookup x=some .local) Au.h1._auto_1):wpAny M A (storeName X.env x u) Q E s:=by
 obtain⟨m,hn,hl⟩:=id I.loc
 have hcls:(X.env.scope.kind == .class || (X.env.scope.kind == .module&&X.env.locals != X.env.globals))=false:=by rw[I.ok.kind]; rfl
 have hiσ:i<σ.length:=by rw[I.len]; exact(List.getElem?_eq_some_iff.mp hi).1
 have cne:=I.cne
 have tracked:∀ {a:Addr} {h':Heap},(∃ o,s.heap.get? a=some o/\H a=none)->Heap.SameBut a s.heap h'->HOk X.prog X.w H h':=λ {a h'} ha hs b ob e=>by
  obtain⟨_,_,hfree⟩:=ha
  refine(I.hok b ob e).stay (λ c w' hc q=>(hs.2 c ?_).trans q) (λ _ q=>q) λ _ _ q=>q
  rintro rfl
  rcases hc with rfl|hc
  ·rw[hfree] at e; cases e
  ·rw[hfree] at hc; cases hc
 rcases hx with hk|hk
 ·refine wpAny_storeName_local hk hn (λ h' hn' hs=>?_) hcls
  obtain⟨oL,_,_,hoL,_⟩:=id hn
  refine h _ ⟨I.ok,I.os,I.bare,⟨λ b o e n hb hx=>?_,λ b o e n hb hx=>?_,I.base.free,λ b o e hx=>?_,I.base.tups,I.base.frzs,I.base.tbls⟩,⟨_,hn',λ j y v' e1 e2 e3=>?_⟩,λ y c e=>?_,I.free,I.freeC,λ p hp=>?_,tracked ⟨oL,hoL,I.free⟩ hs,by simpa using I.len⟩ ⟨_,hs,.inl rfl⟩
  ·exact(hs.2 b (zb (zg (Heap.lt_size e) I.ok.above))).trans (I.base.keep b o e n hb hx)
  ·obtain⟨sl,e1⟩:=I.base.slot b o e n hb hx
   exact⟨sl,(hs.2 b (zb (zg (Heap.lt_size e) I.ok.above))).trans e1⟩
  ·obtain⟨o',e1⟩:=I.base.there b o e hx
   exact⟨o',(hs.2 b (zb (zg (Heap.lt_size e) I.ok.above))).trans e1⟩
  ·by_cases hj:j=i
   ·subst hj
    rw[hi] at e1; cases e1
    rw[zq hiσ] at e2
    cases e2
    exact⟨u,r,.inl ⟨hk,by simp⟩⟩
   ·rw[zp (Ne.symm hj)] at e2
    obtain⟨u',r',q⟩:=hl j y v' e1 e2 e3
    refine⟨u',r',?_⟩
    rcases q with ⟨k,e⟩|⟨k,c,e,z⟩
    ·refine .inl ⟨k,?_⟩
     have:y≠x:=λ e=>hj (lq hN e1 (e▸hi))
     simp[this,e]
    ·exact .inr ⟨k,c,e,z.sameBut hs (cne y c e)⟩
  ·obtain⟨w',z⟩:=I.cell y c e
   exact⟨w',z.sameBut hs (cne y c e)⟩
  ·obtain⟨e,n,ne,nf,d⟩:=I.pin p hp
   exact⟨(hs.2 p.1 ne).trans e,n,ne,nf,d⟩
 ·have hfn:X.fn x=true:=by
   rcases hf with z|z
   ·exact z
   ·rw[z] at hk; cases hk
  obtain⟨c,hc⟩:=I.ok.has x (.inl hk)
  obtain⟨w',z⟩:=I.cell x c hc
  refine wpAny_storeName_cell I.ok.kind hk hc z (λ h' hc' hs=>?_)
  obtain⟨oc,hoc,hocd⟩:=id z
  refine h { s with heap:=h' } ⟨I.ok,I.os,I.bare,⟨λ b o e n hb hx=>?_,λ b o e n hb hx=>?_,I.base.free,λ b o e hx=>?_,I.base.tups,I.base.frzs,I.base.tbls⟩,⟨m,hn.sameBut hs (Ne.symm (cne x c hc)),λ j y v' e1 e2 e3=>?_⟩,λ y c' e=>?_,I.free,I.freeC,λ p hp=>?_,tracked ⟨oc,hoc,I.freeC x c hc⟩ hs,by simpa using I.len⟩ ⟨c,hs,.inr hc⟩
  ·exact(hs.2 b (zb (zg (Heap.lt_size e) (I.ok.cab x c hfn hc)))).trans (I.base.keep b o e n hb hx)
  ·obtain⟨sl,e1⟩:=I.base.slot b o e n hb hx
   exact⟨sl,(hs.2 b (zb (zg (Heap.lt_size e) (I.ok.cab x c hfn hc)))).trans e1⟩
  ·obtain⟨o',e1⟩:=I.base.there b o e hx
   exact⟨o',(hs.2 b (zb (zg (Heap.lt_size e) (I.ok.cab x c hfn hc)))).trans e1⟩
  ·by_cases hj:j=i
   ·subst hj
    rw[hi] at e1; cases e1
    rw[zq hiσ] at e2
    cases e2
    exact⟨u,r,.inr ⟨.inl hk,c,hc,hc'⟩⟩
   ·rw[zp (Ne.symm hj)] at e2
    obtain⟨u',r',q⟩:=hl j y v' e1 e2 e3
    refine⟨u',r',?_⟩
    rcases q with q|⟨k,c',e,z'⟩
    ·exact .inl q
    ·refine .inr ⟨k,c',e,z'.sameBut hs ?_⟩
     rintro rfl
     exact hj (lq hN e1 (I.ok.inj _ _ _ e hc▸hi))
  ·by_cases hcc:c'=c
   ·subst hcc; exact⟨_,hc'⟩
   ·obtain⟨w2,z2⟩:=I.cell y c' e
    exact⟨w2,z2.sameBut hs hcc⟩
  ·obtain⟨e,n,ne,nf,d⟩:=I.pin p hp
   refine⟨(hs.2 p.1 ?_).trans e,n,ne,nf,d⟩
   intro q
   rw[q,hoc] at e
   have q':oc=p.2:=Option.some.inj e
   exact d w' (by rw[<- q']; exact hocd)
theorem cY {M:Model}{A:Around}{E:Value->Shared->Prop}{i:Nat}{x:Str}{v:V}{u:Value}{Q:Unit->Shared->Prop}(I:Inv X pins σ H s)(hN:X.N.Nodup)(hi:X.N[i]?=some x)(hx:Loc X.env.scope x)(r:RelV v u)
  (h:∀ s',Inv X pins (σ.set i (some v)) H s'->Q () s') (hf:autoParam (X.fn x=true\/X.env.scope.names.lookup x=some .local) Au.h1._auto_1):wpAny M A (storeName X.env x u) Q E s :=
 fX I hN hi hx r (λ s' I' _=>h s' I') hf
theorem Inv.call' {s':Shared}{ch:List Addr}(I:Inv X pins σ H s)(ho:s'.os=s.os)(u:Un (frs X.stack) ch H H' s.heap s'.heap)(hok:HOk X.prog X.w H' s'.heap)(hg:AllBare s'.gens)
  (hch:∀ b∈ch,(b∈X.ex\/X.s₀.heap.objs.size<=b)/\b≠X.env.locals/\(∀ x c,X.env.cells.lookup x=some c->c≠b)/\∀ p∈X.pn++pins,p.1≠b):Inv X pins σ H' s':=by
 obtain⟨h',g',d',t',o'⟩:=s'
 have e:o'=s.os:=ho
 subst e
 exact I.call (g':=g') (t':=t') (d':=d') u hok hg hch
end
noncomputable abbrev XK:=Value->Option Addr->Hp->Prop
noncomputable abbrev St:=List (Option V)
noncomputable abbrev VK:=V->Hp->Prop
noncomputable abbrev TE:=St->Hp->VK->Prop
noncomputable abbrev TT:=St->Hp->(Bool->Hp->Prop)->Prop
noncomputable abbrev TA:=St->Hp->(List V->Hp->Prop)->Prop
structure Ends where
 nx:St->Hp->Prop
 rt:VK
 bk:St->Hp->Prop:=λ _ _=>False
 ct:St->Hp->Prop:=λ _ _=>False
noncomputable abbrev TS:=Ends->St->Hp->Prop
noncomputable def EP (X:Cx)(pins:List (Addr × Obj))(σ:St)(Q:VK)(u:Value)(s':Shared):Prop:=∃ v H',Inv X pins σ H' s'/\RelV v u/\Q v H'
noncomputable def TP (X:Cx)(pins:List (Addr × Obj))(σ:St)(Q:Bool->Hp->Prop)(b:Bool)(s':Shared):Prop:=∃ H',Inv X pins σ H' s'/\Q b H'
noncomputable def AP (X:Cx)(pins:List (Addr × Obj))(σ:St)(Q:List V->Hp->Prop)(us:List Value)(s':Shared):Prop:=∃ vs H',Inv X pins σ H' s'/\Vals vs us/\Q vs H'
noncomputable def SP (X:Cx)(pins:List (Addr × Obj))(D:Ends)(f:Flow)(s':Shared):Prop :=
 match f with
 | .next=>∃ σ' H',Inv X pins σ' H' s'/\D.nx σ' H'
 | .brk=>∃ σ' H',Inv X pins σ' H' s'/\D.bk σ' H'
 | .cont=>∃ σ' H',Inv X pins σ' H' s'/\D.ct σ' H'
 | .ret u=>∃ v σ' H',Inv X pins σ' H' s'/\RelV v u/\D.rt v H'
noncomputable def PE (X:Cx)(e:Expr)(t:TE):Prop :=
 ∀ (pins:List (Addr × Obj)) (s:Shared) (σ:St) (H:Hp) (Q:VK),Inv X pins σ H s->t σ H Q->wpAny (model X.prog X.w) X.A (eval e X.env) (EP X pins σ Q) X.xe s
noncomputable def PT (X:Cx)(e:Expr)(t:TT):Prop :=
 ∀ (pins:List (Addr × Obj)) (s:Shared) (σ:St) (H:Hp) (Q:Bool->Hp->Prop),Inv X pins σ H s->t σ H Q->wpAny (model X.prog X.w) X.A (isTrue e X.env (eval e X.env)) (TP X pins σ Q) X.xe s
noncomputable def PW (X:Cx)(e:Expr)(t:TT):Prop :=
 ∀ (whole:Sem Value) (pins:List (Addr × Obj)) (s:Shared) (σ:St) (H:Hp) (Q:Bool->Hp->Prop),Inv X pins σ H s->t σ H Q->wpAny (model X.prog X.w) X.A (isTrue e X.env whole) (TP X pins σ Q) X.xe s
theorem PW.pt {X:Cx}{e:Expr}{t:TT}(h:PW X e t):PT X e t:=h _
noncomputable def PA (X:Cx)(es:List Expr)(t:TA):Prop :=
 ∀ (pos:Pos) (pins:List (Addr × Obj)) (s:Shared) (σ:St) (H:Hp) (Q:List V->Hp->Prop),Inv X pins σ H s->t σ H Q->wpAny (model X.prog X.w) X.A (spliced (backTo pos (starEach es X.env))) (AP X pins σ Q) X.xe s
noncomputable def PS (X:Cx)(st:Stmt)(t:TS):Prop :=
 ∀ (pins:List (Addr × Obj)) (s:Shared) (σ:St) (H:Hp) (D:Ends),Inv X pins σ H s->t D σ H->wpAny (model X.prog X.w) X.A (exec st X.env) (SP X pins D) X.xe s
noncomputable def PSs (X:Cx)(st:List Stmt)(t:TS):Prop :=
 ∀ (pins:List (Addr × Obj)) (s:Shared) (σ:St) (H:Hp) (D:Ends),Inv X pins σ H s->t D σ H->wpAny (model X.prog X.w) X.A (execs st X.env) (SP X pins D) X.xe s
theorem thn {α:Type}{t:Sem α}{Q Q':α->Shared->Prop}{M:Model}{A:Around}{E:Value->Shared->Prop}{s:Shared}(h:wpAny M A t Q E s)(hQ:∀ a s,Q a s->Q' a s):wpAny M A t Q' E s:=wpAny_mono h hQ λ _ _ x=>x
section
variable {X:Cx}
noncomputable def xr (i:Nat):TE:=λ σ H Q=>∃ v,σ[i]?=some (some v)/\Q v H
noncomputable def tC (v:V):TE:=λ _ H Q=>Q v H
theorem bH {i:Nat}{x:Str}{pos:Pos}(hN:X.N[i]?=some x)(hv:Vis X.env.scope x)(hd:autoParam ((x == ("__debug__":Str))=false) Au.h2._auto_1)(hcd:autoParam ((x == ("__classdict__":Str))=false) Au.h2._auto_1):PE X (.Name x pos) (xr i):=by
 intro pins s σ H Q I h
 obtain⟨v,e,h⟩:=h
 obtain⟨m,hn,hl⟩:=I.loc
 obtain⟨u,r,l⟩:=hl i x v hN e hv
 have fin:EP X pins σ Q u s:=⟨v,H,I,r,h⟩
 rcases l with ⟨hk,hm⟩|⟨hk,c,hc,hcell⟩
 ·exact wpAny_Name (wpAny_loadName_local I.ok.kind hk hn hm fin) hd
 ·rcases hk with hk|hk
  ·exact wpAny_Name (wpAny_loadName_cell I.ok.kind hk hc hcell fin) hd
  ·exact wpAny_Name (wpAny_loadName_free I.ok.kind hk hc hcell fin hcd) hd
theorem l9 {i j pos}:PE X (.Constant (.int i) j pos) (tC (.int i)):=λ _ _ _ H _ I h=>wpAny_Constant_int ⟨.int i,H,I.tok _,⟨_,rfl⟩,h⟩
theorem wZ {b j pos}:PE X (.Constant (.bool b) j pos) (tC (.bl b)):=λ _ _ _ H _ I h=>Constant_bool ⟨.bl b,H,I,rfl,h⟩
theorem wk {x j pos}:PE X (.Constant (.str x) j pos) (tC (.str x)):=λ _ _ _ H _ I h=>Calls.Constant_str ⟨.str x,H,I.tok _,⟨_,rfl⟩,h⟩
noncomputable def Gl (X:Cx)(x:Str):Prop:=X.env.kindOf x=some .globalImplicit
theorem gv {E:Value->Shared->Prop}{pins:List (Addr × Obj)}{s:Shared}{σ:St}{H:Hp}{x:Str}{u:Value}{pos:Pos}{Q:Value->Shared->Prop}(I:Inv X pins σ H s)(hg:Gl X x)(hm:X.mg x=some u)(h:Q u s)
  (hd:autoParam ((x == ("__debug__":Str))=false) Au.h2._auto_1):wpAny (model X.prog X.w) X.A (eval (.Name x pos) X.env) Q E s :=
 Calls.Name_function_global I.ok.kind hg (Calls.loadGlobal_global (by rw[I.ok.glob]; exact I.mod.glob.keeps I.bk) hm h) hd
theorem dg {E:Value->Shared->Prop}{pins:List (Addr × Obj)}{s:Shared}{σ:St}{H:Hp}{x:Str}{u:Value}{pos:Pos}{Q:Value->Shared->Prop}(I:Inv X pins σ H s)(hg:Gl X x)(hm:X.mg x=none)(hv:bootBuiltins x=some u)(h:Q u s)
  (hn:autoParam (x≠"__name__") Au.h2._auto_1) (hd:autoParam ((x == ("__debug__":Str))=false) Au.h2._auto_1):wpAny (model X.prog X.w) X.A (eval (.Name x pos) X.env) Q E s:=by
 obtain⟨mb,h1,h2⟩:=I.mod.blt
 exact Calls.Name_function_global I.ok.kind hg (Calls.loadGlobal_builtin (by rw[I.ok.glob]; exact I.mod.glob.keeps I.bk) hm (by rw[I.ok.blt]; exact h1.keeps I.bk) ((h2 x hn).trans hv) h) hd
theorem gg {x:Str}{v:V}{u:Value}{pos:Pos}(hg:Gl X x)(hm:X.mg x=some u)(r:RelV v u)(hd:autoParam ((x == ("__debug__":Str))=false) Au.h2._auto_1):PE X (.Name x pos) (tC v) :=
 λ _ _ _ H _ I h=>gv I hg hm ⟨v,H,I,r,h⟩ hd
theorem nL {x:Str}{v:V}{u:Value}{pos:Pos}(hg:Gl X x)(hm:X.mg x=none)(hv:bootBuiltins x=some u)(r:RelV v u)(hn:autoParam (x≠"__name__") Au.h2._auto_1)(hd:autoParam ((x == ("__debug__":Str))=false) Au.h2._auto_1):PE X (.Name x pos) (tC v) :=
 λ _ _ _ H _ I h=>dg I hg hm hv ⟨v,H,I,r,h⟩ hn hd
variable {a b:Expr}{ta tb:TE}{pos:Pos}
noncomputable def tB (t:TE):TT:=λ σ H Q=>t σ H λ x H1=>∃ c,x=.bl c/\Q c H1
theorem wn {e:Expr}{t:TE}(h:PE X e t)(he:autoParam (∀ whole,isTrue e X.env whole=(do let v <- whole; standAt e.pos; holding [v] (truthy v))) Au.h3._auto_1):PT X e (tB t):=by
 intro pins s σ H Q I hw
 refine isTrue_plain (thn (h pins s σ H _ I hw) λ v s1 ⟨x,H1,I1,r1,q1⟩=>?_) (he _)
 obtain⟨d,rfl,q⟩:=q1
 cases r1
 exact wpAny_truthy_bool ⟨H1,I1,q⟩
variable {tA tB':TT}{rest:List Expr}
noncomputable def yx (t u:TT):TT:=λ σ H Q=>t σ H λ c H1=>if c=true then u σ H1 Q else Q false H1
noncomputable def tOr (t u:TT):TT:=λ σ H Q=>t σ H λ c H1=>if c=true then Q true H1 else u σ H1 Q
noncomputable def yA (t:TT):TT:=λ σ H Q=>t σ H λ c H1=>Q (!c) H1
theorem tW (ha:PT X a tA):PW X (.BoolOp .And [a] pos) tA:=by
 intro wh pins s σ H Q I h
 refine isTrue_and (thn (ha pins s σ H Q I h) λ c s1 e=>?_)
 cases c with
 | true=>exact isTrue_and_nil e
 | false=>exact e
theorem vG (ha:PT X a tA):PW X (.BoolOp .Or [a] pos) tA:=by
 intro wh pins s σ H Q I h
 refine isTrue_or (thn (ha pins s σ H Q I h) λ c s1 e=>?_)
 cases c with
 | false=>exact isTrue_or_nil e
 | true=>exact e
theorem wb (ha:PT X a tA)(hb:PW X (.BoolOp .And (b::rest) pos) tB'):PW X (.BoolOp .And (a::b::rest) pos) (yx tA tB'):=by
 intro wh pins s σ H Q I h
 refine isTrue_and (thn (ha pins s σ H _ I h) λ c s1 ⟨H1,I1,q1⟩=>?_)
 cases c with
 | true=>exact hb wh pins s1 σ H1 Q I1 q1
 | false=>exact⟨H1,I1,q1⟩
theorem xS (ha:PT X a tA)(hb:PW X (.BoolOp .Or (b::rest) pos) tB'):PW X (.BoolOp .Or (a::b::rest) pos) (tOr tA tB'):=by
 intro wh pins s σ H Q I h
 refine isTrue_or (thn (ha pins s σ H _ I h) λ c s1 ⟨H1,I1,q1⟩=>?_)
 cases c with
 | true=>exact⟨H1,I1,q1⟩
 | false=>exact hb wh pins s1 σ H1 Q I1 q1
theorem vS (ha:PT X a tA):PT X (.UnaryOp .Not a pos) (yA tA):=by
 intro pins s σ H Q I h
 exact isTrue_not (ha pins s σ H (λ c H1=>Q (!c) H1) I h)
noncomputable def xb (ta tb:TE):TE:=λ σ H Q=>ta σ H λ x H1=>∃ c,x=.bl c/\if c=true then tb σ H1 Q else Q (.bl false) H1
theorem v1 {op}{t:TE}(h:PE X a t):PE X (.BoolOp op [a] pos) t:=λ pins s σ H Q I hw=>BoolOp_one (h pins s σ H Q I hw)
theorem vt (ha:PE X a ta)(hb:PE X (.BoolOp .And (b::rest) pos) tb):PE X (.BoolOp .And (a::b::rest) pos) (xb ta tb):=by
 intro pins s σ H Q I h
 refine BoolOp_and (thn (ha pins s σ H _ I h) λ v s1 ⟨x,H1,I1,r1,q1⟩=>?_)
 obtain⟨c,rfl,q1⟩:=q1
 cases r1
 refine wpAny_truthy_bool ?_
 cases c with
 | true=>exact hb pins s1 σ H1 Q I1 q1
 | false=>exact⟨.bl false,H1,I1,rfl,q1⟩
end
noncomputable def SqL (K:PySem.W.Frag)(H:Hp)(a:Addr)(xs:List V):Prop :=
 Rd H a (.lst xs) \/
  ∃ (o:Obj) (its:Array Value) (n:Nat),K.lookup a=some o/\o.cls=.type "list"/\o.dict=none/\o.data=.seq its n/\its.size<=sizeLine/\Vals xs its.toList
noncomputable def SqT (K:PySem.W.Frag)(H:Hp)(a:Addr)(xs:List V):Prop :=
 Rd H a (.tup xs) \/
  ∃ (o:Obj) (its:Array Value) (n:Nat),K.lookup a=some o/\o.cls=.type "tuple"/\o.data=.seq its n/\its.size<=sizeLine/\Vals xs its.toList
noncomputable def yh:Value->Option V
 | .none=>some .non
 | .bool b=>some (.bl b)
 | .int i _=>some (.int i)
 | .str x _=>some (.str x)
 | .bytes b _=>some (.byt b)
 | .float b _=>some (.flt b)
 | .ref a=>some (.ref a)
 | .type n=>some (.ty n)
 | _=>none
theorem RelV.abs {x:V}{u:Value}(r:RelV x u):yh u=some x:=by
 cases x with
 | non=>cases r; rfl
 | bl _=>cases r; rfl
 | int _=>obtain⟨t,rfl⟩:=r; rfl
 | str _=>obtain⟨t,rfl⟩:=r; rfl
 | byt _=>obtain⟨t,rfl⟩:=r; rfl
 | flt _=>obtain⟨t,rfl⟩:=r; rfl
 | ref _=>cases r; rfl
 | ty _=>cases r; rfl
theorem RelV.inj {x y:V}{u:Value}(r:RelV x u)(q:RelV y u):x=y:=Option.some.inj (r.abs.symm.trans q.abs)
theorem Vals.inj {xs ys:List V}{us:List Value}(q:Vals xs us)(p:Vals ys us):xs=ys:=by
 induction q generalizing ys with
 | nil=>cases p; rfl
 | cons r t ih =>
  cases p with
  | cons r' t'=>rw[r.inj r',ih t']
section
variable {X:Cx}{pins:List (Addr × Obj)}{σ:St}{H:Hp}{s:Shared}{a:Addr}{xs ys:List V}
theorem SqL.of {K:PySem.W.Frag}(h:H a=some (.lst xs)):SqL K H a xs:=.inl (.inl h)
theorem Inv.list (I:Inv X pins σ H s)(h:SqL X.K H a xs):∃ its:List Value,Vals xs its/\PlainL s.heap a its.toArray/\xs.length<=sizeLine:=by
 rcases h with h|⟨o,its,n,hk,hc,hd,hs,hz,r⟩
 ·obtain⟨z,its,n,r,e⟩:=h.ok I.hok
  exact⟨its,r,⟨_,n,e,rfl,rfl,rfl⟩,z⟩
 ·refine⟨its.toList,r,⟨o,n,I.kIn a o hk,hc,hd,by simpa using hs⟩,?_⟩
  have e:=r.length
  simp only[Array.length_toList] at e
  omega
theorem Inv.tuple (I:Inv X pins σ H s)(h:SqT X.K H a xs):∃ its:List Value,Vals xs its/\IsTup s.heap a its.toArray/\xs.length<=sizeLine:=by
 rcases h with h|⟨o,its,n,hk,hc,hs,hz,r⟩
 ·obtain⟨z,its,r,p⟩:=h.ok I.hok
  exact⟨its,r,p,z⟩
 ·refine⟨its.toList,r,⟨o,I.kIn a o hk,hc,n,by simpa using hs⟩,?_⟩
  have e:=r.length
  simp only[Array.length_toList] at e
  omega
theorem Inv.list_inj (I:Inv X pins σ H s)(h:SqL X.K H a xs)(h':SqL X.K H a ys):xs=ys:=by
 obtain⟨its,r,⟨o,n,e,_,_,d⟩,_⟩:=I.list h
 obtain⟨its',r',⟨o',n',e',_,_,d'⟩,_⟩:=I.list h'
 rw[e] at e'; cases e'
 rw[d] at d'
 injection d' with d1 _
 have:its=its':=by simpa using congrArg Array.toList d1
 subst this
 exact r.inj r'
end
noncomputable abbrev Cx.wish (X:Cx)(E:Value->Shared->Prop):Cx:={ X with xe:=E }
noncomputable abbrev Cx.nox (X:Cx):Cx:=X.wish λ _ _=>False
theorem Cx.Ok.wish {X:Cx}(ok:X.Ok)(E:Value->Shared->Prop):(X.wish E).Ok :=
 ⟨ok.mod,ok.kind,ok.glob,ok.blt,ok.above,ok.inj,ok.has,ok.cab,ok.hd,ok.frames,ok.stk,ok.exf,ok.bs,ok.bsz,ok.noex,ok.exfs,ok.funs,ok.frf⟩
theorem Cx.Ok.unwish {X:Cx}{E:Value->Shared->Prop}(ok:(X.wish E).Ok):X.Ok :=
 ⟨ok.mod,ok.kind,ok.glob,ok.blt,ok.above,ok.inj,ok.has,ok.cab,ok.hd,ok.frames,ok.stk,ok.exf,ok.bs,ok.bsz,ok.noex,ok.exfs,ok.funs,ok.frf⟩
section
variable {X:Cx}{pins:List (Addr × Obj)}{σ:St}{H:Hp}{s:Shared}{E:Value->Shared->Prop}
theorem Inv.wish (I:Inv X pins σ H s)(E:Value->Shared->Prop):Inv (X.wish E) pins σ H s:=⟨I.ok.wish E,I.os,I.bare,I.base,I.loc,I.cell,I.free,I.freeC,I.pin,I.hok,I.len⟩
theorem Inv.unwish (I:Inv (X.wish E) pins σ H s):Inv X pins σ H s:=⟨I.ok.unwish,I.os,I.bare,I.base,I.loc,I.cell,I.free,I.freeC,I.pin,I.hok,I.len⟩
theorem SP.unwish {D:Ends}{f:Flow}{s':Shared}(h:SP (X.wish E) pins D f s'):SP X pins D f s':=by
 cases f with
 | next=>obtain⟨σ',H',I,q⟩:=h; exact⟨σ',H',I.unwish,q⟩
 | brk=>obtain⟨σ',H',I,q⟩:=h; exact⟨σ',H',I.unwish,q⟩
 | cont=>obtain⟨σ',H',I,q⟩:=h; exact⟨σ',H',I.unwish,q⟩
 | ret u=>obtain⟨v,σ',H',I,r,q⟩:=h; exact⟨v,σ',H',I.unwish,r,q⟩
theorem PE.nox {e:Expr}{t:TE}(h:PE X.nox e t):PE X e t:=λ pins s σ H Q I hw =>
 wpAny_mono (h pins s σ H Q (I.wish _) hw) (λ _ _ ⟨v,H',I',r,q⟩=>⟨v,H',I'.unwish,r,q⟩) λ _ _ z=>False.elim z
theorem PT.nox {e:Expr}{t:TT}(h:PT X.nox e t):PT X e t:=λ pins s σ H Q I hw =>
 wpAny_mono (h pins s σ H Q (I.wish _) hw) (λ _ _ ⟨H',I',q⟩=>⟨H',I'.unwish,q⟩) λ _ _ z=>False.elim z
theorem PSs.nox {st:List Stmt}{t:TS}(h:PSs X.nox st t):PSs X st t:=λ pins s σ H D I hw =>
 wpAny_mono (h pins s σ H D (I.wish _) hw) (λ _ _ q=>q.unwish) λ _ _ z=>False.elim z
end
section
variable {X:Cx}{st:Stmt}{rest:List Stmt}{t u:TS}{e:Expr}{te:TE}{pos:Pos}
noncomputable def xn:TS:=λ D σ H=>D.nx σ H
noncomputable def yt (t u:TS):TS:=λ D σ H=>t { D with nx:=u D } σ H
theorem mI:PSs X [] xn:=λ _ _ σ H _ I h=>wpAny_execs_nil ⟨σ,H,I,h⟩
theorem eT (h1:PS X st t)(h2:PSs X rest u):PSs X (st::rest) (yt t u):=by
 intro pins s σ H D I h
 refine wpAny_execs_cons (thn (h1 pins s σ H { D with nx:=u D } I h) λ f s1 q=>?_)
 cases f with
 | next =>
  obtain⟨σ',H',I',q⟩:=q
  exact h2 pins s1 σ' H' D I' q
 | ret v=>exact q
 | brk=>exact q
 | cont=>exact q
theorem jD (h1:PS X st t):PSs X [st] t:=by
 intro pins s σ H D I h
 refine wpAny_execs_cons (thn (h1 pins s σ H D I h) λ f s1 q=>?_)
 cases f with
 | next=>exact wpAny_execs_nil q
 | ret v=>exact q
 | brk=>exact q
 | cont=>exact q
theorem Inv.quiet {pins:List (Addr × Obj)}{σ:St}{H:Hp}{s:Shared}(I:Inv X pins σ H s):interactive X.env=false:=by simp[interactive,I.ok.kind]
noncomputable def xA (te:TE):TS:=λ D σ H=>te σ H λ _ H1=>D.nx σ H1
theorem gf (he:PE X e te)(hs:autoParam (swapsWith e none pos.line X.env=pure false) Au.h4._auto_1):PS X (.Expr e pos) (xA te):=by
 intro pins s σ H D I h
 exact wpAny_Expr_any (thn (he pins s σ H _ I h) λ v s1 ⟨x,H1,I1,r1,q1⟩=>⟨σ,H1,I1,q1⟩) I.quiet hs
noncomputable def yv (te:TE):TS:=λ D σ H=>te σ H D.rt
theorem jS (he:PE X e te):PS X (.Return (some e) pos) (yv te):=by
 intro pins s σ H D I h
 exact wpAny_Return_some (thn (he pins s σ H _ I h) λ v s1 ⟨x,H1,I1,r1,q1⟩=>⟨x,σ,H1,I1,r1,q1⟩)
noncomputable def yk (c:TT)(t u:TS):TS:=λ D σ H=>c σ H λ b H1=>if b=true then t D σ H1 else u D σ H1
theorem u8 {c:Expr}{a b:List Stmt}{tc:TT}(hc:PT X c tc)(ha:PSs X a t)(hb:PSs X b u):PS X (.If c a b pos) (yk tc t u):=by
 intro pins s σ H D I h
 refine wpAny_If (thn (hc pins s σ H _ I h) λ d s1 ⟨H1,I1,q1⟩=>?_)
 cases d with
 | true=>exact ha pins s1 σ H1 D I1 q1
 | false=>exact hb pins s1 σ H1 D I1 q1
end
noncomputable abbrev TG:=V->St->Hp->(St->Hp->Prop)->Prop
noncomputable abbrev TGs:=List V->St->Hp->(St->Hp->Prop)->Prop
noncomputable def PG (X:Cx)(target:Expr)(t:TG):Prop :=
 ∀ (pins:List (Addr × Obj)) (s:Shared) (σ:St) (H:Hp) (v:V) (u:Value) (Q:St->Hp->Prop),Inv X pins σ H s->RelV v u->t v σ H Q ->
  wpAny (model X.prog X.w) X.A (assign target X.env u) (λ _ s'=>∃ σ' H',Inv X pins σ' H' s'/\Q σ' H') X.xe s
noncomputable def PGs (X:Cx)(ts:List Expr)(t:TGs):Prop :=
 ∀ (pins:List (Addr × Obj)) (s:Shared) (σ:St) (H:Hp) (vs:List V) (us:List Value) (Q:St->Hp->Prop),Inv X pins σ H s->Vals vs us->t vs σ H Q ->
  wpAny (model X.prog X.w) X.A (assignInOrder ((assignEach ts X.env).map (·.2)) us) (λ _ s'=>∃ σ' H',Inv X pins σ' H' s'/\Q σ' H') X.xe s
noncomputable abbrev rG:=V->V->V->Hp->(Hp->Prop)->Prop
noncomputable def wx (X:Cx)(t:rG):Prop :=
 ∀ (pins:List (Addr × Obj)) (s:Shared) (σ:St) (H:Hp) (o i v:V) (ov iv u:Value) (Q:Hp->Prop),Inv X pins σ H s->RelV o ov->RelV i iv->RelV v u->t o i v H Q ->
  wpAny (model X.prog X.w) X.A (setItem ov iv u) (λ _ s'=>∃ H',Inv X pins σ H' s'/\Q H') X.xe s
noncomputable abbrev TIp:=V->V->Hp->VK->Prop
noncomputable def PIp (X:Cx)(op:Operator)(t:TIp):Prop :=
 ∀ (pins:List (Addr × Obj)) (s:Shared) (σ:St) (H:Hp) (x y:V) (v u:Value) (Q:VK),Inv X pins σ H s->RelV x v->RelV y u->t x y H Q ->
  wpAny (model X.prog X.w) X.A (inplaceOp op v u) (EP X pins σ Q) X.xe s
section
variable {X:Cx}{pos:Pos}
noncomputable def ve (i:Nat):TG:=λ v σ H Q=>Q (σ.set i (some v)) H
theorem jx {i:Nat}{x:Str}(hN:X.N.Nodup)(hi:X.N[i]?=some x)(hx:Loc X.env.scope x)(hf:autoParam (X.fn x=true\/X.env.scope.names.lookup x=some .local) Au.h1._auto_1):PG X (.Name x pos) (ve i):=by
 intro pins s σ H v u Q I r h
 exact wpAny_assign_Name (cY I hN hi hx r (λ s' I'=>⟨_,H,I',h⟩) hf)
noncomputable def yg:TGs:=λ vs σ H Q=>vs=[]/\Q σ H
noncomputable def xc (t:TG)(u:TGs):TGs:=λ vs σ H Q=>∃ v r,vs=v::r/\t v σ H λ σ' H'=>u r σ' H' Q
theorem ux:PGs X [] yg:=by
 intro pins s σ H vs us Q I r h
 obtain⟨e,h⟩:=h
 subst e
 cases r
 exact assignInOrder_nil ⟨σ,H,I,h⟩
theorem rW {e:Expr}{es:List Expr}{t:TG}{u:TGs}(h1:PG X e t)(h2:PGs X es u)
  (hs:autoParam ((assignEach (e::es) X.env).map (·.2)=assign e X.env::(assignEach es X.env).map (·.2)) Au.h4._auto_1):PGs X (e::es) (xc t u):=by
 intro pins s σ H vs us Q I r h
 obtain⟨v,vr,e1,h⟩:=h
 subst e1
 cases r with
 | cons r rr =>
  rw[hs]
  refine assignInOrder_cons (thn (h1 pins s σ H _ _ _ I r h) λ _ s1 ⟨σ1,H1,I1,q1⟩=>?_)
  exact h2 pins s1 σ1 H1 _ _ Q I1 rr q1
noncomputable def yf (K:PySem.W.Frag)(n:Nat)(t:TGs):TG:=λ v σ H Q=>∃ a xs,v=.ref a/\SqT K H a xs/\xs.length=n/\t xs σ H Q
theorem sg {es:List Expr}{k:Nat}{t:TGs}{n:Nat}(hc:X.calm=true)(h:PGs X es t)
  (hn:autoParam ((assignEach es X.env).length=n) Au.h4._auto_1) (hst:autoParam ((assignEach es X.env).findIdx? (·.1)=none) Au.h4._auto_1):PG X (.Tuple es k pos) (yf X.K n t):=by
 intro pins s σ H v u Q I r hw
 obtain⟨a,xs,e1,hq,hl,hw⟩:=hw
 subst e1
 cases r
 obtain⟨its,rv,ht,hz⟩:=I.tuple hq
 refine assign_Tuple_tuple (I.ok.hd hc) ht (by simp[hn,<- hl,rv.length]) hst λ h' hx=>?_
 have I1:Inv X pins σ H { s with heap:=h' }:=I.kept (t':=s.toks) λ b o e=>hx b o (zb (Heap.lt_size e)) e
 exact h pins _ σ H xs _ Q I1 (by simpa using rv) hw
noncomputable def yi (to ti:TE)(t:rG):TG:=λ v σ H Q=>to σ H λ o H1=>ti σ H1 λ i H2=>t o i v H2 λ H3=>Q σ H3
theorem mF {o i:Expr}{to ti:TE}{t:rG}(ho:PE X o to)(hi:PE X i ti)(hs:wx X t)
  (ha:autoParam (∀ v,assign (.Subscript o i pos) X.env v=(do
   let ov <- holding [v] (eval o X.env)
   let iv <- holding [v,ov] (eval i X.env)
   standAt pos
   holding [v,ov,iv] (setItem ov iv v)
   release [v,ov,iv] [])) Au.h3._auto_1):PG X (.Subscript o i pos) (yi to ti t):=by
 intro pins s σ H v u Q I r h
 rw[ha]
 refine wpAny_bind (wpAny_holding (thn (ho pins s σ H _ I h) λ ov s1 ⟨x,H1,I1,r1,q1⟩=>?_))
 refine wpAny_bind (wpAny_holding (thn (hi pins s1 σ H1 _ I1 q1) λ iv s2 ⟨y,H2,I2,r2,q2⟩=>?_))
 refine wpAny_bind (wpAny_standAt (wpAny_bind (wpAny_holding (thn (hs pins s2 σ H2 x y v ov iv u _ I2 r1 r2 r q2) λ _ s3 ⟨H3,I3,q3⟩=>?_))))
 exact wpAny_release ⟨σ,H3,I3,q3⟩
noncomputable def xH (te:TE)(g:TG):TS:=λ D σ H=>te σ H λ x H1=>g x σ H1 D.nx
theorem fH {tg e:Expr}{te:TE}{g:TG}(he:PE X e te)(hg:PG X tg g)(hs:autoParam (swapsWithSole [tg] e pos.line X.env=pure false) Au.h4._auto_1)(hw:autoParam (swappedStores [tg] e X.env=pure none) Au.h4._auto_1)
  (h1:autoParam ((assignEach [tg] X.env).map (·.2)=[assign tg X.env]) Au.h4._auto_1):PS X (.Assign [tg] e pos) (xH te g):=by
 intro pins s σ H D I h
 refine wpAny_Assign_stores (thn (he pins s σ H _ I h) λ v s1 ⟨x,H1,I1,r1,q1⟩=>?_) hs hw
 rw[h1]
 exact thn (hg pins s1 σ H1 x v _ I1 r1 q1) λ _ s2 q=>q
theorem jP {i:Nat}{x:Str}{e:Expr}{te:TE}{pos':Pos}(hN:X.N.Nodup)(hi:X.N[i]?=some x)(hx:Loc X.env.scope x)(he:PE X e te)(hs:autoParam (swapsWith e (some (.Name x pos')) pos.line X.env=pure false) Au.h4._auto_1)(hf:autoParam (X.fn x=true\/X.env.scope.names.lookup x=some .local) Au.h1._auto_1) :
  PS X (.Assign [.Name x pos'] e pos) (xH te (ve i)):=by
 intro pins s σ H D I h
 refine wpAny_Assign_Name (thn (he pins s σ H _ I h) λ v s1 ⟨y,H1,I1,r1,q1⟩=>?_) hs
 exact cY I1 hN hi hx r1 (λ s2 I2=>⟨_,H1,I2,q1⟩) hf
noncomputable def ye (i j:Nat)(ta:TA):TS:=λ D σ H=>ta σ H λ vs H1=>∃ v w,vs=[v,w]/\D.nx ((σ.set i (some v)).set j (some w)) H1
theorem wT {i j:Nat}{x y:Str}{a b:Expr}{ta:TA}{px py pt:Pos}{kt k2 pt2}(hc:X.calm=true)(hN:X.N.Nodup)(hi:X.N[i]?=some x)(hj:X.N[j]?=some y)(hij:i≠j)
  (hx:X.env.scope.names.lookup x=some .local) (hy:X.env.scope.names.lookup y=some .local) (ha:PA X [a,b] ta)
  (hw:swappedStores [.Tuple [.Name x px,.Name y py] kt pt] (.Tuple [a,b] k2 pt2) X.env=pure (some [x,y]))
  (hs:autoParam (swapsWithSole [.Tuple [.Name x px,.Name y py] kt pt] (.Tuple [a,b] k2 pt2) pos.line X.env=pure false) Au.h4._auto_1) :
  PS X (.Assign [.Tuple [.Name x px,.Name y py] kt pt] (.Tuple [a,b] k2 pt2) pos) (ye i j ta):=by
 intro pins s σ H D I h
 rw[exec_Assign_arm]
 refine wpAny_bind (wpAny_standAt ?_)
 rw[hs]
 refine wpAny_bind (wpAny_pure ?_)
 rw[if_neg (by decide)]
 refine wpAny_bind (Tuple_ (thn (ha _ pins s σ H _ I h) λ us s1 ⟨vs,H1,I1,r1,q1⟩=>?_))
 obtain⟨v,w,e1,q1⟩:=q1
 subst e1
 obtain⟨u1,u2,rfl,rv,rw'⟩:∃ u1 u2,us=[u1,u2]/\RelV v u1/\RelV w u2:=by
  cases r1 with
  | cons p q =>
   cases q with
   | cons p' q' =>
    cases q'
    exact⟨_,_,rfl,p,p'⟩
 refine wpAny_newObj_type ?_ (by show 2<=sizeLine; decide)
 have I2:Inv X pins σ H1 { s1 with heap:=s1.heap.push { cls:=.type "tuple",data:=.seq [u1,u2].toArray } }:=I1.kept (t':=s1.toks) λ b o e=>Heap.get?_push_of_some _ e
 rw[hw]
 refine wpAny_bind (wpAny_pure ?_)
 show wpAny (model X.prog X.w) X.A (do rule "assign.swapped-stores"; let items <- unpackItems (.ref s1.heap.objs.size) 2 none; assignInOrder [λ v=>bindName X.env y v,λ v=>bindName X.env x v] items.reverse; pure Flow.next) _ _ _
 refine wpAny_bind (wpAny_rule (wpAny_bind (unpackItems_tuple (items:=#[u1,u2]) (I.ok.hd hc) (IsTup.new s1.heap _) λ h' hx'=>?_)))
 have I3:=I2.kept (h':=h') (t':=s1.toks) λ b o e=>hx' b o (zb (Heap.lt_size e)) e
 show wpAny _ _ (assignInOrder [λ v=>bindName X.env y v,λ v=>bindName X.env x v] [u2,u1] >>= λ _=>pure Flow.next) _ _ _
 refine wpAny_bind (assignInOrder_cons (wpAny_bindName (cY I3 hN hj (.inl hy) rw' (λ s2 I4=>?_) (.inr hy))))
 refine assignInOrder_cons (wpAny_bindName (cY I4 hN hi (.inl hx) rv (λ s3 I5=>assignInOrder_nil (wpAny_pure ?_)) (.inr hx)))
 rw[List.set_comm _ _ (Ne.symm hij)] at I5
 exact⟨_,H1,I5,q1⟩
noncomputable def yj (i:Nat)(te:TE)(ti:TIp):TS:=λ D σ H=>∃ x,σ[i]?=some (some x)/\te σ H λ y H1=>ti x y H1 λ z H2=>D.nx (σ.set i (some z)) H2
theorem vX {i:Nat}{x:Str}{e:Expr}{te:TE}{op:Operator}{ti:TIp}{pos':Pos}(hN:X.N.Nodup)(hi:X.N[i]?=some x)(hx:Loc X.env.scope x)(he:PE X e te)(ho:PIp X op ti)(hf:autoParam (X.fn x=true\/X.env.scope.names.lookup x=some .local) Au.h1._auto_1) :
  PS X (.AugAssign (.Name x pos') op e pos) (yj i te ti):=by
 intro pins s σ H D I h
 obtain⟨v,e1,h⟩:=h
 obtain⟨m,hn,hl⟩:=I.loc
 have vis:Vis X.env.scope x:=by rcases hx with k|k; exact .inl k; exact .inr (.inl k)
 obtain⟨u,r,l⟩:=hl i x v hi e1 vis
 refine wpAny_AugAssign_Name ?_
 have go:wpAny (model X.prog X.w) X.A (eval e X.env) (λ w s₂=>wpAny (model X.prog X.w) X.A (inplaceOp op u w) (λ r s₃=>wpAny (model X.prog X.w) X.A (storeName X.env x r) (λ _=>SP X pins D .next) X.xe s₃) X.xe s₂) X.xe s:=by
  refine thn (he pins s σ H _ I h) λ w s1 ⟨y,H1,I1,r1,q1⟩=>?_
  refine thn (ho pins s1 σ H1 v y u w _ I1 r r1 q1) λ z s2 ⟨zv,H2,I2,r2,q2⟩=>?_
  exact cY I2 hN hi hx r2 (λ s3 I3=>⟨_,H2,I3,q2⟩) hf
 rcases l with ⟨hk,hm⟩|⟨hk,c,hc,hcell⟩
 ·exact wpAny_loadName_local I.ok.kind hk hn hm go
 ·rcases hk with hk|hk
  ·exact wpAny_loadName_cell I.ok.kind hk hc hcell go
  ·rcases hx with k|k
   ·have:X.env.scope.names.lookup x=some .free:=hk
    rw[k] at this; cases this
   ·have:X.env.scope.names.lookup x=some .free:=hk
    rw[k] at this; cases this
noncomputable def xM (to ti te:TE)(tget:V->V->Hp->VK->Prop)(tip:TIp)(tset:rG):TS:=λ D σ H=>to σ H λ o H1=>ti σ H1 λ i H2=>tget o i H2 λ x H3=>te σ H3 λ y H4=>tip x y H4 λ z H5=>tset o i z H5 λ H6=>D.nx σ H6
noncomputable def xh (X:Cx)(t:V->V->Hp->VK->Prop):Prop :=
 ∀ (pins:List (Addr × Obj)) (s:Shared) (σ:St) (H:Hp) (o i:V) (ov iv:Value) (Q:VK),Inv X pins σ H s->RelV o ov->RelV i iv->t o i H Q ->
  wpAny (model X.prog X.w) X.A (getItem ov iv) (EP X pins σ Q) X.xe s
theorem tE {o i e:Expr}{to ti te:TE}{tget:V->V->Hp->VK->Prop}{tip:TIp}{tset:rG}{op:Operator}{tpos:Pos}(ho:PE X o to)(hi:PE X i ti)(hg:xh X tget)(he:PE X e te)(hp:PIp X op tip)(hs:wx X tset)
  (ha:autoParam (∀ ov iv new,augStore i ov iv new=(do holding [new,ov,iv] (setItem ov iv new); release [new,ov,iv] []; pure .next)) Au.h5._auto_1):PS X (.AugAssign (.Subscript o i tpos) op e pos) (xM to ti te tget tip tset):=by
 intro pins s σ H D I h
 refine wpAny_AugAssign_SubscriptAny (thn (ho pins s σ H _ I h) λ ov s1 ⟨x1,H1,I1,r1,q1⟩=>?_) ha
 refine thn (hi pins s1 σ H1 _ I1 q1) λ iv s2 ⟨x2,H2,I2,r2,q2⟩=>?_
 refine thn (hg pins s2 σ H2 x1 x2 ov iv _ I2 r1 r2 q2) λ old s3 ⟨x3,H3,I3,r3,q3⟩=>?_
 refine thn (he pins s3 σ H3 _ I3 q3) λ v s4 ⟨x4,H4,I4,r4,q4⟩=>?_
 refine thn (hp pins s4 σ H4 x3 x4 old v _ I4 r3 r4 q4) λ new s5 ⟨x5,H5,I5,r5,q5⟩=>?_
 exact thn (hs pins s5 σ H5 x1 x2 x5 ov iv new _ I5 r1 r2 r5 q5) λ _ s6 ⟨H6,I6,q6⟩=>⟨σ,H6,I6,q6⟩
noncomputable def ipI (f:Int->Int->Int):TIp:=λ x y H Q=>∃ i j,x=.int i/\y=.int j/\Q (.int (f i j)) H
theorem sL:PIp X .Sub (ipI λ i j=>i-j):=by
 intro pins s σ H x y v u Q I r1 r2 h
 obtain⟨i,j,e1,e2,q⟩:=h
 subst e1; subst e2
 obtain⟨t,rfl⟩:=r1
 obtain⟨t',rfl⟩:=r2
 exact isub_int ⟨.int _,H,I.tok _,⟨_,rfl⟩,q⟩
end
section
variable {X:Cx}{pos:Pos}
noncomputable def wp (c:TT)(tb:TS):TS:=λ D σ H=>∃ W:Nat->St->Hp->Prop,(∃ m,W m σ H)/\∀ m σ H,W m σ H ->
 c σ H λ b H1=>if b=true then ∃ N:St->Hp->Prop,(∀ σ' H',N σ' H'->∃ m',m'<m/\W m' σ' H')/\tb { D with nx:=N,ct:=N,bk:=D.nx } σ H1 else D.nx σ H1
theorem qH {c:Expr}{body:List Stmt}{tc:TT}{tb:TS}(hp:PassesOwn (model X.prog X.w) X.A X.env X.xe)(hc:PT X c tc)(hb:PSs X body tb):PS X (.While c body [] pos) (wp tc tb):=by
 intro pins s σ H D I h
 obtain⟨W,⟨m0,w0⟩,turn⟩:=h
 refine wpAny_While (codeAny_whileLoop (λ n s'=>∃ σ' H',Inv X pins σ' H' s'/\W n σ' H') ?_ m0 ⟨σ,H,I,w0⟩)
 rintro n s1 ⟨σ1,H1,I1,w1⟩
 refine wpAny_passesOwn hp (thn (hc pins s1 σ1 H1 _ I1 (turn n σ1 H1 w1)) λ b s2 ⟨H2,I2,q2⟩=>?_)
 cases b with
 | true =>
  obtain⟨N,hN,q2⟩:=q2
  rw[if_pos rfl]
  refine wpAny_passesOwn hp (thn (hb pins s2 σ1 H2 _ I2 q2) λ f s3 q3=>?_)
  cases f with
  | next =>
   obtain⟨σ3,H3,I3,n3⟩:=q3
   obtain⟨m',hm,w3⟩:=hN σ3 H3 n3
   exact⟨m',hm,σ3,H3,I3,w3⟩
  | cont =>
   obtain⟨σ3,H3,I3,n3⟩:=q3
   obtain⟨m',hm,w3⟩:=hN σ3 H3 n3
   exact⟨m',hm,σ3,H3,I3,w3⟩
  | brk=>exact q3
  | ret v=>exact q3
 | false =>
  rw[if_neg zn]
  exact wpAny_execs_nil ⟨σ1,H2,I2,q2⟩
end
structure It where
 go:Nat->Hp->Prop
 yld:Nat->Hp->V->Hp->Prop
 stop:Nat->Hp->Prop
noncomputable def ig (X:Cx)(pins:List (Addr × Obj))(H:Hp)(b:Addr):Prop :=
 H b=none/\b≠X.env.locals/\b∉X.fs/\(b∈X.ex\/X.s₀.heap.objs.size<=b)/\(∀ x c,X.env.cells.lookup x=some c->c≠b)/\∀ p∈X.pn++pins,p.1≠b
theorem Inv.fpOk {X:Cx}{pins:List (Addr × Obj)}{σ:St}{H H':Hp}{s:Shared}{b:Addr}(I:Inv X pins σ H s)(hb:s.heap.objs.size<=b)(hn:H' b=none):ig X pins H' b:=by
 refine⟨hn,BP (zg I.lt hb),I.nofs hb,.inr (zK I.sz hb),λ x c e z=>?_,λ p hp z=>?_⟩
 ·obtain⟨v,q⟩:=I.cell x c e
  exact absurd (zg q.lt (by rw[z]; exact hb)) (zL _)
 ·exact absurd (zg (Heap.lt_size (I.pin p hp).1) (by rw[z]; exact hb)) (zL _)
structure Turn (P:Program)(w:World)(K:PySem.W.Frag)(tg:Expr)(J:It)(fp:List Addr)(it:Addr)(tn:Nat->Heap->Prop):Prop where
 mem:it∈fp
 obj:∀ i h,tn i h->∀ b∈fp,∃ o,h.get? b=some o/\∀ v,o.data≠.cell v
 keep:∀ i h h',tn i h->(∀ b∈fp,∀ o,h.get? b=some o->h'.get? b=some o)->tn i h'
 item:∀ (X:Cx),X.prog=P->X.w=w->X.K=K->X.calm=true->∀ (i:Nat) (pins:List (Addr × Obj)) (s:Shared) (σ:St) (H:Hp) (E:Value->Shared->Prop),Inv X pins σ H s->(∀ b∈fp,ig X pins H b)->tn i s.heap->J.go i H ->
  wpAny (model P w) X.A (pyNext (.ref it)) (λ r s1=>∃ u,r=some u /\
   wpAny (model P w) X.A (letOwnedTupleGo tg (.ref it) u) (λ _ s2=>∃ x H',Inv X pins σ H' s2/\RelV x u/\J.yld i H x H'/\tn (i+1) s2.heap/\∀ b∈fp,H' b=none) E s1) E s
 done:∀ (X:Cx),X.prog=P->X.w=w->X.K=K->X.calm=true->∀ (i:Nat) (pins:List (Addr × Obj)) (s:Shared) (σ:St) (H:Hp) (E:Value->Shared->Prop),Inv X pins σ H s->(∀ b∈fp,ig X pins H b)->tn i s.heap->J.stop i H ->
  wpAny (model P w) X.A (pyNext (.ref it)) (λ r s1=>r=none/\Inv X pins σ H s1) E s
 self:∀ (A:Around) (i:Nat) (s:Shared) (Q:Value->Shared->Prop) (E:Value->Shared->Prop),tn i s.heap->Q (.ref it) s->wpAny (model P w) A (pyIter (.ref it)) Q E s
noncomputable abbrev TI:=St->Hp->(It->Hp->Prop)->Prop
noncomputable def PIE (X:Cx)(pins:List (Addr × Obj))(σ:St)(tg:Expr)(R:It->Hp->Prop)(itv:Value)(s2:Shared):Prop :=
 ∃ (it:Addr) (fp:List Addr) (tn:Nat->Heap->Prop) (J:It) (H':Hp),itv=.ref it/\Inv X pins σ H' s2/\Turn X.prog X.w X.K tg J fp it tn/\tn 0 s2.heap/\(∀ b∈fp,ig X pins H' b)/\R J H'
noncomputable def PI (X:Cx)(tg iter:Expr)(wi:TI):Prop :=
 ∀ (pins:List (Addr × Obj)) (s:Shared) (σ:St) (H:Hp) (R:It->Hp->Prop),Inv X pins σ H s->wi σ H R ->
  wpAny (model X.prog X.w) X.A (eval iter X.env) (λ v s1=>wpAny (model X.prog X.w) X.A (pyIter v) (PIE X pins σ tg R) X.xe s1) X.xe s
theorem rf {M:Model}{A:Around}{E:Value->Shared->Prop}{s:Shared}{tg:Expr}{it:Addr}{u:Value}{o:Obj}{n:String}{vs:Array Value}{Q:Unit->Shared->Prop}(ho:s.heap.get? it=some o)(hc:o.cls=.type n)(hd:o.data=.fields vs)
    (hn:["enumerate","zip","dict_itemiterator","dict_reverseitemiterator","odict_iterator","itertools.zip_longest","itertools.pairwise"].contains n=false) (hQ:Q () s):wpAny M A (letOwnedTupleGo tg (.ref it) u) Q E s:=by
  unfold letOwnedTupleGo
  cases tg <;>first
    | exact wpAny_pure hQ
    | (cases u <;>first
        | exact wpAny_pure hQ
        | (refine wpAny_bind (wpAny_load ho ?_)
           rw[hc,hd]
           show wpAny M A (if (["enumerate","zip","dict_itemiterator","dict_reverseitemiterator","odict_iterator","itertools.zip_longest","itertools.pairwise"].contains n&&vs[0]? == some (rawInt _))=true then _ else _) Q E s
           rw[if_neg (by intro h; rw[hn,Ac] at h; cases h)]
           exact wpAny_pure hQ))
noncomputable def Itl (K:PySem.W.Frag)(a:Addr):It :=
 ⟨λ i H=>∃ xs x,SqL K H a xs/\xs[i]?=some x,λ i H x H'=>H'=H/\∀ xs,SqL K H a xs->xs[i]?=some x,λ i H=>∃ xs,SqL K H a xs/\xs.length<=i⟩
noncomputable def Itr (lo:Int)(n:Nat):It:=⟨λ i _=>i<n,λ i H x H'=>H'=H/\x=.int (lo+i),λ i _=>n<=i⟩
theorem oI {P:Program}{w:World}{K:PySem.W.Frag}{tg:Expr}(a it:Addr):Turn P w K tg (Itl K a) [it] it (λ i h=>h.IsListIter it a i) where
 mem:=by simp
 obj:=λ i h st b hb=>by
  have e:b=it:=by simpa using hb
  subst e
  obtain⟨o,e,c,d⟩:=st
  exact⟨o,e,λ v z=>by rw[d] at z; cases z⟩
 keep:=λ i h h' st k=>st.at λ o e=>k it (by simp) o e
 item:=by
  intro X hP hw hK hc i pins s σ H E I hf st hg
  subst hP hw hK
  obtain⟨xs,x,hq,hx⟩:=hg
  obtain⟨its,rv,p,hz⟩:=I.list hq
  obtain⟨u,hu,ru⟩:=rv.get hx
  obtain⟨f0,f1,f2,f3,f4,f5⟩:=hf it (by simp)
  refine wpAny_pyNext_list_item st p.isList (x:=u) (by simpa using hu) λ h' st' sb=>?_
  have I1:Inv X pins σ H { s with heap:=h' }:=I.turned (t':=s.toks) (λ b o hb e=>(sb.2 b hb).trans e) f0 f1 f3 f4 f5
  obtain⟨o,e,c,d⟩:=id st'
  exact⟨u,rfl,rf (s:={ s with heap:=h' }) e c d (by decide) ⟨x,H,I1,ru,⟨rfl,λ ys hy=>by rw[I.list_inj hy hq]; exact hx⟩,st',λ b hb=>(hf b hb).1⟩⟩
 done:=by
  intro X hP hw hK hc i pins s σ H E I hf st hg
  subst hP hw hK
  obtain⟨xs,hq,hx⟩:=hg
  obtain⟨its,rv,p,hz⟩:=I.list hq
  obtain⟨f0,f1,f2,f3,f4,f5⟩:=hf it (by simp)
  have hl:=rv.length
  exact wpAny_pyNext_list_end (I.ok.hd hc) st p.isList (by simp; omega) λ h' eb=>⟨rfl,I.turned (t':=s.toks) (λ b o hb e=>eb b o hb e) f0 f1 f3 f4 f5⟩
 self:=λ _ _ _ _ _ st h=>wpAny_pyIter_listiter st h
theorem lV {P:Program}{w:World}{K:PySem.W.Frag}{tg:Expr}(it:Addr)(lo:Int)(n:Nat):Turn P w K tg (Itr lo n) [it] it (λ i h=>IsRangeIter h it (lo+(i:Nat)*1) ((n:Int)-(i:Nat)) 1) where
 mem:=by simp
 obj:=λ i h st b hb=>by
  have e:b=it:=by simpa using hb
  subst e
  exact⟨_,st,λ v z=>by
   have z':Data.fields _=Data.cell v:=z
   cases z'⟩
 keep:=λ i h h' st k=>k it (by simp) _ st
 item:=by
  intro X hP hw hK hc i pins s σ H E I hf st hg
  subst hP hw hK
  obtain⟨f0,f1,f2,f3,f4,f5⟩:=hf it (by simp)
  have W:=Walks.range (prog:=X.prog) (w:=X.w) (I.ok.hd hc) it lo 1 n
  refine W.item i s _ _ hg st λ v h' tk hv st' kk=>?_
  obtain⟨t,rfl⟩:=hv
  have I1:Inv X pins σ H { s with heap:=h',toks:=tk }:=I.turned (λ b o hb e=>kk b o (by simpa using hb) e) f0 f1 f3 f4 f5
  refine⟨_,rfl,rf (s:={ s with heap:=h',toks:=tk }) (n:="range_iterator") st' rfl rfl (by decide) ⟨.int (lo+i),H,I1,⟨t,?_⟩,⟨rfl,rfl⟩,st',λ b hb=>(hf b hb).1⟩⟩
  rw[Bx]
 done:=by
  intro X hP hw hK hc i pins s σ H E I hf st hg
  subst hP hw hK
  obtain⟨f0,f1,f2,f3,f4,f5⟩:=hf it (by simp)
  exact wpAny_pyNext_range_end (I.ok.hd hc) st (by have:n<=i:=hg; omega) λ h' eb=>⟨rfl,I.turned (t':=s.toks) (λ b o hb e=>eb b o hb e) f0 f1 f3 f4 f5⟩
 self:=λ _ _ _ _ _ st h=>wpAny_pyIter_rangeiter st h
section
variable {X:Cx}{tg:Expr}
noncomputable def xK (K:PySem.W.Frag)(tl:TE):TI:=λ σ H R=>tl σ H λ x H1=>∃ a,x=.ref a/\(∃ xs,SqL K H1 a xs)/\R (Itl K a) H1
theorem tG {l:Expr}{tl:TE}(hl:PE X l tl):PI X tg l (xK X.K tl):=by
 intro pins s σ H R I h
 refine thn (hl pins s σ H _ I h) λ v s1 ⟨x,H1,I1,r1,q1⟩=>?_
 obtain⟨a,e,⟨xs,hq⟩,q⟩:=q1
 subst e
 cases r1
 obtain⟨its,rv,p,hz⟩:=I1.list hq
 refine wpAny_pyIter_list p.isList ?_
 refine⟨s1.heap.objs.size,[s1.heap.objs.size],_,_,H1,rfl,I1.kept (t':=s1.toks) λ b o e=>Heap.get?_push_of_some _ e,oI a _,⟨_,Heap.get?_push_size _ rfl,rfl,rfl⟩,λ b hb=>?_,q⟩
 have e:b=s1.heap.objs.size:=by simpa using hb
 subst e
 exact I1.fpOk (y4 _) (I1.hok.fresh (y4 _))
theorem lP {pins:List (Addr × Obj)}{σ:St}{H:Hp}{s:Shared}{R:It->Hp->Prop}{E:Value->Shared->Prop}{lo hi:Int}{t u v:Tok}{tk:Nat}(I:Inv X pins σ H s)(h1:-(2 ^ 62)<=lo)(h2:lo<2 ^ 62)(h3:-(2 ^ 62)<=hi)(h4:hi<2 ^ 62)
  (q:R (Itr lo (hi-lo).toNat) H):wpAny (model X.prog X.w) X.A (pyIter (.ref s.heap.objs.size)) (PIE X pins σ tg R) E { s with heap:=s.heap.push { cls:=.type "range",data:=.fields #[.int lo t,.int hi u,.int 1 v] },toks:=tk }:=by
 refine wpAny_pyIter_range (IsRange.new ..) (small_one h1 h2 h3 h4) ?_
 have I1:Inv X pins σ H { s with heap:=s.heap.push { cls:=.type "range",data:=.fields #[.int lo t,.int hi u,.int 1 v] },toks:=tk }:=I.kept λ b o e=>Heap.get?_push_of_some _ e
 refine⟨(s.heap.push { cls:=.type "range",data:=.fields #[.int lo t,.int hi u,.int 1 v] }).objs.size,[(s.heap.push { cls:=.type "range",data:=.fields #[.int lo t,.int hi u,.int 1 v] }).objs.size],_,_,H,rfl,
  I1.kept (t':=tk) λ b o e=>Heap.get?_push_of_some _ e,lV _ lo (hi-lo).toNat,?_,λ b hb=>?_,q⟩
 ·have e1:lo+((0:Nat):Int)*1=lo:=by simp
  have e2:(((hi-lo).toNat:Nat):Int)-((0:Nat):Int)=Builtin.Range.rangeSize lo hi 1:=by rw[rangeSize_one]; split <;>omega
  show IsRangeIter _ _ (lo+((0:Nat):Int)*1) ((((hi-lo).toNat:Nat):Int)-((0:Nat):Int)) 1
  rw[e1,e2]
  exact Heap.get?_push_size _ rfl
 ·have e:b=(s.heap.push { cls:=.type "range",data:=.fields #[.int lo t,.int hi u,.int 1 v] }).objs.size:=by simpa using hb
  subst e
  exact I1.fpOk (y4 _) (I1.hok.fresh (y4 _))
noncomputable def xi (ta:TA):TI:=λ σ H R=>ta σ H λ vs H1=>∃ j:Int,vs=[.int j]/\-(2 ^ 62)<=j/\j<2 ^ 62/\R (Itr 0 j.toNat) H1
noncomputable def xq (ta:TA):TI:=λ σ H R=>ta σ H λ vs H1=>∃ i j:Int,vs=[.int i,.int j]/\(-(2 ^ 62)<=i/\i<2 ^ 62/\-(2 ^ 62)<=j/\j<2 ^ 62)/\R (Itr i (j-i).toNat) H1
theorem nZ {a:Expr}{ta:TA}{p pos:Pos}(hg:Gl X "range")(hm:X.mg "range"=none)(ha:PA X [a] ta)(hs:autoParam (starEach [a] X.env=[(false,eval a X.env)]) Au.h4._auto_1):PI X tg (.Call (.Name "range" p) [a] [] pos) (xi ta):=by
 intro pins s σ H R I h
 refine Call_ (dg I hg hm boot_range (PyProof.Rows.callWith_type1 (thn (ha pos pins s σ H _ I h) λ us s1 ⟨vs,H1,I1,r1,q1⟩=>?_) hs rfl))
 obtain⟨j,e,q1,q2,q⟩:=q1
 subst e
 cases r1 with
 | cons r rr =>
  cases rr
  obtain⟨t,rfl⟩:=r
  exact call_range_1 (lP I1 (by omega) (by omega) q1 q2 (by simpa using q))
theorem oP {a b:Expr}{ta:TA}{p pos:Pos}(hg:Gl X "range")(hm:X.mg "range"=none)(ha:PA X [a,b] ta)(hs:autoParam (starEach [a,b] X.env=[(false,eval a X.env),(false,eval b X.env)]) Au.h4._auto_1)(hs2:autoParam (starEach [b] X.env=[(false,eval b X.env)]) Au.h4._auto_1) :
  PI X tg (.Call (.Name "range" p) [a,b] [] pos) (xq ta):=by
 intro pins s σ H R I h
 refine Call_ (dg I hg hm boot_range (PyProof.Rows.callWith_type1 (thn (ha pos pins s σ H _ I h) λ us s1 ⟨vs,H1,I1,r1,q1⟩=>?_) (by rw[hs,hs2]) (by rw[hs2]; rfl)))
 obtain⟨i,j,e,⟨q1,q2,q3,q4⟩,q⟩:=q1
 subst e
 cases r1 with
 | cons r rr =>
  cases rr with
  | cons r' rr =>
   cases rr
   obtain⟨t,rfl⟩:=r
   obtain⟨t',rfl⟩:=r'
   exact call_range_2 (lP I1 q1 q2 q3 q4 q)
noncomputable def ym (wi:TI)(g:TG)(tb:TS):TS:=λ D σ H=>wi σ H λ J H1=>∃ W:Nat->Nat->St->Hp->Prop,(∃ m,W 0 m σ H1)/\∀ i m σ H,W i m σ H ->
 (J.stop i H/\D.nx σ H)\/(J.go i H/\∃ N:St->Hp->Prop,(∀ σ' H',N σ' H'->∃ m',m'<m/\W (i+1) m' σ' H')/\∀ x H',J.yld i H x H'->g x σ H' λ σ2 H2=>tb { D with nx:=N,ct:=N,bk:=D.nx } σ2 H2)
noncomputable def iA (fp:List Addr)(h:Heap):List (Addr × Obj):=fp.filterMap λ b=>(h.get? b).map λ o=>(b,o)
theorem dk {fp:List Addr}{h:Heap}{b:Addr}{o:Obj}(hb:b∈fp)(e:h.get? b=some o):(b,o)∈iA fp h:=List.mem_filterMap.mpr ⟨b,hb,by rw[e]; rfl⟩
theorem om {fp:List Addr}{h:Heap}{p:Addr × Obj}(hp:p∈iA fp h):p.1∈fp/\h.get? p.1=some p.2:=by
 obtain⟨b,hb,e⟩:=List.mem_filterMap.mp hp
 cases q:h.get? b with
 | none=>rw[q] at e; cases e
 | some o =>
  rw[q] at e
  have e':(b,o)=p:=Option.some.inj e
  subst e'
  exact⟨hb,q⟩
theorem Inv.pinned {pins:List (Addr × Obj)}{σ:St}{H:Hp}{s:Shared}{fp:List Addr}(I:Inv X pins σ H s)(hf:∀ b∈fp,ig X pins H b)(ho:∀ b∈fp,∃ o,s.heap.get? b=some o/\∀ v,o.data≠.cell v):Inv X (pins++iA fp s.heap) σ H s :=
 I.pins_of λ p hp=>(List.mem_append.mp hp).elim (λ z=>I.pin p (ze _ z)) λ z=>by
  obtain⟨hb,e⟩:=om z
  obtain⟨f0,f1,f2,_⟩:=hf p.1 hb
  obtain⟨o,e',d⟩:=ho p.1 hb
  rw[e] at e'; cases e'
  exact⟨e,f0,f1,f2,d⟩
theorem Inv.unpinned {pins pl:List (Addr × Obj)}{σ:St}{H:Hp}{s:Shared}(I:Inv X (pins++pl) σ H s):Inv X pins σ H s:=I.pins_of λ p hp=>I.pin p (ze _ (zx _ hp))
theorem sG {iter:Expr}{body:List Stmt}{wi:TI}{g:TG}{tb:TS}{pos:Pos}(hp:PassesOwn (model X.prog X.w) X.A X.env X.xe)(hc:X.calm=true)(hi:PI X tg iter wi)(hg:PG X tg g)(hb:PSs X body tb)
  (hs:autoParam (∀ x,foldedSetIterable iter X.env x=pure x) Au.h3._auto_1):PS X (.For tg iter body [] pos) (ym wi g tb):=by
 intro pins s σ H D I h
 refine wpAny_For (thn (hi pins s σ H _ I h) λ v s1 h1=>thn h1 λ itv s2 h2=>?_) hs
 obtain⟨it,fp,tn,J,H2,e,I2,T,st2,f2,W,⟨m0,w0⟩,turn⟩:=h2
 subst e
 have stat:∀ {H':Hp},(∀ b∈fp,H' b=none)->∀ b∈fp,ig X pins H' b:=λ hn b hb=>⟨hn b hb,(f2 b hb).2⟩
 refine codeAny_forLoop_any (λ n s'=>∃ i σ' H',Inv X pins σ' H' s'/\tn i s'.heap/\(∀ b∈fp,H' b=none)/\W i n σ' H') ?_ m0 ⟨0,σ,H2,I2,st2,λ b hb=>(f2 b hb).1,w0⟩
 rintro n s3 ⟨i,σ3,H3,I3,st3,fr3,w3⟩
 rcases turn i n σ3 H3 w3 with ⟨stop,qn⟩|⟨go,N,hN,step⟩
 ·refine wpAny_passesOwn hp (thn (T.done X rfl rfl rfl hc i pins s3 σ3 H3 X.xe I3 (stat fr3) st3 stop) λ r s4 ⟨hr,I4⟩=>?_)
  subst hr
  exact wpAny_execs_nil ⟨σ3,H3,I4,qn⟩
 ·refine wpAny_passesOwn hp (thn (T.item X rfl rfl rfl hc i pins s3 σ3 H3 X.xe I3 (stat fr3) st3 go) λ r s4 ⟨u,hr,h4⟩=>?_)
  subst hr
  refine wpAny_passesOwn hp (thn h4 λ _ s5 ⟨x,H5,I5,r5,y5,st5,fr5⟩=>?_)
  have I5':=I5.pinned (stat fr5) (T.obj _ _ st5)
  refine wpAny_passesOwn hp (thn (hg _ s5 σ3 H5 x u _ I5' r5 (step x H5 y5)) λ _ s6 ⟨σ6,H6,I6,q6⟩=>?_)
  refine wpAny_passesOwn hp (thn (hb _ s6 σ6 H6 _ I6 q6) λ f s7 q7=>?_)
  have again:∀ {σ7:St} {H7:Hp},Inv X (pins++iA fp s5.heap) σ7 H7 s7->N σ7 H7->∃ m,m<n/\∃ i σ' H',Inv X pins σ' H' s7/\tn i s7.heap/\(∀ b∈fp,H' b=none)/\W i m σ' H':=λ {σ7 H7} I7 n7=>by
   obtain⟨m',hm,w7⟩:=hN σ7 H7 n7
   refine⟨m',hm,i+1,σ7,H7,I7.unpinned,T.keep _ _ _ st5 λ b hb o e=>(I7.pin (b,o) (ze _ (ze _ (dk hb e)))).1,λ b hb=>?_,w7⟩
   obtain⟨o,e,d⟩:=T.obj _ _ st5 b hb
   exact(I7.pin (b,o) (ze _ (ze _ (dk hb e)))).2.1
  cases f with
  | next=>obtain⟨σ7,H7,I7,n7⟩:=q7; exact again I7 n7
  | cont=>obtain⟨σ7,H7,I7,n7⟩:=q7; exact again I7 n7
  | brk=>obtain⟨σ7,H7,I7,q7⟩:=q7; exact⟨σ7,H7,I7.unpinned,q7⟩
  | ret v=>obtain⟨x7,σ7,H7,I7,r7,q7⟩:=q7; exact⟨x7,σ7,H7,I7.unpinned,r7,q7⟩
end
noncomputable abbrev R2:=V->V->Hp->VK->Prop
noncomputable def OpR (X:Cx)(f:Value->Value->Sem Value)(r:R2):Prop :=
 ∀ (pins:List (Addr × Obj)) (s:Shared) (σ:St) (H:Hp) (x y:V) (v u:Value) (Q:VK),Inv X pins σ H s->RelV x v->RelV y u->r x y H Q ->
  wpAny (model X.prog X.w) X.A (f v u) (EP X pins σ Q) X.xe s
noncomputable def UnR (X:Cx)(f:Value->Sem Value)(r:V->Hp->VK->Prop):Prop :=
 ∀ (pins:List (Addr × Obj)) (s:Shared) (σ:St) (H:Hp) (x:V) (v:Value) (Q:VK),Inv X pins σ H s->RelV x v->r x H Q ->
  wpAny (model X.prog X.w) X.A (f v) (EP X pins σ Q) X.xe s
noncomputable def cM (X:Cx)(f:Value)(r:List V->Hp->VK->Prop):Prop :=
 ∀ (pins:List (Addr × Obj)) (s:Shared) (σ:St) (H:Hp) (xs:List V) (us:List Value) (Q:VK),Inv X pins σ H s->Vals xs us->r xs H Q ->
  wpAny (model X.prog X.w) X.A (call f us) (EP X pins σ Q) X.xe s
noncomputable def tOp (r:R2)(ta tb:TE):TE:=λ σ H Q=>ta σ H λ x H1=>tb σ H1 λ y H2=>r x y H2 Q
noncomputable def tUn (r:V->Hp->VK->Prop)(ta:TE):TE:=λ σ H Q=>ta σ H λ x H1=>r x H1 Q
noncomputable def rI (C:Int->Int->Prop)(g:Int->Int->V):R2:=λ x y H Q=>∃ i j,x=.int i/\y=.int j/\C i j/\Q (g i j) H
noncomputable def rI0 (g:Int->Int->V):R2:=λ x y H Q=>∃ i j,x=.int i/\y=.int j/\Q (g i j) H
noncomputable def rU (g:Int->V):V->Hp->VK->Prop:=λ x H Q=>∃ i,x=.int i/\Q (g i) H
section
variable {X:Cx}{a b c:Expr}{ta tb tc:TE}{pos:Pos}
theorem wK (ha:PE X a ta)(hb:PE X b tb){pins:List (Addr × Obj)}{s:Shared}{σ:St}{H:Hp}{R:V->V->Hp->Prop}(I:Inv X pins σ H s)
  (h:ta σ H λ x H1=>tb σ H1 λ y H2=>R x y H2) {Q:Value->Shared->Prop} {f:Value->Value->Sem Value}
  (hf:∀ v u s2 x y H2,Inv X pins σ H2 s2->RelV x v->RelV y u->R x y H2->wpAny (model X.prog X.w) X.A (f v u) Q X.xe s2) :
  wpAny (model X.prog X.w) X.A (eval a X.env) (λ v s₁=>wpAny (model X.prog X.w) X.A (eval b X.env) (λ u s₂=>wpAny (model X.prog X.w) X.A (f v u) Q X.xe s₂) X.xe s₁) X.xe s:=by
 refine thn (ha pins s σ H _ I h) λ v s1 ⟨x,H1,I1,r1,q1⟩=>?_
 refine thn (hb pins s1 σ H1 _ I1 q1) λ u s2 ⟨y,H2,I2,r2,q2⟩=>?_
 exact hf v u s2 x y H2 I2 r1 r2 q2
theorem u5 {op:Operator}{r:R2}(ho:OpR X (binaryOp op) r)(ha:PE X a ta)(hb:PE X b tb):PE X (.BinOp a op b pos) (tOp r ta tb):=by
 intro pins s σ H Q I h
 exact wpAny_BinOp (wK ha hb I h λ v u s2 x y H2 I2 rx ry q=>ho pins s2 σ H2 x y v u Q I2 rx ry q)
theorem xQ {op:UnaryOp}{r:V->Hp->VK->Prop}(ho:UnR X (unaryOp op) r)(ha:PE X a ta):PE X (.UnaryOp op a pos) (tUn r ta):=by
 intro pins s σ H Q I h
 exact UnaryOp_ (thn (ha pins s σ H _ I h) λ v s1 ⟨x,H1,I1,r1,q1⟩=>ho pins s1 σ H1 x v Q I1 r1 q1)
theorem opI {f:Value->Value->Sem Value}{C:Int->Int->Prop}{g:Int->Int->Int}
  (rule:∀ (i j:Int) (t u:Tok) (s:Shared) (Q:Value->Shared->Prop) (E:Value->Shared->Prop),C i j->Q (.int (g i j) s.toks) { s with toks:=s.toks+1 }->wpAny (model X.prog X.w) X.A (f (.int i t) (.int j u)) Q E s) :
  OpR X f (rI C λ i j=>.int (g i j)):=by
 intro pins s σ H x y v u Q I rx ry h
 obtain⟨i,j,rfl,rfl,hc,q⟩:=h
 obtain⟨t,rfl⟩:=rx
 obtain⟨t',rfl⟩:=ry
 exact rule i j t t' s _ _ hc ⟨.int (g i j),H,I.tok _,⟨_,rfl⟩,q⟩
theorem xP {f:Value->Value->Sem Value}{g:Int->Int->Int}
  (rule:∀ (i j:Int) (t u:Tok) (s:Shared) (Q:Value->Shared->Prop) (E:Value->Shared->Prop),Q (.int (g i j) s.toks) { s with toks:=s.toks+1 }->wpAny (model X.prog X.w) X.A (f (.int i t) (.int j u)) Q E s) :
  OpR X f (rI0 λ i j=>.int (g i j)):=by
 intro pins s σ H x y v u Q I rx ry h
 obtain⟨i,j,rfl,rfl,q⟩:=h
 obtain⟨t,rfl⟩:=rx
 obtain⟨t',rfl⟩:=ry
 exact rule i j t t' s _ _ ⟨.int (g i j),H,I.tok _,⟨_,rfl⟩,q⟩
theorem tY {f:Value->Value->Sem Value}{g:Int->Int->Bool}
  (rule:∀ (i j:Int) (t u:Tok) (s:Shared) (Q:Value->Shared->Prop) (E:Value->Shared->Prop),Q (.bool (g i j)) s->wpAny (model X.prog X.w) X.A (f (.int i t) (.int j u)) Q E s) :
  OpR X f (rI0 λ i j=>.bl (g i j)):=by
 intro pins s σ H x y v u Q I rx ry h
 obtain⟨i,j,rfl,rfl,q⟩:=h
 obtain⟨t,rfl⟩:=rx
 obtain⟨t',rfl⟩:=ry
 exact rule i j t t' s _ _ ⟨.bl (g i j),H,I,rfl,q⟩
noncomputable def CMul (i j:Int):Prop:=(-(2 ^ 64)<i/\i<2 ^ 64)\/(-(2 ^ 64)<j/\j<2 ^ 64)
theorem CMul.ok {i j:Int}(h:CMul i j):IntMulOk i j:=by
 rcases h with ⟨h1,h2⟩|⟨h1,h2⟩
 ·exact .of_left (intBits_le_64 h1 h2)
 ·exact .of_right (intBits_le_64 h1 h2)
theorem ma (k:Nat):(0:Int)<=2 ^ k:=by
 rw[two_pow_cast]
 exact Int.natCast_nonneg _
theorem vU:OpR X (binaryOp .Add) (rI0 λ i j=>.int (i+j)):=xP λ _ _ _ _ _ _ _ q=>add_int q
theorem sF:OpR X (binaryOp .Sub) (rI0 λ i j=>.int (i-j)):=xP λ _ _ _ _ _ _ _ q=>sub_int q
theorem vQ:OpR X (binaryOp .Mod) (rI (λ _ j=>0<j) λ i j=>.int (i%j)):=opI λ i j _ _ _ _ _ hc q=>by
 have h1:(0:Int)<j:=hc
 exact mod_int' (by omega) (by rw[Int.fmod_eq_emod_of_nonneg i (by omega)]; exact q)
theorem wd:OpR X (binaryOp .RShift) (rI (λ _ j=>0<=j) λ i j=>.int (i/2 ^ j.toNat)):=opI λ i j _ _ _ _ _ hc q =>
 rshift_int hc (by rw[Ah i (ma _)]; exact q)
theorem unI {f:Value->Sem Value}{g:Int->Int}
  (rule:∀ (i:Int) (t:Tok) (s:Shared) (Q:Value->Shared->Prop) (E:Value->Shared->Prop),Q (.int (g i) s.toks) { s with toks:=s.toks+1 }->wpAny (model X.prog X.w) X.A (f (.int i t)) Q E s) :
  UnR X f (rU λ i=>.int (g i)):=by
 intro pins s σ H x v Q I rx h
 obtain⟨i,rfl,q⟩:=h
 obtain⟨t,rfl⟩:=rx
 exact rule i t s _ _ ⟨.int (g i),H,I.tok _,⟨_,rfl⟩,q⟩
theorem vD:UnR X (unaryOp .USub) (rU λ i=>.int (-i)):=unI λ _ _ _ _ _ q=>neg_int q
end
noncomputable def scal:V->V->Bool
 | .non,.non=>true | .non,.int _=>true | .int _,.non=>true | .non,.bl _=>true | .bl _,.non=>true | .non,.str _=>true | .str _,.non=>true
 | .int _,.int _=>true | .bl _,.bl _=>true | .str _,.str _=>true | .byt _,.byt _=>true
 | .int _,.str _=>true | .str _,.int _=>true | .bl _,.str _=>true | .str _,.bl _=>true
 | _,_=>false
section
variable {X:Cx}{a b c:Expr}{ta tb tc:TE}{pos:Pos}
theorem xp:OpR X (compareOp .Lt) (rI0 λ i j=>.bl (decide (i<j))):=tY λ _ _ _ _ _ _ _ q=>lt_int q
theorem xV:OpR X (compareOp .LtE) (rI0 λ i j=>.bl (decide (i<=j))):=tY λ _ _ _ _ _ _ _ q=>le_int q
theorem uV:OpR X (compareOp .Gt) (rI0 λ i j=>.bl (decide (j<i))):=tY λ _ _ _ _ _ _ _ q=>gt_int q
theorem xG:OpR X (compareOp .GtE) (rI0 λ i j=>.bl (decide (j<=i))):=tY λ _ _ _ _ _ _ _ q=>ge_int q
theorem OpR.or {f:Value->Value->Sem Value}{r r':R2}(h:OpR X f r)(h':OpR X f r'):OpR X f (λ x y H Q=>r x y H Q\/r' x y H Q):=by
 intro pins s σ H x y v u Q I rx ry q
 rcases q with q|q
 ·exact h pins s σ H x y v u Q I rx ry q
 ·exact h' pins s σ H x y v u Q I rx ry q
theorem nomark (b:Expr){op:CmpOp}(h:autoParam (op≠.In) Au.h2._auto_1)(h2:autoParam (op≠.NotIn) Au.h2._auto_1):behindInMarks op b=false:=by
 have e1:(op == CmpOp.In)=false:=by cases op <;>first|rfl|exact absurd rfl h
 have e2:(op == CmpOp.NotIn)=false:=by cases op <;>first|rfl|exact absurd rfl h2
 cases b <;>simp[behindInMarks,e1,e2]
theorem uK {op:CmpOp}{r:R2}(ho:OpR X (compareOp op) r)(ha:PE X a ta)(hb:PE X b tb)(hm:behindInMarks op b=false):PE X (.Compare a [op] [b] pos) (tOp r ta tb):=by
 intro pins s σ H Q I h
 exact wpAny_Compare1 (wK ha hb I h λ v u s2 x y H2 I2 rx ry q=>ho pins s2 σ H2 x y v u Q I2 rx ry q) hm
noncomputable def xE (t:TE):TT:=λ σ H Q=>t σ H λ x H'=>∃ k,x=.bl k/\Q k H'
theorem mK {op:CmpOp}{r:R2}(ho:OpR X (compareOp op) r)(ha:PE X a ta)(hb:PE X b tb)(hm:behindInMarks op b=false):PT X (.Compare a [op] [b] pos) (xE (tOp r ta tb)):=by
 intro pins s σ H Q I h
 refine wpAny_isTrue_Compare1 (thn (ha pins s σ H _ I h) λ v s1 ⟨x,H1,I1,r1,q1⟩=>thn (hb pins s1 σ H1 _ I1 q1) λ u s2 ⟨y,H2,I2,r2,q2⟩ =>
  thn (ho pins s2 σ H2 x y v u _ I2 r1 r2 q2) λ c s3 ⟨z,H3,I3,r3,k,e,q3⟩=>?_) hm
 subst e
 cases r3
 exact wpAny_truthy_bool ⟨H3,I3,q3⟩
theorem ir:(sizeLine:Nat)<2 ^ 63:=by rw[sizeLine_eq]; decide
theorem lC {x:V}{us:List Value}(r:Vals [x] us):∃ u,us=[u]/\RelV x u:=by
 cases r with
 | cons r1 r2=>cases r2; exact⟨_,rfl,r1⟩
theorem jm {x y:V}{us:List Value}(r:Vals [x,y] us):∃ u w',us=[u,w']/\RelV x u/\RelV y w':=by
 cases r with
 | cons r1 r2 =>
  cases r2 with
  | cons r3 r4=>cases r4; exact⟨_,_,rfl,r1,r3⟩
theorem pK (hc:X.calm=true):cM X (.builtin "max") (λ xs H Q=>∃ i j,xs=[.int i,.int j]/\Q (.int (if j > i then j else i)) H):=by
 intro pins s σ H xs us Q I r h
 obtain⟨i,j,rfl,q⟩:=h
 obtain⟨u,w',rfl,⟨t,rfl⟩,⟨t',rfl⟩⟩:=jm r
 refine max_two_ints (I.ok.hd hc) λ h' tk k=>⟨_,H,I.kept k,?_,q⟩
 by_cases hj:j > i
 ·rw[if_pos hj,if_pos hj]; exact⟨_,rfl⟩
 ·rw[if_neg hj,if_neg hj]; exact⟨_,rfl⟩
theorem oq (hc:X.calm=true):cM X (.builtin "min") (λ xs H Q=>∃ i j,xs=[.int i,.int j]/\Q (.int (if j<i then j else i)) H):=by
 intro pins s σ H xs us Q I r h
 obtain⟨i,j,rfl,q⟩:=h
 obtain⟨u,w',rfl,⟨t,rfl⟩,⟨t',rfl⟩⟩:=jm r
 refine min_two_ints (I.ok.hd hc) λ h' tk k=>⟨_,H,I.kept k,?_,q⟩
 by_cases hj:j<i
 ·rw[if_pos hj,if_pos hj]; exact⟨_,rfl⟩
 ·rw[if_neg hj,if_neg hj]; exact⟨_,rfl⟩
end
structure ObjM (h:Heap)(x dx C:Addr)(mA:Str->Option Value):Prop where
 obj:h.get? x=some (PySem.W.instObj C dx)
 ns:h.Ns1 dx mA
 ne:dx≠x
section
variable {prog:Program}{w:World}{A:Around}{E:Value->Shared->Prop}{s:Shared}{K:PySem.W.Frag}{x dx C f:Addr}{mA:Str->Option Value}{name:Str}{v:Value}
end
theorem RelO.some_of {v:V}{o:Option Value}(r:RelO (some v) o):∃ u,o=some u/\RelV v u:=by
 cases o with
 | none=>exact(show False from r).elim
 | some u=>exact⟨u,rfl,r⟩
section
variable {P:Program}{w:World}{H H':Hp}{h h':Heap}{a C dx:Addr}{fs fs':List (Str × V)}
end
structure Cls (K:PySem.W.Frag)(C:Addr):Prop where
 pg:PySem.W.plainGet K C Str.empty=true
 hd:PySem.W.hasDictIn K C=true
 po:PySem.W.plainOver K C=true
 sa:PySem.W.findIn K (.ref C) "__setattr__"=some (some (.builtin "object.__setattr__"))
theorem Cls.get {K:PySem.W.Frag}{C:Addr}(c:Cls K C)(f:Str):PySem.W.plainGet K C f=true:=c.pg
structure Con (K:PySem.W.Frag)(C:Addr)(f:Str)(v:V)(u:Value):Prop where
 at_:PySem.W.findIn K (.ref C) f=some (some u)
 rel:RelV v u
 get:PySem.W.specialIn K u "__get__"=some none
 cp:PySem.W.copiedNames.contains f=false
structure Meth (K:PySem.W.Frag)(C:Addr)(m:Str)(f:Addr):Prop where
 at_:PySem.W.findIn K (.ref C) m=some (some (.ref f))
 fn:PySem.W.isFn K (.ref f)=true
 kp:PySem.W.keepIn K (.ref f)=true
section
variable {X:Cx}{pins:List (Addr × Obj)}{σ:St}{H:Hp}{s:Shared}{a C dx:Addr}{fs:List (Str × V)}{f:Str}{v:V}{A:Around}{E:Value->Shared->Prop}
end
section
variable {X:Cx}{o e value:Expr}{f:Str}{pos pos' tpos:Pos}{ta tv:TE}
end
section
variable {X:Cx}{pins:List (Addr × Obj)}{σ:St}{H:Hp}{s:Shared}{A:Around}{E:Value->Shared->Prop}{Q:Value->Shared->Prop}{c:Value}{b:Bool}
inductive TyOf (K:PySem.W.Frag)(H:Hp):V->Value->Prop where
 | non:TyOf K H .non (.type "NoneType")
 | bl (x:Bool):TyOf K H (.bl x) (.type "bool")
 | int (i:Int):TyOf K H (.int i) (.type "int")
 | str (x:Str):TyOf K H (.str x) (.type "str")
 | flt (x:UInt64):TyOf K H (.flt x) (.type "float")
 | lst {a:Addr} {xs:List V} (e:H a=some (.lst xs)):TyOf K H (.ref a) (.type "list")
 | frz {a:Addr} {o:Obj} {xs:List V} (e:H a=some (.frz o (.lst xs))):TyOf K H (.ref a) (.type "list")
 | tup {a:Addr} {xs:List V} (e:H a=some (.tup xs)):TyOf K H (.ref a) (.type "tuple")
 | dK {a:Addr} {kvs:List (Key × V)} (e:H a=some (.dK kvs)):TyOf K H (.ref a) (.type "dict")
 | dT {a:Addr} {kvs:List (List Key × V)} (e:H a=some (.dT kvs)):TyOf K H (.ref a) (.type "dict")
 | ins {a C dx:Addr} {fs:List (Str × V)} (e:H a=some (.ins C dx fs)) (cl:Cls K C) (ha:PySem.W.findIn K (.ref C) "__class__"=some (some (.builtin "object.__class__")))
   (hn:PySem.W.specialIn K (.builtin "object.__class__") "__get__"=some (some (.builtin "getset_descriptor.__get__"))) (htk:PySem.W.takesIn K (.builtin "object.__class__")=some true)
   (hm:PySem.W.mroIn K C (.type "object")=some true):TyOf K H (.ref a) (.ref C)
end
structure Room (k:Nat)(A:Around):Prop where
 hd:A.handled=none
 dp:A.depth+3*k+5<recursionLimit
 un:A.units+16*k+200<cLine
theorem Room.mono {j k:Nat}{A:Around}(r:Room k A)(h:j<=k):Room j A:=⟨r.hd,by have:=r.dp; omega,by have:=r.un; omega⟩
theorem Room.deeper {k:Nat}{A:Around}(r:Room (k+1) A)(env:Env):Room k (A.deeper env) :=
 ⟨r.hd,by have:=r.dp; show A.depth+1+3*k+5<_; omega,by have:=r.un; show A.units+3+16*k+200<_; omega⟩
theorem Room.depth {k:Nat}{A:Around}(r:Room k A):A.depth<recursionLimit:=by have:=r.dp; omega
theorem Room.units {k:Nat}{A:Around}(r:Room k A):A.units+64<cLine:=by have:=r.un; omega
noncomputable def yp:TA:=λ _ H Q=>Q [] H
noncomputable def xR (ta:TE)(tr:TA):TA:=λ σ H Q=>ta σ H λ x H1=>tr σ H1 λ xs H2=>Q (x::xs) H2
section
variable {X:Cx}{e:Expr}{es:List Expr}{te:TE}{t:TA}{pos:Pos}
theorem bu:PA X [] yp:=λ _ _ _ _ H Q I h=>Calls.spliced_nil ⟨[],H,I,.nil,h⟩
theorem aG (ha:PE X e te)(hr:PA X es t)(hs:autoParam (starEach (e::es) X.env=(false,eval e X.env)::starEach es X.env) Au.h4._auto_1):PA X (e::es) (xR te t):=by
 intro pos pins s σ H Q I h
 rw[hs]
 show wpAny _ _ (spliced ((false,eval e X.env)::backTo pos (starEach es X.env))) _ _ s
 refine Calls.spliced_cons (thn (ha pins s σ H _ I h) λ u s1 ⟨x,H1,I1,r1,q1⟩=>?_)
 exact thn (hr pos pins s1 σ H1 _ I1 q1) λ us s2 ⟨xs,H2,I2,r2,q2⟩=>⟨x::xs,H2,I2,.cons r1 r2,q2⟩
noncomputable def yd (t:TA):TE:=λ σ H Q=>t σ H λ xs H1=>xs.length<=sizeLine/\∀ p,H1 p=none->Q (.ref p) (upd H1 p (.tup xs))
noncomputable def yb (t:TA):TE:=λ σ H Q=>t σ H λ xs H1=>xs.length<=sizeLine/\∀ p,H1 p=none->Q (.ref p) (upd H1 p (.lst xs))
theorem lZ {x1}(h:PA X es t):PE X (.Tuple es x1 pos) (yd t):=by
 intro pins s σ H Q I hq
 refine wpAny_Tuple_spliced (thn (h pos pins s σ H _ I hq) λ us s1 ⟨xs,H1,I1,r,z,q⟩=>⟨by rw[<- r.length]; exact z,?_⟩)
 have hf:H1 s1.heap.objs.size=none:=I1.hok.fresh (y4 _)
 refine⟨.ref s1.heap.objs.size,upd H1 s1.heap.objs.size (.tup xs),I1.laid (t':=s1.toks) (λ b u e=>Heap.get?_push_of_some _ e) (y4 _) ?_,rfl,q _ hf⟩
 exact⟨z,us,r,⟨_,Heap.get?_push_size _ rfl,rfl,_,rfl⟩⟩
theorem qv (h:PA X es t):PE X (.List es pos) (yb t):=by
 intro pins s σ H Q I hq
 refine wpAny_List_spliced (thn (h pos pins s σ H _ I hq) λ us s1 ⟨xs,H1,I1,r,z,q⟩=>⟨by rw[<- r.length]; exact z,?_⟩)
 have hf:H1 s1.heap.objs.size=none:=I1.hok.fresh (y4 _)
 refine⟨.ref s1.heap.objs.size,upd H1 s1.heap.objs.size (.lst xs),I1.laid (t':=s1.toks) (λ b u e=>Heap.get?_push_of_some _ e) (y4 _) ?_,rfl,q _ hf⟩
 exact⟨z,us,0,r,Heap.get?_push_size _ rfl⟩
end
noncomputable abbrev Sp:=List V->Hp->VK->XK->Prop
noncomputable abbrev CXT:=List Env->Hp->Shared->XK->Value->Shared->Prop
structure Env0 (P:Program)(w:World)(K:PySem.W.Frag)(mg:Str->Option Value)(base:Heap)(A:Around)(outer:List Env)(s:Shared)(H:Hp):Prop where
 frames:A.frames=some outer
 mod:Mod K mg base
 bs:∀ b o,base.get? b=some o->s.heap.get? b=some o/\H b=none
 bsz:base.objs.size<=s.heap.objs.size
 funs:s.heap.FunFrames base outer
 frf:∀ b∈frs outer,H b=none
 hok:HOk P w H s.heap
 bare:AllBare s.gens
noncomputable def CE (outer:List Env)(P:Program)(w:World)(H:Hp)(s:Shared)(Q:VK)(u:Value)(s':Shared):Prop :=
 ∃ v H',s'.os=s.os/\AllBare s'.gens/\Un (frs outer) [] H H' s.heap s'.heap/\HOk P w H' s'.heap/\RelV v u/\Q v H'
noncomputable def CR (CX:CXT)(outer:List Env)(P:Program)(w:World)(H:Hp)(s:Shared)(Q:VK)(E:XK)(r:Result)(s':Shared):Prop :=
 match r with
 | .ok (.ret u)=>CE outer P w H s Q u s'
 | .ok _=>False
 | .error e=>CX outer H s E e s'
structure FnOk (P:Program)(w:World)(K:PySem.W.Frag)(mg:Str->Option Value)(base:Heap)(CX:CXT)(k:Nat)(f:Addr)(fd:FuncData)(ps:List Str)(sp:Sp):Prop where
 len:∀ vs H Q E,sp vs H Q E->vs.length=ps.length
 run:∀ (A:Around) (outer:List Env) (s:Shared) (H:Hp) (args:Args) (us:List Value) (vs:List V) (Q:VK) (E:XK),Room k A->Env0 P w K mg base A outer s H->BindsTo s fd args (ps.zip us)->Vals vs us->sp vs H Q E ->
  codeAny (model P w) A (.call (.ref f) args) (CR CX outer P w H s Q E) s
theorem FnOk.mono {P:Program}{w:World}{K:PySem.W.Frag}{mg:Str->Option Value}{base:Heap}{CX:CXT}{j k:Nat}{f:Addr}{fd:FuncData}{ps:List Str}{sp:Sp}(F:FnOk P w K mg base CX j f fd ps sp)(h:j<=k) :
  FnOk P w K mg base CX k f fd ps sp:=⟨F.len,λ A outer s H args us vs Q E hr=>F.run A outer s H args us vs Q E (hr.mono h)⟩
theorem FnOk.imp {P:Program}{w:World}{K:PySem.W.Frag}{mg:Str->Option Value}{base:Heap}{CX:CXT}{k:Nat}{f:Addr}{fd:FuncData}{ps:List Str}{sp sp':Sp}(F:FnOk P w K mg base CX k f fd ps sp)
  (h:∀ vs H Q E,sp' vs H Q E->sp vs H Q E):FnOk P w K mg base CX k f fd ps sp' :=
 ⟨λ vs H Q E q=>F.len vs H Q E (h _ _ _ _ q),λ A outer s H args us vs Q E hr he hb hv hs=>F.run A outer s H args us vs Q E hr he hb hv (h _ _ _ _ hs)⟩
section
variable {X:Cx}{pins:List (Addr × Obj)}{σ:St}{H:Hp}{s s':Shared}
theorem Inv.env0 (I:Inv X pins σ H s):Env0 X.prog X.w X.K X.mg X.base X.A X.stack s H :=
 ⟨I.ok.frames,I.ok.mod,I.bs,zK I.ok.bsz I.sz,I.stack,I.stkFree,I.hok,I.bare⟩
theorem Inv.after {Q:VK}{u:Value}(I:Inv X pins σ H s)(h:CE X.stack X.prog X.w H s Q u s'):EP X pins σ Q u s':=by
 obtain⟨v,H',os,bare,un,hok,r,q⟩:=h
 obtain⟨hh,g,d,t,os'⟩:=s'
 obtain rfl:os'=s.os:=os
 exact⟨v,H',I.call (h':=hh) (g':=g) (d':=d) (t':=t) (ch:=[]) un hok bare (λ b z=>absurd z (by simp)),r,q⟩
end
noncomputable def Binds (K:PySem.W.Frag)(fd:FuncData)(ps:List Str)(ds:List Value):Prop :=
 ∀ (s:Shared) (us:List Value),K.In s.heap->(us++ds).length=ps.length->BindsTo s fd ⟨us,[]⟩ (ps.zip (us++ds))
theorem Binds.all {K:PySem.W.Frag}{fd:FuncData}{ps:List Str}(h:∀ us:List Value,us.length=ps.length->bindArgs fd ⟨us,[]⟩=pure (ps.zip us)):Binds K fd ps []:=λ s us _ hl=>by
 rw[zz] at hl ⊢
 exact .of_eq (h us hl)
section
variable {X:Cx}{CX:CXT}{k:Nat}{f C:Addr}{fd:FuncData}{ps:List Str}{sp:Sp}{dvs:List V}{ds:List Value}{E:XK}{x m:Str}{p pos apos:Pos}{e o:Expr}{es:List Expr}{ta:TE}{t:TA}
structure Mk (K:PySem.W.Frag)(C f:Addr):Prop where
 makes:PySem.W.makesIn K C=true
 init:PySem.W.findIn K (.ref C) "__init__"=some (some (.ref f))
 fn:PySem.W.isFn K (.ref f)=true
 kp:PySem.W.keepIn K (.ref C)=true
end
section
variable {X:Cx}{CX:CXT}{k:Nat}{f C:Addr}{fd:FuncData}{ps ks:List Str}{sp:Sp}{E:XK}{x m:Str}{p pos apos kpos:Pos}{e o:Expr}{es:List Expr}{kws:List Keyword}{te ta:TE}{t tk:TA}{nm:Option Str}
structure KBinds (K:PySem.W.Frag)(fd:FuncData)(ps ks:List Str)(g:List Value->List Value->List Value)(gV:List V->List V->List V):Prop where
 to:∀ (s:Shared) (us ws:List Value),K.In s.heap->(g us ws).length=ps.length->BindsTo s fd ⟨us,ks.zip ws⟩ (ps.zip (g us ws))
 rel:∀ {vs:List V} {us:List Value} {zs:List V} {ws:List Value},Vals vs us->Vals zs ws->Vals (gV vs zs) (g us ws)
variable {g:List Value->List Value->List Value}{gV:List V->List V->List V}
end
structure FnScope (N P:List Str)(sc:Scope):Prop where
 kind:sc.kind=.function
 co:sc.isCoroutine=false
 gen:sc.isGenerator=false
 nd:N.Nodup
 pre:N.take P.length=P
 par:∀ x∈P,sc.names.lookup x=some .local\/sc.names.lookup x=some .cell
 nofree:∀ y∈sc.names,y.2≠.free
theorem iX {kindOf:Str->Option NameKind}{x:Str}:∀ {binds:List (Str × Value)} {m:Str->Option Value},(∀ v,(x,v)∉binds)->bindL kindOf binds m x=m x
 | [],_,_=>rfl
 | (n,v)::r,m,h=>by
  unfold bindL
  rw[iX λ w hw=>h w (yM _ hw)]
  split
  ·have:x≠n:=by rintro rfl; exact h v yR
   simp[this]
  ·rfl
theorem jq {kindOf:Str->Option NameKind}{x:Str}:∀ {binds:List (Str × Value)} {m:Str->Option Value},(∀ v,(x,v)∉binds)->bindC kindOf binds m x=m x
 | [],_,_=>rfl
 | (n,v)::r,m,h=>by
  unfold bindC
  rw[jq λ w hw=>h w (yM _ hw)]
  split
  ·rfl
  ·have:x≠n:=by rintro rfl; exact h v yR
   simp[this]
theorem iV {kindOf:Str->Option NameKind}{x:Str}{v:Value}:∀ {P:List Str} {vs:List Value} {i:Nat} {m:Str->Option Value},P.Nodup->P[i]?=some x->vs[i]?=some v->kindOf x=some .local ->
  bindL kindOf (P.zip vs) m x=some v
 | [],_,_,_,_,h,_,_=>by simp at h
 | _::_,[],_,_,_,_,h,_=>by simp at h
 | p::P,w::vs,0,m,nd,h1,h2,hk=>by
  simp at h1 h2; subst h1; subst h2
  show bindL kindOf ((p,w)::P.zip vs) m p=_
  unfold bindL
  rw[iX λ v hv=>(List.nodup_cons.mp nd).1 (AC hv).1,if_pos hk]
  simp
 | p::P,w::vs,i+1,m,nd,h1,h2,hk=>by
  show bindL kindOf ((p,w)::P.zip vs) m x=_
  unfold bindL
  exact iV (i:=i) (List.nodup_cons.mp nd).2 (by simpa using h1) (by simpa using h2) hk
theorem jd {kindOf:Str->Option NameKind}{x:Str}{v:Value}:∀ {P:List Str} {vs:List Value} {i:Nat} {m:Str->Option Value},P.Nodup->P[i]?=some x->vs[i]?=some v->kindOf x≠some .local ->
  bindC kindOf (P.zip vs) m x=some v
 | [],_,_,_,_,h,_,_=>by simp at h
 | _::_,[],_,_,_,_,h,_=>by simp at h
 | p::P,w::vs,0,m,nd,h1,h2,hk=>by
  simp at h1 h2; subst h1; subst h2
  show bindC kindOf ((p,w)::P.zip vs) m p=_
  unfold bindC
  rw[jq λ v hv=>(List.nodup_cons.mp nd).1 (AC hv).1,if_neg hk]
  simp
 | p::P,w::vs,i+1,m,nd,h1,h2,hk=>by
  show bindC kindOf ((p,w)::P.zip vs) m x=_
  unfold bindC
  exact jd (i:=i) (List.nodup_cons.mp nd).2 (by simpa using h1) (by simpa using h2) hk
noncomputable def start (N:List Str)(vs:List V):St:=vs.map some++List.replicate (N.length-vs.length) none
noncomputable def cB (CX:CXT)(P:Program)(w:World)(K:PySem.W.Frag)(mg:Str->Option Value)(base:Heap)(N:List Str)(qual:Str)(scope:Scope)(f:Addr)(cd:Value)(A:Around)(outer:List Env)(s:Shared)(H:Hp)(E:XK):Cx where
 prog:=P
 w:=w
 K:=K
 mg:=mg
 base:=base
 A:=A.deeper (envOfC qual scope s.heap.objs.size f cd)
 N:=N
 s₀:=s
 H₀:=H
 env:=envOfC qual scope s.heap.objs.size f cd
 outer:=outer
 stack:=envOfC qual scope s.heap.objs.size f cd::outer
 ex:=[]
 calm:=true
 fn:=λ _=>true
 pn:=[]
 xe:=λ e s'=>wpAny (model P w) (A.deeper (envOfC qual scope s.heap.objs.size f cd)) (leaving (envOfC qual scope s.heap.objs.size f cd) e) (λ _ s''=>CX outer H s E e s'') (λ e' s''=>CX outer H s E e' s'') s'
theorem lB {sc:Scope}{n:Nat}{x:Str}(h:sc.names.lookup x=some .cell):∃ c,(cellsFrom n sc.names []).lookup x=some c:=by
 have q:=PySem.W.cellsFrom_some sc.names n [] (.inl h)
 exact Option.isSome_iff_exists.mp q
theorem iO {CX:CXT}{P:Program}{w:World}{K:PySem.W.Frag}{mg:Str->Option Value}{base:Heap}{N ps:List Str}{qual:Str}{scope:Scope}{f:Addr}{cd:Value}{A:Around}{outer:List Env}{s s1:Shared}{H:Hp}{E:XK}{us:List Value}{vs:List V}
  (S:FnScope N ps scope) (hd:A.handled=none) (e0:Env0 P w K mg base A outer s H) (hl:vs.length=ps.length) (r:Vals vs us)
  (x:InCallC s s.heap.objs.size (bindL (envOfC qual scope s.heap.objs.size f cd).kindOf (ps.zip us) λ _=>none) (cellsFrom (s.heap.objs.size+1) scope.names []) (bindC (envOfC qual scope s.heap.objs.size f cd).kindOf (ps.zip us) λ _=>none) s1) :
  Inv (cB CX P w K mg base N qual scope f cd A outer s H E) [] (start N vs) H s1:=by
 have hpl:ps.length<=N.length:=by have:=congrArg List.length S.pre; rw[zE] at this; omega
 obtain⟨h1,tk,rfl,hk⟩:=x.done
 have noA:∀ b:Addr,b∉(cB CX P w K mg base N qual scope f cd A outer s H E).ex:=λ b z=>absurd (show b∈([]:List Addr) from z) (by simp)
 refine⟨⟨e0.mod,S.kind,rfl,rfl,y4 _,λ y z c h1 h2=>?_,λ y hy=>?_,λ y c _ h=>?_,λ _=>hd,Around.frames_deeper e0.frames,.inr ⟨rfl,rfl⟩,λ b z=>absurd z (noA b),e0.bs,e0.bsz,λ b _ _=>noA b,λ b z=>absurd z (noA b),e0.funs,e0.frf⟩,
  rfl,e0.bare,Un.kept hk,⟨_,x.toInCall.ns,λ i y v h1 h2 h3=>?_⟩,λ y c h=>⟨_,x.cell y c h⟩,e0.hok.fresh (y4 _),λ y c h=>?_,λ p hp=>absurd (show p∈([]:List (Addr × Obj)) from hp) (by simp),e0.hok.kept hk,?_⟩
 ·exact name_of_addr x.apart (PySem.mem_of_lookup h1) (PySem.mem_of_lookup h2)
 ·have hy:scope.names.lookup y=some .cell\/scope.names.lookup y=some .free:=hy
  rcases hy with hy|hy
  ·exact lB hy
  ·exact absurd rfl (S.nofree _ (PySem.mem_of_lookup hy))
 ·exact AX (x.above y c (PySem.mem_of_lookup h))
 ·have hi:i<vs.length:=by
   unfold start at h2
   by_cases hi:i<vs.length
   ·exact hi
   ·rw[Ai (by simpa using hi)] at h2
    rw[zP] at h2
    split at h2 <;>cases h2
  have ha:vs[i]?=some v:=by
   unfold start at h2
   rw[zF (by simpa using hi),zi] at h2
   cases e:vs[i]? with
   | none=>rw[e] at h2; cases h2
   | some a=>rw[e] at h2; cases h2; rfl
  obtain⟨u,hu,rv⟩:=r.get ha
  have hp:ps[i]?=some y:=by
   rw[<- S.pre,zO (by omega)]; exact h1
  have ndP:ps.Nodup:=by rw[<- S.pre]; exact S.nd.sublist (List.take_sublist _ _)
  refine⟨u,rv,?_⟩
  rcases S.par y (zN hp) with k|k
  ·exact .inl ⟨k,iV ndP hp hu k⟩
  ·obtain⟨c,e⟩:=lB (n:=s.heap.objs.size+1) k
   refine .inr ⟨.inl k,c,e,?_⟩
   have q:=x.cell y c e
   rw[jd ndP hp hu (by show scope.names.lookup y≠_; rw[k]; decide)] at q
   exact q
 ·exact e0.hok.fresh (AX (x.above y c (PySem.mem_of_lookup h)))
 ·unfold start
  show _=N.length
  rw[za,yP,zA]
  omega
theorem uW {CX:CXT}{P:Program}{w:World}{K:PySem.W.Frag}{mg:Str->Option Value}{base:Heap}{k:Nat}{f:Addr}{name qual:Str}{params:Arguments}{body:List Stmt}{scope:Scope}{dV kV doc pm cdv ct oc:Value}{an od:Option Addr}
  {osl:Array (Option Value)} {N ps:List Str} {sp:Sp} (lk:K.lookup f=some ⟨oc,od,.func (PySem.W.fnOf name qual params body scope dV kV doc pm an cdv ct),osl⟩) (hcd:PySem.W.codeIn K cdv qual=true) (S:FnScope N ps scope)
  (len:∀ vs H Q E,sp vs H Q E->vs.length=ps.length)
  (hbody:∀ (A:Around) (outer:List Env) (s:Shared) (H:Hp) (vs:List V) (Q:VK) (E:XK),Room k (A.deeper (envOfC qual scope s.heap.objs.size f cdv))->sp vs H Q E ->
   ∃ t,PSs (cB CX P w K mg base N qual scope f cdv A outer s H E) body t/\t { nx:=λ _ H'=>Q .non H',rt:=Q } (start N vs) H) :
  FnOk P w K mg base CX (k+1) f (PySem.W.fnOf name qual params body scope dV kV doc pm an cdv ct) ps sp:=by
 refine⟨len,λ A outer s H args us vs Q E hr e0 hb r hsp=>?_⟩
 have hl:=len _ _ _ _ hsp
 have KX:K.In s.heap:=e0.mod.kin.keeps λ b o e=>(e0.bs b o e).1
 have lim:s.heap.NoLimit:=e0.mod.nolimit.keeps λ b o e=>(e0.bs b o e).1
 have hkind:∀ y∈ps.zip us,scope.names.lookup y.1=some .local\/(scope.names.lookup y.1=some .cell/\((cellsFrom (s.heap.objs.size+1) scope.names []).lookup y.1).isSome=true):=λ⟨n,v⟩ hy=>by
  rcases S.par n (AC hy).1 with q|q
  ·exact .inl q
  ·exact .inr ⟨q,PySem.W.cellsFrom_some _ _ _ (.inl q)⟩
 refine codeAny_call_function hr.depth (KX _ _ lk) rfl S.co S.gen rfl (PySem.W.codeRec_of KX hcd) (hb _ _ _ _ ?_)
 refine wpAny_newFunctionEnv_cells S.kind hkind λ env he s1 x=>?_
 subst he
 refine⟨lim.keeps x.toInCall.keep,codeAny_func ?_⟩
 obtain⟨t,ht,hq⟩:=hbody A outer s H vs Q E (hr.deeper _) hsp
 have I:Inv (cB CX P w K mg base N qual scope f cdv A outer s H E) [] (start N vs) H s1:=iO S hr.hd e0 hl r x
 refine wpAny_mono (ht [] s1 (start N vs) H _ I hq) (λ fl s' hs=>?_) λ e s' hs=>hs
 have fin:∀ {σ':St} {H':Hp} {v:V} {u:Value},Inv (cB CX P w K mg base N qual scope f cdv A outer s H E) [] σ' H' s'->RelV v u->Q v H'->CE outer P w H s Q u s' :=
  λ {σ' H' v u} J rv q=>⟨v,H',J.os,J.bare,J.base,J.hok,rv,q⟩
 cases fl with
 | ret u =>
  obtain⟨v,σ',H',J,rv,q⟩:=hs
  exact fin J rv q
 | next =>
  obtain⟨σ',H',J,q⟩:=hs
  exact fin (v:=V.non) (u:=Value.none) J rfl q
 | brk =>
  obtain⟨_,_,_,q⟩:=hs
  exact False.elim q
 | cont =>
  obtain⟨_,_,_,q⟩:=hs
  exact False.elim q
section
variable {X:Cx}{x:Str}{p pos:Pos}{e:Expr}{es:List Expr}{t:TA}{id T:String}{r:List V->Hp->VK->Prop}
noncomputable def tCB (r:List V->Hp->VK->Prop)(t:TA):TE:=λ σ H Q=>t σ H λ vs H1=>r vs H1 Q
theorem cZ (hc:cM X (.builtin id) r)(hg:Gl X x)(hm:X.mg x=none)(hv:bootBuiltins x=some (.builtin id))(ha:PA X (e::es) t)(hn:autoParam (x≠"__name__") Au.h2._auto_1)(hdb:autoParam ((x == ("__debug__":Str))=false) Au.h2._auto_1)
  (he:autoParam (starEach (e::es) X.env=(false,eval e X.env)::starEach es X.env) Au.h4._auto_1) (hpl:autoParam ((backTo pos (starEach es X.env)).any (·.1)=false) Au.h4._auto_1):PE X (.Call (.Name x p) (e::es) [] pos) (tCB r t):=by
 intro pins s σ H Q I h
 refine wpAny_Call_Name_kw (dg I hg hm hv ?_ hn hdb)
 exact PyProof.Rows.callWith_builtin1 (thn (ha pos pins s σ H _ I h) λ us s1 ⟨vs,H1,I1,r1,q1⟩=>hc pins s1 σ H1 vs us Q I1 r1 q1) he hpl
theorem oy (hc:cM X (.type T) r)(hg:Gl X x)(hm:X.mg x=none)(hv:bootBuiltins x=some (.type T))(ha:PA X (e::es) t)(hn:autoParam (x≠"__name__") Au.h2._auto_1)(hdb:autoParam ((x == ("__debug__":Str))=false) Au.h2._auto_1)
  (he:autoParam (starEach (e::es) X.env=(false,eval e X.env)::starEach es X.env) Au.h4._auto_1) (hpl:autoParam ((backTo pos (starEach es X.env)).any (·.1)=false) Au.h4._auto_1):PE X (.Call (.Name x p) (e::es) [] pos) (tCB r t):=by
 intro pins s σ H Q I h
 refine wpAny_Call_Name_kw (dg I hg hm hv ?_ hn hdb)
 exact PyProof.Rows.callWith_type1 (thn (ha pos pins s σ H _ I h) λ us s1 ⟨vs,H1,I1,r1,q1⟩=>hc pins s1 σ H1 vs us Q I1 r1 q1) he hpl
end
end L2
namespace HT
open PySem PyProof.Rows
noncomputable def mW:List Int->List Int->Bool
 | [],[]=>false
 | [],_::_=>true
 | _::_,[]=>false
 | x::xs,y::ys=>if x=y then mW xs ys else decide (x<y)
section
open PySem.SeqAt
open PySem.AutoSeq1 (wpAny_loadPart')
open PySem.MeetsSeq PySem.MeetsSeq2 PySem.MeetsSeq3
end
section
variable {prog:Program}{w:World}{A:Around}{E:Value->Shared->Prop}{s:Shared}
noncomputable def sIx (n d:Nat):Option Int->Nat
 | none=>d
 | some v=>if v<0 then (v+(n:Int)).toNat else min v.toNat n
end
end HT
namespace L2
open PySem PySem.Spec PyProof.Rows
noncomputable abbrev TO:=St->Hp->(Option Int->Hp->Prop)->Prop
noncomputable def PO (X:Cx)(e:Option Expr)(t:TO):Prop :=
 ∀ (pins:List (Addr × Obj)) (s:Shared) (σ:St) (H:Hp) (Q:Option Int->Hp->Prop),Inv X pins σ H s->t σ H Q ->
  wpAny (model X.prog X.w) X.A (evalPart e X.env) (λ u s'=>∃ o H',Inv X pins σ H' s'/\IsPart u o/\Q o H') X.xe s
noncomputable def tN:TO:=λ _ H Q=>Q none H
noncomputable def w6 (t:TE):TO:=λ σ H Q=>t σ H λ x H1=>∃ i,x=.int i/\Q (some i) H1
theorem mz {ns:List Int}:∀ {us:List Value},Vals (ns.map V.int) us->IntsAre us ns:=by
 induction ns with
 | nil=>intro us r; rw[yI] at r; cases r; exact .nil
 | cons n ns ih =>
  intro us r
  rw[yH] at r
  cases r with
  | cons r1 r2 =>
   obtain⟨t,e⟩:=r1
   subst e
   exact .cons n t (ih r2)
section
variable {X:Cx}{e:Expr}{te:TE}{lo hi:Option Expr}{tl th:TO}{pos p2:Pos}
theorem tI:PO X none tN:=by
 intro pins s σ H Q I h
 rw[evalPart_none]
 exact wpAny_pure ⟨none,H,I,.none,h⟩
theorem tH (h:PE X e te):PO X (some e) (w6 te):=by
 intro pins s σ H Q I hw
 rw[evalPart_some]
 refine thn (h pins s σ H _ I hw) λ u s1 ⟨x,H1,I1,r1,q1⟩=>?_
 obtain⟨i,rfl,q⟩:=q1
 obtain⟨t,rfl⟩:=r1
 exact⟨some i,H1,I1,.int i t,q⟩
noncomputable def SlR (X:Cx)(r:V->Option Int->Option Int->Hp->VK->Prop):Prop :=
 ∀ (pins:List (Addr × Obj)) (s:Shared) (σ:St) (H:Hp) (x:V) (v vl vu:Value) (lo hi:Option Int) (sl:Addr) (Q:VK),Inv X pins σ H s->RelV x v->s.heap.IsSliceOf sl vl vu .none->IsPart vl lo->IsPart vu hi->r x lo hi H Q ->
  ∃ T id,typeLookup (.type T) "__getitem__"=pure (some (.builtin id))/\s.TypeIs v T/\wpAny (model X.prog X.w) X.A (getItem v (.ref sl)) (EP X pins σ Q) X.xe s
noncomputable def tSl (r:V->Option Int->Option Int->Hp->VK->Prop)(te:TE)(tl th:TO):TE:=λ σ H Q=>te σ H λ x H1=>tl σ H1 λ l H2=>th σ H2 λ u H3=>r x l u H3 Q
theorem pU {r:V->Option Int->Option Int->Hp->VK->Prop}(hr:SlR X r)(he:PE X e te)(hl:PO X lo tl)(hu:PO X hi th):PE X (.Subscript e (.Slice lo hi none p2) pos) (tSl r te tl th):=by
 intro pins s σ H Q I h
 refine Subscript_ (thn (he pins s σ H _ I h) λ v s1 ⟨x,H1,I1,r1,q1⟩=>?_)
 refine wpAny_Slice (thn (hl pins s1 σ H1 _ I1 q1) λ vl s2 ⟨l,H2,I2,pl,q2⟩=>thn (hu pins s2 σ H2 _ I2 q2) λ vu s3 ⟨u,H3,I3,pu,q3⟩=>?_)
 rw[evalPart_none]
 refine wpAny_pure ?_
 have I4:Inv X pins σ H3 { s3 with heap:=s3.heap.push { cls:=.type "slice",data:=.fields #[vl,vu,.none] } }:=I3.kept (t':=s3.toks) λ b ob q=>Heap.get?_push_of_some _ q
 obtain⟨T,id,hT,ht,hg⟩:=hr pins { s3 with heap:=s3.heap.push { cls:=.type "slice",data:=.fields #[vl,vu,.none] } } σ H3 x v vl vu l u s3.heap.objs.size Q I4 r1 (Heap.IsSliceOf.new ..) pl pu q3
 show wpAny (model X.prog X.w) X.A (subscriptTail e (.Slice lo hi none p2) v (.ref s3.heap.objs.size)) (EP X pins σ Q) X.xe { s3 with heap:=s3.heap.push { cls:=.type "slice",data:=.fields #[vl,vu,.none] } }
 exact tail_any (ops:=[.ref s3.heap.objs.size,v]) ht hT hg (by with_unfolding_all rfl)
noncomputable def oC (xs:List V)(lo hi:Option Int):List V:=(xs.drop (HT.sIx xs.length 0 lo)).take (HT.sIx xs.length xs.length hi-HT.sIx xs.length 0 lo)
theorem kO (xs:List V)(lo hi:Option Int):(oC xs lo hi).length<=xs.length:=by
 unfold oC
 rw[zE,zG]
 omega
end
noncomputable def ixN (n:Nat)(i:Int):Option Nat:=if 0<=i then (if i<n then some i.toNat else none) else if -(n:Int)<=i then some (i+n).toNat else none
noncomputable def atI {α:Type}(xs:List α)(i:Int):Option α:=(ixN xs.length i).bind λ j=>xs[j]?
theorem nq {n:Nat}{i:Int}{j:Nat}(h:ixN n i=some j):seqIndex? i n=some j/\j<n/\-(n:Int)<=i/\i<n:=by
 unfold ixN at h
 by_cases h0:0<=i
 ·rw[if_pos h0] at h
  by_cases h1:i<n
  ·rw[if_pos h1] at h
   have e:i.toNat=j:=Option.some.inj h
   exact⟨by rw[seqIndex_of h0 h1,e],by omega,by omega,h1⟩
  ·rw[if_neg h1] at h; cases h
 ·rw[if_neg h0] at h
  by_cases h1:-(n:Int)<=i
  ·rw[if_pos h1] at h
   have e:(i+n).toNat=j:=Option.some.inj h
   exact⟨by rw[seqIndex_neg (by omega) h1,e],by omega,h1,by omega⟩
  ·rw[if_neg h1] at h; cases h
theorem gk {α:Type}{xs:List α}{i:Int}{v:α}(h:atI xs i=some v):∃ j,seqIndex? i xs.length=some j/\xs[j]?=some v/\j<xs.length/\-(xs.length:Int)<=i/\i<xs.length:=by
 unfold atI at h
 cases e:ixN xs.length i with
 | none=>rw[e] at h; cases h
 | some j =>
  rw[e] at h
  obtain⟨h1,h2,h3,h4⟩:=nq e
  exact⟨j,h1,h,h2,h3,h4⟩
noncomputable def di (b:Expr):Prop:=∀ o i,subscripted b false o i=operate [o,i] (getItem o i)
noncomputable def IxR (X:Cx)(r:R2):Prop :=
 ∀ (value slice:Expr) (pins:List (Addr × Obj)) (s:Shared) (σ:St) (H:Hp) (x y:V) (v u:Value) (Q:VK),Inv X pins σ H s->RelV x v->RelV y u->r x y H Q ->
  subscripted slice false v u=operate [v,u] (getItem v u)->wpAny (model X.prog X.w) X.A (subscriptTail value slice v u) (EP X pins σ Q) X.xe s
noncomputable def MtR (X:Cx)(id:String)(r:V->List V->Hp->VK->Prop):Prop :=
 ∀ (pins:List (Addr × Obj)) (s:Shared) (σ:St) (H:Hp) (x:V) (xs:List V) (v:Value) (us:List Value) (Q:VK),Inv X pins σ H s->RelV x v->Vals xs us->r x xs H Q ->
  wpAny (model X.prog X.w) X.A (call (.builtin id) (v::us)) (EP X pins σ Q) X.xe s
section
variable {X:Cx}{a b:Expr}{ta tb:TE}{pos:Pos}
theorem IxR.or {r r':R2}(h:IxR X r)(h':IxR X r'):IxR X (λ x y H Q=>r x y H Q\/r' x y H Q):=by
 intro value slice pins s σ H x y v u Q I rx ry q hs
 rcases q with q|q
 ·exact h value slice pins s σ H x y v u Q I rx ry q hs
 ·exact h' value slice pins s σ H x y v u Q I rx ry q hs
theorem i9 {r:R2}(hr:IxR X r)(ha:PE X a ta)(hb:PE X b tb)(hs:di b):PE X (.Subscript a b pos) (tOp r ta tb):=by
 intro pins s σ H Q I h
 exact Subscript_ (wK ha hb I h λ v u s2 x y H2 I2 rx ry q=>hr a b pins s2 σ H2 x y v u Q I2 rx ry q (hs _ _))
noncomputable def yr (K:PySem.W.Frag):R2:=λ x y H Q=>∃ p xs i v,x=.ref p/\y=.int i/\SqL K H p xs/\atI xs i=some v/\Q v H
noncomputable def yq (K:PySem.W.Frag):R2:=λ x y H Q=>∃ p xs i v,x=.ref p/\y=.int i/\SqT K H p xs/\atI xs i=some v/\Q v H
theorem ix_list:IxR X (yr X.K):=by
 intro value slice pins s σ H x y v u Q I rx ry h hs
 obtain⟨p,xs,i,z,rfl,rfl,hq,he,q⟩:=h
 cases rx
 obtain⟨t,rfl⟩:=ry
 obtain⟨its,r,pl,hz⟩:=I.list hq
 obtain⟨j,h1,h2,h3,h4,h5⟩:=gk he
 obtain⟨w,ew,rw'⟩:=r.get h2
 have hl:=r.length
 have hn:=ir
 have fin:EP X pins σ Q w s:=⟨z,H,I,rw',q⟩
 by_cases h0:0<=i
 ·have hj:i.toNat=j:=by
   rw[seqIndex_of h0 h5] at h1
   exact Option.some.inj h1
  exact item_listR pl.isList h0 (by omega) (by rw[hj]; simpa using ew) fin hs
 ·have hj:(i+(its.toArray.size:Int)).toNat=j:=by
   rw[seqIndex_neg (by omega) h4] at h1
   rw[yY,<- hl]
   exact Option.some.inj h1
  exact subscriptTail_builtinR (x:=w) pl.isList.typeIs slot_list_getitem.lookup
   (wpAny_getItem_list_neg (Q:=λ r s'=>r=w/\EP X pins σ Q r s') pl.isList (by omega) (by rw[yY] <;>omega) (by omega) (by rw[hj]; simpa using ew) ⟨rfl,fin⟩) hs
theorem ww:IxR X (yq X.K):=by
 intro value slice pins s σ H x y v u Q I rx ry h hs
 obtain⟨p,xs,i,z,rfl,rfl,hq,he,q⟩:=h
 cases rx
 obtain⟨t,rfl⟩:=ry
 obtain⟨its,r,pl,hz⟩:=I.tuple hq
 obtain⟨j,h1,h2,h3,h4,h5⟩:=gk he
 obtain⟨w,ew,rw'⟩:=r.get h2
 have hl:=r.length
 have hn:=ir
 have fin:EP X pins σ Q w s:=⟨z,H,I,rw',q⟩
 exact subscriptTail_builtinR (x:=w) pl.typeIs slot_tuple_getitem.lookup
  (getItem_tuple (j:=j) (Q:=λ r s'=>r=w/\EP X pins σ Q r s') pl (by omega) (by omega) (by rw[yY,<- hl]; exact h1) (by simpa using ew) ⟨rfl,fin⟩) hs
theorem lR (its:List Value)(n j:Nat)(u:Value):Obj.mapSeq (·.setIfInBounds j u) { cls:=.type "list",data:=.seq its.toArray n }={ cls:=.type "list",data:=.seq (its.set j u).toArray n }:=by
 simp[Obj.mapSeq]
theorem Inv.lst {pins:List (Addr × Obj)}{σ:St}{H:Hp}{s:Shared}{p:Addr}{xs:List V}(I:Inv X pins σ H s)(h:H p=some (.lst xs)) :
  ∃ (its:List Value) (n:Nat),Vals xs its/\s.heap.get? p=some { cls:=.type "list",data:=.seq its.toArray n }/\xs.length<=sizeLine:=by
 obtain⟨z,its,n,r,e⟩:=I.hok p _ h
 exact⟨its,n,r,e,z⟩
theorem Inv.lstUpd {pins:List (Addr × Obj)}{σ:St}{H:Hp}{s:Shared}{p:Addr}{xs ys:List V}{its its':List Value}{n n':Nat}{f:Obj->Obj}(I:Inv X pins σ H s)(h:H p=some (.lst xs))
  (ho:s.heap.get? p=some { cls:=.type "list",data:=.seq its.toArray n }) (hf:f { cls:=.type "list",data:=.seq its.toArray n }={ cls:=.type "list",data:=.seq its'.toArray n' }) (r:Vals ys its') (hz:ys.length<=sizeLine) (t:Nat) :
  Inv X pins σ (upd H p (.lst ys)) { s with heap:=s.heap.update p f,toks:=t }:=by
 have e:(s.heap.update p f).get? p=some { cls:=.type "list",data:=.seq its'.toArray n' }:=by
  rw[Heap.get?_update_self f ho (by rw[hf] <;>rfl),hf]
 refine I.write (x:=p) (e:=p) (by rw[h]; trivial) (.inl rfl) (λ b u hb q=>(Heap.get?_update_other _ _ (Ne.symm hb)).trans q) ⟨_,e⟩ ?_
 exact⟨hz,its',n',r,e⟩
noncomputable def wY:V->V->V->Hp->(Hp->Prop)->Prop:=λ o i v H Q=>∃ p xs k j,o=.ref p/\i=.int k/\H p=some (.lst xs)/\ixN xs.length k=some j/\Q (upd H p (.lst (xs.set j v)))
theorem fb:wx X wY:=by
 intro pins s σ H o i v ov iv u Q I ro ri rv h
 obtain⟨p,xs,k,j,rfl,rfl,hp,hj,q⟩:=h
 cases ro
 obtain⟨t,rfl⟩:=ri
 obtain⟨its,n,r,ho,hz⟩:=I.lst hp
 obtain⟨h1,h2,h3,h4⟩:=nq hj
 have hl:=r.length
 have hn:=ir
 have I':Inv X pins σ (upd H p (.lst (xs.set j v))) { s with heap:=s.heap.update p (Obj.mapSeq (·.setIfInBounds j u)) } :=
  I.lstUpd hp ho (lR its n j u) (r.set rv j) (by rw[zh]; exact hz) s.toks
 by_cases h0:0<=k
 ·have hk:k.toNat=j:=by
   rw[seqIndex_of h0 h4] at h1
   exact Option.some.inj h1
  exact PySem.W.ki_setAt ho h0 (by omega) (by rw[yY,<- hl]; exact h4) (by rw[hk]; exact⟨_,I',q⟩)
 ·have hk:(k+(its.toArray.size:Int)).toNat=j:=by
   rw[seqIndex_neg (by omega) h3] at h1
   rw[yY,<- hl]
   exact Option.some.inj h1
  exact PySem.W.ki_setBack ho (by omega) (by rw[yY,<- hl]; exact h3) (by omega) (by rw[hk]; exact⟨_,I',q⟩)
theorem jN (lo hi:Option Int)(n:Nat):(sliceBounds lo hi none n).1=((HT.sIx n 0 lo:Nat):Int)/\(sliceBounds lo hi none n).2.1=((HT.sIx n n hi:Nat):Int)/\(sliceBounds lo hi none n).2.2=1:=by
 refine⟨?_,?_,rfl⟩
 ·cases lo with
  | none=>simp[sliceBounds,HT.sIx]
  | some i =>
   simp only[sliceBounds,HT.sIx,By,show (1:Int) > 0 by decide,if_true]
   by_cases h:i<0
   ·simp only[h,if_true] <;>omega
   ·simp only[h,if_false] <;>omega
 ·cases hi with
  | none=>simp[sliceBounds,HT.sIx]
  | some i =>
   simp only[sliceBounds,HT.sIx,By,show (1:Int) > 0 by decide,if_true]
   by_cases h:i<0
   ·simp only[h,if_true] <;>omega
   ·simp only[h,if_false] <;>omega
theorem iG (its:List Value)(lo hi:Option Int):slicePick its.toArray lo hi none=((its.drop (HT.sIx its.length 0 lo)).take (HT.sIx its.length its.length hi-HT.sIx its.length 0 lo)).toArray:=by
 obtain⟨h1,h2,h3⟩:=jN lo hi its.toArray.size
 unfold slicePick
 rw[h1,h2,h3]
 simp only[sliceRange_one,pick_run,yY] <;>rfl
noncomputable def yB (K:PySem.W.Frag):V->Option Int->Option Int->Hp->VK->Prop:=λ x lo hi H Q=>∃ a xs,x=.ref a/\SqL K H a xs/\∀ p,H p=none->Q (.ref p) (upd H p (.lst (oC xs lo hi)))
theorem tU:SlR X (yB X.K):=by
 intro pins s σ H x v vl vu lo hi sl Q I rx hs pl pu h
 obtain⟨a,xs,rfl,hx,q⟩:=h
 cases rx
 obtain⟨its,r,ht,hz⟩:=I.list hx
 have hlen:=r.length
 refine⟨"list",_,slot_list_getitem.lookup,ht.isList.typeIs,?_⟩
 refine wpAny_getItem_list_slice ht.isList hs pl pu .none (by simp) ?_ (by rw[yY] <;>omega)
 rw[iG,<- hlen]
 refine⟨.ref s.heap.objs.size,_,I.laid (t':=s.toks) (o:=.lst (oC xs lo hi)) (λ b ob q=>Heap.get?_push_of_some _ q) (y4 _) ?_,rfl,q _ (I.hok.fresh (y4 _))⟩
 exact⟨zK (kO xs lo hi) hz,_,0,(r.drop (HT.sIx xs.length 0 lo)).take (HT.sIx xs.length xs.length hi-HT.sIx xs.length 0 lo),Heap.get?_push_size _ rfl⟩
noncomputable def ek:V->Bool
 | .non=>true
 | .bl _=>true
 | .int _=>true
 | .str _=>true
 | _=>false
noncomputable def eqV:V->V->Bool
 | .non,.non=>true
 | .bl a,.bl b=>a == b
 | .bl a,.int b=>(if a then 1 else 0) == b
 | .int a,.bl b=>a == (if b then 1 else 0)
 | .int a,.int b=>a == b
 | .str a,.str b=>a == b
 | _,_=>false
theorem wq {A:Around}{s:Shared}{y x:V}{u v:Value}(ry:RelV y u)(rx:RelV x v)(fy:ek y=true)(fx:ek x=true):SeqAt.EqAt A s u v (eqV y x):=by
 cases y with
 | non =>
  cases ry
  cases x with
  | non=>cases rx; exact SeqAt.EqAt.same _
  | bl b=>cases rx; exact SeqAt.EqAt.none_bool b
  | int b=>obtain⟨t,rfl⟩:=rx; exact SeqAt.EqAt.none_int b t
  | str b=>obtain⟨t,rfl⟩:=rx; exact SeqAt.EqAt.none_str b t
  | _=>exact absurd (show false=true from fx) zn
 | bl a =>
  cases ry
  cases x with
  | non=>cases rx; exact SeqAt.EqAt.bool_none a
  | bl b=>cases rx; exact SeqAt.EqAt.bool_bool a b
  | int b=>obtain⟨t,rfl⟩:=rx; exact SeqAt.EqAt.bool_int a b t
  | str b=>obtain⟨t,rfl⟩:=rx; exact SeqAt.EqAt.bool_str a b t
  | _=>exact absurd (show false=true from fx) zn
 | int a =>
  obtain⟨t',rfl⟩:=ry
  cases x with
  | non=>cases rx; exact SeqAt.EqAt.int_none a t'
  | bl b=>cases rx; exact SeqAt.EqAt.int_bool a t' b
  | int b=>obtain⟨t,rfl⟩:=rx; exact SeqAt.EqAt.int_int a t' b t
  | str b=>obtain⟨t,rfl⟩:=rx; exact SeqAt.EqAt.int_str a t' b t
  | _=>exact absurd (show false=true from fx) zn
 | str a =>
  obtain⟨t',rfl⟩:=ry
  cases x with
  | non=>cases rx; exact SeqAt.EqAt.str_none a t'
  | bl b=>cases rx; exact SeqAt.EqAt.str_bool a t' b
  | int b=>obtain⟨t,rfl⟩:=rx; exact SeqAt.EqAt.str_int a t' b t
  | str b=>obtain⟨t,rfl⟩:=rx; exact SeqAt.EqAt.str_str a t' b t
  | _=>exact absurd (show false=true from fx) zn
 | _=>exact absurd (show false=true from fy) zn
noncomputable def eqU (x:V)(u:Value):Bool:=match u with
 | .none=>eqV .non x
 | .bool b=>eqV (.bl b) x
 | .int i _=>eqV (.int i) x
 | .str z _=>eqV (.str z) x
 | _=>false
theorem tw {x y:V}{u:Value}(r:RelV y u)(f:ek y=true):eqU x u=eqV y x:=by
 cases y with
 | non=>cases r; rfl
 | bl b=>cases r; rfl
 | int i=>obtain⟨t,rfl⟩:=r; rfl
 | str z=>obtain⟨t,rfl⟩:=r; rfl
 | _=>exact absurd (show false=true from f) zn
theorem fA {x:V}:∀ {xs:List V} {us:List Value},Vals xs us->xs.all ek=true->us.any (eqU x)=xs.any λ y=>eqV y x
 | _,_,.nil,_=>rfl
 | y::xs,u::us,.cons r t,f=>by
  rw[AS,yN] at f
  rw[zQ,zQ,tw r f.1,fA t f.2]
theorem dQ {A:Around}{s:Shared}{x:V}{v:Value}(rx:RelV x v)(fx:ek x=true):∀ {xs:List V} {us:List Value},Vals xs us->xs.all ek=true->∀ u∈us,SeqAt.EqAt A s u v (eqU x u)
 | _,_,.nil,_=>λ u hu=>by cases hu
 | y::xs,u::us,.cons r t,f=>λ u' hu=>by
  rw[AS,yN] at f
  rcases List.mem_cons.mp hu with rfl|hu
  ·rw[tw r f.1]; exact wq r rx f.1 fx
  ·exact dQ rx fx t f.2 u' hu
noncomputable def inV (x:V)(xs:List V):Bool:=xs.any λ y=>eqV y x
noncomputable def rIn (K:PySem.W.Frag)(neg:Bool):R2:=λ x y H Q=>∃ p xs,y=.ref p/\(SqL K H p xs\/SqT K H p xs)/\ek x=true/\xs.all ek=true/\Q (.bl (if neg then !inV x xs else inV x xs)) H
theorem oB:OpR X (compareOp .In) (rIn X.K false):=by
 intro pins s σ H x y v u Q I rx ry h
 obtain⟨p,xs,rfl,hq,fx,fs,q⟩:=h
 cases ry
 rcases hq with hq|hq
 ·obtain⟨its,r,pl,hz⟩:=I.list hq
  refine SeqAt.in_listAt (eqU x) pl.isList (λ w hw=>dQ rx fx r fs w (by simpa using hw)) ⟨.bl _,H,I,rfl,?_⟩
  rw[show its.toArray.any (eqU x)=its.any (eqU x) by simp,fA r fs]
  exact q
 ·obtain⟨its,r,pl,hz⟩:=I.tuple hq
  refine SeqAt.in_tupleAt (eqU x) pl (λ w hw=>dQ rx fx r fs w (by simpa using hw)) ⟨.bl _,H,I,rfl,?_⟩
  rw[show its.toArray.any (eqU x)=its.any (eqU x) by simp,fA r fs]
  exact q
theorem jw:OpR X (compareOp .NotIn) (rIn X.K true):=by
 intro pins s σ H x y v u Q I rx ry h
 obtain⟨p,xs,rfl,hq,fx,fs,q⟩:=h
 cases ry
 rcases hq with hq|hq
 ·obtain⟨its,r,pl,hz⟩:=I.list hq
  refine SeqAt.notIn_listAt (eqU x) pl.isList (λ w hw=>dQ rx fx r fs w (by simpa using hw)) ⟨.bl _,H,I,rfl,?_⟩
  rw[show its.toArray.any (eqU x)=its.any (eqU x) by simp,fA r fs]
  exact q
 ·obtain⟨its,r,pl,hz⟩:=I.tuple hq
  refine SeqAt.notIn_tupleAt (eqU x) pl (λ w hw=>dQ rx fx r fs w (by simpa using hw)) ⟨.bl _,H,I,rfl,?_⟩
  rw[show its.toArray.any (eqU x)=its.any (eqU x) by simp,fA r fs]
  exact q
theorem jI:cM X (.builtin "len") (λ xs H Q=>∃ p ys,xs=[.ref p]/\(SqL X.K H p ys\/SqT X.K H p ys)/\Q (.int ys.length) H):=by
 intro pins s σ H xs us Q I r h
 obtain⟨p,ys,rfl,hq,q⟩:=h
 obtain⟨u,rfl,rx⟩:=lC r
 cases rx
 have hn:=ir
 rcases hq with hq|hq
 ·obtain⟨its,r',pl,hz⟩:=I.list hq
  have hlen:=r'.length
  exact Calls.call_len_list pl.isList (by simp only[yY] <;>omega) ⟨.int ys.length,H,I.tok _,⟨s.toks+1,by rw[yY,hlen]⟩,q⟩
 ·obtain⟨its,r',pl,hz⟩:=I.tuple hq
  have hlen:=r'.length
  exact len_tuple pl (by simp only[yY] <;>omega) ⟨.int ys.length,H,I.tok _,⟨s.toks+1,by rw[yY,hlen]⟩,q⟩
theorem jU:cM X (.type "list") (λ xs H Q=>∃ p ys,xs=[.ref p]/\(SqL X.K H p ys\/SqT X.K H p ys)/\∀ l,H l=none->Q (.ref l) (upd H l (.lst ys))):=by
 intro pins s σ H xs us Q I r h
 obtain⟨p,ys,rfl,hq,q⟩:=h
 obtain⟨u,rfl,rx⟩:=lC r
 cases rx
 have fin:∀ (its:List Value),Vals ys its->ys.length<=sizeLine->∀ (h':Heap) (c':Nat),(∀ b o',s.heap.get? b=some o'->h'.get? b=some o') ->
   h'.get? s.heap.objs.size=some { cls:=.type "list",dict:=none,data:=.seq its.toArray c',slots:=#[] }->EP X pins σ Q (.ref s.heap.objs.size) { s with heap:=h' }:=λ its r' hz h' c' kp e =>
  ⟨.ref s.heap.objs.size,_,I.laid (t':=s.toks) kp (y4 _) (show ObjOk X.prog X.w _ h' _ (.lst ys) from ⟨hz,its,c',r',e⟩),rfl,q _ (I.hok.fresh (y4 _))⟩
 rcases hq with hq|hq
 ·obtain⟨its,r',pl,hz⟩:=I.list hq
  have hlen:=r'.length
  obtain⟨o,ho,hc,n,hd⟩:=pl.isList
  exact call_list_seq p (.inl rfl) ho hc hd (λ h' c' kp e=>fin its r' hz h' c' kp e) (by simp only[yY] <;>omega)
 ·obtain⟨its,r',pl,hz⟩:=I.tuple hq
  have hlen:=r'.length
  obtain⟨o,ho,hc,n,hd⟩:=pl
  exact call_list_seq p (.inr rfl) ho hc hd (λ h' c' kp e=>fin its r' hz h' c' kp e) (by simp only[yY] <;>omega)
noncomputable def tyV (K:PySem.W.Frag)(T:String)(x:V)(H:Hp):Prop:=match x with
 | .str _=>T="str"
 | .int _=>T="int"
 | .ref p=>(T="list"/\∃ xs,SqL K H p xs)\/(T="tuple"/\∃ o,K.lookup p=some o/\o.cls=.type "tuple"/\o.dict=none) \/
   (T="dict"/\((∃ kvs,H p=some (.dK kvs))\/∃ kvs,H p=some (.dT kvs)))\/(T="set"/\∃ S n,H p=some (.set S n))
 | _=>False
theorem wM {pins:List (Addr × Obj)}{σ:St}{H:Hp}{s:Shared}{T:String}{x:V}{v:Value}(I:Inv X pins σ H s)(r:RelV x v)(ty:tyV X.K T x H) :
  s.TypeIs v T/\∀ a,v=.ref a->∃ ob,s.heap.get? a=some ob/\ob.dict=none:=by
 cases x with
 | str z =>
  obtain⟨t,rfl⟩:=r
  cases (show T="str" from ty)
  exact⟨typeIs_str s z t,λ _ e=>nomatch e⟩
 | int i =>
  obtain⟨t,rfl⟩:=r
  cases (show T="int" from ty)
  exact⟨typeIs_int s i t,λ _ e=>nomatch e⟩
 | ref p =>
  cases r
  rcases ty with ⟨rfl,xs,hq⟩|⟨rfl,o,hk,hc,hd⟩|⟨rfl,hk⟩|⟨rfl,S,n,hk⟩
  ·obtain⟨its,_,pl,_⟩:=I.list hq
   refine⟨pl.isList.typeIs,λ a e=>?_⟩
   cases e
   obtain⟨o,n,e,c,hd,_⟩:=pl
   exact⟨o,e,hd⟩
  ·refine⟨⟨o,I.kIn p o hk,hc⟩,λ a e=>?_⟩
   cases e
   exact⟨o,I.kIn _ o hk,hd⟩
  ·have z:∃ o,s.heap.get? p=some o/\o.ExactDict:=by
    rcases hk with ⟨kvs,hk⟩|⟨kvs,hk⟩
    ·obtain⟨_,_,_,_,o,_,_,e,ex,_⟩:=I.hok p _ hk
     exact⟨o,e,ex⟩
    ·obtain⟨_,_,_,_,o,_,_,e,ex,_⟩:=I.hok p _ hk
     exact⟨o,e,ex⟩
   obtain⟨o,e,ex⟩:=z
   refine⟨⟨o,e,ex.1⟩,λ a e2=>?_⟩
   cases e2
   exact⟨o,e,ex.2.1⟩
  ·obtain⟨o,_,_,_,e,ex,_⟩:=I.hok p _ hk
   refine⟨⟨o,e,ex.1⟩,λ a e2=>?_⟩
   cases e2
   exact⟨o,e,ex.2.1⟩
 | _=>exact False.elim ty
noncomputable def tBM (K:PySem.W.Frag)(T:String)(r:V->List V->Hp->VK->Prop)(to:TE)(t:TA):TE:=λ σ H Q=>to σ H λ x H1=>tyV K T x H1/\t σ H1 λ xs H2=>r x xs H2 Q
variable {o e:Expr}{es:List Expr}{to:TE}{t:TA}{name:Str}{apos cpos:Pos}{T id:String}{r:V->List V->Hp->VK->Prop}
theorem rX (pa:PlainAttrs T)(slot:Slot T name id)(hty:typeOf (.builtin id)=pure (.type "method_descriptor"))(hm:MtR X id r)(ho:PE X o to)(ha:PA X (e::es) t)
  (hbase:autoParam (attributeBase o name X.env (eval o X.env)=eval o X.env) Au.h4._auto_1)
  (hfew:autoParam (((backTo cpos (starEach (e::es) X.env)).all (λ x=>!x.1)&&(backToKw cpos (keywordEach [] X.env)).all (λ x=>x.1.isSome)
   && decide ((e::es).length+([]:List Keyword).length+(if ([]:List Keyword).isEmpty then 0 else 1)<30))=true) Au.h4._auto_1)
  (hline:autoParam ((apos.endLine == cpos.line)=true) Au.h4._auto_1) (hs:autoParam (starEach (e::es) X.env=(false,eval e X.env)::starEach es X.env) Au.h4._auto_1) (hplain:autoParam ((backTo cpos (starEach es X.env)).any (·.1)=false) Au.h4._auto_1) :
  PE X (.Call (.Attribute o name apos) (e::es) [] cpos) (tBM X.K T r to t):=by
 intro pins s σ H Q I h
 refine wpAny_Call_method_late hbase hfew hline rfl (thn (ho pins s σ H _ I h) λ v s1 ⟨x,H1,I1,r1,ty,q1⟩=>?_)
 obtain⟨h1,h2⟩:=wM I1 r1 ty
 refine⟨T,id,pa,slot,hty,h1,h2,?_⟩
 have hA:=ha cpos pins s1 σ H1 _ I1 q1
 rw[hs] at hA ⊢
 refine Calls.callWith_builtin (by show (false || (backTo cpos (starEach es X.env)).any (·.1))=false; rw[hplain] <;>rfl) (Calls.evalArgs_plain ?_)
 exact thn hA λ us s2 ⟨vs,H2,I2,r2,q2⟩=>hm pins s2 σ H2 x vs v us Q I2 r1 r2 q2
end
noncomputable def MtM (X:Cx)(id:String)(r:V->List V->Hp->VK->Prop):Prop :=
 ∀ (pins:List (Addr × Obj)) (s:Shared) (σ:St) (H:Hp) (x:V) (xs:List V) (v:Value) (us:List Value) (Q:VK),Inv X pins σ H s->RelV x v->Vals xs us->r x xs H Q ->
  wpAny (model X.prog X.w) X.A (call (.builtin id) (v::us)) (EP X pins σ Q) X.xe s
theorem Vals.one {x:V}{us:List Value}(r:Vals [x] us):∃ u,us=[u]/\RelV x u:=by
 cases r with
 | cons r1 r2=>cases r2; exact⟨_,rfl,r1⟩
theorem Vals.two {x y:V}{us:List Value}(r:Vals [x,y] us):∃ u v,us=[u,v]/\RelV x u/\RelV y v:=by
 cases r with
 | cons r1 r2 =>
  cases r2 with
  | cons q1 q2=>cases q2; exact⟨_,_,rfl,r1,q1⟩
theorem Vals.rep {xs:List V}{us:List Value}(h:Vals xs us):∀ k:Nat,Vals (List.replicate k xs).flatten (List.replicate k us).flatten
 | 0=>.nil
 | k+1=>by
  rw[zl,zl,zJ,zJ]
  exact Vals.append h (Vals.rep h k)
theorem jo (its:List Value):∀ (k:Nat) (acc:List Value),
  List.foldl (λ x1 x2=>x1++x2) acc.toArray (List.replicate k its.toArray)=(acc++(List.replicate k its).flatten).toArray
 | 0,acc=>by simp
 | k+1,acc=>by
  have e:acc.toArray++its.toArray=(acc++its).toArray:=by simp
  have e2:(acc++its)++(List.replicate k its).flatten=acc++(List.replicate (k+1) its).flatten:=by
   rw[zl,zJ,zZ]
  rw[<- e2,<- jo its k (acc++its),<- e,zl,yX]
section
variable {X:Cx}{pins:List (Addr × Obj)}{σ:St}{H:Hp}{s:Shared}{l b:Addr}{xs ys zs:List V}
theorem Inv.lset {its its':List Value}{n:Nat}{f:Array Value->Array Value}{t':Nat}(I:Inv X pins σ H s)(hH:H l=some (.lst xs))
  (e:s.heap.get? l=some { cls:=.type "list",data:=.seq its.toArray n }) (hf:f its.toArray=its'.toArray) (hv:Vals ys its') (hz:ys.length<=sizeLine) :
  Inv X pins σ (upd H l (.lst ys)) { s with heap:=s.heap.update l (Obj.mapSeq f),toks:=t' }:=by
 have q:=PySem.IsL.update e f
 rw[hf] at q
 refine I.write (x:=l) (e:=l) (by rw[hH]; exact trivial) (.inl rfl) (λ b' u hb hu=>(Heap.get?_update_other s.heap (Obj.mapSeq f) (Ne.symm hb)).trans hu) ⟨_,q⟩ ?_
 exact⟨hz,its',_,hv,q⟩
theorem Inv.lnew {its:List Value}{t':Nat}(I:Inv X pins σ H s)(hv:Vals ys its)(hz:ys.length<=sizeLine) :
  Inv X pins σ (upd H s.heap.objs.size (.lst ys)) { s with heap:=s.heap.push { cls:=.type "list",data:=.seq its.toArray },toks:=t' } :=
 I.laid (λ _ _ q=>Heap.get?_push_of_some _ q) (y4 _) ⟨hz,its,0,hv,Heap.get?_push_size _ rfl⟩
theorem Inv.fresh (I:Inv X pins σ H s):H s.heap.objs.size=none:=I.hok.fresh (y4 _)
theorem Inv.lstM (I:Inv X pins σ H s)(hH:H l=some (.lst xs)):xs.length<=sizeLine/\∃ (its:List Value) (n:Nat),Vals xs its/\xs.length=its.length/\s.heap.get? l=some { cls:=.type "list",data:=.seq its.toArray n }:=by
 obtain⟨z,its,n,r,e⟩:=I.hok l _ hH
 exact⟨z,its,n,r,r.length,e⟩
theorem kK {n:Nat}(h:n<=sizeLine):Builtin.List.listTooLong n=false:=by
 unfold Builtin.List.listTooLong
 exact decide_eq_false (by omega)
end
section
variable {X:Cx}
noncomputable def uf:V->List V->Hp->VK->Prop:=λ x vs H Q=>∃ l xs y,x=.ref l/\vs=[y]/\H l=some (.lst xs)/\xs.length<sizeLine/\Q .non (upd H l (.lst (xs++[y])))
theorem jc:MtM X "list.append" uf:=by
 intro pins s σ H x vs v us Q I rx rv h
 obtain⟨l,xs,y,rfl,rfl,hH,hz,q⟩:=h
 cases rx
 obtain⟨u,rfl,ru⟩:=rv.one
 obtain⟨z,its,n,r,hl,e⟩:=I.lstM hH
 refine call_meets F.slot_list_append ⟨_,e,rfl⟩ F.entry_list_append (F.args_list_append_2 _ _) (PySem.list_append l its.toArray n u (by rw[yY]; omega)) ⟨e,?_⟩
 refine⟨.non,_,I.lset (its':=its++[u]) hH e (by simp) (r.append (.cons ru .nil)) ?_,rfl,q⟩
 rw[za,Aa]
 omega
noncomputable def uH:V->List V->Hp->VK->Prop:=λ x vs H Q=>∃ l b xs zs,x=.ref l/\vs=[.ref b]/\H l=some (.lst xs)/\H b=some (.lst zs)/\xs.length+zs.length<=sizeLine/\Q .non (upd H l (.lst (xs++zs)))
theorem oD:MtM X "list.extend" uH:=by
 intro pins s σ H x vs v us Q I rx rv h
 obtain⟨l,b,xs,zs,rfl,rfl,hH,hB,hz,q⟩:=h
 cases rx
 obtain⟨u,rfl,ru⟩:=rv.one
 cases ru
 obtain⟨z,its,n,r,hl,e⟩:=I.lstM hH
 obtain⟨z2,its2,n2,r2,hl2,e2⟩:=I.lstM hB
 have hsz:its.toArray.size+its2.toArray.size<=sizeLine:=by rw[yY,yY]; omega
 have hlong:¬ (!its.toArray.isEmpty&&Builtin.List.listTooLong (its.toArray.size+its2.toArray.size))=true:=by
  rw[kK hsz,yZ]
  exact zn
 refine call_meets F.slot_list_extend ⟨_,e,rfl⟩ F.entry_list_extend (F.args_list_extend_2 _ _)
  (AutoSeq1.list_extend_list_list_0 l its.toArray n b its2.toArray n2 hlong (by rw[yY]; omega) (by omega)) ⟨e,e2,?_⟩
 refine⟨.non,_,I.lset (its':=its++its2) hH e (by simp) (r.append r2) ?_,rfl,q⟩
 rw[za]
 omega
theorem tZ {α:Type}(xs:List α)(k:Nat):(List.replicate k xs).flatten.length=k*xs.length:=by
 induction k with
 | zero=>simp
 | succ k ih=>rw[zl,zJ,za,ih,zw,AY]
end
section
variable {prog:Program}{w:World}{A:Around}{E:Value->Shared->Prop}{s:Shared}
end
section
variable {X:Cx}
end
end L2
namespace Att
open PySem PySem.W PySem.Calls PyProof.Rows
theorem gd {P:Params}{h:Heap}:∀ (ns:List Int) (vs:List Value),WellAll P h vs (ns.map WData.int)->IntsAre vs ns:=by
 intro ns
 induction ns with
 | nil =>
  intro vs w
  rw[yI] at w
  cases w
  exact .nil
 | cons n ns ih =>
  intro vs w
  rw[yH] at w
  cases w with
  | cons a b =>
   cases a
   exact .cons _ _ (ih _ b)
theorem script_of {l:OpenLaw}{n:Nat}(hn:l.most=some n){P:Params}{h:Heap}{args:List WData}{vals:List Value}
  (hpre:l.row.toRowW.claim.pre args=true) (hwl:WellAll P h vals args) :
  ∃ a vs ns,vals=[Value.ref a]/\args=[WData.list (ns.map WData.int)]/\h.get? a=some { cls:=.type "list",data:=.seq vs.toArray }/\IntsAre vs ns/\ns.length<=n:=by
 have hsh:WShape.hasAll [] args [.list .int]=true:=(pre_splitW hpre).1
 have hc:l.pre.holds [] { args:=args }=true:=(pre_splitW hpre).2
 obtain⟨d,r,rfl,h1,h2⟩:=hasAllW_cons hsh
 obtain rfl:=hasAllW_nil h2
 obtain⟨xs,rfl,h3⟩:=hasW_list h1
 obtain⟨ns,rfl⟩:=items_int h3
 have hlen:ns.length<=n:=by
  unfold OpenLaw.pre at hc
  have h4:(WTm.not (.lt (.lit (.int (n:Int))) (.len (.arg 0)))).holds [] { args:=[.list (ns.map .int)] }=true:=by
   have h4:=(holds_andW hc).1
   rw[hn] at h4
   exact h4
  have h5:=condW_of h4 (w_not (w_lt w_lit (w_len_list (w_arg rfl))))
  rw[yP] at h5
  refine Nat.le_of_not_lt λ q=>?_
  have q':(n:Int)<((ns.length:Nat):Int):=by omega
  first
   | (rw[decide_eq_true q'] at h5; exact absurd h5 (by decide))
   | (simp at h5; omega)
 cases hwl with
 | cons w1 w2 =>
  cases w2
  cases w1 with
  | list ho hall=>exact⟨_,_,ns,rfl,rfl,ho,gd ns _ hall,hlen⟩
theorem post_true (l:OpenLaw)(args:List WData):l.row.toRowW.claim.post args (.bool true) args=true :=
 postW_of (r:=l.row.toRowW) (X:=(true == true))
  (show WShape.has [] (.bool true) .bool=true by first|rfl|decide|simp[WShape.has,WShape.arms,WShape.armsAll])
  (show (WTm.eq .res (.lit (.bool true))).value [] { args:=args,res:=some (.bool true),after:=args }=some (.bool (true == true)) from w_eq_bool (w_res rfl) w_lit) rfl
section
variable {prog:Program}{w:World}{A:Around}{E:Value->Shared->Prop}{s:Shared}{K:Frag}
noncomputable def ledger (h:Heap)(L d:Addr):List (Addr × Obj):=(List.range h.objs.size).filterMap λ a=>if a=L\/a=d then none else (h.get? a).map λ o=>(a,o)
end
end Att
namespace L2
open PySem PySem.Spec PyProof.Rows
theorem iI:∀ {vs:List Value} {ns:List Int},IntsAre vs ns->Vals (ns.map V.int) vs
 | _,_,.nil=>.nil
 | _,_,.cons n t h=>.cons ⟨t,rfl⟩ (iI h)
noncomputable def wV (H:Hp):Prop:=∀ b,H b=none\/∃ o xs,H b=some (.frz o (.lst xs))
theorem law_call {P:Program}{w:World}{K:PySem.W.Frag}{mg mb:Str->Option Value}{CX:CXT}{k:Nat}{fa a:Addr}{fd:FuncData}{x:Str}{sp:Sp}{s₁:Shared}{vs:List Value}{ns:List Int}
  (KX:K.In s₁.heap) (hns:s₁.heap.Ns mainGlobals mg) (hb:s₁.heap.Ns builtinsNs mb) (hbb:∀ x:Str,x≠"__name__"->mb x=bootBuiltins x) (hlim:s₁.heap.NoLimit) (hg:s₁.gens=#[])
  (ha:s₁.heap.get? a=some { cls:=.type "list",data:=.seq vs.toArray }) (hi:IntsAre vs ns) (hl:ns.length<=sizeLine) (hr:Room k callerA)
  (F:∀ base:Heap,K.In base->base.Ns mainGlobals mg->FnOk P w K mg base CX k fa fd [x] sp) (hbind:∀ (s:Shared) (u:Value),BindsTo s fd ⟨[u],[]⟩ [(x,u)])
  (hsp:∀ H:Hp,wV H->SqL K H a (ns.map V.int)->sp [.ref a] H (λ v _=>v=.bl true) λ _ _ _=>False)
  (hCX:∀ H e s',CX [] H s₁ (λ _ _ _=>False) e s'->False) :
  codeAny (model P w) callerA (.call (.ref fa) ⟨[.ref a],[]⟩) (λ r s'=>r=.ok (.ret (.bool true))/\OldK s₁.heap s'.heap/\s'.os=s₁.os/\AllBare s'.gens) s₁:=by
 have rv:=iI hi
 have lenV:=hi.length
 have core:∀ H:Hp,wV H->SqL K H a (ns.map V.int)->HOk P w H s₁.heap->(∀ b,H b≠none->b=a)->(H a≠none->K.lookup a=none) ->
   codeAny (model P w) callerA (.call (.ref fa) ⟨[.ref a],[]⟩) (λ r s'=>r=.ok (.ret (.bool true))/\OldK s₁.heap s'.heap/\s'.os=s₁.os/\AllBare s'.gens) s₁:=by
  intro H hO hS hok hA hK
  have base_of:∀ {b:Addr} {o:Obj},s₁.heap.get? b=some o->H b=none->(jR s₁.heap H).get? b=some o:=λ e n=>tj e n
  have noA:∀ {b:Addr} {o:Obj} {es:Array DictEntry} {ep:Nat},s₁.heap.get? b=some o->o.data=.dict es ep->H b=none:=λ {b o es ep} e d=>by
   cases q:H b with
   | none=>rfl
   | some u =>
    have e':b=a:=hA b (by rw[q]; simp)
    subst e'
    rw[ha] at e; cases e
    have d':Data.seq vs.toArray _=Data.dict es ep:=d
    cases d'
  have nsK:∀ {b:Addr} {m:Str->Option Value},s₁.heap.Ns b m->(jR s₁.heap H).Ns b m:=λ {b m} ⟨o,es,ep,e,d,r⟩=>⟨o,es,ep,base_of e (noA e d),d,r⟩
  have hKb:K.In (jR s₁.heap H):=λ b o e=>base_of (KX b o e) (by
   cases q:H b with
   | none=>rfl
   | some u =>
    have e':b=a:=hA b (by rw[q]; simp)
    subst e'
    rw[hK (by rw[q]; simp)] at e; cases e)
  have hM:Mod K mg (jR s₁.heap H):=⟨hKb,nsK hns,⟨mb,nsK hb,hbb⟩,let ⟨mc,h1,h2⟩:=hlim; ⟨mc,nsK h1,h2⟩⟩
  have e0:Env0 P w K mg (jR s₁.heap H) callerA [] s₁ H:=⟨rfl,hM,λ b o e=>uo e,BQ (n8 _ _),trivial,λ b hb=>absurd (show b∈([]:List Addr) from hb) (by simp),hok,.of_eq hg⟩
  refine codeAny_mono ((F _ hKb (nsK hns)).run callerA [] s₁ H ⟨[.ref a],[]⟩ [.ref a] [.ref a] _ _ hr e0 (hbind s₁ (.ref a)) (.cons rfl .nil) (hsp H hO hS)) λ r s' h=>?_
  cases r with
  | error e=>exact(hCX H e s' h).elim
  | ok fl =>
   cases fl with
   | next=>exact False.elim h
   | brk=>exact False.elim h
   | cont=>exact False.elim h
   | ret u =>
    obtain⟨v,H',os,bare,un,hok',r',q⟩:=h
    have q':v=.bl true:=q
    subst q'
    obtain rfl:u=Value.bool true:=r'
    refine⟨rfl,OldK.of_keep λ b o e=>?_,os,bare⟩
    cases q:H b with
    | none=>exact un.keep b o e q (by intro z; exact absurd (show b∈([]:List Addr) from z) (by simp)) (by simp)
    | some u =>
     rcases hO b with z|⟨ob,xs,z⟩
     ·rw[q] at z; cases z
     ·have z2:=un.frzs b ob _ z
      obtain⟨e1,_⟩:=hok b _ z
      obtain⟨e2,_⟩:=hok' b _ z2
      rw[e] at e1; cases e1
      exact e2
 cases hk:K.lookup a with
 | some o =>
  have e:=KX a o hk
  rw[ha] at e
  cases e
  refine core (λ _=>none) (λ _=>.inl rfl) (.inr ⟨_,vs.toArray,_,hk,rfl,rfl,rfl,by rw[yY,lenV]; exact hl,by simpa using rv⟩) (λ b u z=>by have z':(none:Option HO)=some u:=z; cases z') (λ b z=>absurd rfl z) λ z=>absurd rfl z
 | none =>
  refine core (λ b=>if b=a then some (.frz { cls:=.type "list",data:=.seq vs.toArray } (.lst (ns.map V.int))) else none) (λ b=>?_) (.inl (.inr ⟨{ cls:=.type "list",data:=.seq vs.toArray },if_pos rfl⟩)) (λ b u z=>?_) (λ b z=>?_) λ _=>hk
  ·by_cases hb:b=a
   ·exact .inr ⟨_,_,if_pos hb⟩
   ·exact .inl (if_neg hb)
  ·by_cases hb:b=a
   ·have z':=(if_pos hb).symm.trans z
    cases z'
    subst hb
    exact⟨ha,by rw[yP]; exact hl,vs,_,rv,ha⟩
   ·have z':=(if_neg hb).symm.trans z
    cases z'
  ·by_cases hb:b=a
   ·exact hb
   ·exact absurd (if_neg hb) z
noncomputable def bQ (s:Stmt):Arguments:=match s with
 | .FunctionDef _ a _ _ _ _ _ _ _ _=>a
 | _=>{ posonlyargs:=[],args:=[],vararg:=none,kwonlyargs:=[],kw_defaults:=[],kwarg:=none,defaults:=[] }
noncomputable def bi (s:Stmt):List Stmt:=match s with
 | .FunctionDef _ _ b _ _ _ _ _ _ _=>b
 | _=>[]
noncomputable def ai (s:Stmt):Scope:=match s with
 | .FunctionDef _ _ _ _ _ _ sc _ _ _=>sc
 | _=>{ kind:=.function,names:=[],isGenerator:=false,isCoroutine:=false }
noncomputable abbrev CX0:CXT:=λ _ _ _ _ _ _=>False
noncomputable abbrev E0:XK:=λ _ _ _=>False
structure Fun (K:PySem.W.Frag)(x qual:Str)(st:Stmt)(f:Addr)(fd:FuncData):Prop where
 ex:∃ (oc:Value) (od:Option Addr) (kV doc pm:Value) (an:Option Addr) (cdv ct:Value) (osl:Array (Option Value)),
  fd=PySem.W.fnOf x qual (bQ st) (bi st) (ai st) .none kV doc pm an cdv ct/\K.lookup f=some ⟨oc,od,.func fd,osl⟩/\PySem.W.codeIn K cdv qual=true
 kp:PySem.W.keepIn K (.ref f)=true
section
variable {P:Program}{w:World}{K:PySem.W.Frag}{mg:Str->Option Value}{base:Heap}
theorem Fun.ok {x qual:Str}{st:Stmt}{f:Addr}{fd:FuncData}{N ps:List Str}{k:Nat}{sp:Sp}(F:Fun K x qual st f fd)(S:FnScope N ps (ai st))(len:∀ vs H Q E,sp vs H Q E->vs.length=ps.length)
  (hbody:∀ (cdv:Value) (A:Around) (outer:List Env) (s:Shared) (H:Hp) (vs:List V) (Q:VK) (E:XK),Room k (A.deeper (envOfC qual (ai st) s.heap.objs.size f cdv))->sp vs H Q E ->
   ∃ t,PSs (cB CX0 P w K mg base N qual (ai st) f cdv A outer s H E).nox (bi st) t/\t { nx:=λ _ H'=>Q .non H',rt:=Q } (start N vs) H):FnOk P w K mg base CX0 (k+1) f fd ps sp:=by
 obtain⟨oc,od,kV,doc,pm,an,cdv,ct,osl,rfl,lk,hcd⟩:=F.ex
 refine uW lk hcd S len λ A outer s H vs Q E hr hsp=>?_
 obtain⟨t,h,q⟩:=hbody cdv A outer s H vs Q E hr hsp
 exact⟨t,h.nox,q⟩
end
section
variable {X:Cx}
end
theorem qQ {A B:Prop}(h:B):if false=true then A else B:=by
 rw[if_neg zn]
 exact h
theorem sf {A B:Prop}(h:A):if true=true then A else B:=by
 rw[if_pos rfl]
 exact h
noncomputable def Same (H H':Hp):Prop:=∀ b o,H b=some o->H' b=some o
theorem Same.refl (H:Hp):Same H H:=λ _ _ h=>h
theorem Same.trans {H H1 H2:Hp}(a:Same H H1)(b:Same H1 H2):Same H H2:=λ c o h=>b c o (a c o h)
theorem Same.free {H H':Hp}(e:Same H H'){l:Addr}(h:H' l=Option.none):H l=Option.none:=by
 cases q:H l with
 | none=>rfl
 | some o =>
  rw[e l o q] at h
  cases h
section
variable {κ:Type}[DecidableEq κ]
noncomputable def ib (kvs:List (κ × V))(k:κ):Option V:=(kvs.find? λ kv=>decide (kv.1=k)).map (·.2)
noncomputable def dD (kvs:List (κ × V))(k:κ)(v:V):List (κ × V) :=
 if (kvs.any λ kv=>decide (kv.1=k))=true then kvs.map (λ kv=>if kv.1=k then (kv.1,v) else kv) else kvs++[(k,v)]
noncomputable def vp (kvs:List (κ × V))(k:κ):List (κ × V):=kvs.filter λ kv=>decide (kv.1≠k)
theorem eV {p:κ × V}{r:List (κ × V)}{k:κ}(e:p.1=k):ib (p::r) k=some p.2:=by simp[ib,zR,e]
theorem eX {p:κ × V}{r:List (κ × V)}{k:κ}(e:¬ p.1=k):ib (p::r) k=ib r k:=by simp[ib,zR,e]
theorem lb (k:κ):∀ kvs:List (κ × V),(kvs.any λ kv=>decide (kv.1=k))=(ib kvs k).isSome
 | []=>rfl
 | p::r=>by
  rw[zQ]
  by_cases e:p.1=k
  ·simp only[eV e,decide_eq_true e,Bl,Option.isSome_some]
  ·rw[eX e,decide_eq_false e,zm]; exact lb k r
theorem f6 (kvs:List (κ × V))(k:κ)(v:V):(dD kvs k v).length<=kvs.length+1:=by
 unfold dD
 split
 ·rw[yP]; omega
 ·rw[za,yJ,yT]; omega
theorem RelO.isSome_eq {o:Option V}{u:Option Value}(r:RelO o u):o.isSome=u.isSome:=by
 cases o with
 | none=>cases u with
  | none=>rfl
  | some _=>exact(show False from r).elim
 | some _=>cases u with
  | none=>exact(show False from r).elim
  | some _=>rfl
theorem RelO.getD {o:Option V}{u:Option Value}{d:V}{d':Value}(r:RelO o u)(rd:RelV d d'):RelV (o.getD d) (u.getD d'):=by
 cases o with
 | none=>cases u with
  | none=>exact rd
  | some _=>exact(show False from r).elim
 | some _=>cases u with
  | none=>exact(show False from r).elim
  | some _=>exact r
theorem KV.val {kvs:List (κ × V)}{vs:List (κ × Value)}(r:KV kvs vs)(k:κ):RelO (ib kvs k) (valueAt vs k):=by
 unfold KV at r
 induction r with
 | nil=>exact True.intro
 | @cons p q ps qs h t ih =>
  obtain⟨h1,h2⟩:=h
  by_cases e:p.1=k
  ·have e':q.1=k:=h1.symm.trans e
   have b:valueAt (q::qs) k=some q.2:=by simp[valueAt,zR,e']
   rw[eV e,b]; exact h2
  ·have e':¬ q.1=k:=λ z=>e (h1.trans z)
   have b:valueAt (q::qs) k=valueAt qs k:=by simp[valueAt,zR,e']
   rw[eX e,b]; exact ih
theorem KV.any {kvs:List (κ × V)}{vs:List (κ × Value)}(r:KV kvs vs)(k:κ):(kvs.any λ kv=>decide (kv.1=k))=vs.any λ kv=>decide (kv.1=k):=by
 unfold KV at r
 induction r with
 | nil=>rfl
 | cons h t ih=>rw[zQ,zQ,ih,h.1]
theorem KV.repl {kvs:List (κ × V)}{vs:List (κ × Value)}(r:KV kvs vs)(k:κ){y:V}{u:Value}(ry:RelV y u) :
  KV (kvs.map λ kv=>if kv.1=k then (kv.1,y) else kv) (vs.map λ kv=>if kv.1=k then (kv.1,u) else kv):=by
 unfold KV at r ⊢
 induction r with
 | nil=>exact .nil
 | @cons p q ps qs h t ih =>
  rw[yH,yH]
  refine .cons ?_ ih
  obtain⟨h1,h2⟩:=h
  by_cases e:p.1=k
  ·rw[if_pos e,if_pos (h1.symm.trans e)]; exact⟨h1,ry⟩
  ·rw[if_neg e,if_neg (λ z=>e (h1.trans z))]; exact⟨h1,h2⟩
theorem KV.put {kvs:List (κ × V)}{vs:List (κ × Value)}(r:KV kvs vs)(k:κ){y:V}{u:Value}(ry:RelV y u):KV (dD kvs k y) (stored vs k u):=by
 unfold dD stored
 rw[r.any k]
 by_cases e:(vs.any λ kv=>decide (kv.1=k))=true
 ·rw[if_pos e,if_pos e]; exact r.repl k ry
 ·rw[if_neg e,if_neg e]; exact Paired.snoc r ⟨rfl,ry⟩
theorem KV.drop {kvs:List (κ × V)}{vs:List (κ × Value)}(r:KV kvs vs)(k:κ):KV (vp kvs k) (without vs k):=by
 unfold KV at r ⊢
 unfold vp without
 induction r with
 | nil=>exact .nil
 | @cons p q ps qs h t ih =>
  obtain⟨h1,h2⟩:=h
  rw[zC,zC]
  by_cases e:p.1=k
  ·have a:¬ decide (p.1≠k)=true:=by simp[e]
   have b:¬ decide (q.1≠k)=true:=by simp[h1.symm.trans e]
   rw[if_neg a,if_neg b]; exact ih
  ·have e':¬ q.1=k:=λ z=>e (h1.trans z)
   have a:decide (p.1≠k)=true:=by simp[e]
   have b:decide (q.1≠k)=true:=by simp[e']
   rw[if_pos a,if_pos b]; exact .cons ⟨h1,h2⟩ ih
theorem KV.length {kvs:List (κ × V)}{vs:List (κ × Value)}(r:KV kvs vs):kvs.length=vs.length:=Paired.length r
end
theorem qY {P:Program}{w:World}{k:Key}{u:Value}(r:RelV (kV k) u):(bB P w).is k u=true:=by
 cases k with
 | inl i=>obtain⟨t,e⟩:=(show ∃ t,u=Value.int i t from r); subst e; exact lz P w i t
 | inr x=>obtain⟨t,e⟩:=(show ∃ t,u=Value.str x t from r); subst e; exact lN P w x t
theorem i6 {P:Program}{w:World}:∀ {ks:List Key} {us:List Value},Vals (ks.map kV) us->ItemsAre (bB P w) ks us
 | [],_,r=>by rw[yI] at r; cases r; exact .nil
 | k::ks,_,r=>by
  rw[yH] at r
  cases r with
  | cons h t=>exact .cons (qY h) (i6 t)
noncomputable abbrev KT (H:Hp):List (List Key × V)->List (List Key × Addr × Value)->Prop:=Paired λ p q=>p.1=q.1/\H q.2.1=some (.tup (p.1.map kV))/\RelV p.2 q.2.2
theorem KT.val {H:Hp}{kvs:List (List Key × V)}{xs:List (List Key × Addr × Value)}(r:KT H kvs xs)(k:List Key):RelO (ib kvs k) ((atKey xs k).map (·.2)):=by
 induction r with
 | nil=>exact True.intro
 | @cons p q ps qs h t ih =>
  obtain⟨h1,_,h2⟩:=h
  by_cases e:p.1=k
  ·have e':q.1=k:=h1.symm.trans e
   have b:atKey (q::qs) k=some q.2:=by simp[atKey,zR,e']
   rw[eV e,b]; exact h2
  ·have e':¬ q.1=k:=λ z=>e (h1.trans z)
   have b:atKey (q::qs) k=atKey qs k:=by simp[atKey,zR,e']
   rw[eX e,b]; exact ih
theorem KT.repl {H:Hp}{kvs:List (List Key × V)}{xs:List (List Key × Addr × Value)}(r:KT H kvs xs)(k:List Key){y:V}{u:Value}(ry:RelV y u) :
  KT H (kvs.map λ kv=>if kv.1=k then (kv.1,y) else kv) (xs.map (putAt k u)):=by
 induction r with
 | nil=>exact .nil
 | @cons p q ps qs h t ih =>
  rw[yH,yH]
  refine .cons ?_ ih
  obtain⟨h1,h2,h3⟩:=h
  unfold putAt
  by_cases e:p.1=k
  ·rw[if_pos e,if_pos (h1.symm.trans e)]; exact⟨h1,h2,ry⟩
  ·rw[if_neg e,if_neg (λ z=>e (h1.trans z))]; exact⟨h1,h2,h3⟩
theorem KT.put {H:Hp}{kvs:List (List Key × V)}{xs:List (List Key × Addr × Value)}(r:KT H kvs xs)(k:List Key){b:Addr}{y:V}{u:Value}(hb:H b=some (.tup (k.map kV)))(ry:RelV y u) :
  KT H (dD kvs k y) (storedH xs k b u):=by
 have e:(kvs.any λ kv=>decide (kv.1=k))=(atKey xs k).isSome:=by
  rw[lb,(r.val k).isSome_eq,Option.isSome_map]
 unfold dD storedH
 rw[e]
 by_cases q:(atKey xs k).isSome=true
 ·rw[if_pos q,if_pos q]; exact r.repl k ry
 ·rw[if_neg q,if_neg q]; exact Paired.snoc r ⟨rfl,hb,ry⟩
theorem KT.keeps {H H':Hp}{kvs:List (List Key × V)}{xs:List (List Key × Addr × Value)}(r:KT H kvs xs)(ht:∀ b ys,H b=some (.tup ys)->H' b=some (.tup ys)):KT H' kvs xs :=
 Paired.mapP r λ _ _ z=>⟨z.1,ht _ _ z.2.1,z.2.2⟩
section
variable {P:Program}{w:World}{H:Hp}{h:Heap}{a:Addr}
theorem va {u:HO}(ok:HOk P w H h)(e:Rd H a u):ObjOk P w H h a u:=e.ok ok
theorem mR {kvs:List (Key × V)}(ok:HOk P w H h)(e:Rd H a (.dK kvs)):kvs.length<=sizeLine/\(a == sysModules)=false/\∃ vs,KV kvs vs/\h.DictOf (bB P w) a vs :=
 show ObjOk P w H h a (.dK kvs) from va ok e
theorem xT {kvs:List (Key × V)}(ok:HOk P w H h)(e:H a=some (.dK kvs)):kvs.length<=sizeLine/\(a == sysModules)=false/\∃ vs,KV kvs vs/\h.DictOf (bB P w) a vs:=mR ok (.inl e)
theorem ml {ks:List Key}(ok:HOk P w H h)(e:H a=some (.tup (ks.map kV))):(tupleKind (bB P w)).is h ks a:=by
 obtain⟨_,its,r,o,h1,h2,n,h3⟩:=(show ObjOk P w H h a (.tup (ks.map kV)) from ok a _ e)
 exact⟨o,its.toArray,n,h1,h2,h3,by simpa using i6 r⟩
theorem nz {kvs:List (List Key × V)}(ok:HOk P w H h)(e:Rd H a (.dT kvs)):kvs.length<=sizeLine/\(a == sysModules)=false /\
  ∃ xs,KT H kvs xs/\h.DictOfH (tupleKind (bB P w)) a xs:=by
 obtain⟨z,y,xs,r,o,es,ep,h1,h2,h3,h4,h5⟩:=(show ObjOk P w H h a (.dT kvs) from va ok e)
 refine⟨z,y,xs,r,o,es,ep,h1,h2,h3,h4,λ x hx=>?_,h5⟩
 have all:∀ {l:List (List Key × V)} {m:List (List Key × Addr × Value)},KT H l m->∀ x∈m,(tupleKind (bB P w)).is h x.1 x.2.1:=by
  intro l m q
  induction q with
  | nil=>intro x hx; exact nomatch hx
  | @cons p q ps qs hq t ih =>
   intro x hx
   rcases List.mem_cons.mp hx with e|hx
   ·subst e
    exact ml ok (by rw[<- hq.1]; exact hq.2.1)
   ·exact ih x hx
 exact all r x hx
theorem xF {kvs:List (List Key × V)}(ok:HOk P w H h)(e:H a=some (.dT kvs)):kvs.length<=sizeLine/\(a == sysModules)=false /\
  ∃ xs,KT H kvs xs/\h.DictOfH (tupleKind (bB P w)) a xs:=nz ok (.inl e)
end
noncomputable def wm (H:Hp)(a:Addr)(y:V)(r:Option V):Prop :=
 (∃ kvs k,Rd H a (.dK kvs)/\y=kV k/\r=ib kvs k)\/∃ kvs k b,Rd H a (.dT kvs)/\y=.ref b/\H b=some (.tup (k.map kV))/\r=ib kvs k
noncomputable def xX (H:Hp)(a:Addr)(y v:V)(H':Hp):Prop :=
 (∃ kvs k,H a=some (.dK kvs)/\y=kV k/\kvs.length<sizeLine/\H'=upd H a (.dK (dD kvs k v))) \/
 ∃ kvs k b,H a=some (.dT kvs)/\y=.ref b/\H b=some (.tup (k.map kV))/\kvs.length<sizeLine/\H'=upd H a (.dT (dD kvs k v))
section
variable {X:Cx}{pins:List (Addr × Obj)}{σ:St}{H:Hp}{s:Shared}{a:Addr}{y v:V}{u r:Value}{o:Option V}{A:Around}{E:Value->Shared->Prop}
theorem Inv.big (I:Inv X pins σ H s):sysModules<s.heap.objs.size:=by
 have h:mainGlobals<s.heap.objs.size:=(I.mod.glob.keeps I.bk).lt
 exact Nat.lt_trans (by decide) h
theorem pD {Q:Value->Shared->Prop}(hu:A.units+1<cLine)(I:Inv X pins σ H s)(g:wm H a y (some v))(ry:RelV y u)(h:∀ w' s',Inv X pins σ H s'->RelV v w'->Q w' s') :
  wpAny (model X.prog X.w) A (getItem (.ref a) u) Q E s:=by
 rcases g with ⟨kvs,k,e,ey,l⟩|⟨kvs,k,b,e,ey,eb,l⟩
 ·subst ey
  obtain⟨z,hd,vs,rel,dd⟩:=mR I.hok e
  obtain⟨w',hw,rw'⟩:=RelO.some_of (v:=v) (o:=valueAt vs k) (by rw[l]; exact rel.val k)
  exact wpAny_getItem_of (qY ry) dd.mapOf hw (h w' _ (I.tok _) rw')
 ·subst ey
  cases (show u=Value.ref b from ry)
  obtain⟨z,hd,xs,rel,dd⟩:=nz I.hok e
  obtain⟨w',hw,rw'⟩:=RelO.some_of (v:=v) (o:=(atKey xs k).map (·.2)) (by rw[l]; exact rel.val k)
  obtain⟨p,hp,hp2⟩:=Option.map_eq_some_iff.mp hw
  refine wpAny_getItem_heap (tupleKind_room_in1 hu) (ml I.hok eb) dd hp ?_
  rw[hp2]
  exact h w' _ (I.tok _) rw'
theorem nQ {h':Heap}{t':Nat}{ob:HO}(I:Inv X pins σ H s)(mu:Mut (H a))(hs:Heap.SameBut a s.heap h')(he:∃ q,h'.get? a=some q)(new:ObjOk X.prog X.w (upd H a ob) h' a ob) :
  Inv X pins σ (upd H a ob) { s with heap:=h',toks:=t' } :=
 I.write (x:=a) (e:=a) mu (.inl rfl) (λ b q hb z=>(hs.2 b hb).trans z) he new
theorem vT {P:Program}{w:World}{H':Hp}{h':Heap}{kvs:List (Key × V)}{vs:List (Key × Value)}(z:kvs.length<=sizeLine)(hd:(a == sysModules)=false)(rel:KV kvs vs)(dd:h'.DictOf (bB P w) a vs) :
  ObjOk P w H' h' a (.dK kvs):=⟨z,hd,vs,rel,dd⟩
theorem nX {H':Hp}{Q:Unit->Shared->Prop}(hu:A.units+1<cLine)(I:Inv X pins σ H s)(g:xX H a y v H')(ry:RelV y u)(rv:RelV v r)(h:∀ s',Inv X pins σ H' s'->Q () s') :
  wpAny (model X.prog X.w) A (setItem (.ref a) u r) Q E s:=by
 rcases g with ⟨kvs,k,e,ey,l,eH⟩|⟨kvs,k,b,e,ey,eb,l,eH⟩
 ·subst ey eH
  obtain⟨z,hd,vs,rel,dd⟩:=xT I.hok e
  have hz:vs.length<=sizeLine:=by rw[<- rel.length]; exact z
  have hl:(dD kvs k v).length<=sizeLine:=by have:=f6 kvs k v; omega
  refine wpAny_setItem_pairs (hsz:=hz) (qY ry) dd λ h' dd' hs=>h _ ?_
  have he:∃ q,h'.get? a=some q:=let ⟨q,_,_,hq,_⟩:=dd'; ⟨q,hq⟩
  exact nQ I (by rw[e]; exact True.intro) hs he (vT hl hd (rel.put k rv) dd')
 ·subst ey eH
  cases (show u=Value.ref b from ry)
  obtain⟨z,hd,xs,rel,dd⟩:=xF I.hok e
  have hz:xs.length<=sizeLine:=by rw[<- Paired.length rel]; exact z
  have hl:(dD kvs k v).length<=sizeLine:=by have:=f6 kvs k v; omega
  refine wpAny_setItem_heap (hsz:=hz) (tupleKind_room_in1 hu) (ml I.hok eb) dd λ h' dd' hs=>h _ ?_
  obtain⟨q,es,ep,hq,h2,h3,h4,_,h5⟩:=dd'
  refine nQ I (by rw[e]; exact True.intro) hs ⟨q,hq⟩ ⟨hl,hd,_,(rel.put k eb rv).keeps λ c ys ec=>?_,q,es,ep,hq,h2,h3,h4,h5⟩
  rw[ar (xw ec e (λ z=>nomatch z))]
  exact ec
end
section
variable {X:Cx}{pins:List (Addr × Obj)}{σ:St}{H:Hp}{s:Shared}{a:Addr}{kvs:List (Key × V)}{k:Key}{u:Value}{A:Around}{E:Value->Shared->Prop}
end
noncomputable def wB (i:Expr):Prop:=∀ ov iv,subscripted i false ov iv=operate [ov,iv] (getItem ov iv)
theorem tS {prog:Program}{w:World}{A:Around}{E:Value->Shared->Prop}{s:Shared}{env:Env}{value slice:Expr}{pos:Pos}{T id:String}{Q:Value->Shared->Prop}
  (hl:typeLookup (.type T) "__getitem__"=pure (some (.builtin id))) (hs:wB slice)
  (h:wpAny (model prog w) A (eval value env) (λ o s₁=>wpAny (model prog w) A (eval slice env) (λ i s₂=>s₂.TypeIs o T/\wpAny (model prog w) A (getItem o i) Q E s₂) E s₁) E s) :
  wpAny (model prog w) A (eval (.Subscript value slice pos) env) Q E s:=by
 refine Subscript_ (wpAny_mono h (λ o s₁ h₁=>wpAny_mono h₁ (λ i s₂ h₂=>?_) λ _ _ x=>x) λ _ _ x=>x)
 obtain⟨hT,h₂⟩:=h₂
 unfold subscriptTail
 refine wpAny_bind ?_
 rw[getitemInPython_of_ne hT.not_modules]
 refine wpAny_bind (wpAny_specialOf hT hl ?_)
 have fin:wpAny (model prog w) A (subscripted slice false o i) (λ r s₃=>wpAny (model prog w) A (letTemporaryGo value o r >>= λ _=>pure r) Q E s₃) E s₂:=by
  rw[hs o i]
  exact wpAny_operating (wpAny_mono h₂ (λ r s₃ h₃=>wpAny_bind (wpAny_letTemporaryGo (wpAny_pure h₃))) λ _ _ x=>x)
 first
  | exact wpAny_pure (wpAny_bind fin)
  | exact wpAny_bind (wpAny_pure (wpAny_bind fin))
  | exact wpAny_bind fin
theorem k7 {X:Cx}{pins:List (Addr × Obj)}{σ:St}{H:Hp}{s:Shared}{a:Addr}{y:V}{o:Option V}(I:Inv X pins σ H s)(g:wm H a y o):s.TypeIs (.ref a) "dict":=by
 rcases g with ⟨kvs,k,e,_,_⟩|⟨kvs,k,b,e,_,_,_⟩
 ·obtain⟨_,_,vs,_,dd⟩:=mR I.hok e
  exact dd.typeIs
 ·obtain⟨_,_,xs,_,dd⟩:=nz I.hok e
  exact dd.typeIs
noncomputable def xI (td ty:TE):TE:=λ σ H Q=>td σ H λ x H1=>ty σ H1 λ y H2=>∃ a v,x=.ref a/\wm H2 a y (some v)/\Q v H2
noncomputable def vg (td ty tv:TE):TS:=λ D σ H=>tv σ H λ v H1=>td σ H1 λ x H2=>ty σ H2 λ y H3=>∃ a H4,x=.ref a/\xX H3 a y v H4/\D.nx σ H4
section
variable {X:Cx}{o i e value:Expr}{pos pos' tpos:Pos}{td ty tv:TE}
theorem t0 (hu:X.A.units+1<cLine)(ho:PE X o td)(hi:PE X i ty)(hs:wB i):PE X (.Subscript o i pos) (xI td ty):=by
 intro pins s σ H Q I h
 refine tS PySem.F.slot_dict_getitem.lookup hs (thn (ho pins s σ H _ I h) λ u s1 ⟨x,H1,I1,rx,q1⟩=>thn (hi pins s1 σ H1 _ I1 q1) λ iv s2 ⟨y,H2,I2,ry,a,v,ex,g,q2⟩=>?_)
 subst ex
 obtain rfl:u=Value.ref a:=rx
 exact⟨k7 I2 g,pD hu I2 g ry λ w' s3 I3 rw'=>⟨v,H2,I3,rw',q2⟩⟩
theorem ur (hu:X.A.units+1<cLine)(ho:PE X o td)(hi:PE X i ty)(hv:PE X value tv)(hs:swapsWith value (some (.Subscript o i pos')) pos.line X.env=pure false) :
  PS X (.Assign [.Subscript o i pos'] value pos) (vg td ty tv):=by
 intro pins s σ H D I h
 refine wpAny_Assign_Subscript (thn (hv pins s σ H _ I h) λ r s1 ⟨v,H1,I1,rv,q1⟩=>thn (ho pins s1 σ H1 _ I1 q1) λ u s2 ⟨x,H2,I2,rx,q2⟩=>thn (hi pins s2 σ H2 _ I2 q2) λ iv s3 ⟨y,H3,I3,ry,a,H4,ex,g,q3⟩=>?_) hs
 subst ex
 obtain rfl:u=Value.ref a:=rx
 exact nX hu I3 g ry rv λ s4 I4=>⟨σ,H4,I4,q3⟩
end
theorem sE {P:Program}{w:World}{H:Hp}(h:Heap)(hb:sysModules<h.objs.size):ObjOk P w H (h.push { cls:=.type "dict",data:=.dict #[] }) h.objs.size (.dK []) :=
 ⟨A6 _,beq_eq_false_iff_ne.mpr (Ne.symm (zb hb)),[],.nil,Heap.DictOf.new h⟩
noncomputable def wR:TE:=λ _ H Q=>∀ p,H p=none->Q (.ref p) (upd H p (.dK []))
section
variable {X:Cx}{pos:Pos}
theorem qX:PE X (.Dict [] [] pos) wR:=λ pins s σ H Q I h =>
 wpAny_Dict_empty ⟨.ref s.heap.objs.size,_,I.laid (a:=s.heap.objs.size) (o:=.dK []) (t':=s.toks) (λ _ _ q=>Heap.get?_push_of_some _ q) (y4 _) (sE s.heap I.big),rfl,h _ (I.hok.fresh (y4 _))⟩
end
structure M1 (X:Cx)(o:Expr)(m:Str)(apos:Pos)(e:Expr)(cpos:Pos):Prop where
 base:attributeBase o m X.env (eval o X.env)=eval o X.env
 few:((backTo cpos (starEach [e] X.env)).all (λ x=>!x.1)&&(backToKw cpos (keywordEach [] X.env)).all (λ x=>x.1.isSome)
  && decide (([e]:List Expr).length+([]:List Keyword).length+(if ([]:List Keyword).isEmpty then 0 else 1)<30))=true
 line:(apos.endLine == cpos.line)=true
 trees:backTo cpos (starEach [e] X.env)=[(false,eval e X.env)]
structure M2 (X:Cx)(o:Expr)(m:Str)(apos:Pos)(e f:Expr)(cpos:Pos):Prop where
 base:attributeBase o m X.env (eval o X.env)=eval o X.env
 few:((backTo cpos (starEach [e,f] X.env)).all (λ x=>!x.1)&&(backToKw cpos (keywordEach [] X.env)).all (λ x=>x.1.isSome)
  && decide (([e,f]:List Expr).length+([]:List Keyword).length+(if ([]:List Keyword).isEmpty then 0 else 1)<30))=true
 line:(apos.endLine == cpos.line)=true
 trees:backTo cpos (starEach [e,f] X.env)=[(false,eval e X.env),(false,eval f X.env)]
noncomputable def IsD (H:Hp)(a:Addr):Prop:=(∃ kvs,Rd H a (.dK kvs))\/∃ kvs,Rd H a (.dT kvs)
theorem wf {X:Cx}{pins:List (Addr × Obj)}{σ:St}{H:Hp}{s:Shared}{a:Addr}(I:Inv X pins σ H s)(d:IsD H a) :
  s.TypeIs (.ref a) "dict"/\(∀ b,Value.ref a=.ref b->∃ ob,s.heap.get? b=some ob/\ob.dict=none)/\(a == sysModules)=false:=by
 rcases d with ⟨kvs,e⟩|⟨kvs,e⟩
 ·obtain⟨_,hd,vs,_,dd⟩:=mR I.hok e
  refine⟨dd.typeIs,λ b q=>?_,hd⟩
  cases q
  obtain⟨ob,_,_,h1,h2,_⟩:=dd
  exact⟨ob,h1,h2.2.1⟩
 ·obtain⟨_,hd,xs,_,dd⟩:=nz I.hok e
  refine⟨dd.typeIs,λ b q=>?_,hd⟩
  cases q
  obtain⟨ob,_,_,h1,h2,_⟩:=dd
  exact⟨ob,h1,h2.2.1⟩
section
variable {X:Cx}{pins:List (Addr × Obj)}{σ:St}{H:Hp}{s:Shared}{a:Addr}{y d:V}{u r:Value}{o:Option V}{A:Around}{E:Value->Shared->Prop}
end
section
variable {X:Cx}{o e f:Expr}{apos cpos:Pos}{td ty tx:TE}
end
section
variable {X:Cx}{pins:List (Addr × Obj)}{σ:St}{H:Hp}{s:Shared}{a:Addr}{kvs:List (Key × V)}{A:Around}{E:Value->Shared->Prop}
end
section
variable {X:Cx}{pins:List (Addr × Obj)}{σ:St}{H:Hp}{s:Shared}{a:Addr}{y:V}{u:Value}{A:Around}{E:Value->Shared->Prop}
end
end L2
namespace Dv
inductive D where
 | non
 | bl (b:Bool)
 | int (i:Int)
  | str (x:List Nat)
 | lst (ds:List D)
 | tup (ds:List D)
  | exn (c:String)
  | raw (a:Nat)
  | tab (rows:List (List Int))
  | dct (ks:List Int) (ds:List D)
noncomputable def scal:D->Bool
 | .lst _=>false
 | .tup _=>false
 | .exn _=>false
 | .raw _=>false
 | .tab _=>false
 | .dct _ _=>false
 | _=>true
noncomputable def noTy:D->Bool
 | .exn _=>true
 | .raw _=>true
 | .tab _=>true
 | _=>false
noncomputable def flatL:List D->Bool
 | []=>true
 | d::r=>scal d&&flatL r
noncomputable def clipS (x:List Nat):List Nat:=x.map (·%1114112)
mutual
noncomputable def eqD:D->D->Option Bool
 | .non,.non=>some true
 | .bl a,.bl b=>some (a == b)
 | .int a,.int b=>some (decide (a=b))
 | .str a,.str b=>some (decide (clipS a=clipS b))
 | .lst a,.lst b=>eqDL a b
 | .tup a,.tup b=>eqDL a b
 | _,_=>none
noncomputable def eqDL:List D->List D->Option Bool
 | [],[]=>some true
 | [],_::_=>some false
 | _::_,[]=>some false
 | a::x,b::y =>
  match eqD a b,eqDL x y with
  | some p,some q=>some (p&&q)
  | _,_=>none
end
mutual
noncomputable def depthD:D->Nat
 | .lst ds=>depthL ds+1
 | .tup ds=>depthL ds+1
 | .exn _=>100
 | .raw _=>100
 | .tab _=>100
 | .dct _ _=>100
 | _=>0
noncomputable def depthL:List D->Nat
 | []=>0
 | d::r=>max (depthD d) (depthL r)
end
noncomputable def intsOf:List D->Option (List Int)
 | []=>some []
 | .int i::r=>(intsOf r).map (i::·)
 | _::_=>none
noncomputable def bits (a:Int):Nat:=if a=0 then 0 else a.natAbs.log2+1
noncomputable def mulOk (i j:Int):Bool:=decide (bits i<=64) || decide (bits j<=64) || (decide (bits i<=1048576)&&decide (bits j<=1048576))
noncomputable def divOk (j:Int):Bool:=decide (0<j)&&decide (j.natAbs.log2<9000)
noncomputable def ins (i:Int):List Int->List Int
 | []=>[i]
 | j::r=>if i<=j then i::j::r else j::ins i r
noncomputable def isort:List Int->List Int
 | []=>[]
 | i::r=>ins i (isort r)
inductive R where
 | ok (d:D) (fr:Bool)
 | exc (c:String)
 | bad
inductive RL where
 | ok (ds:List D) (fr:Bool)
 | exc (c:String)
 | bad
noncomputable abbrev R.bind (r:R)(k:D->Bool->R):R:=match r with
 | .ok d fr=>k d fr
 | .exc c=>.exc c
 | .bad=>.bad
noncomputable abbrev RL.bind (r:RL)(k:List D->Bool->R):R:=match r with
 | .ok d fr=>k d fr
 | .exc c=>.exc c
 | .bad=>.bad
noncomputable abbrev R.bindL (r:R)(k:D->Bool->RL):RL:=match r with
 | .ok d fr=>k d fr
 | .exc c=>.exc c
 | .bad=>.bad
noncomputable abbrev RL.bindL (r:RL)(k:List D->Bool->RL):RL:=match r with
 | .ok d fr=>k d fr
 | .exc c=>.exc c
 | .bad=>.bad
noncomputable abbrev Env:=List (Option D)
noncomputable abbrev EE:=Env->R
noncomputable abbrev EL:=Env->RL
inductive Op where
 | add|sub|mul|mod|fdiv|pow|shr|band
inductive Cm where
 | lt|le|gt|ge|eq|ne|isin|notin|isT|isNotT
noncomputable def mx:Nat:=100000
noncomputable def opD:Op->D->D->R
 | .add,.int i,.int j=>.ok (.int (i+j)) true
 | .add,.lst a,.lst b=>if a.length+b.length<=mx then .ok (.lst (a++b)) (flatL a&&flatL b) else .bad
 | .sub,.int i,.int j=>.ok (.int (i-j)) true
 | .mul,.int i,.int j=>if mulOk i j then .ok (.int (i*j)) true else .bad
 | .mul,.lst a,.int j=>if decide (-100000<=j)&&decide (j<=mx)&&decide (a.length*j.toNat<=mx) then .ok (.lst (List.replicate j.toNat a).flatten) (flatL a) else .bad
 | .mod,.int i,.int j=>if decide (0<j) then .ok (.int (i%j)) true else .bad
 | .fdiv,.int i,.int j=>if divOk j then .ok (.int (i/j)) true else .bad
 | .pow,.int i,.int j=>if decide (0<=j)&&decide (j<=1000)&&decide (i.natAbs<1000000) then .ok (.int (i ^ j.toNat)) true else .bad
 | .band,.int i,.int j=>if decide (j=1) then .ok (.int (i%2)) true else .bad
 | .shr,.int i,.int j=>if decide (0<=j) then .ok (.int (i/2 ^ j.toNat)) true else .bad
 | _,_,_=>.bad
theorem opD_ai (i j:Int):opD .add (.int i) (.int j)=.ok (.int (i+j)) true:=rfl
theorem opD_al (a b:List D):opD .add (.lst a) (.lst b)=if a.length+b.length<=mx then .ok (.lst (a++b)) (flatL a&&flatL b) else .bad:=rfl
theorem opD_su (i j:Int):opD .sub (.int i) (.int j)=.ok (.int (i-j)) true:=rfl
theorem opD_mi (i j:Int):opD .mul (.int i) (.int j)=if mulOk i j then .ok (.int (i*j)) true else .bad:=rfl
theorem opD_ml (a:List D)(j:Int):opD .mul (.lst a) (.int j)=if decide (-100000<=j)&&decide (j<=mx)&&decide (a.length*j.toNat<=mx) then .ok (.lst (List.replicate j.toNat a).flatten) (flatL a) else .bad:=rfl
theorem opD_mo (i j:Int):opD .mod (.int i) (.int j)=if decide (0<j) then .ok (.int (i%j)) true else .bad:=rfl
theorem opD_fd (i j:Int):opD .fdiv (.int i) (.int j)=if divOk j then .ok (.int (i/j)) true else .bad:=rfl
theorem opD_po (i j:Int):opD .pow (.int i) (.int j)=if decide (0<=j)&&decide (j<=1000)&&decide (i.natAbs<1000000) then .ok (.int (i ^ j.toNat)) true else .bad:=rfl
theorem opD_ba (i j:Int):opD .band (.int i) (.int j)=if decide (j=1) then .ok (.int (i%2)) true else .bad:=rfl
theorem opD_sh (i j:Int):opD .shr (.int i) (.int j)=if decide (0<=j) then .ok (.int (i/2 ^ j.toNat)) true else .bad:=rfl
noncomputable def inD (i:Int):List D->Option Bool
 | []=>some false
 | .int j::r=>(inD i r).map (decide (j=i) || ·)
 | _::_=>none
noncomputable def optB:Option Bool->R
 | some b=>.ok (.bl b) true
 | none=>.bad
noncomputable def cmD:Cm->D->D->R
 | .eq,a,b=>if decide (depthD a<=9)&&decide (depthD b<=9) then optB (eqD a b) else .bad
 | .ne,a,b=>if decide (depthD a<=9)&&decide (depthD b<=9) then optB ((eqD a b).map (!·)) else .bad
 | .lt,.int i,.int j=>.ok (.bl (decide (i<j))) true
 | .le,.int i,.int j=>.ok (.bl (decide (i<=j))) true
 | .gt,.int i,.int j=>.ok (.bl (decide (j<i))) true
 | .ge,.int i,.int j=>.ok (.bl (decide (j<=i))) true
 | .isin,.int i,.lst b=>optB (inD i b)
 | .notin,.int i,.lst b=>optB ((inD i b).map (!·))
 | .isT,.bl a,.bl true=>.ok (.bl a) true
 | .isNotT,.bl a,.bl true=>.ok (.bl (!a)) true
 | _,_,_=>.bad
theorem cmD_eq (a b:D):cmD .eq a b=if decide (depthD a<=9)&&decide (depthD b<=9) then optB (eqD a b) else .bad:=rfl
theorem cmD_ne (a b:D):cmD .ne a b=if decide (depthD a<=9)&&decide (depthD b<=9) then optB ((eqD a b).map (!·)) else .bad:=rfl
theorem cmD_lt (i j:Int):cmD .lt (.int i) (.int j)=.ok (.bl (decide (i<j))) true:=rfl
theorem cmD_le (i j:Int):cmD .le (.int i) (.int j)=.ok (.bl (decide (i<=j))) true:=rfl
theorem cmD_gt (i j:Int):cmD .gt (.int i) (.int j)=.ok (.bl (decide (j<i))) true:=rfl
theorem cmD_ge (i j:Int):cmD .ge (.int i) (.int j)=.ok (.bl (decide (j<=i))) true:=rfl
theorem cmD_in (i:Int)(b:List D):cmD .isin (.int i) (.lst b)=optB (inD i b):=rfl
theorem cmD_ni (i:Int)(b:List D):cmD .notin (.int i) (.lst b)=optB ((inD i b).map (!·)):=rfl
theorem cmD_it (a:Bool):cmD .isT (.bl a) (.bl true)=.ok (.bl a) true:=rfl
theorem cmD_nt (a:Bool):cmD .isNotT (.bl a) (.bl true)=.ok (.bl (!a)) true:=rfl
noncomputable def eVar (i:Nat):EE:=λ ρ=>match ρ[i]? with
 | some (some d)=>.ok d (scal d)
 | _=>.bad
noncomputable def eInt (i:Int):EE:=λ _=>.ok (.int i) true
noncomputable def eBl (b:Bool):EE:=λ _=>.ok (.bl b) true
noncomputable def eOp (o:Op)(a b:EE):EE:=λ ρ=>(a ρ).bind λ x _=>(b ρ).bind λ y _=>opD o x y
noncomputable def eCm (o:Cm)(a b:EE):EE:=λ ρ=>(a ρ).bind λ x _=>(b ρ).bind λ y _=>cmD o x y
noncomputable def eNeg (a:EE):EE:=λ ρ=>(a ρ).bind λ x _=>match x with
 | .int i=>.ok (.int (-i)) true
 | _=>.bad
noncomputable def eAnd (a b:EE):EE:=λ ρ=>(a ρ).bind λ x _=>match x with
 | .bl true=>b ρ
 | .bl false=>.ok (.bl false) true
 | _=>.bad
noncomputable def eOr (a b:EE):EE:=λ ρ=>(a ρ).bind λ x _=>match x with
 | .bl true=>.ok (.bl true) true
 | .bl false=>b ρ
 | _=>.bad
noncomputable def eNot (a:EE):EE:=λ ρ=>(a ρ).bind λ x _=>match x with
 | .bl b=>.ok (.bl (!b)) true
 | _=>.bad
noncomputable def lNil:EL:=λ _=>.ok [] true
noncomputable def lCons (a:EE)(r:EL):EL:=λ ρ=>(a ρ).bindL λ d f=>(r ρ).bindL λ ds g=>.ok (d::ds) (f&&g)
noncomputable def eLst (a:EL):EE:=λ ρ=>(a ρ).bind λ ds f=>.ok (.lst ds) f
noncomputable def eTup (a:EL):EE:=λ ρ=>(a ρ).bind λ ds f=>.ok (.tup ds) f
noncomputable def at? (ds:List D)(i:Int):Option D:=if 0<=i then ds[i.toNat]? else if -(ds.length:Int)<=i then ds[(i+ds.length).toNat]? else none
noncomputable def ixD (a i:D)(f:Bool):R:=match a,i with
 | .lst ds,.int k=>match at? ds k with
  | some d=>.ok d (f || scal d)
  | none=>.bad
 | .tup ds,.int k=>match at? ds k with
  | some d=>.ok d (f || scal d)
  | none=>.bad
 | _,_=>.bad
noncomputable def eIx (a i:EE):EE:=λ ρ=>(a ρ).bind λ x f=>(i ρ).bind λ y _=>ixD x y f
noncomputable def eCall (F:List D->R)(a:EL):EE:=λ ρ=>(a ρ).bind λ ds _=>F ds
noncomputable def eB1 (F:D->Bool->R)(a:EE):EE:=λ ρ=>(a ρ).bind F
noncomputable def lenD:D->Bool->R
 | .lst ds,_=>.ok (.int ds.length) true
 | .tup ds,_=>.ok (.int ds.length) true
 | _,_=>.bad
noncomputable def sortedD:D->Bool->R
 | .lst ds,_=>match intsOf ds with
  | some ns=>if ns.length<64 then .ok (.lst ((isort ns).map .int)) true else .bad
  | none=>.bad
 | _,_=>.bad
noncomputable def listD:D->Bool->R
 | .lst ds,f=>.ok (.lst ds) (f || flatL ds)
 | .tup ds,f=>.ok (.lst ds) (f || flatL ds)
 | _,_=>.bad
noncomputable def cutI (n:Nat)(dflt:Nat):Option Int->Nat
 | none=>dflt
 | some i=>if i<0 then (i+(n:Int)).toNat else min i.toNat n
noncomputable def cutL {α:Type}(ds:List α)(lo hi:Option Int):List α:=(ds.drop (cutI ds.length 0 lo)).take (cutI ds.length ds.length hi-cutI ds.length 0 lo)
noncomputable def sliceD (a:D)(f:Bool)(lo hi:Option Int):R:=match a with
 | .lst ds=>.ok (.lst (cutL ds lo hi)) (f || flatL (cutL ds lo hi))
 | _=>.bad
noncomputable def ePart (p:Option EE)(ρ:Env)(k:Option Int->R):R:=match p with
 | none=>k none
 | some e=>(e ρ).bind λ d _=>match d with
  | .int i=>k (some i)
  | _=>.bad
noncomputable def eSlice (a:EE)(lo hi:Option EE):EE:=λ ρ=>(a ρ).bind λ x f=>ePart lo ρ λ i=>ePart hi ρ λ j=>sliceD x f i j
noncomputable def eB2 (F:D->D->R)(a b:EE):EE:=λ ρ=>(a ρ).bind λ x _=>(b ρ).bind λ y _=>F x y
noncomputable def max2D:D->D->R
 | .int i,.int j=>.ok (.int (if j > i then j else i)) true
 | _,_=>.bad
noncomputable def min2D:D->D->R
 | .int i,.int j=>.ok (.int (if j<i then j else i)) true
 | _,_=>.bad
noncomputable def isListD:D->Bool->R
 | .exn _,_=>.bad
 | .raw _,_=>.bad
 | .tab _,_=>.bad
 | .lst _,_=>.ok (.bl true) true
 | _,_=>.ok (.bl false) true
noncomputable def subX (c k:String):Bool:=c == k || k == "WheelError" || k == "ValueError"
noncomputable def isXD (kn ks:List String):D->Bool->R
 | .exn c,_=>if kn.contains c then .ok (.bl (ks.any (subX c))) true else .bad
 | _,_=>.bad
inductive RI where
 | ok (ds:List D) (fr:Bool)
 | exc (c:String)
 | bad
noncomputable abbrev EI:=Env->RI
noncomputable def rangeL (lo:Int):Nat->List D
 | 0=>[]
 | n+1=>.int lo::rangeL (lo+1) n
noncomputable def iSeq (a:EE):EI:=λ ρ=>match a ρ with
 | .ok (.lst ds) f=>.ok ds f
 | .exc c=>.exc c
 | _=>.bad
noncomputable def rngOk (i:Int):Bool:=decide (-1000000<=i)&&decide (i<=1000000)
noncomputable def iRange (a:EE):EI:=λ ρ=>match a ρ with
 | .ok (.int j) _=>if rngOk j then .ok (rangeL 0 j.toNat) true else .bad
 | .exc c=>.exc c
 | _=>.bad
noncomputable def iRange2 (a b:EE):EI:=λ ρ=>match a ρ with
 | .ok (.int i) _=>match b ρ with
  | .ok (.int j) _=>if rngOk i&&rngOk j then .ok (rangeL i (j-i).toNat) true else .bad
  | .exc c=>.exc c
  | _=>.bad
 | .exc c=>.exc c
 | _=>.bad
noncomputable def compGo (elt:EE)(cond:EE)(free:Env):List D->RL
 | []=>.ok [] true
 | d::r=>match cond (some d::free) with
  | .ok (.bl true) _=>match elt (some d::free) with
   | .ok x f=>match compGo elt cond free r with
    | .ok xs g=>.ok (x::xs) (f&&g)
    | _=>.bad
   | _=>.bad
  | .ok (.bl false) _=>compGo elt cond free r
  | _=>.bad
noncomputable def pick (ρ:Env)(is:List Nat):Env:=is.map λ i=>(ρ[i]?).getD none
noncomputable def eComp (elt cond:EE)(is:List Nat)(it:EI):EE:=λ ρ=>match it ρ with
 | .ok ds _=>if ds.length<=mx then match compGo elt cond (pick ρ is) ds with
   | .ok xs f=>.ok (.lst xs) f
   | _=>.bad
  else .bad
 | .exc c=>.exc c
 | .bad=>.bad
inductive Sl where
 | no
 | sh (d:D)
 | ow (d:D)
  | dp (d:D)
  | jk (n m:Nat)
noncomputable abbrev St:=List Sl
noncomputable def Sl.get:Sl->Option D
 | .no=>none
 | .sh d=>some d
 | .ow d=>some d
 | .dp d=>some d
 | .jk _ _=>none
noncomputable def Sl.shared:Sl->Option D
 | .sh d=>some d
 | _=>none
noncomputable def Sl.give:Sl->Sl
 | .ow d=>.sh d
 | .dp d=>.sh d
 | s=>s
noncomputable def all (st:St):Env:=st.map Sl.get
noncomputable def open_ (st:St):Env:=st.map Sl.shared
noncomputable def give (is:List Nat)(st:St):St:=is.foldl (λ st i=>st.set i ((st[i]?.getD .no).give)) st
inductive Out where
 | nx (st:St)
 | ret (d:D) (nw:Bool)
 | brk (st:St)
 | cont (st:St)
 | exc (c:String) (st:St)
 | bad
noncomputable abbrev SS:=St->Out
noncomputable abbrev Out.bind (o:Out)(k:St->Out):Out:=match o with
 | .nx st=>k st
 | o=>o
noncomputable def sNil:SS:=λ st=>.nx st
noncomputable def sCons (a r:SS):SS:=λ st=>(a st).bind r
noncomputable def keepD (d:D)(f:Bool):Option Sl:=match d with
 | .lst ds=>if f&&flatL ds then some (.ow d) else none
 | .tup _=>none
 | .exn _=>none
 | .raw _=>none
 | .tab _=>none
 | .dct ks ds=>if f&&ks.isEmpty&&ds.isEmpty then some (.ow d) else none
 | _=>some (.sh d)
noncomputable def sSet (i:Nat)(e:EE):SS:=λ st=>match e (all st) with
 | .ok d f=>match keepD d f with
  | some s=>.nx (st.set i s)
  | none=>.bad
 | .exc c=>.exc c st
 | .bad=>.bad
noncomputable def sSetG (is:List Nat)(i:Nat)(e:EE):SS:=λ st=>match e (open_ (give is st)) with
 | .ok d _=>.nx ((give is st).set i (.sh d))
 | .exc c=>.exc c st
 | .bad=>.bad
noncomputable def sExpr (e:EE):SS:=λ st=>match e (all st) with
 | .ok _ _=>.nx st
 | .exc c=>.exc c st
 | .bad=>.bad
noncomputable def sRet (e:EE):SS:=λ st=>match e (all st) with
 | .ok d f=>.ret d f
 | .exc c=>.exc c st
 | .bad=>.bad
noncomputable def sRetO (i:Nat):SS:=λ st=>match st[i]? with
 | some (.ow (.lst ds))=>.ret (.lst ds) (flatL ds)
 | some (.ow (.dct ks ds))=>.ret (.dct ks ds) false
 | some (.dp d)=>.ret d true
 | some (.sh d)=>.ret d (scal d)
 | _=>.bad
noncomputable def sIf (c:EE)(a b:SS):SS:=λ st=>match c (all st) with
 | .ok (.bl true) _=>a st
 | .ok (.bl false) _=>b st
 | .exc c=>.exc c st
 | _=>.bad
noncomputable def sRaise (c:String):SS:=λ st=>.exc c st
noncomputable def unb (i:Nat):Out->Out
 | .nx st=>.nx (st.set i .no)
 | .brk st=>.brk (st.set i .no)
 | .cont st=>.cont (st.set i .no)
 | .ret d f=>.ret d f
 | _=>.bad
noncomputable def noX:Out->Out
 | .exc _ _=>.bad
 | o=>o
noncomputable def sTryAs (kn:List String)(i:Nat)(k:String)(F G:SS):SS:=λ st=>match F st with
 | .exc c st'=>if kn.contains c&&subX c k then unb i (G (st'.set i (.sh (.exn c)))) else .bad
 | o=>o
noncomputable def sApp (i:Nat)(e:EE):SS:=λ st=>match st[i]? with
 | some (.ow (.lst ds))=>match e (all st) with
  | .ok d _=>if scal d&&decide (ds.length<mx) then .nx (st.set i (.ow (.lst (ds++[d])))) else .bad
  | .exc c=>.exc c st
  | .bad=>.bad
 | _=>.bad
noncomputable def sPut (i:Nat)(k e:EE):SS:=λ st=>match st[i]? with
 | some (.ow (.lst ds))=>match e (all st) with
  | .ok d _=>match k (all st) with
   | .ok (.int j) _=>if scal d&&decide (0<=j)&&decide (j<ds.length) then .nx (st.set i (.ow (.lst (ds.set j.toNat d)))) else .bad
   | .exc c=>.exc c st
   | _=>.bad
  | .exc c=>.exc c st
  | .bad=>.bad
 | _=>.bad
noncomputable def sAugIx (i:Nat)(o:Op)(k e:EE):SS:=λ st=>match st[i]? with
 | some (.ow (.lst ds))=>match k (all st) with
  | .ok (.int j) _=>if 0<=j then match at? ds j with
    | some x=>match e (all st) with
     | .ok y _=>match opD o x y with
      | .ok (.int z) _=>.nx (st.set i (.ow (.lst (ds.set j.toNat (.int z)))))
      | _=>.bad
     | .exc c=>.exc c st
     | .bad=>.bad
    | none=>.bad
   else .bad
  | .exc c=>.exc c st
  | _=>.bad
 | _=>.bad
noncomputable def sExt (i:Nat)(e:EE):SS:=λ st=>match st[i]? with
 | some (.ow (.lst ds))=>match e (all st) with
  | .ok (.lst es) f=>if f&&flatL es&&decide (ds.length+es.length<=mx) then .nx (st.set i (.ow (.lst (ds++es)))) else .bad
  | .exc c=>.exc c st
  | _=>.bad
 | _=>.bad
noncomputable def forGo (x:Nat)(body:SS):List D->SS
 | [],st=>.nx st
 | d::r,st=>match body (st.set x (.sh d)) with
  | .nx st'=>forGo x body r st'
  | .cont st'=>forGo x body r st'
  | .brk st'=>.nx st'
  | o=>o
noncomputable def sFor (is:List Nat)(x:Nat)(it:EI)(body:SS):SS:=λ st=>match it (open_ (give is st)) with
 | .ok ds _=>forGo x body ds (give is st)
 | .exc c=>.exc c st
 | .bad=>.bad
noncomputable def whileGo (c:EE)(body:SS):Nat->SS
 | 0,_=>.bad
 | n+1,st=>match c (all st) with
  | .ok (.bl true) _=>match body st with
   | .nx st'=>whileGo c body n st'
   | .cont st'=>whileGo c body n st'
   | .brk st'=>.nx st'
   | o=>o
  | .ok (.bl false) _=>.nx st
  | .exc c=>.exc c st
  | _=>.bad
noncomputable def sWhile (n:Nat)(c:EE)(body:SS):SS:=whileGo c body n
noncomputable def setAll:List Nat->List D->St->St
 | i::is,d::ds,st=>setAll is ds (st.set i (.sh d))
 | _,_,st=>st
noncomputable def sUnpack (is:List Nat)(xs:List Nat)(e:EE):SS:=λ st=>match e (open_ (give is st)) with
 | .ok (.tup ds) _=>if ds.length=xs.length then .nx (setAll xs ds (give is st)) else .bad
 | .exc c=>.exc c st
 | _=>.bad
noncomputable def sPar (is:List Nat)(x y:Nat)(a b:EE):SS:=λ st=>match a (open_ (give is st)) with
 | .ok d _=>match b (open_ (give is st)) with
  | .ok d' _=>.nx (((give is st).set x (.sh d)).set y (.sh d'))
  | .exc c=>.exc c st
  | .bad=>.bad
 | .exc c=>.exc c st
 | .bad=>.bad
noncomputable def forGoT (tgt:D->St->Option St)(body:SS):List D->SS
 | [],st=>.nx st
 | d::r,st=>match tgt d st with
  | none=>.bad
  | some st1=>match body st1 with
   | .nx st'=>forGoT tgt body r st'
   | .cont st'=>forGoT tgt body r st'
   | .brk st'=>.nx st'
   | o=>o
noncomputable def sForT (is:List Nat)(tgt:D->St->Option St)(it:EI)(body:SS):SS:=λ st=>match it (open_ (give is st)) with
 | .ok ds _=>forGoT tgt body ds (give is st)
 | .exc c=>.exc c st
 | .bad=>.bad
noncomputable def tupTo (xs:List Nat)(d:D)(s:St):Option St:=match d with
 | .tup ds=>if ds.length=xs.length then some (setAll xs ds s) else none
 | _=>none
noncomputable def fn (n:Nat)(body:SS)(ds:List D):R:=match body (ds.map .sh++List.replicate (n-ds.length) .no) with
 | .nx _=>.ok .non true
 | .ret d f=>.ok d f
 | .exc c _=>.exc c
 | _=>.bad
end Dv
namespace Sd
open PySem PySem.Spec PyProof.Rows L2
open Dv (D R RL EE EL EI RI)
noncomputable abbrev St:=L2.St
noncomputable def SqX (K:PySem.W.Frag)(H:Hp)(a:Addr)(xs:List V):Prop :=
 Rd H a (.lst xs)\/∃ (its:List Value) (n:Nat),K.lookup a=some { cls:=.type "list",data:=.seq its.toArray n }/\xs.length<=sizeLine/\Vals xs its
theorem SqX.seq {K:PySem.W.Frag}{H:Hp}{a:Addr}{xs:List V}(h:SqX K H a xs):SqL K H a xs:=by
 rcases h with h|⟨its,n,e,z,r⟩
 ·exact .inl h
 ·refine .inr ⟨_,its.toArray,n,e,rfl,rfl,rfl,?_,by simpa using r⟩
  rw[yY,<- r.length]; exact z
theorem SqX.of {K:PySem.W.Frag}{H:Hp}{a:Addr}{xs:List V}(h:H a=some (.lst xs)):SqX K H a xs:=.inl (.inl h)
theorem Rd.same {H H':Hp}{a:Addr}{o:HO}(e:Same H H')(h:Rd H a o):Rd H' a o:=by
 rcases h with h|⟨u,h⟩
 ·exact .inl (e _ _ h)
 ·exact .inr ⟨u,e _ _ h⟩
theorem SqX.same {K:PySem.W.Frag}{H H':Hp}{a:Addr}{xs:List V}(e:Same H H')(h:SqX K H a xs):SqX K H' a xs:=by
 rcases h with h|h
 ·exact .inl (Rd.same e h)
 ·exact .inr h
theorem Inv.listX {X:Cx}{pins:List (Addr × Obj)}{σ:St}{H:Hp}{s:Shared}{a:Addr}{xs:List V}(I:Inv X pins σ H s)(h:SqX X.K H a xs) :
  ∃ (its:List Value) (n:Nat),Vals xs its/\s.heap.get? a=some { cls:=.type "list",data:=.seq its.toArray n }/\xs.length<=sizeLine:=by
 rcases h with h|⟨its,n,e,z,r⟩
 ·obtain⟨z,its,n,r,e⟩:=h.ok I.hok
  exact⟨its,n,r,e,z⟩
 ·exact⟨its,n,r,I.kIn a _ e,z⟩
noncomputable def jn (a C:Addr):Heap->Prop:=λ h=>∃ o vs,h.get? a=some o/\o.cls=.ref C/\o.data=.fields vs
noncomputable def Tbr (H:Hp):List Addr->List (List Int)->Prop
 | [],[]=>True
 | b::bs,r::rs=>Rd H b (.lst (r.map V.int))/\Tbr H bs rs
 | _,_=>False
theorem Tbr.same {H H':Hp}(e:∀ {b:Addr} {o:HO},Rd H b o->Rd H' b o):∀ {bs:List Addr} {rows:List (List Int)},Tbr H bs rows->Tbr H' bs rows
 | [],[],_=>True.intro
 | b::bs,r::rs,h=>⟨e h.1,Tbr.same e h.2⟩
 | [],_::_,h=>h.elim
 | _::_,[],h=>h.elim
mutual
noncomputable def Rp (K:PySem.W.Frag)(H:Hp):D->V->Prop
 | .non,v=>v=.non
 | .bl b,v=>v=.bl b
 | .int i,v=>v=.int i
 | .str x,v=>v=.str ⟨(Dv.clipS x).toArray⟩
 | .lst ds,v=>∃ a vs,v=.ref a/\SqX K H a vs/\RpL K H ds vs
 | .tup ds,v=>∃ a vs,v=.ref a/\Rd H a (.tup vs)/\RpL K H ds vs
 | .exn c,v=>∃ a C,v=.ref a/\PySem.W.nsIn K mainGlobals (Str.ofString c)=some (some (.ref C))/\H a=some (.ext (jn a C))
 | .raw a,v=>v=.ref a
 | .tab rows,v=>∃ t bs,v=.ref t/\Rd H t (.lst (bs.map V.ref))/\t∉bs/\bs.Nodup/\Tbr H bs rows
 | .dct ks ds,v=>∃ a vs,v=.ref a/\ks.length=ds.length/\Rd H a (.dK ((ks.map Sum.inl).zip vs))/\RpL K H ds vs
noncomputable def RpL (K:PySem.W.Frag)(H:Hp):List D->List V->Prop
 | [],vs=>vs=[]
 | d::r,vs=>∃ v ws,vs=v::ws/\Rp K H d v/\RpL K H r ws
end
mutual
theorem Rp.same {K:PySem.W.Frag}{H H':Hp}(e:Same H H'):∀ {d:D} {v:V},Rp K H d v->Rp K H' d v
 | .non,_,h=>by unfold Rp at h ⊢; exact h
 | .bl _,_,h=>by unfold Rp at h ⊢; exact h
 | .int _,_,h=>by unfold Rp at h ⊢; exact h
 | .str _,_,h=>by unfold Rp at h ⊢; exact h
 | .raw _,_,h=>by unfold Rp at h ⊢; exact h
 | .tab _,v,h=>by
  unfold Rp at h ⊢
  obtain⟨t,bs,h1,h2,h3,h4,h5⟩:=h
  exact⟨t,bs,h1,Rd.same e h2,h3,h4,h5.same λ q=>Rd.same e q⟩
 | .lst ds,v,h=>by
  unfold Rp at h ⊢
  obtain⟨a,vs,h1,h2,h3⟩:=h
  exact⟨a,vs,h1,h2.same e,RpL.same e h3⟩
 | .tup ds,v,h=>by
  unfold Rp at h ⊢
  obtain⟨a,vs,h1,h2,h3⟩:=h
  exact⟨a,vs,h1,Rd.same e h2,RpL.same e h3⟩
 | .exn c,v,h=>by
  unfold Rp at h ⊢
  obtain⟨a,C,h1,h2,h3⟩:=h
  exact⟨a,C,h1,h2,e _ _ h3⟩
 | .dct ks ds,v,h=>by
  unfold Rp at h ⊢
  obtain⟨a,vs,h1,h2,h3,h4⟩:=h
  exact⟨a,vs,h1,h2,Rd.same e h3,RpL.same e h4⟩
theorem RpL.same {K:PySem.W.Frag}{H H':Hp}(e:Same H H'):∀ {ds:List D} {vs:List V},RpL K H ds vs->RpL K H' ds vs
 | [],_,h=>by unfold RpL at h ⊢; exact h
 | d::r,vs,h=>by
  unfold RpL at h ⊢
  obtain⟨v,ws,h1,h2,h3⟩:=h
  exact⟨v,ws,h1,Rp.same e h2,RpL.same e h3⟩
end
theorem RpL.length {K:PySem.W.Frag}{H:Hp}:∀ {ds:List D} {vs:List V},RpL K H ds vs->vs.length=ds.length
 | [],_,h=>by unfold RpL at h; subst h; rfl
 | d::r,vs,h=>by
  unfold RpL at h
  obtain⟨v,ws,rfl,_,h3⟩:=h
  rw[yJ,yJ,RpL.length h3]
theorem Rp.scal {K K':PySem.W.Frag}{H H':Hp}{d:D}{v:V}(f:Dv.scal d=true)(h:Rp K H d v):Rp K' H' d v:=by
 cases d with
 | lst ds=>exact absurd f (by simp[Dv.scal])
 | tup ds=>exact absurd f (by simp[Dv.scal])
 | exn c=>exact absurd f (by simp[Dv.scal])
 | raw c=>exact absurd f (by simp[Dv.scal])
 | tab c=>exact absurd f (by simp[Dv.scal])
 | dct ks ds=>exact absurd f (by simp[Dv.scal])
 | _=>unfold Rp at h ⊢; exact h
theorem RpL.flat {K K':PySem.W.Frag}{H H':Hp}:∀ {ds:List D} {vs:List V},Dv.flatL ds=true->RpL K H ds vs->RpL K' H' ds vs
 | [],_,_,h=>by unfold RpL at h ⊢; exact h
 | d::r,vs,f,h=>by
  unfold Dv.flatL at f
  rw[yN] at f
  unfold RpL at h ⊢
  obtain⟨v,ws,h1,h2,h3⟩:=h
  exact⟨v,ws,h1,h2.scal f.1,RpL.flat f.2 h3⟩
theorem RpL.append {K:PySem.W.Frag}{H:Hp}:∀ {ds es:List D} {vs ws:List V},RpL K H ds vs->RpL K H es ws->RpL K H (ds++es) (vs++ws)
 | [],_,_,_,h,g=>by unfold RpL at h; subst h; exact g
 | d::r,es,vs,ws,h,g=>by
  unfold RpL at h
  obtain⟨v,vs',rfl,h2,h3⟩:=h
  rw[yO,yO]
  unfold RpL
  exact⟨v,_,rfl,h2,RpL.append h3 g⟩
theorem RpL.get {K:PySem.W.Frag}{H:Hp}:∀ {ds:List D} {vs:List V} {i:Nat} {d:D},RpL K H ds vs->ds[i]?=some d->∃ v,vs[i]?=some v/\Rp K H d v
 | [],_,_,_,_,e=>by simp at e
 | x::r,vs,0,d,h,e=>by
  unfold RpL at h
  obtain⟨v,ws,rfl,h2,_⟩:=h
  simp at e; subst e
  exact⟨v,rfl,h2⟩
 | x::r,vs,i+1,d,h,e=>by
  unfold RpL at h
  obtain⟨v,ws,rfl,_,h3⟩:=h
  obtain⟨u,h4,h5⟩:=RpL.get (i:=i) (d:=d) h3 (by simpa using e)
  exact⟨u,by simpa using h4,h5⟩
theorem RpL.cons {K:PySem.W.Frag}{H:Hp}{d:D}{v:V}{ds:List D}{vs:List V}(h:Rp K H d v)(g:RpL K H ds vs):RpL K H (d::ds) (v::vs):=by
 unfold RpL; exact⟨v,vs,rfl,h,g⟩
theorem RpL.nil {K:PySem.W.Frag}{H:Hp}:RpL K H [] []:=by unfold RpL; rfl
theorem RpL.set {K:PySem.W.Frag}{H:Hp}{d:D}{v:V}(g:Rp K H d v):∀ {ds:List D} {vs:List V} (i:Nat),RpL K H ds vs->RpL K H (ds.set i d) (vs.set i v)
 | [],_,i,h=>by unfold RpL at h; subst h; exact .nil
 | x::r,vs,0,h=>by
  unfold RpL at h
  obtain⟨u,ws,rfl,_,h3⟩:=h
  exact .cons g h3
 | x::r,vs,i+1,h=>by
  unfold RpL at h
  obtain⟨u,ws,rfl,h2,h3⟩:=h
  exact .cons h2 (RpL.set g i h3)
theorem RpL.ints {K:PySem.W.Frag}{H:Hp}:∀ {ds:List D} {vs:List V} {ns:List Int},Dv.intsOf ds=some ns->RpL K H ds vs->vs=ns.map V.int
 | [],vs,ns,e,h=>by
  simp[Dv.intsOf] at e; subst e
  unfold RpL at h; exact h
 | d::r,vs,ns,e,h=>by
  unfold RpL at h
  obtain⟨v,ws,rfl,h2,h3⟩:=h
  cases d with
  | int i =>
   simp only[Dv.intsOf,zS] at e
   obtain⟨ms,e1,rfl⟩:=e
   unfold Rp at h2
   subst h2
   rw[RpL.ints e1 h3,yH]
  | _=>simp[Dv.intsOf] at e
theorem RpL.ofInts {K:PySem.W.Frag}{H:Hp}:∀ (ns:List Int),RpL K H (ns.map .int) (ns.map V.int)
 | []=>.nil
 | n::r=>.cons (by unfold Rp; rfl) (RpL.ofInts r)
structure Ext (Hv H Hv' H':Hp):Prop where
 hh:Same H H'
 vv:Same Hv Hv'
 vh:Same Hv' H'
 new:∀ b o,Hv' b=some o->Hv b=none->H b=none
 all:∀ b,H b=none->Hv' b=H' b
 nf:∀ b o u,H b=none->H' b≠some (.frz o u)
theorem Ext.refl {Hv H:Hp}(e:Same Hv H):Ext Hv H Hv H:=⟨.refl _,.refl _,e,λ b o h n=>(by rw[n] at h; cases h),λ b h=>(by rw[h]; exact e.free h),λ b o u h=>by rw[h]; intro z; cases z⟩
theorem Ext.trans {Hv H Hv1 H1 Hv2 H2:Hp}(a:Ext Hv H Hv1 H1)(b:Ext Hv1 H1 Hv2 H2):Ext Hv H Hv2 H2 :=
 ⟨a.hh.trans b.hh,a.vv.trans b.vv,b.vh,λ c o h n=>(by
  cases q:Hv1 c with
  | some u=>exact a.new c u q n
  | none=>exact a.hh.free (b.new c o h q)),λ c h=>by
  cases q:H1 c with
  | none=>exact b.all c q
  | some o=>rw[b.hh c o q]; exact b.vv c o ((a.all c h).trans q),λ c o u h=>by
  cases q:H1 c with
  | none=>exact b.nf c o u q
  | some w=>rw[b.hh c w q,<- q]; exact a.nf c o u h⟩
theorem gX {H:Hp}{p:Addr}(h:H p=none)(o:HO):Same H (upd H p o):=λ b u q=>by rw[ar (ax q h)]; exact q
theorem Ext.new1 {Hv H:Hp}(e:Same Hv H){p:Addr}(h:H p=none)(o:HO)(ho:autoParam (∀ a u,o≠.frz a u) Au.h6._auto_1):Ext Hv H (upd Hv p o) (upd H p o):=by
 refine⟨gX h o,gX (e.free h) o,λ b u q=>?_,λ b u q n=>?_,λ b q=>?_,λ b a u q=>?_⟩
 ·by_cases hb:b=p
  ·subst hb; rw[aD] at q ⊢; exact q
  ·rw[ar hb] at q ⊢; exact e _ _ q
 ·by_cases hb:b=p
  ·subst hb; exact h
  ·rw[ar hb,n] at q; cases q
 ·by_cases hb:b=p
  ·subst hb; rw[aD,aD]
  ·rw[ar hb,ar hb,q]; exact e.free q
 ·by_cases hb:b=p
  ·subst hb; rw[aD]; exact λ z=>ho a u (Option.some.inj z)
  ·rw[ar hb,q]; intro z; cases z
noncomputable def Hnew (H H':Hp):Hp:=λ b=>match H b with
 | none=>H' b
 | some _=>none
theorem Hnew.mono {H H1 H2 H3:Hp}(a:Same H H1)(c:Same H2 H3):Same (Hnew H1 H2) (Hnew H H3):=λ b o h=>by
 unfold Hnew at h ⊢
 cases q:H b with
 | some u=>rw[a b u q] at h; cases h
 | none =>
  cases q1:H1 b with
  | some u=>rw[q1] at h; cases h
  | none=>rw[q1] at h; exact c b o h
theorem Ext.news {Hv H Hv' H':Hp}(x:Ext Hv H Hv' H'):Same (Hnew H H') Hv':=λ b o h=>by
 unfold Hnew at h
 cases q:H b with
 | some u=>rw[q] at h; cases h
 | none=>rw[q] at h; rw[x.all b q]; exact h
theorem Hnew.sub {H H':Hp}:Same (Hnew H H') H':=λ b o h=>by
 unfold Hnew at h
 cases q:H b with
 | some u=>rw[q] at h; cases h
 | none=>rw[q] at h; exact h
mutual
theorem Rp.frag {K:PySem.W.Frag}{H:Hp}:∀ {d:D} {v:V},Rp [] H d v->Rp K H d v
 | .non,_,h=>by unfold Rp at h ⊢; exact h
 | .bl _,_,h=>by unfold Rp at h ⊢; exact h
 | .int _,_,h=>by unfold Rp at h ⊢; exact h
 | .str _,_,h=>by unfold Rp at h ⊢; exact h
 | .raw _,_,h=>by unfold Rp at h ⊢; exact h
 | .tab _,_,h=>by unfold Rp at h ⊢; exact h
 | .lst ds,v,h=>by
  unfold Rp at h ⊢
  obtain⟨a,vs,h1,h2,h3⟩:=h
  refine⟨a,vs,h1,?_,RpL.frag h3⟩
  rcases h2 with h2|⟨its,n,e,_⟩
  ·exact .inl h2
  ·simp at e
 | .tup ds,v,h=>by
  unfold Rp at h ⊢
  obtain⟨a,vs,h1,h2,h3⟩:=h
  exact⟨a,vs,h1,h2,RpL.frag h3⟩
 | .exn c,v,h=>by
  unfold Rp at h
  obtain⟨a,C,h1,h2,h3⟩:=h
  simp[PySem.W.nsIn] at h2
 | .dct ks ds,v,h=>by
  unfold Rp at h ⊢
  obtain⟨a,vs,h1,h2,h3,h4⟩:=h
  exact⟨a,vs,h1,h2,h3,RpL.frag h4⟩
theorem RpL.frag {K:PySem.W.Frag}{H:Hp}:∀ {ds:List D} {vs:List V},RpL [] H ds vs->RpL K H ds vs
 | [],_,h=>by unfold RpL at h ⊢; exact h
 | d::r,vs,h=>by
  unfold RpL at h ⊢
  obtain⟨v,ws,h1,h2,h3⟩:=h
  exact⟨v,ws,h1,Rp.frag h2,RpL.frag h3⟩
end
theorem Hnew.at {H:Hp}{p:Addr}(h:H p=none)(o:HO):Hnew H (upd H p o) p=some o:=by
 unfold Hnew; rw[h]; exact aD
noncomputable def Ok (K:PySem.W.Frag)(Hv H:Hp)(W:XK)(cls:String->Value)(r:R)(Q:VK):Prop:=match r with
 | .ok d fr=>∀ v Hv' H',Ext Hv H Hv' H'->Rp K Hv' d v->(fr=true->Rp [] (Hnew H H') d v)->Q v H'
 | .exc c=>∀ Hv' H',Ext Hv H Hv' H'->W (cls c) none H'
 | .bad=>False
noncomputable def OkL (K:PySem.W.Frag)(Hv H:Hp)(W:XK)(cls:String->Value)(r:RL)(Q:List V->Hp->Prop):Prop:=match r with
 | .ok ds fr=>∀ vs Hv' H',Ext Hv H Hv' H'->RpL K Hv' ds vs->(fr=true->RpL [] (Hnew H H') ds vs)->Q vs H'
 | .exc c=>∀ Hv' H',Ext Hv H Hv' H'->W (cls c) none H'
 | .bad=>False
noncomputable def EnvR (K:PySem.W.Frag)(Hv:Hp)(ρ:Dv.Env)(σ:St):Prop:=∀ (i:Nat) (d:D),ρ[i]?=some (some d)->∃ v,σ[i]?=some (some v)/\Rp K Hv d v
theorem EnvR.same {K:PySem.W.Frag}{Hv Hv':Hp}{ρ:Dv.Env}{σ:St}(e:Same Hv Hv')(h:EnvR K Hv ρ σ):EnvR K Hv' ρ σ:=λ i d q =>
 let ⟨v,h1,h2⟩:=h i d q; ⟨v,h1,h2.same e⟩
structure Ctx where
 X:Cx
 W:St->XK
 cls:String->Value
 CX:CXT
 un:X.A.units+64<cLine
 own:PassesOwn (model X.prog X.w) X.A X.env X.xe
 pass:∀ (pins:List (Addr × Obj)) (σ:St) (H:Hp) (s:Shared) (e:Value) (s':Shared),Inv X pins σ H s->CX X.stack H s (W σ) e s'->X.xe e s'
 cxF:∀ (outer:List PySem.Env) (H:Hp) (s:Shared) (e:Value) (s':Shared),CX outer H s (λ _ _ _=>False) e s'->False
noncomputable def Tak (C:Ctx)(t:TE)(f:EE):Prop:=∀ σ H Hv ρ Q,EnvR C.X.K Hv ρ σ->Same Hv H->Ok C.X.K Hv H (C.W σ) C.cls (f ρ) Q->t σ H Q
noncomputable def TakL (C:Ctx)(t:TA)(f:EL):Prop:=∀ σ H Hv ρ Q,EnvR C.X.K Hv ρ σ->Same Hv H->OkL C.X.K Hv H (C.W σ) C.cls (f ρ) Q->t σ H Q
noncomputable def SE (C:Ctx)(e:Expr)(f:EE):Prop:=∃ t:TE,PE C.X e t/\Tak C t f
noncomputable def SL (C:Ctx)(es:List Expr)(f:EL):Prop:=∃ t:TA,PA C.X es t/\TakL C t f/\∀ ρ ds fr,f ρ=.ok ds fr->ds.length=es.length
noncomputable def SC (C:Ctx)(e:Expr)(f:EE):Prop :=
 ∃ t:TT,PT C.X e t/\∀ σ H Hv ρ Q,EnvR C.X.K Hv ρ σ->Same Hv H->Ok C.X.K Hv H (C.W σ) C.cls (f ρ) (λ v H'=>∃ b,v=.bl b/\Q b H')->t σ H Q
theorem Ok.later {K:PySem.W.Frag}{Hv H Hv1 H1:Hp}{W:XK}{cls:String->Value}{r:R}{Q:VK}(x:Ext Hv H Hv1 H1)(h:Ok K Hv H W cls r Q):Ok K Hv1 H1 W cls r Q:=by
 cases r with
 | ok d fr=>exact λ v Hv' H' y r n=>h v Hv' H' (x.trans y) r λ z=>(n z).same (Hnew.mono x.hh (.refl _))
 | exc c=>exact λ Hv' H' y=>h Hv' H' (x.trans y)
 | bad=>exact h
theorem Ok.now {K:PySem.W.Frag}{Hv H:Hp}{W:XK}{cls:String->Value}{d:D}{fr:Bool}{Q:VK}{v:V}(h:Ok K Hv H W cls (.ok d fr) Q)(e:Same Hv H)(r:Rp K Hv d v)(z:Dv.scal d=true):Q v H :=
 h v Hv H (.refl e) r λ _=>r.scal z
theorem Ok.at {K:PySem.W.Frag}{Hv H Hv1 H1:Hp}{W:XK}{cls:String->Value}{d:D}{fr:Bool}{Q:VK}{v:V}(h:Ok K Hv H W cls (.ok d fr) Q)(x:Ext Hv H Hv1 H1)(r:Rp K Hv1 d v)(z:Dv.scal d=true):Q v H1 :=
 h v Hv1 H1 x r λ _=>r.scal z
theorem Ok.newL {K:PySem.W.Frag}{Hv H Hv1 H1:Hp}{W:XK}{cls:String->Value}{ds:List D}{fr:Bool}{Q:VK}{vs:List V}(h:Ok K Hv H W cls (.ok (.lst ds) fr) Q)(x:Ext Hv H Hv1 H1)(r:RpL K Hv1 ds vs)
  (n:fr=true->RpL [] (Hnew H H1) ds vs) (p:Addr) (hp:H1 p=none):Q (.ref p) (upd H1 p (.lst vs)):=by
 have y:=Ext.new1 x.vh hp (.lst vs)
 refine h _ _ _ (x.trans y) ?_ λ z=>?_
 ·unfold Rp
  exact⟨p,vs,rfl,SqX.of aD,r.same y.vv⟩
 ·unfold Rp
  have hH:H p=none:=x.hh.free hp
  refine⟨p,vs,rfl,SqX.of (by unfold Hnew; rw[hH]; exact aD),(n z).same (Hnew.mono (.refl _) y.hh)⟩
theorem Ok.newT {K:PySem.W.Frag}{Hv H Hv1 H1:Hp}{W:XK}{cls:String->Value}{ds:List D}{fr:Bool}{Q:VK}{vs:List V}(h:Ok K Hv H W cls (.ok (.tup ds) fr) Q)(x:Ext Hv H Hv1 H1)(r:RpL K Hv1 ds vs)
  (n:fr=true->RpL [] (Hnew H H1) ds vs) (p:Addr) (hp:H1 p=none):Q (.ref p) (upd H1 p (.tup vs)):=by
 have y:=Ext.new1 x.vh hp (.tup vs)
 refine h _ _ _ (x.trans y) ?_ λ z=>?_
 ·unfold Rp
  exact⟨p,vs,rfl,.inl aD,r.same y.vv⟩
 ·unfold Rp
  have hH:H p=none:=x.hh.free hp
  refine⟨p,vs,rfl,.inl (by unfold Hnew; rw[hH]; exact aD),(n z).same (Hnew.mono (.refl _) y.hh)⟩
section
variable {C:Ctx}{a b c:Expr}{es:List Expr}{f g h:EE}{fl:EL}{ta tb tc:TE}{tl:TA}{pos:Pos}
theorem Tak.step (qa:Tak C ta f){σ:St}{H Hv Hv1 H1:Hp}{ρ:Dv.Env}{Q T:VK}{k:D->Bool->R}(e:EnvR C.X.K Hv ρ σ)(x:Ext Hv H Hv1 H1)(q:Ok C.X.K Hv H (C.W σ) C.cls ((f ρ).bind k) Q)
  (next:∀ v d fr Hv2 H2,f ρ=.ok d fr->Ext Hv H Hv2 H2->Ext Hv1 H1 Hv2 H2->Rp C.X.K Hv2 d v->(fr=true->Rp [] (Hnew H H2) d v)->Ok C.X.K Hv H (C.W σ) C.cls (k d fr) Q->T v H2):ta σ H1 T:=by
 refine qa σ H1 Hv1 ρ _ (e.same x.vv) x.vh ?_
 cases hf:f ρ with
 | bad=>rw[hf] at q; exact q
 | exc c=>rw[hf] at q; exact λ Hv' H' y=>q Hv' H' (x.trans y)
 | ok d fr =>
  rw[hf] at q
  exact λ v Hv2 H2 y r n=>next v d fr Hv2 H2 hf (x.trans y) y r (λ z=>(n z).same (Hnew.mono x.hh (.refl _))) q
theorem TakL.step (qa:TakL C tl fl){σ:St}{H Hv Hv1 H1:Hp}{ρ:Dv.Env}{Q:VK}{T:List V->Hp->Prop}{k:List D->Bool->R}(e:EnvR C.X.K Hv ρ σ)(x:Ext Hv H Hv1 H1)(q:Ok C.X.K Hv H (C.W σ) C.cls ((fl ρ).bind k) Q)
  (next:∀ vs ds fr Hv2 H2,fl ρ=.ok ds fr->Ext Hv H Hv2 H2->Ext Hv1 H1 Hv2 H2->RpL C.X.K Hv2 ds vs->(fr=true->RpL [] (Hnew H H2) ds vs)->Ok C.X.K Hv H (C.W σ) C.cls (k ds fr) Q->T vs H2):tl σ H1 T:=by
 refine qa σ H1 Hv1 ρ _ (e.same x.vv) x.vh ?_
 cases hf:fl ρ with
 | bad=>rw[hf] at q; exact q
 | exc c=>rw[hf] at q; exact λ Hv' H' y=>q Hv' H' (x.trans y)
 | ok d fr =>
  rw[hf] at q
  exact λ v Hv2 H2 y r n=>next v d fr Hv2 H2 hf (x.trans y) y r (λ z=>(n z).same (Hnew.mono x.hh (.refl _))) q
theorem aa (i:Nat){x:Str}(hN:autoParam (C.X.N[i]?=some x) Au.h4._auto_1)(hv:autoParam (Vis C.X.env.scope x) Au.h7._auto_1)(hd:autoParam ((x == ("__debug__":Str))=false) Au.h2._auto_1)
  (hcd:autoParam ((x == ("__classdict__":Str))=false) Au.h2._auto_1):SE C (.Name x pos) (Dv.eVar i):=by
 refine⟨xr i,bH hN hv hd hcd,λ σ H Hv ρ Q e s q=>?_⟩
 unfold Dv.eVar at q
 cases r:ρ[i]? with
 | none=>rw[r] at q; exact q.elim
 | some o =>
  cases o with
  | none=>rw[r] at q; exact q.elim
  | some d =>
   rw[r] at q
   obtain⟨v,h1,h2⟩:=e i d r
   exact⟨v,h1,q v Hv H (.refl s) h2 λ z=>h2.scal z⟩
theorem ag {i:Int}{j:Nat}:SE C (.Constant (.int i) j pos) (Dv.eInt i) :=
 ⟨_,l9,λ _ _ _ _ _ _ s q=>q.now (v:=.int i) s (by unfold Rp; rfl) rfl⟩
theorem bA {i:Bool}{j:Nat}:SE C (.Constant (.bool i) j pos) (Dv.eBl i) :=
 ⟨_,wZ,λ _ _ _ _ _ _ s q=>q.now (v:=.bl i) s (by unfold Rp; rfl) rfl⟩
noncomputable def OpS (C:Ctx)(op:Value->Value->Sem Value)(F:D->D->R):Prop :=
 ∃ r:R2,OpR C.X op r/\∀ x y d d' H Hv H1 Hv1 W Q,Ext Hv H Hv1 H1->Rp C.X.K Hv1 d x->Rp C.X.K Hv1 d' y->Ok C.X.K Hv H W C.cls (F d d') Q->r x y H1 Q
theorem jz {op:Value->Value->Sem Value}{F:D->D->R}{r:R2}(hr:∀ x y d d' H Hv H1 Hv1 W Q,Ext Hv H Hv1 H1->Rp C.X.K Hv1 d x->Rp C.X.K Hv1 d' y->Ok C.X.K Hv H W C.cls (F d d') Q->r x y H1 Q)
  (qa:Tak C ta f) (qb:Tak C tb g):Tak C (tOp r ta tb) (λ ρ=>(f ρ).bind λ x _=>(g ρ).bind λ y _=>F x y):=λ σ H Hv ρ Q e s q =>
 qa.step e (.refl s) q λ v d fr Hv1 H1 _ x1 _ rp1 _ q1=>qb.step e x1 q1 λ v2 d2 fr2 Hv2 H2 _ x2 y2 rp2 _ q2 =>
  hr v v2 d d2 H Hv H2 Hv2 _ Q x2 (rp1.same y2.vv) rp2 q2
theorem fK {op:Operator}{F:D->D->R}(o:OpS C (binaryOp op) F)(ha:SE C a f)(hb:SE C b g):SE C (.BinOp a op b pos) (λ ρ=>(f ρ).bind λ x _=>(g ρ).bind λ y _=>F x y):=by
 obtain⟨r,ho,hr⟩:=o
 obtain⟨ta,pa,qa⟩:=ha
 obtain⟨tb,pb,qb⟩:=hb
 exact⟨_,u5 ho pa pb,jz (op:=binaryOp op) hr qa qb⟩
theorem rm {op:CmpOp}{F:D->D->R}(o:OpS C (compareOp op) F)(ha:SE C a f)(hb:SE C b g)(hm:behindInMarks op b=false):SE C (.Compare a [op] [b] pos) (λ ρ=>(f ρ).bind λ x _=>(g ρ).bind λ y _=>F x y):=by
 obtain⟨r,ho,hr⟩:=o
 obtain⟨ta,pa,qa⟩:=ha
 obtain⟨tb,pb,qb⟩:=hb
 exact⟨_,uK ho pa pb hm,jz (op:=compareOp op) hr qa qb⟩
theorem dR {op:CmpOp}{F:D->D->R}(o:OpS C (compareOp op) F)(ha:SE C a f)(hb:SE C b g)(hm:behindInMarks op b=false):SC C (.Compare a [op] [b] pos) (λ ρ=>(f ρ).bind λ x _=>(g ρ).bind λ y _=>F x y):=by
 obtain⟨r,ho,hr⟩:=o
 obtain⟨ta,pa,qa⟩:=ha
 obtain⟨tb,pb,qb⟩:=hb
 exact⟨_,mK ho pa pb hm,λ σ H Hv ρ Q e s q=>jz (op:=compareOp op) hr qa qb σ H Hv ρ _ e s q⟩
theorem cR (ha:SE C a f)(he:autoParam (∀ whole,isTrue a C.X.env whole=(do let v <- whole; standAt a.pos; holding [v] (truthy v))) Au.h3._auto_1):SC C a f:=by
 obtain⟨t,p,q⟩:=ha
 exact⟨_,wn p he,λ σ H Hv ρ Q e s w=>q σ H Hv ρ _ e s w⟩
noncomputable def SW (C:Ctx)(e:Expr)(f:EE):Prop :=
 ∃ t:TT,PW C.X e t/\∀ σ H Hv ρ Q,EnvR C.X.K Hv ρ σ->Same Hv H->Ok C.X.K Hv H (C.W σ) C.cls (f ρ) (λ v H'=>∃ b,v=.bl b/\Q b H')->t σ H Q
noncomputable def TakC (C:Ctx)(t:TT)(f:EE):Prop:=∀ σ H Hv ρ Q,EnvR C.X.K Hv ρ σ->Same Hv H->Ok C.X.K Hv H (C.W σ) C.cls (f ρ) (λ v H'=>∃ b,v=.bl b/\Q b H')->t σ H Q
theorem TakC.step {tt:TT}(qa:TakC C tt f){σ:St}{H Hv Hv1 H1:Hp}{ρ:Dv.Env}{Q:VK}{T:Bool->Hp->Prop}{k:D->Bool->R}(e:EnvR C.X.K Hv ρ σ)(x:Ext Hv H Hv1 H1)(q:Ok C.X.K Hv H (C.W σ) C.cls ((f ρ).bind k) Q)
  (nb:∀ d fr,f ρ=.ok d fr->(∀ b,d≠.bl b)->k d fr=.bad)
  (next:∀ b fr Hv2 H2,f ρ=.ok (.bl b) fr->Ext Hv H Hv2 H2->Ext Hv1 H1 Hv2 H2->Ok C.X.K Hv H (C.W σ) C.cls (k (.bl b) fr) Q->T b H2):tt σ H1 T:=by
 refine qa σ H1 Hv1 ρ _ (e.same x.vv) x.vh ?_
 cases hf:f ρ with
 | bad=>rw[hf] at q; exact q
 | exc c=>rw[hf] at q; exact λ Hv' H' y=>q Hv' H' (x.trans y)
 | ok d fr =>
  intro v Hv2 H2 y r n
  cases d with
  | bl b =>
   unfold Rp at r
   rw[hf] at q
   exact⟨b,r,next b fr Hv2 H2 hf (x.trans y) y q⟩
  | _ =>
   have z:=nb _ _ hf (by intro b z; cases z)
   rw[hf] at q
   have q':Ok C.X.K Hv H (C.W σ) C.cls (k _ fr) Q:=q
   rw[z] at q'
   exact q'.elim
theorem cF (op:BoolOp)(ha:SC C a f):SW C (.BoolOp op [a] pos) f:=by
 obtain⟨t,p,q⟩:=ha
 cases op with
 | And=>exact⟨t,tW p,q⟩
 | Or=>exact⟨t,vG p,q⟩
theorem eA {rest:List Expr}(ha:SC C a f)(hb:SW C (.BoolOp .And (b::rest) pos) g):SW C (.BoolOp .And (a::b::rest) pos) (Dv.eAnd f g):=by
 obtain⟨t,p,q⟩:=ha
 obtain⟨u,p2,q2⟩:=hb
 refine⟨_,wb p p2,λ σ H Hv ρ Q e s w=>?_⟩
 refine TakC.step q e (.refl s) w (λ d fr _ nb=>by cases d <;>first|rfl|exact absurd rfl (nb _)) λ b fr Hv2 H2 hf x y w2=>?_
 cases b with
 | true=>exact sf (q2 σ H2 Hv2 ρ _ (e.same x.vv) x.vh (Ok.later x (show Ok _ _ _ _ _ (g ρ) _ from w2)))
 | false =>
  obtain⟨b,e1,q3⟩:=(show Ok C.X.K Hv H (C.W σ) C.cls (.ok (.bl false) true) (λ v H'=>∃ b,v=.bl b/\Q b H') from w2).at (v:=.bl false) x (by unfold Rp; rfl) rfl
  cases e1
  exact qQ q3
theorem kB {rest:List Expr}(ha:SC C a f)(hb:SW C (.BoolOp .Or (b::rest) pos) g):SW C (.BoolOp .Or (a::b::rest) pos) (Dv.eOr f g):=by
 obtain⟨t,p,q⟩:=ha
 obtain⟨u,p2,q2⟩:=hb
 refine⟨_,xS p p2,λ σ H Hv ρ Q e s w=>?_⟩
 refine TakC.step q e (.refl s) w (λ d fr _ nb=>by cases d <;>first|rfl|exact absurd rfl (nb _)) λ b fr Hv2 H2 hf x y w2=>?_
 cases b with
 | false=>exact qQ (q2 σ H2 Hv2 ρ _ (e.same x.vv) x.vh (Ok.later x (show Ok _ _ _ _ _ (g ρ) _ from w2)))
 | true =>
  obtain⟨b,e1,q3⟩:=(show Ok C.X.K Hv H (C.W σ) C.cls (.ok (.bl true) true) (λ v H'=>∃ b,v=.bl b/\Q b H') from w2).at (v:=.bl true) x (by unfold Rp; rfl) rfl
  cases e1
  exact sf q3
theorem gG (h:SW C a f):SC C a f:=let ⟨t,p,q⟩:=h; ⟨t,p.pt,q⟩
theorem jK (ha:SC C a f):SC C (.UnaryOp .Not a pos) (Dv.eNot f):=by
 obtain⟨t,p,q⟩:=ha
 refine⟨_,vS p,λ σ H Hv ρ Q e s w=>?_⟩
 refine TakC.step q e (.refl s) w (λ d fr _ nb=>by cases d <;>first|rfl|exact absurd rfl (nb _)) λ b fr Hv2 H2 hf x y w2=>?_
 obtain⟨b',e1,q3⟩:=(show Ok C.X.K Hv H (C.W σ) C.cls (.ok (.bl (!b)) true) (λ v H'=>∃ b,v=.bl b/\Q b H') from w2).at (v:=.bl (!b)) x (by unfold Rp; rfl) rfl
 cases e1
 exact q3
theorem wN {op:BoolOp}(ha:SE C a f):SE C (.BoolOp op [a] pos) f:=let ⟨t,p,q⟩:=ha; ⟨t,v1 p,q⟩
theorem wD {rest:List Expr}(ha:SE C a f)(hb:SE C (.BoolOp .And (b::rest) pos) g):SE C (.BoolOp .And (a::b::rest) pos) (Dv.eAnd f g):=by
 obtain⟨t,p,q⟩:=ha
 obtain⟨u,p2,q2⟩:=hb
 refine⟨_,vt p p2,λ σ H Hv ρ Q e s w=>?_⟩
 refine Tak.step q e (.refl s) w λ v d fr Hv2 H2 hf x y rp n w2=>?_
 cases d with
 | bl c =>
  unfold Rp at rp
  refine⟨c,rp,?_⟩
  cases c with
  | true=>exact sf (q2 σ H2 Hv2 ρ _ (e.same x.vv) x.vh (Ok.later x (show Ok _ _ _ _ _ (g ρ) _ from w2)))
  | false=>exact qQ ((show Ok C.X.K Hv H (C.W σ) C.cls (.ok (.bl false) true) Q from w2).at (v:=.bl false) x (by unfold Rp; rfl) rfl)
 | _=>exact(show False from w2).elim
theorem dm (ha:SE C a f):SE C (.UnaryOp .USub a pos) (Dv.eNeg f):=by
 obtain⟨t,p,q⟩:=ha
 refine⟨_,xQ vD p,λ σ H Hv ρ Q e s w=>?_⟩
 refine Tak.step q e (.refl s) w λ v d fr Hv2 H2 hf x y rp n w2=>?_
 cases d with
 | int i =>
  unfold Rp at rp
  exact⟨i,rp,(show Ok C.X.K Hv H (C.W σ) C.cls (.ok (.int (-i)) true) Q from w2).at (v:=.int (-i)) x (by unfold Rp; rfl) rfl⟩
 | _=>exact(show False from w2).elim
theorem aj:SL C [] Dv.lNil:=⟨_,bu,λ σ H Hv ρ Q e s q=>q [] Hv H (.refl s) .nil λ _=>.nil,λ ρ ds fr h=>by cases h; rfl⟩
theorem ac (ha:SE C a f)(hr:SL C es fl)(hs:autoParam (starEach (a::es) C.X.env=(false,eval a C.X.env)::starEach es C.X.env) Au.h4._auto_1):SL C (a::es) (Dv.lCons f fl):=by
 obtain⟨t,p,q⟩:=ha
 obtain⟨u,p2,q2,l2⟩:=hr
 refine⟨_,aG p p2 hs,λ σ H Hv ρ Q e s w=>?_,λ ρ ds fr h=>?_⟩
 rotate_left
 ·unfold Dv.lCons at h
  cases hf:f ρ with
  | bad=>rw[hf] at h; cases h
  | exc c=>rw[hf] at h; cases h
  | ok d f1 =>
   cases hg:fl ρ with
   | bad=>rw[hf,hg] at h; cases h
   | exc c=>rw[hf,hg] at h; cases h
   | ok d2 f2 =>
    rw[hf,hg] at h
    cases h
    rw[yJ,yJ,l2 ρ d2 f2 hg]
 unfold Dv.lCons at w
 refine q σ H Hv ρ _ e s ?_
 cases hf:f ρ with
 | bad=>rw[hf] at w; exact w
 | exc c=>rw[hf] at w; exact w
 | ok d fr =>
  rw[hf] at w
  intro v Hv1 H1 x1 r1 n1
  refine q2 σ H1 Hv1 ρ _ (e.same x1.vv) x1.vh ?_
  cases hg:fl ρ with
  | bad=>rw[hg] at w; exact w
  | exc c=>rw[hg] at w; exact λ Hv' H' y=>w Hv' H' (x1.trans y)
  | ok ds fr2 =>
   rw[hg] at w
   intro vs Hv2 H2 x2 r2 n2
   refine w (v::vs) Hv2 H2 (x1.trans x2) (.cons (r1.same x2.vv) r2) λ z=>?_
   have z':fr=true/\fr2=true:=by simpa using z
   exact .cons ((n1 z'.1).same (Hnew.mono (.refl _) x2.hh)) ((n2 z'.2).same (Hnew.mono x1.hh (.refl _)))
theorem cL {n:Nat}(h:n<=Dv.mx):n<=sizeLine:=by
 unfold Dv.mx at h; rw[sizeLine_eq]; omega
theorem aC (h:SL C es fl)(hz:autoParam (es.length<=Dv.mx) Au.h2._auto_1):SE C (.List es pos) (Dv.eLst fl):=by
 obtain⟨t,p,q,hn⟩:=h
 refine⟨_,qv p,λ σ H Hv ρ Q e s w=>?_⟩
 refine TakL.step q e (.refl s) w λ vs ds fr Hv2 H2 hf x y rp n w2=>⟨?_,λ p hp=>?_⟩
 ·rw[rp.length,hn ρ ds fr hf]; exact cL hz
 ·exact Ok.newL w2 x rp n p hp
theorem fI {k}(h:SL C es fl)(hz:autoParam (es.length<=Dv.mx) Au.h2._auto_1):SE C (.Tuple es k pos) (Dv.eTup fl):=by
 obtain⟨t,p,q,hn⟩:=h
 refine⟨_,lZ p,λ σ H Hv ρ Q e s w=>?_⟩
 refine TakL.step q e (.refl s) w λ vs ds fr Hv2 H2 hf x y rp n w2=>⟨?_,λ p hp=>?_⟩
 ·rw[rp.length,hn ρ ds fr hf]; exact cL hz
 ·exact Ok.newT w2 x rp n p hp
end
section
variable {C:Ctx}{a b c:Expr}{es:List Expr}{f g h:EE}{fl:EL}{pos:Pos}
theorem qq {op:Value->Value->Sem Value}{K:Int->Int->Prop}{G:Int->Int->V}{F:D->D->R}(o:OpR C.X op (rI K G))
  (hF:∀ d d',(∃ i j x,d=.int i/\d'=.int j/\K i j/\F d d'=.ok x true/\Dv.scal x=true/\∀ K' H',Rp K' H' x (G i j))\/F d d'=.bad):OpS C op F:=by
 refine⟨_,o,λ x y d d' H Hv H1 Hv1 W Q e rx ry q=>?_⟩
 rcases hF d d' with ⟨i,j,z,rfl,rfl,hk,hz,hs,hr⟩|hb
 ·unfold Rp at rx ry
  rw[hz] at q
  exact⟨i,j,rx,ry,hk,q.at e (hr _ _) hs⟩
 ·rw[hb] at q; exact q.elim
theorem gO {op:Value->Value->Sem Value}{G:Int->Int->V}{F:D->D->R}(o:OpR C.X op (rI0 G))
  (hF:∀ d d',(∃ i j x,d=.int i/\d'=.int j/\F d d'=.ok x true/\Dv.scal x=true/\∀ K' H',Rp K' H' x (G i j))\/F d d'=.bad):OpS C op F:=by
 refine⟨_,o,λ x y d d' H Hv H1 Hv1 W Q e rx ry q=>?_⟩
 rcases hF d d' with ⟨i,j,z,rfl,rfl,hz,hs,hr⟩|hb
 ·unfold Rp at rx ry
  rw[hz] at q
  exact⟨i,j,rx,ry,q.at e (hr _ _) hs⟩
 ·rw[hb] at q; exact q.elim
theorem bM {K:PySem.W.Frag}{H:Hp}{i:Int}:Rp K H (.int i) (.int i):=by unfold Rp; rfl
theorem cI {K:PySem.W.Frag}{H:Hp}{i:Bool}:Rp K H (.bl i) (.bl i):=by unfold Rp; rfl
theorem qF {K:PySem.W.Frag}{H:Hp}:Rp K H .non .non:=by unfold Rp; rfl
theorem wE:OpS C (binaryOp .Sub) (Dv.opD .sub):=gO sF λ d d'=>by
 cases d <;>first
  | exact .inr rfl
  | (cases d' <;>first
   | exact .inr rfl
   | exact .inl ⟨_,_,_,rfl,rfl,rfl,rfl,λ _ _=>bM⟩)
theorem wt:OpS C (binaryOp .Mod) (Dv.opD .mod):=qq vQ λ d d'=>by
 cases d with
 | int i =>
  cases d' with
  | int j =>
   by_cases h:0<j
   ·exact .inl ⟨i,j,.int (i%j),rfl,rfl,h,by simp[Dv.opD_ai,Dv.opD_al,Dv.opD_su,Dv.opD_mi,Dv.opD_ml,Dv.opD_mo,Dv.opD_fd,Dv.opD_po,Dv.opD_ba,Dv.opD_sh,h],rfl,λ _ _=>bM⟩
   ·exact .inr (by simp[Dv.opD_ai,Dv.opD_al,Dv.opD_su,Dv.opD_mi,Dv.opD_ml,Dv.opD_mo,Dv.opD_fd,Dv.opD_po,Dv.opD_ba,Dv.opD_sh,h])
  | _=>exact .inr rfl
 | _=>exact .inr rfl
theorem rQ:OpR C.X (binaryOp .FloorDiv) (rI (λ _ j=>0<j/\j.natAbs.log2<9000) λ i j=>.int (i/j)):=opI λ i j _ _ _ _ _ hc q=>by
 have h1:(0:Int)<j:=hc.1
 exact floordiv_int (by omega) (by rw[Ah i (by omega)]; exact q) (.inl (PyProof.noPylong_of_log2 hc.2))
theorem tJ:OpS C (binaryOp .FloorDiv) (Dv.opD .fdiv):=qq rQ λ d d'=>by
 cases d with
 | int i =>
  cases d' with
  | int j =>
   by_cases h:Dv.divOk j=true
   ·refine .inl ⟨i,j,.int (i/j),rfl,rfl,?_,by simp[Dv.opD_ai,Dv.opD_al,Dv.opD_su,Dv.opD_mi,Dv.opD_ml,Dv.opD_mo,Dv.opD_fd,Dv.opD_po,Dv.opD_ba,Dv.opD_sh,h],rfl,λ _ _=>bM⟩
    unfold Dv.divOk at h
    simpa using h
   ·exact .inr (by simp[Dv.opD_ai,Dv.opD_al,Dv.opD_su,Dv.opD_mi,Dv.opD_ml,Dv.opD_mo,Dv.opD_fd,Dv.opD_po,Dv.opD_ba,Dv.opD_sh,h])
  | _=>exact .inr rfl
 | _=>exact .inr rfl
theorem vN:OpS C (binaryOp .RShift) (Dv.opD .shr):=qq wd λ d d'=>by
 cases d with
 | int i =>
  cases d' with
  | int j =>
   by_cases h:0<=j
   ·exact .inl ⟨i,j,.int (i/2 ^ j.toNat),rfl,rfl,h,by simp[Dv.opD_ai,Dv.opD_al,Dv.opD_su,Dv.opD_mi,Dv.opD_ml,Dv.opD_mo,Dv.opD_fd,Dv.opD_po,Dv.opD_ba,Dv.opD_sh,h],rfl,λ _ _=>bM⟩
   ·exact .inr (by simp[Dv.opD_ai,Dv.opD_al,Dv.opD_su,Dv.opD_mi,Dv.opD_ml,Dv.opD_mo,Dv.opD_fd,Dv.opD_po,Dv.opD_ba,Dv.opD_sh,h])
  | _=>exact .inr rfl
 | _=>exact .inr rfl
noncomputable def xC (K:PySem.W.Frag):R2:=λ x y H Q=>∃ l b xs zs,x=.ref l/\y=.ref b/\SqX K H l xs/\SqX K H b zs/\xs.length+zs.length<=sizeLine/\∀ p,H p=none->Q (.ref p) (upd H p (.lst (xs++zs)))
theorem uO {X:Cx}:OpR X (binaryOp .Add) (xC X.K):=by
 intro pins s σ H x y v u Q I rx ry h
 obtain⟨l,b,xs,zs,rfl,rfl,hH,hB,hz,q⟩:=h
 cases rx
 cases ry
 obtain⟨its,n,r,e,z⟩:=Inv.listX I hH
 obtain⟨its2,n2,r2,e2,z2⟩:=Inv.listX I hB
 have hl:=r.length
 have hl2:=r2.length
 refine PySem.P.add_list e e2 ?_ (by rw[yY,yY]; omega)
 have ea:its.toArray++its2.toArray=(its++its2).toArray:=by simp
 rw[ea]
 exact⟨.ref _,_,I.lnew (t':=s.toks) (r.append r2) (by rw[za]; omega),rfl,q _ I.fresh⟩
theorem vE:OpS C (binaryOp .Add) (Dv.opD .add):=by
 refine⟨_,OpR.or vU uO,λ x y d d' H Hv H1 Hv1 W Q e rx ry q=>?_⟩
 cases d with
 | int i =>
  cases d' with
  | int j =>
   unfold Rp at rx ry
   exact .inl ⟨i,j,rx,ry,(show Ok _ _ _ _ _ (.ok (.int (i+j)) true) Q from q).at e bM rfl⟩
  | _=>exact(show False from q).elim
 | lst xs =>
  cases d' with
  | lst ys =>
   unfold Rp at rx ry
   obtain⟨l,vs,rfl,h1,h2⟩:=rx
   obtain⟨m,ws,rfl,h3,h4⟩:=ry
   by_cases hz:xs.length+ys.length<=Dv.mx
   ·have q':Ok C.X.K Hv H W C.cls (.ok (.lst (xs++ys)) (Dv.flatL xs&&Dv.flatL ys)) Q:=by simpa[Dv.opD_ai,Dv.opD_al,Dv.opD_su,Dv.opD_mi,Dv.opD_ml,Dv.opD_mo,Dv.opD_fd,Dv.opD_po,Dv.opD_ba,Dv.opD_sh,hz] using q
    refine .inr ⟨l,m,vs,ws,rfl,rfl,h1.same e.vh,h3.same e.vh,?_,λ p hp=>Ok.newL q' e (h2.append h4) (λ z=>?_) p hp⟩
    ·rw[h2.length,h4.length]; exact cL hz
    ·rw[yN] at z
     exact(h2.flat z.1).append (h4.flat z.2)
   ·have q':False:=by simpa[Dv.opD_ai,Dv.opD_al,Dv.opD_su,Dv.opD_mi,Dv.opD_ml,Dv.opD_mo,Dv.opD_fd,Dv.opD_po,Dv.opD_ba,Dv.opD_sh,hz,Ok] using q
    exact q'.elim
  | _=>exact(show False from q).elim
 | _=>exact(show False from q).elim
theorem ni (i:Int):Builtin.Int.intBits i=Dv.bits i:=by
 unfold Builtin.Int.intBits Dv.bits
 by_cases h:i=0
 ·simp[h]
 ·simp[h]
theorem uq:OpR C.X (binaryOp .Mult) (rI (λ i j=>Dv.mulOk i j=true) λ i j=>.int (i*j)):=opI λ i j _ _ _ _ _ hc q=>by
 refine mul_int q ?_
 unfold Dv.mulOk at hc
 simp only[zT,yN,decide_eq_true_eq,<- ni] at hc
 rcases hc with (hc|hc)|hc
 ·exact .of_left hc
 ·exact .of_right hc
 ·exact .of_bits (by simpa using hc.1) (by simpa using hc.2)
noncomputable def xU (K:PySem.W.Frag):R2:=λ x y H Q=>∃ l k xs,x=.ref l/\y=.int k/\SqX K H l xs/\-(2 ^ 63)<=k/\k<2 ^ 63/\xs.length*k.toNat<=sizeLine /\
 ∀ p,H p=none->Q (.ref p) (upd H p (.lst (List.replicate k.toNat xs).flatten))
theorem uw {X:Cx}:OpR X (binaryOp .Mult) (xU X.K):=by
 intro pins s σ H x y v u Q I rx ry h
 obtain⟨l,k,xs,rfl,rfl,hH,h1,h2,hz,q⟩:=h
 cases rx
 obtain⟨t,rfl⟩:=ry
 obtain⟨its,n,r,e,z⟩:=Inv.listX I hH
 have hl:=r.length
 have hlen:its.toArray.size*k.toNat<=sizeLine:=by rw[yY,<- hl]; exact hz
 have hcap:¬ its.toArray.size*k.toNat > (2 ^ 63-1)/8:=by
  have:(sizeLine:Nat)<=(2 ^ 63-1)/8:=by decide
  omega
 have hfit:¬ (!Builtin.List.listFitsIndex k)=true:=by
  rw[fitsIndex_both h1 h2]
  exact zn
 have hlong:¬ Builtin.List.listTooLong (its.toArray.size*k.toNat)=true:=by
  rw[kK hlen]
  exact zn
 have hnew:List.foldl (λ x1 x2=>x1++x2) #[] (List.replicate (if its.toArray.isEmpty=true then 0 else k.toNat) its.toArray)=(List.replicate k.toNat its).flatten.toArray:=by
  have f0:∀ m:Nat,List.foldl (λ x1 x2=>x1++x2) #[] (List.replicate m its.toArray)=(List.replicate m its).flatten.toArray:=λ m=>by
   have:=jo its m []
   rw[yS] at this
   exact this
  rw[f0]
  cases its with
  | nil=>simp
  | cons a r'=>rw[if_neg (by simp)]
 refine wpAny_binaryOp_repeat_ref (T:="list") (U:="int") (by decide) ⟨_,e,rfl⟩ (λ s'=>typeIs_int s' k t) noFill_list_mul F.fills_int_mul F.slot_int_rmul repeat_list F.slot_int_index.lookup
  (call_meets F.slot_int_rmul (typeIs_int s k t) F.entry_int_rmul (F.args_int_rmul_2 _ _) (int___rmul___int_list k t l its.toArray n)
   ⟨e,rfl,⟨_,e,rfl⟩,call_meets F.slot_list_mul ⟨_,e,rfl⟩ F.entry_list_mul (F.args_list_mul_2 _ _) (AutoListH.list___mul___list_int_3 l its.toArray n k t hfit hcap hlong) ⟨e,?_⟩⟩)
 rw[hnew]
 exact⟨.ref _,_,I.lnew (t':=s.toks) (r.rep k.toNat) (by rw[tZ,Ad]; exact hz),rfl,q _ I.fresh⟩
theorem RpL.rep {K:PySem.W.Frag}{H:Hp}{ds:List D}{vs:List V}(h:RpL K H ds vs):∀ k:Nat,RpL K H (List.replicate k ds).flatten (List.replicate k vs).flatten
 | 0=>.nil
 | k+1=>by
  rw[zl,zl,zJ,zJ]
  exact h.append (RpL.rep h k)
theorem wj:OpS C (binaryOp .Mult) (Dv.opD .mul):=by
 refine⟨_,OpR.or uq uw,λ x y d d' H Hv H1 Hv1 W Q e rx ry q=>?_⟩
 cases d with
 | int i =>
  cases d' with
  | int j =>
   unfold Rp at rx ry
   by_cases h:Dv.mulOk i j=true
   ·have q':Ok C.X.K Hv H W C.cls (.ok (.int (i*j)) true) Q:=by simpa[Dv.opD_ai,Dv.opD_al,Dv.opD_su,Dv.opD_mi,Dv.opD_ml,Dv.opD_mo,Dv.opD_fd,Dv.opD_po,Dv.opD_ba,Dv.opD_sh,h] using q
    exact .inl ⟨i,j,rx,ry,h,q'.at e bM rfl⟩
   ·have q':False:=by simpa[Dv.opD_ai,Dv.opD_al,Dv.opD_su,Dv.opD_mi,Dv.opD_ml,Dv.opD_mo,Dv.opD_fd,Dv.opD_po,Dv.opD_ba,Dv.opD_sh,h,Ok] using q
    exact q'.elim
  | _=>exact(show False from q).elim
 | lst xs =>
  cases d' with
  | int j =>
   unfold Rp at rx ry
   obtain⟨l,vs,rfl,h1,h2⟩:=rx
   subst ry
   by_cases hz:(decide (-100000<=j)&&decide (j<=Dv.mx)&&decide (xs.length*j.toNat<=Dv.mx))=true
   ·have q':Ok C.X.K Hv H W C.cls (.ok (.lst (List.replicate j.toNat xs).flatten) (Dv.flatL xs)) Q:=by
     simp only[Dv.opD_ai,Dv.opD_al,Dv.opD_su,Dv.opD_mi,Dv.opD_ml,Dv.opD_mo,Dv.opD_fd,Dv.opD_po,Dv.opD_ba,Dv.opD_sh,hz,if_true] at q; exact q
    simp only[yN,decide_eq_true_eq] at hz
    have hj:j<=100000:=hz.1.2
    have hj0:-100000<=j:=hz.1.1
    refine .inr ⟨l,j,vs,rfl,rfl,h1.same e.vh,by omega,by omega,?_,λ p hp=>Ok.newL q' e (h2.rep _) (λ z=>?_) p hp⟩
    ·rw[h2.length]; exact cL hz.2
    ·exact(h2.flat z).rep _
   ·simp only[Dv.opD_ai,Dv.opD_al,Dv.opD_su,Dv.opD_mi,Dv.opD_ml,Dv.opD_mo,Dv.opD_fd,Dv.opD_po,Dv.opD_ba,Dv.opD_sh,hz] at q
    exact(show False from q).elim
  | _=>exact(show False from q).elim
 | _=>exact(show False from q).elim
theorem xW:OpS C (compareOp .Lt) (Dv.cmD .lt):=gO xp λ d d'=>by
 cases d <;>first
  | exact .inr rfl
  | (cases d' <;>first|exact .inr rfl|exact .inl ⟨_,_,_,rfl,rfl,rfl,rfl,λ _ _=>cI⟩)
theorem w5:OpS C (compareOp .LtE) (Dv.cmD .le):=gO xV λ d d'=>by
 cases d <;>first
  | exact .inr rfl
  | (cases d' <;>first|exact .inr rfl|exact .inl ⟨_,_,_,rfl,rfl,rfl,rfl,λ _ _=>cI⟩)
theorem xt:OpS C (compareOp .Gt) (Dv.cmD .gt):=gO uV λ d d'=>by
 cases d <;>first
  | exact .inr rfl
  | (cases d' <;>first|exact .inr rfl|exact .inl ⟨_,_,_,rfl,rfl,rfl,rfl,λ _ _=>cI⟩)
theorem xf:OpS C (compareOp .GtE) (Dv.cmD .ge):=gO xG λ d d'=>by
 cases d <;>first
  | exact .inr rfl
  | (cases d' <;>first|exact .inr rfl|exact .inl ⟨_,_,_,rfl,rfl,rfl,rfl,λ _ _=>cI⟩)
mutual
noncomputable def pd:D->PyData
 | .non=>.none
 | .bl b=>.bool b
 | .int i=>.int i
 | .str x=>.str ⟨(Dv.clipS x).toArray⟩
 | .lst ds=>.list (pdL ds)
 | .tup ds=>.tuple (pdL ds)
 | .exn _=>.none
 | .raw _=>.none
 | .tab _=>.none
 | .dct _ _=>.none
noncomputable def pdL:List D->List PyData
 | []=>[]
 | d::r=>pd d::pdL r
end
mutual
theorem hZ:∀ d:D,(pd d).canLay0=true
 | .non=>by simp[pd,PyData.canLay0]
 | .bl _=>by simp[pd,PyData.canLay0]
 | .int _=>by simp[pd,PyData.canLay0]
 | .str x=>by
  have:∀ n:Nat,n%1114112<1114112:=λ n=>Bb _ (by decide)
  simp[pd,PyData.canLay0,PyData.strOk,Dv.clipS,this]
 | .lst ds=>by simp[pd,PyData.canLay0,j9 ds]
 | .tup ds=>by simp[pd,PyData.canLay0,j9 ds]
 | .exn _=>by simp[pd,PyData.canLay0]
 | .raw _=>by simp[pd,PyData.canLay0]
 | .tab _=>by simp[pd,PyData.canLay0]
 | .dct _ _=>by simp[pd,PyData.canLay0]
theorem j9:∀ ds:List D,PyData.canLayAll0 (pdL ds)=true
 | []=>by simp[pdL,PyData.canLayAll0]
 | d::r=>by simp[pdL,PyData.canLayAll0,hZ d,j9 r]
end
mutual
theorem dL:∀ d:D,(pd d).depth<=Dv.depthD d
 | .non=>by simp[pd,PyData.depth,Dv.depthD]
 | .bl _=>by simp[pd,PyData.depth,Dv.depthD]
 | .int _=>by simp[pd,PyData.depth,Dv.depthD]
 | .str _=>by simp[pd,PyData.depth,Dv.depthD]
 | .lst ds=>by have:=fG ds; simp[pd,PyData.depth,Dv.depthD]; omega
 | .tup ds=>by have:=fG ds; simp[pd,PyData.depth,Dv.depthD]; omega
 | .exn _=>by simp[pd,PyData.depth,Dv.depthD]
 | .raw _=>by simp[pd,PyData.depth,Dv.depthD]
 | .tab _=>by simp[pd,PyData.depth,Dv.depthD]
 | .dct _ _=>by simp[pd,PyData.depth,Dv.depthD]
theorem fG:∀ ds:List D,PyData.depthAll (pdL ds)<=Dv.depthL ds
 | []=>by simp[pdL,PyData.depthAll,Dv.depthL]
 | d::r=>by have:=dL d; have:=fG r; simp[pdL,PyData.depthAll,Dv.depthL]; omega
end
mutual
theorem lW:∀ (a b:D) (r:Bool),Dv.eqD a b=some r->PyData.eqv (pd a) (pd b)=r
 | .non,b,r,h=>by
  cases b with
  | non=>cases (show some true=some r from h); simp[pd,PyData.eqv]
  | _=>exact(nomatch (show (none:Option Bool)=some r from h))
 | .bl p,b,r,h=>by
  cases b with
  | bl q=>cases (show some (p == q)=some r from h); simp[pd,PyData.eqv]
  | _=>exact(nomatch (show (none:Option Bool)=some r from h))
 | .int p,b,r,h=>by
  cases b with
  | int q=>cases (show some (decide (p=q))=some r from h); simp[pd,PyData.eqv,At]
  | _=>exact(nomatch (show (none:Option Bool)=some r from h))
 | .str p,b,r,h=>by
  cases b with
  | str q=>cases (show some (decide (Dv.clipS p=Dv.clipS q))=some r from h); simp[pd,PyData.eqv,At]
  | _=>exact(nomatch (show (none:Option Bool)=some r from h))
 | .lst xs,b,r,h=>by
  cases b with
  | lst ys =>
   have h:Dv.eqDL xs ys=some r:=h
   simp only[pd,PyData.eqv]
   exact jL _ _ _ h
  | _=>exact(nomatch (show (none:Option Bool)=some r from h))
 | .tup xs,b,r,h=>by
  cases b with
  | tup ys =>
   have h:Dv.eqDL xs ys=some r:=h
   simp only[pd,PyData.eqv]
   exact jL _ _ _ h
  | _=>exact(nomatch (show (none:Option Bool)=some r from h))
 | .exn _,b,r,h=>by cases b <;>exact(nomatch (show (none:Option Bool)=some r from h))
 | .raw _,b,r,h=>by cases b <;>exact(nomatch (show (none:Option Bool)=some r from h))
 | .tab _,b,r,h=>by cases b <;>exact(nomatch (show (none:Option Bool)=some r from h))
 | .dct _ _,b,r,h=>by cases b <;>exact(nomatch (show (none:Option Bool)=some r from h))
theorem jL:∀ (a b:List D) (r:Bool),Dv.eqDL a b=some r->PyData.eqvAll (pdL a) (pdL b)=r
 | [],[],r,h=>by simp[Dv.eqDL] at h; subst h; simp[pdL,PyData.eqvAll]
 | [],_::_,r,h=>by simp[Dv.eqDL] at h; subst h; simp[pdL,PyData.eqvAll]
 | _::_,[],r,h=>by simp[Dv.eqDL] at h; subst h; simp[pdL,PyData.eqvAll]
 | x::xs,y::ys,r,h=>by
  simp only[Dv.eqDL] at h
  cases h1:Dv.eqD x y with
  | none=>rw[h1] at h; cases h
  | some p =>
   cases h2:Dv.eqDL xs ys with
   | none=>rw[h1,h2] at h; cases h
   | some q =>
    rw[h1,h2] at h
    cases h
    simp only[pdL,PyData.eqvAll,lW x y p h1,jL xs ys q h2]
end
mutual
theorem dN {X:Cx}{pins:List (Addr × Obj)}{σ:St}{H:Hp}{s:Shared}(I:Inv X pins σ H s):∀ (d:D) (v:V) (u:Value),Rp X.K H d v->RelV v u->Dv.depthD d<=9->∃ as,Reads s.heap u (pd d) as
 | .non,v,u,h,r,_=>by unfold Rp at h; subst h; cases r; unfold pd; exact⟨_,.none⟩
 | .bl b,v,u,h,r,_=>by unfold Rp at h; subst h; cases r; unfold pd; exact⟨_,.bool b⟩
 | .int i,v,u,h,r,_=>by unfold Rp at h; subst h; obtain⟨t,rfl⟩:=r; unfold pd; exact⟨_,.int i t⟩
 | .str x,v,u,h,r,_=>by unfold Rp at h; subst h; obtain⟨t,rfl⟩:=r; unfold pd; exact⟨_,.str _ t⟩
 | .exn _,v,u,h,r,hd=>by unfold Dv.depthD at hd; omega
 | .raw _,v,u,h,r,hd=>by unfold Dv.depthD at hd; omega
 | .tab _,v,u,h,r,hd=>by unfold Dv.depthD at hd; omega
 | .dct _ _,v,u,h,r,hd=>by unfold Dv.depthD at hd; omega
 | .lst ds,v,u,h,r,hd=>by
  unfold Rp at h
  unfold Dv.depthD at hd
  obtain⟨a,vs,rfl,h1,h2⟩:=h
  cases r
  obtain⟨its,n,rv,e,_⟩:=Inv.listX I h1
  obtain⟨as,ra⟩:=fF I ds vs its h2 rv (by omega)
  unfold pd
  exact⟨_,.list e rfl rfl (by simpa using ra)⟩
 | .tup ds,v,u,h,r,hd'=>by
  unfold Rp at h
  unfold Dv.depthD at hd'
  obtain⟨a,vs,rfl,h1,h2⟩:=h
  cases r
  obtain⟨_,its,rv,o,e,hc,n,hd⟩:=h1.ok I.hok
  obtain⟨as,ra⟩:=fF I ds vs its h2 rv (by omega)
  unfold pd
  exact⟨_,.tuple e hc hd (by simpa using ra)⟩
theorem fF {X:Cx}{pins:List (Addr × Obj)}{σ:St}{H:Hp}{s:Shared}(I:Inv X pins σ H s):∀ (ds:List D) (vs:List V) (us:List Value),RpL X.K H ds vs->Vals vs us->Dv.depthL ds<=9->∃ as,ReadsAll s.heap us (pdL ds) as
 | [],vs,us,h,r,_=>by unfold RpL at h; subst h; cases r; unfold pdL; exact⟨_,.nil⟩
 | d::ds,vs,us,h,r,hd=>by
  unfold RpL at h
  unfold Dv.depthL at hd
  obtain⟨v,ws,rfl,h1,h2⟩:=h
  cases r with
  | cons r1 r2 =>
   obtain⟨as,ra⟩:=dN I d v _ h1 r1 (by omega)
   obtain⟨bs,rb⟩:=fF I ds ws _ h2 r2 (by omega)
   unfold pdL
   exact⟨_,.cons ra rb⟩
end
noncomputable def xz (K:PySem.W.Frag)(neg:Bool):R2:=λ x y H Q=>∃ d d' b,Rp K H d x/\Rp K H d' y/\Dv.depthD d<=9/\Dv.depthD d'<=9/\Dv.eqD d d'=some b/\Q (.bl (if neg then !b else b)) H
theorem wv (hu:C.X.A.units+64<cLine):OpR C.X (compareOp .Eq) (xz C.X.K false):=by
 intro pins s σ H x y v u Q I rx ry h
 obtain⟨d,d',b,h1,h2,z1,z2,e,q⟩:=h
 obtain⟨as,ra⟩:=dN I d x v h1 rx z1
 obtain⟨bs,rb⟩:=dN I d' y u h2 ry z2
 refine SeqAt.compareEq_reads ra rb (hZ d) (hZ d') ?_ ⟨.bl b,H,I,?_,q⟩
 ·have:=dL d
  have:=dL d'
  have:=BG (pd d).depth (pd d').depth
  omega
 ·rw[lW _ _ _ e]; rfl
theorem wJ (hu:C.X.A.units+64<cLine):OpR C.X (compareOp .NotEq) (xz C.X.K true):=by
 intro pins s σ H x y v u Q I rx ry h
 obtain⟨d,d',b,h1,h2,z1,z2,e,q⟩:=h
 obtain⟨as,ra⟩:=dN I d x v h1 rx z1
 obtain⟨bs,rb⟩:=dN I d' y u h2 ry z2
 refine SeqAt.compareNe_reads ra rb (hZ d) (hZ d') ?_ ⟨.bl (!b),H,I,?_,q⟩
 ·have:=dL d
  have:=dL d'
  have:=BG (pd d).depth (pd d').depth
  omega
 ·rw[lW _ _ _ e]; rfl
theorem u0:OpS C (compareOp .Eq) (Dv.cmD .eq):=by
 refine⟨_,wv C.un,λ x y d d' H Hv H1 Hv1 W Q e rx ry q=>?_⟩
 simp only[Dv.cmD_eq,Dv.cmD_ne,Dv.cmD_lt,Dv.cmD_le,Dv.cmD_gt,Dv.cmD_ge,Dv.cmD_in,Dv.cmD_ni,Dv.cmD_it,Dv.cmD_nt] at q
 by_cases hz:(decide (Dv.depthD d<=9)&&decide (Dv.depthD d'<=9))=true
 ·rw[if_pos hz] at q
  simp only[yN,decide_eq_true_eq] at hz
  cases he:Dv.eqD d d' with
  | none=>rw[he] at q; exact(show False from q).elim
  | some b =>
   rw[he] at q
   exact⟨d,d',b,rx.same e.vh,ry.same e.vh,hz.1,hz.2,he,Ok.at (d:=.bl b) (fr:=true) q e cI rfl⟩
 ·rw[if_neg hz] at q; exact(show False from q).elim
theorem xN:OpS C (compareOp .NotEq) (Dv.cmD .ne):=by
 refine⟨_,wJ C.un,λ x y d d' H Hv H1 Hv1 W Q e rx ry q=>?_⟩
 simp only[Dv.cmD_eq,Dv.cmD_ne,Dv.cmD_lt,Dv.cmD_le,Dv.cmD_gt,Dv.cmD_ge,Dv.cmD_in,Dv.cmD_ni,Dv.cmD_it,Dv.cmD_nt] at q
 by_cases hz:(decide (Dv.depthD d<=9)&&decide (Dv.depthD d'<=9))=true
 ·rw[if_pos hz] at q
  simp only[yN,decide_eq_true_eq] at hz
  cases he:Dv.eqD d d' with
  | none=>rw[he] at q; exact(show False from q).elim
  | some b =>
   rw[he] at q
   exact⟨d,d',b,rx.same e.vh,ry.same e.vh,hz.1,hz.2,he,Ok.at (d:=.bl (!b)) (fr:=true) q e cI rfl⟩
 ·rw[if_neg hz] at q; exact(show False from q).elim
theorem jW:∀ (i:Int) (ds:List D) (vs:List V) (b:Bool) {K:PySem.W.Frag} {H:Hp},Dv.inD i ds=some b->RpL K H ds vs->vs.all ek=true/\inV (.int i) vs=b
 | i,[],vs,b,K,H,h,r=>by
  unfold RpL at r; subst r
  simp[Dv.inD] at h; subst h
  exact⟨rfl,rfl⟩
 | i,d::ds,vs,b,K,H,h,r=>by
  unfold RpL at r
  obtain⟨v,ws,rfl,h1,h2⟩:=r
  cases d with
  | int j =>
   simp only[Dv.inD,zS] at h
   obtain⟨c,hc,rfl⟩:=h
   obtain⟨z1,z2⟩:=jW i ds ws c hc h2
   unfold Rp at h1
   subst h1
   refine⟨by simp[ek,z1],?_⟩
   have:inV (.int i) (.int j::ws)=(eqV (.int j) (.int i) || inV (.int i) ws):=rfl
   rw[this,z2]
   show ((j == i) || c)=(decide (j=i) || c)
   rw[At]
  | _=>simp[Dv.inD] at h
theorem uY:OpS C (compareOp .In) (Dv.cmD .isin):=by
 refine⟨_,oB,λ x y d d' H Hv H1 Hv1 W Q e rx ry q=>?_⟩
 cases d with
 | int i =>
  cases d' with
  | lst ds =>
   simp only[Dv.cmD_eq,Dv.cmD_ne,Dv.cmD_lt,Dv.cmD_le,Dv.cmD_gt,Dv.cmD_ge,Dv.cmD_in,Dv.cmD_ni,Dv.cmD_it,Dv.cmD_nt] at q
   cases hi:Dv.inD i ds with
   | none=>rw[hi] at q; exact(show False from q).elim
   | some b =>
    rw[hi] at q
    unfold Rp at rx ry
    subst rx
    obtain⟨l,vs,rfl,h1,h2⟩:=ry
    obtain⟨z1,z2⟩:=jW i ds vs b hi h2
    refine⟨l,vs,rfl,.inl (h1.same e.vh).seq,rfl,z1,?_⟩
    rw[z2]
    exact Ok.at (d:=.bl b) (fr:=true) q e cI rfl
  | _=>exact(show False from q).elim
 | _=>exact(show False from q).elim
theorem sS:OpS C (compareOp .NotIn) (Dv.cmD .notin):=by
 refine⟨_,jw,λ x y d d' H Hv H1 Hv1 W Q e rx ry q=>?_⟩
 cases d with
 | int i =>
  cases d' with
  | lst ds =>
   simp only[Dv.cmD_eq,Dv.cmD_ne,Dv.cmD_lt,Dv.cmD_le,Dv.cmD_gt,Dv.cmD_ge,Dv.cmD_in,Dv.cmD_ni,Dv.cmD_it,Dv.cmD_nt] at q
   cases hi:Dv.inD i ds with
   | none=>rw[hi] at q; exact(show False from q).elim
   | some b =>
    rw[hi] at q
    unfold Rp at rx ry
    subst rx
    obtain⟨l,vs,rfl,h1,h2⟩:=ry
    obtain⟨z1,z2⟩:=jW i ds vs b hi h2
    refine⟨l,vs,rfl,.inl (h1.same e.vh).seq,rfl,z1,?_⟩
    rw[z2]
    exact Ok.at (d:=.bl (!b)) (fr:=true) q e cI rfl
  | _=>exact(show False from q).elim
 | _=>exact(show False from q).elim
theorem gR {ds:List D}{vs:List V}{K:PySem.W.Frag}{H:Hp}{i:Int}{d:D}(r:RpL K H ds vs)(h:Dv.at? ds i=some d):∃ v,atI vs i=some v/\Rp K H d v:=by
 unfold Dv.at? at h
 unfold atI ixN
 have hl:=r.length
 by_cases h0:0<=i
 ·rw[if_pos h0] at h
  obtain⟨v,h1,h2⟩:=r.get h
  have hlt:i.toNat<vs.length:=(List.getElem?_eq_some_iff.mp h1).1
  refine⟨v,?_,h2⟩
  rw[if_pos h0,if_pos (by omega)]
  exact h1
 ·rw[if_neg h0] at h
  by_cases h1:-(ds.length:Int)<=i
  ·rw[if_pos h1] at h
   obtain⟨v,h2,h3⟩:=r.get h
   refine⟨v,?_,h3⟩
   rw[if_neg h0,if_pos (by omega)]
   rw[hl]
   exact h2
  ·rw[if_neg h1] at h; cases h
theorem nP {K:PySem.W.Frag}{H Hv H2 Hv2:Hp}{ds:List D}{v:V}{fr:Bool}{k:Int}{d:D}(x:Ext Hv H Hv2 H2)(hk:Dv.at? ds k=some d) :
  (Rp K Hv2 (.lst ds) v->(fr=true->Rp [] (Hnew H H2) (.lst ds) v)->∃ l vs u,v=.ref l/\SqX K H2 l vs/\atI vs k=some u/\Rp K Hv2 d u/\((fr || Dv.scal d)=true->Rp [] (Hnew H H2) d u)) /\
  (Rp K Hv2 (.tup ds) v->(fr=true->Rp [] (Hnew H H2) (.tup ds) v)->∃ l vs u,v=.ref l/\Rd H2 l (.tup vs)/\atI vs k=some u/\Rp K Hv2 d u/\((fr || Dv.scal d)=true->Rp [] (Hnew H H2) d u)):=by
 constructor
 ·intro rp n
  cases fr with
  | true =>
   have rn:=n rfl
   unfold Rp at rn
   obtain⟨l,vs,rfl,h1,h2⟩:=rn
   obtain⟨u,h3,h4⟩:=gR h2 hk
   refine⟨l,vs,u,rfl,?_,h3,(Rp.frag h4).same x.news,λ _=>h4⟩
   rcases h1 with h1|⟨its,n,e,_⟩
   ·exact .inl (Rd.same Hnew.sub h1)
   ·simp at e
  | false =>
   unfold Rp at rp
   obtain⟨l,vs,rfl,h1,h2⟩:=rp
   obtain⟨u,h3,h4⟩:=gR h2 hk
   exact⟨l,vs,u,rfl,h1.same x.vh,h3,h4,λ z=>h4.scal (by simpa using z)⟩
 ·intro rp n
  cases fr with
  | true =>
   have rn:=n rfl
   unfold Rp at rn
   obtain⟨l,vs,rfl,h1,h2⟩:=rn
   obtain⟨u,h3,h4⟩:=gR h2 hk
   exact⟨l,vs,u,rfl,Rd.same Hnew.sub h1,h3,(Rp.frag h4).same x.news,λ _=>h4⟩
  | false =>
   unfold Rp at rp
   obtain⟨l,vs,rfl,h1,h2⟩:=rp
   obtain⟨u,h3,h4⟩:=gR h2 hk
   exact⟨l,vs,u,rfl,Rd.same x.vh h1,h3,h4,λ z=>h4.scal (by simpa using z)⟩
theorem be (ha:SE C a f)(hb:SE C b g)(hs:autoParam (di b) Au.h8._auto_1):SE C (.Subscript a b pos) (Dv.eIx f g):=by
 obtain⟨ta,pa,qa⟩:=ha
 obtain⟨tb,pb,qb⟩:=hb
 refine⟨_,i9 (ix_list.or ww) pa pb hs,λ σ H Hv ρ Q e s w=>?_⟩
 refine qa.step e (.refl s) w λ v d fr Hv1 H1 _ x1 _ rp1 n1 q1=>qb.step e x1 q1 λ v2 d2 fr2 Hv2 H2 _ x2 y2 rp2 _ q2=>?_
 have rp:=rp1.same y2.vv
 have rn:fr=true->Rp [] (Hnew H H2) d v:=λ z=>(n1 z).same (Hnew.mono (.refl _) y2.hh)
 cases d2 with
 | int k =>
  unfold Rp at rp2
  cases d with
  | lst ds =>
   have q3:Ok C.X.K Hv H (C.W σ) C.cls (match Dv.at? ds k with|some d=>.ok d (fr || Dv.scal d)|none=>.bad) Q:=q2
   cases hk:Dv.at? ds k with
   | none=>rw[hk] at q3; exact(show False from q3).elim
   | some d =>
    rw[hk] at q3
    obtain⟨l,vs,u,e1,h1,h2,h3,h4⟩:=(nP (fr:=fr) x2 hk).1 rp rn
    exact .inl ⟨l,vs,k,u,e1,rp2,h1.seq,h2,q3 u Hv2 H2 x2 h3 h4⟩
  | tup ds =>
   have q3:Ok C.X.K Hv H (C.W σ) C.cls (match Dv.at? ds k with|some d=>.ok d (fr || Dv.scal d)|none=>.bad) Q:=q2
   cases hk:Dv.at? ds k with
   | none=>rw[hk] at q3; exact(show False from q3).elim
   | some d =>
    rw[hk] at q3
    obtain⟨l,vs,u,e1,h1,h2,h3,h4⟩:=(nP (fr:=fr) x2 hk).2 rp rn
    exact .inr ⟨l,vs,k,u,e1,rp2,.inl h1,h2,q3 u Hv2 H2 x2 h3 h4⟩
  | _=>exact(show False from q2).elim
 | _=>cases d <;>exact(show False from q2).elim
noncomputable def C1S (C:Ctx)(fv:Value)(F:D->Bool->R):Prop :=
 ∃ r,cM C.X fv r/\∀ x d fr H Hv H1 Hv1 W Q,Ext Hv H Hv1 H1->Rp C.X.K Hv1 d x->(fr=true->Rp [] (Hnew H H1) d x)->Ok C.X.K Hv H W C.cls (F d fr) Q->r [x] H1 Q
theorem sU {x:Str}{p:Pos}{id:String}{F:D->Bool->R}(o:C1S C (.builtin id) F)(hg:Gl C.X x)(hm:C.X.mg x=none)(hv:bootBuiltins x=some (.builtin id))(ha:SE C a f)
  (hn:autoParam (x≠"__name__") Au.h2._auto_1) (hdb:autoParam ((x == ("__debug__":Str))=false) Au.h2._auto_1) (he:autoParam (starEach [a] C.X.env=[(false,eval a C.X.env)]) Au.h4._auto_1):SE C (.Call (.Name x p) [a] [] pos) (Dv.eB1 F f):=by
 obtain⟨r,ho,hr⟩:=o
 obtain⟨t,pa,qa⟩:=ha
 refine⟨_,cZ ho hg hm hv (aG pa bu he) hn hdb he rfl,λ σ H Hv ρ Q e s w=>?_⟩
 exact qa.step e (.refl s) w λ v d fr Hv1 H1 _ x1 _ rp1 n1 q1=>hr v d fr H Hv H1 Hv1 _ Q x1 rp1 n1 q1
theorem xg {x:Str}{p:Pos}{id:String}{F:D->Bool->R}(o:C1S C (.type id) F)(hg:Gl C.X x)(hm:C.X.mg x=none)(hv:bootBuiltins x=some (.type id))(ha:SE C a f)
  (hn:autoParam (x≠"__name__") Au.h2._auto_1) (hdb:autoParam ((x == ("__debug__":Str))=false) Au.h2._auto_1) (he:autoParam (starEach [a] C.X.env=[(false,eval a C.X.env)]) Au.h4._auto_1):SE C (.Call (.Name x p) [a] [] pos) (Dv.eB1 F f):=by
 obtain⟨r,ho,hr⟩:=o
 obtain⟨t,pa,qa⟩:=ha
 refine⟨_,oy ho hg hm hv (aG pa bu he) hn hdb he rfl,λ σ H Hv ρ Q e s w=>?_⟩
 exact qa.step e (.refl s) w λ v d fr Hv1 H1 _ x1 _ rp1 n1 q1=>hr v d fr H Hv H1 Hv1 _ Q x1 rp1 n1 q1
theorem vJ:C1S C (.builtin "len") Dv.lenD:=by
 refine⟨_,jI,λ x d fr H Hv H1 Hv1 W Q e rx n q=>?_⟩
 cases d with
 | lst ds =>
  unfold Rp at rx
  obtain⟨l,vs,rfl,h1,h2⟩:=rx
  refine⟨l,vs,rfl,.inl (h1.same e.vh).seq,?_⟩
  rw[h2.length]
  exact Ok.at (d:=.int ds.length) (fr:=true) q e bM rfl
 | tup ds =>
  unfold Rp at rx
  obtain⟨l,vs,rfl,h1,h2⟩:=rx
  refine⟨l,vs,rfl,.inr (.inl (Rd.same e.vh h1)),?_⟩
  rw[h2.length]
  exact Ok.at (d:=.int ds.length) (fr:=true) q e bM rfl
 | _=>exact(show False from q).elim
theorem tD:C1S C (.type "list") Dv.listD:=by
 refine⟨_,jU,λ x d fr H Hv H1 Hv1 W Q e rx n q=>?_⟩
 cases d with
 | lst ds =>
  cases fr with
  | true =>
   have rn:=n rfl
   unfold Rp at rn
   obtain⟨l,vs,rfl,h1,h2⟩:=rn
   have h1':SqX C.X.K H1 l vs:=by
    rcases h1 with h1|⟨its,n,e,_⟩
    ·exact .inl (Rd.same Hnew.sub h1)
    ·simp at e
   exact⟨l,vs,rfl,.inl h1'.seq,λ p hp=>Ok.newL q e ((RpL.frag h2).same e.news) (λ _=>h2) p hp⟩
  | false =>
   unfold Rp at rx
   obtain⟨l,vs,rfl,h1,h2⟩:=rx
   exact⟨l,vs,rfl,.inl (h1.same e.vh).seq,λ p hp=>Ok.newL q e h2 (λ z=>h2.flat (by simpa using z)) p hp⟩
 | tup ds =>
  cases fr with
  | true =>
   have rn:=n rfl
   unfold Rp at rn
   obtain⟨l,vs,rfl,h1,h2⟩:=rn
   exact⟨l,vs,rfl,.inr (.inl (Rd.same Hnew.sub h1)),λ p hp=>Ok.newL q e ((RpL.frag h2).same e.news) (λ _=>h2) p hp⟩
  | false =>
   unfold Rp at rx
   obtain⟨l,vs,rfl,h1,h2⟩:=rx
   exact⟨l,vs,rfl,.inr (.inl (Rd.same e.vh h1)),λ p hp=>Ok.newL q e h2 (λ z=>h2.flat (by simpa using z)) p hp⟩
 | _=>exact(show False from q).elim
theorem cE (i:Int):∀ l:List Int,(Dv.ins i l).Perm (i::l)
 | []=>.refl _
 | j::r=>by
  unfold Dv.ins
  split
  ·exact .refl _
  ·exact((cE i r).cons j).trans (.swap i j r)
theorem bf:∀ l:List Int,(Dv.isort l).Perm l
 | []=>.refl _
 | i::r=>(cE i _).trans ((bf r).cons i)
theorem cu (i:Int):∀ l:List Int,l.Pairwise (·<=·)->(Dv.ins i l).Pairwise (·<=·)
 | [],_=>by simp[Dv.ins]
 | j::r,h=>by
  unfold Dv.ins
  split
  ·rename_i hij
   refine List.pairwise_cons.mpr ⟨λ x hx=>?_,h⟩
   rcases List.mem_cons.mp hx with rfl|hx
   ·exact hij
   ·exact Int.le_trans hij ((List.pairwise_cons.mp h).1 x hx)
  ·rename_i hij
   refine List.pairwise_cons.mpr ⟨λ x hx=>?_,cu i r (List.pairwise_cons.mp h).2⟩
   rcases List.mem_cons.mp ((cE i r).mem_iff.mp hx) with rfl|hx
   ·omega
   ·exact(List.pairwise_cons.mp h).1 x hx
theorem bV:∀ l:List Int,(Dv.isort l).Pairwise (·<=·)
 | []=>.nil
 | i::r=>cu i _ (bV r)
theorem cN:∀ {a b:List Int},a.Perm b->a.Pairwise (·<=·)->b.Pairwise (·<=·)->a=b
 | [],b,p,_,_=>by simpa using p.symm.eq_nil
 | x::a,[],p,_,_=>absurd p.eq_nil (by simp)
 | x::a,y::b,p,ha,hb=>by
  have h1:=List.pairwise_cons.mp ha
  have h2:=List.pairwise_cons.mp hb
  have e:x=y:=by
   have hx:x∈y::b:=p.mem_iff.mp yR
   have hy:y∈x::a:=p.mem_iff.mpr yR
   rcases List.mem_cons.mp hx with e|hx
   ·exact e
   rcases List.mem_cons.mp hy with e|hy
   ·exact e.symm
   exact Int.le_antisymm (h1.1 y hy) (h2.1 x hx)
  subst e
  rw[cN ((List.perm_cons x).mp p) h1.2 h2.2]
theorem kj {vs:List Value}{ns:List Int}(h:IntsAre vs ns):Vals (ns.map V.int) vs:=by
 induction h with
 | nil=>exact .nil
 | cons n t _ ih=>exact .cons ⟨t,rfl⟩ ih
theorem kT {X:Cx}:cM X (.builtin "sorted") (λ xs H Q=>∃ p ns,xs=[.ref p]/\SqX X.K H p (ns.map V.int)/\ns.length<64/\∀ l,H l=none->Q (.ref l) (upd H l (.lst ((Dv.isort ns).map V.int)))):=by
 intro pins s σ H xs us Q I r h
 obtain⟨p,ns,rfl,hq,h64,q⟩:=h
 obtain⟨u,rfl,rx⟩:=lC r
 cases rx
 obtain⟨its,n,rv,e,z⟩:=Inv.listX I hq
 have hi:=mz rv
 have hl:=rv.length
 rw[yP] at hl
 refine sorted_ints (ns:=ns) ⟨_,e,rfl,n,rfl⟩ hi (by omega) λ out ns' a1 a2 a3=>?_
 have e1:ns'=Dv.isort ns:=cN (a2.trans (bf ns).symm) a3 (bV ns)
 subst e1
 obtain⟨ep,hat⟩:=sortedAll_at s.heap its out
 have hf:H (s.heap.objs.size+1)=none:=I.hok.fresh (Bz _)
 refine⟨.ref (s.heap.objs.size+1),_,I.laid (t':=s.toks) (o:=.lst ((Dv.isort ns).map V.int)) (λ b u q=>sortedAll_old q) (Bz _) ?_,rfl,q _ hf⟩
 refine⟨?_,out.toList,ep,kj a1,by simpa[seqObj] using hat⟩
 rw[yP,(bf ns).length_eq]
 rw[sizeLine_eq]; omega
theorem o3:C1S C (.builtin "sorted") Dv.sortedD:=by
 refine⟨_,kT,λ x d fr H Hv H1 Hv1 W Q e rx n q=>?_⟩
 cases d with
 | lst ds =>
  simp only[Dv.sortedD] at q
  cases hi:Dv.intsOf ds with
  | none=>rw[hi] at q; exact(show False from q).elim
  | some ns =>
   rw[hi] at q
   by_cases h64:ns.length<64
   ·simp only[h64,if_true] at q
    unfold Rp at rx
    obtain⟨l,vs,rfl,h1,h2⟩:=rx
    have e1:=RpL.ints hi h2
    subst e1
    exact⟨l,ns,rfl,h1.same e.vh,h64,λ p hp=>Ok.newL q e (RpL.ofInts _) (λ _=>RpL.ofInts _) p hp⟩
   ·simp only[h64,if_false] at q
    exact(show False from q).elim
 | _=>exact(show False from q).elim
end
open Dv (D R RL EE EL EI RI Sl Out SS)
noncomputable def Nd (K:PySem.W.Frag)(Hc:Hp):D->HO->Prop
 | .lst ds,o=>∃ vs,o=.lst vs/\RpL K Hc ds vs
 | .dct ks ds,o=>∃ vs,o=.dK ((ks.map Sum.inl).zip vs)/\ks.length=ds.length/\RpL K Hc ds vs
 | _,_=>False
theorem Nd.same {K:PySem.W.Frag}{H H':Hp}{d:D}{o:HO}(e:Same H H')(h:Nd K H d o):Nd K H' d o:=by
 cases d with
 | lst ds=>obtain⟨vs,h1,h2⟩:=h; exact⟨vs,h1,h2.same e⟩
 | dct ks ds=>obtain⟨vs,h1,h2,h3⟩:=h; exact⟨vs,h1,h2,h3.same e⟩
 | _=>exact(show False from h).elim
theorem Nd.rp {K:PySem.W.Frag}{H:Hp}{d:D}{o:HO}{a:Addr}(h:Nd K H d o)(ha:H a=some o):Rp K H d (.ref a):=by
 cases d with
 | lst ds=>obtain⟨vs,rfl,h2⟩:=h; unfold Rp; exact⟨a,vs,rfl,SqX.of ha,h2⟩
 | dct ks ds=>obtain⟨vs,rfl,h2,h3⟩:=h; unfold Rp; exact⟨a,vs,rfl,h2,.inl ha,h3⟩
 | _=>exact(show False from h).elim
noncomputable def Jk (R:Hp)(n m:Nat)(v:V):Prop:=∃ t vs,v=.ref t/\(R t=some (.lst vs)\/R t=some (.tup vs))/\vs.length=n/\∀ x∈vs,∃ b ws,x=.ref b/\b≠t/\R b=some (.lst ws)/\ws.length<=m
structure RelC (K:PySem.W.Frag)(Hv₀ H₀ Hc:Hp)(O:Nat->Hp)(st:Dv.St)(σ:St)(H:Hp):Prop where
 h0:Same H₀ H
 vc:Same Hv₀ Hc
 ch:Same Hc H
 new:∀ b o,Hc b=some o->Hv₀ b=none->H₀ b=none
 nf:∀ b o u,H₀ b=none->H b≠some (.frz o u)
 len:st.length=σ.length
 sh:∀ (i:Nat) (d:D),st[i]?=some (Sl.sh d)->∃ v,σ[i]?=some (some v)/\Rp K Hc d v
 ow:∀ (i:Nat) (d:D),st[i]?=some (Sl.ow d)->∃ (a:Addr) (o:HO),σ[i]?=some (some (V.ref a))/\O i a=some o/\Nd K Hc d o
 dp:∀ (i:Nat) (d:D),st[i]?=some (Sl.dp d)->∃ v,σ[i]?=some (some v)/\Rp [] (O i) d v
 jk:∀ (i n m:Nat),st[i]?=some (Sl.jk n m)->∃ v,σ[i]?=some (some v)/\Jk (O i) n m v
 oh:∀ (i:Nat) (b:Addr) (o:HO),O i b=some o->H b=some o/\Hc b=none/\H₀ b=none
 one:∀ (i j:Nat) (b:Addr) (o o':HO),O i b=some o->O j b=some o'->i=j
noncomputable def Rel (K:PySem.W.Frag)(Hv₀ H₀:Hp)(st:Dv.St)(σ:St)(H:Hp):Prop:=∃ Hc O,RelC K Hv₀ H₀ Hc O st σ H
section
variable {K:PySem.W.Frag}{Hv₀ H₀ Hc:Hp}{O:Nat->Hp}{st:Dv.St}{σ:St}{H:Hp}
theorem RelC.less {Hv1:Hp}(r:RelC K Hc H₀ Hv1 O st σ H)(vc:Same Hv₀ Hc)(new:∀ b o,Hc b=some o->Hv₀ b=none->H₀ b=none):RelC K Hv₀ H₀ Hv1 O st σ H :=
 ⟨r.h0,vc.trans r.vc,r.ch,λ b o h n=>(by
  cases q:Hc b with
  | some u=>exact new b u q n
  | none=>exact r.new b o h q),r.nf,r.len,r.sh,r.ow,r.dp,r.jk,r.oh,r.one⟩
noncomputable def uR (O:Nat->Hp)(b:Addr):Prop:=∃ (i:Nat) (o:HO),O i b=some o
open Classical in
noncomputable def ed (Hc:Hp)(O:Nat->Hp)(H:Hp):Hp:=λ b=>if uR O b then H b else Hc b
theorem RelC.cAll (r:RelC K Hv₀ H₀ Hc O st σ H):Same Hc (ed Hc O H):=λ b o h=>by
 unfold ed
 by_cases q:uR O b
 ·obtain⟨i,u,h1⟩:=q
  rw[(r.oh i b u h1).2.1] at h; cases h
 ·rw[if_neg q]; exact h
theorem RelC.oAll (r:RelC K Hv₀ H₀ Hc O st σ H)(i:Nat):Same (O i) (ed Hc O H):=λ b o h=>by
 unfold ed
 rw[if_pos ⟨i,o,h⟩]
 exact(r.oh i b o h).1
theorem RelC.allH (r:RelC K Hv₀ H₀ Hc O st σ H):Same (ed Hc O H) H:=λ b o h=>by
 unfold ed at h
 by_cases q:uR O b
 ·rw[if_pos q] at h; exact h
 ·rw[if_neg q] at h; exact r.ch b o h
theorem RelC.allNew (r:RelC K Hv₀ H₀ Hc O st σ H):∀ b o,ed Hc O H b=some o->Hv₀ b=none->H₀ b=none:=λ b o h n=>by
 unfold ed at h
 by_cases q:uR O b
 ·obtain⟨i,u,h1⟩:=q
  exact(r.oh i b u h1).2.2
 ·rw[if_neg q] at h; exact r.new b o h n
theorem uz {i:Nat}{d:D}(h:(Dv.all st)[i]?=some (some d)):st[i]?=some (.sh d)\/st[i]?=some (.ow d)\/st[i]?=some (.dp d):=by
 unfold Dv.all at h
 rw[zi] at h
 cases q:st[i]? with
 | none=>rw[q] at h; cases h
 | some s =>
  rw[q] at h
  cases s with
  | no=>cases h
  | sh x=>cases h; exact .inl rfl
  | ow x=>cases h; exact .inr (.inl rfl)
  | dp x=>cases h; exact .inr (.inr rfl)
  | jk n m=>cases h
theorem qx {i:Nat}{d:D}(h:(Dv.open_ st)[i]?=some (some d)):st[i]?=some (.sh d):=by
 unfold Dv.open_ at h
 rw[zi] at h
 cases q:st[i]? with
 | none=>rw[q] at h; cases h
 | some s =>
  rw[q] at h
  cases s with
  | sh x=>cases h; rfl
  | _=>cases h
theorem RelC.envAll (r:RelC K Hv₀ H₀ Hc O st σ H):EnvR K (ed Hc O H) (Dv.all st) σ:=λ i d h=>by
 rcases uz h with h|h|h
 ·obtain⟨v,h1,h2⟩:=r.sh i d h
  exact⟨v,h1,h2.same r.cAll⟩
 ·obtain⟨a,o,h1,h2,h3⟩:=r.ow i d h
  exact⟨_,h1,(h3.same r.cAll).rp (r.oAll i a o h2)⟩
 ·obtain⟨v,h1,h2⟩:=r.dp i d h
  exact⟨v,h1,Rp.frag (h2.same (r.oAll i))⟩
theorem RelC.envOpen (r:RelC K Hv₀ H₀ Hc O st σ H):EnvR K Hc (Dv.open_ st) σ:=λ i d h=>r.sh i d (qx h)
theorem RelC.grow {H':Hp}(r:RelC K Hv₀ H₀ Hc O st σ H)(hh:Same H H')(nf:∀ b o u,H b=none->H' b≠some (.frz o u)):RelC K Hv₀ H₀ Hc O st σ H' :=
 ⟨r.h0.trans hh,r.vc,r.ch.trans hh,r.new,λ b o u h=>(by
  cases q:H b with
  | none=>exact nf b o u q
  | some w=>rw[hh b w q,<- q]; exact r.nf b o u h),r.len,r.sh,r.ow,r.dp,r.jk,λ i b o h=>⟨hh _ _ (r.oh i b o h).1,(r.oh i b o h).2⟩,r.one⟩
theorem RelC.growC {Hc' H':Hp}(r:RelC K Hv₀ H₀ Hc O st σ H)(x:Ext Hc H Hc' H'):RelC K Hv₀ H₀ Hc' O st σ H':=by
 have g:=r.grow x.hh x.nf
 refine⟨g.h0,r.vc.trans x.vv,x.vh,λ b o h n=>?_,g.nf,g.len,λ i d h=>?_,λ i d h=>?_,r.dp,r.jk,λ i b o h=>?_,g.one⟩
 ·cases q:Hc b with
  | some u=>exact r.new b u q n
  | none=>exact r.h0.free (x.new b o h q)
 ·obtain⟨v,h1,h2⟩:=r.sh i d h
  exact⟨v,h1,h2.same x.vv⟩
 ·obtain⟨a,o,h1,h2,h3⟩:=r.ow i d h
  exact⟨a,o,h1,h2,h3.same x.vv⟩
 ·obtain⟨h1,h2,h3⟩:=r.oh i b o h
  refine⟨x.hh _ _ h1,?_,h3⟩
  cases q:Hc' b with
  | none=>rfl
  | some u =>
   have:=x.new b u q h2
   rw[this] at h1; cases h1
theorem cq {α:Type}{l:List α}{i j:Nat}{x y:α}(h:(l.set i x)[j]?=some y):(j=i/\y=x/\i<l.length)\/(j≠i/\l[j]?=some y):=by
 by_cases e:j=i
 ·subst e
  by_cases hl:j<l.length
  ·rw[zq hl] at h
   exact .inl ⟨rfl,(Option.some.inj h).symm,hl⟩
  ·rw[zj (by rw[zh]; omega)] at h
   cases h
 ·rw[zp (Ne.symm e)] at h
  exact .inr ⟨e,h⟩
theorem RelC.setAny {i:Nat}{s:Sl}{v:Option V}{H':Hp}{O':Nat->Hp}(r:RelC K Hv₀ H₀ Hc O st σ H)(h0:Same H₀ H')(ch:Same Hc H')(nf:∀ b o u,H₀ b=none->H' b≠some (.frz o u))(hO:∀ j,j≠i->O' j=O j)
  (sh:∀ d,s=.sh d->∃ w,v=some w/\Rp K Hc d w) (ow:∀ d,s=.ow d->∃ a o,v=some (.ref a)/\O' i a=some o/\Nd K Hc d o) (dp:∀ d,s=.dp d->∃ w,v=some w/\Rp [] (O' i) d w) (jk:∀ n m,s=.jk n m->∃ w,v=some w/\Jk (O' i) n m w)
  (oh:∀ j b o,O' j b=some o->H' b=some o/\Hc b=none/\H₀ b=none) (one:∀ j b o o',O' i b=some o->j≠i->O j b≠some o'):RelC K Hv₀ H₀ Hc O' (st.set i s) (σ.set i v) H':=by
 have at_:∀ {j:Nat},j=i->i<st.length->(σ.set i v)[j]?=some v:=λ {j} e hl=>by subst e; exact zq (by rw[<- r.len]; exact hl)
 have no:∀ {j:Nat},j≠i->(σ.set i v)[j]?=σ[j]?:=λ hj=>zp (Ne.symm hj)
 refine⟨h0,r.vc,ch,r.new,nf,by rw[zh,zh]; exact r.len,λ j x h=>?_,λ j x h=>?_,λ j x h=>?_,λ j n m h=>?_,oh,λ j k b o o' h1 h2=>?_⟩
 ·rcases cq h with ⟨e,e2,hl⟩|⟨hj,h⟩
  ·obtain⟨w,e3,rp⟩:=sh x e2.symm
   exact⟨w,by rw[at_ e hl,e3],rp⟩
  ·obtain⟨u,h1,h2⟩:=r.sh j x h
   exact⟨u,by rw[no hj]; exact h1,h2⟩
 ·rcases cq h with ⟨e,e2,hl⟩|⟨hj,h⟩
  ·obtain⟨a,o,e3,e4,rp⟩:=ow x e2.symm
   exact⟨a,o,by rw[at_ e hl,e3],by rw[e]; exact e4,rp⟩
  ·obtain⟨a,o,h1,h2,h3⟩:=r.ow j x h
   exact⟨a,o,by rw[no hj]; exact h1,by rw[hO j hj]; exact h2,h3⟩
 ·rcases cq h with ⟨e,e2,hl⟩|⟨hj,h⟩
  ·obtain⟨w,e3,rp⟩:=dp x e2.symm
   exact⟨w,by rw[at_ e hl,e3],by rw[e]; exact rp⟩
  ·obtain⟨u,h1,h2⟩:=r.dp j x h
   exact⟨u,by rw[no hj]; exact h1,by rw[hO j hj]; exact h2⟩
 ·rcases cq h with ⟨e,e2,hl⟩|⟨hj,h⟩
  ·obtain⟨w,e3,rp⟩:=jk n m e2.symm
   exact⟨w,by rw[at_ e hl,e3],by rw[e]; exact rp⟩
  ·obtain⟨u,h1,h2⟩:=r.jk j n m h
   exact⟨u,by rw[no hj]; exact h1,by rw[hO j hj]; exact h2⟩
 ·by_cases e1:j=i
  ·by_cases e2:k=i
   ·rw[e1,e2]
   ·rw[e1] at h1; rw[hO k e2] at h2; exact absurd h2 (one k b o o' h1 e2)
  ·by_cases e2:k=i
   ·rw[e2] at h2; rw[hO j e1] at h1; exact absurd h1 (one j b o' o h2 e1)
   ·rw[hO j e1] at h1; rw[hO k e2] at h2; exact r.one j k b o o' h1 h2
theorem RelC.setSh {i:Nat}{d:D}{v:V}(r:RelC K Hv₀ H₀ Hc O st σ H)(rp:Rp K Hc d v):RelC K Hv₀ H₀ Hc O (st.set i (.sh d)) (σ.set i (some v)) H :=
 r.setAny r.h0 r.ch r.nf (λ _ _=>rfl) (λ x e=>by cases e; exact⟨v,rfl,rp⟩) (λ x e=>nomatch e) (λ x e=>nomatch e) (λ n m e=>nomatch e) r.oh λ j b o o' h hj h2=>hj (r.one j i b o' o h2 h)
theorem RelC.setNo {i:Nat}{v:Option V}(r:RelC K Hv₀ H₀ Hc O st σ H):RelC K Hv₀ H₀ Hc O (st.set i .no) (σ.set i v) H :=
 r.setAny r.h0 r.ch r.nf (λ _ _=>rfl) (λ x e=>nomatch e) (λ x e=>nomatch e) (λ x e=>nomatch e) (λ n m e=>nomatch e) r.oh λ j b o o' h hj h2=>hj (r.one j i b o' o h2 h)
noncomputable def eC (O:Nat->Hp)(i:Nat)(R:Hp):Nat->Hp:=λ j=>if j=i then R else O j
theorem aI {R:Hp}{i:Nat}:eC O i R i=R:=if_pos rfl
theorem aY {R:Hp}{i j:Nat}(h:j≠i):eC O i R j=O j:=if_neg h
noncomputable def only (a:Addr)(o:HO):Hp:=λ b=>if b=a then some o else none
theorem ot {a:Addr}{o:HO}:only a o a=some o:=if_pos rfl
theorem nl {a b:Addr}{o u:HO}(h:only a o b=some u):b=a/\u=o:=by
 unfold only at h
 by_cases e:b=a
 ·rw[if_pos e] at h; exact⟨e,(Option.some.inj h).symm⟩
 ·rw[if_neg e] at h; cases h
theorem RelC.setOw {i:Nat}{d:D}{o:HO}{a:Addr}(r:RelC K Hv₀ H₀ Hc O st σ H)(ha:H a=some o)(hc:Hc a=none)(h0:H₀ a=none)(no:∀ j,j≠i->O j a=none)
  (nd:Nd K Hc d o):RelC K Hv₀ H₀ Hc (eC O i (only a o)) (st.set i (.ow d)) (σ.set i (some (.ref a))) H :=
 r.setAny r.h0 r.ch r.nf (λ j hj=>aY hj) (λ x e=>nomatch e) (λ x e=>by cases e; exact⟨a,o,rfl,by rw[aI]; exact ot,nd⟩) (λ x e=>nomatch e) (λ n m e=>nomatch e)
  (λ j b u h=>by
   by_cases hj:j=i
   ·rw[hj,aI] at h
    obtain⟨rfl,rfl⟩:=nl h
    exact⟨ha,hc,h0⟩
   ·rw[aY hj] at h; exact r.oh j b u h)
  λ j b u u' h hj h2=>by
   rw[aI] at h
   obtain⟨rfl,rfl⟩:=nl h
   rw[no j hj] at h2; cases h2
theorem RelC.setDp {i:Nat}{d:D}{v:V}{R:Hp}(r:RelC K Hv₀ H₀ Hc O st σ H)(hR:∀ b o,R b=some o->H b=some o/\Hc b=none/\H₀ b=none/\∀ j,j≠i->O j b=none)
  (rp:Rp [] R d v):RelC K Hv₀ H₀ Hc (eC O i R) (st.set i (.dp d)) (σ.set i (some v)) H :=
 r.setAny r.h0 r.ch r.nf (λ j hj=>aY hj) (λ x e=>nomatch e) (λ x e=>nomatch e) (λ x e=>by cases e; exact⟨v,rfl,by rw[aI]; exact rp⟩) (λ n m e=>nomatch e)
  (λ j b u h=>by
   by_cases hj:j=i
   ·rw[hj,aI] at h
    exact⟨(hR b u h).1,(hR b u h).2.1,(hR b u h).2.2.1⟩
   ·rw[aY hj] at h; exact r.oh j b u h)
  λ j b u u' h hj h2=>by
   rw[aI] at h
   rw[(hR b u h).2.2.2 j hj] at h2; cases h2
theorem eQ {α:Type}{l:List α}{i:Nat}{x:α}(h:l[i]?=some x):l.set i x=l:=by
 refine Ab λ j=>?_
 by_cases hj:j=i
 ·subst hj; rw[zq (List.getElem?_eq_some_iff.mp h).1,h]
 ·rw[zp (Ne.symm hj)]
theorem RelC.putAny {i:Nat}{s:Sl}{v:V}{a:Addr}{u o:HO}(r:RelC K Hv₀ H₀ Hc O st σ H)(hσ:σ[i]?=some (some v))(ha:O i a=some u)(ho:∀ q w,o≠.frz q w)
  (ow:∀ d,s=.ow d->v=.ref a/\Nd K Hc d o) (jk:∀ n m,s=.jk n m->Jk (upd (O i) a o) n m v) (hs:∀ d,s≠.sh d/\s≠.dp d) :
  RelC K Hv₀ H₀ Hc (eC O i (upd (O i) a o)) (st.set i s) σ (upd H a o):=by
 obtain⟨h1,h2,h3⟩:=r.oh i a u ha
 have hset:σ.set i (some v)=σ:=eQ hσ
 have key:=r.setAny (i:=i) (s:=s) (v:=some v) (H':=upd H a o) (O':=eC O i (upd (O i) a o)) (λ b w h=>by rw[ar (ax h h3)]; exact r.h0 b w h) (λ b w h=>by rw[ar (ax h h2)]; exact r.ch b w h)
  (λ b q w h=>by
   by_cases hb:b=a
   ·subst hb; rw[aD]; exact λ z=>ho q w (Option.some.inj z)
   ·rw[ar hb]; exact r.nf b q w h)
  (λ j hj=>aY hj) (λ d e=>absurd e (hs d).1) (λ d e=>⟨a,o,by rw[(ow d e).1],by rw[aI,aD],(ow d e).2⟩) (λ d e=>absurd e (hs d).2) (λ n m e=>⟨v,rfl,by rw[aI]; exact jk n m e⟩)
  (λ j b w h=>by
   by_cases hj:j=i
   ·rw[hj,aI] at h
    by_cases hb:b=a
    ·subst hb; rw[aD] at h ⊢; exact⟨h,h2,h3⟩
    ·rw[ar hb] at h ⊢; exact r.oh i b w h
   ·rw[aY hj] at h
    have hb:b≠a:=λ z=>hj (r.one j i b w u h (by rw[z]; exact ha))
    rw[ar hb]; exact r.oh j b w h)
  λ j b w w' h hj h4=>by
   rw[aI] at h
   by_cases hb:b=a
   ·exact hj (r.one j i b w' u h4 (by rw[hb]; exact ha))
   ·rw[ar hb] at h; exact hj (r.one j i b w' w h4 h)
 rw[hset] at key
 exact key
theorem RelC.put {i:Nat}{d:D}{ds:List D}{ws:List V}{a:Addr}(r:RelC K Hv₀ H₀ Hc O st σ H)(hi:st[i]?=some (.ow d))(hσ:σ[i]?=some (some (.ref a)))(rp:RpL K Hc ds ws) :
  ∃ O',RelC K Hv₀ H₀ Hc O' (st.set i (.ow (.lst ds))) σ (upd H a (.lst ws)):=by
 obtain⟨a',o,h1,h2,h3⟩:=r.ow i d hi
 rw[hσ] at h1
 cases h1
 exact⟨_,r.putAny hσ h2 (by intro _ _ z; cases z) (λ x e=>by cases e; exact⟨rfl,ws,rfl,rp⟩) (λ n m e=>nomatch e) λ x=>⟨nofun,nofun⟩⟩
noncomputable def dE (A B:Hp):Hp:=λ b=>match A b with
 | some o=>some o
 | none=>B b
theorem ki {A B:Hp}:Same A (dE A B):=λ b o h=>by unfold dE; rw[h]
theorem jG {A B:Hp}(d:∀ b o,B b=some o->A b=none):Same B (dE A B):=λ b o h=>by unfold dE; rw[d b o h]; exact h
theorem dM {A B:Hp}{b:Addr}{o:HO}(h:dE A B b=some o):A b=some o\/(A b=none/\B b=some o):=by
 unfold dE at h
 cases q:A b with
 | some u=>rw[q] at h; exact .inl h
 | none=>rw[q] at h; exact .inr ⟨rfl,h⟩
theorem RelC.give1 {i:Nat}(r:RelC K Hv₀ H₀ Hc O st σ H):∃ Hc' O',Same Hc Hc'/\RelC K Hv₀ H₀ Hc' O' (st.set i ((st[i]?.getD .no).give)) σ H:=by
 cases hi:st[i]? with
 | none =>
  refine⟨Hc,O,.refl _,?_⟩
  rw[List.set_eq_of_length_le (by have:=List.getElem?_eq_none_iff.mp hi; omega)]
  exact r
 | some s =>
  have hs:st.set i s=st:=eQ hi
  have key:∀ (d:D) (v:V),σ[i]?=some (some v)->Rp K (dE Hc (O i)) d v->∃ Hc' O',Same Hc Hc'/\RelC K Hv₀ H₀ Hc' O' (st.set i (.sh d)) σ H:=λ d v hσ rp=>by
   have sm:Same Hc (dE Hc (O i)):=ki
   have hset:σ.set i (some v)=σ:=eQ hσ
   have r1:RelC K Hv₀ H₀ (dE Hc (O i)) (eC O i λ _=>none) (st.set i .no) σ H:=by
    refine⟨r.h0,r.vc.trans sm,λ b o h=>?_,λ b o h n=>?_,r.nf,by rw[zh]; exact r.len,λ j x h=>?_,λ j x h=>?_,λ j x h=>?_,λ j n m h=>?_,λ j b o h=>?_,λ j k b o o' h1 h2=>?_⟩
    ·rcases dM h with h|⟨_,h⟩
     ·exact r.ch b o h
     ·exact(r.oh i b o h).1
    ·rcases dM h with h|⟨_,h⟩
     ·exact r.new b o h n
     ·exact(r.oh i b o h).2.2
    ·rcases cq h with ⟨_,e,_⟩|⟨hj,h⟩
     ·cases e
     ·obtain⟨u,h1,h2⟩:=r.sh j x h
      exact⟨u,h1,h2.same sm⟩
    ·rcases cq h with ⟨_,e,_⟩|⟨hj,h⟩
     ·cases e
     ·obtain⟨a,o,h1,h2,h3⟩:=r.ow j x h
      exact⟨a,o,h1,by rw[aY hj]; exact h2,h3.same sm⟩
    ·rcases cq h with ⟨_,e,_⟩|⟨hj,h⟩
     ·cases e
     ·obtain⟨u,h1,h2⟩:=r.dp j x h
      exact⟨u,h1,by rw[aY hj]; exact h2⟩
    ·rcases cq h with ⟨_,e,_⟩|⟨hj,h⟩
     ·cases e
     ·obtain⟨u,h1,h2⟩:=r.jk j n m h
      exact⟨u,h1,by rw[aY hj]; exact h2⟩
    ·by_cases hj:j=i
     ·rw[hj,aI] at h; cases h
     ·rw[aY hj] at h
      obtain⟨h1,h2,h3⟩:=r.oh j b o h
      refine⟨h1,?_,h3⟩
      cases q:dE Hc (O i) b with
      | none=>rfl
      | some u =>
       rcases dM q with q|⟨_,q⟩
       ·rw[h2] at q; cases q
       ·exact absurd (r.one j i b o u h q) hj
    ·by_cases hj:j=i
     ·rw[hj,aI] at h1; cases h1
     ·by_cases hk:k=i
      ·rw[hk,aI] at h2; cases h2
      ·rw[aY hj] at h1; rw[aY hk] at h2; exact r.one j k b o o' h1 h2
   have r2:=r1.setSh (i:=i) rp
   rw[hset,BR] at r2
   exact⟨_,_,sm,r2⟩
  cases s with
  | no=>exact⟨Hc,O,.refl _,by show RelC K Hv₀ H₀ Hc O (st.set i .no) σ H; rw[hs]; exact r⟩
  | sh d=>exact⟨Hc,O,.refl _,by show RelC K Hv₀ H₀ Hc O (st.set i (.sh d)) σ H; rw[hs]; exact r⟩
  | jk n m=>exact⟨Hc,O,.refl _,by show RelC K Hv₀ H₀ Hc O (st.set i (.jk n m)) σ H; rw[hs]; exact r⟩
  | ow d =>
   obtain⟨a,o,h1,h2,h3⟩:=r.ow i d hi
   exact key d _ h1 ((h3.same ki).rp (jG (λ b o h=>(r.oh i b o h).2.1) a o h2))
  | dp d =>
   obtain⟨v,h1,h2⟩:=r.dp i d hi
   exact key d v h1 (Rp.frag (h2.same (jG λ b o h=>(r.oh i b o h).2.1)))
theorem RelC.give:∀ (is:List Nat) {st:Dv.St} {Hc:Hp} {O:Nat->Hp},RelC K Hv₀ H₀ Hc O st σ H->∃ Hc' O',Same Hc Hc'/\RelC K Hv₀ H₀ Hc' O' (Dv.give is st) σ H
 | [],st,Hc,O,r=>⟨Hc,O,.refl _,r⟩
 | i::is,st,Hc,O,r=>by
  obtain⟨Hc1,O1,s1,r1⟩:=r.give1 (i:=i)
  obtain⟨Hc2,O2,s2,r2⟩:=RelC.give is r1
  exact⟨Hc2,O2,s1.trans s2,r2⟩
end
noncomputable def OkS (C:Ctx)(Hv₀ H₀:Hp)(E:Ends)(o:Out):Prop:=match o with
 | .nx st=>∀ σ' H',Rel C.X.K Hv₀ H₀ st σ' H'->E.nx σ' H'
 | .ret d nw=>∀ v Hv' H',Ext Hv₀ H₀ Hv' H'->Rp C.X.K Hv' d v->(nw=true->Rp [] (Hnew H₀ H') d v)->E.rt v H'
 | .brk st=>∀ σ' H',Rel C.X.K Hv₀ H₀ st σ' H'->E.bk σ' H'
 | .cont st=>∀ σ' H',Rel C.X.K Hv₀ H₀ st σ' H'->E.ct σ' H'
 | .exc c st=>∀ σ' H',Rel C.X.K Hv₀ H₀ st σ' H'->C.W σ' (C.cls c) none H'
 | .bad=>False
noncomputable def wS (C:Ctx)(t:TS)(f:SS):Prop:=∀ Hv₀ H₀ E σ H st,Rel C.X.K Hv₀ H₀ st σ H->OkS C Hv₀ H₀ E (f st)->t E σ H
noncomputable def SSt (C:Ctx)(s:Stmt)(f:SS):Prop:=∃ t:TS,PS C.X s t/\wS C t f
noncomputable def SSs (C:Ctx)(ss:List Stmt)(f:SS):Prop:=∃ t:TS,PSs C.X ss t/\wS C t f
section
variable {C:Ctx}{a b c:Expr}{e:Expr}{f g h:EE}{F G:SS}{s:Stmt}{ss:List Stmt}{pos pos':Pos}{E:Ends}
theorem OkS.now {Hv₀ H₀:Hp}{st:Dv.St}{σ:St}{H:Hp}(q:OkS C Hv₀ H₀ E (.nx st))(r:Rel C.X.K Hv₀ H₀ st σ H):E.nx σ H:=q σ H r
theorem aT:SSs C [] Dv.sNil:=⟨_,mI,λ Hv₀ H₀ E σ H st r q=>q σ H r⟩
theorem ah (h1:SSt C s F)(h2:SSs C ss G):SSs C (s::ss) (Dv.sCons F G):=by
 obtain⟨t,p,q⟩:=h1
 obtain⟨u,p2,q2⟩:=h2
 refine⟨_,eT p p2,λ Hv₀ H₀ E σ H st r w=>?_⟩
 refine q Hv₀ H₀ { E with nx:=u E } σ H st r ?_
 have w':OkS C Hv₀ H₀ E ((F st).bind G):=w
 cases hf:F st with
 | nx st'=>rw[hf] at w'; exact λ σ' H' r'=>q2 Hv₀ H₀ E σ' H' st' r' w'
 | ret d nw=>rw[hf] at w'; exact w'
 | brk st=>rw[hf] at w'; exact w'
 | cont st=>rw[hf] at w'; exact w'
 | exc c st=>rw[hf] at w'; exact w'
 | bad=>rw[hf] at w'; exact w'
theorem ao (h1:SSt C s F):SSs C [s] F:=by
 obtain⟨t,p,q⟩:=h1
 exact⟨t,jD p,q⟩
theorem Tak.all {t:TE}(q:Tak C t f){Hv₀ H₀ Hc H:Hp}{O:Nat->Hp}{σ:St}{st:Dv.St}(r:RelC C.X.K Hv₀ H₀ Hc O st σ H){T:VK}
  (hx:∀ c,f (Dv.all st)=.exc c->∀ H',RelC C.X.K Hv₀ H₀ Hc O st σ H'->C.W σ (C.cls c) none H') (hb:f (Dv.all st)≠.bad)
  (ok:∀ d fr v Hv' H',f (Dv.all st)=.ok d fr->Ext (ed Hc O H) H Hv' H'->RelC C.X.K Hv₀ H₀ Hc O st σ H'->Rp C.X.K Hv' d v->(fr=true->Rp [] (Hnew H H') d v)->T v H'):t σ H T:=by
 refine q σ H (ed Hc O H) (Dv.all st) T r.envAll r.allH ?_
 cases hf:f (Dv.all st) with
 | bad=>exact absurd hf hb
 | exc c=>exact λ Hv' H' x=>hx c hf H' (r.grow x.hh x.nf)
 | ok d fr=>exact λ v Hv' H' x rp n=>ok d fr v Hv' H' hf x (r.grow x.hh x.nf) rp n
theorem Tak.open {t:TE}(q:Tak C t f){Hv₀ H₀ Hc H:Hp}{O:Nat->Hp}{σ:St}{st:Dv.St}(r:RelC C.X.K Hv₀ H₀ Hc O st σ H){T:VK}
  (hx:∀ c,f (Dv.open_ st)=.exc c->∀ Hc' H',Ext Hc H Hc' H'->C.W σ (C.cls c) none H') (hb:f (Dv.open_ st)≠.bad)
  (ok:∀ d fr v Hc' H',f (Dv.open_ st)=.ok d fr->Ext Hc H Hc' H'->RelC C.X.K Hv₀ H₀ Hc' O st σ H'->Rp C.X.K Hc' d v->T v H'):t σ H T:=by
 refine q σ H Hc (Dv.open_ st) T r.envOpen r.ch ?_
 cases hf:f (Dv.open_ st) with
 | bad=>exact absurd hf hb
 | exc c=>exact λ Hv' H' x=>hx c hf Hv' H' x
 | ok d fr=>exact λ v Hv' H' x rp n=>ok d fr v Hv' H' hf x (r.growC x) rp
theorem dh (he:SE C e f)(hs:autoParam (swapsWith e none pos.line C.X.env=pure false) Au.h4._auto_1):SSt C (.Expr e pos) (Dv.sExpr f):=by
 obtain⟨t,p,q⟩:=he
 refine⟨_,gf p hs,λ Hv₀ H₀ E σ H st ⟨Hc,O,r⟩ w=>?_⟩
 unfold Dv.sExpr at w
 refine q.all r (λ c hf H' r'=>?_) (λ hf=>?_) λ d fr v Hv' H' hf x r' rp n=>?_
 ·rw[hf] at w; exact w σ H' ⟨Hc,O,r'⟩
 ·rw[hf] at w; exact w
 ·rw[hf] at w; exact w σ H' ⟨Hc,O,r'⟩
theorem RelC.ret {Hv₀ H₀ Hc H Hv' H':Hp}{O:Nat->Hp}{σ:St}{st:Dv.St}{K:PySem.W.Frag}(r:RelC K Hv₀ H₀ Hc O st σ H)(x:Ext (ed Hc O H) H Hv' H'):∃ Hv2,Ext Hv₀ H₀ Hv2 H'/\Same Hv' Hv2:=by
 have key:∀ b o,Hv' b=some o->Hv₀ b=none->H₀ b=none:=λ b o h n=>by
  cases q:ed Hc O H b with
  | some u=>exact r.allNew b u q n
  | none=>exact r.h0.free (x.new b o h q)
 refine⟨λ b=>match H₀ b with|none=>H' b|some _=>Hv' b,⟨r.h0.trans x.hh,λ b o h=>?_,λ b o h=>?_,λ b o h n=>?_,λ b h=>?_,λ b o u h=>?_⟩,λ b o h=>?_⟩
 ·have h2:Hv' b=some o:=x.vv _ _ (r.cAll _ _ (r.vc b o h))
  show (match H₀ b with|none=>H' b|some _=>Hv' b)=some o
  cases H₀ b with
  | none=>exact x.vh b o h2
  | some _=>exact h2
 ·have h':(match H₀ b with|none=>H' b|some _=>Hv' b)=some o:=h
  cases q:H₀ b with
  | none=>rw[q] at h'; exact h'
  | some _=>rw[q] at h'; exact x.vh b o h'
 ·have h':(match H₀ b with|none=>H' b|some _=>Hv' b)=some o:=h
  cases q:H₀ b with
  | none=>rfl
  | some u =>
   rw[q] at h'
   have:=key b o h' n
   rw[q] at this; cases this
 ·show (match H₀ b with|none=>H' b|some _=>Hv' b)=H' b
  rw[h]
 ·exact(r.grow x.hh x.nf).nf b o u h
 ·show (match H₀ b with|none=>H' b|some _=>Hv' b)=some o
  cases H₀ b with
  | none=>exact x.vh b o h
  | some _=>exact h
theorem aK (he:SE C e f):SSt C (.Return (some e) pos) (Dv.sRet f):=by
 obtain⟨t,p,q⟩:=he
 refine⟨_,jS p,λ Hv₀ H₀ E σ H st ⟨Hc,O,r⟩ w=>?_⟩
 unfold Dv.sRet at w
 refine q.all r (λ c hf H' r'=>?_) (λ hf=>?_) λ d fr v Hv' H' hf x r' rp n=>?_
 ·rw[hf] at w; exact w σ H' ⟨Hc,O,r'⟩
 ·rw[hf] at w; exact w
 ·rw[hf] at w
  obtain⟨Hv2,x2,s2⟩:=r.ret x
  exact w v Hv2 H' x2 (rp.same s2) λ z=>(n z).same (Hnew.mono r.h0 (.refl _))
theorem b9 (i:Nat){x:Str}(hN:autoParam (C.X.N[i]?=some x) Au.h4._auto_1)(hv:autoParam (Vis C.X.env.scope x) Au.h7._auto_1)(hd:autoParam ((x == ("__debug__":Str))=false) Au.h2._auto_1)
  (hcd:autoParam ((x == ("__classdict__":Str))=false) Au.h2._auto_1):SSt C (.Return (some (.Name x pos')) pos) (Dv.sRetO i):=by
 refine⟨_,jS (bH hN hv hd hcd),λ Hv₀ H₀ E σ H st ⟨Hc,O,r⟩ w=>?_⟩
 unfold Dv.sRetO at w
 obtain⟨Hv2,x2,s2⟩:=r.ret (.refl r.allH)
 cases hi:st[i]? with
 | none=>rw[hi] at w; exact(show False from w).elim
 | some s =>
  rw[hi] at w
  cases s with
  | no=>exact(show False from w).elim
  | sh d =>
   obtain⟨v,h1,h2⟩:=r.sh i d hi
   exact⟨v,h1,w v Hv2 H x2 ((h2.same r.cAll).same s2) λ z=>h2.scal z⟩
  | jk n m=>exact(show False from w).elim
  | dp d =>
   obtain⟨v,h1,h2⟩:=r.dp i d hi
   exact⟨v,h1,w v Hv2 H x2 ((Rp.frag (h2.same (r.oAll i))).same s2) λ _=>h2.same λ b o h=>by
    unfold Hnew
    rw[(r.oh i b o h).2.2]
    exact(r.oh i b o h).1⟩
  | ow d =>
   obtain⟨a,o,h1,h2,h3⟩:=r.ow i d hi
   have rp:Rp C.X.K Hv2 d (.ref a):=by
    obtain⟨v,h6,h7⟩:=r.envAll i d (by unfold Dv.all; rw[zi,hi]; rfl)
    rw[h1] at h6
    cases h6
    exact h7.same s2
   cases d with
   | lst ds =>
    refine⟨_,h1,w (.ref a) Hv2 H x2 rp λ z=>?_⟩
    obtain⟨vs,rfl,h5⟩:=h3
    unfold Rp
    refine⟨a,vs,rfl,SqX.of ?_,h5.flat z⟩
    unfold Hnew
    rw[(r.oh i a _ h2).2.2]
    exact(r.oh i a _ h2).1
   | dct ks ds=>exact⟨_,h1,w (.ref a) Hv2 H x2 rp λ z=>nomatch z⟩
   | _=>exact(show False from h3).elim
theorem bc {pa pb:List Stmt}(hc:SC C c f)(ha:SSs C pa F)(hb:SSs C pb G):SSt C (.If c pa pb pos) (Dv.sIf f F G):=by
 obtain⟨tc,pc,qc⟩:=hc
 obtain⟨t,p,q⟩:=ha
 obtain⟨u,p2,q2⟩:=hb
 refine⟨_,u8 pc p p2,λ Hv₀ H₀ E σ H st ⟨Hc,O,r⟩ w=>?_⟩
 unfold Dv.sIf at w
 refine qc σ H (ed Hc O H) (Dv.all st) _ r.envAll r.allH ?_
 cases hf:f (Dv.all st) with
 | bad=>rw[hf] at w; exact w
 | exc c=>rw[hf] at w; exact λ Hv' H' x=>w σ H' ⟨Hc,O,r.grow x.hh x.nf⟩
 | ok d fr =>
  rw[hf] at w
  intro v Hv' H' x rp n
  cases d with
  | bl b =>
   unfold Rp at rp
   refine⟨b,rp,?_⟩
   cases b with
   | true=>exact sf (q Hv₀ H₀ E σ H' st ⟨Hc,O,r.grow x.hh x.nf⟩ w)
   | false=>exact qQ (q2 Hv₀ H₀ E σ H' st ⟨Hc,O,r.grow x.hh x.nf⟩ w)
  | _=>exact(show False from w).elim
theorem mO {t:TE}(q:Tak C t f)(i:Nat){Hv₀ H₀ H:Hp}{σ:St}{st:Dv.St}(r:Rel C.X.K Hv₀ H₀ st σ H)(w:OkS C Hv₀ H₀ E (Dv.sSet i f st)):t σ H λ v H'=>E.nx (σ.set i (some v)) H':=by
 obtain⟨Hc,O,r⟩:=r
 unfold Dv.sSet at w
 refine q.all r (λ c hf H' r'=>?_) (λ hf=>?_) λ d fr v Hv' H' hf x r' rp n=>?_
 ·rw[hf] at w; exact w σ H' ⟨Hc,O,r'⟩
 ·rw[hf] at w; exact w
 ·rw[hf] at w
  cases d with
  | lst ds =>
   simp only[Dv.keepD] at w
   by_cases z:(fr&&Dv.flatL ds)=true
   ·simp only[z,if_true] at w
    rw[yN] at z
    have rn:=n z.1
    unfold Rp at rn
    obtain⟨a,vs,rfl,h1,h2⟩:=rn
    have h1':Hnew H H' a=some (.lst vs):=by
     rcases h1 with (h1|⟨o,h1⟩)|⟨its,m,e,_⟩
     ·exact h1
     ·exfalso
      have hn:H a=none:=by
       unfold Hnew at h1
       cases q:H a with
       | none=>rfl
       | some u=>rw[q] at h1; cases h1
      exact x.nf a o _ hn (Hnew.sub a _ h1)
     ·simp at e
    have hn:H a=none:=by
     unfold Hnew at h1'
     cases q:H a with
     | none=>rfl
     | some u=>rw[q] at h1'; cases h1'
    refine w _ H' ⟨Hc,_,r'.setOw (Hnew.sub a _ h1') (r.ch.free hn) (r.h0.free hn) (λ j _=>?_) ⟨vs,rfl,h2.flat z.2⟩⟩
    cases q:O j a with
    | none=>rfl
    | some u=>have:=(r.oh j a u q).1; rw[hn] at this; cases this
   ·simp only[z] at w
    exact(show False from w).elim
  | tup ds=>exact(show False from w).elim
  | exn c=>exact(show False from w).elim
  | raw _=>exact(show False from w).elim
  | tab _=>exact(show False from w).elim
  | dct ks ds =>
   simp only[Dv.keepD] at w
   by_cases z:(fr&&ks.isEmpty&&ds.isEmpty)=true
   ·simp only[z,if_true] at w
    simp only[yN,List.isEmpty_iff] at z
    obtain⟨⟨z1,z2⟩,z3⟩:=z
    subst z2 z3
    have rn:=n z1
    unfold Rp at rn
    obtain⟨a,vs,rfl,_,h1,h2⟩:=rn
    unfold RpL at h2
    subst h2
    have h1':Hnew H H' a=some (.dK []):=by
     rcases h1 with h1|⟨o,h1⟩
     ·exact h1
     ·exfalso
      have hn:H a=none:=by
       unfold Hnew at h1
       cases q:H a with
       | none=>rfl
       | some u=>rw[q] at h1; cases h1
      exact x.nf a o _ hn (Hnew.sub a _ h1)
    have hn:H a=none:=by
     unfold Hnew at h1'
     cases q:H a with
     | none=>rfl
     | some u=>rw[q] at h1'; cases h1'
    refine w _ H' ⟨Hc,_,r'.setOw (Hnew.sub a _ h1') (r.ch.free hn) (r.h0.free hn) (λ j _=>?_) ⟨[],rfl,rfl,.nil⟩⟩
    cases q:O j a with
    | none=>rfl
    | some u=>have:=(r.oh j a u q).1; rw[hn] at this; cases this
   ·simp only[z] at w
    exact(show False from w).elim
  | _=>exact w _ H' ⟨Hc,O,r'.setSh (Rp.scal rfl rp)⟩
theorem aq {i:Nat}{x:Str}(he:SE C e f)(hN:C.X.N.Nodup)(hi:C.X.N[i]?=some x)(hx:Loc C.X.env.scope x)(hs:autoParam (swapsWith e (some (.Name x pos')) pos.line C.X.env=pure false) Au.h4._auto_1)
  (hf:autoParam (C.X.fn x=true\/C.X.env.scope.names.lookup x=some .local) Au.h1._auto_1):SSt C (.Assign [.Name x pos'] e pos) (Dv.sSet i f):=by
 obtain⟨t,p,q⟩:=he
 exact⟨_,jP hN hi hx p hs hf,λ Hv₀ H₀ E σ H st r w=>mO q i r w⟩
theorem qM {t:TE}(q:Tak C t f)(is:List Nat)(i:Nat){Hv₀ H₀ H:Hp}{σ:St}{st:Dv.St}(r:Rel C.X.K Hv₀ H₀ st σ H)(w:OkS C Hv₀ H₀ E (Dv.sSetG is i f st)):t σ H λ v H'=>E.nx (σ.set i (some v)) H':=by
 obtain⟨Hc0,O0,r0⟩:=r
 obtain⟨Hc,O,_,r⟩:=r0.give is
 unfold Dv.sSetG at w
 refine q.open r (λ c hf Hc' H' x=>?_) (λ hf=>?_) λ d fr v Hc' H' hf x r' rp=>?_
 ·rw[hf] at w; exact w σ H' ⟨Hc0,O0,r0.grow x.hh x.nf⟩
 ·rw[hf] at w; exact w
 ·rw[hf] at w
  exact w _ H' ⟨Hc',O,r'.setSh rp⟩
theorem fm (is:List Nat){i:Nat}{x:Str}(he:SE C e f)(hN:C.X.N.Nodup)(hi:C.X.N[i]?=some x)(hx:Loc C.X.env.scope x)(hs:autoParam (swapsWith e (some (.Name x pos')) pos.line C.X.env=pure false) Au.h4._auto_1)
  (hf:autoParam (C.X.fn x=true\/C.X.env.scope.names.lookup x=some .local) Au.h1._auto_1):SSt C (.Assign [.Name x pos'] e pos) (Dv.sSetG is i f):=by
 obtain⟨t,p,q⟩:=he
 exact⟨_,jP hN hi hx p hs hf,λ Hv₀ H₀ E σ H st r w=>qM q is i r w⟩
theorem RelC.own {Hv₀ H₀ Hc H:Hp}{O:Nat->Hp}{σ:St}{st:Dv.St}{K:PySem.W.Frag}{i:Nat}{ds:List D}(r:RelC K Hv₀ H₀ Hc O st σ H)(hi:st[i]?=some (.ow (.lst ds))) :
  ∃ a vs,σ[i]?=some (some (.ref a))/\H a=some (.lst vs)/\RpL K Hc ds vs:=by
 obtain⟨a,o,h1,h2,vs,rfl,h3⟩:=r.ow i _ hi
 exact⟨a,vs,h1,(r.oh i a _ h2).1,h3⟩
theorem dO {i:Nat}{x:Str}{apos cpos:Pos}{px:Pos}(he:SE C e f)(hN:autoParam (C.X.N[i]?=some x) Au.h4._auto_1)(hv:autoParam (Vis C.X.env.scope x) Au.h7._auto_1)
    (hd:autoParam ((x == ("__debug__":Str))=false) Au.h2._auto_1) (hcd:autoParam ((x == ("__classdict__":Str))=false) Au.h2._auto_1) (hst:autoParam (starEach [e] C.X.env=[(false,eval e C.X.env)]) Au.h4._auto_1)
    (hbase:autoParam (attributeBase (.Name x px) "append" C.X.env (eval (.Name x px) C.X.env)=eval (.Name x px) C.X.env) Au.h4._auto_1)
    (hfew:autoParam (((backTo cpos (starEach [e] C.X.env)).all (λ x=>!x.1)&&(backToKw cpos (keywordEach [] C.X.env)).all (λ x=>x.1.isSome)
      && decide ([e].length+([]:List Keyword).length+(if ([]:List Keyword).isEmpty then 0 else 1)<30))=true) Au.h4._auto_1)
    (hline:autoParam ((apos.endLine == cpos.line)=true) Au.h4._auto_1)
    (hs:autoParam (swapsWith (.Call (.Attribute (.Name x px) "append" apos) [e] [] cpos) none pos.line C.X.env=pure false) Au.h4._auto_1) :
    SSt C (.Expr (.Call (.Attribute (.Name x px) "append" apos) [e] [] cpos) pos) (Dv.sApp i f):=by
  obtain⟨t,p,q⟩:=he
  refine⟨_,gf (rX PySem.F.plainAttrs_list PySem.F.slot_list_append PySem.F.type_list_append jc (bH hN hv hd hcd) (aG p bu hst) hbase hfew hline hst rfl) hs,λ Hv₀ H₀ E σ H st ⟨Hc,O,r⟩ w=>?_⟩
  unfold Dv.sApp at w
  cases hi:st[i]? with
  | none=>rw[hi] at w; exact(show False from w).elim
  | some s =>
    rw[hi] at w
    cases s with
    | no=>exact(show False from w).elim
    | sh d=>exact(show False from w).elim
    | dp d=>exact(show False from w).elim
    | jk n m=>exact(show False from w).elim
    | ow d0 =>
     cases d0 with
     | lst ds =>
      obtain⟨a,vs,h1,h2,h5⟩:=r.own hi
      refine⟨_,h1,.inl ⟨rfl,vs,SqL.of h2⟩,?_⟩
      refine q.all r (λ c hf H' r'=>?_) (λ hf=>?_) λ d fr v Hv' H' hf x r' rp n=>?_
      · simp only[hf] at w; exact w σ H' ⟨Hc,O,r'⟩
      · simp only[hf] at w; exact w
      · simp only[hf] at w
        by_cases z:(Dv.scal d&&decide (ds.length<Dv.mx))=true
        · simp only[z,if_true] at w
          rw[yN,decide_eq_true_eq] at z
          obtain⟨O',r2⟩:=r'.put hi h1 (h5.append (.cons (rp.scal z.1) .nil))
          refine⟨a,vs,v,rfl,rfl,x.hh _ _ h2,?_,w σ _ ⟨Hc,O',r2⟩⟩
          have:=h5.length
          have:=cL (AX z.2)
          have e1:(100000:Nat)<sizeLine:=by rw[sizeLine_eq]; decide
          have e2:ds.length<100000:=z.2
          omega
        · simp only[z] at w
          exact(show False from w).elim
     | _=>exact(show False from w).elim
end
section
variable {C:Ctx}{a b c e o k:Expr}{f g h:EE}{fl:EL}{F G:SS}{s:Stmt}{ss:List Stmt}{pos pos':Pos}{E:Ends}
noncomputable def Wlk (K:PySem.W.Frag)(J:It)(Hv:Hp)(ds:List D):Prop :=
 ∀ (i:Nat) (H:Hp),Same Hv H->(∀ d,ds[i]?=some d->J.go i H/\∀ x H',J.yld i H x H'->∃ Hv',Ext Hv H Hv' H'/\Rp K Hv' d x)/\(i=ds.length->J.stop i H)
noncomputable def OkI (K:PySem.W.Frag)(Hv H:Hp)(W:XK)(cls:String->Value)(r:RI)(T:It->Hp->Prop):Prop:=match r with
 | .ok ds _=>∀ J Hv' H',Ext Hv H Hv' H'->Wlk K J Hv' ds->T J H'
 | .exc c=>∀ Hv' H',Ext Hv H Hv' H'->W (cls c) none H'
 | .bad=>False
noncomputable def SI (C:Ctx)(tg it:Expr)(f:EI):Prop :=
 ∃ wi:TI,PI C.X tg it wi/\∀ σ H Hv ρ T,EnvR C.X.K Hv ρ σ->Same Hv H->OkI C.X.K Hv H (C.W σ) C.cls (f ρ) T->wi σ H T
theorem aQ {tg:Expr}(he:SE C e f):SI C tg e (Dv.iSeq f):=by
 obtain⟨t,p,q⟩:=he
 refine⟨_,tG p,λ σ H Hv ρ T er s w=>?_⟩
 refine q σ H Hv ρ _ er s ?_
 unfold Dv.iSeq at w
 cases hf:f ρ with
 | bad=>rw[hf] at w; exact w
 | exc c=>rw[hf] at w; exact w
 | ok d fr =>
  rw[hf] at w
  intro v Hv' H' x rp n
  cases d with
  | lst ds =>
   unfold Rp at rp
   obtain⟨l,vs,rfl,h1,h2⟩:=rp
   refine⟨l,rfl,⟨vs,(h1.same x.vh).seq⟩,w _ Hv' H' x λ i H2 s2=>⟨λ d hd=>?_,λ hi=>?_⟩⟩
   ·obtain⟨u,h3,h4⟩:=h2.get hd
    refine⟨⟨vs,u,(h1.same s2).seq,h3⟩,λ x H3 ⟨e1,hy⟩=>?_⟩
    subst e1
    have:=hy vs (h1.same s2).seq
    rw[h3] at this
    cases this
    exact⟨Hv',.refl s2,h4⟩
   ·exact⟨vs,(h1.same s2).seq,by rw[h2.length,hi]; exact y4 _⟩
  | _=>exact(show False from w).elim
theorem og (lo:Int):∀ (n i:Nat) (d:D),(Dv.rangeL lo n)[i]?=some d->i<n/\d=.int (lo+i):=by
 intro n
 induction n generalizing lo with
 | zero=>intro i d h; simp[Dv.rangeL] at h
 | succ n ih =>
  intro i d h
  cases i with
  | zero=>simp[Dv.rangeL] at h; subst h; exact⟨by omega,by simp⟩
  | succ i =>
   simp only[Dv.rangeL,yG] at h
   obtain⟨h1,h2⟩:=ih (lo+1) i d h
   exact⟨by omega,by rw[h2]; congr 1; omega⟩
theorem oZ (lo:Int):∀ n:Nat,(Dv.rangeL lo n).length=n:=by
 intro n
 induction n generalizing lo with
 | zero=>rfl
 | succ n ih=>simp[Dv.rangeL,ih]
theorem iL {K:PySem.W.Frag}{Hv:Hp}(lo:Int)(n:Nat):Wlk K (Itr lo n) Hv (Dv.rangeL lo n):=λ i H s=>⟨λ d hd=>by
  obtain⟨h1,rfl⟩:=og lo n i d hd
  refine⟨h1,λ x H' ⟨e1,e2⟩=>?_⟩
  subst e1 e2
  exact⟨Hv,.refl s,bM⟩,λ hi=>by rw[oZ] at hi; subst hi; exact y4 _⟩
theorem rL {j:Int}(h:Dv.rngOk j=true):-(2 ^ 62)<=j/\j<2 ^ 62:=by
 unfold Dv.rngOk at h
 simp only[yN,decide_eq_true_eq] at h
 omega
theorem bJ {tg:Expr}{p:Pos}(hg:Gl C.X "range")(hm:C.X.mg "range"=none)(he:SE C e f)(hs:autoParam (starEach [e] C.X.env=[(false,eval e C.X.env)]) Au.h4._auto_1) :
  SI C tg (.Call (.Name "range" p) [e] [] pos) (Dv.iRange f):=by
 obtain⟨t,pe,q⟩:=he
 refine⟨_,nZ hg hm (aG pe bu hs) hs,λ σ H Hv ρ T er s w=>?_⟩
 refine q σ H Hv ρ _ er s ?_
 unfold Dv.iRange at w
 cases hf:f ρ with
 | bad=>rw[hf] at w; exact w
 | exc c=>rw[hf] at w; exact w
 | ok d fr =>
  rw[hf] at w
  intro v Hv' H' x rp n
  cases d with
  | int j =>
   unfold Rp at rp
   subst rp
   by_cases hr:Dv.rngOk j=true
   ·simp only[hr,if_true] at w
    obtain⟨h1,h2⟩:=rL hr
    exact⟨j,rfl,h1,h2,w _ Hv' H' x (iL 0 j.toNat)⟩
   ·simp only[hr] at w
    exact(show False from w).elim
  | _=>exact(show False from w).elim
theorem d8 {tg:Expr}{p:Pos}(hg:Gl C.X "range")(hm:C.X.mg "range"=none)(he:SE C e f)(hb:SE C b g)(hs:autoParam (starEach [e,b] C.X.env=[(false,eval e C.X.env),(false,eval b C.X.env)]) Au.h4._auto_1)
  (hs2:autoParam (starEach [b] C.X.env=[(false,eval b C.X.env)]) Au.h4._auto_1):SI C tg (.Call (.Name "range" p) [e,b] [] pos) (Dv.iRange2 f g):=by
 obtain⟨t,pe,q⟩:=he
 obtain⟨t2,pe2,q2⟩:=hb
 refine⟨_,oP hg hm (aG pe (aG pe2 bu hs2) (by rw[hs,hs2])) hs hs2,λ σ H Hv ρ T er s w=>?_⟩
 refine q σ H Hv ρ _ er s ?_
 unfold Dv.iRange2 at w
 cases hf:f ρ with
 | bad=>rw[hf] at w; exact w
 | exc c=>rw[hf] at w; exact w
 | ok d fr =>
  rw[hf] at w
  intro v Hv' H' x rp n
  cases d with
  | int i =>
   unfold Rp at rp
   subst rp
   refine q2 σ H' Hv' ρ _ (er.same x.vv) x.vh ?_
   cases hg':g ρ with
   | bad=>simp only[hg'] at w; exact w
   | exc c=>simp only[hg'] at w; exact λ Hv2 H2 y=>w Hv2 H2 (x.trans y)
   | ok d2 fr2 =>
    simp only[hg'] at w
    intro v2 Hv2 H2 y rp2 n2
    cases d2 with
    | int j =>
     unfold Rp at rp2
     subst rp2
     by_cases hr:(Dv.rngOk i&&Dv.rngOk j)=true
     ·simp only[hr,if_true] at w
      rw[yN] at hr
      obtain⟨h1,h2⟩:=rL hr.1
      obtain⟨h3,h4⟩:=rL hr.2
      exact⟨i,j,rfl,⟨h1,h2,h3,h4⟩,w _ Hv2 H2 (x.trans y) (iL i _)⟩
     ·simp only[hr] at w
      exact(show False from w).elim
    | _=>exact(show False from w).elim
  | _=>exact(show False from w).elim
noncomputable def SG (C:Ctx)(tg:Expr)(st:D->Dv.St->Option Dv.St):Prop :=
 ∃ g:TG,PG C.X tg g/\∀ Hv₀ H₀ Hc O H σ s s' d v T,RelC C.X.K Hv₀ H₀ Hc O s σ H->Rp C.X.K Hc d v->st d s=some s'->(∀ σ' ,RelC C.X.K Hv₀ H₀ Hc O s' σ' H->T σ' H)->g v σ H T
theorem ng {i:Nat}{x:Str}(hN:C.X.N.Nodup)(hi:C.X.N[i]?=some x)(hx:Loc C.X.env.scope x)(hf:autoParam (C.X.fn x=true\/C.X.env.scope.names.lookup x=some .local) Au.h1._auto_1) :
  SG C (.Name x pos) (λ d s=>some (s.set i (.sh d))):=by
 refine⟨_,jx hN hi hx hf,λ Hv₀ H₀ Hc O H σ s s' d v T r rp e h=>?_⟩
 cases e
 exact h _ (r.setSh rp)
theorem RelC.self {K:PySem.W.Frag}{Hv₀ H₀ Hc H:Hp}{O:Nat->Hp}{st:Dv.St}{σ:St}(r:RelC K Hv₀ H₀ Hc O st σ H):RelC K Hc H₀ Hc O st σ H :=
 ⟨r.h0,.refl _,r.ch,λ b o h n=>(by rw[n] at h; cases h),r.nf,r.len,r.sh,r.ow,r.dp,r.jk,r.oh,r.one⟩
theorem OkS.less {Hv₀ Hc H₀:Hp}{o:Out}(h:OkS C Hv₀ H₀ E o)(vc:Same Hv₀ Hc)(new:∀ b o,Hc b=some o->Hv₀ b=none->H₀ b=none):OkS C Hc H₀ E o:=by
 have rl:∀ {st σ H},Rel C.X.K Hc H₀ st σ H->Rel C.X.K Hv₀ H₀ st σ H:=λ⟨Hd,O,r⟩=>⟨Hd,O,r.less vc new⟩
 cases o with
 | nx st=>exact λ σ H r=>h σ H (rl r)
 | ret d nw =>
  refine λ v Hv' H' x rp n=>h v Hv' H' ⟨x.hh,vc.trans x.vv,x.vh,λ b o q m=>?_,x.all,x.nf⟩ rp n
  cases z:Hc b with
  | some u=>exact new b u z m
  | none=>exact x.new b o q z
 | brk st=>exact λ σ H r=>h σ H (rl r)
 | cont st=>exact λ σ H r=>h σ H (rl r)
 | exc c st=>exact λ σ H r=>h σ H (rl r)
 | bad=>exact h
theorem qW {tgt:D->Dv.St->Option Dv.St}{g:TG}{tb:TS}{J:It}{ds:List D}{Hc H₀ H:Hp}{σ:St}{st:Dv.St}
  (qg:∀ Hv₀ H₀ Hc O H σ s s' d v T,RelC C.X.K Hv₀ H₀ Hc O s σ H->Rp C.X.K Hc d v->tgt d s=some s'->(∀ σ' ,RelC C.X.K Hv₀ H₀ Hc O s' σ' H->T σ' H)->g v σ H T)
  (qb:wS C tb F) (wl:Wlk C.X.K J Hc ds) (r:Rel C.X.K Hc H₀ st σ H) (w:OkS C Hc H₀ E (Dv.forGoT tgt F ds st)) :
  ∃ W:Nat->Nat->St->Hp->Prop,(∃ m,W 0 m σ H)/\∀ i m σ H,W i m σ H ->
   (J.stop i H/\E.nx σ H)\/(J.go i H/\∃ N:St->Hp->Prop,(∀ σ' H',N σ' H'->∃ m',m'<m/\W (i+1) m' σ' H')/\∀ x H',J.yld i H x H'->g x σ H' λ σ2 H2=>tb { E with nx:=N,ct:=N,bk:=E.nx } σ2 H2):=by
 refine⟨λ i m σ H=>m=ds.length-i/\i<=ds.length/\∃ st,Rel C.X.K Hc H₀ st σ H/\OkS C Hc H₀ E (Dv.forGoT tgt F (ds.drop i) st),⟨_,rfl,A6 _,st,r,w⟩,?_⟩
 rintro i m σ H ⟨rfl,hi,st,⟨Hd,O,r⟩,w⟩
 obtain⟨w1,w2⟩:=wl i H (r.vc.trans r.ch)
 by_cases hlt:i<ds.length
 ·have hd:ds[i]?=some ds[i]:=by simp[hlt]
  have e1:ds.drop i=ds[i]::ds.drop (i+1):=Al hlt
  rw[e1] at w
  generalize ds[i]=d at hd e1 w
  obtain⟨go,yl⟩:=w1 d hd
  refine .inr ⟨go,λ σ' H'=>∃ st,Rel C.X.K Hc H₀ st σ' H'/\OkS C Hc H₀ E (Dv.forGoT tgt F (ds.drop (i+1)) st),λ σ' H' h=>⟨ds.length-(i+1),by omega,rfl,hlt,h⟩,λ x H' hy=>?_⟩
  obtain⟨Hv',x1,rp⟩:=yl x H' hy
  unfold Dv.forGoT at w
  cases ht:tgt d st with
  | none=>simp only[ht] at w; exact(show False from w).elim
  | some st1 =>
   simp only[ht] at w
   have x2:Ext Hd H (λ b=>match H b with|none=>H' b|some _=>Hd b) H':=by
    refine⟨x1.hh,λ b o q=>?_,λ b o q=>?_,λ b o q n=>?_,λ b q=>?_,x1.nf⟩
    ·show (match H b with|none=>H' b|some _=>Hd b)=some o
     cases z:H b with
     | none=>rw[r.ch b o q] at z; cases z
     | some _=>exact q
    ·have q':(match H b with|none=>H' b|some _=>Hd b)=some o:=q
     cases z:H b with
     | none=>rw[z] at q'; exact q'
     | some u=>rw[z] at q'; exact x1.hh _ _ (r.ch b o q')
    ·have q':(match H b with|none=>H' b|some _=>Hd b)=some o:=q
     cases z:H b with
     | none=>rfl
     | some u=>rw[z] at q'; rw[n] at q'; cases q'
    ·show (match H b with|none=>H' b|some _=>Hd b)=H' b
     rw[q]
   have r2:=r.growC x2
   have sub:Same Hv' (λ b=>match H b with|none=>H' b|some _=>Hd b):=λ b o q=>by
    show (match H b with|none=>H' b|some _=>Hd b)=some o
    cases z:H b with
    | none=>exact x1.vh b o q
    | some u =>
     cases z2:Hc b with
     | none=>have:=x1.new b o q z2; rw[z] at this; cases this
     | some u' =>
      have h1:=x1.vv b u' z2
      rw[q] at h1
      cases h1
      exact r.vc b o z2
   refine qg Hc H₀ _ _ H' σ st st1 d x _ r2 (rp.same sub) ht λ σ2 r3=>?_
   refine qb Hc H₀ _ σ2 H' st1 ⟨_,_,r3⟩ ?_
   cases hb:F st1 with
   | nx st'=>simp only[hb] at w; exact λ σ' H' r'=>⟨st',r',w⟩
   | cont st'=>simp only[hb] at w; exact λ σ' H' r'=>⟨st',r',w⟩
   | brk st'=>simp only[hb] at w; exact w
   | ret d nw=>simp only[hb] at w; exact w
   | exc c st'=>simp only[hb] at w; exact w
   | bad=>simp only[hb] at w; exact w
 ·have e:i=ds.length:=by omega
  refine .inl ⟨w2 e,?_⟩
  rw[e,BA] at w
  exact w σ H ⟨Hd,O,r⟩
theorem nA (is:List Nat){tg it:Expr}{body:List Stmt}{tgt:D->Dv.St->Option Dv.St}{fi:EI}(hi:SI C tg it fi)(hg:SG C tg tgt)(hb:SSs C body F)(hcalm:autoParam (C.X.calm=true) Au.h4._auto_1)
  (hs:autoParam (∀ x,foldedSetIterable it C.X.env x=pure x) Au.h3._auto_1):SSt C (.For tg it body [] pos) (Dv.sForT is tgt fi F):=by
 obtain⟨wi,pi,qi⟩:=hi
 obtain⟨g,pg,qg⟩:=hg
 obtain⟨tb,pb,qb⟩:=hb
 refine⟨_,sG C.own hcalm pi pg pb hs,λ Hv₀ H₀ E σ H st ⟨Hc0,O0,r0⟩ w=>?_⟩
 obtain⟨Hc,O,_,r⟩:=r0.give is
 unfold Dv.sForT at w
 refine qi σ H Hc (Dv.open_ (Dv.give is st)) _ r.envOpen r.ch ?_
 cases hf:fi (Dv.open_ (Dv.give is st)) with
 | bad=>simp only[hf] at w; exact w
 | exc c=>simp only[hf] at w; exact λ Hv' H' x=>w σ H' ⟨Hc0,O0,r0.grow x.hh x.nf⟩
 | ok ds fr =>
  simp only[hf] at w
  intro J Hc' H' x wl
  have r1:=r.growC x
  exact qW qg qb wl ⟨Hc',O,r1.self⟩ (w.less r1.vc r1.new)
theorem gC (x:Nat)(body:SS):∀ (ds:List D) (st:Dv.St),Dv.forGoT (λ d s=>some (s.set x (.sh d))) body ds st=Dv.forGo x body ds st
 | [],st=>rfl
 | d::r,st=>by
  unfold Dv.forGoT Dv.forGo
  cases h:body (st.set x (.sh d)) with
  | nx st'=>simp only[h]; exact gC x body r st'
  | cont st'=>simp only[h]; exact gC x body r st'
  | _=>simp only[h]
theorem bn (is:List Nat){i:Nat}{x:Str}{it:Expr}{body:List Stmt}{fi:EI}(hi:SI C (.Name x pos') it fi)(hb:SSs C body F)(hN:C.X.N.Nodup)(hn:C.X.N[i]?=some x)(hx:Loc C.X.env.scope x)
  (hf:autoParam (C.X.fn x=true\/C.X.env.scope.names.lookup x=some .local) Au.h1._auto_1) (hs:autoParam (∀ x,foldedSetIterable it C.X.env x=pure x) Au.h3._auto_1) (hcalm:autoParam (C.X.calm=true) Au.h4._auto_1) :
  SSt C (.For (.Name x pos') it body [] pos) (Dv.sFor is i fi F):=by
 obtain⟨t,p,q⟩:=nA (pos:=pos) is hi (ng (pos:=pos') hN hn hx hf) hb hcalm hs
 refine⟨t,p,λ Hv₀ H₀ E σ H st r w=>q Hv₀ H₀ E σ H st r ?_⟩
 unfold Dv.sForT
 unfold Dv.sFor at w
 cases hf:fi (Dv.open_ (Dv.give is st)) with
 | bad=>simp only[hf] at w ⊢; exact w
 | exc c=>simp only[hf] at w ⊢; exact w
 | ok ds fr=>simp only[hf] at w ⊢; rw[gC]; exact w
theorem ip (n:Nat){body:List Stmt}(hc:SC C c f)(hb:SSs C body F):SSt C (.While c body [] pos) (Dv.sWhile n f F):=by
 obtain⟨tc,pc,qc⟩:=hc
 obtain⟨tb,pb,qb⟩:=hb
 refine⟨_,qH C.own pc pb,λ Hv₀ H₀ E σ H st r w=>?_⟩
 refine⟨λ m σ H=>∃ st,Rel C.X.K Hv₀ H₀ st σ H/\OkS C Hv₀ H₀ E (Dv.whileGo f F m st),⟨n,st,r,w⟩,?_⟩
 rintro m σ H ⟨st,⟨Hc,O,r⟩,w⟩
 cases m with
 | zero=>exact(show False from w).elim
 | succ m =>
  unfold Dv.whileGo at w
  refine qc σ H (ed Hc O H) (Dv.all st) _ r.envAll r.allH ?_
  cases hf:f (Dv.all st) with
  | bad=>simp only[hf] at w; exact w
  | exc c=>simp only[hf] at w; exact λ Hv' H' x=>w σ H' ⟨Hc,O,r.grow x.hh x.nf⟩
  | ok d fr =>
   intro v Hv' H' x rp nn
   cases d with
   | bl b =>
    unfold Rp at rp
    refine⟨b,rp,?_⟩
    cases b with
    | true =>
     simp only[hf] at w
     refine sf ⟨λ σ' H'=>∃ st,Rel C.X.K Hv₀ H₀ st σ' H'/\OkS C Hv₀ H₀ E (Dv.whileGo f F m st),λ σ' H' h=>⟨m,Av m,h⟩,?_⟩
     refine qb Hv₀ H₀ _ σ H' st ⟨Hc,O,r.grow x.hh x.nf⟩ ?_
     cases hb:F st with
     | nx st'=>simp only[hb] at w; exact λ σ' H' r'=>⟨st',r',w⟩
     | cont st'=>simp only[hb] at w; exact λ σ' H' r'=>⟨st',r',w⟩
     | brk st'=>simp only[hb] at w; exact w
     | ret d nw=>simp only[hb] at w; exact w
     | exc c st'=>simp only[hb] at w; exact w
     | bad=>simp only[hb] at w; exact w
    | false =>
     simp only[hf] at w
     exact qQ (w σ H' ⟨Hc,O,r.grow x.hh x.nf⟩)
   | _=>simp only[hf] at w; exact(show False from w).elim
noncomputable def spD (K:PySem.W.Frag)(cls:String->Value)(F:List D->R)(n:Nat):Sp:=λ vs H Q E=>∃ ds Hv,ds.length=n/\Same Hv H/\RpL K Hv ds vs/\Ok K Hv H E cls (F ds) Q
theorem nJ {K:PySem.W.Frag}{cls:String->Value}{F:List D->R}{n:Nat}{vs:List V}{H:Hp}{Q:VK}{E:XK}(h:spD K cls F n vs H Q E):vs.length=n:=by
 obtain⟨ds,Hv,h1,_,h2,_⟩:=h
 rw[h2.length,h1]
theorem oE {N:List Str}{vs:List V}{i:Nat}{v:V}(h:vs[i]?=some v):(L2.start N vs)[i]?=some (some v):=by
 have hl:i<vs.length:=(List.getElem?_eq_some_iff.mp h).1
 unfold L2.start
 rw[zF (by simpa using hl),zi,h]
 rfl
theorem i5 {K:PySem.W.Frag}{Hv H:Hp}{ds:List D}{vs:List V}{N:List Str}(s:Same Hv H)(rp:RpL K Hv ds vs)(hN:ds.length<=N.length) :
  RelC K Hv H Hv (λ _ _=>none) (ds.map Sl.sh++List.replicate (N.length-ds.length) Sl.no) (L2.start N vs) H:=by
 have hl:=rp.length
 have get:∀ {i:Nat} {x:Sl},(ds.map Sl.sh++List.replicate (N.length-ds.length) Sl.no)[i]?=some x->(∃ d,x=.sh d/\ds[i]?=some d)\/x=.no:=λ {i x} h=>by
  by_cases hi:i<ds.length
  ·rw[zF (by simpa using hi),zi] at h
   cases q:ds[i]? with
   | none=>rw[q] at h; cases h
   | some d=>rw[q] at h; cases h; exact .inl ⟨d,rfl,rfl⟩
  ·rw[Ai (by simpa using hi),zP] at h
   split at h
   ·cases h; exact .inr rfl
   ·cases h
 refine⟨.refl _,.refl _,s,λ b o h n=>(by rw[n] at h; cases h),λ b o u h=>(by rw[h]; intro z; cases z),?_,λ i d h=>?_,λ i d h=>?_,λ i d h=>?_,λ i n m h=>?_,(λ i b o h=>nomatch h),(λ i j b o o' h=>nomatch h)⟩
 ·unfold L2.start
  simp only[za,yP,zA]
  omega
 ·rcases get h with ⟨d',e,h2⟩|e
  ·cases e
   obtain⟨v,h3,h4⟩:=rp.get h2
   exact⟨v,oE h3,h4⟩
  ·cases e
 ·rcases get h with ⟨d',e,_⟩|e <;>cases e
 ·rcases get h with ⟨d',e,_⟩|e <;>cases e
 ·rcases get h with ⟨d',e,_⟩|e <;>cases e
theorem rN {Hv H:Hp}{ds:List D}{Q:VK}{W:XK}{n:Nat}{body:SS}(hW:C.W=λ _=>W)(h:Ok C.X.K Hv H W C.cls (Dv.fn n body ds) Q) :
  OkS C Hv H { nx:=λ _ H'=>Q .non H',rt:=Q } (body (ds.map Sl.sh++List.replicate (n-ds.length) Sl.no)):=by
 unfold Dv.fn at h
 have ext:∀ {st σ' H'},Rel C.X.K Hv H st σ' H'->∃ Hv2,Ext Hv H Hv2 H':=λ {st σ' H'} ⟨Hc,O,r⟩=>by
  obtain⟨Hv2,x,_⟩:=r.ret (.refl r.allH)
  exact⟨Hv2,x⟩
 cases hb:body (ds.map Sl.sh++List.replicate (n-ds.length) Sl.no) with
 | nx st =>
  simp only[hb] at h
  intro σ' H' r
  obtain⟨Hv2,x⟩:=ext r
  exact h .non Hv2 H' x qF λ _=>qF
 | ret d nw=>simp only[hb] at h; exact λ v Hv' H' x rp nn=>h v Hv' H' x rp nn
 | brk st=>simp only[hb] at h; exact(show False from h).elim
 | cont st=>simp only[hb] at h; exact(show False from h).elim
 | exc c st =>
  simp only[hb] at h
  intro σ' H' r
  obtain⟨Hv2,x⟩:=ext r
  rw[hW]
  exact h Hv2 H' x
 | bad=>simp only[hb] at h; exact(show False from h).elim
end
structure CXok (P:Program)(w:World)(CX:CXT):Prop where
 no:∀ (outer:List PySem.Env) (H:Hp) (s:Shared) (e:Value) (s':Shared),CX outer H s (λ _ _ _=>False) e s'->False
 leave:∀ (K:PySem.W.Frag) (mg:Str->Option Value) (base:Heap) (N:List Str) (qual:Str) (scope:Scope) (f:Addr) (cd:Value) (A:Around) (outer:List PySem.Env) (s:Shared) (H:Hp) (E:XK)
  (pins:List (Addr × Obj)) (σ:St) (H1:Hp) (s1:Shared) (e:Value) (s':Shared),Inv (cB CX P w K mg base N qual scope f cd A outer s H E) pins σ H1 s1 ->
  CX (cB CX P w K mg base N qual scope f cd A outer s H E).stack H1 s1 E e s'->(cB CX P w K mg base N qual scope f cd A outer s H E).xe e s'
section
variable {P:Program}{w:World}{K:PySem.W.Frag}{mg:Str->Option Value}{base:Heap}{CX:CXT}
noncomputable def lh {P:Program}{w:World}(hC:CXok P w CX)(cls:String->Value)(K:PySem.W.Frag)(mg:Str->Option Value)(base:Heap)(N:List Str)(qual:Str)(scope:Scope)(f:Addr)(cd:Value)(A:Around)(outer:List PySem.Env)(s:Shared)(H:Hp)(E:XK)
  {k:Nat} (hr:Room k (A.deeper (envOfC qual scope s.heap.objs.size f cd))):Ctx where
 X:=cB CX P w K mg base N qual scope f cd A outer s H E
 W:=λ _=>E
 cls:=cls
 CX:=CX
 un:=hr.units
 own:=PassesOwn.leaving
 pass:=λ pins σ H1 s1 e s' I h=>hC.leave K mg base N qual scope f cd A outer s H E pins σ H1 s1 e s' I h
 cxF:=hC.no
theorem w9 (hC:CXok P w CX)(cls:String->Value){x qual:Str}{st:Stmt}{f:Addr}{N ps:List Str}{k:Nat}{body:SS}(oc:Value)(od:Option Addr)(dV kV doc pm:Value)(an:Option Addr)(cdv ct:Value)(osl:Array (Option Value))
  (lk:K.lookup f=some ⟨oc,od,.func (PySem.W.fnOf x qual (bQ st) (bi st) (ai st) dV kV doc pm an cdv ct),osl⟩) (hcd:PySem.W.codeIn K cdv qual=true) (S:FnScope N ps (ai st))
  (hbody:∀ (A:Around) (outer:List PySem.Env) (s:Shared) (H:Hp) (E:XK) (hr:Room k (A.deeper (envOfC qual (ai st) s.heap.objs.size f cdv))),
   SSs (lh hC cls K mg base N qual (ai st) f cdv A outer s H E hr) (bi st) body) :
  FnOk P w K mg base CX (k+1) f (PySem.W.fnOf x qual (bQ st) (bi st) (ai st) dV kV doc pm an cdv ct) ps (spD K cls (Dv.fn N.length body) ps.length):=by
 refine uW lk hcd S (λ vs H Q E h=>nJ h) λ A outer s H vs Q E hr h=>?_
 obtain⟨ds,Hv,hl,sv,rp,ok⟩:=h
 obtain⟨t,p,q⟩:=hbody A outer s H E hr
 have hpl:ps.length<=N.length:=by
  have:=congrArg List.length S.pre
  rw[zE] at this
  omega
 exact⟨t,p,q Hv H _ (L2.start N vs) H _ ⟨Hv,_,i5 sv rp (by omega)⟩ (rN (C:=lh hC cls K mg base N qual (ai st) f cdv A outer s H E hr) rfl ok)⟩
end
section
variable {C:Ctx}{a b c e o:Expr}{es:List Expr}{f g h:EE}{fl:EL}{F G:SS}{pos pos':Pos}{E:Ends}
theorem rh {X:Cx}{CX:CXT}{W:St->XK}{k:Nat}{fa:Addr}{fd:FuncData}{ps:List Str}{sp:Sp}{dvs:List V}{ds:List Value}{x:Str}{p:Pos}{t:TA}(Fn:FnOk X.prog X.w X.K X.mg X.base CX k fa fd ps sp)(hr:Room k X.A)(hg:Gl X x)(hm:X.mg x=some (.ref fa))(hk:PySem.W.keepIn X.K (.ref fa)=true)
  (hb:Binds X.K fd ps ds) (hd:Vals dvs ds) (hx:∀ (pins:List (Addr × Obj)) (σ:St) (H:Hp) (s:Shared) (e:Value) (s':Shared),Inv X pins σ H s->CX X.stack H s (W σ) e s'->X.xe e s')
  (ha:PA X (e::es) t) (hdb:(x == ("__debug__":Str))=false) (he:starEach (e::es) X.env=(false,eval e X.env)::starEach es X.env) (hpl:(backTo pos (starEach es X.env)).any (·.1)=false) :
  PE X (.Call (.Name x p) (e::es) [] pos) (λ σ H Q=>t σ H λ vs H1=>sp (vs++dvs) H1 Q (W σ)):=by
 intro pins s σ H Q I h
 refine wpAny_Call_Name_kw (gv I hg hm ?_ hdb)
 refine PySem.W.callWith_K (h₀:=X.base) I.ok.mod.kin hk (thn (ha pos pins s σ H _ I h) λ us s1 ⟨vs,H1,I1,r,q⟩=>⟨I1.kIn,?_⟩) he hpl
 have r2:Vals (vs++dvs) (us++ds):=r.append hd
 have hl:(us++ds).length=ps.length:=by rw[<- r2.length]; exact Fn.len _ _ _ _ q
 refine wpAny_call (codeAny_mono (Fn.run X.A X.stack s1 H1 ⟨us,[]⟩ (us++ds) (vs++dvs) Q (W σ) hr I1.env0 (hb s1 us I1.kIn hl) r2 q) λ rr s' hq=>?_)
 cases rr with
 | error e=>exact hx pins σ H1 s1 e s' I1 hq
 | ok fl =>
  cases fl with
  | ret u=>exact I1.after hq
  | next=>exact False.elim hq
  | brk=>exact False.elim hq
  | cont=>exact False.elim hq
theorem ui {k j:Nat}{fa:Addr}{fd:FuncData}{ps:List Str}{Fm:List D->R}{dds:List D}{dvs:List V}{dus:List Value}{x:Str}{p:Pos}(Fn:FnOk C.X.prog C.X.w C.X.K C.X.mg C.X.base C.CX j fa fd ps (spD C.X.K C.cls Fm ps.length))(hr:Room k C.X.A)(hj:j<=k)
  (hg:Gl C.X x) (hm:C.X.mg x=some (.ref fa)) (hk:PySem.W.keepIn C.X.K (.ref fa)=true) (hb:Binds C.X.K fd ps dus) (hd:Vals dvs dus) (hdd:∀ K H,RpL K H dds dvs) (ha:SL C (e::es) fl) (hlen:autoParam ((e::es).length+dds.length=ps.length) Au.h4._auto_1)
  (hdb:autoParam ((x == ("__debug__":Str))=false) Au.h2._auto_1) (he:autoParam (starEach (e::es) C.X.env=(false,eval e C.X.env)::starEach es C.X.env) Au.h4._auto_1) (hpl:autoParam ((backTo pos (starEach es C.X.env)).any (·.1)=false) Au.h4._auto_1) :
  SE C (.Call (.Name x p) (e::es) [] pos) (Dv.eCall (λ ds=>Fm (ds++dds)) fl):=by
 obtain⟨t,pa,qa,hl⟩:=ha
 refine⟨_,rh (W:=C.W) (Fn.mono hj) hr hg hm hk hb hd C.pass pa hdb he hpl,λ σ H Hv ρ Q er s w=>?_⟩
 refine qa.step er (.refl s) w λ vs ds fr Hv1 H1 hf x1 _ rp _ w1=>?_
 refine⟨ds++dds,Hv1,?_,x1.vh,rp.append (hdd _ _),Ok.later x1 w1⟩
 rw[za,hl ρ ds fr hf]; exact hlen
noncomputable def bP (X:Cx)(N:List Str)(scope:Scope)(cl:List (Str × Addr))(L:Addr)(s₀:Shared)(H₀:Hp)(ex:List Addr):Cx :=
 { X with N:=N,s₀:=s₀,H₀:=H₀,env:=compEnvC scope cl L X.env,outer:=X.stack,ex:=ex,fn:=λ _=>false,pn:=[],xe:=λ _ _=>False }
noncomputable def br (C:Ctx)(N:List Str)(scope:Scope)(cl:List (Str × Addr))(L:Addr)(s₀:Shared)(H₀:Hp)(ex:List Addr):Ctx where
 X:=bP C.X N scope cl L s₀ H₀ ex
 W:=λ _ _ _ _=>False
 cls:=C.cls
 CX:=C.CX
 un:=C.un
 own:=PassesOwn.never
 pass:=λ _ _ _ _ _ _ _ h=>C.cxF _ _ _ _ _ h
 cxF:=C.cxF
theorem eG {env:PySem.Env}:∀ (names:List (Str × NameKind)) (acc:List (Str × Addr)),(∀ y∈names,y.2=.free->∃ c,env.cells.lookup y.1=some c) ->
  ∃ cl,(forIn names acc λ (x:Str × NameKind) (cs:List (Str × Addr))=>(if (x.2 == .free)=true then do let a <- cellOf env x.1; pure (ForInStep.yield ((x.1,a)::cs)) else pure (ForInStep.yield cs):Sem (ForInStep (List (Str × Addr)))))=pure cl /\
   (∀ x c,cl.lookup x=some c->acc.lookup x=some c\/env.cells.lookup x=some c)/\(∀ y∈names,y.2=.free->∃ c,cl.lookup y.1=some c)/\(∀ x c,acc.lookup x=some c->∃ c',cl.lookup x=some c')
 | [],acc,_=>⟨acc,rfl,λ _ _ h=>.inl h,(λ _ h=>nomatch h),λ x c h=>⟨c,h⟩⟩
 | (n,k)::r,acc,h=>by
  simp only[List.forIn_cons]
  by_cases hk:(k == NameKind.free)=true
  ·obtain⟨c,hc⟩:=h (n,k) yR (by simpa using hk)
   obtain⟨cl,e,h1,h2,h3⟩:=eG r ((n,c)::acc) λ y hy=>h y (yM _ hy)
   refine⟨cl,?_,λ x d hx=>?_,λ y hy hf=>?_,λ x d hx=>?_⟩
   ·simp only[hk,if_true]
    have e2:cellOf env n=pure c:=by unfold cellOf; rw[hc]
    rw[e2]
    exact e
   ·rcases h1 x d hx with q|q
    ·rw[zk] at q
     cases z:x == n with
     | true =>
      rw[z] at q
      have:x=n:=by simpa using z
      subst this
      cases q
      exact .inr hc
     | false=>rw[z] at q; exact .inl q
    ·exact .inr q
   ·rcases List.mem_cons.mp hy with rfl|hy
    ·exact h3 n c (by simp[zk])
    ·exact h2 y hy hf
   ·by_cases z:(x == n)=true
    ·exact h3 x c (by simp[zk,z])
    ·exact h3 x d (by rw[zk]; simp only[Bool.not_eq_true] at z; rw[z]; exact hx)
  ·obtain⟨cl,e,h1,h2,h3⟩:=eG r acc λ y hy=>h y (yM _ hy)
   refine⟨cl,?_,h1,λ y hy hf=>?_,h3⟩
   ·simp only[hk]
    exact e
   ·rcases List.mem_cons.mp hy with rfl|hy
    ·exact absurd (by simpa using hf) hk
    ·exact h2 y hy hf
theorem mf {env:PySem.Env}{scope:Scope}(h:∀ y∈scope.names,y.2=.free->∃ c,env.cells.lookup y.1=some c) :
  ∃ cl,closureFor scope env=pure cl/\(∀ x c,cl.lookup x=some c->env.cells.lookup x=some c)/\∀ y∈scope.names,y.2=.free->∃ c,cl.lookup y.1=some c:=by
 obtain⟨cl,e,h1,h2,_⟩:=eG scope.names [] h
 refine⟨cl,?_,λ x c hx=>?_,h2⟩
 ·unfold closureFor
  exact(congrArg (λ m:Sem (List (Str × Addr))=>m >>= λ s=>pure s) e).trans rfl
 ·rcases h1 x c hx with q|q
  ·simp at q
  ·exact q
end
theorem mr {prog:Program}{w:World}{A:Around}{T:Result->Shared->Prop}{s:Shared}{elt target iter:Expr}{ifs:List Expr}{scope:Scope}{pos:Pos}{it acc:Value}{env:PySem.Env}(J:Nat->Shared->Prop)
  (turn:∀ n s,J n s->wpAny (model prog w) A (pyNext it) (λ r s1=>match r with
   | none=>T (.ok .next) s1
   | some v=>wpAny (model prog w) A (letOwnedTupleGo target it v) (λ _ s2=>wpAny (model prog w) A (assign target env v) (λ _ s3 =>
     wpAny (model prog w) A (forIn ifs true λ c r=>if r=true then do let ok <- isTrue c env (eval c env); pure (ForInStep.yield ok) else pure (ForInStep.yield r)) (λ ok s4 =>
      if ok=true then wpAny (model prog w) A (eval elt env) (λ x s5=>wpAny (model prog w) A (call (.builtin "list.append") [acc,x]) (λ _ s6=>∃ m,m<n/\J m s6) (λ _ _=>False) s5) (λ _ _=>False) s4
      else ∃ m,m<n/\J m s4) (λ _ _=>False) s3) (λ _ _=>False) s2) (λ _ _=>False) s1) (λ _ _=>False) s)
  (n:Nat) (h:J n s):codeAny (model prog w) A (.compLoop (.ListComp elt [⟨target,iter,ifs,0⟩] scope pos) 0 it acc env) T s:=by
 refine codeAny_loop rfl J (λ n s hJ=>?_) n h
 show wpAny _ A ((compTurn (.ListComp elt [⟨target,iter,ifs,0⟩] scope pos) 0 it acc env).onRaise (λ x=>do noteFrame x env; theTreesLotGoes x)) _ _ s
 refine wpAny_noted ?_
 rw[compTurn_list]
 refine wpAny_bind (wpAny_standAt (wpAny_bind (wpAny_mono (turn n s hJ) (λ r s1 h1=>?_) λ _ _ z=>z.elim)))
 cases r with
 | none=>exact wpAny_pure h1
 | some v =>
  refine wpAny_bind (wpAny_mono h1 (λ _ s2 h2=>wpAny_bind (wpAny_mono h2 (λ _ s3 h3=>wpAny_bind (wpAny_mono h3 (λ ok s4 h4=>?_) λ _ _ z=>z.elim)) λ _ _ z=>z.elim)) λ _ _ z=>z.elim)
  cases ok with
  | false=>exact wpAny_pure ⟨rfl,h4⟩
  | true =>
   refine wpAny_bind (wpAny_bind (wpAny_mono h4 (λ x s5 h5=>wpAny_bind (wpAny_mono h5 (λ _ s6 h6=>?_) λ _ _ z=>z.elim)) λ _ _ z=>z.elim))
   exact wpAny_pure (wpAny_pure ⟨rfl,h6⟩)
theorem fB {env:PySem.Env}:∀ {names:List (Str × NameKind)} {x:Str},names.lookup x=some .free ->
  (names.map λ (n,k)=>if (k == NameKind.free&&env.scope.kind == .function&&env.kindOf n == some .cell) then (n,NameKind.cell) else (n,k)).lookup x=some .cell \/
  (names.map λ (n,k)=>if (k == NameKind.free&&env.scope.kind == .function&&env.kindOf n == some .cell) then (n,NameKind.cell) else (n,k)).lookup x=some .free
 | [],_,h=>by simp at h
 | (n,k)::r,x,h=>by
  have ih:=@fB env r x
  simp only[yH]
  cases hx:x == n with
  | true =>
   simp only[zk,hx] at h
   cases h
   by_cases hc:(NameKind.free == NameKind.free&&env.scope.kind == .function&&env.kindOf n == some .cell)=true
   ·rw[if_pos hc]; left; simp[zk,hx]
   ·rw[if_neg hc]; right; simp[zk,hx]
  | false =>
   simp only[zk,hx] at h
   by_cases hc:(k == NameKind.free&&env.scope.kind == .function&&env.kindOf n == some .cell)=true
   ·rw[if_pos hc]; simp only[zk,hx]; exact ih h
   ·rw[if_neg hc]; simp only[zk,hx]; exact ih h
theorem eK {env:PySem.Env}:∀ {names:List (Str × NameKind)} {x:Str} {kd:NameKind},(∀ y∈names,y.2≠.cell)->kd=.cell\/kd=.free ->
  (names.map λ (n,k)=>if (k == NameKind.free&&env.scope.kind == .function&&env.kindOf n == some .cell) then (n,NameKind.cell) else (n,k)).lookup x=some kd->(x,NameKind.free)∈names
 | [],_,_,_,_,h=>by simp at h
 | (n,k)::r,x,kd,nc,hk,h=>by
  have ih:=@eK env r x kd (λ y hy=>nc y (yM _ hy)) hk
  simp only[yH] at h
  cases hx:x == n with
  | true =>
   have e:x=n:=by simpa using hx
   subst e
   by_cases hc:(k == NameKind.free&&env.scope.kind == .function&&env.kindOf x == some .cell)=true
   ·have:k=.free:=by
     simp only[yN,beq_iff_eq] at hc
     exact hc.1.1
    subst this
    exact yR
   ·rw[if_neg hc] at h
    simp only[zk,hx] at h
    have e2:k=kd:=by simpa using h
    subst e2
    rcases hk with rfl|rfl
    ·exact absurd rfl (nc (x,.cell) yR)
    ·exact yR
  | false =>
   refine yM _ (ih ?_)
   by_cases hc:(k == NameKind.free&&env.scope.kind == .function&&env.kindOf n == some .cell)=true
   ·rw[if_pos hc] at h; simp only[zk,hx] at h; exact h
   ·rw[if_neg hc] at h; simp only[zk,hx] at h; exact h
structure CompNames (X:Cx)(scope:Scope)(x:Str)(fs:List Str)(is:List Nat):Prop where
 kind:scope.kind=.function
 cell:∀ y∈scope.names,y.2≠.cell
 names:∀ y∈scope.names,y.2=.local->scope.names.lookup y.1=some .local
 tgt:scope.names.lookup x=some .local
 nd:(x::fs).Nodup
 free:∀ y∈scope.names,y.2=.free->X.env.kindOf y.1=some .cell\/X.env.kindOf y.1=some .free
 fsf:∀ y∈fs,scope.names.lookup y=some .free
 len:is.length=fs.length
 at':∀ (j:Nat) (y:Str),fs[j]?=some y->∃ i,is[j]?=some i/\X.N[i]?=some y
theorem eO {α β:Type}[BEq α][LawfulBEq α]:∀ {l:List (α × β)} {x:α} {y:β},l.lookup x=some y->(x,y)∈l
 | [],_,_,h=>by simp at h
 | (a,b)::r,x,y,h=>by
  rw[zk] at h
  cases hx:x == a with
  | true =>
   rw[hx] at h
   have e:x=a:=by simpa using hx
   subst e
   cases h
   exact yR
  | false=>rw[hx] at h; exact yM _ (eO h)
noncomputable def STs (C:Ctx)(ifs:List Expr)(f:EE):Prop :=
 ∃ t:TT,(∀ (pins:List (Addr × Obj)) (s:Shared) (σ:St) (H:Hp) (Q:Bool->Hp->Prop),Inv C.X pins σ H s->t σ H Q ->
  wpAny (model C.X.prog C.X.w) C.X.A (forIn ifs true λ c r=>if r=true then do let ok <- isTrue c C.X.env (eval c C.X.env); pure (ForInStep.yield ok) else pure (ForInStep.yield r)) (TP C.X pins σ Q) C.X.xe s)/\TakC C t f
theorem cD {C:Ctx}:STs C [] (Dv.eBl true) :=
 ⟨λ _ H Q=>Q true H,λ pins s σ H Q I h=>wpAny_tests_nil ⟨H,I,h⟩,λ σ H Hv ρ Q e s q=>by
  obtain⟨b,e1,q⟩:=q.now (v:=.bl true) s cI rfl
  cases e1
  exact q⟩
theorem dq {C:Ctx}{c:Expr}{f:EE}(h:SC C c f):STs C [c] f:=by
 obtain⟨t,p,q⟩:=h
 exact⟨t,λ pins s σ H Q I h=>wpAny_tests_one (p pins s σ H Q I h),q⟩
theorem fW {P:Program}{w:World}{H:Hp}{h:Heap}{a:Addr}{o:HO}(x:HOk P w H h)(hn:H a=none)(new:ObjOk P w (upd H a o) h a o):HOk P w (upd H a o) h:=λ b u e=>by
 by_cases hb:b=a
 ·subst hb; rw[aD] at e; cases e; exact new
 ·rw[ar hb] at e
  exact(x b u e).stay (λ c v _ q=>q) (λ c q=>by rw[ar (ax q hn)]; exact q) λ c xs q=>by rw[ar (ax q hn)]; exact q
theorem um {P:Program}{w:World}{H:Hp}{h h':Heap}{a:Addr}(x:HOk P w H h)(hn:H a=none)(k:∀ b o,b≠a->h.get? b=some o->h'.get? b=some o):HOk P w H h':=λ b u e=>by
 refine(x b u e).stay (λ c v hc q=>k c v ?_ q) (λ c q=>q) λ c xs q=>q
 rcases hc with rfl|hc
 ·exact ax e hn
 ·exact ax hc hn
section
variable {C:Ctx}
theorem qE {ρ:Dv.Env}{is:List Nat}{j:Nat}{d:D}(h:(Dv.pick ρ is)[j]?=some (some d)):∃ i,is[j]?=some i/\ρ[i]?=some (some d):=by
 unfold Dv.pick at h
 rw[zi] at h
 cases q:is[j]? with
 | none=>rw[q] at h; cases h
 | some i =>
  rw[q] at h
  have h':(ρ[i]?).getD none=some d:=Option.some.inj h
  refine⟨i,rfl,?_⟩
  cases z:ρ[i]? with
  | none=>rw[z] at h'; cases h'
  | some o=>rw[z] at h'; exact congrArg some h'
noncomputable def cj (σ:St)(is:List Nat):St:=is.map λ i=>(σ[i]?).getD none
theorem oO {σ:St}{is:List Nat}{j i:Nat}{v:V}(hi:is[j]?=some i)(h:σ[i]?=some (some v)):(cj σ is)[j]?=some (some v):=by
 unfold cj
 rw[zi,hi]
 show some ((σ[i]?).getD none)=_
 rw[h]
 rfl
theorem rK {σ:St}{is:List Nat}{j:Nat}{v:V}(h:(cj σ is)[j]?=some (some v)):∃ i,is[j]?=some i/\σ[i]?=some (some v):=by
 unfold cj at h
 rw[zi] at h
 cases q:is[j]? with
 | none=>rw[q] at h; cases h
 | some i =>
  rw[q] at h
  have h':(σ[i]?).getD none=some v:=Option.some.inj h
  refine⟨i,rfl,?_⟩
  cases z:σ[i]? with
  | none=>rw[z] at h'; cases h'
  | some o=>rw[z] at h'; exact congrArg some h'
theorem qw {K:PySem.W.Frag}{Hv:Hp}{ρ:Dv.Env}{σ:St}{is:List Nat}{d:D}{v:V}(e:EnvR K Hv ρ σ)(r:Rp K Hv d v):EnvR K Hv (some d::Dv.pick ρ is) (some v::cj σ is):=λ j x h=>by
 cases j with
 | zero=>cases h; exact⟨v,rfl,r⟩
 | succ j =>
  obtain⟨i,h1,h2⟩:=qE (show (Dv.pick ρ is)[j]?=some (some x) from h)
  obtain⟨u,h3,h4⟩:=e i x h2
  exact⟨u,oO h1 h3,h4⟩
theorem nV {X:Cx}{pins:List (Addr × Obj)}{σ:St}{H1:Hp}{s2:Shared}{scope:Scope}{x:Str}{fs:List Str}{is:List Nat}{cl:List (Str × Addr)}{fp:List Addr}{L:Addr}(I:Inv X pins σ H1 s2)(S:CompNames X scope x fs is)
  (clsub:∀ x c,cl.lookup x=some c->X.env.cells.lookup x=some c) (clhas:∀ y∈scope.names,y.2=.free->∃ c,cl.lookup y.1=some c) (f2:∀ b∈fp,ig X pins H1 b) (fin:∀ b∈fp,b<s2.heap.objs.size) (hL:s2.heap.objs.size<=L) :
  (bP X (x::fs) scope cl L s2 H1 fp).Ok:=by
 refine⟨I.ok.mod,S.kind,I.ok.glob,I.ok.blt,hL,λ y z c h1 h2=>I.ok.inj y z c (clsub y c h1) (clsub z c h2),λ y hy=>?_,λ y c h=>(by cases h),I.ok.hd,I.ok.frames,.inl rfl,λ b hb=>⟨?_,λ y c h=>?_⟩,I.bs,zK I.ok.bsz I.sz,λ b o e hb=>?_,λ b hb hf=>?_,I.stack,I.stkFree⟩
 ·have:(y,NameKind.free)∈scope.names:=by
   rcases hy with hy|hy
   ·exact eK (env:=X.env) S.cell (.inl rfl) hy
   ·exact eK (env:=X.env) S.cell (.inr rfl) hy
  exact clhas _ this rfl
 ·exact zb (zg (fin b hb) hL)
 ·exact(f2 b hb).2.2.2.2.1 y c (clsub y c h)
 ·obtain⟨_,_,_,h4,_⟩:=f2 b hb
  rcases h4 with h4|h4
  ·exact I.ok.noex b o e h4
  ·exact absurd (Heap.lt_size (I.ok.bs b o e).1) (Nat.not_lt.mpr h4)
 ·obtain⟨_,h2,h3,_⟩:=f2 b hb
  rcases List.mem_cons.mp (I.stkSub b hf) with e|e
  ·exact h2 e
  ·exact h3 e
theorem qo {X:Cx}{pins:List (Addr × Obj)}{σ:St}{H1:Hp}{s2:Shared}{scope:Scope}{x:Str}{fs:List Str}{is:List Nat}{cl:List (Str × Addr)}{fp:List Addr}{L:Addr}{h1:Heap}{t1:Nat}{m:Str->Option Value}(I:Inv X pins σ H1 s2)(S:CompNames X scope x fs is)
  (clsub:∀ x c,cl.lookup x=some c->X.env.cells.lookup x=some c) (clhas:∀ y∈scope.names,y.2=.free->∃ c,cl.lookup y.1=some c) (f2:∀ b∈fp,ig X pins H1 b) (fin:∀ b∈fp,b<s2.heap.objs.size) (hL:s2.heap.objs.size<=L)
  (old:∀ b o,s2.heap.get? b=some o->h1.get? b=some o) (hn:h1.Ns L m):Inv (bP X (x::fs) scope cl L s2 H1 fp) [] (none::cj σ is) H1 { s2 with heap:=h1,toks:=t1 }:=by
 refine⟨nV I S clsub clhas f2 fin hL,rfl,I.bare,Un.kept old,⟨m,hn,λ i y v e1 e2 e3=>?_⟩,λ y c e=>?_,I.hok.fresh hL,λ y c e=>I.freeC y c (clsub y c e),λ p hp=>absurd (show p∈([]:List (Addr × Obj)) from hp) (by simp),I.hok.kept old,?_⟩
 ·cases i with
  | zero=>cases e2
  | succ j =>
   have e1':fs[j]?=some y:=e1
   obtain⟨i,h1',h2'⟩:=rK (show (cj σ is)[j]?=some (some v) from e2)
   obtain⟨i',h3,h4⟩:=S.at' j y e1'
   rw[h1'] at h3
   cases h3
   have hfr:=S.fsf y (zN e1')
   have hk:=S.free (y,.free) (eO hfr) rfl
   obtain⟨mm,hm,hl⟩:=I.loc
   have vis:Vis X.env.scope y:=by
    rcases hk with k|k
    ·exact .inr (.inl k)
    ·exact .inr (.inr k)
   obtain⟨u,r,l⟩:=hl i y v h4 h2' vis
   refine⟨u,r,?_⟩
   rcases l with ⟨k,_⟩|⟨_,c,hc,hcell⟩
   ·have k:X.env.kindOf y=some .local:=k
    rcases hk with k' | k' <;>rw[k] at k' <;>cases k'
   ·obtain⟨c',hc'⟩:=clhas (y,.free) (eO hfr) rfl
    have:=clsub y c' hc'
    rw[hc] at this
    cases this
    obtain⟨oc,hoc,hod⟩:=hcell
    refine .inr ⟨?_,c,hc',oc,old c oc hoc,hod⟩
    exact fB (env:=X.env) hfr
 ·obtain⟨v,oc,hoc,hod⟩:=I.cell y c (clsub y c e)
  exact⟨v,oc,old c oc hoc,hod⟩
 ·show (none::cj σ is).length=(x::fs).length
  rw[yJ,yJ]
  unfold cj
  rw[yP,S.len]
end
theorem oi {Hv1 H1 Hvn Hn Hv' H':Hp}(x:Ext Hv1 H1 Hvn Hn)(y:Ext Hv1 Hn Hv' H'):∃ Hvm,Ext Hvn Hn Hvm H'/\Same Hv' Hvm:=by
 refine⟨λ b=>match Hn b with|none=>H' b|some _=>Hvn b,⟨y.hh,λ b o q=>?_,λ b o q=>?_,λ b o q n=>?_,λ b q=>?_,y.nf⟩,λ b o q=>?_⟩
 ·show (match Hn b with|none=>H' b|some _=>Hvn b)=some o
  cases z:Hn b with
  | none=>rw[x.vh b o q] at z; cases z
  | some _=>exact q
 ·have q':(match Hn b with|none=>H' b|some _=>Hvn b)=some o:=q
  cases z:Hn b with
  | none=>rw[z] at q'; exact q'
  | some u=>rw[z] at q'; exact y.hh _ _ (x.vh b o q')
 ·have q':(match Hn b with|none=>H' b|some _=>Hvn b)=some o:=q
  cases z:Hn b with
  | none=>rfl
  | some u=>rw[z] at q'; rw[n] at q'; cases q'
 ·show (match Hn b with|none=>H' b|some _=>Hvn b)=H' b
  rw[q]
 ·show (match Hn b with|none=>H' b|some _=>Hvn b)=some o
  cases z:Hn b with
  | none=>exact y.vh b o q
  | some u =>
   cases z2:Hv1 b with
   | none=>have:=y.new b o q z2; rw[z] at this; cases this
   | some u' =>
    have h1:=y.vv b u' z2
    rw[q] at h1
    cases h1
    exact x.vv b o z2
section
variable {C:Ctx}{elt iter:Expr}{x:Str}{px pos:Pos}{ifs:List Expr}{scope:Scope}{fs:List Str}{is:List Nat}{fi:EI}{fe fc:EE}
theorem bT {H H':Hp}{b:Addr}{o:HO}(h:Hnew H H' b=some o):H b=none:=by
 unfold Hnew at h
 cases q:H b with
 | none=>rfl
 | some u=>rw[q] at h; cases h
noncomputable def nk (xs:List D):Prop:=∀ x∈xs,∃ r:List Int,x=.lst (r.map .int)
structure CompAtN (C:Ctx)(x:Str)(fs:List Str)(is:List Nat)(scope:Scope)(cl:List (Str × Addr))(L Da:Addr)(s2:Shared)(H1 Hv1:Hp)(fp:List Addr)(tn:Nat->Heap->Prop)(σ:St)(ds:List D)(i:Nat)(o:Option V)(vs:List V)(xs:List D)(f1:Bool)(Hn Hvn:Hp)(s:Shared):Prop where
 le:i<=ds.length
 inv:Inv (bP C.X (x::fs) scope cl L s2 H1 fp) [] (o::cj σ is) Hn s
 at_:tn i s.heap
 fpn:∀ b∈fp,Hn b=none
 obj:∃ (its:List Value) (ne:Nat),s.heap.get? Da=some { cls:=.type "list",data:=.seq its.toArray ne }/\Vals vs its
 dn:Hn Da=none
 few:vs.length<=i
 ext:Ext Hv1 H1 Hvn Hn
 rp:RpL C.X.K Hvn xs vs
 fr:f1=true->RpL [] (Hnew H1 Hn) xs vs
 nd:f1=true->nk xs->vs.Nodup
theorem pY {cl:List (Str × Addr)}{L Da:Addr}{s2:Shared}{H1:Hp}{fp:List Addr}{σ:St}{pins:List (Addr × Obj)}{its:List Value}{ne:Nat}{vs:List V}{Hn:Hp}{s1:Shared}{o:Option V}{h':Heap}
  (I2:Inv C.X pins σ H1 s2) (f2:∀ b∈fp,ig C.X pins H1 b) (eD:Da=s2.heap.objs.size) (eL:L=s2.heap.objs.size+1)
  (I:Inv (bP C.X (x::fs) scope cl L s2 H1 fp) [] (o::cj σ is) Hn s1) (obj:s1.heap.get? Da=some { cls:=.type "list",data:=.seq its.toArray ne }) (rv:Vals vs its) (dn:Hn Da=none) (few:vs.length<=sizeLine)
  (sb:∀ b,b≠L->h'.get? b=s1.heap.get? b):Inv C.X pins σ (upd Hn Da (.lst vs)) { s1 with heap:=h' }:=by
 have lt:∀ b o,s2.heap.get? b=some o->b≠Da/\b≠L:=λ b o e=>by
  have hlt:=Heap.lt_size e
  rw[eD,eL]
  exact⟨zb hlt,zb (AT hlt)⟩
 have hDL:Da≠L:=by rw[eD,eL]; exact zb (Av _)
 have kp:∀ b o,b≠L->s1.heap.get? b=some o->h'.get? b=some o:=λ b o hb e=>(sb b hb).trans e
 refine I2.call' (s':={ s1 with heap:=h' }) (ch:=fp) I.os ⟨λ b ob e n hb hx=>?_,λ b ob e n hb hx=>?_,λ b ob e n hx=>?_,λ b ob e hx=>?_,λ b us e=>?_,λ b ob u e=>?_,λ b ps e=>?_⟩ ?_ I.bare λ b hb=>⟨(f2 b hb).2.2.2.1,(f2 b hb).2.1,(f2 b hb).2.2.2.2.1,(f2 b hb).2.2.2.2.2⟩
 ·exact kp b ob (lt b ob e).2 (I.base.keep b ob e n hb hx)
 ·obtain⟨sl,h1⟩:=I.base.slot b ob e n hb hx
  exact⟨sl,kp b _ (lt b ob e).2 h1⟩
 ·rw[ar (lt b ob e).1]; exact I.base.free b ob e n hx
 ·obtain⟨o',h1⟩:=I.base.there b ob e hx
  exact⟨o',kp b _ (lt b ob e).2 h1⟩
 ·have h1:=I.base.tups b us e
  rw[ar (ax h1 dn)]; exact h1
 ·have h1:=I.base.frzs b ob u e
  rw[ar (ax h1 dn)]; exact h1
 ·obtain⟨more,h1⟩:=I.base.tbls b ps e
  exact⟨more,by rw[ar (ax h1 dn)]; exact h1⟩
 ·exact fW (um I.hok I.free kp) dn ⟨few,its,ne,rv,kp Da _ hDL obj⟩
theorem lj {elt cond:EE}{free:Dv.Env}{d:D}{r:List D}{xs:List D}{f:Bool}(h:Dv.compGo elt cond free (d::r)=.ok xs f) :
  (∃ g x fx xs' f',cond (some d::free)=.ok (.bl true) g/\elt (some d::free)=.ok x fx/\Dv.compGo elt cond free r=.ok xs' f'/\xs=x::xs'/\f=(fx&&f')) \/
  (∃ g,cond (some d::free)=.ok (.bl false) g/\Dv.compGo elt cond free r=.ok xs f):=by
 unfold Dv.compGo at h
 cases hc:cond (some d::free) with
 | bad=>simp only[hc] at h; cases h
 | exc c=>simp only[hc] at h; cases h
 | ok b g =>
  cases b with
  | bl b =>
   cases b with
   | true =>
    simp only[hc] at h
    cases he:elt (some d::free) with
    | bad=>simp only[he] at h; cases h
    | exc c=>simp only[he] at h; cases h
    | ok x fx =>
     simp only[he] at h
     cases hr:Dv.compGo elt cond free r with
     | bad=>simp only[hr] at h; cases h
     | exc c=>simp only[hr] at h; cases h
     | ok xs' f' =>
      simp only[hr] at h
      cases h
      exact .inl ⟨g,x,fx,xs',f',rfl,rfl,rfl,rfl,rfl⟩
   | false=>simp only[hc] at h; exact .inr ⟨g,rfl,h⟩
  | _=>simp only[hc] at h; cases h
noncomputable def gD (C:Ctx)(pins:List (Addr × Obj))(σ:St)(Q:VK)(Da L:Addr)(s5:Shared):Prop :=
 (∃ m,s5.heap.Ns L m)/\L≠C.X.env.locals/\(∀ x c,C.X.env.cells.lookup x=some c->c≠L)/\C.X.s₀.heap.objs.size<=L/\(∀ p∈C.X.pn++pins,p.1≠L) /\
  ∃ H',H' L=none/\Q (.ref Da) H'/\∀ h',(∀ b,b≠L->h'.get? b=s5.heap.get? b)->Inv C.X pins σ H' { s5 with heap:=h' }
theorem gZ {Kp:List D->Bool->Prop}{pins:List (Addr × Obj)}{s:Shared}{σ:St}{H Hv:Hp}{ρ:Dv.Env}{Q:VK}{use:Option (Value->Sem Unit)}{Q':Value->Shared->Prop}{pos':Pos}(hclm:C.X.calm=true)(S:CompNames C.X scope x fs is)(hi:SI C (.Name x px) iter fi)(he:∀ cl L s₀ H₀ ex,SE (br C (x::fs) scope cl L s₀ H₀ ex) elt fe)(hc:∀ cl L s₀ H₀ ex,STs (br C (x::fs) scope cl L s₀ H₀ ex) ifs fc)
  (hs:∀ v,foldedSetIterable iter C.X.env v=pure v) (I:Inv C.X pins σ H s) (er:EnvR C.X.K Hv ρ σ) (sv:Same Hv H) (ok:OkI C.X.K Hv H (C.W σ) C.cls (fi ρ) (λ J H1=>∃ Hv1 ds xs fr,Ext Hv H Hv1 H1/\Wlk C.X.K J Hv1 ds/\ds.length<=Dv.mx/\Dv.compGo fe fc (Dv.pick ρ is) ds=.ok xs fr/\Kp xs fr)) (hend:∀ {xs:List D} {fr:Bool} {vs:List V} {Hvn Hn:Hp},Kp xs fr->Ext Hv H Hvn Hn->RpL C.X.K Hvn xs vs->(fr=true->RpL [] (Hnew H Hn) xs vs)->(fr=true->nk xs->vs.Nodup)->∀ Da,Hn Da=none->Q (.ref Da) (upd Hn Da (.lst vs)))
  (hfin:∀ Da L s5,gD C pins σ Q Da L s5->compPost (model C.X.prog C.X.w) C.X.A C.X.xe use Q' (.ref Da) L (.ok .next) s5) :
  wpAny (model C.X.prog C.X.w) C.X.A (comprehension (.ListComp elt [⟨.Name x px,iter,ifs,0⟩] scope pos) scope C.X.env pos' (newList []) false (eval iter C.X.env) use) Q' C.X.xe s:=by
 obtain⟨wi,pi,qi⟩:=hi
 obtain⟨cl,hcl,clsub,clhas⟩:=mf (env:=C.X.env) (scope:=scope) λ y hy hf=>I.ok.has y.1 (S.free y hy hf)
 have h0:=qi σ H Hv ρ _ er sv ok
 refine wpAny_comprehension_free (use:=use) rfl hs hcl S.kind S.names (wpAny_mono (pi pins s σ H _ I h0) (λ v s1 h1=>wpAny_mono h1 (λ itv s2 h2=>?_) λ _ _ z=>z) λ _ _ z=>z)
 obtain⟨it,fp,tn,J,H1,rfl,I2,T,st2,f2,Hv1,ds,xs,fr,x1,wl,hz,hgo,okE⟩:=h2
 clear ok
 have fin:∀ b∈fp,b<s2.heap.objs.size:=λ b hb=>by
  obtain⟨o,e,_⟩:=T.obj 0 _ st2 b hb
  exact Heap.lt_size e
 refine wpAny_newObj_type (wpAny_newFunctionEnv S.cell (by intro y hy; simp at hy) (λ h1 hns hsb=>?_) S.kind)
 dsimp only at hns hsb ⊢
 generalize hH2:s2.heap.push { cls:=.type "list",dict:=none,data:=.seq ([]:List Value).toArray }=G2 at hns hsb ⊢
 have hL:G2.objs.size=s2.heap.objs.size+1:=by rw[<- hH2,Heap.size_push]
 generalize eL:G2.objs.size=L at hns hsb ⊢
 rw[eL] at hL
 have old:∀ b o,s2.heap.get? b=some o->h1.get? b=some o:=λ b o e=>by
  have hlt:=Heap.lt_size e
  exact hsb.extBut b o (by rw[hL]; exact zb (AT hlt)) (Heap.get?_push_of_some _ (hH2▸Heap.get?_push_of_some _ e))
 have hacc:h1.get? s2.heap.objs.size=some { cls:=.type "list",data:=.seq ([]:List Value).toArray 0 }:=hsb.extBut _ _ (by rw[hL]; exact zb (Av _)) (Heap.get?_push_of_some _ (hH2▸Heap.get?_push_size _ rfl))
 generalize eD:s2.heap.objs.size=Da at hacc hL ⊢
 have hDfp:Da∉fp:=λ hb=>by
  have:=fin Da hb
  rw[eD] at this
  exact zL _ this
 have hDL:Da≠L:=by rw[hL]; exact zb (Av _)
 have hsL:s2.heap.objs.size<=L:=by rw[hL,eD]; exact Bz _
 have hsD:s2.heap.objs.size<=Da:=BQ eD
 obtain⟨te,pe,qe⟩:=he cl L s2 H1 fp
 obtain⟨tt,pt,qt⟩:=hc cl L s2 H1 fp
 have hDfs:Da∉frs C.X.stack:=λ hb=>by
  obtain⟨_,ob,hob,_⟩:=I2.stack.mem hb
  have:=Heap.lt_size hob
  rw[eD] at this
  exact zL _ this
 have hcalm:(bP C.X (x::fs) scope cl L s2 H1 fp).calm=true:=hclm
 have start:CompAtN C x fs is scope cl L Da s2 H1 Hv1 fp tn σ ds 0 none [] [] true H1 Hv1 { s2 with heap:=h1,toks:=s2.toks+([]:List (Str × Value)).length } :=
  ⟨A6 _,qo I2 S clsub clhas f2 fin hsL old hns,T.keep 0 _ _ st2 λ b hb o e=>old b o e,λ b hb=>(f2 b hb).1,⟨[],0,hacc,.nil⟩,I2.hok.fresh hsD,y4 _,.refl x1.vh,.nil,λ _=>.nil,λ _ _=>List.nodup_nil⟩
 have loop:∀ (T0:Result->Shared->Prop) (s4:Shared),(∀ s',gD C pins σ Q Da L s'->T0 (.ok .next) s')->CompAtN C x fs is scope cl L Da s2 H1 Hv1 fp tn σ ds 0 none [] [] true H1 Hv1 s4 ->
   codeAny (model C.X.prog C.X.w) C.X.A (.compLoop (.ListComp elt [⟨.Name x px,iter,ifs,0⟩] scope pos) 0 (.ref it) (.ref Da) (compEnvC scope cl L C.X.env)) T0 s4:=by
  intro T0 s4 hT hst
  refine mr (λ n s=>∃ i o vs xs1 f1 xs2 fr2 Hn Hvn,n=ds.length-i/\CompAtN C x fs is scope cl L Da s2 H1 Hv1 fp tn σ ds i o vs xs1 f1 Hn Hvn s/\Dv.compGo fe fc (Dv.pick ρ is) (ds.drop i)=.ok xs2 fr2/\xs=xs1++xs2/\fr=(f1&&fr2)) ?_ ds.length ⟨0,none,[],[],true,xs,fr,H1,Hv1,rfl,hst,hgo,rfl,by simp⟩
  rintro n s ⟨i,o,vs,xs1,f1,xs2,fr2,Hn,Hvn,rfl,A,hg2,hxs,hfr⟩
  obtain⟨its,ne,hob,rv⟩:=A.obj
  have I1:Inv (bP C.X (x::fs) scope cl L s2 H1 fp) [(Da,{ cls:=.type "list",data:=.seq its.toArray ne })] (o::cj σ is) Hn s:=A.inv.pins_of λ p hp=>by
   have e:p=(Da,({ cls:=.type "list",data:=.seq its.toArray ne }:Obj)):=by simpa using hp
   subst e
   exact⟨hob,A.dn,hDL,hDfs,λ v z=>by cases z⟩
  have hfp:∀ Hx:Hp,(∀ b∈fp,Hx b=none)->∀ b∈fp,ig (bP C.X (x::fs) scope cl L s2 H1 fp) [(Da,{ cls:=.type "list",data:=.seq its.toArray ne })] Hx b:=λ Hx hx b hb=>by
   refine⟨hx b hb,?_,λ hf=>?_,.inl hb,λ y c e=>(f2 b hb).2.2.2.2.1 y c (clsub y c e),λ p hp=>?_⟩
   ·have:=fin b hb
    exact λ z=>by
     have z':b=L:=z
     rw[z'] at this
     exact absurd this (Nat.not_lt.mpr hsL)
   ·obtain⟨_,ob,hob',_⟩:=I2.stack.mem hf
    rcases List.mem_cons.mp (I2.stkSub b hf) with e|e
    ·exact(f2 b hb).2.1 e
    ·exact(f2 b hb).2.2.1 e
   ·have e:p=(Da,({ cls:=.type "list",data:=.seq its.toArray ne }:Obj)):=by simpa using (show p∈[]++[(Da,({ cls:=.type "list",data:=.seq its.toArray ne }:Obj))] from hp)
    subst e
    exact λ z=>hDfp (by rw[show Da=b from z]; exact hb)
  obtain⟨w1,w2⟩:=wl i Hn (A.ext.vv.trans A.ext.vh)
  by_cases hlt:i<ds.length
  ·have hd:ds[i]?=some ds[i]:=by simp[hlt]
   have e1:ds.drop i=ds[i]::ds.drop (i+1):=Al hlt
   rw[e1] at hg2
   generalize ds[i]=d at hd e1 hg2
   obtain⟨go,yl⟩:=w1 d hd
   refine wpAny_mono (T.item (bP C.X (x::fs) scope cl L s2 H1 fp) rfl rfl rfl hcalm i _ s _ Hn (λ _ _=>False) I1 (hfp Hn A.fpn) A.at_ go) (λ r s5 h5=>?_) λ _ _ z=>z
   obtain⟨u,rfl,h5⟩:=h5
   refine wpAny_mono h5 (λ _ s6 h6=>?_) λ _ _ z=>z
   obtain⟨xv,H6,I6,ru,y6,tn6,fr6⟩:=h6
   obtain⟨Hv6,x6,rp6⟩:=yl xv H6 y6
   obtain⟨Hvm,xm,sm⟩:=oi A.ext x6
   have I6p:=I6.pinned (fp:=fp) (hfp H6 fr6) (T.obj _ _ tn6)
   have dn6:H6 Da=none:=(I6.pin (Da,{ cls:=.type "list",data:=.seq its.toArray ne }) (ze _ (by simp))).2.1
   have hg:=jx (X:=bP C.X (x::fs) scope cl L s2 H1 fp) (pos:=px) (i:=0) (x:=x) S.nd rfl (.inl (lookup_relabel_local S.tgt)) (.inr (lookup_relabel_local S.tgt))
   refine wpAny_mono (hg _ s6 _ H6 xv u (λ σ' H'=>σ'=some xv::cj σ is/\H'=H6) I6p ru ⟨rfl,rfl⟩) (λ _ s7 h7=>?_) λ _ _ z=>z
   obtain⟨σ7,H7,I7,e7,e7'⟩:=h7
   subst e7 e7'
   have er7:EnvR C.X.K Hvm (some d::Dv.pick ρ is) (some xv::cj σ is):=qw (er.same ((x1.vv.trans A.ext.vv).trans xm.vv)) (rp6.same sm)
   have back:∀ {s':Shared} {H':Hp} {σ':St},Inv (bP C.X (x::fs) scope cl L s2 H1 fp) ([(Da,{ cls:=.type "list",data:=.seq its.toArray ne })]++iA fp s6.heap) σ' H' s'->tn (i+1) s'.heap/\(∀ b∈fp,H' b=none)/\s'.heap.get? Da=some { cls:=.type "list",data:=.seq its.toArray ne }/\H' Da=none:=λ {s' H' σ'} I'=>by
    refine⟨T.keep _ _ _ tn6 λ b hb o e=>(I'.pin (b,o) (ze _ (ze _ (dk hb e)))).1,λ b hb=>?_,?_,?_⟩
    ·obtain⟨o,e,_⟩:=T.obj _ _ tn6 b hb
     exact(I'.pin (b,o) (ze _ (ze _ (dk hb e)))).2.1
    ·exact(I'.pin (Da,{ cls:=.type "list",data:=.seq its.toArray ne }) (ze _ (zx _ (by simp)))).1
    ·exact(I'.pin (Da,{ cls:=.type "list",data:=.seq its.toArray ne }) (ze _ (zx _ (by simp)))).2.1
   rcases lj hg2 with ⟨g,xd,fx,xs',f',hcond,helt,hrest,exs,ef⟩|⟨g,hcond,hrest⟩
   ·-- the item is taken
    refine wpAny_mono (pt _ s7 _ H7 (λ b H'=>b=true/\∃ Hvq,Ext Hvm H7 Hvq H') I7 (qt _ H7 Hvm (some d::Dv.pick ρ is) _ er7 xm.vh ?_)) (λ okb s8 h8=>?_) λ _ _ z=>z
    ·rw[hcond]
     intro v Hv' H' xx rpb _
     unfold Rp at rpb
     exact⟨true,rpb,rfl,Hv',xx⟩
    obtain⟨H8,I8,rfl,Hv8,x8⟩:=h8
    rw[if_pos rfl]
    refine wpAny_mono (pe _ s8 _ H8 (λ v H'=>∃ Hv',Ext Hv8 H8 Hv' H'/\Rp C.X.K Hv' xd v/\(fx=true->Rp [] (Hnew H8 H') xd v)) I8 (qe _ H8 Hv8 (some d::Dv.pick ρ is) _ (er7.same x8.vv) x8.vh ?_)) (λ uv s9 h9=>?_) λ _ _ z=>z
    ·show Ok C.X.K Hv8 H8 _ C.cls (fe (some d::Dv.pick ρ is)) _
     rw[helt]
     exact λ v Hv' H' xx rpb nn=>⟨Hv',xx,rpb,nn⟩
    obtain⟨v9,H9,I9,r9,Hv9,x9,rp9,n9⟩:=h9
    obtain⟨tn9,fpn9,ob9,dn9⟩:=back I9
    have hlen:=rv.length
    refine call_meets F.slot_list_append ⟨_,ob9,rfl⟩ F.entry_list_append (F.args_list_append_2 _ _) (PySem.list_append Da its.toArray ne uv (by rw[yY]; have:=A.few; have:=cL hz; omega)) ⟨ob9,?_⟩
    refine⟨ds.length-(i+1),by omega,i+1,some xv,vs++[v9],xs1++[xd],f1&&fx,xs',f',H9,Hv9,rfl,⟨hlt,?_,?_,fpn9,?_,dn9,?_,?_,?_,?_,?_⟩,hrest,by rw[hxs,exs]; simp,by rw[hfr,ef,Bool.and_assoc]⟩
    ·have I9':Inv (bP C.X (x::fs) scope cl L s2 H1 fp) [] (some xv::cj σ is) H9 s9:=I9.pins_of λ p hp=>absurd hp (by simp)
     exact I9'.turned (it:=Da) (λ b ob hb e=>(Heap.get?_update_other _ _ (Ne.symm hb)).trans e) dn9 hDL (.inr hsD) (λ y c e z=>by
      obtain⟨w',oc,hoc,_⟩:=I2.cell y c (clsub y c e)
      have:=Heap.lt_size hoc
      rw[z] at this
      exact absurd this (Nat.not_lt.mpr hsD)) (λ p hp=>absurd (show p∈([]:List (Addr × Obj)) from hp) (by simp))
    ·exact T.keep _ _ _ tn9 λ b hb ob e=>(Heap.get?_update_other _ _ (λ z=>hDfp (by rw[z]; exact hb))).trans e
    ·have q:=PySem.IsL.update ob9 (λ a=>a.push uv)
     exact⟨its++[uv],_,by simpa using q,rv.append (.cons r9 .nil)⟩
    ·rw[za,Aa]; have:=A.few; omega
    ·exact A.ext.trans (xm.trans (x8.trans x9))
    ·exact(A.rp.same ((xm.vv.trans x8.vv).trans x9.vv)).append (.cons rp9 .nil)
    ·intro z
     rw[yN] at z
     refine((A.fr z.1).same (Hnew.mono (.refl _) ((xm.hh.trans x8.hh).trans x9.hh))).append (.cons ((n9 z.2).same (Hnew.mono ((A.ext.hh.trans xm.hh).trans x8.hh) (.refl _))) .nil)
    ·intro z hri
     rw[yN] at z
     have nd1:=A.nd z.1 λ y hy=>hri y (zx _ hy)
     obtain⟨r9,hr9⟩:=hri xd (by simp)
     have q9:=n9 z.2
     rw[hr9] at q9
     refine List.nodup_append.mpr ⟨nd1,by simp,λ a ha b hb e=>?_⟩
     rw[Ao] at hb
     subst hb e
     unfold Rp at q9
     obtain⟨p9,ws9,e9,h9a,_⟩:=q9
     have h9b:H8 p9=none:=by
      rcases h9a with (h|⟨u,h⟩)|⟨_,_,e,_⟩
      ·exact bT h
      ·exact bT h
      ·simp at e
     obtain⟨j,hj,hja⟩:=Bc ha
     have hrl:=A.fr z.1
     have hlen2:=hrl.length
     have hjx:xs1[j]?=some (xs1[j]'(by omega)):=by simp
     obtain⟨v',hv1,hv2⟩:=hrl.get hjx
     have hv3:vs[j]?=some a:=by rw[zf hj,hja]
     rw[hv3] at hv1
     cases hv1
     obtain⟨rj,hrj⟩:=hri (xs1[j]'(by omega)) (by simp)
     rw[hrj,e9] at hv2
     unfold Rp at hv2
     obtain⟨pj,wsj,ej,hja2,_⟩:=hv2
     cases ej
     have hHn:Hn p9≠none:=by
      rcases hja2 with (h|⟨u,h⟩)|⟨_,_,e,_⟩
      ·have:=Hnew.sub _ _ h; rw[this]; exact λ q=>nomatch q
      ·have:=Hnew.sub _ _ h; rw[this]; exact λ q=>nomatch q
      ·simp at e
     cases hq:Hn p9 with
     | none=>exact hHn hq
     | some o =>
      have:=(xm.hh.trans x8.hh) _ _ hq
      rw[h9b] at this
      cases this
   ·-- the item is left out
    refine wpAny_mono (pt _ s7 _ H7 (λ b H'=>b=false/\∃ Hvq,Ext Hvm H7 Hvq H') I7 (qt _ H7 Hvm (some d::Dv.pick ρ is) _ er7 xm.vh ?_)) (λ okb s8 h8=>?_) λ _ _ z=>z
    ·rw[hcond]
     intro v Hv' H' xx rpb _
     unfold Rp at rpb
     exact⟨false,rpb,rfl,Hv',xx⟩
    obtain⟨H8,I8,rfl,Hv8,x8⟩:=h8
    rw[if_neg zn]
    obtain⟨tn8,fpn8,ob8,dn8⟩:=back I8
    refine⟨ds.length-(i+1),by omega,i+1,some xv,vs,xs1,f1,xs2,fr2,H8,Hv8,rfl,⟨hlt,I8.pins_of λ p hp=>absurd hp (by simp),tn8,fpn8,⟨its,ne,ob8,rv⟩,dn8,Nat.le_succ_of_le A.few,A.ext.trans (xm.trans x8),A.rp.same (xm.vv.trans x8.vv),λ z=>(A.fr z).same (Hnew.mono (.refl _) (xm.hh.trans x8.hh)),A.nd⟩,hrest,hxs,hfr⟩
  ·have ei:i=ds.length:=Nat.le_antisymm A.le (by omega)
   refine wpAny_mono (T.done (bP C.X (x::fs) scope cl L s2 H1 fp) rfl rfl rfl hcalm i _ s _ Hn (λ _ _=>False) I1 (hfp Hn A.fpn) A.at_ (w2 ei)) (λ r s5 h5=>?_) λ _ _ z=>z
   obtain⟨rfl,I5⟩:=h5
   refine hT s5 ?_
   obtain⟨m5,hn5,_⟩:=I5.loc
   rw[ei,BA] at hg2
   cases hg2
   rw[zz] at hxs
   rw[yQ] at hfr
   subst hxs hfr
   have ob5:=(I5.pin (Da,{ cls:=.type "list",data:=.seq its.toArray ne }) (ze _ (by simp))).1
   refine⟨⟨m5,hn5⟩,λ z=>absurd I2.lt (by rw[<- z]; exact Nat.not_lt.mpr hsL),λ y c e z=>?_,zK I2.sz hsL,λ p hp z=>?_,upd Hn Da (.lst vs),?_,?_,λ h' sb=>?_⟩
   ·obtain⟨w',oc,hoc,_⟩:=I2.cell y c e
    exact absurd (Heap.lt_size hoc) (by rw[z]; exact Nat.not_lt.mpr hsL)
   ·exact absurd (Heap.lt_size (I2.pin p hp).1) (by rw[z]; exact Nat.not_lt.mpr hsL)
   ·rw[ar (Ne.symm hDL)]; exact A.inv.free
   ·exact hend okE (x1.trans A.ext) A.rp (λ z=>(A.fr z).same (Hnew.mono x1.hh (.refl _))) A.nd Da A.dn
   ·exact pY I2 f2 eD.symm (by rw[hL,eD]) (I5.pins_of λ p hp=>absurd hp (by simp)) ob5 rv A.dn (by have:=A.few; have:=A.le; have:=cL hz; omega) sb
 refine codeAny_compStart_list (loop _ _ (λ s' h=>hfin Da L s' h) start) ?_
 exact T.self _ 0 _ _ _ start.at_ (loop _ _ (λ s' h=>hfin Da L s' h) start)
theorem jt {pins:List (Addr × Obj)}{s:Shared}{σ:St}{H Hv:Hp}{ρ:Dv.Env}{Q:VK}{use:Option (Value->Sem Unit)}{Q':Value->Shared->Prop}{pos':Pos}(hclm:C.X.calm=true)(S:CompNames C.X scope x fs is)(hi:SI C (.Name x px) iter fi)(he:∀ cl L s₀ H₀ ex,SE (br C (x::fs) scope cl L s₀ H₀ ex) elt fe)(hc:∀ cl L s₀ H₀ ex,STs (br C (x::fs) scope cl L s₀ H₀ ex) ifs fc)
  (hs:∀ v,foldedSetIterable iter C.X.env v=pure v) (I:Inv C.X pins σ H s) (er:EnvR C.X.K Hv ρ σ) (sv:Same Hv H) (ok:Ok C.X.K Hv H (C.W σ) C.cls (Dv.eComp fe fc is fi ρ) Q)
  (hfin:∀ Da L s5,gD C pins σ Q Da L s5->compPost (model C.X.prog C.X.w) C.X.A C.X.xe use Q' (.ref Da) L (.ok .next) s5) :
  wpAny (model C.X.prog C.X.w) C.X.A (comprehension (.ListComp elt [⟨.Name x px,iter,ifs,0⟩] scope pos) scope C.X.env pos' (newList []) false (eval iter C.X.env) use) Q' C.X.xe s:=by
 refine gZ (Kp:=λ xs fr=>Ok C.X.K Hv H (C.W σ) C.cls (.ok (.lst xs) fr) Q) hclm S hi he hc hs I er sv ?_ (λ k x r n _ Da hd=>Ok.newL k x r n Da hd) hfin
 unfold Dv.eComp at ok
 cases hf:fi ρ with
 | bad=>simp only[hf] at ok; exact ok
 | exc c=>simp only[hf] at ok; exact ok
 | ok ds g =>
  simp only[hf] at ok
  by_cases hz:ds.length<=Dv.mx
  ·simp only[hz,if_true] at ok
   cases hgo:Dv.compGo fe fc (Dv.pick ρ is) ds with
   | bad=>simp only[hgo] at ok; exact(show False from ok).elim
   | exc c=>simp only[hgo] at ok; exact(show False from ok).elim
   | ok xs fr =>
    simp only[hgo] at ok
    exact λ J Hv1 H1 x1 wl=>⟨Hv1,ds,xs,fr,x1,wl,hz,hgo,ok⟩
  ·simp only[hz,if_false] at ok
   exact(show False from ok).elim
theorem bg (S:CompNames C.X scope x fs is)(hi:SI C (.Name x px) iter fi)(he:∀ cl L s₀ H₀ ex,SE (br C (x::fs) scope cl L s₀ H₀ ex) elt fe)(hc:∀ cl L s₀ H₀ ex,STs (br C (x::fs) scope cl L s₀ H₀ ex) ifs fc)
  (hs:autoParam (∀ v,foldedSetIterable iter C.X.env v=pure v) Au.h3._auto_1) (hclm:autoParam (C.X.calm=true) Au.h4._auto_1):SE C (.ListComp elt [⟨.Name x px,iter,ifs,0⟩] scope pos) (Dv.eComp fe fc is fi):=by
 refine⟨λ σ H Q=>∃ Hv ρ,EnvR C.X.K Hv ρ σ/\Same Hv H/\Ok C.X.K Hv H (C.W σ) C.cls (Dv.eComp fe fc is fi ρ) Q,?_,λ σ H Hv ρ Q e s q=>⟨Hv,ρ,e,s,q⟩⟩
 intro pins s σ H Q I ⟨Hv,ρ,er,sv,ok⟩
 rw[eval_ListComp]
 refine jt (use:=none) hclm S hi he hc hs I er sv ok λ Da L s5 h=>?_
 obtain⟨⟨m,hn⟩,_,_,_,_,H',hL,q,iv⟩:=h
 exact⟨m,hn,λ h' sb=>⟨.ref Da,H',iv h' λ b hb=>sb.2 b hb,rfl,q⟩⟩
theorem mB {i:Nat}{y:Str}{py spos:Pos}(S:CompNames C.X scope x fs is)(hi:SI C (.Name x px) iter fi)(he:∀ cl L s₀ H₀ ex,SE (br C (x::fs) scope cl L s₀ H₀ ex) elt fe)(hc:∀ cl L s₀ H₀ ex,STs (br C (x::fs) scope cl L s₀ H₀ ex) ifs fc)
  (hN:C.X.N.Nodup) (hy:C.X.N[i]?=some y) (hl:C.X.env.scope.names.lookup y=some .local) (hsw:swapsWith (.ListComp elt [⟨.Name x px,iter,ifs,0⟩] scope pos) (some (.Name y py)) spos.line C.X.env=pure true) (hs:∀ v,foldedSetIterable iter C.X.env v=pure v) (hclm:C.X.calm=true) :
  PS C.X (.Assign [.Name y py] (.ListComp elt [⟨.Name x px,iter,ifs,0⟩] scope pos) spos) (λ E σ H=>∃ Hv ρ,EnvR C.X.K Hv ρ σ/\Same Hv H/\Ok C.X.K Hv H (C.W σ) C.cls (Dv.eComp fe fc is fi ρ) λ v H'=>E.nx (σ.set i (some v)) H'):=by
 intro pins s σ H E I ⟨Hv,ρ,er,sv,ok⟩
 rw[exec_Assign_Name_used _ _ _ _ hsw]
 refine wpAny_bind (wpAny_standAt (wpAny_bind ?_))
 show wpAny _ _ (do let _ <- comprehension (.ListComp elt [⟨.Name x px,iter,ifs,0⟩] scope pos) scope C.X.env _ (newList []) false (eval iter C.X.env) (some (assign (.Name y py) C.X.env))) _ _ s
 refine wpAny_bind (wpAny_mono (jt (use:=some (assign (.Name y py) C.X.env)) (Q':=λ _ s'=>∃ σ' H',Inv C.X pins σ' H' s'/\E.nx σ' H') hclm S hi he hc hs I er sv ok λ Da L s5 h=>?_) (λ _ s' hq=>wpAny_pure (wpAny_pure hq)) λ _ _ e=>e)
 obtain⟨⟨m,hn⟩,h1,h2,h3,h4,H',hL,q,iv⟩:=h
 have I5:Inv C.X pins σ H' s5:=iv s5.heap λ b _=>rfl
 show wpAny _ _ (assign (.Name y py) C.X.env (.ref Da)) _ _ s5
 refine wpAny_assign_Name (fX (v:=.ref Da) I5 hN hy (.inl hl) rfl (λ s6 I6 ⟨a,sb,ha⟩=>?_) (.inr hl))
 have hLa:L≠a:=by
  rcases ha with rfl|ha
  ·exact h1
  ·exact λ z=>h2 y a ha z.symm
 refine⟨m,hn.sameBut sb hLa,λ h' sb'=>⟨_,H',?_,q⟩⟩
 exact I6.turned (t':=s6.toks) (it:=L) (λ b o hb e=>(sb'.2 b hb).trans e) hL h1 (.inr h3) h2 h4
theorem mv {i:Nat}{y:Str}{py spos:Pos}(S:CompNames C.X scope x fs is)(hi:SI C (.Name x px) iter fi)(he:∀ cl L s₀ H₀ ex,SE (br C (x::fs) scope cl L s₀ H₀ ex) elt fe)(hc:∀ cl L s₀ H₀ ex,STs (br C (x::fs) scope cl L s₀ H₀ ex) ifs fc)
  (hN:C.X.N.Nodup) (hy:C.X.N[i]?=some y) (hl:C.X.env.scope.names.lookup y=some .local) (hsw:autoParam (swapsWith (.ListComp elt [⟨.Name x px,iter,ifs,0⟩] scope pos) (some (.Name y py)) spos.line C.X.env=pure true) Au.h4._auto_1) (hs:autoParam (∀ v,foldedSetIterable iter C.X.env v=pure v) Au.h3._auto_1) (hclm:autoParam (C.X.calm=true) Au.h4._auto_1) :
  SSt C (.Assign [.Name y py] (.ListComp elt [⟨.Name x px,iter,ifs,0⟩] scope pos) spos) (Dv.sSet i (Dv.eComp fe fc is fi)) :=
 ⟨_,mB S hi he hc hN hy hl hsw hs hclm,λ Hv₀ H₀ E σ H st r w=>mO (f:=Dv.eComp fe fc is fi) (t:=λ σ H Q=>∃ Hv ρ,EnvR C.X.K Hv ρ σ/\Same Hv H/\Ok C.X.K Hv H (C.W σ) C.cls (Dv.eComp fe fc is fi ρ) Q) (λ σ H Hv ρ Q e s q=>⟨Hv,ρ,e,s,q⟩) i r w⟩
end
section
variable {C:Ctx}{a b c e o k:Expr}{es:List Expr}{f g h:EE}{fl:EL}{F G:SS}{pos pos':Pos}{E:Ends}
theorem nF (n d:Nat)(o:Option Int):Dv.cutI n d o=HT.sIx n d o:=by cases o <;>rfl
theorem RpL.drop {K:PySem.W.Frag}{H:Hp}:∀ {ds:List D} {vs:List V} (n:Nat),RpL K H ds vs->RpL K H (ds.drop n) (vs.drop n)
 | _,_,0,h=>h
 | [],_,n+1,h=>by unfold RpL at h; subst h; exact .nil
 | d::r,vs,n+1,h=>by
  unfold RpL at h
  obtain⟨v,ws,rfl,_,h3⟩:=h
  exact RpL.drop n h3
theorem RpL.take {K:PySem.W.Frag}{H:Hp}:∀ {ds:List D} {vs:List V} (n:Nat),RpL K H ds vs->RpL K H (ds.take n) (vs.take n)
 | _,_,0,_=>.nil
 | [],_,n+1,h=>by unfold RpL at h; subst h; exact .nil
 | d::r,vs,n+1,h=>by
  unfold RpL at h
  obtain⟨v,ws,rfl,h2,h3⟩:=h
  exact .cons h2 (RpL.take n h3)
theorem RpL.cut {K:PySem.W.Frag}{H:Hp}{ds:List D}{vs:List V}(h:RpL K H ds vs)(lo hi:Option Int):RpL K H (Dv.cutL ds lo hi) (oC vs lo hi):=by
 unfold Dv.cutL oC
 rw[h.length,nF,nF]
 exact(h.drop _).take _
noncomputable def SO (C:Ctx)(e:Option Expr)(f:Option EE):Prop :=
 ∃ t:TO,PO C.X e t/\∀ σ H Hv ρ (Q:VK) (T:Option Int->Hp->Prop) (k:Option Int->R) Hv1 H1,EnvR C.X.K Hv ρ σ->Ext Hv H Hv1 H1->Ok C.X.K Hv H (C.W σ) C.cls (Dv.ePart f ρ k) Q ->
  (∀ i Hv2 H2,Ext Hv H Hv2 H2->Ext Hv1 H1 Hv2 H2->Ok C.X.K Hv H (C.W σ) C.cls (k i) Q->T i H2)->t σ H1 T
theorem cb:SO C none none:=⟨_,tI,λ σ H Hv ρ Q T k Hv1 H1 e x q n=>n none Hv1 H1 x (.refl x.vh) q⟩
theorem cc (he:SE C e f):SO C (some e) (some f):=by
 obtain⟨t,p,q⟩:=he
 refine⟨_,tH p,λ σ H Hv ρ Q T k Hv1 H1 er x w n=>?_⟩
 refine Tak.step q er x w λ v d fr Hv2 H2 hf x2 y2 rp _ w2=>?_
 cases d with
 | int i =>
  unfold Rp at rp
  exact⟨i,rp,n (some i) Hv2 H2 x2 y2 w2⟩
 | _=>exact(show False from w2).elim
theorem bK {lo hi:Option Expr}{fl fh:Option EE}{p2:Pos}(he:SE C e f)(hl:SO C lo fl)(hh:SO C hi fh):SE C (.Subscript e (.Slice lo hi none p2) pos) (Dv.eSlice f fl fh):=by
 obtain⟨t,p,q⟩:=he
 obtain⟨tl,pl,ql⟩:=hl
 obtain⟨th,ph,qh⟩:=hh
 refine⟨_,pU tU p pl ph,λ σ H Hv ρ Q er s w=>?_⟩
 refine Tak.step q er (.refl s) w λ v d fr Hv1 H1 _ x1 _ rp1 n1 w1=>?_
 refine ql σ H Hv ρ Q _ _ Hv1 H1 er x1 w1 λ i Hv2 H2 x2 y2 w2=>?_
 refine qh σ H Hv ρ Q _ _ Hv2 H2 er x2 w2 λ j Hv3 H3 x3 y3 w3=>?_
 have y13:=y2.trans y3
 cases d with
 | lst ds =>
  cases fr with
  | true =>
   have rn:=(n1 rfl).same (Hnew.mono (.refl _) y13.hh)
   unfold Rp at rn
   obtain⟨l,vs,rfl,h1,h2⟩:=rn
   have h1':SqX C.X.K H3 l vs:=by
    rcases h1 with h1|⟨its,n,e,_⟩
    ·exact .inl (Rd.same Hnew.sub h1)
    ·simp at e
   exact⟨l,vs,rfl,h1'.seq,λ p hp=>Ok.newL (fr:=true || Dv.flatL (Dv.cutL ds i j)) w3 x3 (((RpL.frag h2).same x3.news).cut i j) (λ _=>h2.cut i j) p hp⟩
  | false =>
   have rp:=rp1.same y13.vv
   unfold Rp at rp
   obtain⟨l,vs,rfl,h1,h2⟩:=rp
   exact⟨l,vs,rfl,(h1.same x3.vh).seq,λ p hp=>Ok.newL (fr:=false || Dv.flatL (Dv.cutL ds i j)) w3 x3 (h2.cut i j) (λ z=>(h2.cut i j).flat (by simpa using z)) p hp⟩
 | _=>exact(show False from w3).elim
noncomputable def C2S (C:Ctx)(fv:Value)(F:D->D->R):Prop :=
 ∃ r,cM C.X fv r/\∀ x y d d' H Hv H1 Hv1 W Q,Ext Hv H Hv1 H1->Rp C.X.K Hv1 d x->Rp C.X.K Hv1 d' y->Ok C.X.K Hv H W C.cls (F d d') Q->r [x,y] H1 Q
theorem uZ {x:Str}{p:Pos}{id:String}{F:D->D->R}(hc:C2S C (.builtin id) F)(hg:Gl C.X x)(hm:C.X.mg x=none)(hv:bootBuiltins x=some (.builtin id))(ha:SE C a f)(hb:SE C b g)
  (hn:autoParam (x≠"__name__") Au.h2._auto_1) (hdb:autoParam ((x == ("__debug__":Str))=false) Au.h2._auto_1) (he:autoParam (starEach [a,b] C.X.env=(false,eval a C.X.env)::starEach [b] C.X.env) Au.h4._auto_1) (he2:autoParam (starEach [b] C.X.env=[(false,eval b C.X.env)]) Au.h4._auto_1):SE C (.Call (.Name x p) [a,b] [] pos) (Dv.eB2 F f g):=by
 obtain⟨r,ho,hr⟩:=hc
 obtain⟨t,pa,qa⟩:=ha
 obtain⟨u,pb,qb⟩:=hb
 refine⟨_,cZ ho hg hm hv (aG pa (aG pb bu he2) he) hn hdb he (by rw[he2]; rfl),λ σ H Hv ρ Q e s w=>?_⟩
 exact qa.step e (.refl s) w λ v d fr Hv1 H1 _ x1 _ rp1 _ q1=>qb.step e x1 q1 λ v2 d2 fr2 Hv2 H2 _ x2 y2 rp2 _ q2=>hr v v2 d d2 H Hv H2 Hv2 _ Q x2 (rp1.same y2.vv) rp2 q2
theorem wy (hcl:C.X.calm=true):C2S C (.builtin "max") Dv.max2D:=by
 refine⟨_,pK hcl,λ x y d d' H Hv H1 Hv1 W Q e rx ry q=>?_⟩
 cases d with
 | int i =>
  cases d' with
  | int j =>
   unfold Rp at rx ry
   subst rx ry
   exact⟨i,j,rfl,Ok.at (d:=.int (if j > i then j else i)) (fr:=true) q e bM rfl⟩
  | _=>exact(show False from q).elim
 | _=>exact(show False from q).elim
theorem wG (hcl:C.X.calm=true):C2S C (.builtin "min") Dv.min2D:=by
 refine⟨_,oq hcl,λ x y d d' H Hv H1 Hv1 W Q e rx ry q=>?_⟩
 cases d with
 | int i =>
  cases d' with
  | int j =>
   unfold Rp at rx ry
   subst rx ry
   exact⟨i,j,rfl,Ok.at (d:=.int (if j<i then j else i)) (fr:=true) q e bM rfl⟩
  | _=>exact(show False from q).elim
 | _=>exact(show False from q).elim
noncomputable def tyD:D->String
 | .non=>"NoneType"
 | .bl _=>"bool"
 | .int _=>"int"
 | .str _=>"str"
 | .lst _=>"list"
 | .tup _=>"tuple"
 | .exn _=>"BaseException"
 | .raw _=>"BaseException"
 | .tab _=>"BaseException"
 | .dct _ _=>"dict"
theorem rT {X:Cx}:cM X (.builtin "isinstance") (λ xs H Q=>∃ x d T b,xs=[x,.ty T]/\Rp X.K H d x/\Dv.noTy d=false/\PySem.W.kitOne X.K (.type (tyD d)) (.type T)=some b/\Q (.bl b) H):=by
 intro pins s σ H xs us Q I r h
 obtain⟨x,d,T,b,rfl,rp,hnx,hk,q⟩:=h
 obtain⟨u,w',rfl,ru,rw'⟩:=jm r
 have rw2:w'=Value.type T:=rw'
 subst rw2
 have fin:∀ tk,EP X pins σ Q (.bool b) { s with toks:=tk }:=λ tk=>⟨.bl b,H,I.tok tk,rfl,q⟩
 cases d with
 | non=>unfold Rp at rp; subst rp; cases ru; exact PySem.W.kia_one PySem.W.kitx_none I.kIn True.intro hk (λ z=>nomatch z) fin
 | bl y=>unfold Rp at rp; subst rp; cases ru; exact PySem.W.kia_one PySem.W.kitx_bool I.kIn True.intro hk (λ z=>nomatch z) fin
 | int i=>unfold Rp at rp; subst rp; obtain⟨t,rfl⟩:=ru; exact PySem.W.kia_one PySem.W.kitx_int I.kIn True.intro hk (λ z=>nomatch z) fin
 | str y=>unfold Rp at rp; subst rp; obtain⟨t,rfl⟩:=ru; exact PySem.W.kia_one PySem.W.kitx_str I.kIn True.intro hk (λ z=>nomatch z) fin
 | lst ds =>
  unfold Rp at rp
  obtain⟨l,vs,rfl,h1,h2⟩:=rp
  cases ru
  obtain⟨its,n,rv,e,_⟩:=Inv.listX I h1
  exact PySem.W.kia_one PySem.W.kitx_list I.kIn ⟨_,e,rfl⟩ hk (λ z=>nomatch z) fin
 | tup ds =>
  unfold Rp at rp
  obtain⟨l,vs,rfl,h1,h2⟩:=rp
  cases ru
  obtain⟨_,its,rv,ob,e,hc,n,hd⟩:=h1.ok I.hok
  exact PySem.W.kia_one PySem.W.kitx_tuple I.kIn ⟨ob,e,hc⟩ hk (λ z=>nomatch z) fin
 | exn c=>exact absurd hnx (by simp[Dv.noTy])
 | raw c=>exact absurd hnx (by simp[Dv.noTy])
 | tab c=>exact absurd hnx (by simp[Dv.noTy])
 | dct ks ds =>
  unfold Rp at rp
  obtain⟨l,vs,rfl,h0,h1,h2⟩:=rp
  cases ru
  exact PySem.W.kia_one PySem.W.kitx_dict I.kIn (wf I (.inl ⟨_,h1⟩)).1 hk (λ z=>nomatch z) fin
theorem wo {x:Str}{T:String}{p p2:Pos}{F:D->Bool->R}(β:D->Bool)(hF:∀ d fr,Dv.noTy d=false->F d fr=.ok (.bl (β d)) true)(hX:∀ d fr,Dv.noTy d=true->F d fr=.bad)(hβ:∀ K d,PySem.W.kitOne K (.type (tyD d)) (.type T)=some (β d))(hg:Gl C.X "isinstance")(hm:C.X.mg "isinstance"=none)(hgx:Gl C.X x)(hmx:C.X.mg x=none)
  (hvx:bootBuiltins x=some (.type T)) (ha:SE C a f) (hn:autoParam (x≠"__name__") Au.h2._auto_1) (hdb:autoParam ((x == ("__debug__":Str))=false) Au.h2._auto_1) (he:autoParam (starEach [a,.Name x p2] C.X.env=(false,eval a C.X.env)::starEach [.Name x p2] C.X.env) Au.h4._auto_1)
  (he2:autoParam (starEach [.Name x p2] C.X.env=[(false,eval (.Name x p2) C.X.env)]) Au.h4._auto_1):SE C (.Call (.Name "isinstance" p) [a,.Name x p2] [] pos) (Dv.eB1 F f):=by
 obtain⟨t,pa,qa⟩:=ha
 refine⟨_,cZ rT hg hm (by decide +kernel) (aG pa (aG (nL (v:=.ty T) hgx hmx hvx rfl hn hdb) bu he2) he) (by decide) (by decide) he (by rw[he2]; rfl),λ σ H Hv ρ Q e s w=>?_⟩
 refine qa.step e (.refl s) w λ v d fr Hv1 H1 _ x1 _ rp1 _ q1=>?_
 by_cases hd:Dv.noTy d=true
 ·rw[hX d fr hd] at q1
  exact q1.elim
 ·have hd':Dv.noTy d=false:=by simpa using hd
  rw[hF d fr hd'] at q1
  exact⟨v,d,T,β d,rfl,rp1.same x1.vh,hd',hβ _ d,q1.at x1 cI rfl⟩
noncomputable def vm:D->Bool
 | .lst _=>true
 | _=>false
theorem re (K:PySem.W.Frag)(d:D):PySem.W.kitOne K (.type (tyD d)) (.type "list")=some (vm d):=by cases d <;>rfl
theorem mD (d:D)(fr:Bool)(h:Dv.noTy d=false):Dv.isListD d fr=.ok (.bl (vm d)) true:=by cases d <;>first|rfl|exact absurd h (by simp[Dv.noTy])
theorem o8 {X:Cx}:xh X (λ x y H Q=>∃ p xs i v,x=.ref p/\y=.int i/\0<=i/\SqL X.K H p xs/\atI xs i=some v/\Q v H):=by
 intro pins s σ H o i ov iv Q I ro ri h
 obtain⟨p,xs,k,v,rfl,rfl,h0,hq,he,q⟩:=h
 cases ro
 obtain⟨t,rfl⟩:=ri
 obtain⟨its,r,pl,hz⟩:=I.list hq
 obtain⟨j,h1,h2,h3,h4,h5⟩:=gk he
 obtain⟨w,ew,rw'⟩:=r.get h2
 have hn:=ir
 have hj:k.toNat=j:=by
  rw[seqIndex_of h0 h5] at h1
  exact Option.some.inj h1
 exact wpAny_getItem_list pl.isList h0 (by omega) (by rw[hj]; simpa using ew) ⟨v,H,I,rw',q⟩
theorem md {i:Nat}{x:Str}{px kpos:Pos}(he:SE C e f)(hk:SE C k g)(hN:autoParam (C.X.N[i]?=some x) Au.h4._auto_1)(hv:autoParam (Vis C.X.env.scope x) Au.h7._auto_1)
    (hd:autoParam ((x == ("__debug__":Str))=false) Au.h2._auto_1) (hcd:autoParam ((x == ("__classdict__":Str))=false) Au.h2._auto_1)
    (ha:autoParam (∀ v,assign (.Subscript (.Name x px) k kpos) C.X.env v=(do
      let ov <- holding [v] (eval (.Name x px) C.X.env)
      let iv <- holding [v,ov] (eval k C.X.env)
      standAt kpos
      holding [v,ov,iv] (setItem ov iv v)
      release [v,ov,iv] [])) Au.h3._auto_1)
    (hs:autoParam (swapsWithSole [.Subscript (.Name x px) k kpos] e pos.line C.X.env=pure false) Au.h4._auto_1) (hw:autoParam (swappedStores [.Subscript (.Name x px) k kpos] e C.X.env=pure none) Au.h4._auto_1)
    (h1:autoParam ((assignEach [.Subscript (.Name x px) k kpos] C.X.env).map (·.2)=[assign (.Subscript (.Name x px) k kpos) C.X.env]) Au.h4._auto_1):SSt C (.Assign [.Subscript (.Name x px) k kpos] e pos) (Dv.sPut i g f):=by
  obtain⟨t,p,q⟩:=he
  obtain⟨t2,p2,q2⟩:=hk
  refine⟨_,fH p (mF (bH hN hv hd hcd) p2 fb ha) hs hw h1,λ Hv₀ H₀ E σ H st ⟨Hc,O,r⟩ w=>?_⟩
  unfold Dv.sPut at w
  cases hi:st[i]? with
  | none=>rw[hi] at w; exact(show False from w).elim
  | some s =>
    rw[hi] at w
    cases s with
    | no=>exact(show False from w).elim
    | sh d=>exact(show False from w).elim
    | dp d=>exact(show False from w).elim
    | jk n m=>exact(show False from w).elim
    | ow d0 =>
     cases d0 with
     | non=>exact(show False from w).elim
     | bl _=>exact(show False from w).elim
     | int _=>exact(show False from w).elim
     | str _=>exact(show False from w).elim
     | tup _=>exact(show False from w).elim
     | exn _=>exact(show False from w).elim
     | raw _=>exact(show False from w).elim
     | tab _=>exact(show False from w).elim
     | dct _ _=>exact(show False from w).elim
     | lst ds =>
      obtain⟨a,vs,h1,h2,h5⟩:=r.own hi
      refine q.all r (λ c hf H' r'=>?_) (λ hf=>?_) λ d fr v Hv' H' hf x r' rp n=>?_
      · simp only[hf] at w; exact w σ H' ⟨Hc,O,r'⟩
      · simp only[hf] at w; exact w
      · simp only[hf] at w
        refine⟨_,h1,?_⟩
        refine q2.all r' (λ c hg H2 r2=>?_) (λ hg=>?_) λ d2 fr2 v2 Hv2 H2 hg x2 r2 rp2 n2=>?_
        · simp only[hg] at w; exact w σ H2 ⟨Hc,O,r2⟩
        · simp only[hg] at w; exact w
        · simp only[hg] at w
          cases d2 with
          | int j =>
            unfold Rp at rp2
            by_cases z:(Dv.scal d&&decide (0<=j)&&decide (j<ds.length))=true
            · simp only[z,if_true] at w
              simp only[yN,decide_eq_true_eq] at z
              have hl:=h5.length
              obtain⟨O',r3⟩:=r2.put hi h1 (h5.set (rp.scal z.1.1) j.toNat)
              refine⟨a,vs,j,j.toNat,rfl,rp2,x2.hh _ _ (x.hh _ _ h2),?_,w σ _ ⟨Hc,O',r3⟩⟩
              unfold ixN
              rw[if_pos z.1.2,if_pos (by rw[hl]; exact z.2)]
            · simp only[z] at w
              exact(show False from w).elim
          | _=>exact(show False from w).elim
noncomputable def SGs (C:Ctx)(ts:List Expr)(xs:List Nat):Prop :=
 ∃ t:TGs,PGs C.X ts t/\∀ Hv₀ H₀ Hc O H σ s ds vs T,RelC C.X.K Hv₀ H₀ Hc O s σ H->RpL C.X.K Hc ds vs->ds.length=xs.length->(∀ σ',RelC C.X.K Hv₀ H₀ Hc O (Dv.setAll xs ds s) σ' H->T σ' H)->t vs σ H T
theorem il:SGs C [] []:=⟨_,ux,λ Hv₀ H₀ Hc O H σ s ds vs T r rp hl h=>by
 cases ds with
 | nil=>unfold RpL at rp; exact⟨rp,h σ r⟩
 | cons d ds=>cases hl⟩
theorem bE {i:Nat}{x:Str}{ts:List Expr}{xs:List Nat}(hs:SGs C ts xs)(hN:C.X.N.Nodup)(hi:C.X.N[i]?=some x)(hx:Loc C.X.env.scope x)(hf:autoParam (C.X.fn x=true\/C.X.env.scope.names.lookup x=some .local) Au.h1._auto_1)
  (ha:autoParam ((assignEach (.Name x pos::ts) C.X.env).map (·.2)=assign (.Name x pos) C.X.env::(assignEach ts C.X.env).map (·.2)) Au.h4._auto_1):SGs C (.Name x pos::ts) (i::xs):=by
 obtain⟨t,p,q⟩:=hs
 refine⟨_,rW (jx hN hi hx hf) p ha,λ Hv₀ H₀ Hc O H σ s ds vs T r rp hl h=>?_⟩
 cases ds with
 | nil=>cases hl
 | cons d ds =>
  unfold RpL at rp
  obtain⟨v,ws,rfl,h1,h2⟩:=rp
  exact⟨v,ws,rfl,q Hv₀ H₀ Hc O H _ _ ds ws T (r.setSh h1) h2 (by simpa using hl) h⟩
theorem jj (is:List Nat){ts:List Expr}{xs:List Nat}{kt:Nat}{tpos:Pos}(he:SE C e f)(hg:SGs C ts xs)(hl:ts.length=xs.length)(hn:autoParam ((assignEach ts C.X.env).length=ts.length) Au.h4._auto_1)(hst:autoParam ((assignEach ts C.X.env).findIdx? (·.1)=none) Au.h4._auto_1)
  (hs:autoParam (swapsWithSole [.Tuple ts kt tpos] e pos.line C.X.env=pure false) Au.h4._auto_1) (hw:autoParam (swappedStores [.Tuple ts kt tpos] e C.X.env=pure none) Au.h4._auto_1) (h1:autoParam ((assignEach [.Tuple ts kt tpos] C.X.env).map (·.2)=[assign (.Tuple ts kt tpos) C.X.env]) Au.h4._auto_1) (hcl:autoParam (C.X.calm=true) Au.h4._auto_1) :
  SSt C (.Assign [.Tuple ts kt tpos] e pos) (Dv.sUnpack is xs f):=by
 obtain⟨t,p,q⟩:=he
 obtain⟨g,pg,qg⟩:=hg
 refine⟨_,fH p (sg hcl pg hn hst) hs hw h1,λ Hv₀ H₀ E σ H st ⟨Hc0,O0,r0⟩ w=>?_⟩
 obtain⟨Hc,O,_,r⟩:=r0.give is
 unfold Dv.sUnpack at w
 refine q.open r (λ c hf Hc' H' x=>?_) (λ hf=>?_) λ d fr v Hc' H' hf x r' rp=>?_
 ·simp only[hf] at w; exact w σ H' ⟨Hc0,O0,r0.grow x.hh x.nf⟩
 ·simp only[hf] at w; exact w
 ·simp only[hf] at w
  cases d with
  | tup ds =>
   by_cases hz:ds.length=xs.length
   ·simp only[hz,if_true] at w
    unfold Rp at rp
    obtain⟨a,vs,rfl,h2,h3⟩:=rp
    exact⟨a,vs,rfl,.inl (Rd.same x.vh h2),by rw[h3.length,hz,hl],qg Hv₀ H₀ Hc' O H' σ _ ds vs _ r' h3 hz λ σ' r2=>w σ' H' ⟨Hc',O,r2⟩⟩
   ·simp only[hz,if_false] at w; exact(show False from w).elim
  | _=>exact(show False from w).elim
theorem vI (is:List Nat){i j:Nat}{x y:Str}{px py pt:Pos}{kt k2:Nat}{pt2:Pos}(ha:SE C a f)(hb:SE C b g)(hN:C.X.N.Nodup)(hi:C.X.N[i]?=some x)(hj:C.X.N[j]?=some y)(hij:i≠j)
  (hx:C.X.env.scope.names.lookup x=some .local) (hy:C.X.env.scope.names.lookup y=some .local) (hw:autoParam (swappedStores [.Tuple [.Name x px,.Name y py] kt pt] (.Tuple [a,b] k2 pt2) C.X.env=pure (some [x,y])) Au.h4._auto_1)
  (hs:autoParam (swapsWithSole [.Tuple [.Name x px,.Name y py] kt pt] (.Tuple [a,b] k2 pt2) pos.line C.X.env=pure false) Au.h4._auto_1) (he:autoParam (starEach [a,b] C.X.env=(false,eval a C.X.env)::starEach [b] C.X.env) Au.h4._auto_1) (he2:autoParam (starEach [b] C.X.env=[(false,eval b C.X.env)]) Au.h4._auto_1) (hcl:autoParam (C.X.calm=true) Au.h4._auto_1) :
  SSt C (.Assign [.Tuple [.Name x px,.Name y py] kt pt] (.Tuple [a,b] k2 pt2) pos) (Dv.sPar is i j f g):=by
 obtain⟨t,p,q⟩:=ha
 obtain⟨u,p2,q2⟩:=hb
 refine⟨_,wT hcl hN hi hj hij hx hy (aG p (aG p2 bu he2) he) hw hs,λ Hv₀ H₀ E σ H st ⟨Hc0,O0,r0⟩ w=>?_⟩
 obtain⟨Hc,O,_,r⟩:=r0.give is
 unfold Dv.sPar at w
 refine q.open r (λ c hf Hc' H' x=>?_) (λ hf=>?_) λ d fr v Hc' H' hf x r' rp=>?_
 ·simp only[hf] at w; exact w σ H' ⟨Hc0,O0,r0.grow x.hh x.nf⟩
 ·simp only[hf] at w; exact w
 ·simp only[hf] at w
  refine q2.open r' (λ c hg Hc2 H2 x2=>?_) (λ hg=>?_) λ d2 fr2 v2 Hc2 H2 hg x2 r2 rp2=>?_
  ·simp only[hg] at w
   have xx:=x.trans x2
   exact w σ H2 ⟨Hc0,O0,r0.grow xx.hh xx.nf⟩
  ·simp only[hg] at w; exact w
  ·simp only[hg] at w
   exact⟨v,v2,rfl,w _ H2 ⟨Hc2,O,(r2.setSh (rp.same x2.vv)).setSh rp2⟩⟩
end
theorem Inv.but {X:Cx}{pins:List (Addr × Obj)}{σ:St}{H:Hp}{s:Shared}{ch:List Addr}{h':Heap}(I:Inv X pins σ H s)(hf:∀ b∈ch,ig X pins H b)(k:∀ b o,b∉ch->s.heap.get? b=some o->h'.get? b=some o):Inv X pins σ H { s with heap:=h' }:=by
 have nch:∀ b u,H b=some u->b∉ch:=λ b u e hb=>by rw[(hf b hb).1] at e; cases e
 refine I.step (g':=s.gens) (d':=s.drawn) (t':=s.toks) (ch:=ch) (λ b hb=>⟨(hf b hb).2.2.2.1,(hf b hb).2.1,(hf b hb).2.2.2.2.1,(hf b hb).2.2.2.2.2⟩) (λ b o _ _ hc e _=>k b o hc e) (λ b o _ _ hc e _=>⟨o.slots,k b o hc e⟩) (λ _ _ _ _ n=>n)
  (λ b o hc e=>⟨o,k b o hc e⟩) (λ _ _ e=>e) (λ _ _ _ e=>e) (λ b ps e=>⟨#[],by rw[e]; simp⟩) (λ m hm=>?_) (λ b u e=>?_) I.bare
 ·obtain⟨o,es,ep,ho,r⟩:=hm
  exact⟨o,es,ep,k _ _ (λ hb=>(hf _ hb).2.1 rfl) ho,r⟩
 ·refine(I.hok b u e).stay (λ c v hc q=>k c v ?_ q) (λ c q=>q) λ c xs q=>q
  rcases hc with rfl|hc
  ·exact nch _ u e
  ·exact nch _ _ hc
theorem vF {C:Ctx}{ts:List Expr}{xs:List Nat}{kt:Nat}{tpos:Pos}(hg:SGs C ts xs)(hl:ts.length=xs.length)(hn:autoParam ((assignEach ts C.X.env).length=ts.length) Au.h4._auto_1)(hst:autoParam ((assignEach ts C.X.env).findIdx? (·.1)=none) Au.h4._auto_1)(hcl:autoParam (C.X.calm=true) Au.h4._auto_1) :
  SG C (.Tuple ts kt tpos) (Dv.tupTo xs):=by
 obtain⟨g,pg,qg⟩:=hg
 refine⟨_,sg hcl pg hn hst,λ Hv₀ H₀ Hc O H σ s s' d v T r rp e h=>?_⟩
 unfold Dv.tupTo at e
 cases d with
 | tup ds =>
  by_cases hz:ds.length=xs.length
  ·simp only[hz,if_true] at e
   cases e
   unfold Rp at rp
   obtain⟨a,vs,rfl,h2,h3⟩:=rp
   exact⟨a,vs,rfl,.inl (Rd.same r.ch h2),by rw[h3.length,hz,hl],qg Hv₀ H₀ Hc O H σ s ds vs _ r h3 hz h⟩
  ·simp only[hz,if_false] at e
   cases e
 | _=>cases e
section
variable {C:Ctx}{a b c e k:Expr}{f g h:EE}{pos pos':Pos}
theorem nu {H H' Hv Hv':Hp}{es:List D}{v:V}(x:Ext Hv H Hv' H')(rn:Rp [] (Hnew H H') (.lst es) v):∃ b zs,v=.ref b/\H' b=some (.lst zs)/\H b=none/\RpL [] (Hnew H H') es zs:=by
 unfold Rp at rn
 obtain⟨a,vs,rfl,h1,h2⟩:=rn
 have h1':Hnew H H' a=some (.lst vs):=by
  rcases h1 with (h1|⟨o,h1⟩)|⟨its,m,e,_⟩
  ·exact h1
  ·exfalso
   have hn:H a=none:=by
    unfold Hnew at h1
    cases q:H a with
    | none=>rfl
    | some u=>rw[q] at h1; cases h1
   exact x.nf a o _ hn (Hnew.sub a _ h1)
  ·simp at e
 have hn:H a=none:=by
  unfold Hnew at h1'
  cases q:H a with
  | none=>rfl
  | some u=>rw[q] at h1'; cases h1'
 exact⟨a,vs,rfl,Hnew.sub a _ h1',hn,h2⟩
theorem wa {i:Nat}{x:Str}{apos cpos:Pos}{px:Pos}(he:SE C e f)(hN:autoParam (C.X.N[i]?=some x) Au.h4._auto_1)(hv:autoParam (Vis C.X.env.scope x) Au.h7._auto_1)
    (hd:autoParam ((x == ("__debug__":Str))=false) Au.h2._auto_1) (hcd:autoParam ((x == ("__classdict__":Str))=false) Au.h2._auto_1) (hst:autoParam (starEach [e] C.X.env=[(false,eval e C.X.env)]) Au.h4._auto_1)
    (hbase:autoParam (attributeBase (.Name x px) "extend" C.X.env (eval (.Name x px) C.X.env)=eval (.Name x px) C.X.env) Au.h4._auto_1)
    (hfew:autoParam (((backTo cpos (starEach [e] C.X.env)).all (λ x=>!x.1)&&(backToKw cpos (keywordEach [] C.X.env)).all (λ x=>x.1.isSome)
      && decide ([e].length+([]:List Keyword).length+(if ([]:List Keyword).isEmpty then 0 else 1)<30))=true) Au.h4._auto_1)
    (hline:autoParam ((apos.endLine == cpos.line)=true) Au.h4._auto_1)
    (hs:autoParam (swapsWith (.Call (.Attribute (.Name x px) "extend" apos) [e] [] cpos) none pos.line C.X.env=pure false) Au.h4._auto_1) :
    SSt C (.Expr (.Call (.Attribute (.Name x px) "extend" apos) [e] [] cpos) pos) (Dv.sExt i f):=by
  obtain⟨t,p,q⟩:=he
  refine⟨_,gf (rX PySem.F.plainAttrs_list PySem.F.slot_list_extend PySem.F.type_list_extend oD (bH hN hv hd hcd) (aG p bu hst) hbase hfew hline hst rfl) hs,λ Hv₀ H₀ E σ H st ⟨Hc,O,r⟩ w=>?_⟩
  unfold Dv.sExt at w
  cases hi:st[i]? with
  | none=>rw[hi] at w; exact(show False from w).elim
  | some s =>
    rw[hi] at w
    cases s with
    | no=>exact(show False from w).elim
    | sh d=>exact(show False from w).elim
    | dp d=>exact(show False from w).elim
    | jk n m=>exact(show False from w).elim
    | ow d0 =>
     cases d0 with
     | non=>exact(show False from w).elim
     | bl _=>exact(show False from w).elim
     | int _=>exact(show False from w).elim
     | str _=>exact(show False from w).elim
     | tup _=>exact(show False from w).elim
     | exn _=>exact(show False from w).elim
     | raw _=>exact(show False from w).elim
     | tab _=>exact(show False from w).elim
     | dct _ _=>exact(show False from w).elim
     | lst ds =>
      obtain⟨a,vs,h1,h2,h5⟩:=r.own hi
      refine⟨_,h1,.inl ⟨rfl,vs,SqL.of h2⟩,?_⟩
      refine q.all r (λ c hf H' r'=>?_) (λ hf=>?_) λ d fr v Hv' H' hf x r' rp n=>?_
      · simp only[hf] at w; exact w σ H' ⟨Hc,O,r'⟩
      · simp only[hf] at w; exact w
      · cases d with
        | lst es =>
          simp only[hf] at w
          by_cases z:(fr&&Dv.flatL es&&decide (ds.length+es.length<=Dv.mx))=true
          · simp only[z,if_true] at w
            rw[yN,yN,decide_eq_true_eq] at z
            obtain⟨b,zs,rfl,hb,_,rl⟩:=nu x (n z.1.1)
            obtain⟨O',r2⟩:=r'.put hi h1 (h5.append (rl.flat z.1.2))
            refine⟨a,b,vs,zs,rfl,rfl,x.hh _ _ h2,hb,?_,w σ _ ⟨Hc,O',r2⟩⟩
            have e1:=h5.length
            have e2:=rl.length
            have:=cL z.2
            omega
          · simp only[z] at w
            exact(show False from w).elim
        | _=>simp only[hf] at w; exact(show False from w).elim
end
section
variable {C:Ctx}{a b c e:Expr}{f g h:EE}{pos:Pos}
theorem aA (ha:SE C a f)(hb:SE C b g):SE C (.BinOp a .Add b pos) (Dv.eOp .add f g):=fK vE ha hb
theorem b8 (ha:SE C a f)(hb:SE C b g):SE C (.BinOp a .Sub b pos) (Dv.eOp .sub f g):=fK wE ha hb
theorem aR (ha:SE C a f)(hb:SE C b g):SE C (.BinOp a .Mult b pos) (Dv.eOp .mul f g):=fK wj ha hb
theorem az (ha:SE C a f)(hb:SE C b g):SE C (.BinOp a .Mod b pos) (Dv.eOp .mod f g):=fK wt ha hb
theorem bC (ha:SE C a f)(hb:SE C b g):SE C (.BinOp a .FloorDiv b pos) (Dv.eOp .fdiv f g):=fK tJ ha hb
theorem mC (ha:SE C a f)(hb:SE C b g):SE C (.BinOp a .RShift b pos) (Dv.eOp .shr f g):=fK vN ha hb
theorem gM (ha:SE C a f)(hb:SE C b g):SE C (.Compare a [.Eq] [b] pos) (Dv.eCm .eq f g):=rm u0 ha hb (nomark _)
theorem xL (ha:SE C a f)(hb:SE C b g)(hm:autoParam (behindInMarks .In b=false) Au.h9._auto_1):SE C (.Compare a [.In] [b] pos) (Dv.eCm .isin f g):=rm uY ha hb hm
theorem ji (ha:SE C a f)(hb:SE C b g):SC C (.Compare a [.Lt] [b] pos) (Dv.eCm .lt f g):=dR xW ha hb (nomark _)
theorem uU (ha:SE C a f)(hb:SE C b g):SC C (.Compare a [.LtE] [b] pos) (Dv.eCm .le f g):=dR w5 ha hb (nomark _)
theorem jg (ha:SE C a f)(hb:SE C b g):SC C (.Compare a [.Gt] [b] pos) (Dv.eCm .gt f g):=dR xt ha hb (nomark _)
theorem xB (ha:SE C a f)(hb:SE C b g):SC C (.Compare a [.GtE] [b] pos) (Dv.eCm .ge f g):=dR xf ha hb (nomark _)
theorem bG (ha:SE C a f)(hb:SE C b g):SC C (.Compare a [.Eq] [b] pos) (Dv.eCm .eq f g):=dR u0 ha hb (nomark _)
theorem kD (ha:SE C a f)(hb:SE C b g):SC C (.Compare a [.NotEq] [b] pos) (Dv.eCm .ne f g):=dR xN ha hb (nomark _)
theorem uT (ha:SE C a f)(hb:SE C b g)(hm:autoParam (behindInMarks .In b=false) Au.h9._auto_1):SC C (.Compare a [.In] [b] pos) (Dv.eCm .isin f g):=dR uY ha hb hm
theorem lG (ha:SE C a f)(hb:SE C b g)(hm:autoParam (behindInMarks .NotIn b=false) Au.h9._auto_1):SC C (.Compare a [.NotIn] [b] pos) (Dv.eCm .notin f g):=dR sS ha hb hm
theorem s0 {x:Str}{i:Int}{t:Tok}(hg:Gl C.X x)(hm:C.X.mg x=some (.int i t))(hd:autoParam ((x == ("__debug__":Str))=false) Au.h2._auto_1):SE C (.Name x pos) (Dv.eInt i) :=
 ⟨_,gg (v:=.int i) hg hm ⟨t,rfl⟩ hd,λ _ _ _ _ _ _ s q=>q.now (v:=.int i) s bM rfl⟩
theorem bN {p:Pos}(hm:C.X.mg "len"=none)(hg:Gl C.X "len")(ha:SE C a f)(he:autoParam (starEach [a] C.X.env=[(false,eval a C.X.env)]) Au.h4._auto_1):SE C (.Call (.Name "len" p) [a] [] pos) (Dv.eB1 Dv.lenD f):=sU vJ hg hm PySem.boot_len ha (by decide) (by decide) he
theorem da {p:Pos}(hm:C.X.mg "sorted"=none)(hg:Gl C.X "sorted")(ha:SE C a f)(he:autoParam (starEach [a] C.X.env=[(false,eval a C.X.env)]) Au.h4._auto_1):SE C (.Call (.Name "sorted" p) [a] [] pos) (Dv.eB1 Dv.sortedD f):=sU o3 hg hm PyProof.Rows.boot_sorted ha (by decide) (by decide) he
theorem mY {p:Pos}(hm:C.X.mg "list"=none)(hg:Gl C.X "list")(ha:SE C a f)(he:autoParam (starEach [a] C.X.env=[(false,eval a C.X.env)]) Au.h4._auto_1):SE C (.Call (.Name "list" p) [a] [] pos) (Dv.eB1 Dv.listD f):=xg tD hg hm (by decide +kernel) ha (by decide) (by decide) he
theorem jM {p:Pos}(hm:C.X.mg "max"=none)(hg:Gl C.X "max")(ha:SE C a f)(hb:SE C b g)(he:autoParam (starEach [a,b] C.X.env=(false,eval a C.X.env)::starEach [b] C.X.env) Au.h4._auto_1)(he2:autoParam (starEach [b] C.X.env=[(false,eval b C.X.env)]) Au.h4._auto_1)(hcl:autoParam (C.X.calm=true) Au.h4._auto_1):SE C (.Call (.Name "max" p) [a,b] [] pos) (Dv.eB2 Dv.max2D f g):=uZ (wy hcl) hg hm (by decide +kernel) ha hb (by decide) (by decide) he he2
theorem tM {p:Pos}(hm:C.X.mg "min"=none)(hg:Gl C.X "min")(ha:SE C a f)(hb:SE C b g)(he:autoParam (starEach [a,b] C.X.env=(false,eval a C.X.env)::starEach [b] C.X.env) Au.h4._auto_1)(he2:autoParam (starEach [b] C.X.env=[(false,eval b C.X.env)]) Au.h4._auto_1)(hcl:autoParam (C.X.calm=true) Au.h4._auto_1):SE C (.Call (.Name "min" p) [a,b] [] pos) (Dv.eB2 Dv.min2D f g):=uZ (wG hcl) hg hm (by decide +kernel) ha hb (by decide) (by decide) he he2
theorem pJ {p p2:Pos}(hm:C.X.mg "isinstance"=none)(hmx:C.X.mg "list"=none)(hg:Gl C.X "isinstance")(hgx:Gl C.X "list")(ha:SE C a f)(he:autoParam (starEach [a,.Name "list" p2] C.X.env=(false,eval a C.X.env)::starEach [.Name "list" p2] C.X.env) Au.h4._auto_1)
  (he2:autoParam (starEach [.Name "list" p2] C.X.env=[(false,eval (.Name "list" p2) C.X.env)]) Au.h4._auto_1):SE C (.Call (.Name "isinstance" p) [a,.Name "list" p2] [] pos) (Dv.eB1 Dv.isListD f):=wo _ mD (λ d fr h=>by cases d <;>first|rfl|exact absurd h (by simp[Dv.noTy])) re hg hm hgx hmx (by decide +kernel) ha (by decide) (by decide) he he2
end
structure Df (K:PySem.W.Frag)(mg:Str->Option Value)(x:Str)(st:Stmt)(ps:List Str)(f:Addr)(fd:FuncData):Prop where
 m:mg x=some (.ref f)
 kp:PySem.W.keepIn K (.ref f)=true
 ex:∃ (oc:Value) (od:Option Addr) (dV kV doc pm:Value) (an:Option Addr) (cdv ct:Value) (osl:Array (Option Value)),
  fd=PySem.W.fnOf x x (bQ st) (bi st) (ai st) dV kV doc pm an cdv ct/\K.lookup f=some ⟨oc,od,.func fd,osl⟩/\PySem.W.codeIn K cdv x=true
 bd:Binds K fd ps []
section
variable {P:Program}{w:World}{K:PySem.W.Frag}{mg:Str->Option Value}{base:Heap}{CX:CXT}{cls:String->Value}
theorem Df.ok (hC:CXok P w CX){x:Str}{st:Stmt}{f:Addr}{fd:FuncData}{N ps:List Str}{k:Nat}{body:SS}(d:Df K mg x st ps f fd)(S:FnScope N ps (ai st))
  (hbody:∀ (cdv:Value) (A:Around) (outer:List PySem.Env) (s:Shared) (H:Hp) (E:XK) (hr:Room k (A.deeper (envOfC x (ai st) s.heap.objs.size f cdv))),SSs (lh hC cls K mg base N x (ai st) f cdv A outer s H E hr) (bi st) body) :
  FnOk P w K mg base CX (k+1) f fd ps (spD K cls (Dv.fn N.length body) ps.length):=by
 obtain⟨oc,od,dV,kV,doc,pm,an,cdv,ct,osl,rfl,lk,hcd⟩:=d.ex
 exact w9 hC cls oc od dV kV doc pm an cdv ct osl lk hcd S (hbody cdv)
theorem aV {x:Str}{st:Stmt}{ps:List Str}{f:Addr}{oc:Value}{od an:Option Addr}{osl:Array (Option Value)}{dV kV doc pm cdv ct:Value}(m:mg x=some (.ref f))(l:K.lookup f=some ⟨oc,od,.func (PySem.W.fnOf x x (bQ st) (bi st) (ai st) dV kV doc pm an cdv ct),osl⟩)
  (c:PySem.W.codeIn K cdv x=true) (k:PySem.W.keepIn K (.ref f)=true)
  (h:∀ (kV doc pm:Value) (an:Option Addr) (cdv ct:Value) (us:List Value),us.length=ps.length->bindArgs (PySem.W.fnOf x x (bQ st) (bi st) (ai st) dV kV doc pm an cdv ct) ⟨us,[]⟩=pure (ps.zip us)) :
  Df K mg x st ps f (PySem.W.fnOf x x (bQ st) (bi st) (ai st) dV kV doc pm an cdv ct):=⟨m,k,⟨oc,od,dV,kV,doc,pm,an,cdv,ct,osl,rfl,l,c⟩,.all (h kV doc pm an cdv ct)⟩
end
theorem av {C:Ctx}{e:Expr}{es:List Expr}{fl:EL}{k j:Nat}{fa:Addr}{fd:FuncData}{st:Stmt}{ps:List Str}{Fm:List D->R}{x:Str}{p pos:Pos}(d:Df C.X.K C.X.mg x st ps fa fd)(Fn:FnOk C.X.prog C.X.w C.X.K C.X.mg C.X.base C.CX j fa fd ps (spD C.X.K C.cls Fm ps.length))(hr:Room k C.X.A)(hj:j<=k)
  (hg:Gl C.X x) (ha:SL C (e::es) fl) (hlen:autoParam ((e::es).length=ps.length) Au.h4._auto_1) (hdb:autoParam ((x == ("__debug__":Str))=false) Au.h2._auto_1) (he:autoParam (starEach (e::es) C.X.env=(false,eval e C.X.env)::starEach es C.X.env) Au.h4._auto_1) (hpl:autoParam ((backTo pos (starEach es C.X.env)).any (·.1)=false) Au.h4._auto_1) :
  SE C (.Call (.Name x p) (e::es) [] pos) (Dv.eCall Fm fl):=by
 have q:=ui (pos:=pos) (p:=p) (dds:=[]) (dvs:=[]) (dus:=[]) Fn hr hj hg d.m d.kp d.bd .nil (λ _ _=>.nil) ha (by simpa using hlen) hdb he hpl
 have e1:(λ ds=>Fm (ds++[]))=Fm:=by funext ds; rw[zz]
 rw[e1] at q
 exact q
noncomputable def qV (fsc:Scope)(N:List Str)(scope:Scope)(x:Str)(fs:List Str)(is:List Nat):Bool :=
 scope.kind == .function&&scope.names.all (λ y=>!(y.2 == .cell))&&scope.names.all (λ y=>!(y.2 == .local) || scope.names.lookup y.1 == some .local)&&scope.names.lookup x == some .local&&decide (x::fs).Nodup &&
 scope.names.all (λ y=>!(y.2 == .free) || (fsc.names.lookup y.1 == some .cell || fsc.names.lookup y.1 == some .free))&&fs.all (λ y=>scope.names.lookup y == some .free)&&is.length == fs.length&&(fs.zip is).all (λ p=>N[p.2]? == some p.1)
theorem aH {X:Cx}{fsc:Scope}{N:List Str}{scope:Scope}{x:Str}{fs:List Str}{is:List Nat}(h1:X.env.scope=fsc)(h2:X.N=N)(h:qV fsc N scope x fs is=true):CompNames X scope x fs is:=by
 subst h1 h2
 unfold qV at h
 simp only[yN] at h
 obtain⟨⟨⟨⟨⟨⟨⟨⟨a1,a2⟩,a3⟩,a4⟩,a5⟩,a6⟩,a7⟩,a8⟩,a9⟩:=h
 refine⟨by simpa using a1,λ y hy=>?_,λ y hy hl=>?_,by simpa using a4,by simpa using a5,λ y hy hf=>?_,λ y hy=>?_,by simpa using a8,λ j y hj=>?_⟩
 ·have:=List.all_eq_true.mp a2 y hy
  simpa using this
 ·have:=List.all_eq_true.mp a3 y hy
  simpa[hl] using this
 ·have:=List.all_eq_true.mp a6 y hy
  show X.env.scope.names.lookup y.1=some .cell\/X.env.scope.names.lookup y.1=some .free
  simpa[hf] using this
 ·have:=List.all_eq_true.mp a7 y hy
  simpa using this
 ·have hl:is.length=fs.length:=by simpa using a8
  have hjl:j<fs.length:=(List.getElem?_eq_some_iff.mp hj).1
  refine⟨is[j]'(by omega),by simp,?_⟩
  have hm:(y,is[j]'(by omega))∈fs.zip is:=by
   have e1:fs[j]=y:=(List.getElem?_eq_some_iff.mp hj).2
   have:(fs.zip is)[j]'(by rw[BH]; omega)=(y,is[j]'(by omega)):=by rw[List.getElem_zip,e1]
   rw[<- this]
   exact AV _
  have:=List.all_eq_true.mp a9 _ hm
  simpa using this
theorem Df.is {P:Program}{w:World}{K:PySem.W.Frag}{mg:Str->Option Value}{base:Heap}{CX:CXT}{cls:String->Value}(hC:CXok P w CX){x:Str}{st:Stmt}{f:Addr}{fd:FuncData}{ps:List Str}{F:List D->R}{m j:Nat}(N:List Str)(k:Nat)(body:SS)(d:Df K mg x st ps f fd)(S:FnScope N ps (ai st))
  (hj:j=k+1) (hm:m=ps.length) (hF:F=Dv.fn N.length body)
  (hbody:∀ (cdv:Value) (A:Around) (outer:List PySem.Env) (s:Shared) (H:Hp) (E:XK) (hr:Room k (A.deeper (envOfC x (ai st) s.heap.objs.size f cdv))),SSs (lh hC cls K mg base N x (ai st) f cdv A outer s H E hr) (bi st) body) :
  FnOk P w K mg base CX j f fd ps (spD K cls F m):=by
 subst hj hm hF
 exact d.ok hC S hbody
structure Fly (P:Program)(w:World)(outer:List PySem.Env)(H:Hp)(s:Shared)(a:Addr)(cls:Value)(H':Hp)(B:Heap)(t:Addr)(s':Shared):Prop where
 os:s'.os=s.os
 bare:AllBare s'.gens
 fl:Heap.FlyingW B outer a cls (.ref t) s'.heap
 keepB:∀ b o,s.heap.get? b=some o->H b=none->b∉frs outer->B.get? b=some o
 thereB:∀ b o,s.heap.get? b=some o->b∉frs outer->∃ o',B.get? b=some o'
 slot:∀ b o,s.heap.get? b=some o->H b=none->b∈frs outer->∃ sl,s'.heap.get? b=some { o with slots:=sl }
 free:∀ b o,s.heap.get? b=some o->H b=none->H' b=none
 tups:∀ b xs,H b=some (.tup xs)->H' b=some (.tup xs)
 frzs:∀ b o u,H b=some (.frz o u)->H' b=some (.frz o u)
 tbls:∀ b ps,H b=some (.tbl ps)->∃ more,H' b=some (.tbl (ps++more))
 hokB:HOk P w H' B
noncomputable def CXe (P:Program)(w:World):CXT:=λ outer H s E e s'=>∃ a cls H' B t,e=.ref a/\Fly P w outer H s a cls H' B t s'/\E cls none H'
theorem mV {P:Program}{w:World}{H:Hp}{h h':Heap}(x:HOk P w H h)(k:∀ b u,H b≠none->h.get? b=some u->h'.get? b=some u):HOk P w H h':=λ a o e =>
 (x a o e).stay (λ b u hb q=>k b u (by
  rcases hb with rfl|hb
  ·rw[e]; exact λ z=>nomatch z
  ·rw[hb]; exact λ z=>nomatch z) q) (λ _ q=>q) λ _ _ q=>q
theorem bZ {B h:Heap}{l:List PySem.Env}{b:Addr}{o:Obj}(f:h.FunFrames B l)(hb:b∈frs l)(e:h.get? b=some o):∀ vs,o.data≠.fields vs:=by
 obtain⟨_,o',e',n⟩:=f.mem hb
 rw[e] at e'
 cases e'
 exact n
section
variable {P:Program}{w:World}{K:PySem.W.Frag}{mg:Str->Option Value}{base:Heap}{N:List Str}{qual:Str}{scope:Scope}{f:Addr}{cd:Value}{A:Around}{outer:List PySem.Env}{s:Shared}{H:Hp}{E:XK}
theorem cn {b:Addr}{o:Obj}(e:s.heap.get? b=some o)(hb:b∉frs outer):b∉frs (envOfC qual scope s.heap.objs.size f cd::outer):=λ m=>by
 have m':b∈s.heap.objs.size::frs outer:=m
 rcases List.mem_cons.mp m' with rfl|m'
 ·exact absurd (Heap.lt_size e) (zL _)
 ·exact hb m'
theorem gJ {b:Addr}(hb:b∈frs outer):b∈frs (envOfC qual scope s.heap.objs.size f cd::outer):=yM (s.heap.objs.size) hb
theorem pB (pins:List (Addr × Obj))(σ:St)(H1:Hp)(s1:Shared)(e:Value)(s':Shared)(I:Inv (cB (CXe P w) P w K mg base N qual scope f cd A outer s H E) pins σ H1 s1)
  (h:CXe P w (cB (CXe P w) P w K mg base N qual scope f cd A outer s H E).stack H1 s1 E e s'):(cB (CXe P w) P w K mg base N qual scope f cd A outer s H E).xe e s':=by
 obtain⟨a,cls,H',B,t,rfl,F,q⟩:=h
 have noex:∀ b:Addr,b∉(cB (CXe P w) P w K mg base N qual scope f cd A outer s H E).ex:=λ b z=>absurd (show b∈([]:List Addr) from z) (by simp)
 refine wpAny_leaves_onW (L:=s.heap.objs.size) I.ok.frames rfl F.fl λ h' x1 x2=>?_
 refine⟨a,cls,H',B,t,rfl,⟨F.os.trans I.os,F.bare,x1,λ b o e n hb=>?_,λ b o e hb=>?_,λ b o e n hb=>?_,λ b o e n=>?_,λ b xs e=>?_,λ b o u e=>?_,λ b ps e=>?_,F.hokB⟩,q⟩
 ·exact F.keepB b o (I.base.keep b o e n hb (noex b)) (I.base.free b o e n (noex b)) (cn e hb)
 ·obtain⟨o1,e1⟩:=I.base.there b o e (noex b)
  exact F.thereB b o1 e1 (cn e hb)
 ·obtain⟨sl,e1⟩:=I.base.slot b o e n hb (noex b)
  obtain⟨sl2,e2⟩:=F.slot b _ e1 (I.base.free b o e n (noex b)) (gJ hb)
  obtain⟨sl3,e3⟩:=x2 b _ e2 (bZ F.fl.2.2.1 (gJ hb) e2)
  exact⟨sl3,e3⟩
 ·obtain⟨o1,e1⟩:=I.base.there b o e (noex b)
  exact F.free b o1 e1 (I.base.free b o e n (noex b))
 ·exact F.tups b xs (I.base.tups b xs e)
 ·exact F.frzs b o u (I.base.frzs b o u e)
 ·obtain⟨m1,e1⟩:=I.base.tbls b ps e
  obtain⟨m2,e2⟩:=F.tbls b _ e1
  exact⟨m1++m2,by rw[e2,Array.append_assoc]⟩
theorem cxe_ok {P:Program}{w:World}:CXok P w (CXe P w):=⟨λ _ _ _ _ _ ⟨_,_,_,_,_,_,_,q⟩=>q,λ _ _ _ _ _ _ _ _ _ _ _ _ _ pins σ H1 s1 e s' I h=>pB pins σ H1 s1 e s' I h⟩
theorem li {pins:List (Addr × Obj)}{σ:St}{H1:Hp}{s1:Shared}{h':Heap}{e:Addr}{cls:Value}{vs:List Value}(I:Inv (cB (CXe P w) P w K mg base N qual scope f cd A outer s H E) pins σ H1 s1)
  (hx:Heap.MadeExcOf s1.heap h' e cls vs) (hE:E cls none H1):(cB (CXe P w) P w K mg base N qual scope f cd A outer s H E).xe (.ref e) { s1 with heap:=h' }:=by
 have noex:∀ b:Addr,b∉(cB (CXe P w) P w K mg base N qual scope f cd A outer s H E).ex:=λ b z=>absurd (show b∈([]:List Addr) from z) (by simp)
 have hfr:s1.heap.FunFrames (PySem.W.hideAll s1.heap (frs (envOfC qual scope s.heap.objs.size f cd::outer))) (envOfC qual scope s.heap.objs.size f cd::outer) :=
  PySem.W.funFrames_hide I.stack λ env he b hb=>List.mem_filterMap.mpr ⟨env,he,hb⟩
 refine wpAny_leaves_madeW (L:=s.heap.objs.size) (base:=PySem.W.hideAll s1.heap (frs (envOfC qual scope s.heap.objs.size f cd::outer))) I.ok.frames rfl (λ b o q=>PySem.W.of_hideAll _ q) hfr hx λ h2 t x1 x2 x3 x4=>?_
 refine⟨e,cls,H1,_,t,rfl,⟨I.os,I.bare,x1,λ b o q n hb=>?_,λ b o q hb=>?_,λ b o q n hb=>?_,λ b o q n=>I.base.free b o q n (noex b),λ b xs q=>I.base.tups b xs q,λ b o u q=>I.base.frzs b o u q,λ b ps q=>I.base.tbls b ps q,?_⟩,hE⟩
 ·exact PySem.W.hideAll_get _ (I.base.keep b o q n hb (noex b)) (cn q hb)
 ·obtain⟨o1,e1⟩:=I.base.there b o q (noex b)
  exact⟨o1,PySem.W.hideAll_get _ e1 (cn q hb)⟩
 ·obtain⟨sl,e1⟩:=I.base.slot b o q n hb (noex b)
  obtain⟨sl2,e2⟩:=x4 b _ (hx.keeps _ _ e1) (bZ hfr (gJ hb) e1)
  exact⟨sl2,e2⟩
 ·refine mV I.hok λ b u hb q=>PySem.W.hideAll_get _ q λ m=>hb ?_
  exact I.stkFree b m
end
structure XCls (K:PySem.W.Frag)(mg:Str->Option Value)(c:String)(C:Addr):Prop where
 m:mg (Str.ofString c)=some (.ref C)
 ns:PySem.W.nsIn K mainGlobals (Str.ofString c)=some (some (.ref C))
 ex:PySem.W.excIn K C [.type "ValueError",.type "Exception",.type "BaseException",.type "object"] "ValueError.__new__"=true
 lk:∃ bm N nm qn bs hd sn sub ab col dd k0 k1 k2 k3 k5,K.lookup C=some (excClassObj nm qn C N bs bm hd sn sub ab col dd k0 k1 k2 k3 k5 "ValueError.__new__")
theorem bY {K:PySem.W.Frag}{C:Addr}{bm0:List Value}{newId:String}(q:PySem.W.excIn K C bm0 newId=true)(l:∃ bm N nm qn bs hd sn sub ab col dd k0 k1 k2 k3 k5,K.lookup C=some (excClassObj nm qn C N bs bm hd sn sub ab col dd k0 k1 k2 k3 k5 newId)) :
  ∃ bm N nm qn bs hd sn sub ab col dd k0 k1 k2 k3 k5,K.lookup C=some (excClassObj nm qn C N bs bm hd sn sub ab col dd k0 k1 k2 k3 k5 newId)/\PySem.W.nsOkIn K N=true/\PySem.W.nsIn K N "__init__"=some none/\PySem.W.tailIn K bm0 bm=true:=by
 obtain⟨bm,N,nm,qn,bs,hd,sn,sub,ab,col,dd,k0,k1,k2,k3,k5,l⟩:=l
 unfold PySem.W.excIn at q
 rw[l] at q
 have q:(C == C&&newId == newId&&!false&&PySem.W.tailIn K bm0 bm&&PySem.W.nsOkIn K N&&PySem.W.nsIn K N "__init__" == some none)=true:=q
 simp only[yN,beq_iff_eq] at q
 exact⟨bm,N,nm,qn,bs,hd,sn,sub,ab,col,dd,k0,k1,k2,k3,k5,l,q.1.2,q.2,q.1.1.2⟩
theorem tP {K:PySem.W.Frag}{h h':Heap}{N:Addr}{m:Str->Option Value}(X:K.In h)(X':K.In h')(e:PySem.W.nsOkIn K N=true)(n:h.Ns N m):h'.Ns N m:=by
 obtain⟨o,es,ep,ho,hd,r⟩:=n
 unfold PySem.W.nsOkIn at e
 split at e
 ·rename_i a b c d q
  have:=X _ _ q
  rw[ho] at this
  cases this
  exact⟨_,es,ep,X' _ _ q,hd,r⟩
 ·cases e
theorem pQ {P:Program}{w:World}{K:PySem.W.Frag}{mg:Str->Option Value}{base:Heap}{N:List Str}{qual:Str}{scope:Scope}{f:Addr}{cd:Value}{A:Around}{outer:List PySem.Env}{s:Shared}{H:Hp}{E:XK}{c:String}{Ca:Addr}{tx:Str}{j:Nat}{np p2 cpos pos:Pos}
  (x:XCls K mg c Ca) (hg:Gl (cB (CXe P w) P w K mg base N qual scope f cd A outer s H E) (Str.ofString c)) (hd:(Str.ofString c == ("__debug__":Str))=false) (hh:(A.deeper (envOfC qual scope s.heap.objs.size f cd)).handled=none) :
  PS (cB (CXe P w) P w K mg base N qual scope f cd A outer s H E) (.Raise (some (.Call (.Name (Str.ofString c) np) [.Constant (.str tx) j p2] [] cpos)) none pos) (λ _ _ H1=>E (.ref Ca) none H1):=by
 intro pins s1 σ H1 D I hE
 obtain⟨bm,Na,nm,qn,bs,hdd,sn,sub,ab,col,dd,k0,k1,k2,k3,k5,hC,hN,hni,hT⟩:=bY x.ex x.lk
 have T:=PySem.W.tail_of_in I.kIn hT
 refine wpAny_Raise_call_subT (C:=Ca) (nm:=nm) (q:=qn) (N:=Na) (bs:=bs) (bm:=bm) (hdct:=hdd) (sn:=sn) (sub:=sub) (ab:=ab) (col:=col) (dd:=dd) (k0:=k0) (k1:=k1) (k2:=k2) (k3:=k3) (k5:=k5) PySem.F.excBase_ValueError (mN:=s1.heap.nsMap Na) (T.hasType (by decide)) hh rfl (PySem.W.nsMap_none_of_in I.kIn hN hni) ?_
 have pn:=gg (X:=cB (CXe P w) P w K mg base N qual scope f cd A outer s H E) (v:=.ref Ca) (pos:=np) hg x.m rfl hd
 refine thn (pn pins s1 σ H1 (λ v H2=>v=.ref Ca/\H2=H1) I ⟨rfl,rfl⟩) ?_
 rintro u s2 ⟨v,H2,I2,r2,rfl,rfl⟩
 obtain rfl:u=Value.ref Ca:=r2
 refine⟨rfl,Calls.evalArgs_plain ?_⟩
 have pa:=aG (X:=cB (CXe P w) P w K mg base N qual scope f cd A outer s H E) (e:=.Constant (.str tx) j p2) wk bu
 refine thn (pa cpos pins s2 σ H2 (λ vs H3=>vs=[.str tx]/\H3=H2) I2 ⟨rfl,rfl⟩) ?_
 rintro us s3 ⟨vs,H3,I3,r3,rfl,rfl⟩
 have hl:us.length=1:=r3.length.symm
 refine⟨rfl,by rw[hl]; decide,I3.kIn _ _ hC,tP I.kIn I3.kIn hN (.of_isNs (PySem.W.isNs_of_in I.kIn hN)),PySem.W.tail_of_in I3.kIn hT,λ h' e hx=>?_⟩
 exact li I3 hx hE
theorem cX {P:Program}{w:World}{K:PySem.W.Frag}{mg:Str->Option Value}{base:Heap}{cls:String->Value}{N:List Str}{qual:Str}{scope:Scope}{f:Addr}{cd:Value}{A:Around}{outer:List PySem.Env}{s:Shared}{H:Hp}{E:XK}{k:Nat}{hr:Room k (A.deeper (envOfC qual scope s.heap.objs.size f cd))}{c:String}{Ca:Addr}{tx:Str}{j:Nat}{np p2 cpos pos:Pos}
  (x:XCls K mg c Ca) (hcls:cls c=.ref Ca) (hg:Gl (cB (CXe P w) P w K mg base N qual scope f cd A outer s H E) (Str.ofString c)) (hd:autoParam ((Str.ofString c == ("__debug__":Str))=false) Au.h2._auto_1) :
  SSs (lh (cxe_ok (P:=P) (w:=w)) cls K mg base N qual scope f cd A outer s H E hr) [.Raise (some (.Call (.Name (Str.ofString c) np) [.Constant (.str tx) j p2] [] cpos)) none pos] (Dv.sRaise c):=by
 refine⟨_,jD (pQ x hg hd hr.hd),λ Hv₀ H₀ E' σ H' st r q=>?_⟩
 have q':E (cls c) none H':=q σ H' r
 rw[hcls] at q'
 exact q'
structure XLook (K:PySem.W.Frag)(C:Addr):Prop where
 ex:PySem.W.excIn K C [.type "ValueError",.type "Exception",.type "BaseException",.type "object"] "ValueError.__new__"=true
 lk:∃ bm N nm qn bs hd sn sub ab col dd k0 k1 k2 k3 k5,K.lookup C=some (excClassObj nm qn C N bs bm hd sn sub ab col dd k0 k1 k2 k3 k5 "ValueError.__new__")
 ga:PySem.W.findIn K (.ref C) "__getattribute__"=some (some (.builtin "BaseException.__getattribute__"))
 gn:PySem.W.findIn K (.ref C) "__getattr__"=some none
 kc:PySem.W.findIn K (.ref C) "__class__"=some (some (.builtin "object.__class__"))
section
variable {prog:Program}{w:World}{A:Around}{E:Value->Shared->Prop}{K:PySem.W.Frag}{h:Heap}{g:Array GenState}{d:Drawn}{t:Nat}{os:OsState}{a C:Addr}{o:Obj}
theorem wg {R:Result->Shared->Prop}(X:K.In h)(x:XLook K C)(hx:h.get? a=some o)(hc:o.cls=.ref C)(hq:R (.ok (.ret (.ref C))) ⟨h,g,d,t,os⟩) :
  codeAny (model prog w) A (.call (.builtin "getset_descriptor.__get__") ⟨[.builtin "object.__class__",.ref a,.ref C],[]⟩) R ⟨h,g,d,t,os⟩:=by
 obtain⟨bm,Na,nm,qn,bs,hdd,sn,sub,ab,col,dd,k0,k1,k2,k3,k5,kC,_,_,hT⟩:=bY x.ex x.lk
 have hC:=X _ _ kC
 have TL:=PySem.W.tail_of_in X hT
 have own:(Value.ref C::bm).contains (.type (".".intercalate ("object.__class__".cutAt '.').dropLast))=true:=by
  rw[F.owner_object_class,AL,TL.hasType (show List.contains [Value.type "ValueError",Value.type "Exception",Value.type "BaseException",Value.type "object"] (Value.type "object")=true by decide)]
  rfl
 refine codeAny_call_builtin F.slot_gs_get.plain F.entry_gs_get (F.slot_gs_get.check _ _ _ _ _ _ _ _ (show (⟨h,g,d,t,os⟩:Shared).TypeIs (.builtin "object.__class__") "getset_descriptor" from F.typeOf_object_class) (F.args_gs_get _ _ _) ?_)
 have ty0:(⟨h,g,d,t,os⟩:Shared).TypeIs (.builtin "object.__class__") "getset_descriptor":=F.typeOf_object_class
 repeat (any_goals (first
  | assumption
  | (with_reducible refine wpAny_loadPart_at hx ?_; rw[hc])
  | (with_reducible refine wpAny_isSubtype_exc hC ?_; rw[own])
  | wp_step))
 refine⟨Code.quiet_builtin _ (by decide +kernel),codeAny_builtin F.entry_object_class ?_⟩
 repeat (any_goals (first
  | assumption
  | (with_reducible refine wpAny_loadPart_at hx ?_; rw[hc])
  | wp_step))
theorem qJ {tk:Tok}{Q:Fin->Shared->Prop}(X:K.In h)(x:XLook K C)(hx:h.get? a=some o)(hc:o.cls=.ref C)(hq:Q (.done (.ret (.ref C))) ⟨h,g,d,t,os⟩) :
  wpAny (model prog w) A (Builtin.«object.__getattribute__» ⟨[.ref a,.str "__class__" tk],[]⟩) Q E ⟨h,g,d,t,os⟩:=by
 have ty0:(⟨h,g,d,t,os⟩:Shared).TypeIs (.builtin "object.__class__") "getset_descriptor":=F.typeOf_object_class
 have ty1:=F.typeOf_object_class
 have lk1:=F.slot_gs_get.lookup
 have lk2:=F.slot_gs_set.lookup
 have L:=PySem.W.looks_findIn (M:=model prog w) X x.kc
 repeat (any_goals (first
  | assumption
  | (with_reducible refine wpAny_loadPart_at hx ?_; rw[hc])
  | with_reducible refine L.at ?_
  | wp_step))
 refine wg X x hx hc ?_
 repeat (any_goals (first
  | assumption
  | wp_step))
theorem pZ {M:Model}{nameV:Value}{Q:Unit->Shared->Prop}(X:K.In h)(x:XLook K C)(hx:h.get? a=some o)(hc:o.cls=.ref C)(hq:Q () ⟨h,g,d,t,os⟩) :
  wpAny M A (checkBuiltinCall "BaseException.__getattribute__" ⟨[.ref a,nameV],[]⟩) Q E ⟨h,g,d,t,os⟩:=by
 obtain⟨bm,Na,nm,qn,bs,hdd,sn,sub,ab,col,dd,k0,k1,k2,k3,k5,kC,_,_,hT⟩:=bY x.ex x.lk
 have hC:=X _ _ kC
 have TL:=PySem.W.tail_of_in X hT
 have own:(Value.ref C::bm).contains (.type "BaseException")=true:=by
  rw[AL,TL.hasType (show List.contains [Value.type "ValueError",Value.type "Exception",Value.type "BaseException",Value.type "object"] (Value.type "BaseException")=true by decide)]
  rfl
 have bk:builtinKind "BaseException.__getattribute__"=some .slot:=by decide +kernel
 have bsp:splitId "BaseException.__getattribute__"=some ("BaseException","__getattribute__"):=by decide +kernel
 have ba:=F.args_bexc_ga (.ref a) nameV
 simp only[checkBuiltinCall,bk,bsp]
 refine wpAny_bind ?_
 unfold isInstance
 repeat (first
  | (with_reducible refine wpAny_loadPart_at hx ?_; rw[hc])
  | (with_reducible refine wpAny_isSubtype_exc hC ?_; rw[own])
  | wp_step)
 exact hq
theorem uM {tk:Tok}{R:Result->Shared->Prop}(X:K.In h)(x:XLook K C)(hx:h.get? a=some o)(hc:o.cls=.ref C)(hq:R (.ok (.ret (.ref C))) ⟨h,g,d,t,os⟩) :
  codeAny (model prog w) A (.call (.builtin "BaseException.__getattribute__") ⟨[.ref a,.str "__class__" tk],[]⟩) R ⟨h,g,d,t,os⟩ :=
 codeAny_call_builtin F.attr_ValueError.ga.plain F.entry_bexc_ga (pZ X x hx hc (qJ X x hx hc hq))
theorem xO {tk:Tok}{Q:Value->Shared->Prop}(X:K.In h)(x:XLook K C)(hx:h.get? a=some o)(hc:o.cls=.ref C)(hq:Q (.ref C) ⟨h,g,d,t,os⟩) :
  wpAny (model prog w) A (getAttrBy (.ref a) (.str "__class__" tk) false) Q E ⟨h,g,d,t,os⟩:=by
 have bd:=F.attr_ValueError.ga.bind (.ref a)
 have n2:(Value.builtin "BaseException.__getattribute__" == Value.builtin "object.__getattribute__")=false:=by decide +kernel
 have n1:(onTheHeap (Value.ref C)&&Value.builtin "BaseException.__getattribute__" == Value.builtin "object.__getattribute__")=false:=by rw[n2]; rfl
 have L:=PySem.W.looks_findIn (M:=model prog w) X x.ga
 have L2:=PySem.W.looks_findIn (M:=model prog w) X x.gn
 repeat (any_goals (first
  | assumption
  | (with_reducible refine wpAny_loadPart_at hx ?_; rw[hc])
  | with_reducible refine L.at ?_
  | with_reducible refine L2.at ?_
  | wp_step))
 refine uM X x hx hc ?_
 repeat (any_goals (first
  | assumption
  | wp_step))
theorem uN {Q:Option Value->Shared->Prop}(X:K.In h)(x:XLook K C)(hx:h.get? a=some o)(hc:o.cls=.ref C)(hq:Q (some (.ref C)) ⟨h,g,d,t+1,os⟩) :
  wpAny (model prog w) A (getAttr? (.ref a) "__class__") Q E ⟨h,g,d,t,os⟩:=by
 unfold getAttr? getAttrBy?
 repeat (any_goals (first
  | assumption
  | with_reducible apply xO X x hx hc
  | wp_step))
end
theorem iB {K:PySem.W.Frag}{a C:Addr}(x:XLook K C):PySem.W.KitX K (.ref a) (.ref C) (jn a C) where
 ty:=λ M h _ p=>by
  obtain⟨o,vs,h1,h2,_⟩:=p
  intro A Q E s k q
  unfold typeOf
  exact wpAny_bind (wpAny_loadPart (k _ _ h1) (wpAny_pure (by rw[h2]; exact q)))
 it:=λ M h X _=>by
  obtain⟨bm,Na,nm,qn,bs,hdd,sn,sub,ab,col,dd,k0,k1,k2,k3,k5,kC,_,_,hT⟩:=bY x.ex x.lk
  intro A Q E s k q
  unfold isType loadHead
  exact wpAny_bind (wpAny_loadPart (k _ _ (X _ _ kC)) (wpAny_pure q))
 ne:=λ h tp dd its n sl X htp=>by
  obtain⟨bm,Na,nm,qn,bs,hdd,sn,sub,ab,col,dd',k0,k1,k2,k3,k5,kC,_,_,hT⟩:=bY x.ex x.lk
  refine Bool.eq_false_iff.mpr λ q=>?_
  have e:C=tp:=Value.ref.inj (beq_iff_eq.mp q)
  subst e
  have z:=congrArg (Option.map Obj.cls) ((X _ _ kC).symm.trans htp)
  simp[excClassObj] at z
 ca:=λ {prog w A E Q s} X p k=>by
  obtain⟨o,vs,h1,h2,_⟩:=p
  obtain⟨h,g,d,t,os⟩:=s
  exact uN X x h1 h2 k
structure XAll (K:PySem.W.Frag)(mg:Str->Option Value)(ad:String->Option Addr):Prop where
 cl:∀ c C,ad c=some C->XCls K mg c C/\XLook K C
 sub:∀ c C k C',ad c=some C->ad k=some C'->PySem.W.kitOne K (.ref C) (.ref C')=some (Dv.subX c k)
 val:∀ c C,ad c=some C->PySem.W.kitOne K (.ref C) (.type "ValueError")=some true
theorem qA {X:Cx}{ad:String->Option Addr}(xa:XAll X.K X.mg ad){k:String}{C':Addr}(hk:ad k=some C') :
  cM X (.builtin "isinstance") (λ xs H Q=>∃ x c,xs=[x,.ref C']/\(∃ C,ad c=some C)/\Rp X.K H (.exn c) x/\Q (.bl (Dv.subX c k)) H):=by
 intro pins s σ H xs us Q I r h
 obtain⟨x,c,rfl,⟨C,hc⟩,rp,q⟩:=h
 obtain⟨u,w',rfl,ru,rw'⟩:=jm r
 obtain rfl:w'=Value.ref C':=rw'
 unfold Rp at rp
 obtain⟨a,C2,rfl,n2,h2⟩:=rp
 obtain⟨x1,x2⟩:=xa.cl c C hc
 have e:C2=C:=by
  have:=n2.symm.trans x1.ns
  simpa using this
 subst e
 cases ru
 obtain⟨p,_⟩:=I.hok a _ h2
 exact PySem.W.kia_one (iB x2) I.kIn p (xa.sub c _ k C' hc hk) (λ z=>nomatch z) λ tk=>⟨.bl (Dv.subX c k),H,I.tok tk,rfl,q⟩
theorem rR {X:Cx}{ad:String->Option Addr}(xa:XAll X.K X.mg ad) :
  cM X (.builtin "isinstance") (λ xs H Q=>∃ x c,xs=[x,.ty "ValueError"]/\(∃ C,ad c=some C)/\Rp X.K H (.exn c) x/\Q (.bl true) H):=by
 intro pins s σ H xs us Q I r h
 obtain⟨x,c,rfl,⟨C,hc⟩,rp,q⟩:=h
 obtain⟨u,w',rfl,ru,rw'⟩:=jm r
 obtain rfl:w'=Value.type "ValueError":=rw'
 unfold Rp at rp
 obtain⟨a,C2,rfl,n2,h2⟩:=rp
 obtain⟨x1,x2⟩:=xa.cl c C hc
 have e:C2=C:=by
  have:=n2.symm.trans x1.ns
  simpa using this
 subst e
 cases ru
 obtain⟨p,_⟩:=I.hok a _ h2
 exact PySem.W.kia_one (iB x2) I.kIn p (xa.val c _ hc) (λ z=>nomatch z) λ tk=>⟨.bl true,H,I.tok tk,rfl,q⟩
theorem Fly.un {P:Program}{w:World}{outer:List PySem.Env}{H H':Hp}{s s':Shared}{a t:Addr}{cls:Value}{B h:Heap}(F:Fly P w outer H s a cls H' B t s')(sb:B.StaysIn h)(sm:s'.heap.UpToSlots h)(hf:∀ b∈frs outer,H b=none) :
  Un (frs outer) [] H H' s.heap h where
 keep:=λ b o e n hb _=>sb b o (F.keepB b o e n hb)
 slot:=λ b o e n hb _=>by
  obtain⟨sl,e1⟩:=F.slot b o e n hb
  obtain⟨sl2,e2⟩:=sm b _ e1 (bZ F.fl.2.2.1 hb e1)
  exact⟨sl2,e2⟩
 free:=λ b o e n _=>F.free b o e n
 there:=λ b o e _=>by
  by_cases hb:b∈frs outer
  ·obtain⟨sl,e1⟩:=F.slot b o e (hf b hb) hb
   obtain⟨sl2,e2⟩:=sm b _ e1 (bZ F.fl.2.2.1 hb e1)
   exact⟨_,e2⟩
  ·obtain⟨o1,e1⟩:=F.thereB b o e hb
   exact⟨o1,sb b o1 e1⟩
 tups:=F.tups
 frzs:=F.frzs
 tbls:=F.tbls
theorem Fly.none {P:Program}{w:World}{outer:List PySem.Env}{H H':Hp}{s s':Shared}{a t:Addr}{cls:Value}{B:Heap}(F:Fly P w outer H s a cls H' B t s'):H' a=Option.none:=by
 cases q:H' a with
 | none=>rfl
 | some o =>
  have e:=F.fl.2.1
  obtain⟨o',h1⟩:∃ o',B.get? a=some o':=by
   have:=(F.hokB a o q).lt
   have k:=F.hokB a o q
   cases o with
   | lst xs=>obtain⟨_,_,_,_,z⟩:=k; exact⟨_,z⟩
   | tup xs=>obtain⟨_,_,_,_,z,_⟩:=k; exact⟨_,z⟩
   | dK kvs=>obtain⟨_,_,_,_,o,_,_,z,_⟩:=k; exact⟨_,z⟩
   | dT kvs=>obtain⟨_,_,_,_,o,_,_,z,_⟩:=k; exact⟨_,z⟩
   | set S n=>obtain⟨o,_,_,_,z,_⟩:=k; exact⟨_,z⟩
   | ins C dx fs=>obtain⟨_,_,_,z,_⟩:=k; exact⟨_,z⟩
   | own y=>obtain⟨_,z⟩:=k; exact⟨_,z⟩
   | xd fs=>obtain⟨_,⟨_,_,_,z,_⟩,_⟩:=k; exact⟨_,z⟩
   | rng lo hi=>obtain⟨_,_,_,z⟩:=k; exact⟨_,z⟩
   | frz ob u=>obtain⟨z,_⟩:=k; exact⟨_,z⟩
   | tbl ps=>exact⟨_,(show B.get? a=some _ from k)⟩
   | met f y=>exact⟨_,(show B.get? a=some _ from k)⟩
   | ext φ=>obtain⟨_,⟨_,z⟩,_⟩:=k; exact⟨_,z⟩
  rw[e] at h1
  cases h1
noncomputable def sH (X:Cx)(pins:List (Addr × Obj))(xe:Value->Shared->Prop):Cx:={ X with pn:=X.pn++pins,xe:=xe }
noncomputable def hdX (X:Cx)(pins:List (Addr × Obj))(e:Addr):Cx:={ X with A:=X.A.mark (some (.ref e)),calm:=false,pn:=X.pn++pins,xe:=λ _ _=>False }
section
variable {X:Cx}{pins pins':List (Addr × Obj)}{σ:St}{H:Hp}{s:Shared}{xe:Value->Shared->Prop}{e:Addr}
theorem Inv.toTry (I:Inv X pins σ H s):Inv (sH X pins xe) [] σ H s :=
 ⟨⟨I.ok.mod,I.ok.kind,I.ok.glob,I.ok.blt,I.ok.above,I.ok.inj,I.ok.has,I.ok.cab,I.ok.hd,I.ok.frames,I.ok.stk,I.ok.exf,I.ok.bs,I.ok.bsz,I.ok.noex,I.ok.exfs,I.ok.funs,I.ok.frf⟩,I.os,I.bare,I.base,I.loc,I.cell,I.free,I.freeC,λ p hp=>I.pin p (by
  have hp':p∈(X.pn++pins)++[]:=hp
  rwa [zz] at hp'),I.hok,I.len⟩
theorem Inv.ofTry (I:Inv (sH X pins xe) pins' σ H s):Inv X pins σ H s :=
 ⟨⟨I.ok.mod,I.ok.kind,I.ok.glob,I.ok.blt,I.ok.above,I.ok.inj,I.ok.has,I.ok.cab,I.ok.hd,I.ok.frames,I.ok.stk,I.ok.exf,I.ok.bs,I.ok.bsz,I.ok.noex,I.ok.exfs,I.ok.funs,I.ok.frf⟩,I.os,I.bare,I.base,I.loc,I.cell,I.free,I.freeC,λ p hp=>I.pin p (zx _ hp),I.hok,I.len⟩
theorem Inv.toHd (I:Inv X pins σ H s):Inv (hdX X pins e) [] σ H s :=
 ⟨⟨I.ok.mod,I.ok.kind,I.ok.glob,I.ok.blt,I.ok.above,I.ok.inj,I.ok.has,I.ok.cab,(λ z=>nomatch z),I.ok.frames,I.ok.stk,I.ok.exf,I.ok.bs,I.ok.bsz,I.ok.noex,I.ok.exfs,I.ok.funs,I.ok.frf⟩,I.os,I.bare,I.base,I.loc,I.cell,I.free,I.freeC,λ p hp=>I.pin p (by
  have hp':p∈(X.pn++pins)++[]:=hp
  rwa [zz] at hp'),I.hok,I.len⟩
theorem Inv.ofHd (hd:X.calm=true->X.A.handled=none)(I:Inv (hdX X pins e) pins' σ H s):Inv X pins σ H s :=
 ⟨⟨I.ok.mod,I.ok.kind,I.ok.glob,I.ok.blt,I.ok.above,I.ok.inj,I.ok.has,I.ok.cab,hd,I.ok.frames,I.ok.stk,I.ok.exf,I.ok.bs,I.ok.bsz,I.ok.noex,I.ok.exfs,I.ok.funs,I.ok.frf⟩,I.os,I.bare,I.base,I.loc,I.cell,I.free,I.freeC,λ p hp=>I.pin p (zx _ hp),I.hok,I.len⟩
theorem SP.ofTry {D:Ends}{f:Flow}(h:SP (sH X pins xe) pins' D f s):SP X pins D f s:=by
 cases f with
 | next=>obtain⟨σ',H',I,q⟩:=h; exact⟨σ',H',Inv.ofTry I,q⟩
 | brk=>obtain⟨σ',H',I,q⟩:=h; exact⟨σ',H',Inv.ofTry I,q⟩
 | cont=>obtain⟨σ',H',I,q⟩:=h; exact⟨σ',H',Inv.ofTry I,q⟩
 | ret u=>obtain⟨v,σ',H',I,r,q⟩:=h; exact⟨v,σ',H',Inv.ofTry I,r,q⟩
end
noncomputable def qK (C:Ctx)(pins:List (Addr × Obj))(xe:Value->Shared->Prop)(W:St->XK)(own:PassesOwn (model C.X.prog C.X.w) C.X.A C.X.env xe)
  (pass:∀ (pins':List (Addr × Obj)) (σ:St) (H:Hp) (s:Shared) (e:Value) (s':Shared),Inv (sH C.X pins xe) pins' σ H s->C.CX C.X.stack H s (W σ) e s'->xe e s'):Ctx where
 X:=sH C.X pins xe
 W:=W
 cls:=C.cls
 CX:=C.CX
 un:=C.un
 own:=own
 pass:=pass
 cxF:=C.cxF
noncomputable def uS (C:Ctx)(pins:List (Addr × Obj))(e:Addr):Ctx where
 X:=hdX C.X pins e
 W:=λ _ _ _ _=>False
 cls:=C.cls
 CX:=C.CX
 un:=C.un
 own:=PassesOwn.never
 pass:=λ _ _ _ _ _ _ _ h=>C.cxF _ _ _ _ _ h
 cxF:=C.cxF
theorem RelC.unset {K:PySem.W.Frag}{Hv₀ H₀ Hc H:Hp}{O:Nat->Hp}{st:Dv.St}{σ:St}{i:Nat}(r:RelC K Hv₀ H₀ Hc O st σ H):RelC K Hv₀ H₀ Hc O (st.set i .no) (σ.set i none) H:=r.setNo
theorem d6 {X:Cx}{pins:List (Addr × Obj)}{σ:St}{H:Hp}{s:Shared}{A:Around}{E:Value->Shared->Prop}{i:Nat}{n:Str}{pos:Pos}{Q:Unit->Shared->Prop}{M:Model}(I:Inv X pins σ H s)(hN:X.N.Nodup)(hi:X.N[i]?=some n)(hl:X.env.scope.names.lookup n=some .local)
  (h:∀ s',Inv X pins (σ.set i none) H s'->Q () s'):wpAny M A (do bindName X.env n .none; unbindBehindTheSuite X.env n pos) Q E s:=by
 obtain⟨m,hn,hm⟩:=id I.loc
 have kf:(X.env.scope.kind == .class || (X.env.scope.kind == .module&&X.env.locals != X.env.globals))=false:=by rw[I.ok.kind]; rfl
 refine wpAny_nameGoes_keeps hl hn kf λ h' v hn' hs=>h _ ?_
 obtain⟨oL,_,_,hoL,_⟩:=id hn
 have old:∀ {b:Addr} {o:Obj},X.s₀.heap.get? b=some o->b≠X.env.locals:=λ {b o} e=>zb (zg (Heap.lt_size e) I.ok.above)
 have cne:=I.cne
 refine⟨I.ok,I.os,I.bare,⟨λ b o e n' hb hx=>(hs.2 b (old e)).trans (I.base.keep b o e n' hb hx),λ b o e n' hb hx=>?_,I.base.free,λ b o e hx=>?_,I.base.tups,I.base.frzs,I.base.tbls⟩,⟨_,hn',λ j y v' e1 e2 e3=>?_⟩,λ y c e=>?_,I.free,I.freeC,λ p hp=>?_,?_,by rw[zh]; exact I.len⟩
 ·obtain⟨sl,e1⟩:=I.base.slot b o e n' hb hx
  exact⟨sl,(hs.2 b (old e)).trans e1⟩
 ·obtain⟨o',e1⟩:=I.base.there b o e hx
  exact⟨o',(hs.2 b (old e)).trans e1⟩
 ·rcases cq e2 with ⟨_,z,_⟩|⟨hj,e2⟩
  ·cases z
  ·obtain⟨u,r,q⟩:=hm j y v' e1 e2 e3
   refine⟨u,r,?_⟩
   have hyn:y≠n:=λ z=>by
    subst z
    have hjl:j<X.N.length:=(List.getElem?_eq_some_iff.mp e1).1
    have hil:i<X.N.length:=(List.getElem?_eq_some_iff.mp hi).1
    have e3':X.N[j]=X.N[i]:=by
     have a1:=(List.getElem?_eq_some_iff.mp e1).2
     have a2:=(List.getElem?_eq_some_iff.mp hi).2
     rw[a1,a2]
    exact hj ((Bw (h₀:=hjl) (h₁:=hil) hN).mp e3')
   rcases q with ⟨q1,q2⟩|⟨q1,c,q2,q3⟩
   ·exact .inl ⟨q1,(if_neg hyn).trans q2⟩
   ·refine .inr ⟨q1,c,q2,?_⟩
    exact q3.sameBut hs (cne y c q2)
 ·obtain⟨v,hv⟩:=I.cell y c e
  exact⟨v,hv.sameBut hs (cne y c e)⟩
 ·obtain⟨p1,p2,p3,p4⟩:=I.pin p hp
  exact⟨(hs.2 p.1 p3).trans p1,p2,p3,p4⟩
 ·exact mV I.hok λ b u hb q=>(hs.2 b λ z=>hb (by rw[z]; exact I.free)).trans q
theorem rP {M:Model}{A:Around}{E:Value->Shared->Prop}{K:PySem.W.Frag}{h:Heap}{g:Array GenState}{d:Drawn}{t:Nat}{os:OsState}{a C Ck:Addr}{o:Obj}{Q:Bool->Shared->Prop}(X:K.In h)(xk:XLook K Ck)(hx:h.get? a=some o)(hc:o.cls=.ref C)
  (sub:PySem.W.Looks M h (isSubtype (.ref C) (.ref Ck)) true) (hq:Q true ⟨h,g,d,t,os⟩):wpAny M A (excMatches (.ref a) (.ref Ck)) Q E ⟨h,g,d,t,os⟩:=by
 obtain⟨bm,Na,nm,qn,bs,hdd,sn,su,ab,col,dd,k0,k1,k2,k3,k5,kC,_,_,hT⟩:=bY xk.ex xk.lk
 have hC:=X _ _ kC
 have TL:=PySem.W.tail_of_in X hT
 have own:(Value.ref Ck::bm).contains (.type "BaseException")=true:=by
  rw[AL,TL.hasType (show List.contains [Value.type "ValueError",Value.type "Exception",Value.type "BaseException",Value.type "object"] (Value.type "BaseException")=true by decide)]
  rfl
 have nt:=tc_notTuple
 unfold excMatches
 repeat (first
  | (with_reducible refine wpAny_loadPart_at hx ?_; rw[hc])
  | with_reducible refine wpAny_loadPart_at hC ?_
  | with_reducible refine sub.at ?_
  | (with_reducible refine wpAny_isSubtype_exc hC ?_; rw[own])
  | wp_step)
 exact hq
theorem oS {M:Model}{K:PySem.W.Frag}{h:Heap}{C Ck:Addr}(X:K.In h)(x:XLook K C)(e:PySem.W.kitOne K (.ref C) (.ref Ck)=some true):PySem.W.Looks M h (isSubtype (.ref C) (.ref Ck)) true:=by
 unfold PySem.W.kitOne at e
 split at e
 ·rename_i q
  have z:Value.ref C=Value.ref Ck:=beq_iff_eq.mp q
  rw[<- z]
  obtain⟨bm,Na,nm,qn,bs,hdd,sn,su,ab,col,dd,k0,k1,k2,k3,k5,kC,_,_,hT⟩:=bY x.ex x.lk
  intro A Q E s k hq
  have hC:=k _ _ (X _ _ kC)
  obtain⟨hh,g,d,t,os⟩:=s
  refine wpAny_isSubtype_exc hC ?_
  have own:(Value.ref C::bm).contains (Value.ref C)=true:=by simp
  rw[own]
  exact hq
 ·exact(PySem.W.kit_cls X e).2.2
theorem ug {C C':Ctx}{Hv₀ H₀:Hp}{D:Ends}{o o':Out}(hK:C'.X.K=C.X.K)(w:OkS C Hv₀ H₀ D o')(hx:∀ c st2,o=.exc c st2->∀ σ H,Rel C.X.K Hv₀ H₀ st2 σ H->C'.W σ (C'.cls c) none H)(ho:(∀ c st2,o≠.exc c st2)->o'=o):OkS C' Hv₀ H₀ D o:=by
 have nx:∀ {st:Dv.St} {σ:St} {H:Hp},Rel C'.X.K Hv₀ H₀ st σ H->Rel C.X.K Hv₀ H₀ st σ H:=λ {st σ H} r=>by rw[<- hK]; exact r
 cases o with
 | exc c st2=>exact λ σ H r=>hx c st2 rfl σ H (nx r)
 | nx st2=>rw[ho (λ _ _ z=>nomatch z)] at w; exact λ σ H r=>w σ H (nx r)
 | brk st2=>rw[ho (λ _ _ z=>nomatch z)] at w; exact λ σ H r=>w σ H (nx r)
 | cont st2=>rw[ho (λ _ _ z=>nomatch z)] at w; exact λ σ H r=>w σ H (nx r)
 | ret d nw =>
  rw[ho (λ _ _ z=>nomatch z)] at w
  have e:C'.X.K=C.X.K:=hK
  unfold OkS at w ⊢
  rw[e]
  exact w
 | bad=>rw[ho (λ _ _ z=>nomatch z)] at w; exact w
section
variable {C:Ctx}{ad:String->Option Addr}{kn:List String}{k:String}{Ck:Addr}{body suite:List Stmt}{b₀:Stmt}{F G:SS}{np hpos pos:Pos}
theorem sM (xa:XAll C.X.K C.X.mg ad)(hkn:∀ c∈kn,∃ Ca,ad c=some Ca/\C.cls c=.ref Ca)(hk:ad k=some Ck){i:Nat}{n:Str}(hN:C.X.N.Nodup)(hi:C.X.N[i]?=some n)(hg:Gl C.X (Str.ofString k))
  (hb:∀ pins xe W own pass,SSs (qK C pins xe W own pass) body F) (hh:∀ pins e,SSs (uS C pins e) (b₀::suite) G)
  (hl:autoParam (C.X.env.scope.names.lookup n=some .local) Au.h4._auto_1) (hd:autoParam ((Str.ofString k == ("__debug__":Str))=false) Au.h2._auto_1) (hCX:autoParam (C.CX=CXe C.X.prog C.X.w) Au.h4._auto_1) (hstk:autoParam (C.X.stack=C.X.env::C.X.outer) Au.h4._auto_1) (hfr:autoParam (C.X.env.frame=some C.X.env.locals) Au.h4._auto_1) :
  SSt C (.Try body [.ExceptHandler (some (.Name (Str.ofString k) np)) (some n) (b₀::suite) hpos] [] [] pos) (Dv.sTryAs kn i k F G):=by
 refine⟨λ D σ H=>∃ Hv₀ H₀ st,Rel C.X.K Hv₀ H₀ st σ H/\OkS C Hv₀ H₀ D (Dv.sTryAs kn i k F G st),?_,λ Hv₀ H₀ E σ H st r w=>⟨Hv₀,H₀,st,r,w⟩⟩
 rintro pins s σ H D I ⟨Hv₀,H₀,st,r,w⟩
 refine wpAny_Try_except ?_
 have hhd:=I.ok.hd
 unfold Dv.sTryAs at w
 have key:∀ (pins':List (Addr × Obj)) (σ':St) (H':Hp) (s':Shared) (e:Value) (s'':Shared),Inv C.X pins σ' H' s' ->
   C.CX C.X.stack H' s' (λ cv _ H2=>∃ c st',F st=.exc c st'/\cv=C.cls c/\Rel C.X.K Hv₀ H₀ st' σ' H2) e s'' ->
   wpAny (model C.X.prog C.X.w) C.X.A (noteFrame e C.X.env) (λ _ s₂=>wpAny (model C.X.prog C.X.w) C.X.A (setFlight e none) (λ _ s₃=>wpAny (model C.X.prog C.X.w) C.X.A (handleBy e C.X.env [.ExceptHandler (some (.Name (Str.ofString k) np)) (some n) (b₀::suite) hpos]) (SP C.X pins D) C.X.xe s₃) C.X.xe s₂) C.X.xe s'':=by
  rintro pins' σ' H' s' e s'' I0 hx
  rw[hCX] at hx
  obtain⟨a,cv,H2,B,t,rfl,Fl,c,st',hF,rfl,Hc,O,rel⟩:=hx
  rw[hF] at w
  by_cases hs:(kn.contains c&&Dv.subX c k)=true
  case neg=>simp only[hs] at w; exact(show False from w).elim
  simp only[hs,if_true] at w
  rw[yN] at hs
  obtain⟨Ca,hca,hcv⟩:=hkn c (List.contains_iff_mem.mp hs.1)
  obtain⟨x1,x2⟩:=xa.cl c Ca hca
  obtain⟨y1,y2⟩:=xa.cl k Ck hk
  have hsub:=xa.sub c Ca k Ck hca hk
  rw[hs.2] at hsub
  have hfl:=Fl.fl
  rw[hcv,hstk] at hfl
  have frames:C.X.A.frames=some (C.X.env::C.X.outer):=by rw[<- hstk]; exact I0.ok.frames
  refine wpAny_looks_onW frames hfr hfl λ h4 held4 sm4=>?_
  refine wpAny_landsW held4 λ h5 fl5 sm5=>?_
  have ff:∀ b∈frs C.X.stack,H' b=none:=λ b hb=>I0.stkFree b hb
  have inv:∀ h,B.StaysIn h->s''.heap.UpToSlots h->Inv C.X pins σ' H2 { s'' with heap:=h }:=λ h sb sm =>
   I0.call' (s':={ s'' with heap:=h }) (ch:=[]) Fl.os (Fl.un sb sm ff) (Fl.hokB.kept λ b u q=>sb b u q) Fl.bare λ b hb=>absurd hb (by simp)
  have I5:=inv h5 fl5.1 (sm4.trans sm5)
  refine wpAny_handleBy_cons (codeAny_handlers_test ?_) (by intro q; cases q)
  refine gv (X:=hdX C.X pins a) (Inv.toHd I5) hg y1.m ?_ hd
  obtain⟨oe,vs,T,oT,ts,e1,e2,e3,_⟩:=fl5.2.2.2
  refine rP (h:=h5) I5.kIn y2 e1 e2.1 (oS I5.kIn x2 hsub) ?_
  refine codeAny_handlers_suite_as (lands_againW fl5 λ h6 fl6 sm6=>?_)
  have I6:=inv h6 fl6.1 ((sm4.trans sm5).trans sm6)
  have hna:H2 a=Option.none:=Fl.none
  obtain⟨oe6,vs6,T6,oT6,ts6,f1,f2,f3,_⟩:=fl6.2.2.2
  have hok6:HOk C.X.prog C.X.w (upd H2 a (.ext (jn a Ca))) h6:=fW I6.hok hna ⟨⟨oe6,vs6,f1,f2.1,f3⟩,⟨oe6,f1⟩,λ h1 h2 ⟨o,ws,z1,z2,z3⟩ kp=>⟨o,ws,kp o z1,z2,z3⟩⟩
  have na:∀ {b:Addr} {o:Obj},s'.heap.get? b=some o->b≠a:=λ {b o} e z=>by
   subst z
   by_cases hb:b∈frs C.X.stack
   ·obtain⟨sl,q1⟩:=Fl.slot b o e (ff b hb) hb
    obtain⟨sl2,q2⟩:=(sm4.trans sm5).trans sm6 b _ q1 (bZ Fl.fl.2.2.1 hb q1)
    have fr6:=fl6.2.2.1
    rw[<- hstk] at fr6
    exact bZ fr6 hb f1 vs6 f3
   ·obtain⟨o1,q1⟩:=Fl.thereB b o e hb
    rw[Fl.fl.2.1] at q1
    cases q1
  have I7:Inv C.X pins σ' (upd H2 a (.ext (jn a Ca))) { s'' with heap:=h6 }:=by
   have u6:=Fl.un fl6.1 ((sm4.trans sm5).trans sm6) ff
   refine I0.call' (s':={ s'' with heap:=h6 }) (ch:=[]) Fl.os ⟨u6.keep,u6.slot,λ b o e q hx=>?_,u6.there,λ b xs e=>?_,λ b o u e=>?_,λ b ps e=>?_⟩ hok6 Fl.bare λ b hb=>absurd hb (by simp)
   ·rw[ar (na e)]; exact u6.free b o e q hx
   ·rw[ar (ax (u6.tups b xs e) hna)]; exact u6.tups b xs e
   ·rw[ar (ax (u6.frzs b o u e) hna)]; exact u6.frzs b o u e
   ·obtain⟨more,z⟩:=u6.tbls b ps e
    exact⟨more,by rw[ar (ax z hna)]; exact z⟩
  refine cY (X:=hdX C.X pins a) (v:=.ref a) (Inv.toHd I7) hN hi (.inl hl) rfl (λ s8 I8=>?_) (.inr hl)
  obtain⟨tg,pg,qg⟩:=hh pins a
  have rel8:Rel C.X.K Hv₀ H₀ (st'.set i (.sh (.exn c))) (σ'.set i (some (.ref a))) (upd H2 a (.ext (jn a Ca))):=by
   have x8:=Ext.new1 rel.ch hna (.ext (jn a Ca))
   refine⟨_,O,(rel.growC x8).setSh ?_⟩
   unfold Rp
   exact⟨a,Ca,rfl,x1.ns,aD⟩
  have ok8:OkS (uS C pins a) Hv₀ H₀ { nx:=λ σ2 H3=>D.nx (σ2.set i none) H3,rt:=D.rt,bk:=λ σ2 H3=>D.bk (σ2.set i none) H3,ct:=λ σ2 H3=>D.ct (σ2.set i none) H3 } (G (st'.set i (.sh (.exn c)))):=by
   cases hG:G (st'.set i (.sh (.exn c))) with
   | nx st2=>rw[hG] at w; exact λ σ2 H3 ⟨Hc3,O3,r3⟩=>w _ H3 ⟨Hc3,O3,r3.unset⟩
   | brk st2=>rw[hG] at w; exact λ σ2 H3 ⟨Hc3,O3,r3⟩=>w _ H3 ⟨Hc3,O3,r3.unset⟩
   | cont st2=>rw[hG] at w; exact λ σ2 H3 ⟨Hc3,O3,r3⟩=>w _ H3 ⟨Hc3,O3,r3.unset⟩
   | ret d nw=>rw[hG] at w; exact w
   | exc c2 st2=>rw[hG] at w; exact(show False from w).elim
   | bad=>rw[hG] at w; exact w
  refine wpAny_mono (pg [] s8 _ _ _ I8 (qg Hv₀ H₀ _ _ _ _ rel8 ok8)) (λ fl s9 h9=>?_) λ _ _ z=>z.elim
  cases fl with
  | next =>
   obtain⟨σ9,H9,I9,q9⟩:=h9
   exact d6 (Inv.ofHd hhd I9) hN hi hl λ s10 I10=>⟨_,H9,I10,q9⟩
  | brk =>
   obtain⟨σ9,H9,I9,q9⟩:=h9
   exact d6 (Inv.ofHd hhd I9) hN hi hl λ s10 I10=>⟨_,H9,I10,q9⟩
  | cont =>
   obtain⟨σ9,H9,I9,q9⟩:=h9
   exact d6 (Inv.ofHd hhd I9) hN hi hl λ s10 I10=>⟨_,H9,I10,q9⟩
  | ret u =>
   obtain⟨v,σ9,H9,I9,r9,q9⟩:=h9
   exact d6 (Inv.ofHd hhd I9) hN hi hl λ s10 I10=>⟨v,_,H9,I10,r9,q9⟩
 obtain⟨tb,pb,qb⟩:=hb pins _ (λ σ' cv _ H2=>∃ c st',F st=.exc c st'/\cv=C.cls c/\Rel C.X.K Hv₀ H₀ st' σ' H2) (PassesOwn.looking (K:=λ e s₂=>wpAny (model C.X.prog C.X.w) C.X.A (setFlight e none) (λ _ s₃=>wpAny (model C.X.prog C.X.w) C.X.A (handleBy e C.X.env [.ExceptHandler (some (.Name (Str.ofString k) np)) (some n) (b₀::suite) hpos]) (SP C.X pins D) C.X.xe s₃) C.X.xe s₂) (E₁:=C.X.xe))
  λ pins' σ' H' s' e s'' I' h'=>key pins' σ' H' s' e s'' (Inv.ofTry I') h'
 have okb:OkS (qK C pins _ (λ σ' cv _ H2=>∃ c st',F st=.exc c st'/\cv=C.cls c/\Rel C.X.K Hv₀ H₀ st' σ' H2) (PassesOwn.looking (K:=λ e s₂=>wpAny (model C.X.prog C.X.w) C.X.A (setFlight e none) (λ _ s₃=>wpAny (model C.X.prog C.X.w) C.X.A (handleBy e C.X.env [.ExceptHandler (some (.Name (Str.ofString k) np)) (some n) (b₀::suite) hpos]) (SP C.X pins D) C.X.xe s₃) C.X.xe s₂) (E₁:=C.X.xe))
  λ pins' σ' H' s' e s'' I' h'=>key pins' σ' H' s' e s'' (Inv.ofTry I') h') Hv₀ H₀ D (F st):=by
  refine ug (C:=C) rfl w (λ c st2 h σ2 H2 r2=>⟨c,st2,h,rfl,r2⟩) λ h=>?_
  generalize F st=o at h
  cases o with
  | exc c st2=>exact absurd rfl (h c st2)
  | _=>rfl
 refine wpAny_mono (pb [] s σ H D (Inv.toTry I) (qb Hv₀ H₀ D σ H st r okb)) (λ fl s1 h1=>?_) λ e s1 h1=>h1
 have h2:=SP.ofTry h1
 cases fl with
 | next=>obtain⟨σ2,H2,I2,q2⟩:=h2; exact wpAny_execs_nil ⟨σ2,H2,I2,q2⟩
 | brk=>exact h2
 | cont=>exact h2
 | ret u=>exact h2
end
section
variable {C:Ctx}{ad:String->Option Addr}{kn:List String}{a:Expr}{f:EE}{pos:Pos}
theorem fQ (xa:XAll C.X.K C.X.mg ad)(hkn:∀ c∈kn,∃ Ca,ad c=some Ca){k:String}{Ck:Addr}(hk:ad k=some Ck){p p2:Pos}(hm:C.X.mg "isinstance"=none)(hg:Gl C.X "isinstance")(hgk:Gl C.X (Str.ofString k))(ha:SE C a f)
  (hd:autoParam ((Str.ofString k == ("__debug__":Str))=false) Au.h2._auto_1) (he:autoParam (starEach [a,.Name (Str.ofString k) p2] C.X.env=(false,eval a C.X.env)::starEach [.Name (Str.ofString k) p2] C.X.env) Au.h4._auto_1)
  (he2:autoParam (starEach [.Name (Str.ofString k) p2] C.X.env=[(false,eval (.Name (Str.ofString k) p2) C.X.env)]) Au.h4._auto_1):SE C (.Call (.Name "isinstance" p) [a,.Name (Str.ofString k) p2] [] pos) (Dv.eB1 (Dv.isXD kn [k]) f):=by
 obtain⟨t,pa,qa⟩:=ha
 obtain⟨y1,y2⟩:=xa.cl k Ck hk
 refine⟨_,cZ (qA xa hk) hg hm (by decide +kernel) (aG pa (aG (gg (v:=.ref Ck) hgk y1.m rfl hd) bu he2) he) (by decide) (by decide) he (by rw[he2]; rfl),λ σ H Hv ρ Q e s w=>?_⟩
 refine qa.step e (.refl s) w λ v d fr Hv1 H1 _ x1 _ rp1 _ q1=>?_
 cases d with
 | exn c =>
  by_cases hc:kn.contains c=true
  ·have q2:Ok C.X.K Hv H (C.W σ) C.cls (.ok (.bl ([k].any (Dv.subX c))) true) Q:=by
    have:Dv.isXD kn [k] (.exn c) fr=.ok (.bl ([k].any (Dv.subX c))) true:=if_pos hc
    rw[this] at q1
    exact q1
   obtain⟨Ca,hca⟩:=hkn c (List.contains_iff_mem.mp hc)
   refine⟨v,c,rfl,⟨Ca,hca⟩,rp1.same x1.vh,?_⟩
   have:=q2.at (v:=.bl ([k].any (Dv.subX c))) x1 cI rfl
   simpa using this
  ·have:Dv.isXD kn [k] (.exn c) fr=.bad:=if_neg hc
   rw[this] at q1
   exact q1.elim
 | _=>exact(show False from q1).elim
theorem sO (xa:XAll C.X.K C.X.mg ad)(hkn:∀ c∈kn,∃ Ca,ad c=some Ca){p p2:Pos}(hm:C.X.mg "isinstance"=none)(hmx:C.X.mg "ValueError"=none)(hg:Gl C.X "isinstance")(hgk:Gl C.X "ValueError")(ha:SE C a f)
  (he:autoParam (starEach [a,.Name "ValueError" p2] C.X.env=(false,eval a C.X.env)::starEach [.Name "ValueError" p2] C.X.env) Au.h4._auto_1)
  (he2:autoParam (starEach [.Name "ValueError" p2] C.X.env=[(false,eval (.Name "ValueError" p2) C.X.env)]) Au.h4._auto_1):SE C (.Call (.Name "isinstance" p) [a,.Name "ValueError" p2] [] pos) (Dv.eB1 (Dv.isXD kn ["ValueError"]) f):=by
 obtain⟨t,pa,qa⟩:=ha
 refine⟨_,cZ (rR xa) hg hm (by decide +kernel) (aG pa (aG (nL (v:=.ty "ValueError") hgk hmx (by decide +kernel) rfl (by decide) (by decide)) bu he2) he) (by decide) (by decide) he (by rw[he2]; rfl),λ σ H Hv ρ Q e s w=>?_⟩
 refine qa.step e (.refl s) w λ v d fr Hv1 H1 _ x1 _ rp1 _ q1=>?_
 cases d with
 | exn c =>
  by_cases hc:kn.contains c=true
  ·have q2:Ok C.X.K Hv H (C.W σ) C.cls (.ok (.bl true) true) Q:=by
    have:Dv.isXD kn ["ValueError"] (.exn c) fr=.ok (.bl true) true:=(if_pos hc).trans (by simp[Dv.subX])
    rw[this] at q1
    exact q1
   obtain⟨Ca,hca⟩:=hkn c (List.contains_iff_mem.mp hc)
   exact⟨v,c,rfl,⟨Ca,hca⟩,rp1.same x1.vh,q2.at (v:=.bl true) x1 cI rfl⟩
  ·have:Dv.isXD kn ["ValueError"] (.exn c) fr=.bad:=if_neg hc
   rw[this] at q1
   exact q1.elim
 | _=>exact(show False from q1).elim
end
open PySem PySem.W PySem.Calls PyProof.Rows
theorem ii:∀ {ns:List Int} {x:Int},x∈ns->(WData.int x).weight<=WData.weightAll (ns.map WData.int)
 | [],_,h=>by simp at h
 | n::r,x,h=>by
  rw[yH]
  unfold WData.weightAll
  rcases List.mem_cons.mp h with rfl|h
  ·omega
  ·have:=ii h
   omega
theorem uh {ns:List Int}(h:WData.layableAll [WData.list (ns.map WData.int)]=true):∀ x∈ns,Dv.bits x<=1048576:=λ x hx=>by
 have h1:=layableW_arg h _ (yR ..)
 obtain⟨_,_,h2⟩:=layableW_iff.mp h1
 have h3:WData.weight (WData.list (ns.map WData.int))=WData.weightAll (ns.map WData.int):=by unfold WData.weight; rfl
 have h4:=ii hx
 have h5:(WData.int x).weight=Dv.bits x:=by
  unfold WData.weight Dv.bits
  by_cases e:x=0
  ·simp[e]
  ·simp[e]
 rw[h3] at h2
 omega
theorem tL {l:OpenLaw}{n:Nat}{q:Program}{loose:List Str}{XP:(Str->Option Value)->Heap->Prop}{YP:World->Heap->Prop}{d:DefRec}(hn:l.most=some n)(hdf:d.params.defaults=[])
  (run:∀ (w:World) (s₀ s₁:Shared) (mg mb:Str->Option Value) (fa:Addr) (a:Addr) (vs:List Value) (ns:List Int),Ground q loose [] XP w s₀ mg mb s₁.heap->YP w s₁.heap->mg d.name=some (.ref fa) ->
   s₁.heap.get? a=some { cls:=.type "list",data:=.seq vs.toArray }->IntsAre vs ns->ns.length<=n->(∀ x∈ns,Dv.bits x<=1048576)->s₁.gens=#[] ->
   codeAny (model l.prog w) callerA (.call (.ref fa) ⟨[.ref a],[]⟩) (λ r s'=>r=.ok (.ret (.bool true))/\OldK s₁.heap s'.heap/\s'.os=s₁.os/\AllBare s'.gens) s₁) :
  WalkO q loose XP YP l.row.toRowW d [] (λ f vs=>PySem.call f vs):=by
 intro w s₀ s₁ mg mb G Y fa o pm cd doc dV kV ho hd hcd hD hmg hg args vals as hpre hlay hrd hwl hlo
 obtain⟨a,vs,ns,rfl,rfl,hobj,hints,hlen⟩:=Att.script_of hn hpre hwl
 have hbits:=uh hlay
 refine enter_call (codeAny_mono (run w s₀ s₁ mg mb fa a vs ns G Y hmg hobj hints hlen hbits hg) ?_)
 rintro r s' ⟨rfl,h2,h3,h4⟩
 exact⟨.inl ⟨.bool true,.bool true,[],rfl,λ _=>rfl,.bool true,Att.post_true l _,λ _=>⟨List.Pairwise.nil,λ _ hm=>(nomatch hm)⟩⟩,h2,h3,h4⟩
theorem walkD {l:OpenLaw}{k:Nat}{q:Program}{loose:List Str}{XP:(Str->Option Value)->Heap->Prop}{YP:World->Heap->Prop}{d:DefRec}{K:Params->Frag}{CX:World->L2.CXT}{x:Str}{Fl:List Dv.D->Dv.R}
  (hn:l.most=some 63) (hdf:d.params.defaults=[]) (hr:L2.Room k callerA) (hY:∀ (w:World) (h:Heap),YP w h->(K w.params).In h) (hC:∀ w,CXok l.prog w (CX w))
  (F:∀ (w:World) (mg:Str->Option Value) (fa:Addr) (h:Heap),(K w.params).In h->h.Ns mainGlobals mg->mg d.name=some (.ref fa) ->
   ∃ (fd:FuncData) (cls:String->Value),(∀ (s:Shared) (u:Value),BindsTo s fd ⟨[u],[]⟩ [(x,u)])/\∀ base:Heap,(K w.params).In base->base.Ns mainGlobals mg->L2.FnOk l.prog w (K w.params) mg base (CX w) k fa fd [x] (spD (K w.params) cls Fl 1))
  (hF:∀ ns:List Int,ns.length<=63->(∀ x∈ns,Dv.bits x<=1048576)->Fl [.lst (ns.map .int)]=.ok (.bl true) true) :
  WalkO q loose XP YP l.row.toRowW d [] (λ f vs=>PySem.call f vs):=by
 refine tL hn hdf λ w s₀ s₁ mg mb fa a vs ns G Y hmg hobj hints hlen hbits hg=>?_
 have KX:=hY w _ Y
 obtain⟨fd,cls,hb,hFn⟩:=F w mg fa _ KX G.T.g hmg
 have hK:∀ o,(K w.params).lookup a=some o->o={ cls:=.type "list",data:=.seq vs.toArray }:=λ o e=>by
  have:=KX a o e
  rw[hobj] at this
  exact(Option.some.inj this).symm
 have hl:ns.length<=sizeLine:=zK hlen (by decide)
 refine L2.law_call KX G.T.g G.T.b G.T.builtins G.T.nolimit hg hobj hints hl hr hFn hb (λ H hO hS=>?_) λ H e s'=>(hC w).no [] H s₁ e s'
 refine⟨[.lst (ns.map .int)],H,rfl,.refl _,?_,?_⟩
 ·refine .cons ?_ .nil
  unfold Rp
  refine⟨a,ns.map L2.V.int,rfl,?_,RpL.ofInts ns⟩
  rcases hS with hS|⟨o,its,m,e,_,_,e2,z,v⟩
  ·exact .inl hS
  ·have e3:=hK o e
   subst e3
   cases e2
   exact .inr ⟨vs,_,e,by rw[yP]; exact hl,by simpa using v⟩
 ·rw[hF ns hlen hbits]
  intro v Hv' H' _ rp _
  unfold Rp at rp
  exact rp
open Dv in
noncomputable def al (ad:String->Option Addr)(c:String):Value:=match ad c with
 | some C=>.ref C
 | none=>.none
theorem cC {ad:String->Option Addr}{c:String}{C:Addr}(h:ad c=some C):al ad c=.ref C:=by unfold al; rw[h]
theorem kn2 {ad:String->Option Addr}{kn:List String}(h:∀ c∈kn,∃ Ca,ad c=some Ca):∀ c∈kn,∃ Ca,ad c=some Ca/\al ad c=.ref Ca:=λ c hc=>let ⟨Ca,e⟩:=h c hc; ⟨Ca,e,cC e⟩
noncomputable def sQ (l:List (String × Addr))(c:String):Option Addr:=l.lookup c
theorem dG:∀ {l:List (String × Addr)} {c:String} {C:Addr},sQ l c=some C->(c,C)∈l
 | [],c,C,h=>by simp[sQ] at h
 | (k,v)::r,c,C,h=>by
  unfold sQ at h
  rw[zk] at h
  split at h
  ·rename_i q
   cases h
   rw[beq_iff_eq.mp q]
   exact yR ..
  ·exact yM _ (dG (l:=r) h)
theorem tQ {K:Frag}{mg:Str->Option Value}(l:List (String × Addr))(h1:∀ p∈l,XCls K mg p.1 p.2/\XLook K p.2/\kitOne K (.ref p.2) (.type "ValueError")=some true)(h2:∀ p∈l,∀ q∈l,kitOne K (.ref p.2) (.ref q.2)=some (Dv.subX p.1 q.1)):XAll K mg (sQ l) where
 cl:=λ c C h=>let z:=h1 _ (dG h); ⟨z.1,z.2.1⟩
 sub:=λ c C k C' h h'=>h2 _ (dG h) _ (dG h')
 val:=λ c C h=>(h1 _ (dG h)).2.2
theorem bL {α:Type}{p:α->Prop}:∀ x∈([]:List α),p x:=λ x h=>absurd h (by simp)
theorem ae {α:Type}{p:α->Prop}{a:α}{l:List α}(h:p a)(r:∀ x∈l,p x):∀ x∈a::l,p x:=λ x m=>by
 rcases List.mem_cons.mp m with rfl|m
 ·exact h
 ·exact r x m
end Sd
namespace Dv
noncomputable def upL (lo:Int):Nat->List Int
 | 0=>[]
 | n+1=>lo::upL (lo+1) n
noncomputable def listRangeD:D->Bool->R
 | .int j,_=>if decide (0<=j)&&decide (j<=100000) then .ok (.lst ((upL 0 j.toNat).map .int)) true else .bad
 | _,_=>.bad
end Dv
namespace Sd
open PySem PySem.Spec PyProof.Rows L2 HT
open Dv (D R RL EE EL EI RI Sl Out SS)
section
variable {C:Ctx}{a:Expr}{f:EE}{pos:Pos}
end
section
variable {C:Ctx}{a:Expr}{f:EE}{pos:Pos}
theorem nK:∀ (n:Nat) (lo:Int),(Dv.upL lo n).length=n
 | 0,lo=>rfl
 | n+1,lo=>by unfold Dv.upL; rw[yJ,nK n]
theorem nv:∀ (n:Nat) (lo:Int) (us:List Value),us.length=n->(∀ (j:Nat) (v:Value),us[j]?=some v->∃ t,v=Value.int (lo+(j:Int)*1) t)->Vals ((Dv.upL lo n).map V.int) us
 | 0,lo,us,h,_=>by
  have:us=[]:=List.length_eq_zero_iff.mp h
  subst this
  exact .nil
 | n+1,lo,[],h,_=>by simp at h
 | n+1,lo,u::us,h,k=>by
  obtain⟨t,e⟩:=k 0 u rfl
  unfold Dv.upL
  rw[yH]
  refine .cons ⟨t,by rw[e]; simp⟩ (nv n (lo+1) us (by simpa using h) λ j v hj=>?_)
  obtain⟨t',e'⟩:=k (j+1) v (by simpa using hj)
  refine⟨t',by rw[e']; congr 1; omega⟩
theorem kl {X:Cx}{t:TE}{p p2 pos2:Pos}(hcl:X.calm=true)(hm:X.mg "list"=none)(hg:Gl X "list")(hm2:X.mg "range"=none)(hg2:Gl X "range")(ha:PE X a t)
  (he:starEach [.Call (.Name "range" p2) [a] [] pos2] X.env=[(false,eval (.Call (.Name "range" p2) [a] [] pos2) X.env)]) (he2:starEach [a] X.env=[(false,eval a X.env)]) :
  PE X (.Call (.Name "list" p) [.Call (.Name "range" p2) [a] [] pos2] [] pos) (λ σ H Q=>t σ H λ x H1=>∃ j:Int,x=.int j/\0<=j/\j<=100000/\∀ l,H1 l=none->Q (.ref l) (upd H1 l (.lst ((Dv.upL 0 j.toNat).map V.int)))):=by
 intro pins s σ H Q I h
 refine wpAny_Call_Name_kw (dg I hg hm (u:=.type "list") (by decide +kernel) ?_ (by decide) (by decide))
 refine PyProof.Rows.callWith_type1 ?_ he rfl
 rw[he]
 show wpAny _ _ (spliced ((false,eval (.Call (.Name "range" p2) [a] [] pos2) X.env)::backTo pos [])) _ _ s
 refine Calls.spliced_cons ?_
 refine wpAny_Call_Name_kw (dg I hg2 hm2 boot_range ?_ (by decide) (by decide))
 refine PyProof.Rows.callWith_type1 ?_ he2 rfl
 rw[he2]
 show wpAny _ _ (spliced ((false,eval a X.env)::backTo pos2 [])) _ _ s
 refine Calls.spliced_cons (thn (ha pins s σ H _ I h) λ u s1 ⟨x,H1,I1,r1,j,e1,j0,j1,go⟩=>?_)
 subst e1
 obtain⟨t,rfl⟩:=r1
 refine Calls.spliced_nil ?_
 refine call_range_1 ?_
 refine Calls.spliced_nil ?_
 have hsz:Builtin.Range.rangeSize 0 j 1=(j.toNat:Nat):=by rw[rangeSize_one]; split <;>omega
 refine PySem.call_list_range (I1.ok.hd hcl) (IsRange.new ..) (small_one (by omega) (by omega) (by omega) (by omega)) hsz (by omega) λ h' tk acc' c' hk hS hacc=>?_
 have hk2:∀ b u,s1.heap.get? b=some u->h'.get? b=some u:=λ b u q=>hk b u (Heap.get?_push_of_some _ q)
 have hle:s1.heap.objs.size<=(s1.heap.push { cls:=.type "range",data:=.fields #[.int 0 s1.toks,.int j t,.int 1 (s1.toks+1)] }).objs.size:=by rw[Heap.size_push]; omega
 refine⟨.ref _,_,I1.laid (t':=tk) (o:=.lst ((Dv.upL 0 j.toNat).map V.int)) hk2 hle ?_,rfl,go _ (I1.hok.fresh hle)⟩
 refine⟨?_,acc'.toList,c',nv j.toNat 0 _ (by rw[Array.length_toList]; exact hacc.1) (λ i v hi=>hacc.2 i v (by rw[<- Array.getElem?_toList]; exact hi)),by simpa using hS⟩
 rw[yP,nK,sizeLine_eq]; omega
theorem jY {p p2 pos2:Pos}(hm:C.X.mg "list"=none)(hg:Gl C.X "list")(hm2:C.X.mg "range"=none)(hg2:Gl C.X "range")(ha:SE C a f)
  (he:autoParam (starEach [.Call (.Name "range" p2) [a] [] pos2] C.X.env=[(false,eval (.Call (.Name "range" p2) [a] [] pos2) C.X.env)]) Au.h4._auto_1) (he2:autoParam (starEach [a] C.X.env=[(false,eval a C.X.env)]) Au.h4._auto_1) (hcl:autoParam (C.X.calm=true) Au.h4._auto_1) :
  SE C (.Call (.Name "list" p) [.Call (.Name "range" p2) [a] [] pos2] [] pos) (Dv.eB1 Dv.listRangeD f):=by
 obtain⟨t,pa,qa⟩:=ha
 refine⟨_,kl hcl hm hg hm2 hg2 pa he he2,λ σ H Hv ρ Q e s w=>?_⟩
 refine qa.step e (.refl s) w λ v d fr Hv1 H1 _ x1 _ rx n1 q=>?_
 cases d with
 | int j =>
  simp only[Dv.listRangeD] at q
  unfold Rp at rx
  subst rx
  by_cases hj:(decide (0<=j)&&decide (j<=100000))=true
  ·simp only[hj,if_true] at q
   have h2:=hj
   rw[yN,decide_eq_true_eq,decide_eq_true_eq] at h2
   exact⟨j,rfl,h2.1,h2.2,λ p hp=>Ok.newL q x1 (RpL.ofInts _) (λ _=>RpL.ofInts _) p hp⟩
  ·simp only[hj] at q
   exact(show False from q).elim
 | _=>exact(show False from q).elim
end
end Sd
namespace Dv
noncomputable def mW:List Int->List Int->Bool
 | [],[]=>false
 | [],_::_=>true
 | _::_,[]=>false
 | x::xs,y::ys=>if x=y then mW xs ys else decide (x<y)
noncomputable def mE (bt:Nat->Nat->Bool):Nat->Nat
 | 0=>0
 | k+1=>if bt (k+1) (mE bt k) then k+1 else mE bt k
noncomputable def ul (nss:List (List Int)):Nat:=mE (λ i j=>mW (nss.getD i []) (nss.getD j [])) (nss.length-1)
noncomputable def least (nss:List (List Int)):List Int:=nss.getD (ul nss) []
end Dv
namespace Sd
open PySem PySem.Spec PyProof.Rows L2 HT
open Dv (D R RL EE EL EI RI Sl Out SS)
section
open PySem.SeqAt
open PySem.AutoSeq1 (wpAny_loadPart')
open PySem.MeetsSeq PySem.MeetsSeq2 PySem.MeetsSeq3
end
section
variable {prog:Program}{w:World}{A:Around}{R':Result->Shared->Prop}{I:Addr}{fp wr:List Addr}{n:Nat}{P:Nat->Value->Prop}{St:Nat->Heap->Prop}
end
section
variable {C:Ctx}
end
theorem mL {K:PySem.W.Frag}{mg:Str->Option Value}{ad:String->Option Addr}(xa:XAll K mg ad){c:String}{C:Addr}(hc:ad c=some C):∀ {ks:List String} {Cs:List Addr},ks.map ad=Cs.map some->PySem.W.kitAny K (.ref C) (Cs.map Value.ref)=some (ks.any (Dv.subX c))
 | [],[],_=>rfl
 | [],_::_,h=>by simp at h
 | _::_,[],h=>by simp at h
 | k::ks,C'::Cs,h=>by
  simp only[yH,List.cons.injEq] at h
  have h1:=xa.sub c C k C' hc h.1
  have h2:=mL xa hc h.2
  rw[yH]
  unfold PySem.W.kitAny
  rw[h1,zQ]
  cases Dv.subX c k with
  | true=>rfl
  | false=>exact h2
theorem nh:∀ {Cs:List Addr} {its:List Value},Vals (Cs.map V.ref) its->its=Cs.map Value.ref
 | [],_,.nil=>rfl
 | _::_,_,.cons r t=>by rw[yH,<- nh t]; exact congrArg (·::_) r
theorem pq {X:Cx}{ad:String->Option Addr}(xa:XAll X.K X.mg ad){ks:List String}{Cs:List Addr}(hk:ks.map ad=Cs.map some) :
  cM X (.builtin "isinstance") (λ xs H Q=>∃ x c tp,xs=[x,.ref tp]/\SqT X.K H tp (Cs.map V.ref)/\(∃ C,ad c=some C)/\Rp X.K H (.exn c) x/\Q (.bl (ks.any (Dv.subX c))) H):=by
 intro pins s σ H xs us Q I r h
 obtain⟨x,c,tp,rfl,hT,⟨C,hc⟩,rp,q⟩:=h
 obtain⟨u,w',rfl,ru,rw'⟩:=jm r
 obtain rfl:w'=Value.ref tp:=rw'
 unfold Rp at rp
 obtain⟨a,C2,rfl,n2,h2⟩:=rp
 obtain⟨x1,x2⟩:=xa.cl c C hc
 have e:C2=C:=by
  have:=n2.symm.trans x1.ns
  simpa using this
 subst e
 cases ru
 obtain⟨p,_⟩:=I.hok a _ h2
 obtain⟨its,rv,ht,hz⟩:=I.tuple hT
 obtain⟨⟨cls,dd,data,sl⟩,ho,hcl,n,hd⟩:=id ht
 simp only at hcl hd
 subst hcl hd
 have hits:=nh rv
 subst hits
 exact PySem.W.kia_tup (iB x2) I.kIn p ho (mL xa hc hk) (λ z=>nomatch z) λ tk=>⟨.bl (ks.any (Dv.subX c)),H,I.tok tk,rfl,q⟩
section
variable {C:Ctx}{a:Expr}{f:EE}{pos:Pos}{kn:List String}{ad:String->Option Addr}
noncomputable def PN (C:Ctx)(ad:String->Option Addr)(es:List Expr)(ks:List String):Prop:=∃ Cs:List Addr,ks.map ad=Cs.map some/\PA C.X es (λ _ H Q=>Q (Cs.map V.ref) H)
theorem j6:PN C ad [] []:=⟨[],rfl,bu⟩
theorem bq (xa:XAll C.X.K C.X.mg ad){k:String}{Ck:Addr}{es:List Expr}{ks:List String}{p2:Pos}(hk:ad k=some Ck)(hgk:Gl C.X (Str.ofString k))(h:PN C ad es ks)(hd:autoParam ((Str.ofString k == ("__debug__":Str))=false) Au.h2._auto_1)
  (he:autoParam (starEach (.Name (Str.ofString k) p2::es) C.X.env=(false,eval (.Name (Str.ofString k) p2) C.X.env)::starEach es C.X.env) Au.h4._auto_1):PN C ad (.Name (Str.ofString k) p2::es) (k::ks):=by
 obtain⟨Cs,h1,h2⟩:=h
 obtain⟨y1,y2⟩:=xa.cl k Ck hk
 exact⟨Ck::Cs,by simp[hk,h1],aG (gg (v:=.ref Ck) hgk y1.m rfl hd) h2 he⟩
theorem gj (xa:XAll C.X.K C.X.mg ad)(hkn:∀ c∈kn,∃ Ca,ad c=some Ca){es:List Expr}{ks:List String}{p p2:Pos}{kt}(hm:C.X.mg "isinstance"=none)(hg:Gl C.X "isinstance")(ha:SE C a f)(hp:PN C ad es ks)(hz:autoParam (ks.length<=100) Au.h2._auto_1)
  (he:autoParam (starEach [a,.Tuple es kt p2] C.X.env=(false,eval a C.X.env)::starEach [.Tuple es kt p2] C.X.env) Au.h4._auto_1)
  (he2:autoParam (starEach [.Tuple es kt p2] C.X.env=[(false,eval (.Tuple es kt p2) C.X.env)]) Au.h4._auto_1):SE C (.Call (.Name "isinstance" p) [a,.Tuple es kt p2] [] pos) (Dv.eB1 (Dv.isXD kn ks) f):=by
 obtain⟨t,pa,qa⟩:=ha
 obtain⟨Cs,h1,h2⟩:=hp
 have hlen:ks.length=Cs.length:=by simpa using congrArg List.length h1
 refine⟨_,cZ (pq xa h1) hg hm (by decide +kernel) (aG pa (aG (lZ h2) bu he2) he) (by decide) (by decide) he (by rw[he2]; rfl),λ σ H Hv ρ Q e s w=>?_⟩
 refine qa.step e (.refl s) w λ v d fr Hv1 H1 _ x1 _ rp1 _ q1=>?_
 cases d with
 | exn c =>
  by_cases hc:kn.contains c=true
  ·have q2:Ok C.X.K Hv H (C.W σ) C.cls (.ok (.bl (ks.any (Dv.subX c))) true) Q:=by
    have:Dv.isXD kn ks (.exn c) fr=.ok (.bl (ks.any (Dv.subX c))) true:=if_pos hc
    rw[this] at q1
    exact q1
   obtain⟨Ca,hca⟩:=hkn c (List.contains_iff_mem.mp hc)
   refine⟨by rw[yP,sizeLine_eq]; omega,λ tp htp=>?_⟩
   refine⟨v,c,tp,rfl,.inl (.inl (aD)),⟨Ca,hca⟩,(rp1.same x1.vh).same (gX htp _),?_⟩
   exact q2.at (v:=.bl (ks.any (Dv.subX c))) (x1.trans (Ext.new1 x1.vh htp _)) cI rfl
  ·have:Dv.isXD kn ks (.exn c) fr=.bad:=if_neg hc
   rw[this] at q1
   exact q1.elim
 | _=>exact(show False from q1).elim
end
end Sd
namespace Dv
end Dv
namespace Sd
open PySem PySem.Spec PyProof.Rows L2 HT
open Dv (D R RL EE EL EI RI Sl Out SS)
open Classical in
section
variable {C:Ctx}{a b:Expr}{f g:EE}{pos:Pos}
end
end Sd
namespace Dv
noncomputable def look:List Int->List D->Int->Option D
 | k::ks,d::ds,j=>if k=j then some d else look ks ds j
 | _,_,_=>none
noncomputable def replL:List Int->List D->Int->D->List D
 | k::ks,d::ds,j,x=>(if k=j then x else d)::replL ks ds j x
 | _,ds,_,_=>ds
noncomputable def putL (ks:List Int)(ds:List D)(j:Int)(x:D):List D:=if j∈ks then replL ks ds j x else ds++[x]
noncomputable def putKs (ks:List Int)(j:Int):List Int:=if j∈ks then ks else ks++[j]
noncomputable def eDict0:EE:=λ _=>.ok (.dct [] []) true
noncomputable def eDix (a k:EE):EE:=λ ρ=>(a ρ).bind λ x f=>(k ρ).bind λ y _=>match x,y with
 | .dct ks ds,.int j=>match look ks ds j with
  | some d=>.ok d (f || scal d)
  | none=>.bad
 | _,_=>.bad
noncomputable def vg (is:List Nat)(i:Nat)(k e:EE):SS:=λ st=>match (give is st)[i]? with
 | some (.ow (.dct ks ds))=>match e (open_ (give is st)) with
  | .ok d _=>match k (open_ (give is st)) with
   | .ok (.int j) _=>if decide (ks.length<mx)&&decide (ks.length=ds.length) then .nx ((give is st).set i (.ow (.dct (putKs ks j) (putL ks ds j d)))) else .bad
   | .exc c=>.exc c st
   | _=>.bad
  | .exc c=>.exc c st
  | .bad=>.bad
 | _=>.bad
noncomputable def lstsFlat:List D->Bool
 | []=>true
 | .lst es::r=>flatL es&&lstsFlat r
 | _::_=>false
noncomputable def sDMove (i y:Nat)(k:EE):SS:=λ st=>match st[i]?,st[y]? with
 | some (.dp (.dct ks ds)),some (.ow (.lst es))=>match k (all st) with
  | .ok (.int j) _=>if flatL es&&lstsFlat ds&&decide (ks.length<mx)&&decide (ks.length=ds.length)&&decide (i≠y) then .nx ((st.set y .no).set i (.dp (.dct (putKs ks j) (putL ks ds j (.lst es))))) else .bad
  | .exc c=>.exc c st
  | _=>.bad
 | _,_=>.bad
noncomputable def enumL:Nat->List D->List D
 | _,[]=>[]
 | i,d::r=>.tup [.int i,d]::enumL (i+1) r
noncomputable def iEnum (a:EE):EI:=λ ρ=>match a ρ with
 | .ok (.lst xs) _=>.ok (enumL 0 xs) true
 | .exc c=>.exc c
 | _=>.bad
noncomputable def downL (hi:Int):Nat->List D
 | 0=>[]
 | n+1=>.int hi::downL (hi-1) n
noncomputable def iDown (a b:EE):EI:=λ ρ=>match a ρ with
 | .ok (.int i) _=>match b ρ with
  | .ok (.int j) _=>if rngOk i&&rngOk j then .ok (downL i (i-j).toNat) true else .bad
  | .exc c=>.exc c
  | _=>.bad
 | .exc c=>.exc c
 | _=>.bad
noncomputable def sForR (x:Nat)(it:EI)(body:SS):SS:=λ st=>match it (all st) with
 | .ok ds _=>forGo x body ds st
 | .exc c=>.exc c st
 | .bad=>.bad
noncomputable def blsOf:List D->Option (List Bool)
 | []=>some []
 | .bl b::r=>(blsOf r).map (b::·)
 | _::_=>none
noncomputable def allD:D->Bool->R
 | .lst ds,_=>match blsOf ds with
  | some bs=>.ok (.bl (bs.all id)) true
  | none=>.bad
 | _,_=>.bad
noncomputable def sAug (i:Nat)(o:Op)(e:EE):SS:=λ st=>match st[i]? with
 | some (.sh (.int x))=>match e (all st) with
  | .ok (.int y) _=>match opD o (.int x) (.int y) with
   | .ok (.int z) _=>.nx (st.set i (.sh (.int z)))
   | _=>.bad
  | .exc c=>.exc c st
  | _=>.bad
 | _=>.bad
noncomputable def sSetD (i:Nat)(e:EE):SS:=λ st=>match e (all st) with
 | .ok d true=>.nx (st.set i (.dp d))
 | .ok _ false=>.bad
 | .exc c=>.exc c st
 | .bad=>.bad
noncomputable def sRetT (i:Nat)(e:EE):SS:=λ st=>match st[i]? with
 | some (.ow (.lst ds))=>match e (all st) with
  | .ok (.lst es) true=>if flatL ds&&flatL es then .ret (.tup [.lst ds,.lst es]) true else .bad
  | .exc c=>.exc c st
  | _=>.bad
 | _=>.bad
end Dv
namespace Sd
open PySem PySem.Spec PyProof.Rows L2
open Dv (D R RL EE EL EI RI Sl Out SS)
section
variable {C:Ctx}{a b c e k:Expr}{f g h:EE}{F G:SS}{pos pos':Pos}{E:Ends}
noncomputable def ipC (P:Int->Int->Prop)(f:Int->Int->Int):TIp:=λ x y H Q=>∃ i j,x=.int i/\y=.int j/\P i j/\Q (.int (f i j)) H
theorem tR {X:Cx}:PIp X .Mult (ipC (λ i j=>Dv.mulOk i j=true) λ i j=>i*j):=by
 intro pins s σ H x y v u Q I r1 r2 h
 obtain⟨i,j,e1,e2,hc,q⟩:=h
 subst e1; subst e2
 obtain⟨t,rfl⟩:=r1
 obtain⟨t',rfl⟩:=r2
 refine PyProof.Rows.imul_int ⟨.int _,H,I.tok _,⟨_,rfl⟩,q⟩ ?_
 unfold Dv.mulOk at hc
 simp only[zT,yN,decide_eq_true_eq,<- ni] at hc
 rcases hc with (hc|hc)|hc
 ·exact .of_left hc
 ·exact .of_right hc
 ·exact .of_bits (by simpa using hc.1) (by simpa using hc.2)
theorem qT {X:Cx}:PIp X .FloorDiv (ipC (λ _ j=>0<j/\j.natAbs.log2<9000) λ i j=>i/j):=by
 intro pins s σ H x y v u Q I r1 r2 h
 obtain⟨i,j,e1,e2,hc,q⟩:=h
 subst e1; subst e2
 obtain⟨t,rfl⟩:=r1
 obtain⟨t',rfl⟩:=r2
 have h1:(0:Int)<j:=hc.1
 have q':EP X pins σ Q (.int (i.fdiv j) s.toks) { s with toks:=s.toks+1 }:=by
  rw[Ah i (by omega)]
  exact⟨.int _,H,I.tok _,⟨_,rfl⟩,q⟩
 exact PyProof.Rows.ifloordiv_int (by omega) q' (.inl (PyProof.noPylong_of_log2 hc.2))
theorem jA {op:Operator}{o:Dv.Op}{ti:TIp}(ho:PIp C.X op ti)(hop:∀ x y z fr H Q,Dv.opD o (.int x) (.int y)=.ok (.int z) fr->Q (.int z) H->ti (.int x) (.int y) H Q)
  {i:Nat} {x:Str} (he:SE C e f) (hN:C.X.N.Nodup) (hi:C.X.N[i]?=some x) (hx:Loc C.X.env.scope x) (hf:autoParam (C.X.fn x=true\/C.X.env.scope.names.lookup x=some .local) Au.h1._auto_1) :
  SSt C (.AugAssign (.Name x pos') op e pos) (Dv.sAug i o f):=by
 obtain⟨t,p,q⟩:=he
 refine⟨_,vX hN hi hx p ho hf,λ Hv₀ H₀ E σ H st ⟨Hc,O,r⟩ w=>?_⟩
 unfold Dv.sAug at w
 cases hs:st[i]? with
 | none=>rw[hs] at w; exact(show False from w).elim
 | some s =>
  rw[hs] at w
  cases s with
  | sh d =>
   cases d with
   | int x0 =>
    obtain⟨v,h1,h2⟩:=r.sh i _ hs
    unfold Rp at h2
    subst h2
    refine⟨_,h1,?_⟩
    refine q.all r (λ c hf H' r'=>?_) (λ hf=>?_) λ d fr v Hv' H' hf x r' rp n=>?_
    ·simp only[hf] at w; exact w σ H' ⟨Hc,O,r'⟩
    ·simp only[hf] at w; exact w
    ·cases d with
     | int y =>
      simp only[hf] at w
      unfold Rp at rp
      subst rp
      cases ho':Dv.opD o (.int x0) (.int y) with
      | ok d2 fr2 =>
       cases d2 with
       | int z=>simp only[ho'] at w; exact hop _ _ _ _ _ _ ho' (w _ H' ⟨Hc,O,r'.setSh bM⟩)
       | _=>simp only[ho'] at w; exact(show False from w).elim
      | _=>simp only[ho'] at w; exact(show False from w).elim
     | _=>simp only[hf] at w; exact(show False from w).elim
   | _=>exact(show False from w).elim
  | _=>exact(show False from w).elim
theorem pA {i:Nat}{x:Str}(he:SE C e f)(hN:C.X.N.Nodup)(hi:C.X.N[i]?=some x)(hx:Loc C.X.env.scope x)(hf:autoParam (C.X.fn x=true\/C.X.env.scope.names.lookup x=some .local) Au.h1._auto_1) :
  SSt C (.AugAssign (.Name x pos') .Sub e pos) (Dv.sAug i .sub f):=jA sL (λ x y z fr H Q h q=>by cases h; exact⟨x,y,rfl,rfl,q⟩) he hN hi hx hf
theorem oJ {i:Nat}{x:Str}(he:SE C e f)(hN:C.X.N.Nodup)(hi:C.X.N[i]?=some x)(hx:Loc C.X.env.scope x)(hf:autoParam (C.X.fn x=true\/C.X.env.scope.names.lookup x=some .local) Au.h1._auto_1) :
  SSt C (.AugAssign (.Name x pos') .Mult e pos) (Dv.sAug i .mul f):=jA tR (λ x y z fr H Q h q=>by
   simp only[Dv.opD_ai,Dv.opD_al,Dv.opD_su,Dv.opD_mi,Dv.opD_ml,Dv.opD_mo,Dv.opD_fd,Dv.opD_po,Dv.opD_ba,Dv.opD_sh] at h
   by_cases hm:Dv.mulOk x y=true
   ·simp only[hm,if_true] at h; cases h; exact⟨x,y,rfl,rfl,hm,q⟩
   ·simp only[hm] at h; cases h) he hN hi hx hf
theorem mh {i:Nat}{x:Str}(he:SE C e f)(hN:C.X.N.Nodup)(hi:C.X.N[i]?=some x)(hx:Loc C.X.env.scope x)(hf:autoParam (C.X.fn x=true\/C.X.env.scope.names.lookup x=some .local) Au.h1._auto_1) :
  SSt C (.AugAssign (.Name x pos') .FloorDiv e pos) (Dv.sAug i .fdiv f):=jA qT (λ x y z fr H Q h q=>by
   simp only[Dv.opD_ai,Dv.opD_al,Dv.opD_su,Dv.opD_mi,Dv.opD_ml,Dv.opD_mo,Dv.opD_fd,Dv.opD_po,Dv.opD_ba,Dv.opD_sh] at h
   by_cases hm:Dv.divOk y=true
   ·simp only[hm,if_true] at h; cases h
    unfold Dv.divOk at hm
    exact⟨x,y,rfl,rfl,by simpa using hm,q⟩
   ·simp only[hm] at h; cases h) he hN hi hx hf
theorem oW {i:Nat}{x:Str}{px kpos:Pos}(he:SE C e f)(hk:SE C k g)(hN:autoParam (C.X.N[i]?=some x) Au.h4._auto_1)(hv:autoParam (Vis C.X.env.scope x) Au.h7._auto_1)
    (hd:autoParam ((x == ("__debug__":Str))=false) Au.h2._auto_1) (hcd:autoParam ((x == ("__classdict__":Str))=false) Au.h2._auto_1)
    (ha:autoParam (∀ ov iv new,augStore k ov iv new=(do holding [new,ov,iv] (setItem ov iv new); release [new,ov,iv] []; pure .next)) Au.h5._auto_1) :
    SSt C (.AugAssign (.Subscript (.Name x px) k kpos) .Sub e pos) (Dv.sAugIx i .sub g f):=by
  obtain⟨t,p,q⟩:=he
  obtain⟨t2,p2,q2⟩:=hk
  refine⟨_,tE (bH hN hv hd hcd) p2 o8 p sL fb ha,λ Hv₀ H₀ E σ H st ⟨Hc,O,r⟩ w=>?_⟩
  unfold Dv.sAugIx at w
  cases hi:st[i]? with
  | none=>rw[hi] at w; exact(show False from w).elim
  | some s =>
    rw[hi] at w
    cases s with
    | ow d0 =>
     cases d0 with
     | lst ds =>
      obtain⟨a,vs,h1,h2,h5⟩:=r.own hi
      refine⟨_,h1,?_⟩
      refine q2.all r (λ c hf H' r'=>?_) (λ hf=>?_) λ d fr v Hv' H' hf x r' rp n=>?_
      · simp only[hf] at w; exact w σ H' ⟨Hc,O,r'⟩
      · simp only[hf] at w; exact w
      · simp only[hf] at w
        cases d with
        | int j =>
          unfold Rp at rp
          by_cases z:0<=j
          · simp only[z,if_true] at w
            cases hat:Dv.at? ds j with
            | none=>simp only[hat] at w; exact(show False from w).elim
            | some d0 =>
              simp only[hat] at w
              obtain⟨v0,g1,g2⟩:=gR h5 hat
              refine⟨a,vs,j,v0,rfl,rp,z,SqL.of (x.hh _ _ h2),g1,?_⟩
              refine q.all r' (λ c hg H2 r2=>?_) (λ hg=>?_) λ d2 fr2 v2 Hv2 H2 hg x2 r2 rp2 n2=>?_
              · simp only[hg] at w; exact w σ H2 ⟨Hc,O,r2⟩
              · simp only[hg] at w; exact w
              · simp only[hg] at w
                cases d0 with
                | int y0 =>
                  cases d2 with
                  | int y2 =>
                    unfold Rp at rp2 g2
                    subst g2 rp2
                    obtain⟨O',r3⟩:=r2.put hi h1 (h5.set (bM (i:=y0-y2)) j.toNat)
                    refine⟨y0,y2,rfl,rfl,a,vs,j,j.toNat,rfl,rp,x2.hh _ _ (x.hh _ _ h2),?_,OkS.now (st:=st.set i (.ow (.lst (ds.set j.toNat (.int (y0-y2)))))) w ⟨Hc,O',r3⟩⟩
                    unfold ixN
                    obtain⟨_,_,_,_,_,hlt⟩:=gk g1
                    rw[if_pos z,if_pos hlt]
                  | _=>exact(show False from w).elim
                | _=>exact(show False from w).elim
          · simp only[z,if_false] at w; exact(show False from w).elim
        | _=>exact(show False from w).elim
     | _=>exact(show False from w).elim
    | _=>exact(show False from w).elim
theorem oj {X:Cx}(hc:X.calm=true):cM X (.builtin "all") (λ xs H Q=>∃ p,∃ bs:List Bool,xs=[.ref p]/\SqX X.K H p (bs.map V.bl)/\Q (.bl (bs.all id)) H):=by
 intro pins s σ H xs us Q I r h
 obtain⟨p,bs,rfl,hq,q⟩:=h
 obtain⟨u,rfl,rx⟩:=lC r
 cases rx
 obtain⟨its,n,rv,e,z⟩:=Inv.listX I hq
 have hl:s.heap.IsList p its.toArray:=⟨_,e,rfl,n,rfl⟩
 have hlt:p<s.heap.objs.size:=Heap.lt_size e
 have hlen:its.length=bs.length:=by have:=rv.length; rw[yP] at this; exact this.symm
 refine call_all_walk (wpAny_pyIter_list hl ?_)
 refine⟨s.heap.objs.size,[s.heap.objs.size,p],[s.heap.objs.size],its.toArray.size,_,_,λ i=>(bs[i]?).getD true,rfl,Walks.list (A:=X.A.in1) (I.ok.hd hc) _ p (zb hlt) its.toArray,
  ⟨⟨_,Heap.get?_push_size _ rfl,rfl,rfl⟩,hl.push _⟩,λ i v s' Q' E' hP hQ=>?_,λ h' tk hk=>?_⟩
 ·have hP':its[i]?=some v:=by simpa using hP
  have hi:i<bs.length:=by rw[<- hlen]; exact(List.getElem?_eq_some_iff.mp hP').1
  obtain⟨u,e1,e2⟩:=rv.get (show (bs.map V.bl)[i]?=some (V.bl bs[i]) by simp[hi])
  rw[hP'] at e1
  cases e1
  have e3:v=Value.bool bs[i]:=e2
  subst e3
  have e4:(bs[i]?).getD true=bs[i]:=by simp[hi]
  have hQ':Q' bs[i] s':=by rw[<- e4]; exact hQ
  exact wpAny_truthy_bool hQ'
 ·have e5:((List.range its.toArray.size).all λ i=>(bs[i]?).getD true)=bs.all id:=by
   rw[yY,hlen,zU,zH,zH]
   constructor
   ·intro hh b hb
    obtain⟨i,hi,e⟩:=Bc hb
    have:=hh i (List.mem_range.mpr hi)
    simp only[zf hi,yU,e] at this
    exact this
   ·intro hh i hi
    have hi':=List.mem_range.mp hi
    simp only[zf hi',yU]
    exact hh _ (AV hi')
  rw[e5]
  exact⟨.bl _,H,I.kept (t':=tk) λ b x e=>hk b x (λ hm=>by rw[List.mem_singleton.mp hm] at e; exact zL _ (Heap.lt_size e)) (Heap.get?_push_of_some _ e),rfl,q⟩
theorem RpL.bls {K:PySem.W.Frag}{H:Hp}:∀ {ds:List D} {vs:List V} {bs:List Bool},Dv.blsOf ds=some bs->RpL K H ds vs->vs=bs.map V.bl
 | [],vs,bs,e,h=>by
  simp[Dv.blsOf] at e; subst e
  unfold RpL at h; exact h
 | d::r,vs,bs,e,h=>by
  unfold RpL at h
  obtain⟨v,ws,rfl,h2,h3⟩:=h
  cases d with
  | bl i =>
   simp only[Dv.blsOf,zS] at e
   obtain⟨ms,e1,rfl⟩:=e
   unfold Rp at h2
   subst h2
   rw[RpL.bls e1 h3,yH]
  | _=>simp[Dv.blsOf] at e
theorem wI (hc:C.X.calm=true):C1S C (.builtin "all") Dv.allD:=by
 refine⟨_,oj hc,λ x d fr H Hv H1 Hv1 W Q e rx n q=>?_⟩
 cases d with
 | lst ds =>
  simp only[Dv.allD] at q
  cases hi:Dv.blsOf ds with
  | none=>rw[hi] at q; exact(show False from q).elim
  | some bs =>
   rw[hi] at q
   unfold Rp at rx
   obtain⟨l,vs,rfl,h1,h2⟩:=rx
   have e1:=RpL.bls hi h2
   subst e1
   exact⟨l,bs,rfl,h1.same e.vh,Ok.at (d:=.bl (bs.all id)) (fr:=true) q e cI rfl⟩
 | _=>exact(show False from q).elim
theorem qS {p:Pos}(hm:C.X.mg "all"=none)(hg:Gl C.X "all")(ha:SE C a f)(he:autoParam (starEach [a] C.X.env=[(false,eval a C.X.env)]) Au.h4._auto_1)(hcl:autoParam (C.X.calm=true) Au.h4._auto_1):SE C (.Call (.Name "all" p) [a] [] pos) (Dv.eB1 Dv.allD f) :=
 sU (wI hcl) hg hm (by decide +kernel) ha (by decide) (by decide) he
end
noncomputable def ItD (hi:Int)(n:Nat):It:=⟨λ i _=>i<n,λ i H v H'=>v=.int (hi-i)/\H'=H,λ i _=>n<=i⟩
theorem on {P:Program}{w:World}{K:PySem.W.Frag}{tg:Expr}(it:Addr)(lo:Int)(n:Nat):Turn P w K tg (ItD lo n) [it] it (λ i h=>IsRangeIter h it (lo+(i:Nat)*(-1)) ((n:Int)-(i:Nat)) (-1)) where
 mem:=by simp
 obj:=λ i h st b hb=>by
  have e:b=it:=by simpa using hb
  subst e
  exact⟨_,st,λ v z=>by
   have z':Data.fields _=Data.cell v:=z
   cases z'⟩
 keep:=λ i h h' st k=>k it (by simp) _ st
 item:=by
  intro X hP hw hK hc i pins s σ H E I hf st hg
  subst hP hw hK
  obtain⟨f0,f1,f2,f3,f4,f5⟩:=hf it (by simp)
  have W:=Walks.range (prog:=X.prog) (w:=X.w) (I.ok.hd hc) it lo (-1) n
  refine W.item i s _ _ hg st λ v h' tk hv st' kk=>?_
  obtain⟨t,rfl⟩:=hv
  have I1:Inv X pins σ H { s with heap:=h',toks:=tk }:=I.turned (λ b o hb e=>kk b o (by simpa using hb) e) f0 f1 f3 f4 f5
  refine⟨_,rfl,rf (s:={ s with heap:=h',toks:=tk }) (n:="range_iterator") st' rfl rfl (by decide) ⟨.int (lo-i),H,I1,⟨t,?_⟩,⟨rfl,rfl⟩,st',λ b hb=>(hf b hb).1⟩⟩
  have:lo+(i:Nat)*(-1)=lo-i:=by omega
  rw[this]
 done:=by
  intro X hP hw hK hc i pins s σ H E I hf st hg
  subst hP hw hK
  obtain⟨f0,f1,f2,f3,f4,f5⟩:=hf it (by simp)
  exact wpAny_pyNext_range_end (I.ok.hd hc) st (by have:n<=i:=hg; omega) λ h' eb=>⟨rfl,I.turned (t':=s.toks) (λ b o hb e=>eb b o hb e) f0 f1 f3 f4 f5⟩
 self:=λ _ _ _ _ _ st h=>wpAny_pyIter_rangeiter st h
theorem eR (a b:Int):Builtin.Range.rangeSize a b (-1)=((a-b).toNat:Int):=by
 unfold Builtin.Range.rangeSize
 by_cases h:a > b
 ·simp[h]; omega
 ·simp[h]; omega
noncomputable def xy (ta:TA):TI:=λ σ H R=>ta σ H λ vs H1=>∃ i j:Int,vs=[.int i,.int j,.int (-1)]/\Dv.rngOk i=true/\Dv.rngOk j=true/\R (ItD i (i-j).toNat) H1
theorem qy {i j:Int}(h1:Dv.rngOk i=true)(h2:Dv.rngOk j=true):Builtin.Range.small i j (-1)=true:=by
 simp only[Dv.rngOk,yN,decide_eq_true_eq] at h1 h2
 have hz:=eR i j
 unfold Builtin.Range.small
 rw[hz]
 simp only[Builtin.Range.rangeFitsLong,yN,zT,decide_eq_true_eq,beq_iff_eq,show ¬ ((-1:Int) > 0) by decide,if_false]
 omega
theorem o7 {X:Cx}{tg:Expr}{a b c:Expr}{ta:TA}{p pos:Pos}(hg:Gl X "range")(hm:X.mg "range"=none)(ha:PA X [a,b,c] ta)(hs:starEach [a,b,c] X.env=(false,eval a X.env)::starEach [b,c] X.env)(hpl:(backTo pos (starEach [b,c] X.env)).any (·.1)=false) :
  PI X tg (.Call (.Name "range" p) [a,b,c] [] pos) (xy ta):=by
 intro pins s σ H R I h
 refine Call_ (dg I hg hm boot_range (PyProof.Rows.callWith_type1 (thn (ha pos pins s σ H _ I h) λ us s1 ⟨vs,H1,I1,r1,q1⟩=>?_) hs hpl))
 obtain⟨i,j,e,q1,q2,q⟩:=q1
 subst e
 cases r1 with
 | cons r rr =>
  cases rr with
  | cons r' rr =>
   cases rr with
   | cons r'' rr =>
   cases rr
   obtain⟨t,rfl⟩:=r
   obtain⟨t',rfl⟩:=r'
   obtain⟨t'',rfl⟩:=r''
   refine call_range_3 (by decide) ?_ (Or.inl (PyProof.noPylong_of_log2 (by decide +kernel)))
   refine wpAny_pyIter_range (IsRange.new ..) (qy q1 q2) ?_
   have I2:Inv X pins σ H1 { s1 with heap:=s1.heap.push { cls:=.type "range",data:=.fields #[.int i t,.int j t',.int (-1) t''] } }:=I1.kept (t':=s1.toks) λ b o e=>Heap.get?_push_of_some _ e
   refine⟨(s1.heap.push { cls:=.type "range",data:=.fields #[.int i t,.int j t',.int (-1) t''] }).objs.size,[(s1.heap.push { cls:=.type "range",data:=.fields #[.int i t,.int j t',.int (-1) t''] }).objs.size],_,_,H1,rfl,
    I2.kept (t':=s1.toks) λ b o e=>Heap.get?_push_of_some _ e,on _ i (i-j).toNat,?_,λ b hb=>?_,q⟩
   ·have e1:i+((0:Nat):Int)*(-1)=i:=by simp
    have e2:(((i-j).toNat:Nat):Int)-((0:Nat):Int)=Builtin.Range.rangeSize i j (-1):=by rw[eR]; omega
    show IsRangeIter _ _ (i+((0:Nat):Int)*(-1)) ((((i-j).toNat:Nat):Int)-((0:Nat):Int)) (-1)
    rw[e1,e2]
    exact Heap.get?_push_size _ rfl
   ·have e:b=(s1.heap.push { cls:=.type "range",data:=.fields #[.int i t,.int j t',.int (-1) t''] }).objs.size:=by simpa using hb
    subst e
    exact I2.fpOk (y4 _) (I2.hok.fresh (y4 _))
theorem lJ (hi:Int):∀ (n i:Nat) (d:D),(Dv.downL hi n)[i]?=some d->i<n/\d=.int (hi-i)
 | 0,i,d,h=>by simp[Dv.downL] at h
 | n+1,0,d,h=>by simp[Dv.downL] at h; subst h; simp
 | n+1,i+1,d,h=>by
  have:=lJ (hi-1) n i d (by simpa[Dv.downL] using h)
  refine⟨by omega,?_⟩
  rw[this.2]
  congr 1
  omega
theorem ky:∀ (n:Nat) (hi:Int),(Dv.downL hi n).length=n
 | 0,hi=>rfl
 | n+1,hi=>by unfold Dv.downL; rw[yJ,ky n]
theorem qU {K:PySem.W.Frag}{Hv:Hp}(hi:Int)(n:Nat):Wlk K (ItD hi n) Hv (Dv.downL hi n):=λ i H s=>⟨λ d hd=>by
 obtain⟨h1,rfl⟩:=lJ hi n i d hd
 exact⟨h1,λ v H' ⟨e1,e2⟩=>by subst e1 e2; exact⟨Hv,.refl s,bM⟩⟩,λ e=>by
 rw[ky] at e
 show n<=i
 omega⟩
section
variable {C:Ctx}{a b c e:Expr}{f g h:EE}{pos:Pos}
end
noncomputable def OkR (K:PySem.W.Frag)(Hv H:Hp)(W:XK)(cls:String->Value)(r:RI)(T:It->Hp->Prop):Prop:=match r with
 | .ok ds _=>∀ J Hv' H',Ext Hv H Hv' H'->(∀ Hc,Wlk K J Hc ds)->T J H'
 | .exc c=>∀ Hv' H',Ext Hv H Hv' H'->W (cls c) none H'
 | .bad=>False
noncomputable def SR (C:Ctx)(tg it:Expr)(f:EI):Prop :=
 ∃ t:TI,PI C.X tg it t/\∀ σ H Hv ρ T,EnvR C.X.K Hv ρ σ->Same Hv H->OkR C.X.K Hv H (C.W σ) C.cls (f ρ) T->t σ H T
section
variable {C:Ctx}{a b c e:Expr}{f g h:EE}{F:SS}{pos pos':Pos}
theorem uB {tg:Expr}{p:Pos}(hg:Gl C.X "range")(hm:C.X.mg "range"=none)(he:SE C e f)(hb:SE C b g)(hc:SE C c (Dv.eNeg (Dv.eInt 1)))(hs:autoParam (starEach [e,b,c] C.X.env=(false,eval e C.X.env)::starEach [b,c] C.X.env) Au.h4._auto_1)
  (hs2:autoParam (starEach [b,c] C.X.env=(false,eval b C.X.env)::starEach [c] C.X.env) Au.h4._auto_1) (hs3:autoParam (starEach [c] C.X.env=[(false,eval c C.X.env)]) Au.h4._auto_1):SR C tg (.Call (.Name "range" p) [e,b,c] [] pos) (Dv.iDown f g):=by
 obtain⟨t,pe,q⟩:=he
 obtain⟨t2,pe2,q2⟩:=hb
 obtain⟨t3,pe3,q3⟩:=hc
 refine⟨_,o7 hg hm (aG pe (aG pe2 (aG pe3 bu hs3) hs2) hs) hs (by rw[hs2,hs3]; rfl),λ σ H Hv ρ T er s w=>?_⟩
 refine q σ H Hv ρ _ er s ?_
 unfold Dv.iDown at w
 cases hf:f ρ with
 | bad=>rw[hf] at w; exact w
 | exc c=>rw[hf] at w; exact w
 | ok d fr =>
  rw[hf] at w
  intro v Hv' H' x rp n
  cases d with
  | int i =>
   refine q2 σ H' Hv' ρ _ (er.same x.vv) x.vh ?_
   cases hg':g ρ with
   | bad=>simp only[hg'] at w; exact w
   | exc c=>simp only[hg'] at w; exact λ Hv2 H2 y=>w Hv2 H2 (x.trans y)
   | ok d2 fr2 =>
    simp only[hg'] at w
    intro v2 Hv2 H2 y rp2 n2
    cases d2 with
    | int j =>
     by_cases hr:(Dv.rngOk i&&Dv.rngOk j)=true
     ·simp only[hr,if_true] at w
      rw[yN] at hr
      refine q3 σ H2 Hv2 ρ _ ((er.same x.vv).same y.vv) y.vh ?_
      intro v3 Hv3 H3 z rp3 n3
      unfold Rp at rp rp2 rp3
      subst rp rp2 rp3
      exact⟨i,j,rfl,hr.1,hr.2,w _ Hv3 H3 ((x.trans y).trans z) λ _=>qU i _⟩
     ·simp only[hr] at w; exact(show False from w).elim
    | _=>exact(show False from w).elim
  | _=>exact(show False from w).elim
theorem uA {i:Nat}{x:Str}{it:Expr}{body:List Stmt}{fi:EI}(hi:SR C (.Name x pos') it fi)(hb:SSs C body F)(hN:C.X.N.Nodup)(hn:C.X.N[i]?=some x)(hx:Loc C.X.env.scope x)
  (hf:autoParam (C.X.fn x=true\/C.X.env.scope.names.lookup x=some .local) Au.h1._auto_1) (hs:autoParam (∀ x,foldedSetIterable it C.X.env x=pure x) Au.h3._auto_1) (hcalm:autoParam (C.X.calm=true) Au.h4._auto_1) :
  SSt C (.For (.Name x pos') it body [] pos) (Dv.sForR i fi F):=by
 obtain⟨wi,pi,qi⟩:=hi
 obtain⟨g,pg,qg⟩:=ng (C:=C) (pos:=pos') hN hn hx hf
 obtain⟨tb,pb,qb⟩:=hb
 refine⟨_,sG C.own hcalm pi pg pb hs,λ Hv₀ H₀ E σ H st ⟨Hc,O,r⟩ w=>?_⟩
 unfold Dv.sForR at w
 refine qi σ H (ed Hc O H) (Dv.all st) _ r.envAll r.allH ?_
 cases hf:fi (Dv.all st) with
 | bad=>simp only[hf] at w; exact w
 | exc c=>simp only[hf] at w; exact λ Hv' H' x=>w σ H' ⟨Hc,O,r.grow x.hh x.nf⟩
 | ok ds fr =>
  simp only[hf] at w
  intro J Hv' H' x wl
  have r1:=r.grow x.hh x.nf
  rw[<- gC] at w
  exact qW qg qb (wl Hc) ⟨Hc,O,r1.self⟩ (w.less r1.vc r1.new)
end
noncomputable def ItE (K:PySem.W.Frag)(l:Addr):It :=
  ⟨λ i H=>∃ (xs:List V) (x:V),SqL K H l xs/\xs[i]?=some x,
   λ i H v H'=>∃ p,H p=none/\v=.ref p/\∀ xs,SqL K H l xs->∃ x,xs[i]?=some x/\H'=upd H p (.tup [.int i,x]),
   λ i H=>∃ xs,SqL K H l xs/\xs.length<=i⟩
theorem pL {P:Program}{w:World}{K:PySem.W.Frag}{es:List Expr}{kt:Nat}{tpos:Pos}{z i1 l:Addr}(hne:z≠i1)(hl1:l≠z)(hl2:l≠i1) :
  Turn P w K (.Tuple es kt tpos) (ItE K l) [z,i1] z (λ i h=>(∃ old,IsEnum h z i1 i old)/\h.IsListIter i1 l i) where
 mem:=by simp
 obj:=λ i h ⟨⟨old,a1⟩,⟨o4,e4,_,d4⟩⟩ b hb=>by
  simp only[Aw,Aj,or_false] at hb
  rcases hb with rfl|rfl
  ·exact⟨_,a1,λ v q=>by cases q⟩
  ·exact⟨_,e4,λ v q=>by rw[d4] at q; cases q⟩
 keep:=λ i h h' ⟨⟨old,a1⟩,a4⟩ k=>⟨⟨old,k z (by simp) _ a1⟩,a4.at λ o e=>k i1 (by simp) o e⟩
 item:=by
  intro X hP hw hK hc i pins s σ H E I hf ⟨⟨old,a1⟩,a4⟩ hg
  subst hP hw hK
  obtain⟨xs,x,hq1,hx⟩:=hg
  obtain⟨its1,r1,p1,z1⟩:=I.list hq1
  obtain⟨u1,e1,ru1⟩:=r1.get hx
  refine wpAny_pyNext_enum_item a1 a4 p1.isList (x:=u1) (by simpa using e1) hne λ h' b1 b3 b5 b6 kk=>?_
  refine⟨_,rfl,wpAny_letOwnedTupleGo_enum b1 λ h2 hz sb=>?_⟩
  have hf0:H s.heap.objs.size=none:=I.hok.fresh (y4 _)
  have ltz:s.heap.objs.size≠z:=BP (Heap.lt_size a1)
  have kept:∀ b o,b∉[z,i1]->s.heap.get? b=some o->h2.get? b=some o:=λ b o hb e=>by
   simp only[Aw,Aj,or_false,not_or] at hb
   exact(sb.2 b hb.1).trans (kk b o hb.1 hb.2 e)
  have I0:Inv X pins σ H { s with toks:=s.toks+1 }:=I.tok _
  have I2:Inv X pins σ H { s with heap:=h2,toks:=s.toks+1 }:=Inv.but I0 hf kept
  have tp:IsTup h2 s.heap.objs.size #[.int i s.toks,u1]:=⟨_,(sb.2 _ ltz).trans b5,rfl,_,rfl⟩
  have I3:Inv X pins σ (upd H s.heap.objs.size (.tup [.int i,x])) { s with heap:=h2,toks:=s.toks+1 }:=by
   have hk2:HOk X.prog X.w (upd H s.heap.objs.size (.tup [.int i,x])) h2:=fW I2.hok hf0 ⟨by show 2<=sizeLine; decide,[.int i s.toks,u1],.cons ⟨_,rfl⟩ (.cons ru1 .nil),tp⟩
   have nsz:∀ b o,s.heap.get? b=some o->b≠s.heap.objs.size:=λ b o e=>zb (Heap.lt_size e)
   refine I.step (g':=s.gens) (d':=s.drawn) (t':=s.toks+1) (ch:=[z,i1]) (λ b hb=>⟨(hf b hb).2.2.2.1,(hf b hb).2.1,(hf b hb).2.2.2.2.1,(hf b hb).2.2.2.2.2⟩) (λ b o _ _ hc e _=>kept b o hc e) (λ b o _ _ hc e _=>⟨o.slots,kept b o hc e⟩) (λ b o _ e n=>by rw[ar (nsz b o e)]; exact n)
    (λ b o hc e=>⟨o,kept b o hc e⟩) (λ b us e=>by rw[ar (ax e hf0)]; exact e) (λ b ob us e=>by rw[ar (ax e hf0)]; exact e) (λ b ps e=>⟨#[],by rw[ar (ax e hf0),e]; simp⟩) (λ m hm=>?_) hk2 I.bare
   obtain⟨o,es,ep,ho,r⟩:=hm
   exact⟨o,es,ep,kept _ _ (λ hb=>(hf _ hb).2.1 rfl) ho,r⟩
  have c4:h2.IsListIter i1 l (i+1):=b3.extBut sb.extBut (Ne.symm hne)
  refine⟨.ref s.heap.objs.size,_,I3,rfl,⟨s.heap.objs.size,hf0,rfl,λ as h1=>?_⟩,⟨⟨u1,by exact_mod_cast hz⟩,c4⟩,λ b hb=>?_⟩
  ·exact⟨x,by rw[I.list_inj h1 hq1]; exact hx,rfl⟩
  ·have hbs:b≠s.heap.objs.size:=by
    simp only[Aw,Aj,or_false] at hb
    rcases hb with rfl|rfl
    ·exact zb (Heap.lt_size a1)
    ·obtain⟨o,e,_⟩:=a4; exact zb (Heap.lt_size e)
   rw[ar hbs]
   exact(hf b hb).1
 done:=by
  intro X hP hw hK hc i pins s σ H E I hf ⟨⟨old,a1⟩,a4⟩ hg
  subst hP hw hK
  obtain⟨xs,hq1,hx⟩:=hg
  obtain⟨its1,r1,p1,z1⟩:=I.list hq1
  have n1:=r1.length
  refine wpAny_pyNext_enum_end (I.ok.hd hc) a1 a4 p1.isList (by simp; omega) λ h' kk=>⟨rfl,Inv.but I hf λ b o hb e=>?_⟩
  simp only[Aw,Aj,or_false,not_or] at hb
  exact kk b o hb.2 e
 self:=λ _ _ _ _ _ st h=>wpAny_pyIter_enum st.1.choose_spec h
noncomputable def wC (K:PySem.W.Frag)(ta:TA):TI:=λ σ H T=>ta σ H λ vs H1=>∃ l xs,vs=[.ref l]/\SqL K H1 l xs/\T (ItE K l) H1
theorem ub {X:Cx}{a:Expr}{ta:TA}{es:List Expr}{kt:Nat}{tpos p pos:Pos}(hg:Gl X "enumerate")(hm:X.mg "enumerate"=none)(ha:PA X [a] ta)(hs:starEach [a] X.env=[(false,eval a X.env)]) :
  PI X (.Tuple es kt tpos) (.Call (.Name "enumerate" p) [a] [] pos) (wC X.K ta):=by
 intro pins s σ H R I h
 refine Call_ (dg I hg hm (by decide +kernel:bootBuiltins "enumerate"=some (.type "enumerate")) (PyProof.Rows.callWith_type1 (thn (ha pos pins s σ H _ I h) λ us s1 ⟨vs,H1,I1,r1,q1⟩=>?_) hs rfl))
 obtain⟨l,xs,rfl,hq1,q⟩:=q1
 obtain⟨u1,rfl,e1⟩:=lC r1
 cases e1
 obtain⟨its1,rr1,p1,z1⟩:=I1.list hq1
 refine call_enumerate_list p1.isList λ h' c1 c4 c6 kk=>?_
 have lt1:l<s1.heap.objs.size:=by obtain⟨o,e,_⟩:=p1.isList; exact Heap.lt_size e
 have I2:Inv X pins σ H1 { s1 with heap:=h' }:=I1.kept (t':=s1.toks) kk
 refine wpAny_pyIter_enum c1 ⟨s1.heap.objs.size+1,[s1.heap.objs.size+1,s1.heap.objs.size],_,_,H1,rfl,I2,pL (Nat.succ_ne_self _) (zb (AT lt1)) (zb lt1),⟨⟨.none,c1⟩,c4⟩,λ b hb=>?_,q⟩
 have hb':s1.heap.objs.size<=b:=by
  simp only[Aw,Aj,or_false] at hb
  rcases hb with rfl|rfl
  ·exact Nat.le_add_right _ _
  ·exact y4 _
 exact I1.fpOk hb' (I1.hok.fresh hb')
theorem ku:∀ {xs:List D} {k i:Nat} {d:D},(Dv.enumL k xs)[i]?=some d->∃ x,xs[i]?=some x/\d=.tup [.int ((k+i:Nat):Int),x]
 | [],k,i,d,h=>by simp[Dv.enumL] at h
 | x::r,k,0,d,h=>by simp[Dv.enumL] at h; subst h; exact⟨x,rfl,by simp⟩
 | x::r,k,i+1,d,h=>by
  obtain⟨y,h1,h2⟩:=ku (k:=k+1) (i:=i) (d:=d) (xs:=r) (by simpa[Dv.enumL] using h)
  refine⟨y,by simpa using h1,?_⟩
  rw[h2]
  have:k+1+i=k+(i+1):=by omega
  rw[this]
theorem lc:∀ (xs:List D) (k:Nat),(Dv.enumL k xs).length=xs.length
 | [],k=>rfl
 | x::r,k=>by unfold Dv.enumL; rw[yJ,yJ,lc r]
theorem uP {C:Ctx}{a:Expr}{f:EE}{es:List Expr}{kt:Nat}{tpos p pos:Pos}(hg:Gl C.X "enumerate")(hm:C.X.mg "enumerate"=none)(ha:SE C a f)(hs:autoParam (starEach [a] C.X.env=[(false,eval a C.X.env)]) Au.h4._auto_1) :
  SI C (.Tuple es kt tpos) (.Call (.Name "enumerate" p) [a] [] pos) (Dv.iEnum f):=by
 obtain⟨t,pe,q⟩:=ha
 refine⟨_,ub hg hm (aG pe bu hs) hs,λ σ H Hv ρ T er s w=>?_⟩
 refine q σ H Hv ρ _ er s ?_
 unfold Dv.iEnum at w
 cases hf:f ρ with
 | bad=>rw[hf] at w; exact w
 | exc c=>rw[hf] at w; exact w
 | ok d fr =>
  rw[hf] at w
  intro v Hv' H' x rp n
  cases d with
  | lst xs =>
   unfold Rp at rp
   obtain⟨l1,vs,rfl,h1,h2⟩:=rp
   refine⟨l1,vs,rfl,(h1.same x.vh).seq,w _ Hv' H' x λ i H3 s3=>⟨λ d hd=>?_,λ hi=>?_⟩⟩
   ·obtain⟨dx,g1,rfl⟩:=ku hd
    obtain⟨vx,k1,k2⟩:=h2.get g1
    refine⟨⟨vs,vx,(h1.same s3).seq,k1⟩,λ u H4 ⟨p,hp,e1,hh⟩=>?_⟩
    obtain⟨x',m1,rfl⟩:=hh vs (h1.same s3).seq
    rw[k1] at m1
    cases m1
    subst e1
    have nx:=Ext.new1 s3 hp (.tup [.int i,vx])
    refine⟨_,nx,?_⟩
    unfold Rp
    refine⟨p,_,rfl,.inl aD,.cons ?_ (.cons (k2.same nx.vv) .nil)⟩
    unfold Rp
    simp
   ·refine⟨vs,(h1.same s3).seq,?_⟩
    rw[h2.length]
    rw[lc] at hi
    omega
  | _=>exact(show False from w).elim
theorem fD {K:PySem.W.Frag}{H:Hp}{j:Int}{d:D}:∀ {ks:List Int} {ds:List D} {vs:List V},RpL K H ds vs->Dv.look ks ds j=some d->∃ v,ib ((ks.map (Sum.inl:Int->Key)).zip vs) (Sum.inl j)=some v/\Rp K H d v
 | [],ds,vs,h,e=>by simp[Dv.look] at e
 | k::ks,[],vs,h,e=>by simp[Dv.look] at e
 | k::ks,x::ds,vs,h,e=>by
  unfold RpL at h
  obtain⟨v,ws,rfl,h1,h2⟩:=h
  unfold Dv.look at e
  rw[yH,AM]
  by_cases hk:k=j
  ·rw[if_pos hk] at e
   cases e
   exact⟨v,eV (by rw[hk]),h1⟩
  ·rw[if_neg hk] at e
   obtain⟨u,h3,h4⟩:=fD h2 e
   exact⟨u,by rw[eX (λ z=>hk (Sum.inl.inj z))]; exact h3,h4⟩
theorem iP {K:PySem.W.Frag}{H:Hp}{j:Int}{x:D}{v:V}(rx:Rp K H x v):∀ {ks:List Int} {ds:List D} {vs:List V},ks.length=ds.length->RpL K H ds vs ->
  ∃ ws,((ks.map (Sum.inl:Int->Key)).zip vs).map (λ kv=>if kv.1=Sum.inl j then (kv.1,v) else kv)=(ks.map (Sum.inl:Int->Key)).zip ws/\RpL K H (Dv.replL ks ds j x) ws/\(Dv.replL ks ds j x).length=ds.length
 | [],[],vs,_,h=>⟨[],rfl,by unfold Dv.replL; exact .nil,rfl⟩
 | [],_::_,vs,hl,h=>by cases hl
 | _::_,[],vs,hl,h=>by cases hl
 | k::ks,d::ds,vs,hl,h=>by
  unfold RpL at h
  obtain⟨u,us,rfl,h1,h2⟩:=h
  obtain⟨ws,e1,e2,e3⟩:=iP rx (by simpa using hl) h2
  unfold Dv.replL
  rw[yH,AM,yH,e1]
  by_cases hk:k=j
  ·subst hk
   exact⟨v::ws,by simp,by rw[if_pos rfl]; exact .cons rx e2,by simp[e3]⟩
  ·have:¬ ((Sum.inl k:Key)=Sum.inl j):=λ z=>hk (Sum.inl.inj z)
   exact⟨u::ws,by simp[hk],by rw[if_neg hk]; exact .cons h1 e2,by simp[e3]⟩
theorem nI {j:Int}:∀ {ks:List Int} {vs:List V},ks.length=vs.length->(((ks.map (Sum.inl:Int->Key)).zip vs).any λ kv=>decide (kv.1=Sum.inl j))=decide (j∈ks)
 | [],[],_=>by simp
 | [],_::_,h=>by cases h
 | _::_,[],h=>by cases h
 | k::ks,v::vs,h=>by
  rw[yH,AM,zQ,nI (by simpa using h)]
  by_cases hk:k=j
  ·subst hk; simp
  ·have h1:¬ ((Sum.inl k:Key)=Sum.inl j):=λ z=>hk (Sum.inl.inj z)
   have h2:¬ j=k:=λ z=>hk z.symm
   simp[h1,h2]
theorem uG {K:PySem.W.Frag}{H:Hp}{j:Int}{x:D}{v:V}{ks:List Int}{ds:List D}{vs:List V}(rx:Rp K H x v)(hl:ks.length=ds.length)(h:RpL K H ds vs) :
  ∃ ws,dD ((ks.map (Sum.inl:Int->Key)).zip vs) (Sum.inl j) v=((Dv.putKs ks j).map (Sum.inl:Int->Key)).zip ws/\RpL K H (Dv.putL ks ds j x) ws/\(Dv.putKs ks j).length=(Dv.putL ks ds j x).length:=by
 have hv:=h.length
 unfold dD Dv.putKs Dv.putL
 rw[nI (by omega)]
 by_cases hj:j∈ks
 ·rw[if_pos (decide_eq_true hj),if_pos hj,if_pos hj]
  obtain⟨ws,e1,e2,e3⟩:=iP (j:=j) rx hl h
  exact⟨ws,e1,e2,by rw[e3,hl]⟩
 ·rw[if_neg (by simp[hj]),if_neg hj,if_neg hj]
  refine⟨vs++[v],?_,h.append (.cons rx .nil),by simp[hl]⟩
  rw[An,List.zip_append (by simp; omega)]
  rfl
section
variable {C:Ctx}{a b c e k:Expr}{f g h:EE}{F G:SS}{pos pos':Pos}{E:Ends}
theorem qN:SE C (.Dict [] [] pos) Dv.eDict0:=⟨_,qX,λ σ H Hv ρ Q e s w p hp=>by
 refine w (.ref p) _ _ (Ext.new1 s hp (.dK [])) ?_ λ _=>?_
 ·unfold Rp; exact⟨p,[],rfl,rfl,.inl aD,.nil⟩
 ·unfold Rp; exact⟨p,[],rfl,rfl,.inl (Hnew.at hp _),.nil⟩⟩
theorem vd (C:Ctx):C.X.A.units+1<cLine:=by have:=C.un; omega
theorem qd (ha:SE C a f)(hb:SE C b g)(hs:autoParam (wB b) Au.h8._auto_1):SE C (.Subscript a b pos) (Dv.eDix f g):=by
 obtain⟨ta,pa,qa⟩:=ha
 obtain⟨tb,pb,qb⟩:=hb
 refine⟨_,t0 (vd C) pa pb hs,λ σ H Hv ρ Q e s w=>?_⟩
 refine qa.step e (.refl s) w λ v d fr Hv1 H1 _ x1 _ rp1 n1 q1=>qb.step e x1 q1 λ v2 d2 fr2 Hv2 H2 _ x2 y2 rp2 _ q2=>?_
 have rp:=rp1.same y2.vv
 have rn:fr=true->Rp [] (Hnew H H2) d v:=λ z=>(n1 z).same (Hnew.mono (.refl _) y2.hh)
 cases d with
 | dct ks ds =>
  cases d2 with
  | int j =>
   unfold Rp at rp2
   cases hk:Dv.look ks ds j with
   | none=>simp only[hk] at q2; exact(show False from q2).elim
   | some d0 =>
    simp only[hk] at q2
    cases fr with
    | true =>
     have rp:=rn rfl
     unfold Rp at rp
     obtain⟨a,vs,rfl,hl,h1,h2⟩:=rp
     obtain⟨v0,e1,e2⟩:=fD h2 hk
     exact⟨a,v0,rfl,.inl ⟨_,Sum.inl j,Rd.same Hnew.sub h1,rp2,e1.symm⟩,q2 v0 Hv2 H2 x2 (Rp.frag (e2.same x2.news)) λ z=>e2⟩
    | false =>
     unfold Rp at rp
     obtain⟨a,vs,rfl,hl,h1,h2⟩:=rp
     obtain⟨v0,e1,e2⟩:=fD h2 hk
     exact⟨a,v0,rfl,.inl ⟨_,Sum.inl j,Rd.same x2.vh h1,rp2,e1.symm⟩,q2 v0 Hv2 H2 x2 e2 λ z=>Rp.scal z e2⟩
  | _=>exact(show False from q2).elim
 | _=>exact(show False from q2).elim
theorem kP {R R':Hp}{a:Addr}{kvs:List (Key × V)}(ha:R a=some (.dK kvs))(hR:∀ b o,b≠a->R b=some o->R' b=some o):∀ {ds:List D} {vs:List V},Dv.lstsFlat ds=true->RpL [] R ds vs->RpL [] R' ds vs
 | [],vs,_,h=>by unfold RpL at h ⊢; exact h
 | d::r,vs,f,h=>by
  unfold RpL at h
  obtain⟨v,ws,rfl,h1,h2⟩:=h
  cases d with
  | lst es =>
   simp only[Dv.lstsFlat,yN] at f
   refine .cons ?_ (kP ha hR f.2 h2)
   unfold Rp at h1 ⊢
   obtain⟨b,us,rfl,h3,h4⟩:=h1
   refine⟨b,us,rfl,?_,h4.flat f.1⟩
   rcases h3 with (h3|⟨u,h3⟩)|⟨its,n,e,_⟩
   ·exact .inl (.inl (hR b _ (λ z=>by rw[z,ha] at h3; cases h3) h3))
   ·exact .inl (.inr ⟨u,hR b _ (λ z=>by rw[z,ha] at h3; cases h3) h3⟩)
   ·simp at e
  | _=>simp[Dv.lstsFlat] at f
theorem sw {i y:Nat}{x yn:Str}{px py:Pos}(hk:SE C k g)(hN:autoParam (C.X.N[i]?=some x) Au.h4._auto_1)(hv:autoParam (Vis C.X.env.scope x) Au.h7._auto_1)
  (hd:autoParam ((x == ("__debug__":Str))=false) Au.h2._auto_1) (hcd:autoParam ((x == ("__classdict__":Str))=false) Au.h2._auto_1) (hNy:autoParam (C.X.N[y]?=some yn) Au.h4._auto_1) (hvy:autoParam (Vis C.X.env.scope yn) Au.h7._auto_1)
  (hdy:autoParam ((yn == ("__debug__":Str))=false) Au.h2._auto_1) (hcdy:autoParam ((yn == ("__classdict__":Str))=false) Au.h2._auto_1)
  (hs:autoParam (swapsWith (.Name yn py) (some (.Subscript (.Name x px) k pos')) pos.line C.X.env=pure false) Au.h4._auto_1):SSt C (.Assign [.Subscript (.Name x px) k pos'] (.Name yn py) pos) (Dv.sDMove i y g):=by
 obtain⟨t2,p2,q2⟩:=hk
 refine⟨_,ur (vd C) (bH hN hv hd hcd) p2 (bH hNy hvy hdy hcdy) hs,λ Hv₀ H₀ E σ H st ⟨Hc,O,r⟩ w=>?_⟩
 unfold Dv.sDMove at w
 cases hi:st[i]? with
 | none=>simp only[hi] at w; exact(show False from w).elim
 | some si =>
  cases hy:st[y]? with
  | none=>simp only[hi,hy] at w; cases si <;>first|exact(show False from w).elim|(rename_i d; cases d <;>exact(show False from w).elim)
  | some sy =>
   simp only[hi,hy] at w
   cases si with
   | dp d =>
    cases d with
    | dct ks ds =>
     cases sy with
     | ow d2 =>
      cases d2 with
      | lst es =>
       obtain⟨b,ob,b1,b2,us,rfl,b3⟩:=r.ow y _ hy
       obtain⟨v,h1,h2⟩:=r.dp i _ hi
       refine⟨_,b1,_,h1,?_⟩
       refine q2.all r (λ c hf H' r'=>?_) (λ hf=>?_) λ d fr v2 Hv' H' hf x r' rp n=>?_
       ·simp only[hf] at w; exact w σ H' ⟨Hc,O,r'⟩
       ·simp only[hf] at w; exact w
       ·cases d with
        | int j =>
         simp only[hf] at w
         by_cases z:(Dv.flatL es&&Dv.lstsFlat ds&&decide (ks.length<Dv.mx)&&decide (ks.length=ds.length)&&decide (i≠y))=true
         ·simp only[z,if_true] at w
          simp only[yN,decide_eq_true_eq] at z
          obtain⟨⟨⟨⟨z1,z2⟩,z3⟩,z4⟩,z5⟩:=z
          unfold Rp at rp
          subst rp
          unfold Rp at h2
          obtain⟨a,vs,rfl,hl,h3,h4⟩:=h2
          have ha:O i a=some (.dK ((ks.map Sum.inl).zip vs)):=by
           rcases h3 with h3|⟨u,h3⟩
           ·exact h3
           ·exact absurd (r.oh i a _ h3).1 (r.nf a _ _ (r.oh i a _ h3).2.2)
          have hba:b≠a:=λ z=>z5 (r.one i y a _ _ ha (by rw[<- z]; exact b2))
          have n1:∀ c o,O y c=some o->O i c=none:=λ c o h=>by
           cases q:O i c with
           | none=>rfl
           | some u=>exact absurd (r.one i y c u o q h) z5
          let R0:Hp:=dE (O i) (O y)
          have hR:∀ kvs c o,c≠a->O i c=some o->upd R0 a (.dK kvs) c=some o:=λ kvs c o hc h=>by
           rw[ar hc]; exact ki c o h
          have rb:∀ kvs,Rp [] (upd R0 a (.dK kvs)) (.lst es) (.ref b):=λ kvs=>by
           unfold Rp
           exact⟨b,us,rfl,SqX.of (by rw[ar hba]; exact jG (λ c o h=>n1 c o h) b _ b2),b3.flat z1⟩
          obtain⟨ws,e1,e2,e3⟩:=uG (K:=[]) (j:=j) (H:=upd R0 a (.dK (dD ((ks.map Sum.inl).zip vs) (Sum.inl j) (.ref b)))) (rb _) hl (kP ha (hR _) z2 h4)
          refine⟨a,_,rfl,.inl ⟨_,Sum.inl j,x.hh _ _ (r.oh i a _ ha).1,rfl,?_,rfl⟩,w σ (upd H' a (.dK (dD ((ks.map Sum.inl).zip vs) (Sum.inl j) (.ref b)))) ⟨Hc,eC (eC O y λ _=>none) i (upd R0 a (.dK (dD ((ks.map Sum.inl).zip vs) (Sum.inl j) (.ref b)))),?_⟩⟩
          ·have z6:ks.length<100000:=z3
           have:=sizeLine_eq
           simp only[BH,yP]
           omega
          ·have hσ:σ.set y (some (.ref b))=σ:=eQ b1
           have r1:RelC C.X.K Hv₀ H₀ Hc (eC O y λ _=>none) (st.set y .no) (σ.set y (some (.ref b))) H' :=
            r'.setAny r'.h0 r'.ch r'.nf (λ j hj=>aY hj) (λ _ e=>nomatch e) (λ _ e=>nomatch e) (λ _ e=>nomatch e) (λ _ _ e=>nomatch e)
             (λ j c o h=>by
              by_cases hj:j=y
              ·rw[hj,aI] at h; cases h
              ·rw[aY hj] at h; exact r'.oh j c o h)
             (λ j c o o' h=>by rw[aI] at h; cases h)
           rw[hσ] at r1
           have hσi:σ.set i (some (.ref a))=σ:=eQ h1
           have oo:∀ c o,R0 c=some o->H' c=some o/\Hc c=none/\H₀ c=none:=λ c o h=>by
            rcases dM h with h|⟨_,h⟩
            ·exact r'.oh i c o h
            ·exact r'.oh y c o h
           have haH:=r'.oh i a _ ha
           have r2:=r1.setAny (i:=i) (s:=.dp (.dct (Dv.putKs ks j) (Dv.putL ks ds j (.lst es)))) (v:=some (.ref a)) (H':=upd H' a (.dK (dD ((ks.map Sum.inl).zip vs) (Sum.inl j) (.ref b)))) (O':=eC (eC O y λ _=>none) i (upd R0 a (.dK (dD ((ks.map Sum.inl).zip vs) (Sum.inl j) (.ref b)))))
            (λ c o h=>by rw[ar (ax h haH.2.2)]; exact r1.h0 c o h) (λ c o h=>by rw[ar (ax h haH.2.1)]; exact r1.ch c o h)
            (λ c q u h=>by
             by_cases hc:c=a
             ·subst hc; rw[aD]; intro z; cases z
             ·rw[ar hc]; exact r1.nf c q u h)
            (λ j hj=>aY hj) (λ _ e=>nomatch e) (λ _ e=>nomatch e)
            (λ d e=>by
             cases e
             refine⟨_,rfl,?_⟩
             rw[aI]
             unfold Rp
             exact⟨a,ws,rfl,e3,.inl (by rw[aD,e1]),e2⟩)
            (λ _ _ e=>nomatch e)
            (λ j' c o h=>by
             by_cases hj:j'=i
             ·rw[hj,aI] at h
              by_cases hc:c=a
              ·subst hc; rw[aD] at h ⊢; exact⟨h,haH.2⟩
              ·rw[ar hc] at h ⊢; exact oo c o h
             ·rw[aY hj] at h
              have hc:c≠a:=λ z=>by
               have h':=h
               by_cases hjy:j'=y
               ·rw[hjy,aI] at h'; cases h'
               ·rw[aY hjy,z] at h'; exact hj (r.one j' i a _ _ h' ha)
              rw[ar hc]
              exact r1.oh j' c o h)
            (λ j' c o o' h hj h'=>by
             rw[aI] at h
             by_cases hjy:j'=y
             ·rw[hjy,aI] at h'; cases h'
             ·rw[aY hjy] at h'
              by_cases hc:c=a
              ·rw[hc] at h'; exact hj (r.one j' i a _ _ h' ha)
              ·rw[ar hc] at h
               rcases dM h with h|⟨_,h⟩
               ·exact hj (r.one j' i c _ _ h' h)
               ·exact hjy (r.one j' y c _ _ h' h))
           rw[hσi] at r2
           exact r2
         ·simp only[z] at w; exact(show False from w).elim
        | _=>simp only[hf] at w; exact(show False from w).elim
      | _=>exact(show False from w).elim
     | _=>exact(show False from w).elim
    | _=>cases sy <;>first|exact(show False from w).elim|(rename_i d; cases d <;>exact(show False from w).elim)
   | _=>cases sy <;>first|exact(show False from w).elim|(rename_i d; cases d <;>exact(show False from w).elim)
theorem mJ {i:Nat}{x:Str}(he:SE C e f)(hN:C.X.N.Nodup)(hi:C.X.N[i]?=some x)(hx:Loc C.X.env.scope x)(hs:autoParam (swapsWith e (some (.Name x pos')) pos.line C.X.env=pure false) Au.h4._auto_1)
  (hf:autoParam (C.X.fn x=true\/C.X.env.scope.names.lookup x=some .local) Au.h1._auto_1):SSt C (.Assign [.Name x pos'] e pos) (Dv.sSetD i f):=by
 obtain⟨t,p,q⟩:=he
 refine⟨_,jP hN hi hx p hs hf,λ Hv₀ H₀ E σ H st ⟨Hc,O,r⟩ w=>?_⟩
 unfold Dv.sSetD at w
 refine q.all r (λ c hf H' r'=>?_) (λ hf=>?_) λ d fr v Hv' H' hf x r' rp n=>?_
 ·rw[hf] at w; exact w σ H' ⟨Hc,O,r'⟩
 ·rw[hf] at w; exact w
 ·rw[hf] at w
  cases fr with
  | false=>exact(show False from w).elim
  | true =>
   refine w _ H' ⟨Hc,_,r'.setDp (R:=Hnew H H') (λ b o h=>⟨Hnew.sub b o h,r.ch.free (bT h),r.h0.free (bT h),λ j _=>?_⟩) (n rfl)⟩
   cases z:O j b with
   | none=>rfl
   | some u=>have:=(r.oh j b u z).1; rw[bT h] at this; cases this
theorem uD {i:Nat}{x:Str}{px pt:Pos}{kt:Nat}(he:SE C e f)(hN:autoParam (C.X.N[i]?=some x) Au.h4._auto_1)(hv:autoParam (Vis C.X.env.scope x) Au.h7._auto_1)(hd:autoParam ((x == ("__debug__":Str))=false) Au.h2._auto_1)
    (hcd:autoParam ((x == ("__classdict__":Str))=false) Au.h2._auto_1) (h1:autoParam (starEach [.Name x px,e] C.X.env=(false,eval (.Name x px) C.X.env)::starEach [e] C.X.env) Au.h4._auto_1) (h2:autoParam (starEach [e] C.X.env=[(false,eval e C.X.env)]) Au.h4._auto_1) :
    SSt C (.Return (some (.Tuple [.Name x px,e] kt pt)) pos) (Dv.sRetT i f):=by
  obtain⟨t,p,q⟩:=he
  refine⟨_,jS (lZ (aG (bH hN hv hd hcd) (aG p bu h2) h1)),λ Hv₀ H₀ E σ H st ⟨Hc,O,r⟩ w=>?_⟩
  unfold Dv.sRetT at w
  cases hi:st[i]? with
  | none=>rw[hi] at w; exact(show False from w).elim
  | some s =>
    rw[hi] at w
    cases s with
    | ow d0 =>
     cases d0 with
     | lst ds =>
      obtain⟨a,o,g1,g2,vs,rfl,g3⟩:=r.ow i _ hi
      refine⟨_,g1,?_⟩
      refine q.all r (λ c hf H' r'=>?_) (λ hf=>?_) λ d fr v Hv' H' hf x r' rp n=>?_
      · simp only[hf] at w; exact w σ H' ⟨Hc,O,r'⟩
      · simp only[hf] at w; exact w
      · cases d with
        | lst es =>
          cases fr with
          | false=>simp only[hf] at w; exact(show False from w).elim
          | true =>
            simp only[hf] at w
            by_cases z:(Dv.flatL ds&&Dv.flatL es)=true
            · simp only[z,if_true] at w
              rw[yN] at z
              obtain⟨b,zs,rfl,hb,hbn,rl⟩:=nu x (n rfl)
              refine⟨by show 2<=sizeLine; decide,λ tt ht=>?_⟩
              have y:=x.trans (Ext.new1 x.vh ht (.tup [.ref a,.ref b]))
              obtain⟨Hv2,x2,s2⟩:=r.ret y
              have ha:H a=some (.lst vs):=(r.oh i a _ g2).1
              have na:a≠tt:=λ z=>by rw[<- z,x.hh _ _ ha] at ht; cases ht
              have nb:b≠tt:=λ z=>by rw[<- z,hb] at ht; cases ht
              have h0t:H₀ tt=none:=(r.h0.trans x.hh).free ht
              refine w (.ref tt) Hv2 _ x2 ?_ λ _=>?_
              · unfold Rp
                refine⟨tt,_,rfl,.inl (s2 _ _ aD),.cons ?_ (.cons ?_ .nil)⟩
                · unfold Rp
                  exact⟨a,vs,rfl,SqX.of (s2 _ _ (y.vv _ _ (r.oAll i a _ g2))),g3.flat z.1⟩
                · have:=(rp.same (Ext.new1 x.vh ht (.tup [.ref a,.ref b])).vv).same s2
                  exact this
              · unfold Rp
                refine⟨tt,[.ref a,.ref b],rfl,.inl ?_,.cons ?_ (.cons ?_ .nil)⟩
                · unfold Hnew; rw[h0t]; exact aD
                · unfold Rp
                  refine⟨a,vs,rfl,SqX.of ?_,g3.flat z.1⟩
                  unfold Hnew
                  rw[(r.oh i a _ g2).2.2]
                  show upd H' tt _ a=_
                  rw[ar na]
                  exact x.hh _ _ ha
                · unfold Rp
                  refine⟨b,zs,rfl,SqX.of ?_,rl.flat z.2⟩
                  unfold Hnew
                  rw[r.h0.free hbn]
                  show upd H' tt _ b=_
                  rw[ar nb]
                  exact hb
            · simp only[z] at w; exact(show False from w).elim
        | _=>simp only[hf] at w; exact(show False from w).elim
     | _=>exact(show False from w).elim
    | _=>exact(show False from w).elim
end
structure RoomH (k:Nat)(A:Around):Prop where
 dp:A.depth+3*k+5<recursionLimit
 un:A.units+16*k+200<cLine
theorem RoomH.mono {j k:Nat}{A:Around}(r:RoomH k A)(h:j<=k):RoomH j A:=⟨by have:=r.dp; omega,by have:=r.un; omega⟩
theorem RoomH.deeper {k:Nat}{A:Around}(r:RoomH (k+1) A)(env:PySem.Env):RoomH k (A.deeper env) :=
 ⟨by have:=r.dp; show A.depth+1+3*k+5<_; omega,by have:=r.un; show A.units+3+16*k+200<_; omega⟩
theorem RoomH.depth {k:Nat}{A:Around}(r:RoomH k A):A.depth<recursionLimit:=by have:=r.dp; omega
theorem RoomH.units {k:Nat}{A:Around}(r:RoomH k A):A.units+64<cLine:=by have:=r.un; omega
theorem wX {k:Nat}{A:Around}{e:Option Value}(r:Room k A):RoomH k (A.mark e):=⟨r.dp,r.un⟩
noncomputable def cxH (P:Program)(w:World)(K:PySem.W.Frag)(mg:Str->Option Value)(base:Heap)(N:List Str)(qual:Str)(scope:Scope)(f:Addr)(cd:Value)(A:Around)(outer:List PySem.Env)(s:Shared)(H:Hp):Cx :=
 { cB CX0 P w K mg base N qual scope f cd A outer s H E0 with calm:=false,xe:=λ _ _=>False }
theorem mG {P:Program}{w:World}{K:PySem.W.Frag}{mg:Str->Option Value}{base:Heap}{N ps:List Str}{qual:Str}{scope:Scope}{f:Addr}{cd:Value}{A:Around}{outer:List PySem.Env}{s s1:Shared}{H:Hp}{us:List Value}{vs:List V}
  (S:FnScope N ps scope) (e0:Env0 P w K mg base A outer s H) (hl:vs.length=ps.length) (r:Vals vs us)
  (x:InCallC s s.heap.objs.size (bindL (envOfC qual scope s.heap.objs.size f cd).kindOf (ps.zip us) λ _=>none) (cellsFrom (s.heap.objs.size+1) scope.names []) (bindC (envOfC qual scope s.heap.objs.size f cd).kindOf (ps.zip us) λ _=>none) s1) :
  Inv (cxH P w K mg base N qual scope f cd A outer s H) [] (start N vs) H s1:=by
 have e1:Env0 P w K mg base { A with handled:=none } outer s H:=⟨e0.frames,e0.mod,e0.bs,e0.bsz,e0.funs,e0.frf,e0.hok,e0.bare⟩
 have I:=iO (CX:=CX0) (E:=E0) (A:={ A with handled:=none }) S rfl e1 hl r x
 exact⟨⟨I.ok.mod,I.ok.kind,I.ok.glob,I.ok.blt,I.ok.above,I.ok.inj,I.ok.has,I.ok.cab,(λ z=>nomatch z),I.ok.frames,I.ok.stk,I.ok.exf,I.ok.bs,I.ok.bsz,I.ok.noex,I.ok.exfs,I.ok.funs,I.ok.frf⟩,I.os,I.bare,I.base,I.loc,I.cell,I.free,I.freeC,I.pin,I.hok,I.len⟩
structure FnOkH (P:Program)(w:World)(K:PySem.W.Frag)(mg:Str->Option Value)(base:Heap)(k:Nat)(f:Addr)(fd:FuncData)(ps:List Str)(sp:Sp):Prop where
 len:∀ vs H Q E,sp vs H Q E->vs.length=ps.length
 run:∀ (A:Around) (outer:List PySem.Env) (s:Shared) (H:Hp) (args:Args) (us:List Value) (vs:List V) (Q:VK),RoomH k A->Env0 P w K mg base A outer s H->BindsTo s fd args (ps.zip us)->Vals vs us->sp vs H Q E0 ->
  codeAny (model P w) A (.call (.ref f) args) (CR CX0 outer P w H s Q E0) s
theorem FnOkH.mono {P:Program}{w:World}{K:PySem.W.Frag}{mg:Str->Option Value}{base:Heap}{j k:Nat}{f:Addr}{fd:FuncData}{ps:List Str}{sp:Sp}(F:FnOkH P w K mg base j f fd ps sp)(h:j<=k) :
  FnOkH P w K mg base k f fd ps sp:=⟨F.len,λ A outer s H args us vs Q hr=>F.run A outer s H args us vs Q (hr.mono h)⟩
section
variable {P:Program}{w:World}{K:PySem.W.Frag}{mg:Str->Option Value}{base:Heap}{CX:CXT}
noncomputable def wu {P:Program}{w:World}(hC:CXok P w CX)(cls:String->Value)(K:PySem.W.Frag)(mg:Str->Option Value)(base:Heap)(N:List Str)(qual:Str)(scope:Scope)(f:Addr)(cd:Value)(A:Around)(outer:List PySem.Env)(s:Shared)(H:Hp)
  {k:Nat} (hr:RoomH k (A.deeper (envOfC qual scope s.heap.objs.size f cd))):Ctx where
 X:=cxH P w K mg base N qual scope f cd A outer s H
 W:=λ _=>E0
 cls:=cls
 CX:=CX
 un:=hr.units
 own:=PassesOwn.never
 pass:=λ pins σ H1 s1 e s' I h=>hC.no _ _ _ _ _ h
 cxF:=hC.no
theorem vL (hC:CXok P w CX)(cls:String->Value){x qual:Str}{st:Stmt}{f:Addr}{N ps:List Str}{k:Nat}{body:SS}(oc:Value)(od:Option Addr)(dV kV doc pm:Value)(an:Option Addr)(cdv ct:Value)(osl:Array (Option Value))
  (lk:K.lookup f=some ⟨oc,od,.func (PySem.W.fnOf x qual (bQ st) (bi st) (ai st) dV kV doc pm an cdv ct),osl⟩) (hcd:PySem.W.codeIn K cdv qual=true) (S:FnScope N ps (ai st))
  (hbody:∀ (A:Around) (outer:List PySem.Env) (s:Shared) (H:Hp) (hr:RoomH k (A.deeper (envOfC qual (ai st) s.heap.objs.size f cdv))),
   SSs (wu hC cls K mg base N qual (ai st) f cdv A outer s H hr) (bi st) body) :
  FnOkH P w K mg base (k+1) f (PySem.W.fnOf x qual (bQ st) (bi st) (ai st) dV kV doc pm an cdv ct) ps (spD K cls (Dv.fn N.length body) ps.length):=by
 have len:∀ vs H Q E,spD K cls (Dv.fn N.length body) ps.length vs H Q E->vs.length=ps.length:=λ vs H Q E h=>nJ h
 refine⟨len,λ A outer s H args us vs Q hr e0 hb r hsp=>?_⟩
 have hl:=len _ _ _ _ hsp
 have KX:K.In s.heap:=e0.mod.kin.keeps λ b o e=>(e0.bs b o e).1
 have lim:s.heap.NoLimit:=e0.mod.nolimit.keeps λ b o e=>(e0.bs b o e).1
 have hkind:∀ y∈ps.zip us,(ai st).names.lookup y.1=some .local\/((ai st).names.lookup y.1=some .cell/\((cellsFrom (s.heap.objs.size+1) (ai st).names []).lookup y.1).isSome=true):=λ⟨n,v⟩ hy=>by
  rcases S.par n (AC hy).1 with q|q
  ·exact .inl q
  ·exact .inr ⟨q,PySem.W.cellsFrom_some _ _ _ (.inl q)⟩
 refine codeAny_call_function hr.depth (KX _ _ lk) rfl S.co S.gen rfl (PySem.W.codeRec_of KX hcd) (hb _ _ _ _ ?_)
 refine wpAny_newFunctionEnv_cells S.kind hkind λ env he s1 x=>?_
 subst he
 refine⟨lim.keeps x.toInCall.keep,codeAny_func ?_⟩
 obtain⟨ds,Hv,hld,sv,rp,ok⟩:=hsp
 obtain⟨t,ht,q⟩:=hbody A outer s H (hr.deeper _)
 have hpl:ps.length<=N.length:=by
  have:=congrArg List.length S.pre
  rw[zE] at this
  omega
 have hq:=q Hv H { nx:=λ _ H'=>Q .non H',rt:=Q } (start N vs) H _ ⟨Hv,_,i5 sv rp (by omega)⟩ (rN (C:=wu hC cls K mg base N qual (ai st) f cdv A outer s H (hr.deeper _)) rfl ok)
 have I:Inv (cxH P w K mg base N qual (ai st) f cdv A outer s H) [] (start N vs) H s1:=mG S e0 hl r x
 refine wpAny_mono (ht [] s1 (start N vs) H _ I hq) (λ fl s' hs=>?_) λ e s' hs=>(show False from hs).elim
 have fin:∀ {σ':St} {H':Hp} {v:V} {u:Value},Inv (cxH P w K mg base N qual (ai st) f cdv A outer s H) [] σ' H' s'->RelV v u->Q v H'->CE outer P w H s Q u s' :=
  λ {σ' H' v u} J rv q=>⟨v,H',J.os,J.bare,J.base,J.hok,rv,q⟩
 cases fl with
 | ret u =>
  obtain⟨v,σ',H',J,rv,q⟩:=hs
  exact fin J rv q
 | next =>
  obtain⟨σ',H',J,q⟩:=hs
  exact fin (v:=V.non) (u:=Value.none) J rfl q
 | brk =>
  obtain⟨_,_,_,q⟩:=hs
  exact False.elim q
 | cont =>
  obtain⟨_,_,_,q⟩:=hs
  exact False.elim q
theorem Df.isH {cls:String->Value}(hC:CXok P w CX){x:Str}{st:Stmt}{f:Addr}{fd:FuncData}{ps:List Str}{F:List D->R}{m j:Nat}(N:List Str)(k:Nat)(body:SS)(d:Df K mg x st ps f fd)(S:FnScope N ps (ai st))
  (hj:j=k+1) (hm:m=ps.length) (hF:F=Dv.fn N.length body)
  (hbody:∀ (cdv:Value) (A:Around) (outer:List PySem.Env) (s:Shared) (H:Hp) (hr:RoomH k (A.deeper (envOfC x (ai st) s.heap.objs.size f cdv))),SSs (wu hC cls K mg base N x (ai st) f cdv A outer s H hr) (bi st) body) :
  FnOkH P w K mg base j f fd ps (spD K cls F m):=by
 subst hj hm hF
 obtain⟨oc,od,dV,kV,doc,pm,an,cdv,ct,osl,rfl,lk,hcd⟩:=d.ex
 exact vL hC cls oc od dV kV doc pm an cdv ct osl lk hcd S (hbody cdv)
end
section
variable {C:Ctx}{e:Expr}{es:List Expr}{fl:EL}{pos:Pos}
theorem wc {k j:Nat}{fa:Addr}{fd:FuncData}{st:Stmt}{ps:List Str}{Fm:List D->R}{x:Str}{p:Pos}(d:Df C.X.K C.X.mg x st ps fa fd)(Fn:FnOkH C.X.prog C.X.w C.X.K C.X.mg C.X.base j fa fd ps (spD C.X.K C.cls Fm ps.length))(hr:RoomH k C.X.A)(hj:j<=k)(hW:C.W=λ _=>E0)
  (hg:Gl C.X x) (ha:SL C (e::es) fl) (hlen:autoParam ((e::es).length=ps.length) Au.h4._auto_1) (hdb:autoParam ((x == ("__debug__":Str))=false) Au.h2._auto_1) (he:autoParam (starEach (e::es) C.X.env=(false,eval e C.X.env)::starEach es C.X.env) Au.h4._auto_1) (hpl:autoParam ((backTo pos (starEach es C.X.env)).any (·.1)=false) Au.h4._auto_1) :
  SE C (.Call (.Name x p) (e::es) [] pos) (Dv.eCall Fm fl):=by
 obtain⟨t,pa,qa,hl⟩:=ha
 have F:=Fn.mono hj
 refine⟨λ σ H Q=>t σ H λ vs H1=>spD C.X.K C.cls Fm ps.length vs H1 Q E0,?_,λ σ H Hv ρ Q er s w=>?_⟩
 ·intro pins s σ H Q I h
  refine wpAny_Call_Name_kw (gv I hg d.m ?_ hdb)
  refine PySem.W.callWith_K (h₀:=C.X.base) I.ok.mod.kin d.kp (thn (pa pos pins s σ H _ I h) λ us s1 ⟨vs,H1,I1,r,q⟩=>⟨I1.kIn,?_⟩) he hpl
  have hl2:us.length=ps.length:=by rw[<- r.length]; exact F.len _ _ _ _ q
  have hb:=d.bd s1 us I1.kIn (by rw[zz]; exact hl2)
  rw[zz] at hb
  refine wpAny_call (codeAny_mono (F.run C.X.A C.X.stack s1 H1 ⟨us,[]⟩ us vs Q hr I1.env0 hb r q) λ rr s' hq=>?_)
  cases rr with
  | error e=>exact False.elim hq
  | ok fl =>
   cases fl with
   | ret u=>exact I1.after hq
   | next=>exact False.elim hq
   | brk=>exact False.elim hq
   | cont=>exact False.elim hq
 ·rw[hW] at w
  have qa':TakL C t fl:=qa
  refine qa σ H Hv ρ _ er s ?_
  unfold Dv.eCall at w
  cases hf:fl ρ with
  | bad=>rw[hf] at w; exact w
  | exc c=>rw[hf] at w; exact λ Hv' H' x=>(show False from w Hv' H' x).elim
  | ok ds fr =>
   rw[hf] at w
   intro vs Hv1 H1 x1 rp n
   exact⟨ds,Hv1,by rw[hl ρ ds fr hf]; exact hlen,x1.vh,rp,Ok.later x1 w⟩
end
end Sd
namespace Dv
end Dv
namespace Sd
open PySem PySem.Spec PyProof.Rows L2
open Dv (D R RL EE EL EI RI Sl Out SS)
inductive NamesAre:List Expr->List Str->Prop
 | nil:NamesAre [] []
 | cons {x:Str} {p:Pos} {es:List Expr} {ts:List Str}:NamesAre es ts->NamesAre (.Name x p::es) (x::ts)
theorem NamesAre.length {es:List Expr}{ts:List Str}(h:NamesAre es ts):es.length=ts.length:=by
 induction h with
 | nil=>rfl
 | cons _ ih=>rw[yJ,yJ,ih]
structure CompNamesT (X:Cx)(scope:Scope)(ts:List Str)(fs:List Str)(is:List Nat):Prop where
 kind:scope.kind=.function
 cell:∀ y∈scope.names,y.2≠.cell
 names:∀ y∈scope.names,y.2=.local->scope.names.lookup y.1=some .local
 tgt:∀ t∈ts,scope.names.lookup t=some .local
 nd:(ts++fs).Nodup
 free:∀ y∈scope.names,y.2=.free->X.env.kindOf y.1=some .cell\/X.env.kindOf y.1=some .free
 fsf:∀ y∈fs,scope.names.lookup y=some .free
 len:is.length=fs.length
 at':∀ (j:Nat) (y:Str),fs[j]?=some y->∃ i,is[j]?=some i/\X.N[i]?=some y
section
variable {C:Ctx}{elt iter:Expr}{es:List Expr}{ts:List Str}{kt:Nat}{px pos:Pos}{ifs:List Expr}{scope:Scope}{fs:List Str}{is:List Nat}{fi:EI}{fe fc:EE}
structure CompAtT (C:Ctx)(ts:List Str)(fs:List Str)(is:List Nat)(scope:Scope)(cl:List (Str × Addr))(L Da:Addr)(s2:Shared)(H1 Hv1:Hp)(fp:List Addr)(tn:Nat->Heap->Prop)(σ:St)(ds:List D)(i:Nat)(os:St)(vs:List V)(xs:List D)(f1:Bool)(Hn Hvn:Hp)(s:Shared):Prop where
 le:i<=ds.length
 ol:os.length=ts.length
 inv:Inv (bP C.X (ts++fs) scope cl L s2 H1 fp) [] (os++cj σ is) Hn s
 at_:tn i s.heap
 fpn:∀ b∈fp,Hn b=none
 obj:∃ (its:List Value) (ne:Nat),s.heap.get? Da=some { cls:=.type "list",data:=.seq its.toArray ne }/\Vals vs its
 dn:Hn Da=none
 few:vs.length<=i
 ext:Ext Hv1 H1 Hvn Hn
 rp:RpL C.X.K Hvn xs vs
 fr:f1=true->RpL [] (Hnew H1 Hn) xs vs
end
section
variable {C:Ctx}{a b c e k:Expr}{f g h:EE}{F G:SS}{pos pos':Pos}{E:Ends}
end
end Sd
namespace Dv
end Dv
namespace Sd
open PySem PySem.Spec PyProof.Rows L2
open Dv (D R RL EE EL EI RI Sl Out SS)
section
variable {C:Ctx}{a b c e k:Expr}{f g h:EE}{F G:SS}{pos pos':Pos}{E:Ends}
end
end Sd
namespace Dv
noncomputable def shlD:D->D->R
 | .int i,.int j=>if decide (0<=j)&&decide (j<=1000)&&decide (i.natAbs<1000000) then .ok (.int (i*2 ^ j.toNat)) true else .bad
 | _,_=>.bad
noncomputable def iRev (a:EE):EI:=λ ρ=>match a ρ with
 | .ok (.lst xs) _=>.ok xs.reverse true
 | .exc c=>.exc c
 | _=>.bad
noncomputable def sUnpackL (is:List Nat)(xs:List Nat)(e:EE):SS:=λ st=>match e (open_ (give is st)) with
 | .ok (.lst ds) _=>if ds.length=xs.length then .nx (setAll xs ds (give is st)) else .bad
 | .exc c=>.exc c st
 | _=>.bad
noncomputable def rV:List D->Bool
 | []=>true
 | .tup es::r=>flatL es&&rV r
 | d::r=>scal d&&rV r
noncomputable def sN:List D->Option Nat
 | []=>some 0
 | .lst ds::r=>if rV ds then (sN r).map (max ds.length) else none
 | _::_=>none
noncomputable def wU (i j x:Nat):SS:=λ st=>match st[i]? with
 | some (.dp (.lst ds))=>match sN ds with
  | some m=>if decide (m<2000)&&decide (ds.length<=2000)&&decide (i≠x)&&decide (i≠j)&&decide (j≠x)&&decide (x<st.length)&&decide (j<st.length) then .nx (((st.set j (.sh (.lst ds))).set x .no).set i (.jk ds.length (m+ds.length))) else .bad
  | none=>.bad
 | _=>.bad
noncomputable def rowsOf:List D->Option (List (List Int))
 | []=>some []
 | .lst ds::r=>match intsOf ds,rowsOf r with
  | some ns,some rs=>some (ns::rs)
  | _,_=>none
 | _::_=>none
noncomputable def eCompTb (elt cond:EE)(is:List Nat)(it:EI):EE:=λ ρ=>match eComp elt cond is it ρ with
 | .ok (.lst xs) true=>match rowsOf xs with
  | some rows=>.ok (.tab rows) true
  | none=>.bad
 | .exc c=>.exc c
 | _=>.bad
noncomputable def eIxT (a k:EE):EE:=λ ρ=>(a ρ).bind λ x _=>(k ρ).bind λ y _=>match x,y with
 | .tab rows,.int j=>if 0<=j then match rows[j.toNat]? with
   | some r=>.ok (.lst (r.map .int)) false
   | none=>.bad
  else .bad
 | _,_=>.bad
noncomputable def sPutT (i:Nat)(a b e:EE):SS:=λ st=>match st[i]? with
 | some (.dp (.tab rows))=>match e (all st) with
  | .ok (.int d) _=>match a (all st) with
   | .ok (.int j) _=>match b (all st) with
    | .ok (.int k) _=>match rows[j.toNat]? with
     | some r=>if decide (0<=j)&&decide (0<=k)&&decide (k<r.length) then .nx (st.set i (.dp (.tab (rows.set j.toNat (r.set k.toNat d))))) else .bad
     | none=>.bad
    | _=>.bad
   | _=>.bad
  | _=>.bad
 | _=>.bad
noncomputable def sRetTb (a b c:EE)(i:Nat):SS:=λ st=>match a (all st) with
 | .ok (.int x) _=>match b (all st) with
  | .ok (.int y) _=>match c (all st) with
   | .ok (.int z) _=>match st[i]? with
    | some (.dp (.tab rows))=>.ret (.lst [.int x,.int y,.int z,.tab rows]) true
    | _=>.bad
   | _=>.bad
  | _=>.bad
 | _=>.bad
noncomputable def unTb (a b c x:Nat)(st:St):D->Out
 | .lst [.int i,.int j,.int k,.tab rows]=>if x<st.length then .nx ((((st.set a (.sh (.int i))).set b (.sh (.int j))).set c (.sh (.int k))).set x (.dp (.tab rows))) else .bad
 | _=>.bad
noncomputable def sUnpackTb (a b c x:Nat)(e:EE):SS:=λ st=>match e (all st) with
 | .ok d true=>unTb a b c x st d
 | .exc c=>.exc c st
 | _=>.bad
noncomputable def sRowDec (i r y:Nat)(k j e:EE):SS:=λ st=>match st[i]? with
 | some (.dp (.tab rows))=>match k (all st) with
  | .ok (.int a) _=>match rows[a.toNat]? with
   | some row=>match j (all (st.set r .no)) with
    | .ok (.int b) _=>match row[b.toNat]? with
     | some v=>if decide (0<=a)&&decide (0<=b)&&decide (i≠r)&&decide (i≠y)&&decide (r≠y)&&decide (r<st.length) then
       if 0<v then match e (all ((st.set r .no).set i (.dp (.tab (rows.set a.toNat (row.set b.toNat (v-1))))))) with
        | .ok (.int d) _=>match st[y]? with
         | some (.ow (.lst ds))=>if decide (ds.length<mx) then .nx (((st.set r .no).set i (.dp (.tab (rows.set a.toNat (row.set b.toNat (v-1)))))).set y (.ow (.lst (ds++[.int d])))) else .bad
         | _=>.bad
        | _=>.bad
       else .nx (st.set r .no)
      else .bad
     | none=>.bad
    | _=>.bad
   | none=>.bad
  | _=>.bad
 | _=>.bad
end Dv
namespace Sd
open PySem PySem.Spec PyProof.Rows L2
open Dv (D R RL EE EL EI RI Sl Out SS)
section
variable {C:Ctx}{a b c e:Expr}{f g h:EE}{pos:Pos}
end
section
variable {C:Ctx}{a b c e:Expr}{f g h:EE}{F:SS}{pos pos':Pos}
end
section
variable {prog:Program}{w:World}{A:Around}{E:Value->Shared->Prop}
theorem iR {it t:Addr}{items:Array Value}(hne:t≠it):∀ (n i:Nat) (s:Shared) (Q:List Value->Shared->Prop),s.heap.IsListIter it t i->s.heap.IsList t items->i+n<=items.size ->
  (∀ h',h'.IsListIter it t (i+n)->Heap.SameBut it s.heap h'->Q ((items.toList.drop i).take n) { s with heap:=h' })->wpAny (model prog w) A (draw (.ref it) n) Q E s
 | 0,i,s,Q,hit,_,_,hQ=>by
  show wpAny _ _ (pure []) Q E s
  exact wpAny_pure (by simpa using hQ s.heap hit (Heap.SameBut.refl ..))
 | n+1,i,s,Q,hit,ht,hle,hQ=>by
  have hlt:i<items.size:=by omega
  show wpAny _ _ (pyNext (.ref it) >>= _) Q E s
  refine wpAny_bind (wpAny_pyNext_list_item hit ht (x:=items[i]) (by simp[hlt]) λ h₁ hit₁ hs₁=>?_)
  refine wpAny_bind (wpAny_holding (iR hne n (i+1) _ _ hit₁ (ht.at λ o e=>(hs₁.2 t hne).trans e) (by omega) λ h₂ hit₂ hs₂=>wpAny_pure ?_))
  have hd:items.toList.drop i=items[i]::items.toList.drop (i+1):=by simp[Al,hlt]
  have:=hQ h₂ (by rw[show i+(n+1)=i+1+n by omega]; exact hit₂) (hs₁.trans hs₂)
  rw[hd,List.take_succ_cons] at this
  exact this
theorem fE {s:Shared}{t:Addr}{items:Array Value}{Q:List Value->Shared->Prop}(hh:A.handled=none)(ht:s.heap.IsList t items)
  (hQ:∀ h',Heap.ExtBut s.heap.objs.size s.heap h'->Q items.toList { s with heap:=h' }):wpAny (model prog w) A (unpackItems (.ref t) items.size none) Q E s:=by
 have hlt:t≠s.heap.objs.size:=by obtain⟨o,ho,_⟩:=ht; exact zb (Heap.lt_size ho)
 unfold unpackItems
 refine wpAny_bind ?_
 ·unfold notIterableAtAll
  refine wpAny_bind (wpAny_specialOf ht.typeIs slot_list_iter.lookup ?_)
  refine wpAny_pure ?_
  simp only[Ap,if_false]
  refine wpAny_bind (wpAny_holding (wpAny_pyIter_list ht ?_))
  refine wpAny_bind (wpAny_holding (iR hlt items.size 0 _ _ ⟨_,Heap.get?_push_size _ rfl,rfl,rfl⟩ (ht.at λ o e=>Heap.get?_push_of_some _ e) (by omega) λ h₁ hit₁ hs₁=>?_))
  have hall:List.take items.size (List.drop 0 items.toList)=items.toList:=by
   rw[AH]; exact zV (by simp)
  rw[hall]
  rw[if_neg (by simp)]
  have ht₁:h₁.IsList t items:=ht.at λ o e=>(hs₁.2 t hlt).trans (Heap.get?_push_of_some _ e)
  refine wpAny_bind (wpAny_holding (wpAny_pyNext_list_end hh hit₁ ht₁ (by simp) λ h₂ he₂=>?_))
  simp only[Option.isSome_none,Ap,if_false]
  refine wpAny_pure (hQ h₂ λ b o hb e=>he₂ b o hb (hs₁.extBut b o hb (Heap.get?_push_of_some _ e)))
theorem eU {s:Shared}{env:PySem.Env}{elts:List Expr}{x1}{pos:Pos}{t:Addr}{items:Array Value}{Q:Unit->Shared->Prop}(hh:A.handled=none)(ht:s.heap.IsList t items)
  (hn:(assignEach elts env).length=items.size) (hstar:(assignEach elts env).findIdx? (·.1)=none)
  (h:∀ h',Heap.ExtBut s.heap.objs.size s.heap h'->wpAny (model prog w) A (assignInOrder ((assignEach elts env).map (·.2)) items.toList) Q E { s with heap:=h' }) :
  wpAny (model prog w) A (assign (.Tuple elts x1 pos) env (.ref t)) Q E s:=by
 rw[assign_Tuple]
 refine wpAny_bind (wpAny_standAt ?_)
 unfold unpack
 rw[hn,hstar]
 exact wpAny_bind (wpAny_holding (fE hh ht h))
end
noncomputable def yz (K:PySem.W.Frag)(n:Nat)(t:TGs):TG:=λ v σ H Q=>∃ a xs,v=.ref a/\SqL K H a xs/\xs.length=n/\t xs σ H Q
theorem q8 {X:Cx}{es:List Expr}{k:Nat}{t:TGs}{n:Nat}{pos:Pos}(hc:X.calm=true)(h:PGs X es t)
  (hn:autoParam ((assignEach es X.env).length=n) Au.h4._auto_1) (hst:autoParam ((assignEach es X.env).findIdx? (·.1)=none) Au.h4._auto_1):PG X (.Tuple es k pos) (yz X.K n t):=by
 intro pins s σ H v u Q I r hw
 obtain⟨a,xs,e1,hq,hl,hw⟩:=hw
 subst e1
 cases r
 obtain⟨its,rv,ht,hz⟩:=I.list hq
 refine eU (I.ok.hd hc) ht.isList (by simp[hn,<- hl,rv.length]) hst λ h' hx=>?_
 have I1:Inv X pins σ H { s with heap:=h' }:=I.kept (t':=s.toks) λ b o e=>hx b o (zb (Heap.lt_size e)) e
 exact h pins _ σ H xs _ Q I1 (by simpa using rv) hw
section
variable {C:Ctx}{e:Expr}{f:EE}{pos:Pos}
theorem my (is:List Nat){ts:List Expr}{xs:List Nat}{kt:Nat}{tpos:Pos}(he:SE C e f)(hg:SGs C ts xs)(hl:ts.length=xs.length)(hn:autoParam ((assignEach ts C.X.env).length=ts.length) Au.h4._auto_1)(hst:autoParam ((assignEach ts C.X.env).findIdx? (·.1)=none) Au.h4._auto_1)
  (hs:autoParam (swapsWithSole [.Tuple ts kt tpos] e pos.line C.X.env=pure false) Au.h4._auto_1) (hw:autoParam (swappedStores [.Tuple ts kt tpos] e C.X.env=pure none) Au.h4._auto_1) (h1:autoParam ((assignEach [.Tuple ts kt tpos] C.X.env).map (·.2)=[assign (.Tuple ts kt tpos) C.X.env]) Au.h4._auto_1) (hcl:autoParam (C.X.calm=true) Au.h4._auto_1) :
  SSt C (.Assign [.Tuple ts kt tpos] e pos) (Dv.sUnpackL is xs f):=by
 obtain⟨t,p,q⟩:=he
 obtain⟨g,pg,qg⟩:=hg
 refine⟨_,fH p (q8 hcl pg hn hst) hs hw h1,λ Hv₀ H₀ E σ H st ⟨Hc0,O0,r0⟩ w=>?_⟩
 obtain⟨Hc,O,_,r⟩:=r0.give is
 unfold Dv.sUnpackL at w
 refine q.open r (λ c hf Hc' H' x=>?_) (λ hf=>?_) λ d fr v Hc' H' hf x r' rp=>?_
 ·simp only[hf] at w; exact w σ H' ⟨Hc0,O0,r0.grow x.hh x.nf⟩
 ·simp only[hf] at w; exact w
 ·simp only[hf] at w
  cases d with
  | lst ds =>
   by_cases hz:ds.length=xs.length
   ·simp only[hz,if_true] at w
    unfold Rp at rp
    obtain⟨a,vs,rfl,h2,h3⟩:=rp
    exact⟨a,vs,rfl,(h2.same x.vh).seq,by rw[h3.length,hz,hl],qg Hv₀ H₀ Hc' O H' σ _ ds vs _ r' h3 hz λ σ' r2=>w σ' H' ⟨Hc',O,r2⟩⟩
   ·simp only[hz,if_false] at w; exact(show False from w).elim
  | _=>exact(show False from w).elim
end
section
variable {C:Ctx}{a b c e:Expr}{f g h:EE}{F G:SS}{pos pos':Pos}
end
inductive RawL (K:PySem.W.Frag)(Hc:Hp):List D->List D->Prop
 | nil:RawL K Hc [] []
 | scal {d:D} {r r':List D}:Dv.scal d=true->RawL K Hc r r'->RawL K Hc (d::r) (d::r')
 | tup {es:List D} {a:Addr} {us:List V} {r r':List D}:Dv.flatL es=true->Hc a=some (.tup us)->RpL K Hc es us->RawL K Hc r r'->RawL K Hc (.tup es::r) (.raw a::r')
inductive RawLL (K:PySem.W.Frag)(Hc:Hp):List D->List D->Prop
 | nil:RawLL K Hc [] []
 | cons {es es' r r':List D}:RawL K Hc es es'->RawLL K Hc r r'->RawLL K Hc (.lst es::r) (.lst es'::r')
section
variable {K:PySem.W.Frag}{Hv₀ H₀ Hc:Hp}{O:Nat->Hp}{st:Dv.St}{σ:St}{H:Hp}
end
section
variable {C:Ctx}{f:EE}{E:Ends}
theorem sC {t:TE}(q:Tak C t f)(i:Nat){Hv₀ H₀ H:Hp}{σ:St}{st:Dv.St}(r:Rel C.X.K Hv₀ H₀ st σ H)(w:OkS C Hv₀ H₀ E (Dv.sSetD i f st)):t σ H λ v H'=>E.nx (σ.set i (some v)) H':=by
 obtain⟨Hc,O,r⟩:=r
 unfold Dv.sSetD at w
 refine q.all r (λ c hf H' r'=>?_) (λ hf=>?_) λ d fr v Hv' H' hf x r' rp n=>?_
 ·rw[hf] at w; exact w σ H' ⟨Hc,O,r'⟩
 ·rw[hf] at w; exact w
 ·rw[hf] at w
  cases fr with
  | false=>exact(show False from w).elim
  | true =>
   refine w _ H' ⟨Hc,_,r'.setDp (R:=Hnew H H') (λ b o h=>⟨Hnew.sub b o h,r.ch.free (bT h),r.h0.free (bT h),λ j _=>?_⟩) (n rfl)⟩
   cases z:O j b with
   | none=>rfl
   | some u=>have:=(r.oh j b u z).1; rw[bT h] at this; cases this
end
section
variable {C:Ctx}{elt iter:Expr}{ifs:List Expr}{fe fc:EE}{fi:EI}{x:Str}{fs:List Str}{is:List Nat}{scope:Scope}{px pos:Pos}
end
theorem gT:∀ {ds:List D} {ns:List Int},Dv.intsOf ds=some ns->ds=ns.map .int
 | [],ns,h=>by simp[Dv.intsOf] at h; subst h; rfl
 | d::r,ns,h=>by
  cases d with
  | int i =>
   simp only[Dv.intsOf,zS] at h
   obtain⟨ms,h1,rfl⟩:=h
   rw[gT h1]; rfl
  | _=>simp[Dv.intsOf] at h
theorem gH:∀ {xs:List D} {rows:List (List Int)},Dv.rowsOf xs=some rows->nk xs
 | [],_,_=>λ x hx=>by simp at hx
 | d::r,rows,h=>λ x hx=>by
  cases d with
  | lst ds =>
   simp only[Dv.rowsOf] at h
   cases h1:Dv.intsOf ds with
   | none=>rw[h1] at h; cases h
   | some ns =>
    cases h2:Dv.rowsOf r with
    | none=>rw[h1,h2] at h; cases h
    | some rs =>
     rcases List.mem_cons.mp hx with rfl|hx
     ·exact⟨ns,by rw[gT h1]⟩
     ·exact gH h2 x hx
  | _=>simp[Dv.rowsOf] at h
theorem iY {R:Hp}:∀ {xs:List D} {vs:List V} {rows:List (List Int)},Dv.rowsOf xs=some rows->RpL [] R xs vs->∃ bs,vs=bs.map V.ref/\Tbr R bs rows
 | [],vs,rows,h,r=>by
  simp[Dv.rowsOf] at h
  subst h
  unfold RpL at r
  exact⟨[],r,True.intro⟩
 | d::ds,vs,rows,h,r=>by
  cases d with
  | lst es =>
   simp only[Dv.rowsOf] at h
   cases h1:Dv.intsOf es with
   | none=>rw[h1] at h; cases h
   | some ns =>
    cases h2:Dv.rowsOf ds with
    | none=>rw[h1,h2] at h; cases h
    | some rs =>
     rw[h1,h2] at h
     cases h
     unfold RpL at r
     obtain⟨v,ws,rfl,hv,hr⟩:=r
     obtain⟨bs,e1,e2⟩:=iY h2 hr
     unfold Rp at hv
     obtain⟨b,us,rfl,g1,g2⟩:=hv
     have e3:=RpL.ints h1 g2
     subst e3
     refine⟨b::bs,by rw[e1]; rfl,?_,e2⟩
     rcases g1 with g1|⟨_,_,e,_⟩
     ·exact g1
     ·simp at e
  | _=>simp[Dv.rowsOf] at h
theorem sY {R:Hp}:∀ {bs:List Addr} {rows:List (List Int)},Tbr R bs rows->∀ b∈bs,R b≠none
 | [],_,_,b,hb=>by simp at hb
 | c::bs,[],h,b,hb=>h.elim
 | c::bs,r::rs,h,b,hb=>by
  rcases List.mem_cons.mp hb with rfl|hb
  ·rcases h.1 with q|⟨u,q⟩ <;>rw[q] <;>exact λ z=>nomatch z
  ·exact sY h.2 b hb
theorem wz {K:PySem.W.Frag}{Hv H Hv1 H1:Hp}{W:XK}{cls:String->Value}{Q:VK}{rows:List (List Int)}{xs:List D}{vs:List V}(okE:Ok K Hv H W cls (.ok (.tab rows) true) Q)(x:Ext Hv H Hv1 H1)(hi:nk xs)(hro:Dv.rowsOf xs=some rows)
  (hrl:RpL [] (Hnew H H1) xs vs) (nd:vs.Nodup) (p:Addr) (hp:H1 p=none):Q (.ref p) (upd H1 p (.lst vs)):=by
 obtain⟨bs,rfl,tb⟩:=iY hro hrl
 have y:Ext Hv H (upd Hv1 p (.lst (bs.map V.ref))) (upd H1 p (.lst (bs.map V.ref))):=x.trans (Ext.new1 x.vh hp _)
 have hpb:p∉bs:=λ q=>by
  have h1:=sY tb p q
  cases h2:Hnew H H1 p with
  | none=>exact h1 h2
  | some o=>have:=Hnew.sub _ _ h2; rw[hp] at this; cases this
 have ndb:bs.Nodup:=by
  have:=nd
  exact List.Pairwise.of_map V.ref (λ a b h e=>h (by rw[e])) this
 have hn:H p=none:=by
  cases q:H p with
  | none=>rfl
  | some o=>have:=x.hh _ _ q; rw[hp] at this; cases this
 have sub:Same (Hnew H H1) (Hnew H (upd H1 p (.lst (bs.map V.ref)))):=Hnew.mono (.refl _) λ b o h=>by rw[ar (ax h hp)]; exact h
 have tb2:Tbr (Hnew H (upd H1 p (.lst (bs.map V.ref)))) bs rows:=tb.same λ q=>Rd.same sub q
 have top:Hnew H (upd H1 p (.lst (bs.map V.ref))) p=some (.lst (bs.map V.ref)):=by unfold Hnew; rw[hn]; exact aD
 have rn:Rp [] (Hnew H (upd H1 p (.lst (bs.map V.ref)))) (.tab rows) (.ref p):=by
  unfold Rp
  exact⟨p,bs,rfl,.inl top,hpb,ndb,tb2⟩
 exact okE _ _ _ y ((Rp.frag rn).same y.news) λ _=>rn
section
variable {C:Ctx}{elt iter:Expr}{x:Str}{px pos:Pos}{ifs:List Expr}{scope:Scope}{fs:List Str}{is:List Nat}{fi:EI}{fe fc:EE}
theorem mn {pins:List (Addr × Obj)}{s:Shared}{σ:St}{H Hv:Hp}{ρ:Dv.Env}{Q:VK}{use:Option (Value->Sem Unit)}{Q':Value->Shared->Prop}{pos':Pos}(hclm:C.X.calm=true)(S:CompNames C.X scope x fs is)(hi:SI C (.Name x px) iter fi)(he:∀ cl L s₀ H₀ ex,SE (br C (x::fs) scope cl L s₀ H₀ ex) elt fe)(hc:∀ cl L s₀ H₀ ex,STs (br C (x::fs) scope cl L s₀ H₀ ex) ifs fc)
  (hs:∀ v,foldedSetIterable iter C.X.env v=pure v) (I:Inv C.X pins σ H s) (er:EnvR C.X.K Hv ρ σ) (sv:Same Hv H) (ok:Ok C.X.K Hv H (C.W σ) C.cls (Dv.eCompTb fe fc is fi ρ) Q)
  (hfin:∀ Da L s5,gD C pins σ Q Da L s5->compPost (model C.X.prog C.X.w) C.X.A C.X.xe use Q' (.ref Da) L (.ok .next) s5) :
  wpAny (model C.X.prog C.X.w) C.X.A (comprehension (.ListComp elt [⟨.Name x px,iter,ifs,0⟩] scope pos) scope C.X.env pos' (newList []) false (eval iter C.X.env) use) Q' C.X.xe s:=by
 refine gZ (Kp:=λ xs fr=>fr=true/\∃ rows,Dv.rowsOf xs=some rows/\Ok C.X.K Hv H (C.W σ) C.cls (.ok (.tab rows) true) Q) hclm S hi he hc hs I er sv ?_ (λ k x r n nd Da hd=>by obtain⟨e,rows,hro,okE⟩:=k; exact wz okE x (gH hro) hro (n e) (nd e (gH hro)) Da hd) hfin
 unfold Dv.eCompTb Dv.eComp at ok
 cases hf:fi ρ with
 | bad=>simp only[hf] at ok; exact ok
 | exc c=>simp only[hf] at ok; exact ok
 | ok ds g =>
  simp only[hf] at ok
  by_cases hz:ds.length<=Dv.mx
  ·simp only[hz,if_true] at ok
   cases hgo:Dv.compGo fe fc (Dv.pick ρ is) ds with
   | bad=>simp only[hgo] at ok; exact(show False from ok).elim
   | exc c=>simp only[hgo] at ok; exact(show False from ok).elim
   | ok xs fr =>
    simp only[hgo] at ok
    cases fr with
    | false=>exact(show False from ok).elim
    | true =>
     cases hro:Dv.rowsOf xs with
     | none=>simp only[hro] at ok; exact(show False from ok).elim
     | some rows =>
      simp only[hro] at ok
      exact λ J Hv1 H1 x1 wl=>⟨Hv1,ds,xs,true,x1,wl,hz,hgo,rfl,rows,hro,ok⟩
  ·simp only[hz,if_false] at ok
   exact(show False from ok).elim
theorem jO {i:Nat}{y:Str}{py spos:Pos}(S:CompNames C.X scope x fs is)(hi:SI C (.Name x px) iter fi)(he:∀ cl L s₀ H₀ ex,SE (br C (x::fs) scope cl L s₀ H₀ ex) elt fe)(hc:∀ cl L s₀ H₀ ex,STs (br C (x::fs) scope cl L s₀ H₀ ex) ifs fc)
  (hN:C.X.N.Nodup) (hy:C.X.N[i]?=some y) (hl:C.X.env.scope.names.lookup y=some .local) (hsw:swapsWith (.ListComp elt [⟨.Name x px,iter,ifs,0⟩] scope pos) (some (.Name y py)) spos.line C.X.env=pure true) (hs:∀ v,foldedSetIterable iter C.X.env v=pure v) (hclm:C.X.calm=true) :
  PS C.X (.Assign [.Name y py] (.ListComp elt [⟨.Name x px,iter,ifs,0⟩] scope pos) spos) (λ E σ H=>∃ Hv ρ,EnvR C.X.K Hv ρ σ/\Same Hv H/\Ok C.X.K Hv H (C.W σ) C.cls (Dv.eCompTb fe fc is fi ρ) λ v H'=>E.nx (σ.set i (some v)) H'):=by
 intro pins s σ H E I ⟨Hv,ρ,er,sv,ok⟩
 rw[exec_Assign_Name_used _ _ _ _ hsw]
 refine wpAny_bind (wpAny_standAt (wpAny_bind ?_))
 show wpAny _ _ (do let _ <- comprehension (.ListComp elt [⟨.Name x px,iter,ifs,0⟩] scope pos) scope C.X.env _ (newList []) false (eval iter C.X.env) (some (assign (.Name y py) C.X.env))) _ _ s
 refine wpAny_bind (wpAny_mono (mn (use:=some (assign (.Name y py) C.X.env)) (Q':=λ _ s'=>∃ σ' H',Inv C.X pins σ' H' s'/\E.nx σ' H') hclm S hi he hc hs I er sv ok λ Da L s5 h=>?_) (λ _ s' hq=>wpAny_pure (wpAny_pure hq)) λ _ _ e=>e)
 obtain⟨⟨m,hn⟩,h1,h2,h3,h4,H',hL,q,iv⟩:=h
 have I5:Inv C.X pins σ H' s5:=iv s5.heap λ b _=>rfl
 show wpAny _ _ (assign (.Name y py) C.X.env (.ref Da)) _ _ s5
 refine wpAny_assign_Name (fX (v:=.ref Da) I5 hN hy (.inl hl) rfl (λ s6 I6 ⟨a,sb,ha⟩=>?_) (.inr hl))
 have hLa:L≠a:=by
  rcases ha with rfl|ha
  ·exact h1
  ·exact λ z=>h2 y a ha z.symm
 refine⟨m,hn.sameBut sb hLa,λ h' sb'=>⟨_,H',?_,q⟩⟩
 exact I6.turned (t':=s6.toks) (it:=L) (λ b o hb e=>(sb'.2 b hb).trans e) hL h1 (.inr h3) h2 h4
theorem ke {i:Nat}{y:Str}{py spos:Pos}(S:CompNames C.X scope x fs is)(hi:SI C (.Name x px) iter fi)(he:∀ cl L s₀ H₀ ex,SE (br C (x::fs) scope cl L s₀ H₀ ex) elt fe)(hc:∀ cl L s₀ H₀ ex,STs (br C (x::fs) scope cl L s₀ H₀ ex) ifs fc)
  (hN:C.X.N.Nodup) (hy:C.X.N[i]?=some y) (hl:C.X.env.scope.names.lookup y=some .local) (hsw:autoParam (swapsWith (.ListComp elt [⟨.Name x px,iter,ifs,0⟩] scope pos) (some (.Name y py)) spos.line C.X.env=pure true) Au.h4._auto_1) (hs:autoParam (∀ v,foldedSetIterable iter C.X.env v=pure v) Au.h3._auto_1) (hclm:autoParam (C.X.calm=true) Au.h4._auto_1) :
  SSt C (.Assign [.Name y py] (.ListComp elt [⟨.Name x px,iter,ifs,0⟩] scope pos) spos) (Dv.sSetD i (Dv.eCompTb fe fc is fi)) :=
 ⟨_,jO S hi he hc hN hy hl hsw hs hclm,λ Hv₀ H₀ E σ H st r w=>sC (f:=Dv.eCompTb fe fc is fi) (t:=λ σ H Q=>∃ Hv ρ,EnvR C.X.K Hv ρ σ/\Same Hv H/\Ok C.X.K Hv H (C.W σ) C.cls (Dv.eCompTb fe fc is fi ρ) Q) (λ σ H Hv ρ Q e s q=>⟨Hv,ρ,e,s,q⟩) i r w⟩
end
theorem gw {R:Hp}:∀ {bs:List Addr} {rows:List (List Int)} {j:Nat} {r:List Int},Tbr R bs rows->rows[j]?=some r->∃ b,bs[j]?=some b/\Rd R b (.lst (r.map V.int))
 | [],[],j,r,_,h=>by simp at h
 | [],_::_,_,_,h,_=>h.elim
 | _::_,[],_,_,h,_=>h.elim
 | b::bs,q::rs,0,r,h,e=>by simp at e; subst e; exact⟨b,rfl,h.1⟩
 | b::bs,q::rs,j+1,r,h,e=>by
  obtain⟨c,h1,h2⟩:=gw (j:=j) h.2 (by simpa using e)
  exact⟨c,by simpa using h1,h2⟩
theorem iQ {R:Hp}{b:Addr}{o:HO}:∀ {bs:List Addr} {rows:List (List Int)},b∉bs->Tbr R bs rows->Tbr (upd R b o) bs rows
 | [],[],_,_=>True.intro
 | [],_::_,_,h=>h.elim
 | _::_,[],_,h=>h.elim
 | c::bs,r::rs,hb,h=>by
  have hc:c≠b:=λ z=>hb (by rw[z]; exact yR ..)
  refine⟨?_,iQ (λ q=>hb (yM _ q)) h.2⟩
  unfold Rd
  rw[ar hc]
  exact h.1
theorem m9 {R:Hp}{b:Addr}{r':List Int}:∀ {bs:List Addr} {rows:List (List Int)} {j:Nat},bs.Nodup->Tbr R bs rows->bs[j]?=some b->Tbr (upd R b (.lst (r'.map V.int))) bs (rows.set j r')
 | [],[],j,_,_,e=>by simp at e
 | [],_::_,_,_,h,_=>h.elim
 | _::_,[],_,_,h,_=>h.elim
 | c::bs,r::rs,0,nd,h,e=>by
  simp at e
  subst e
  rw[BI] at nd
  exact⟨.inl aD,iQ nd.1 h.2⟩
 | c::bs,r::rs,j+1,nd,h,e=>by
  rw[BI] at nd
  have e':bs[j]?=some b:=by simpa using e
  have hc:c≠b:=λ z=>nd.1 (by rw[z]; exact zN e')
  refine⟨?_,m9 nd.2 h.2 e'⟩
  unfold Rd
  rw[ar hc]
  exact h.1
section
variable {K:PySem.W.Frag}{Hv₀ H₀ Hc:Hp}{O:Nat->Hp}{st:Dv.St}{σ:St}{H:Hp}
theorem RelC.putDp {i:Nat}{d:D}{v:V}{a:Addr}{u o:HO}(r:RelC K Hv₀ H₀ Hc O st σ H)(hσ:σ[i]?=some (some v))(ha:O i a=some u)(ho:∀ q w,o≠.frz q w)(dp:Rp [] (upd (O i) a o) d v) :
  RelC K Hv₀ H₀ Hc (eC O i (upd (O i) a o)) (st.set i (.dp d)) σ (upd H a o):=by
 obtain⟨h1,h2,h3⟩:=r.oh i a u ha
 have hset:σ.set i (some v)=σ:=eQ hσ
 have key:=r.setAny (i:=i) (s:=.dp d) (v:=some v) (H':=upd H a o) (O':=eC O i (upd (O i) a o)) (λ b w h=>by rw[ar (ax h h3)]; exact r.h0 b w h) (λ b w h=>by rw[ar (ax h h2)]; exact r.ch b w h)
  (λ b q w h=>by
   by_cases hb:b=a
   ·subst hb; rw[aD]; exact λ z=>ho q w (Option.some.inj z)
   ·rw[ar hb]; exact r.nf b q w h)
  (λ j hj=>aY hj) (λ d e=>nomatch e) (λ d e=>nomatch e) (λ d e=>by cases e; exact⟨v,rfl,by rw[aI]; exact dp⟩) (λ n m e=>nomatch e)
  (λ j b w h=>by
   by_cases hj:j=i
   ·rw[hj,aI] at h
    by_cases hb:b=a
    ·subst hb; rw[aD] at h ⊢; exact⟨h,h2,h3⟩
    ·rw[ar hb] at h ⊢; exact r.oh i b w h
   ·rw[aY hj] at h
    have hb:b≠a:=λ z=>hj (r.one j i b w u h (by rw[z]; exact ha))
    rw[ar hb]; exact r.oh j b w h)
  λ j b w w' h hj h4=>by
   rw[aI] at h
   by_cases hb:b=a
   ·exact hj (r.one j i b w' u h4 (by rw[hb]; exact ha))
   ·rw[ar hb] at h; exact hj (r.one j i b w' w h4 h)
 rw[hset] at key
 exact key
theorem RelC.table {i:Nat}{rows:List (List Int)}(r:RelC K Hv₀ H₀ Hc O st σ H)(hi:st[i]?=some (.dp (.tab rows))) :
  ∃ t bs,σ[i]?=some (some (.ref t))/\O i t=some (.lst (bs.map V.ref))/\t∉bs/\bs.Nodup/\Tbr (O i) bs rows/\∀ b o,Rd (O i) b o->O i b=some o:=by
 obtain⟨v,h1,h2⟩:=r.dp i _ hi
 unfold Rp at h2
 obtain⟨t,bs,rfl,h3,h4,h5,h6⟩:=h2
 have nf:∀ b o u,O i b≠some (.frz o u):=λ b o u h=>r.nf b o u (r.oh i b _ h).2.2 (r.oh i b _ h).1
 have rd:∀ b o,Rd (O i) b o->O i b=some o:=λ b o h=>by
  rcases h with h|⟨u,h⟩
  ·exact h
  ·exact absurd h (nf _ _ _)
 exact⟨t,bs,h1,rd _ _ h3,h4,h5,h6,rd⟩
theorem RelC.putTab {i j:Nat}{rows:List (List Int)}{r':List Int}{t b:Addr}{bs:List Addr}{u:HO}(r:RelC K Hv₀ H₀ Hc O st σ H)(h1:σ[i]?=some (some (.ref t)))(h2:O i t=some (.lst (bs.map V.ref)))(h3:t∉bs)(h4:bs.Nodup)(h5:Tbr (O i) bs rows)(hb:bs[j]?=some b)(hu:O i b=some u) :
  RelC K Hv₀ H₀ Hc (eC O i (upd (O i) b (.lst (r'.map V.int)))) (st.set i (.dp (.tab (rows.set j r')))) σ (upd H b (.lst (r'.map V.int))):=by
 have hbt:t≠b:=λ z=>h3 (by rw[z]; exact zN hb)
 refine r.putDp h1 hu (by intro _ _ z; cases z) ?_
 unfold Rp
 refine⟨t,bs,rfl,.inl ?_,h3,h4,m9 h4 h5 hb⟩
 rw[ar hbt]; exact h2
end
theorem jC {bs:List Addr}{k:Int}{b:Addr}(h0:0<=k)(h:bs[k.toNat]?=some b):atI (bs.map V.ref) k=some (.ref b):=by
 have hl:k.toNat<bs.length:=(List.getElem?_eq_some_iff.mp h).1
 unfold atI ixN
 rw[yP,if_pos h0,if_pos (by omega)]
 show (bs.map V.ref)[k.toNat]?=_
 rw[zi,h]; rfl
theorem m6 {r:List Int}{k:Int}{x:Int}(h0:0<=k)(h:r[k.toNat]?=some x):atI (r.map V.int) k=some (.int x):=by
 have hl:k.toNat<r.length:=(List.getElem?_eq_some_iff.mp h).1
 unfold atI ixN
 rw[yP,if_pos h0,if_pos (by omega)]
 show (r.map V.int)[k.toNat]?=_
 rw[zi,h]; rfl
section
variable {C:Ctx}{a b c e k:Expr}{f g h:EE}{F G:SS}{pos pos':Pos}{E:Ends}
theorem dH (ha:SE C a f)(hb:SE C b g)(hs:autoParam (di b) Au.h8._auto_1):SE C (.Subscript a b pos) (Dv.eIxT f g):=by
 obtain⟨ta,pa,qa⟩:=ha
 obtain⟨tb,pb,qb⟩:=hb
 refine⟨_,i9 ix_list pa pb hs,λ σ H Hv ρ Q e s w=>?_⟩
 refine qa.step e (.refl s) w λ v d fr Hv1 H1 _ x1 _ rp1 n1 q1=>qb.step e x1 q1 λ v2 d2 fr2 Hv2 H2 _ x2 y2 rp2 _ q2=>?_
 have rp:=rp1.same y2.vv
 cases d with
 | tab rows =>
  cases d2 with
  | int j =>
   by_cases h0:0<=j
   ·simp only[h0,if_true] at q2
    cases hr:rows[j.toNat]? with
    | none=>rw[hr] at q2; exact(show False from q2).elim
    | some r =>
     rw[hr] at q2
     unfold Rp at rp rp2
     obtain⟨t,bs,rfl,g1,g2,g3,g4⟩:=rp
     obtain⟨bb,g5,g6⟩:=gw g4 hr
     refine⟨t,bs.map V.ref,j,.ref bb,rfl,rp2,.inl (Rd.same x2.vh g1),jC h0 g5,?_⟩
     refine q2 (.ref bb) Hv2 H2 x2 ?_ λ z=>nomatch z
     unfold Rp
     exact⟨bb,_,rfl,.inl g6,RpL.ofInts r⟩
   ·simp only[h0,if_false] at q2
    exact(show False from q2).elim
  | _=>exact(show False from q2).elim
 | _=>cases d2 <;>exact(show False from q2).elim
theorem gy {i:Nat}{x:Str}{px kpos ipos:Pos}{ia:Expr}(he:SE C e f)(ha:SE C ia g)(hk:SE C k h)(hN:autoParam (C.X.N[i]?=some x) Au.h4._auto_1)(hv:autoParam (Vis C.X.env.scope x) Au.h7._auto_1)
    (hd:autoParam ((x == ("__debug__":Str))=false) Au.h2._auto_1) (hcd:autoParam ((x == ("__classdict__":Str))=false) Au.h2._auto_1) (hix:autoParam (di ia) Au.h8._auto_1)
    (has:autoParam (∀ v,assign (.Subscript (.Subscript (.Name x px) ia ipos) k kpos) C.X.env v=(do
      let ov <- holding [v] (eval (.Subscript (.Name x px) ia ipos) C.X.env)
      let iv <- holding [v,ov] (eval k C.X.env)
      standAt kpos
      holding [v,ov,iv] (setItem ov iv v)
      release [v,ov,iv] [])) Au.h3._auto_1)
    (hs:autoParam (swapsWithSole [.Subscript (.Subscript (.Name x px) ia ipos) k kpos] e pos.line C.X.env=pure false) Au.h4._auto_1) (hw:autoParam (swappedStores [.Subscript (.Subscript (.Name x px) ia ipos) k kpos] e C.X.env=pure none) Au.h4._auto_1)
    (h1:autoParam ((assignEach [.Subscript (.Subscript (.Name x px) ia ipos) k kpos] C.X.env).map (·.2)=[assign (.Subscript (.Subscript (.Name x px) ia ipos) k kpos) C.X.env]) Au.h4._auto_1):SSt C (.Assign [.Subscript (.Subscript (.Name x px) ia ipos) k kpos] e pos) (Dv.sPutT i g h f):=by
  obtain⟨t,p,q⟩:=he
  obtain⟨t2,p2,q2⟩:=ha
  obtain⟨t3,p3,q3⟩:=hk
  refine⟨_,fH p (mF (i9 ix_list (bH hN hv hd hcd) p2 hix) p3 fb has) hs hw h1,λ Hv₀ H₀ E σ H st ⟨Hc,O,r⟩ w=>?_⟩
  unfold Dv.sPutT at w
  cases hi:st[i]? with
  | none=>rw[hi] at w; exact(show False from w).elim
  | some s =>
    rw[hi] at w
    cases s with
    | dp d0 =>
     cases d0 with
     | tab rows =>
      obtain⟨tt,bs,g1,g2,g3,g4,g5,rd⟩:=r.table hi
      refine q.all r (λ c hf H' r'=>?_) (λ hf=>?_) λ d fr v Hv' H' hf x r' rp n=>?_
      · simp only[hf] at w; exact(show False from w).elim
      · simp only[hf] at w; exact w
      · simp only[hf] at w
        cases d with
        | int dv =>
          refine⟨_,g1,?_⟩
          refine q2.all r' (λ c hg H2 r2=>?_) (λ hg=>?_) λ d2 fr2 v2 Hv2 H2 hg x2 r2 rp2 n2=>?_
          · simp only[hg] at w; exact(show False from w).elim
          · simp only[hg] at w; exact w
          · simp only[hg] at w
            cases d2 with
            | int j =>
              unfold Rp at rp2
              cases hr:rows[j.toNat]? with
              | none =>
                cases hh:h (Dv.all st) with
                | ok d3 f3=>cases d3 <;>simp only[hh,hr] at w <;>exact(show False from w).elim
                | exc c=>simp only[hh] at w; exact(show False from w).elim
                | bad=>simp only[hh] at w; exact(show False from w).elim
              | some row =>
                obtain⟨b,g6,g7⟩:=gw g5 hr
                have g8:=rd _ _ g7
                by_cases hj0:0<=j
                · refine⟨tt,bs.map V.ref,j,.ref b,rfl,rp2,SqL.of (r2.oh i tt _ g2).1,jC hj0 g6,?_⟩
                  refine q3.all r2 (λ c hh H3 r3=>?_) (λ hh=>?_) λ d3 fr3 v3 Hv3 H3 hh x3 r3 rp3 n3=>?_
                  · simp only[hh] at w; exact(show False from w).elim
                  · simp only[hh] at w; exact w
                  · simp only[hh] at w
                    cases d3 with
                    | int kk =>
                      unfold Rp at rp3
                      simp only[hr] at w
                      by_cases z:(decide (0<=j)&&decide (0<=kk)&&decide (kk<row.length))=true
                      · simp only[z,if_true] at w
                        simp only[yN,decide_eq_true_eq] at z
                        have r4:=r3.putTab (r':=row.set kk.toNat dv) g1 g2 g3 g4 g5 g6 g8
                        unfold Rp at rp
                        subst rp
                        refine⟨b,row.map V.int,kk,kk.toNat,rfl,rp3,(r3.oh i b _ g8).1,?_,?_⟩
                        · unfold ixN
                          rw[yP,if_pos z.1.2,if_pos z.2]
                        · rw[show (row.map V.int).set kk.toNat (.int dv)=(row.set kk.toNat dv).map V.int by rw[AZ]]
                          exact w σ _ ⟨Hc,_,r4⟩
                      · simp only[z] at w; exact(show False from w).elim
                    | _=>exact(show False from w).elim
                · exfalso
                  cases hh:h (Dv.all st) with
                  | ok d3 f3 =>
                    cases d3 with
                    | int kk =>
                      simp only[hh,hr] at w
                      rw[if_neg (by simp[hj0])] at w
                      exact w
                    | _=>simp only[hh] at w; exact w
                  | exc c=>simp only[hh] at w; exact w
                  | bad=>simp only[hh] at w; exact w
            | _=>exact(show False from w).elim
        | _=>exact(show False from w).elim
     | _=>exact(show False from w).elim
    | _=>exact(show False from w).elim
end
theorem xj {c:Bool}{A B:Prop}(h:c=true)(a:A):if c=true then A else B:=by rw[if_pos h]; exact a
theorem xu {c:Bool}{A B:Prop}(h:c=false)(b:B):if c=true then A else B:=by rw[h]; exact b
section
variable {C:Ctx}{a b c e k:Expr}{f g h:EE}{F G:SS}{pos pos':Pos}{E:Ends}
theorem rO {i:Nat}{x:Str}{px pt:Pos}(h1:SE C a f)(h2:SE C b g)(h3:SE C c h)(hN:autoParam (C.X.N[i]?=some x) Au.h4._auto_1)(hv:autoParam (Vis C.X.env.scope x) Au.h7._auto_1)(hd:autoParam ((x == ("__debug__":Str))=false) Au.h2._auto_1)
  (hcd:autoParam ((x == ("__classdict__":Str))=false) Au.h2._auto_1) (s1:autoParam (starEach [a,b,c,.Name x px] C.X.env=(false,eval a C.X.env)::starEach [b,c,.Name x px] C.X.env) Au.h4._auto_1) (s2:autoParam (starEach [b,c,.Name x px] C.X.env=(false,eval b C.X.env)::starEach [c,.Name x px] C.X.env) Au.h4._auto_1)
  (s3:autoParam (starEach [c,.Name x px] C.X.env=(false,eval c C.X.env)::starEach [.Name x px] C.X.env) Au.h4._auto_1) (s4:autoParam (starEach [.Name x px] C.X.env=[(false,eval (.Name x px) C.X.env)]) Au.h4._auto_1) :
  SSt C (.Return (some (.List [a,b,c,.Name x px] pt)) pos) (Dv.sRetTb f g h i):=by
 obtain⟨t,p,q⟩:=h1
 obtain⟨t2,p2,q2⟩:=h2
 obtain⟨t3,p3,q3⟩:=h3
 refine⟨_,jS (qv (aG p (aG p2 (aG p3 (aG (bH hN hv hd hcd) bu s4) s3) s2) s1)),λ Hv₀ H₀ E σ H st ⟨Hc,O,r⟩ w=>?_⟩
 unfold Dv.sRetTb at w
 refine q.all r (λ c hf H' r'=>?_) (λ hf=>?_) λ d fr v Hv' H' hf x r' rp n=>?_
 ·simp only[hf] at w; exact(show False from w).elim
 ·simp only[hf] at w; exact w
 ·simp only[hf] at w
  cases d with
  | int vx =>
   unfold Rp at rp
   subst rp
   refine q2.all r' (λ c hg H2 r2=>?_) (λ hg=>?_) λ d2 fr2 v2 Hv2 H2 hg x2 r2 rp2 n2=>?_
   ·simp only[hg] at w; exact(show False from w).elim
   ·simp only[hg] at w; exact w
   ·simp only[hg] at w
    cases d2 with
    | int vy =>
     unfold Rp at rp2
     subst rp2
     refine q3.all r2 (λ c hh H3 r3=>?_) (λ hh=>?_) λ d3 fr3 v3 Hv3 H3 hh x3 r3 rp3 n3=>?_
     ·simp only[hh] at w; exact(show False from w).elim
     ·simp only[hh] at w; exact w
     ·simp only[hh] at w
      cases d3 with
      | int vz =>
       unfold Rp at rp3
       subst rp3
       cases hi:st[i]? with
       | none=>rw[hi] at w; exact(show False from w).elim
       | some s =>
        rw[hi] at w
        cases s with
        | dp d0 =>
         cases d0 with
         | tab rows =>
          obtain⟨tv,g1,g2⟩:=r3.dp i _ hi
          refine⟨_,g1,by show 4<=sizeLine; decide,λ pp hp=>?_⟩
          have y:=Ext.new1 r3.allH hp (.lst [.int vx,.int vy,.int vz,tv])
          obtain⟨Hv5,x5,s5⟩:=r3.ret y
          have h0p:H₀ pp=none:=r3.h0.free hp
          refine w (.ref pp) Hv5 _ x5 ?_ λ _=>?_
          ·unfold Rp
           refine⟨pp,_,rfl,SqX.of (s5 _ _ aD),.cons (by unfold Rp; rfl) (.cons (by unfold Rp; rfl) (.cons (by unfold Rp; rfl) (.cons ?_ .nil)))⟩
           exact((Rp.frag (g2.same (r3.oAll i))).same y.vv).same s5
          ·unfold Rp
           refine⟨pp,[.int vx,.int vy,.int vz,tv],rfl,.inl (.inl ?_),.cons (by unfold Rp; rfl) (.cons (by unfold Rp; rfl) (.cons (by unfold Rp; rfl) (.cons ?_ .nil)))⟩
           ·unfold Hnew; rw[h0p]; exact aD
           ·refine g2.same λ bb o q=>?_
            obtain⟨k1,k2,k3⟩:=r3.oh i bb o q
            unfold Hnew
            rw[k3]
            show upd H3 pp _ bb=some o
            rw[ar (ax k1 hp)]; exact k1
         | _=>exact(show False from w).elim
        | _=>exact(show False from w).elim
      | _=>exact(show False from w).elim
    | _=>exact(show False from w).elim
  | _=>exact(show False from w).elim
theorem lT {a b c x:Nat}{st:Dv.St}{d:D}:(∃ i j k rows,d=.lst [.int i,.int j,.int k,.tab rows])\/Dv.unTb a b c x st d=.bad:=by
 cases d with
 | lst ds =>
  cases ds with
  | nil=>exact .inr rfl
  | cons d1 t1 =>
   cases d1 with
   | int i =>
    cases t1 with
    | nil=>exact .inr rfl
    | cons d2 t2 =>
     cases d2 with
     | int j =>
      cases t2 with
      | nil=>exact .inr rfl
      | cons d3 t3 =>
       cases d3 with
       | int k =>
        cases t3 with
        | nil=>exact .inr rfl
        | cons d4 t4 =>
         cases d4 with
         | tab rows =>
          cases t4 with
          | nil=>exact .inl ⟨i,j,k,rows,rfl⟩
          | cons _ _=>exact .inr rfl
         | _=>exact .inr rfl
       | _=>exact .inr rfl
     | _=>exact .inr rfl
   | _=>exact .inr rfl
 | _=>exact .inr rfl
theorem ln {i1 i2 i3 i4:Nat}{ts:List Expr}{kt:Nat}{tpos:Pos}(he:SE C e f)(hg:SGs C ts [i1,i2,i3,i4])(hl:ts.length=4)(hn:autoParam ((assignEach ts C.X.env).length=ts.length) Au.h4._auto_1)(hst:autoParam ((assignEach ts C.X.env).findIdx? (·.1)=none) Au.h4._auto_1)
  (hs:autoParam (swapsWithSole [.Tuple ts kt tpos] e pos.line C.X.env=pure false) Au.h4._auto_1) (hw:autoParam (swappedStores [.Tuple ts kt tpos] e C.X.env=pure none) Au.h4._auto_1) (h1:autoParam ((assignEach [.Tuple ts kt tpos] C.X.env).map (·.2)=[assign (.Tuple ts kt tpos) C.X.env]) Au.h4._auto_1) (hcl:autoParam (C.X.calm=true) Au.h4._auto_1) :
  SSt C (.Assign [.Tuple ts kt tpos] e pos) (Dv.sUnpackTb i1 i2 i3 i4 f):=by
 obtain⟨t,p,q⟩:=he
 obtain⟨g,pg,qg⟩:=hg
 refine⟨_,fH p (q8 hcl pg hn hst) hs hw h1,λ Hv₀ H₀ E σ H st ⟨Hc,O,r⟩ w=>?_⟩
 unfold Dv.sUnpackTb at w
 refine q.all r (λ c hf H' r'=>?_) (λ hf=>?_) λ d fr v Hv' H' hf x r' rp n=>?_
 ·simp only[hf] at w; exact w σ H' ⟨Hc,O,r'⟩
 ·simp only[hf] at w; exact w
 ·simp only[hf] at w
  cases fr with
  | false=>exact(show False from w).elim
  | true =>
   have rn:=n rfl
   have w2:OkS C Hv₀ H₀ E (Dv.unTb i1 i2 i3 i4 st d):=w
   clear w
   have w:=w2
   rcases lT (a:=i1) (b:=i2) (c:=i3) (x:=i4) (st:=st) (d:=d) with ⟨vi,vj,vk,rows,rfl⟩|hbad
   ·have w:OkS C Hv₀ H₀ E (if i4<st.length then .nx ((((st.set i1 (.sh (.int vi))).set i2 (.sh (.int vj))).set i3 (.sh (.int vk))).set i4 (.dp (.tab rows))) else .bad):=w
    by_cases hx:i4<st.length
    ·rw[if_pos hx] at w
     unfold Rp at rn
     obtain⟨pp,vs,rfl,k1,k2⟩:=rn
     have k1':Rd (Hnew H H') pp (.lst vs):=by
      rcases k1 with k1|⟨_,_,e,_⟩
      ·exact k1
      ·simp at e
     unfold RpL at k2
     obtain⟨w1,ws1,rfl,m1,k2⟩:=k2
     unfold RpL at k2
     obtain⟨w2,ws2,rfl,m2,k2⟩:=k2
     unfold RpL at k2
     obtain⟨w3,ws3,rfl,m3,k2⟩:=k2
     unfold RpL at k2
     obtain⟨w4,ws4,rfl,m4,k2⟩:=k2
     unfold RpL at k2
     subst k2
     have m4':=m4
     unfold Rp at m4'
     obtain⟨tt,bs,rfl,_⟩:=m4'
     have hsq:SqL C.X.K H' pp [w1,w2,w3,.ref tt]:=.inl (Rd.same Hnew.sub k1')
     have rl:RpL C.X.K Hc [.int vi,.int vj,.int vk,.raw tt] [w1,w2,w3,.ref tt]:=.cons (m1.scal rfl) (.cons (m2.scal rfl) (.cons (m3.scal rfl) (.cons (by unfold Rp; rfl) .nil)))
     refine⟨pp,_,rfl,hsq,by rw[hl]; rfl,qg Hv₀ H₀ Hc O H' σ st _ _ _ r' rl rfl λ σ' r2=>?_⟩
     have e0:Dv.setAll [i1,i2,i3,i4] [.int vi,.int vj,.int vk,.raw tt] st=(((st.set i1 (.sh (.int vi))).set i2 (.sh (.int vj))).set i3 (.sh (.int vk))).set i4 (.sh (.raw tt)):=rfl
     rw[e0] at r2
     obtain⟨v',k3,k4⟩:=r2.sh i4 (.raw tt) (zq (by simpa using hx))
     unfold Rp at k4
     subst k4
     have r3:=r2.setDp (i:=i4) (d:=.tab rows) (v:=.ref tt) (R:=Hnew H H') (λ b o q=>⟨Hnew.sub b o q,r.ch.free (bT q),r.h0.free (bT q),λ j _=>by
      cases z:O j b with
      | none=>rfl
      | some u=>have:=(r.oh j b u z).1; rw[bT q] at this; cases this⟩) m4
     rw[eQ k3,BR] at r3
     exact w σ' H' ⟨Hc,_,r3⟩
    ·rw[if_neg hx] at w; exact(show False from w).elim
   ·rw[hbad] at w; exact(show False from w).elim
theorem ox {ss:List Stmt}{i r y:Nat}{nx nr ny:Str}{kE j1 j2 j3 eE:Expr}{fk fj fe:EE}{p1 p2 p3 p4 p5 p6 p7 p8 p9 p10 p11 p12 p13 p14 p15 p16 p17 p18 p19 p20:Pos}{c0 c1:Nat}
    (hk:SE C kE fk) (hj1:SE C j1 fj) (hj2:SE C j2 fj) (hj3:SE C j3 fj) (he:SE C eE fe) (hss:SSs C ss G) (hN:C.X.N.Nodup) (hi:C.X.N[i]?=some nx) (hr:C.X.N[r]?=some nr) (hy:C.X.N[y]?=some ny) (hlr:Loc C.X.env.scope nr)
    (hvx:autoParam (Vis C.X.env.scope nx) Au.h7._auto_1) (hvr:autoParam (Vis C.X.env.scope nr) Au.h7._auto_1) (hvy:autoParam (Vis C.X.env.scope ny) Au.h7._auto_1)
    (hfr:autoParam (C.X.fn nr=true\/C.X.env.scope.names.lookup nr=some .local) Au.h1._auto_1)
    (dx:autoParam ((nx == ("__debug__":Str))=false) Au.h2._auto_1) (cx:autoParam ((nx == ("__classdict__":Str))=false) Au.h2._auto_1) (dr:autoParam ((nr == ("__debug__":Str))=false) Au.h2._auto_1) (cr:autoParam ((nr == ("__classdict__":Str))=false) Au.h2._auto_1) (dy:autoParam ((ny == ("__debug__":Str))=false) Au.h2._auto_1) (cy:autoParam ((ny == ("__classdict__":Str))=false) Au.h2._auto_1)
    (plk:autoParam (di kE) Au.h8._auto_1) (pl1:autoParam (di j1) Au.h8._auto_1) (pl3:autoParam (di j3) Au.h8._auto_1)
    (sw1:autoParam (swapsWith (.Subscript (.Name nx p2) kE p3) (some (.Name nr p1)) p4.line C.X.env=pure false) Au.h4._auto_1)
    (has:autoParam (∀ v,assign (.Subscript (.Name nr p9) j2 p10) C.X.env v=(do
      let ov <- holding [v] (eval (.Name nr p9) C.X.env)
      let iv <- holding [v,ov] (eval j2 C.X.env)
      standAt p10
      holding [v,ov,iv] (setItem ov iv v)
      release [v,ov,iv] [])) Au.h3._auto_1)
    (sw2:autoParam (swapsWithSole [.Subscript (.Name nr p9) j2 p10] (.BinOp (.Subscript (.Name nr p11) j3 p12) .Sub (.Constant (.int 1) c1 p13) p14) p15.line C.X.env=pure false) Au.h4._auto_1) (sw3:autoParam (swappedStores [.Subscript (.Name nr p9) j2 p10] (.BinOp (.Subscript (.Name nr p11) j3 p12) .Sub (.Constant (.int 1) c1 p13) p14) C.X.env=pure none) Au.h4._auto_1)
    (as1:autoParam ((assignEach [.Subscript (.Name nr p9) j2 p10] C.X.env).map (·.2)=[assign (.Subscript (.Name nr p9) j2 p10) C.X.env]) Au.h4._auto_1)
    (hst:autoParam (starEach [eE] C.X.env=[(false,eval eE C.X.env)]) Au.h4._auto_1)
    (hbase:autoParam (attributeBase (.Name ny p16) "append" C.X.env (eval (.Name ny p16) C.X.env)=eval (.Name ny p16) C.X.env) Au.h4._auto_1)
    (hfew:autoParam (((backTo p18 (starEach [eE] C.X.env)).all (λ x=>!x.1)&&(backToKw p18 (keywordEach [] C.X.env)).all (λ x=>x.1.isSome)
      && decide ([eE].length+([]:List Keyword).length+(if ([]:List Keyword).isEmpty then 0 else 1)<30))=true) Au.h4._auto_1)
    (hline:autoParam ((p17.endLine == p18.line)=true) Au.h4._auto_1)
    (sw4:autoParam (swapsWith (.Call (.Attribute (.Name ny p16) "append" p17) [eE] [] p18) none p19.line C.X.env=pure false) Au.h4._auto_1) :
    SSs C (.Assign [.Name nr p1] (.Subscript (.Name nx p2) kE p3) p4::.If (.Compare (.Subscript (.Name nr p5) j1 p6) [.Gt] [.Constant (.int 0) c0 p7] p8) [.Assign [.Subscript (.Name nr p9) j2 p10] (.BinOp (.Subscript (.Name nr p11) j3 p12) .Sub (.Constant (.int 1) c1 p13) p14) p15,.Expr (.Call (.Attribute (.Name ny p16) "append" p17) [eE] [] p18) p19] [] p20::ss) (Dv.sCons (Dv.sRowDec i r y fk fj fe) G):=by
  obtain⟨tk,pk,qk⟩:=hk
  obtain⟨tj1,pj1,qj1⟩:=hj1
  obtain⟨tj2,pj2,qj2⟩:=hj2
  obtain⟨tj3,pj3,qj3⟩:=hj3
  obtain⟨te,pe,qe⟩:=he
  obtain⟨ts,ps,qs⟩:=hss
  refine⟨_,eT (jP hN hr hlr (i9 ix_list (bH hi hvx dx cx) pk plk) sw1 hfr) (eT (u8 (mK uV (i9 ix_list (bH hr hvr dr cr) pj1 pl1) l9 (nomark _))
    (eT (fH (u5 sF (i9 ix_list (bH hr hvr dr cr) pj3 pl3) l9) (mF (bH hr hvr dr cr) pj2 fb has) sw2 sw3 as1)
      (jD (gf (rX PySem.F.plainAttrs_list PySem.F.slot_list_append PySem.F.type_list_append jc (bH hy hvy dy cy) (aG pe bu hst) hbase hfew hline hst rfl) sw4))) mI) ps),λ Hv₀ H₀ E σ H st ⟨Hc,O,rel⟩ w=>?_⟩
  have w':OkS C Hv₀ H₀ E ((Dv.sRowDec i r y fk fj fe st).bind G):=w
  clear w
  unfold Dv.sRowDec at w'
  cases hi2:st[i]? with
  | none=>simp only[hi2] at w'; exact(show False from w').elim
  | some s =>
    simp only[hi2] at w'
    cases s with
    | dp d0 =>
     cases d0 with
     | tab rows =>
      obtain⟨tt,bs,g1,g2,g3,g4,g5,rd⟩:=rel.table hi2
      refine⟨_,g1,?_⟩
      refine qk.all rel (λ c hf H' r'=>?_) (λ hf=>?_) λ d fr v Hv' H' hf x r1 rp n=>?_
      · simp only[hf] at w'; exact(show False from w').elim
      · simp only[hf] at w'; exact w'
      · simp only[hf] at w'
        cases d with
        | int ka =>
          unfold Rp at rp
          cases hrow:rows[ka.toNat]? with
          | none=>simp only[hrow] at w'; exact(show False from w').elim
          | some row =>
            simp only[hrow] at w'
            obtain⟨b,g6,g7⟩:=gw g5 hrow
            have g8:=rd _ _ g7
            cases hfj:fj (Dv.all (st.set r .no)) with
            | bad=>simp only[hfj] at w'; exact(show False from w').elim
            | exc c=>simp only[hfj] at w'; exact(show False from w').elim
            | ok dj frj =>
              simp only[hfj] at w'
              cases dj with
              | int kb =>
                cases hval:row[kb.toNat]? with
                | none=>simp only[hval] at w'; exact(show False from w').elim
                | some vv =>
                  simp only[hval] at w'
                  by_cases z:(decide (0<=ka)&&decide (0<=kb)&&decide (i≠r)&&decide (i≠y)&&decide (r≠y)&&decide (r<st.length))=true
                  · simp only[z,if_true] at w'
                    simp only[yN,decide_eq_true_eq] at z
                    obtain⟨⟨⟨⟨⟨z1,z2⟩,z3⟩,z4⟩,z5⟩,z6⟩:=z
                    refine⟨tt,bs.map V.ref,ka,.ref b,rfl,rp,SqL.of (r1.oh i tt _ g2).1,jC z1 g6,?_⟩
                    have r2:=r1.setNo (i:=r) (v:=some (.ref b))
                    have hrσ:r<σ.length:=by rw[<- rel.len]; exact z6
                    have sr:(σ.set r (some (.ref b)))[r]?=some (some (.ref b)):=zq hrσ
                    have si:(σ.set r (some (.ref b)))[i]?=some (some (.ref tt)):=by rw[zp (Ne.symm z3)]; exact g1
                    refine⟨_,sr,?_⟩
                    refine qj1.all r2 (λ c hf H' r'=>by rw[hfj] at hf; cases hf) (λ hf=>by rw[hfj] at hf; cases hf) λ d2 fr2 v2 Hv2 H2 hf2 x2 r3 rp2 n2=>?_
                    rw[hfj] at hf2
                    cases hf2
                    unfold Rp at rp2
                    have hb3:=(r3.oh i b _ g8).1
                    refine⟨b,row.map V.int,kb,.int vv,rfl,rp2,SqL.of hb3,m6 z2 hval,?_⟩
                    refine⟨vv,0,rfl,rfl,decide (0<vv),rfl,?_⟩
                    by_cases hv:0<vv
                    · rw[if_pos hv] at w'
                      refine xj (decide_eq_true hv) ?_
                      refine⟨_,sr,?_⟩
                      refine qj3.all r3 (λ c hf H' r'=>by rw[hfj] at hf; cases hf) (λ hf=>by rw[hfj] at hf; cases hf) λ d4 fr4 v4 Hv4 H4 hf4 x4 r4 rp4 n4=>?_
                      rw[hfj] at hf4
                      cases hf4
                      unfold Rp at rp4
                      refine⟨b,row.map V.int,kb,.int vv,rfl,rp4,SqL.of (r4.oh i b _ g8).1,m6 z2 hval,?_⟩
                      refine⟨vv,1,rfl,rfl,?_⟩
                      refine⟨_,sr,?_⟩
                      refine qj2.all r4 (λ c hf H' r'=>by rw[hfj] at hf; cases hf) (λ hf=>by rw[hfj] at hf; cases hf) λ d5 fr5 v5 Hv5 H5 hf5 x5 r5 rp5 n5=>?_
                      rw[hfj] at hf5
                      cases hf5
                      unfold Rp at rp5
                      have hkl:kb.toNat<row.length:=(List.getElem?_eq_some_iff.mp hval).1
                      refine⟨b,row.map V.int,kb,kb.toNat,rfl,rp5,(r5.oh i b _ g8).1,?_,?_⟩
                      · unfold ixN
                        rw[yP,if_pos z2,if_pos (by omega)]
                      · rw[show (row.map V.int).set kb.toNat (.int (vv-1))=(row.set kb.toNat (vv-1)).map V.int by rw[AZ]]
                        have r6:=r5.putTab (r':=row.set kb.toNat (vv-1)) si g2 g3 g4 g5 g6 g8
                        cases hy2:st[y]? with
                        | none =>
                          exfalso
                          cases hfe:fe (Dv.all ((st.set r .no).set i (.dp (.tab (rows.set ka.toNat (row.set kb.toNat (vv-1))))))) with
                          | bad=>simp only[hfe] at w'; exact w'
                          | exc c=>simp only[hfe] at w'; exact w'
                          | ok de fre=>cases de <;>simp only[hfe,hy2] at w' <;>exact w'
                        | some sy =>
                          cases sy with
                          | ow dy0 =>
                            cases dy0 with
                            | lst ds =>
                              have hy6:(((st.set r .no).set i (.dp (.tab (rows.set ka.toNat (row.set kb.toNat (vv-1)))))))[y]?=some (.ow (.lst ds)):=by
                                rw[zp z4,zp z5]; exact hy2
                              obtain⟨ay,vsy,k1,k2,k5⟩:=r6.own hy6
                              refine⟨_,k1,.inl ⟨rfl,vsy,SqL.of k2⟩,?_⟩
                              refine qe.all r6 (λ c hf H' r'=>?_) (λ hf=>?_) λ d7 fr7 v7 Hv7 H7 hf7 x7 r7 rp7 n7=>?_
                              · simp only[hf] at w'; exact(show False from w').elim
                              · simp only[hf] at w'; exact w'
                              · simp only[hf7] at w'
                                cases d7 with
                                | int ev =>
                                  simp only[hy2] at w'
                                  by_cases hmx:decide (ds.length<Dv.mx)=true
                                  · simp only[hmx,if_true] at w'
                                    rw[decide_eq_true_eq] at hmx
                                    obtain⟨O9,r9⟩:=r7.put hy6 k1 (k5.append (.cons (rp7.scal rfl) .nil))
                                    refine⟨ay,vsy,v7,rfl,rfl,x7.hh _ _ k2,?_,?_⟩
                                    · have:=k5.length
                                      have e1:(100000:Nat)<sizeLine:=by rw[sizeLine_eq]; decide
                                      have e2:ds.length<100000:=hmx
                                      omega
                                    · exact qs Hv₀ H₀ E _ _ _ ⟨Hc,O9,r9⟩ w'
                                  · simp only[hmx] at w'; exact(show False from w').elim
                                | _=>exact(show False from w').elim
                            | _ =>
                              exfalso
                              cases hfe:fe (Dv.all ((st.set r .no).set i (.dp (.tab (rows.set ka.toNat (row.set kb.toNat (vv-1))))))) with
                              | bad=>simp only[hfe] at w'; exact w'
                              | exc c=>simp only[hfe] at w'; exact w'
                              | ok de fre=>cases de <;>simp only[hfe,hy2] at w' <;>exact w'
                          | _ =>
                            exfalso
                            cases hfe:fe (Dv.all ((st.set r .no).set i (.dp (.tab (rows.set ka.toNat (row.set kb.toNat (vv-1))))))) with
                            | bad=>simp only[hfe] at w'; exact w'
                            | exc c=>simp only[hfe] at w'; exact w'
                            | ok de fre=>cases de <;>simp only[hfe,hy2] at w' <;>exact w'
                    · rw[if_neg hv] at w'
                      refine xu (decide_eq_false hv) ?_
                      exact qs Hv₀ H₀ E _ _ _ ⟨Hc,_,r3⟩ w'
                  · simp only[z] at w'; exact(show False from w').elim
              | _=>exact(show False from w').elim
        | _=>exact(show False from w').elim
     | _=>exact(show False from w').elim
    | _=>exact(show False from w').elim
end
end Sd
namespace Dv
end Dv
namespace Sd
open PySem PySem.Spec PyProof.Rows L2
open Dv (D R RL EE EL EI RI Sl Out SS)
section
variable {C:Ctx}{a b c e o k:Expr}{es:List Expr}{f g h:EE}{fl:EL}{F G:SS}{pos pos':Pos}{E:Ends}
end
section
variable {C:Ctx}{a b c e o k:Expr}{es:List Expr}{f g h:EE}{fl:EL}{F G:SS}{pos pos':Pos}{E:Ends}
end
section
variable {C:Ctx}{a b c e o k:Expr}{es:List Expr}{f g h:EE}{fl:EL}{F G:SS}{pos pos':Pos}{E:Ends}
end
end Sd
namespace Cw
open Dv (eAnd eB1 eB2 eBl eCall eCm eComp eCompTb eDict0 eDix eInt eIx eIxT eLst eNeg eNot eOp eOr eSlice eTup eVar iDown iEnum iRange iRange2 iSeq lCons lNil sApp sAug sAugIx sCons sDMove sExpr sExt sFor sForR sForT sIf sNil sPar sPut sPutT sRaise sRet sRetO sRetT sRetTb sRowDec sSet sSetD sSetG sTryAs sUnpack sUnpackL sUnpackTb sWhile)
open Dv (D R)
noncomputable def b_Q04:Dv.SS :=
 (sIf (eOr (eCm .lt (eVar 0) (eInt 1)) (eCm .gt (eVar 0) (eInt 60))) (sRaise "NoWheel") sNil)
noncomputable def F_Q04:List D->R:=Dv.fn 1 b_Q04
noncomputable def b_Q03_l1:Dv.SS :=
 (sCons (sIf (eOr (eCm .le (eVar 3) (eVar 2)) (eCm .ge (eVar 3) (eVar 1))) (sRaise "NoBeat") sNil) (sSetG [3] 2 (eVar 3)))
noncomputable def b_Q03_t2:Dv.SS :=
 (sFor [0] 3 (iSeq (eVar 0)) b_Q03_l1)
noncomputable def b_Q03_t1:Dv.SS :=
 (sCons (sSet 2 (eNeg (eInt 1))) b_Q03_t2)
noncomputable def b_Q03:Dv.SS :=
 (sCons (sIf (eCm .eq (eB1 Dv.lenD (eVar 0)) (eInt 0)) (sRaise "NoBeat") sNil) b_Q03_t1)
noncomputable def F_Q03:List D->R:=Dv.fn 4 b_Q03
noncomputable def b_Q02_t1:Dv.SS :=
 (sExpr (eCall F_Q03 (lCons (eVar 1) (lCons (eVar 0) lNil))))
noncomputable def b_Q02:Dv.SS :=
 (sCons (sExpr (eCall F_Q04 (lCons (eVar 0) lNil))) b_Q02_t1)
noncomputable def F_Q02:List D->R:=Dv.fn 2 b_Q02
noncomputable def b_Q0E_t3:Dv.SS :=
 (sRet (eOp .mod (eOp .mul (eVar 2) (eVar 2)) (eInt 2147483629)))
noncomputable def b_Q0E_t2:Dv.SS :=
 (sCons (sIf (eCm .gt (eB1 Dv.lenD (eVar 0)) (eInt 0)) (sSet 2 (eOp .mod (eOp .add (eOp .mul (eIx (eVar 0) (eOp .mod (eVar 1) (eB1 Dv.lenD (eVar 0)))) (eInt 48271)) (eOp .mul (eVar 1) (eInt 7919))) (eInt 2147483647))) sNil) b_Q0E_t3)
noncomputable def b_Q0E_t1:Dv.SS :=
 (sCons (sSet 2 (eOp .add (eOp .mul (eInt 7919) (eVar 1)) (eInt 5))) b_Q0E_t2)
noncomputable def b_Q0E:Dv.SS :=
 (sCons (sIf (eCm .lt (eVar 1) (eB1 Dv.lenD (eVar 0))) (sRet (eIx (eVar 0) (eVar 1))) sNil) b_Q0E_t1)
noncomputable def F_Q0E:List D->R:=Dv.fn 3 b_Q0E
noncomputable def b_Q0W_l1:Dv.SS :=
 (sCons (sSet 7 (eOp .mod (eOp .shr (eVar 3) (eVar 6)) (eInt 2))) (sCons (sIf (eCm .eq (eVar 4) (eInt 3)) (sSet 7 (eOp .mul (eVar 7) (eOp .mod (eOp .shr (eVar 3) (eOp .mod (eOp .add (eVar 6) (eInt 7)) (eInt 61))) (eInt 2)))) sNil) (sCons (sIf (eCm .eq (eVar 4) (eInt 4)) (sSet 7 (eB2 Dv.max2D (eVar 7) (eOp .mod (eOp .shr (eVar 3) (eOp .mod (eOp .add (eVar 6) (eInt 7)) (eInt 61))) (eInt 2)))) sNil) (sIf (eCm .eq (eVar 7) (eInt 1)) (sApp 5 (eVar 6)) sNil))))
noncomputable def b_Q0W_t5:Dv.SS :=
 (sRetO 5)
noncomputable def b_Q0W_t4:Dv.SS :=
 (sCons (sIf (eCm .eq (eVar 5) (eLst lNil)) (sApp 5 (eOp .mod (eOp .fdiv (eCall F_Q0E (lCons (eVar 0) (lCons (eOp .add (eVar 1) (eInt 1)) lNil))) (eInt 5)) (eVar 2))) sNil) b_Q0W_t5)
noncomputable def b_Q0W_t3:Dv.SS :=
 (sCons (sFor [] 6 (iRange (eVar 2)) b_Q0W_l1) b_Q0W_t4)
noncomputable def b_Q0W_t2:Dv.SS :=
 (sCons (sSet 5 (eLst lNil)) b_Q0W_t3)
noncomputable def b_Q0W_t1:Dv.SS :=
 (sCons (sSet 4 (eOp .mod (eCall F_Q0E (lCons (eVar 0) (lCons (eOp .add (eVar 1) (eInt 1)) lNil))) (eInt 5))) b_Q0W_t2)
noncomputable def b_Q0W:Dv.SS :=
 (sCons (sSet 3 (eOp .mod (eOp .mul (eCall F_Q0E (lCons (eVar 0) (lCons (eVar 1) lNil))) (eInt 618970019642690137449562111)) (eInt 2305843009213693951))) b_Q0W_t1)
noncomputable def F_Q0W:List D->R:=Dv.fn 8 b_Q0W
noncomputable def c_Q0X_1:Dv.EE:=(eComp (eOp .mod (eOp .add (eVar 0) (eVar 2)) (eVar 1)) (eBl true) [0,2] (iSeq (eVar 1)))
noncomputable def b_Q0X:Dv.SS :=
 (sRet (eB1 Dv.sortedD c_Q0X_1))
noncomputable def F_Q0X:List D->R:=Dv.fn 3 b_Q0X
noncomputable def c_Q09_1:Dv.EE:=(eComp (eOp .add (eVar 0) (eOp .mul (eVar 1) (eVar 2))) (eBl true) [4,0] (iSeq (eVar 1)))
noncomputable def b_Q09_l1:Dv.SS :=
 (sSet 3 (eOp .add (eVar 3) c_Q09_1))
noncomputable def b_Q09_t2:Dv.SS :=
 (sRetO 3)
noncomputable def b_Q09_t1:Dv.SS :=
 (sCons (sFor [] 4 (iRange (eVar 2)) b_Q09_l1) b_Q09_t2)
noncomputable def b_Q09:Dv.SS :=
 (sCons (sSet 3 (eLst lNil)) b_Q09_t1)
noncomputable def F_Q09:List D->R:=Dv.fn 5 b_Q09
noncomputable def c_Q0P_1:Dv.EE:=(eComp (eOp .add (eOp .mul (eVar 0) (eVar 2)) (eVar 1)) (eBl true) [10,7] (iSeq (eVar 3)))
noncomputable def c_Q0P_2:Dv.EE:=(eComp (eOp .mul (eVar 0) (eVar 1)) (eBl true) [7] (iSeq (eVar 4)))
noncomputable def b_Q0P_l1:Dv.SS :=
 (sSet 9 (eOp .add (eVar 9) c_Q0P_1))
noncomputable def b_Q0P_l2:Dv.SS :=
 (sCons (sSet 6 (eOp .mod (eOp .mul (eCall F_Q0E (lCons (eVar 0) (lCons (eOp .add (eVar 1) (eVar 5)) lNil))) (eInt 48271)) (eInt 2147483647))) (sCons (sSet 7 (eIx (eLst (lCons (eInt 2) (lCons (eInt 3) (lCons (eInt 2) (lCons (eInt 5) (lCons (eInt 2) (lCons (eInt 3) (lCons (eInt 7) lNil)))))))) (eOp .mod (eVar 6) (eInt 7)))) (sCons (sSet 8 (eOp .mod (eOp .fdiv (eVar 6) (eInt 7)) (eInt 4))) (sCons (sIf (eCm .le (eOp .mul (eVar 2) (eVar 7)) (eInt 60)) (sCons (sIf (eCm .lt (eVar 8) (eInt 2)) (sSet 3 (eCall F_Q09 (lCons (eVar 2) (lCons (eVar 3) (lCons (eVar 7) lNil))))) (sCons (sSet 9 (eLst lNil)) (sCons (sFor [] 10 (iRange (eVar 7)) b_Q0P_l1) (sCons (sSet 3 (eB1 Dv.sortedD (eVar 9))) (sSet 4 c_Q0P_2))))) (sSet 2 (eOp .mul (eVar 2) (eVar 7)))) sNil) (sIf (eCm .eq (eOp .mod (eOp .fdiv (eVar 6) (eInt 28)) (eInt 2)) (eInt 1)) (sPar [3,4] 3 4 (eVar 4) (eVar 3)) sNil)))))
noncomputable def b_Q0P_t5:Dv.SS :=
 (sRet (eTup (lCons (eVar 2) (lCons (eVar 3) (lCons (eCall F_Q0X (lCons (eVar 2) (lCons (eVar 4) (lCons (eOp .mod (eCall F_Q0E (lCons (eVar 0) (lCons (eOp .add (eVar 1) (eInt 7)) lNil))) (eVar 2)) lNil)))) lNil)))))
noncomputable def b_Q0P_t4:Dv.SS :=
 (sCons (sSet 3 (eCall F_Q0X (lCons (eVar 2) (lCons (eVar 3) (lCons (eOp .mod (eCall F_Q0E (lCons (eVar 0) (lCons (eOp .add (eVar 1) (eInt 6)) lNil))) (eVar 2)) lNil))))) b_Q0P_t5)
noncomputable def b_Q0P_t3:Dv.SS :=
 (sCons (sFor [] 5 (iRange (eInt 6)) b_Q0P_l2) b_Q0P_t4)
noncomputable def b_Q0P_t2:Dv.SS :=
 (sCons (sSet 4 (eLst (lCons (eInt 0) lNil))) b_Q0P_t3)
noncomputable def b_Q0P_t1:Dv.SS :=
 (sCons (sSet 3 (eLst (lCons (eInt 0) lNil))) b_Q0P_t2)
noncomputable def b_Q0P:Dv.SS :=
 (sCons (sSet 2 (eInt 1)) b_Q0P_t1)
noncomputable def F_Q0P:List D->R:=Dv.fn 11 b_Q0P
noncomputable def b_Q0N_t4:Dv.SS :=
 (sRet (eB1 Dv.sortedD (eOp .add (eVar 4) (eLst (lCons (eVar 5) lNil)))))
noncomputable def b_Q0N_t3:Dv.SS :=
 (sCons (sIf (eCm .isin (eVar 5) (eVar 4)) (sRetO 1) sNil) b_Q0N_t4)
noncomputable def b_Q0N_t2:Dv.SS :=
 (sCons (sSet 5 (eOp .mod (eOp .add (eIx (eVar 1) (eVar 3)) (eInt 1)) (eVar 0))) b_Q0N_t3)
noncomputable def b_Q0N_t1:Dv.SS :=
 (sCons (sSet 4 (eOp .add (eSlice (eVar 1) none (some (eVar 3))) (eSlice (eVar 1) (some (eOp .add (eVar 3) (eInt 1))) none))) b_Q0N_t2)
noncomputable def b_Q0N:Dv.SS :=
 (sCons (sSet 3 (eOp .mod (eVar 2) (eB1 Dv.lenD (eVar 1)))) b_Q0N_t1)
noncomputable def F_Q0N:List D->R:=Dv.fn 6 b_Q0N
noncomputable def c_Q0Z_1:Dv.EE:=(eComp (eOp .mod (eVar 0) (eVar 1)) (eBl true) [0] (iSeq (eVar 1)))
noncomputable def b_Q0Z_t3:Dv.SS :=
 (sRetO 2)
noncomputable def b_Q0Z_t2:Dv.SS :=
 (sCons (sExpr (eCall F_Q02 (lCons (eVar 0) (lCons (eVar 2) lNil)))) b_Q0Z_t3)
noncomputable def b_Q0Z_t1:Dv.SS :=
 (sCons (sSet 2 (eB1 Dv.sortedD c_Q0Z_1)) b_Q0Z_t2)
noncomputable def b_Q0Z:Dv.SS :=
 (sCons (sExpr (eCall F_Q04 (lCons (eVar 0) lNil))) b_Q0Z_t1)
noncomputable def F_Q0Z:List D->R:=Dv.fn 3 b_Q0Z
noncomputable def b_Q01_l1:Dv.SS :=
 (sPut 1 (eVar 2) (eInt 1))
noncomputable def b_Q01_t3:Dv.SS :=
 (sRetO 1)
noncomputable def b_Q01_t2:Dv.SS :=
 (sCons (sFor [0] 2 (iSeq (eVar 0)) b_Q01_l1) b_Q01_t3)
noncomputable def b_Q01_t1:Dv.SS :=
 (sCons (sSet 1 (eOp .mul (eLst (lCons (eInt 0) lNil)) (eOp .add (eIx (eVar 0) (eNeg (eInt 1))) (eInt 1)))) b_Q01_t2)
noncomputable def b_Q01:Dv.SS :=
 (sCons (sIf (eCm .eq (eB1 Dv.lenD (eVar 0)) (eInt 0)) (sRet (eLst lNil)) sNil) b_Q01_t1)
noncomputable def F_Q01:List D->R:=Dv.fn 3 b_Q01
noncomputable def b_Q1A_l1:Dv.SS :=
 (sAug 1 .sub (eInt 1))
noncomputable def b_Q1A_t2:Dv.SS :=
 (sRet (eSlice (eVar 0) none (some (eVar 1))))
noncomputable def b_Q1A_t1:Dv.SS :=
 (sCons (sWhile 100000 (eAnd (eCm .gt (eVar 1) (eInt 0)) (eCm .eq (eIx (eVar 0) (eOp .sub (eVar 1) (eInt 1))) (eInt 0))) b_Q1A_l1) b_Q1A_t2)
noncomputable def b_Q1A:Dv.SS :=
 (sCons (sSet 1 (eB1 Dv.lenD (eVar 0))) b_Q1A_t1)
noncomputable def F_Q1A:List D->R:=Dv.fn 2 b_Q1A
noncomputable def b_Q18_l1:Dv.SS :=
 (sAugIx 3 .sub (eOp .add (eVar 5) (eVar 6)) (eOp .mul (eIx (eVar 4) (eVar 5)) (eVar 7)))
noncomputable def b_Q18_l2:Dv.SS :=
 (sCons (sPut 4 (eVar 5) (eIx (eVar 3) (eOp .add (eVar 5) (eVar 2)))) (sForT [1] (Dv.tupTo [6,7]) (iEnum (eVar 1)) b_Q18_l1))
noncomputable def b_Q18_t5:Dv.SS :=
 (sRetT 4 (eCall F_Q1A (lCons (eSlice (eVar 3) none (some (eVar 2))) lNil)))
noncomputable def b_Q18_t4:Dv.SS :=
 (sCons (sForR 5 (iDown (eOp .sub (eB1 Dv.lenD (eVar 4)) (eInt 1)) (eNeg (eInt 1))) b_Q18_l2) b_Q18_t5)
noncomputable def b_Q18_t3:Dv.SS :=
 (sCons (sSet 4 (eOp .mul (eLst (lCons (eInt 0) lNil)) (eOp .sub (eB1 Dv.lenD (eVar 0)) (eVar 2)))) b_Q18_t4)
noncomputable def b_Q18_t2:Dv.SS :=
 (sCons (sSet 3 (eB1 Dv.listD (eVar 0))) b_Q18_t3)
noncomputable def b_Q18_t1:Dv.SS :=
 (sCons (sSet 2 (eOp .sub (eB1 Dv.lenD (eVar 1)) (eInt 1))) b_Q18_t2)
noncomputable def b_Q18:Dv.SS :=
 (sCons (sIf (eOr (eCm .eq (eB1 Dv.lenD (eVar 1)) (eInt 0)) (eCm .ne (eIx (eVar 1) (eNeg (eInt 1))) (eInt 1))) (sRaise "NoPart") sNil) b_Q18_t1)
noncomputable def F_Q18:List D->R:=Dv.fn 8 b_Q18
noncomputable def c_Q05_1:Dv.EE:=(eComp (eVar 0) (eCm .eq (eOp .mod (eVar 1) (eVar 0)) (eInt 0)) [0] (iRange2 (eInt 1) (eOp .add (eVar 0) (eInt 1))))
noncomputable def b_Q05_t1:Dv.SS :=
 (sRet c_Q05_1)
noncomputable def b_Q05:Dv.SS :=
 (sCons (sIf (eOr (eCm .lt (eVar 0) (eInt 1)) (eCm .gt (eVar 0) (eInt 60))) (sRaise "NoPart") sNil) b_Q05_t1)
noncomputable def F_Q05:List D->R:=Dv.fn 1 b_Q05
noncomputable def b_Q12_l1:Dv.SS :=
 (sSet 3 (eIx (eCall F_Q18 (lCons (eVar 3) (lCons (eDix (eVar 1) (eVar 4)) lNil))) (eInt 0)))
noncomputable def b_Q12_l2:Dv.SS :=
 (sCons (sSet 3 (eOp .add (eOp .add (eLst (lCons (eNeg (eInt 1)) lNil)) (eOp .mul (eLst (lCons (eInt 0) lNil)) (eOp .sub (eVar 2) (eInt 1)))) (eLst (lCons (eInt 1) lNil)))) (sCons (sFor [2] 4 (iSeq (eSlice (eCall F_Q05 (lCons (eVar 2) lNil)) none (some (eNeg (eInt 1))))) b_Q12_l1) (sDMove 1 3 (eVar 2))))
noncomputable def b_Q12_t2:Dv.SS :=
 (sRetO 1)
noncomputable def b_Q12_t1:Dv.SS :=
 (sCons (sFor [0] 2 (iSeq (eCall F_Q05 (lCons (eVar 0) lNil))) b_Q12_l2) b_Q12_t2)
noncomputable def b_Q12:Dv.SS :=
 (sCons (sSetD 1 eDict0) b_Q12_t1)
noncomputable def F_Q12:List D->R:=Dv.fn 5 b_Q12
noncomputable def b_Q0Y:Dv.SS :=
 (sRet (eCm .eq (eIx (eCall F_Q18 (lCons (eCall F_Q01 (lCons (eVar 0) lNil)) (lCons (eVar 1) lNil))) (eInt 1)) (eLst lNil)))
noncomputable def F_Q0Y:List D->R:=Dv.fn 2 b_Q0Y
noncomputable def c_Q11_1:Dv.EE:=(eComp (eVar 0) (eCall F_Q0Y (lCons (eVar 1) (lCons (eDix (eVar 2) (eVar 0)) lNil))) [1,2] (iSeq (eSlice (eCall F_Q05 (lCons (eVar 0) lNil)) (some (eInt 1)) none)))
noncomputable def b_Q11_t2:Dv.SS :=
 (sRet c_Q11_1)
noncomputable def b_Q11_t1:Dv.SS :=
 (sCons (sSetD 2 (eCall F_Q12 (lCons (eVar 0) lNil))) b_Q11_t2)
noncomputable def b_Q11:Dv.SS :=
 (sCons (sExpr (eCall F_Q02 (lCons (eVar 0) (lCons (eVar 1) lNil)))) b_Q11_t1)
noncomputable def F_Q11:List D->R:=Dv.fn 3 b_Q11
noncomputable def b_Q14:Dv.SS :=
 (sRet (eIx (eCall F_Q05 (lCons (eVar 0) lNil)) (eInt 1)))
noncomputable def F_Q14:List D->R:=Dv.fn 1 b_Q14
noncomputable def c_Q07_1:Dv.EE:=(eComp (eCm .eq (eOp .mod (eVar 0) (eVar 1)) (eInt 0)) (eBl true) [1] (iSeq (eSlice (eCall F_Q05 (lCons (eVar 0) lNil)) (some (eInt 1)) none)))
noncomputable def b_Q07_t1:Dv.SS :=
 (sRet (eB1 Dv.allD c_Q07_1))
noncomputable def b_Q07:Dv.SS :=
 (sCons (sSet 1 (eCall F_Q14 (lCons (eVar 0) lNil))) b_Q07_t1)
noncomputable def F_Q07:List D->R:=Dv.fn 2 b_Q07
noncomputable def c_Q15_1:Dv.EE:=(eComp (eVar 0) (eCall F_Q07 (lCons (eVar 0) lNil)) [] (iSeq (eSlice (eCall F_Q05 (lCons (eVar 0) lNil)) (some (eInt 1)) none)))
noncomputable def b_Q15_t1:Dv.SS :=
 (sRet c_Q15_1)
noncomputable def b_Q15:Dv.SS :=
 (sCons (sExpr (eCall F_Q04 (lCons (eVar 0) lNil))) b_Q15_t1)
noncomputable def F_Q15:List D->R:=Dv.fn 1 b_Q15
noncomputable def c_Q13_1:Dv.EE:=(eComp (eVar 0) (eCm .isin (eVar 0) (eVar 1)) [2] (iSeq (eCall F_Q15 (lCons (eVar 0) lNil))))
noncomputable def b_Q13_t1:Dv.SS :=
 (sRet c_Q13_1)
noncomputable def b_Q13:Dv.SS :=
 (sCons (sSet 2 (eCall F_Q11 (lCons (eVar 0) (lCons (eVar 1) lNil)))) b_Q13_t1)
noncomputable def F_Q13:List D->R:=Dv.fn 3 b_Q13
noncomputable def b_Q06_l1:Dv.SS :=
 (sAug 2 .mul (eCall F_Q14 (lCons (eVar 3) lNil)))
noncomputable def b_Q06_t2:Dv.SS :=
 (sRet (eCm .eq (eVar 2) (eB1 Dv.lenD (eVar 1))))
noncomputable def b_Q06_t1:Dv.SS :=
 (sCons (sFor [0,1] 3 (iSeq (eCall F_Q13 (lCons (eVar 0) (lCons (eVar 1) lNil)))) b_Q06_l1) b_Q06_t2)
noncomputable def b_Q06:Dv.SS :=
 (sCons (sSet 2 (eInt 1)) b_Q06_t1)
noncomputable def F_Q06:List D->R:=Dv.fn 4 b_Q06
noncomputable def c_Q19_1:Dv.EE:=(eComp (eOp .mul (eVar 0) (eVar 1)) (eCm .ne (eOp .mod (eVar 0) (eVar 2)) (eInt 0)) [2,3] (iSeq (eVar 1)))
noncomputable def b_Q19_l1:Dv.SS :=
 (sCons (sSet 3 (eCall F_Q14 (lCons (eVar 2) lNil))) (sSet 1 (eOp .add (eVar 1) c_Q19_1)))
noncomputable def b_Q19_t2:Dv.SS :=
 (sRetO 1)
noncomputable def b_Q19_t1:Dv.SS :=
 (sCons (sFor [0] 2 (iSeq (eVar 0)) b_Q19_l1) b_Q19_t2)
noncomputable def b_Q19:Dv.SS :=
 (sCons (sSet 1 (eLst (lCons (eInt 1) lNil))) b_Q19_t1)
noncomputable def F_Q19:List D->R:=Dv.fn 4 b_Q19
noncomputable def c_Q17_1:Dv.EE:=(eComp (eCm .isin (eVar 0) (eVar 1)) (eBl true) [2] (iSeq (eSlice (eCall F_Q19 (lCons (eCall F_Q13 (lCons (eVar 0) (lCons (eVar 1) lNil))) lNil)) (some (eInt 1)) none)))
noncomputable def b_Q17_t1:Dv.SS :=
 (sRet (eB1 Dv.allD c_Q17_1))
noncomputable def b_Q17:Dv.SS :=
 (sCons (sSet 2 (eCall F_Q11 (lCons (eVar 0) (lCons (eVar 1) lNil)))) b_Q17_t1)
noncomputable def F_Q17:List D->R:=Dv.fn 3 b_Q17
noncomputable def c_Q0S_1:Dv.EE:=(eComp (eVar 0) (eCm .eq (eOp .mod (eVar 1) (eVar 0)) (eInt 0)) [2] (iSeq (eVar 1)))
noncomputable def b_Q0S_l1:Dv.SS :=
 (sIf (eAnd (eCm .eq (eOp .mod (eVar 0) (eVar 2)) (eInt 0)) (eCm .eq c_Q0S_1 (eLst lNil))) (sApp 1 (eVar 2)) sNil)
noncomputable def b_Q0S_t2:Dv.SS :=
 (sRetO 1)
noncomputable def b_Q0S_t1:Dv.SS :=
 (sCons (sFor [] 2 (iRange2 (eInt 2) (eOp .add (eVar 0) (eInt 1))) b_Q0S_l1) b_Q0S_t2)
noncomputable def b_Q0S:Dv.SS :=
 (sCons (sSet 1 (eLst lNil)) b_Q0S_t1)
noncomputable def F_Q0S:List D->R:=Dv.fn 3 b_Q0S
noncomputable def c_Q0I_1:Dv.EE:=(eComp (eOp .sub (eIx (eVar 1) (eVar 0)) (eIx (eVar 1) (eOp .mod (eOp .add (eVar 0) (eVar 3)) (eVar 2)))) (eBl true) [2,1,5] (iRange (eVar 1)))
noncomputable def b_Q0I_l1:Dv.SS :=
 (sPut 2 (eOp .mod (eVar 3) (eVar 1)) (eOp .add (eIx (eVar 2) (eOp .mod (eVar 3) (eVar 1))) (eInt 1)))
noncomputable def b_Q0I_l2:Dv.SS :=
 (sCons (sSet 5 (eOp .fdiv (eVar 1) (eVar 4))) (sSet 2 c_Q0I_1))
noncomputable def b_Q0I_t3:Dv.SS :=
 (sRet (eCm .eq (eVar 2) (eOp .mul (eLst (lCons (eInt 0) lNil)) (eVar 1))))
noncomputable def b_Q0I_t2:Dv.SS :=
 (sCons (sFor [1] 4 (iSeq (eCall F_Q0S (lCons (eVar 1) lNil))) b_Q0I_l2) b_Q0I_t3)
noncomputable def b_Q0I_t1:Dv.SS :=
 (sCons (sFor [0] 3 (iSeq (eVar 0)) b_Q0I_l1) b_Q0I_t2)
noncomputable def b_Q0I:Dv.SS :=
 (sCons (sSet 2 (eOp .mul (eLst (lCons (eInt 0) lNil)) (eVar 1))) b_Q0I_t1)
noncomputable def F_Q0I:List D->R:=Dv.fn 6 b_Q0I
noncomputable def c_Q0R_1:Dv.EE:=(eComp (eVar 0) (eAnd (eCm .eq (eOp .mod (eVar 1) (eVar 0)) (eInt 0)) (eCm .eq (eB1 Dv.lenD (eCall F_Q0S (lCons (eVar 0) lNil))) (eInt 1))) [0] (iRange2 (eInt 2) (eOp .add (eVar 0) (eInt 1))))
noncomputable def b_Q0R:Dv.SS :=
 (sRet c_Q0R_1)
noncomputable def F_Q0R:List D->R:=Dv.fn 1 b_Q0R
noncomputable def b_Q0G_l1:Dv.SS :=
 (sIf (eCall F_Q0I (lCons (eVar 1) (lCons (eVar 3) lNil))) (sSet 2 (eOp .mul (eVar 2) (eIx (eCall F_Q0S (lCons (eVar 3) lNil)) (eInt 0)))) sNil)
noncomputable def b_Q0G_t2:Dv.SS :=
 (sRet (eCm .eq (eVar 2) (eB1 Dv.lenD (eVar 1))))
noncomputable def b_Q0G_t1:Dv.SS :=
 (sCons (sFor [0] 3 (iSeq (eCall F_Q0R (lCons (eVar 0) lNil))) b_Q0G_l1) b_Q0G_t2)
noncomputable def b_Q0G:Dv.SS :=
 (sCons (sSet 2 (eInt 1)) b_Q0G_t1)
noncomputable def F_Q0G:List D->R:=Dv.fn 4 b_Q0G
noncomputable def c_Q0V_1:Dv.EE:=(eComp (eVar 0) (eCall F_Q0I (lCons (eVar 1) (lCons (eVar 0) lNil))) [1] (iSeq (eCall F_Q0R (lCons (eVar 0) lNil))))
noncomputable def c_Q0V_2:Dv.EE:=(eComp (eVar 0) (eCm .notin (eVar 0) (eVar 1)) [2] (iSeq (eVar 4)))
noncomputable def b_Q0V_l1:Dv.SS :=
 (sSet 6 (eOp .mul (eVar 6) (eVar 5)))
noncomputable def b_Q0V_l2:Dv.SS :=
 (sCons (sSetG [5] 6 (eVar 5)) (sCons (sWhile 100000 (eCm .eq (eOp .mod (eVar 3) (eOp .mul (eVar 6) (eVar 5))) (eInt 0)) b_Q0V_l1) (sApp 4 (eVar 6))))
noncomputable def b_Q0V_l3:Dv.SS :=
 (sCons (sSet 4 (eLst lNil)) (sCons (sFor [3] 5 (iSeq (eCall F_Q0S (lCons (eVar 3) lNil))) b_Q0V_l2) (sIf (eAnd (eCm .eq (eOp .mod (eVar 0) (eVar 3)) (eInt 0)) (eAnd (eCm .gt (eB1 Dv.lenD (eVar 4)) (eInt 1)) (eCm .eq c_Q0V_2 (eLst lNil)))) (sIf (eNot (eCall F_Q0I (lCons (eVar 1) (lCons (eVar 3) lNil)))) (sRet (eBl false)) sNil) sNil)))
noncomputable def b_Q0V_t2:Dv.SS :=
 (sRet (eBl true))
noncomputable def b_Q0V_t1:Dv.SS :=
 (sCons (sFor [] 3 (iRange2 (eInt 2) (eOp .add (eVar 0) (eInt 1))) b_Q0V_l3) b_Q0V_t2)
noncomputable def b_Q0V:Dv.SS :=
 (sCons (sSet 2 c_Q0V_1) b_Q0V_t1)
noncomputable def F_Q0V:List D->R:=Dv.fn 7 b_Q0V
noncomputable def c_Q0F_1:Dv.EE:=(eCompTb (eOp .mul (eLst (lCons (eInt 1) lNil)) (eVar 1)) (eBl true) [4] (iRange (eVar 3)))
noncomputable def b_Q0F_l1:Dv.SS :=
 (sCons (sSet 8 (eOp .mod (eOp .mul (eCall F_Q0E (lCons (eVar 0) (lCons (eOp .add (eOp .add (eVar 1) (eInt 1)) (eVar 7)) lNil))) (eInt 48271)) (eInt 2147483647))) (sCons (sSet 9 (eOp .mod (eVar 8) (eVar 3))) (sCons (sSet 10 (eOp .mod (eOp .add (eOp .add (eVar 9) (eInt 1)) (eOp .mod (eOp .fdiv (eVar 8) (eInt 8)) (eOp .sub (eVar 3) (eInt 1)))) (eVar 3))) (sCons (sSet 11 (eOp .mod (eOp .fdiv (eVar 8) (eInt 64)) (eVar 4))) (sCons (sSet 12 (eOp .mod (eOp .add (eOp .add (eVar 11) (eInt 1)) (eOp .mod (eOp .fdiv (eVar 8) (eInt 512)) (eOp .sub (eVar 4) (eInt 1)))) (eVar 4))) (sCons (sSet 13 (eB2 Dv.min2D (eIx (eIxT (eVar 6) (eVar 9)) (eVar 12)) (eIx (eIxT (eVar 6) (eVar 10)) (eVar 11)))) (sIf (eAnd (eCm .gt (eVar 13) (eInt 0)) (eCm .lt (eB2 Dv.max2D (eIx (eIxT (eVar 6) (eVar 9)) (eVar 11)) (eIx (eIxT (eVar 6) (eVar 10)) (eVar 12))) (eVar 5))) (sCons (sPutT 6 (eVar 9) (eVar 11) (eOp .add (eIx (eIxT (eVar 6) (eVar 9)) (eVar 11)) (eInt 1))) (sCons (sPutT 6 (eVar 10) (eVar 12) (eOp .add (eIx (eIxT (eVar 6) (eVar 10)) (eVar 12)) (eInt 1))) (sCons (sPutT 6 (eVar 9) (eVar 12) (eOp .sub (eIx (eIxT (eVar 6) (eVar 9)) (eVar 12)) (eInt 1))) (sPutT 6 (eVar 10) (eVar 11) (eOp .sub (eIx (eIxT (eVar 6) (eVar 10)) (eVar 11)) (eInt 1)))))) sNil)))))))
noncomputable def b_Q0F_t5:Dv.SS :=
 (sRetTb (eOp .mul (eOp .mul (eVar 3) (eVar 4)) (eVar 5)) (eVar 3) (eVar 4) 6)
noncomputable def b_Q0F_t4:Dv.SS :=
 (sCons (sFor [] 7 (iRange (eInt 6)) b_Q0F_l1) b_Q0F_t5)
noncomputable def b_Q0F_t3:Dv.SS :=
 (sCons (sSetD 6 c_Q0F_1) b_Q0F_t4)
noncomputable def b_Q0F_t2:Dv.SS :=
 (sCons (sSet 5 (eOp .mul (eVar 5) (eInt 2))) b_Q0F_t3)
noncomputable def b_Q0F_t1:Dv.SS :=
 (sCons (sSet 5 (eOp .add (eInt 1) (eOp .mod (eOp .fdiv (eCall F_Q0E (lCons (eVar 0) (lCons (eVar 1) lNil))) (eInt 5)) (eB2 Dv.max2D (eInt 1) (eOp .fdiv (eVar 2) (eOp .mul (eOp .mul (eVar 3) (eVar 4)) (eInt 2))))))) b_Q0F_t2)
noncomputable def b_Q0F:Dv.SS :=
 (sCons (sUnpack [0,1] [3,4] (eIx (eLst (lCons (eTup (lCons (eInt 2) (lCons (eInt 3) lNil))) (lCons (eTup (lCons (eInt 2) (lCons (eInt 5) lNil))) (lCons (eTup (lCons (eInt 3) (lCons (eInt 2) lNil))) (lCons (eTup (lCons (eInt 2) (lCons (eInt 3) lNil))) (lCons (eTup (lCons (eInt 3) (lCons (eInt 5) lNil))) lNil)))))) (eOp .mod (eCall F_Q0E (lCons (eVar 0) (lCons (eVar 1) lNil))) (eInt 5)))) b_Q0F_t1)
noncomputable def F_Q0F:List D->R:=Dv.fn 14 b_Q0F
noncomputable def b_Q0M_l1:Dv.SS :=
 (sCons (sSet 9 (eOp .mod (eOp .add (eOp .mul (eVar 8) (eInt 7)) (eOp .mod (eCall F_Q0E (lCons (eVar 0) (lCons (eOp .add (eVar 1) (eInt 7)) lNil))) (eInt 1000003))) (eVar 3))) (sCons (sRowDec 6 10 7 (eOp .mod (eVar 9) (eVar 4)) (eOp .mod (eVar 9) (eVar 5)) (eVar 9)) sNil))
noncomputable def b_Q0M_t3:Dv.SS :=
 (sRet (eLst (lCons (eVar 3) (lCons (eB1 Dv.sortedD (eVar 7)) lNil))))
noncomputable def b_Q0M_t2:Dv.SS :=
 (sCons (sFor [] 8 (iRange (eVar 3)) b_Q0M_l1) b_Q0M_t3)
noncomputable def b_Q0M_t1:Dv.SS :=
 (sCons (sSet 7 (eLst lNil)) b_Q0M_t2)
noncomputable def b_Q0M:Dv.SS :=
 (sCons (sUnpackTb 3 4 5 6 (eCall F_Q0F (lCons (eVar 0) (lCons (eVar 1) (lCons (eVar 2) lNil))))) b_Q0M_t1)
noncomputable def F_Q0M:List D->R:=Dv.fn 11 b_Q0M
noncomputable def c_Q16_1:Dv.EE:=(eComp (eOp .mul (eOp .mul (eVar 0) (eVar 1)) (eOp .fdiv (eVar 2) (eVar 3))) (eBl true) [3,1,2] (iRange (eVar 2)))
noncomputable def b_Q16_l1:Dv.SS :=
 (sAug 3 .fdiv (eVar 2))
noncomputable def b_Q16_t3:Dv.SS :=
 (sRet c_Q16_1)
noncomputable def b_Q16_t2:Dv.SS :=
 (sCons (sWhile 100000 (eCm .eq (eOp .mod (eVar 3) (eVar 2)) (eInt 0)) b_Q16_l1) b_Q16_t3)
noncomputable def b_Q16_t1:Dv.SS :=
 (sCons (sSetG [0] 3 (eVar 0)) b_Q16_t2)
noncomputable def b_Q16:Dv.SS :=
 (sCons (sSet 2 (eCall F_Q14 (lCons (eVar 1) lNil))) b_Q16_t1)
noncomputable def F_Q16:List D->R:=Dv.fn 4 b_Q16
noncomputable def c_Q00_1:Dv.EE:=(eComp (eOp .add (eVar 1) (eVar 0)) (eBl true) [3] (iSeq (eVar 1)))
noncomputable def b_Q00_l1:Dv.SS :=
 (sExt 2 c_Q00_1)
noncomputable def b_Q00_t2:Dv.SS :=
 (sRetO 2)
noncomputable def b_Q00_t1:Dv.SS :=
 (sCons (sFor [0] 3 (iSeq (eVar 0)) b_Q00_l1) b_Q00_t2)
noncomputable def b_Q00:Dv.SS :=
 (sCons (sSet 2 (eLst lNil)) b_Q00_t1)
noncomputable def F_Q00:List D->R:=Dv.fn 4 b_Q00
noncomputable def b_Q10_l1:Dv.SS :=
 (sIf (eCm .notin (eVar 4) (eVar 2)) (sSet 3 (eCall F_Q00 (lCons (eVar 3) (lCons (eCall F_Q16 (lCons (eVar 0) (lCons (eVar 4) lNil))) lNil)))) sNil)
noncomputable def b_Q10_t4:Dv.SS :=
 (sRet (eCall F_Q0Z (lCons (eVar 0) (lCons (eVar 3) lNil))))
noncomputable def b_Q10_t3:Dv.SS :=
 (sCons (sFor [0] 4 (iSeq (eCall F_Q15 (lCons (eVar 0) lNil))) b_Q10_l1) b_Q10_t4)
noncomputable def b_Q10_t2:Dv.SS :=
 (sCons (sSet 3 (eLst (lCons (eInt 0) lNil))) b_Q10_t3)
noncomputable def b_Q10_t1:Dv.SS :=
 (sCons (sSet 2 (eCall F_Q13 (lCons (eVar 0) (lCons (eVar 1) lNil)))) b_Q10_t2)
noncomputable def b_Q10:Dv.SS :=
 (sCons (sIf (eOr (eNot (eCall F_Q06 (lCons (eVar 0) (lCons (eVar 1) lNil)))) (eNot (eCall F_Q17 (lCons (eVar 0) (lCons (eVar 1) lNil))))) (sRaise "NoRule") sNil) b_Q10_t1)
noncomputable def F_Q10:List D->R:=Dv.fn 5 b_Q10
noncomputable def b_Q0D_t4:Dv.SS :=
 (sRet (eLst (lCons (eVar 2) (lCons (eCall F_Q0N (lCons (eVar 2) (lCons (eVar 3) (lCons (eOp .mod (eCall F_Q0E (lCons (eVar 0) (lCons (eInt 9) lNil))) (eInt 1000003)) lNil)))) lNil))))
noncomputable def b_Q0D_t3:Dv.SS :=
 (sCons (sUnpack [0] [2,3,4] (eCall F_Q0P (lCons (eVar 0) (lCons (eInt 1) lNil)))) b_Q0D_t4)
noncomputable def b_Q0D_t2:Dv.SS :=
 (sCons (sIf (eCm .eq (eVar 1) (eInt 3)) (sRet (eCall F_Q0M (lCons (eVar 0) (lCons (eInt 1) (lCons (eInt 60) lNil))))) sNil) b_Q0D_t3)
noncomputable def b_Q0D_t1:Dv.SS :=
 (sCons (sIf (eCm .lt (eVar 1) (eInt 2)) (sCons (sSet 2 (eOp .add (eInt 1) (eOp .mod (eOp .fdiv (eCall F_Q0E (lCons (eVar 0) (lCons (eInt 0) lNil))) (eInt 4)) (eInt 60)))) (sRet (eLst (lCons (eVar 2) (lCons (eCall F_Q0W (lCons (eVar 0) (lCons (eInt 1) (lCons (eVar 2) lNil)))) lNil))))) sNil) b_Q0D_t2)
noncomputable def b_Q0D:Dv.SS :=
 (sCons (sSet 1 (eOp .mod (eCall F_Q0E (lCons (eVar 0) (lCons (eInt 0) lNil))) (eInt 4))) b_Q0D_t1)
noncomputable def F_Q0D:List D->R:=Dv.fn 5 b_Q0D
noncomputable def b_Q0B_t2:Dv.SS :=
 (sRet (eCall F_Q10 (lCons (eVar 1) (lCons (eVar 2) lNil))))
noncomputable def b_Q0B_t1:Dv.SS :=
 (sCons (sIf (eCm .eq (eVar 0) (eInt 1)) (sRet (eCall F_Q17 (lCons (eVar 1) (lCons (eVar 2) lNil)))) sNil) b_Q0B_t2)
noncomputable def b_Q0B:Dv.SS :=
 (sCons (sIf (eCm .eq (eVar 0) (eInt 0)) (sRet (eCall F_Q06 (lCons (eVar 1) (lCons (eVar 2) lNil)))) sNil) b_Q0B_t1)
noncomputable def F_Q0B:List D->R:=Dv.fn 3 b_Q0B
noncomputable def b_Q0L_t3:Dv.SS :=
 (sRet (eOp .add (eVar 1) (eLst (lCons (eB1 (Dv.isXD ["WheelError","NoWheel","NoBeat","NoPart","NoRule","NoWindow","NoPair","NoText","NoName","NoNumber","NoDeed","TooMany"] ["ValueError"]) (eVar 0)) lNil))))
noncomputable def b_Q0L_t2:Dv.SS :=
 (sCons (sApp 1 (eB1 (Dv.isXD ["WheelError","NoWheel","NoBeat","NoPart","NoRule","NoWindow","NoPair","NoText","NoName","NoNumber","NoDeed","TooMany"] ["NoName","NoNumber","NoDeed","TooMany"]) (eVar 0))) b_Q0L_t3)
noncomputable def b_Q0L_t1:Dv.SS :=
 (sCons (sApp 1 (eB1 (Dv.isXD ["WheelError","NoWheel","NoBeat","NoPart","NoRule","NoWindow","NoPair","NoText","NoName","NoNumber","NoDeed","TooMany"] ["NoPart","NoWindow","NoPair","NoText"]) (eVar 0))) b_Q0L_t2)
noncomputable def b_Q0L:Dv.SS :=
 (sCons (sSet 1 (eLst (lCons (eB1 (Dv.isXD ["WheelError","NoWheel","NoBeat","NoPart","NoRule","NoWindow","NoPair","NoText","NoName","NoNumber","NoDeed","TooMany"] ["NoRule"]) (eVar 0)) (lCons (eB1 (Dv.isXD ["WheelError","NoWheel","NoBeat","NoPart","NoRule","NoWindow","NoPair","NoText","NoName","NoNumber","NoDeed","TooMany"] ["NoWheel"]) (eVar 0)) (lCons (eB1 (Dv.isXD ["WheelError","NoWheel","NoBeat","NoPart","NoRule","NoWindow","NoPair","NoText","NoName","NoNumber","NoDeed","TooMany"] ["NoBeat"]) (eVar 0)) lNil))))) b_Q0L_t1)
noncomputable def F_Q0L:List D->R:=Dv.fn 2 b_Q0L
noncomputable def b_Q0U_t2:Dv.SS :=
 (sRetO 3)
noncomputable def b_Q0U_t1:Dv.SS :=
 (sCons (sTryAs ["WheelError","NoWheel","NoBeat","NoPart","NoRule","NoWindow","NoPair","NoText","NoName","NoNumber","NoDeed","TooMany"] 4 "WheelError" (sExpr (eCall F_Q0B (lCons (eVar 0) (lCons (eVar 1) (lCons (eVar 2) lNil))))) (sSet 3 (eCall F_Q0L (lCons (eVar 4) lNil)))) b_Q0U_t2)
noncomputable def b_Q0U:Dv.SS :=
 (sCons (sSet 3 (eLst lNil)) b_Q0U_t1)
noncomputable def F_Q0U:List D->R:=Dv.fn 5 b_Q0U
noncomputable def b_Q0O_t1:Dv.SS :=
 (sRet (eIx (eVar 3) (eOp .mod (eVar 2) (eInt 5))))
noncomputable def b_Q0O:Dv.SS :=
 (sCons (sSetG [0,1] 3 (eLst (lCons (eLst lNil) (lCons (eOp .add (eVar 1) (eLst (lCons (eVar 0) lNil))) (lCons (eOp .add (eVar 1) (eLst (lCons (eIx (eVar 1) (eNeg (eInt 1))) lNil))) (lCons (eOp .add (eLst (lCons (eOp .sub (eOp .sub (eIx (eVar 1) (eInt 0)) (eVar 0)) (eInt 1)) lNil)) (eVar 1)) (lCons (eOp .add (eVar 1) (eLst (lCons (eIx (eVar 1) (eInt 0)) lNil))) lNil))))))) b_Q0O_t1)
noncomputable def F_Q0O:List D->R:=Dv.fn 4 b_Q0O
noncomputable def b_Q0J_l1:Dv.SS :=
 (sCons (sIf (eCm .ne (eCall F_Q0U (lCons (eVar 7) (lCons (eVar 5) (lCons (eIx (eLst (lCons (eVar 3) (lCons (eVar 6) lNil))) (eOp .mod (eOp .fdiv (eVar 4) (eInt 64)) (eInt 2))) lNil)))) (eLst (lCons (eBl false) (lCons (eBl true) (lCons (eBl false) (lCons (eBl false) (lCons (eBl false) (lCons (eBl true) lNil)))))))) (sRet (eBl false)) sNil) (sIf (eCm .ne (eCall F_Q0U (lCons (eVar 7) (lCons (eVar 1) (lCons (eVar 6) lNil)))) (eLst (lCons (eBl false) (lCons (eBl false) (lCons (eBl true) (lCons (eBl false) (lCons (eBl false) (lCons (eBl true) lNil)))))))) (sRet (eBl false)) sNil))
noncomputable def b_Q0J_t7:Dv.SS :=
 (sRet (eAnd (eCm .eq (eVar 3) (eVar 2)) (eCm .eq (eCall F_Q10 (lCons (eVar 1) (lCons (eSlice (eVar 2) none (some (eInt 1))) lNil))) (eB1 Dv.listRangeD (eVar 1)))))
noncomputable def b_Q0J_t6:Dv.SS :=
 (sCons (sIf (eAnd (eCall F_Q0G (lCons (eVar 1) (lCons (eVar 2) lNil))) (eCall F_Q0V (lCons (eVar 1) (lCons (eVar 2) lNil)))) (sIf (eNot (eB1 Dv.isListD (eCall F_Q10 (lCons (eVar 1) (lCons (eVar 3) lNil))))) (sRet (eBl false)) sNil) (sIf (eCm .ne (eCall F_Q0U (lCons (eInt 2) (lCons (eVar 1) (lCons (eVar 3) lNil)))) (eLst (lCons (eBl true) (lCons (eBl false) (lCons (eBl false) (lCons (eBl false) (lCons (eBl false) (lCons (eBl true) lNil)))))))) (sRet (eBl false)) sNil)) b_Q0J_t7)
noncomputable def b_Q0J_t5:Dv.SS :=
 (sCons (sFor [] 7 (iRange (eInt 3)) b_Q0J_l1) b_Q0J_t6)
noncomputable def b_Q0J_t4:Dv.SS :=
 (sCons (sSetG [1,2,4] 6 (eCall F_Q0O (lCons (eVar 1) (lCons (eVar 2) (lCons (eOp .fdiv (eVar 4) (eInt 4)) lNil))))) b_Q0J_t5)
noncomputable def b_Q0J_t3:Dv.SS :=
 (sCons (sSet 5 (eIx (eLst (lCons (eInt 0) (lCons (eInt 61) (lCons (eOp .add (eInt 61) (eVar 4)) (lCons (eOp .sub (eNeg (eInt 1)) (eVar 4)) lNil))))) (eOp .mod (eVar 4) (eInt 4)))) b_Q0J_t4)
noncomputable def b_Q0J_t2:Dv.SS :=
 (sCons (sSet 4 (eOp .mod (eOp .mul (eCall F_Q0E (lCons (eVar 0) (lCons (eInt 10) lNil))) (eInt 48271)) (eInt 2147483647))) b_Q0J_t3)
noncomputable def b_Q0J_t1:Dv.SS :=
 (sCons (sSet 3 (eB1 Dv.listD (eVar 2))) b_Q0J_t2)
noncomputable def b_Q0J:Dv.SS :=
 (sCons (sUnpackL [0] [1,2] (eCall F_Q0D (lCons (eVar 0) lNil))) b_Q0J_t1)
noncomputable def F_Q0J:List D->R:=Dv.fn 8 b_Q0J
end Cw
set_option maxHeartbeats 4000000
namespace Lk34
open PySem PySem.Spec PyProof.Rows L2 Sd Cw
open Dv (D R RL EE EL EI RI Sl Out SS)
noncomputable def top (i:Nat):Stmt:=PySem.Challenge.pw_canonwheel_k34_no_rule.main.body.getD i (.Pass ⟨0,0,0,0⟩)
section
variable {P:Program}{w:World}{K:PySem.W.Frag}{mg:Str->Option Value}{base:Heap}{ad:String->Option Addr}
noncomputable abbrev s_Q04:Stmt:=top 15
theorem sc_check_wheel:FnScope ["length"] ["length"] (ai s_Q04):=⟨rfl,rfl,rfl,by decide +kernel,rfl,by decide +kernel,by decide +kernel⟩
theorem ok_Q04 {f:Addr}{fd:FuncData}(d:Df K mg "check_wheel" s_Q04 ["length"] f fd)(xa:XAll K mg ad){C_8:Addr}(h_8:ad "NoWheel"=some C_8){t_LONGEST:Tok}(n_LONGEST:mg "LONGEST"=some (.int 60 t_LONGEST)) :
  FnOk P w K mg base (CXe P w) 1 f fd ["length"] (spD K (al ad) F_Q04 1):=by
 have nd:=sc_check_wheel.nd
 refine Df.is cxe_ok ["length"] 0 b_Q04 d sc_check_wheel rfl rfl rfl λ cdv A outer s H E hr=>?_
 exact(ao (bc (gG (kB (ji (aa 0) ag) (cF _ (jg (aa 0) (s0 rfl n_LONGEST))))) (cX (xa.cl _ _ h_8).1 (cC h_8) rfl) aT))
noncomputable abbrev s_Q03:Stmt:=top 16
theorem sc_check_rising:FnScope ["numbers","end","before","number"] ["numbers","end"] (ai s_Q03):=⟨rfl,rfl,rfl,by decide +kernel,rfl,by decide +kernel,by decide +kernel⟩
theorem ok_Q03 {f:Addr}{fd:FuncData}(d:Df K mg "check_rising" s_Q03 ["numbers","end"] f fd)(xa:XAll K mg ad){C_0:Addr}(h_0:ad "NoBeat"=some C_0)(z_len:mg "len"=none) :
  FnOk P w K mg base (CXe P w) 1 f fd ["numbers","end"] (spD K (al ad) F_Q03 2):=by
 have nd:=sc_check_rising.nd
 refine Df.is cxe_ok ["numbers","end","before","number"] 0 b_Q03 d sc_check_rising rfl rfl rfl λ cdv A outer s H E hr=>?_
 exact(ah (bc (bG (bN z_len rfl (aa 0)) ag) (cX (xa.cl _ _ h_0).1 (cC h_0) rfl) aT) (ah (aq (i:=2) (dm ag) nd rfl (Or.inl rfl)) (ao (bn [0] (i:=3) (aQ (aa 0)) (ah (bc (gG (kB (uU (aa 3) (aa 2)) (cF _ (xB (aa 3) (aa 1))))) (cX (xa.cl _ _ h_0).1 (cC h_0) rfl) aT) (ao (fm [3] (i:=2) (aa 3) nd rfl (Or.inl rfl)))) nd rfl (Or.inl rfl)))))
noncomputable abbrev s_Q02:Stmt:=top 17
theorem sc_check_beat:FnScope ["length","beat"] ["length","beat"] (ai s_Q02):=⟨rfl,rfl,rfl,by decide +kernel,rfl,by decide +kernel,by decide +kernel⟩
theorem ok_Q02 {f:Addr}{fd:FuncData}(d:Df K mg "check_beat" s_Q02 ["length","beat"] f fd){f_Q04:Addr}{fd_check_wheel:FuncData}(d_Q04:Df K mg "check_wheel" s_Q04 ["length"] f_Q04 fd_check_wheel)(o_Q04:FnOk P w K mg base (CXe P w) 1 f_Q04 fd_check_wheel ["length"] (spD K (al ad) F_Q04 1)){f_Q03:Addr}{fd_check_rising:FuncData}(d_Q03:Df K mg "check_rising" s_Q03 ["numbers","end"] f_Q03 fd_check_rising)(o_Q03:FnOk P w K mg base (CXe P w) 1 f_Q03 fd_check_rising ["numbers","end"] (spD K (al ad) F_Q03 2)) :
  FnOk P w K mg base (CXe P w) 2 f fd ["length","beat"] (spD K (al ad) F_Q02 2):=by
 have nd:=sc_check_beat.nd
 refine Df.is cxe_ok ["length","beat"] 1 b_Q02 d sc_check_beat rfl rfl rfl λ cdv A outer s H E hr=>?_
 exact(ah (dh (av d_Q04 o_Q04 hr (by decide) rfl (ac (aa 0) aj))) (ao (dh (av d_Q03 o_Q03 hr (by decide) rfl (ac (aa 1) (ac (aa 0) aj))))))
noncomputable abbrev s_Q0Z:Stmt:=top 18
theorem sc_made_beat:FnScope ["length","numbers","beat"] ["length","numbers"] (ai s_Q0Z):=⟨rfl,rfl,rfl,by decide +kernel,rfl,by decide +kernel,by decide +kernel⟩
theorem ok_Q0Z {f:Addr}{fd:FuncData}(d:Df K mg "made_beat" s_Q0Z ["length","numbers"] f fd){f_Q04:Addr}{fd_check_wheel:FuncData}(d_Q04:Df K mg "check_wheel" s_Q04 ["length"] f_Q04 fd_check_wheel)(o_Q04:FnOk P w K mg base (CXe P w) 1 f_Q04 fd_check_wheel ["length"] (spD K (al ad) F_Q04 1)){f_Q02:Addr}{fd_check_beat:FuncData}(d_Q02:Df K mg "check_beat" s_Q02 ["length","beat"] f_Q02 fd_check_beat)(o_Q02:FnOk P w K mg base (CXe P w) 2 f_Q02 fd_check_beat ["length","beat"] (spD K (al ad) F_Q02 2))(z_sorted:mg "sorted"=none) :
  FnOk P w K mg base (CXe P w) 3 f fd ["length","numbers"] (spD K (al ad) F_Q0Z 2):=by
 have nd:=sc_made_beat.nd
 refine Df.is cxe_ok ["length","numbers","beat"] 2 b_Q0Z d sc_made_beat rfl rfl rfl λ cdv A outer s H E hr=>?_
 exact(ah (dh (av d_Q04 o_Q04 hr (by decide) rfl (ac (aa 0) aj))) (ah (aq (i:=2) (da z_sorted rfl (bg (fs:=["length"]) (is:=[0]) (fe:=(Dv.eOp .mod (Dv.eVar 0) (Dv.eVar 1))) (fc:=(Dv.eBl true)) (aH (fsc:=ai s_Q0Z) (N:=["length","numbers","beat"]) rfl rfl (by decide +kernel)) (aQ (aa 1)) (λ cl L s₀ H₀ ex=>(az (aa 0) (aa 1))) (λ cl L s₀ H₀ ex=>cD))) nd rfl (Or.inl rfl)) (ah (dh (av d_Q02 o_Q02 hr (by decide) rfl (ac (aa 0) (ac (aa 2) aj)))) (ao (b9 2)))))
noncomputable abbrev s_Q01:Stmt:=top 20
theorem sc_beat_sum:FnScope ["beat","numbers","place"] ["beat"] (ai s_Q01):=⟨rfl,rfl,rfl,by decide +kernel,rfl,by decide +kernel,by decide +kernel⟩
theorem ok_Q01 {f:Addr}{fd:FuncData}(d:Df K mg "beat_sum" s_Q01 ["beat"] f fd)(z_len:mg "len"=none) :
  FnOk P w K mg base (CXe P w) 1 f fd ["beat"] (spD K (al ad) F_Q01 1):=by
 have nd:=sc_beat_sum.nd
 refine Df.is cxe_ok ["beat","numbers","place"] 0 b_Q01 d sc_beat_sum rfl rfl rfl λ cdv A outer s H E hr=>?_
 exact(ah (bc (bG (bN z_len rfl (aa 0)) ag) (ao (aK (aC aj))) aT) (ah (aq (i:=1) (aR (aC (ac ag aj)) (aA (be (aa 0) (dm ag)) ag)) nd rfl (Or.inl rfl)) (ah (bn [0] (i:=2) (aQ (aa 0)) (ao (md (i:=1) ag (aa 2))) nd rfl (Or.inl rfl)) (ao (b9 1)))))
noncomputable abbrev s_Q1A:Stmt:=top 21
theorem sc_without_last_noughts:FnScope ["numbers","size"] ["numbers"] (ai s_Q1A):=⟨rfl,rfl,rfl,by decide +kernel,rfl,by decide +kernel,by decide +kernel⟩
theorem ok_Q1A {f:Addr}{fd:FuncData}(d:Df K mg "without_last_noughts" s_Q1A ["numbers"] f fd)(z_len:mg "len"=none) :
  FnOk P w K mg base (CXe P w) 1 f fd ["numbers"] (spD K (al ad) F_Q1A 1):=by
 have nd:=sc_without_last_noughts.nd
 refine Df.is cxe_ok ["numbers","size"] 0 b_Q1A d sc_without_last_noughts rfl rfl rfl λ cdv A outer s H E hr=>?_
 exact(ah (aq (i:=1) (bN z_len rfl (aa 0)) nd rfl (Or.inl rfl)) (ah (ip 100000 (gG (eA (jg (aa 1) ag) (cF _ (bG (be (aa 0) (b8 (aa 1) ag)) ag)))) (ao (pA (i:=1) ag nd rfl (Or.inl rfl)))) (ao (aK (bK (aa 0) cb (cc (aa 1)))))))
noncomputable abbrev s_Q18:Stmt:=top 22
theorem sc_sum_divided:FnScope ["one","other","last","rest","share","low","high","number"] ["one","other"] (ai s_Q18):=⟨rfl,rfl,rfl,by decide +kernel,rfl,by decide +kernel,by decide +kernel⟩
theorem ok_Q18 {f:Addr}{fd:FuncData}(d:Df K mg "sum_divided" s_Q18 ["one","other"] f fd){f_Q1A:Addr}{fd_without_last_noughts:FuncData}(d_Q1A:Df K mg "without_last_noughts" s_Q1A ["numbers"] f_Q1A fd_without_last_noughts)(o_Q1A:FnOk P w K mg base (CXe P w) 1 f_Q1A fd_without_last_noughts ["numbers"] (spD K (al ad) F_Q1A 1))(xa:XAll K mg ad){C_5:Addr}(h_5:ad "NoPart"=some C_5)(z_len:mg "len"=none)(z_list:mg "list"=none)(z_range:mg "range"=none)(z_enumerate:mg "enumerate"=none) :
  FnOk P w K mg base (CXe P w) 2 f fd ["one","other"] (spD K (al ad) F_Q18 2):=by
 have nd:=sc_sum_divided.nd
 refine Df.is cxe_ok ["one","other","last","rest","share","low","high","number"] 1 b_Q18 d sc_sum_divided rfl rfl rfl λ cdv A outer s H E hr=>?_
 exact(ah (bc (gG (kB (bG (bN z_len rfl (aa 1)) ag) (cF _ (kD (be (aa 1) (dm ag)) ag)))) (cX (xa.cl _ _ h_5).1 (cC h_5) rfl) aT) (ah (aq (i:=2) (b8 (bN z_len rfl (aa 1)) ag) nd rfl (Or.inl rfl)) (ah (aq (i:=3) (mY z_list rfl (aa 0)) nd rfl (Or.inl rfl)) (ah (aq (i:=4) (aR (aC (ac ag aj)) (b8 (bN z_len rfl (aa 0)) (aa 2))) nd rfl (Or.inl rfl)) (ah (uA (i:=5) (uB rfl z_range (b8 (bN z_len rfl (aa 4)) ag) (dm ag) (dm ag)) (ah (md (i:=4) (be (aa 3) (aA (aa 5) (aa 2))) (aa 5)) (ao (nA [1] (uP rfl z_enumerate (aa 1)) (vF (xs:=[6,7]) (bE (i:=6) (bE (i:=7) il nd rfl (Or.inl rfl)) nd rfl (Or.inl rfl)) rfl) (ao (oW (i:=3) (aR (be (aa 4) (aa 5)) (aa 7)) (aA (aa 5) (aa 6))))))) nd rfl (Or.inl rfl)) (ao (uD (i:=4) (av d_Q1A o_Q1A hr (by decide) rfl (ac (bK (aa 3) cb (cc (aa 2))) aj)))))))))
noncomputable abbrev s_Q05:Stmt:=top 25
theorem sc_divisors:FnScope ["number"] ["number"] (ai s_Q05):=⟨rfl,rfl,rfl,by decide +kernel,rfl,by decide +kernel,by decide +kernel⟩
theorem ok_Q05 {f:Addr}{fd:FuncData}(d:Df K mg "divisors" s_Q05 ["number"] f fd)(xa:XAll K mg ad){C_5:Addr}(h_5:ad "NoPart"=some C_5)(z_range:mg "range"=none){t_LAST_PART:Tok}(n_LAST_PART:mg "LAST_PART"=some (.int 60 t_LAST_PART)) :
  FnOk P w K mg base (CXe P w) 1 f fd ["number"] (spD K (al ad) F_Q05 1):=by
 have nd:=sc_divisors.nd
 refine Df.is cxe_ok ["number"] 0 b_Q05 d sc_divisors rfl rfl rfl λ cdv A outer s H E hr=>?_
 exact(ah (bc (gG (kB (ji (aa 0) ag) (cF _ (jg (aa 0) (s0 rfl n_LAST_PART))))) (cX (xa.cl _ _ h_5).1 (cC h_5) rfl) aT) (ao (aK (bg (fs:=["number"]) (is:=[0]) (fe:=(Dv.eVar 0)) (fc:=(Dv.eCm .eq (Dv.eOp .mod (Dv.eVar 1) (Dv.eVar 0)) (Dv.eInt 0))) (aH (fsc:=ai s_Q05) (N:=["number"]) rfl rfl (by decide +kernel)) (d8 rfl z_range ag (aA (aa 0) ag)) (λ cl L s₀ H₀ ex=>(aa 0)) (λ cl L s₀ H₀ ex=>(dq (bG (az (aa 1) (aa 0)) ag)))))))
noncomputable abbrev s_Q12:Stmt:=top 26
theorem sc_parts_of_divisors:FnScope ["number","found","divisor","left","ahead"] ["number"] (ai s_Q12):=⟨rfl,rfl,rfl,by decide +kernel,rfl,by decide +kernel,by decide +kernel⟩
theorem ok_Q12 {f:Addr}{fd:FuncData}(d:Df K mg "parts_of_divisors" s_Q12 ["number"] f fd){f_Q05:Addr}{fd_divisors:FuncData}(d_Q05:Df K mg "divisors" s_Q05 ["number"] f_Q05 fd_divisors)(o_Q05:FnOk P w K mg base (CXe P w) 1 f_Q05 fd_divisors ["number"] (spD K (al ad) F_Q05 1)){f_Q18:Addr}{fd_sum_divided:FuncData}(d_Q18:Df K mg "sum_divided" s_Q18 ["one","other"] f_Q18 fd_sum_divided)(o_Q18:FnOk P w K mg base (CXe P w) 2 f_Q18 fd_sum_divided ["one","other"] (spD K (al ad) F_Q18 2)) :
  FnOk P w K mg base (CXe P w) 3 f fd ["number"] (spD K (al ad) F_Q12 1):=by
 have nd:=sc_parts_of_divisors.nd
 refine Df.is cxe_ok ["number","found","divisor","left","ahead"] 2 b_Q12 d sc_parts_of_divisors rfl rfl rfl λ cdv A outer s H E hr=>?_
 exact(ah (mJ (i:=1) qN nd rfl (Or.inl rfl)) (ah (bn [0] (i:=2) (aQ (av d_Q05 o_Q05 hr (by decide) rfl (ac (aa 0) aj))) (ah (aq (i:=3) (aA (aA (aC (ac (dm ag) aj)) (aR (aC (ac ag aj)) (b8 (aa 2) ag))) (aC (ac ag aj))) nd rfl (Or.inl rfl)) (ah (bn [2] (i:=4) (aQ (bK (av d_Q05 o_Q05 hr (by decide) rfl (ac (aa 2) aj)) cb (cc (dm ag)))) (ao (aq (i:=3) (be (av d_Q18 o_Q18 hr (by decide) rfl (ac (aa 3) (ac (qd (aa 1) (aa 4)) aj))) ag) nd rfl (Or.inl rfl))) nd rfl (Or.inl rfl)) (ao (sw (i:=1) (y:=3) (aa 2))))) nd rfl (Or.inl rfl)) (ao (b9 1))))
noncomputable abbrev s_Q0Y:Stmt:=top 27
theorem sc_leaves_nought:FnScope ["beat","divisor"] ["beat","divisor"] (ai s_Q0Y):=⟨rfl,rfl,rfl,by decide +kernel,rfl,by decide +kernel,by decide +kernel⟩
theorem ok_Q0Y {f:Addr}{fd:FuncData}(d:Df K mg "leaves_nought" s_Q0Y ["beat","divisor"] f fd){f_Q18:Addr}{fd_sum_divided:FuncData}(d_Q18:Df K mg "sum_divided" s_Q18 ["one","other"] f_Q18 fd_sum_divided)(o_Q18:FnOk P w K mg base (CXe P w) 2 f_Q18 fd_sum_divided ["one","other"] (spD K (al ad) F_Q18 2)){f_Q01:Addr}{fd_beat_sum:FuncData}(d_Q01:Df K mg "beat_sum" s_Q01 ["beat"] f_Q01 fd_beat_sum)(o_Q01:FnOk P w K mg base (CXe P w) 1 f_Q01 fd_beat_sum ["beat"] (spD K (al ad) F_Q01 1)) :
  FnOk P w K mg base (CXe P w) 3 f fd ["beat","divisor"] (spD K (al ad) F_Q0Y 2):=by
 have nd:=sc_leaves_nought.nd
 refine Df.is cxe_ok ["beat","divisor"] 2 b_Q0Y d sc_leaves_nought rfl rfl rfl λ cdv A outer s H E hr=>?_
 exact(ao (aK (gM (be (av d_Q18 o_Q18 hr (by decide) rfl (ac (av d_Q01 o_Q01 hr (by decide) rfl (ac (aa 0) aj)) (ac (aa 1) aj))) ag) (aC aj))))
noncomputable abbrev s_Q11:Stmt:=top 28
theorem sc_parts_had:FnScope ["length","beat","found"] ["length","beat"] (ai s_Q11):=⟨rfl,rfl,rfl,by decide +kernel,rfl,by decide +kernel,by decide +kernel⟩
theorem ok_Q11 {f:Addr}{fd:FuncData}(d:Df K mg "parts_had" s_Q11 ["length","beat"] f fd){f_Q02:Addr}{fd_check_beat:FuncData}(d_Q02:Df K mg "check_beat" s_Q02 ["length","beat"] f_Q02 fd_check_beat)(o_Q02:FnOk P w K mg base (CXe P w) 2 f_Q02 fd_check_beat ["length","beat"] (spD K (al ad) F_Q02 2)){f_Q12:Addr}{fd_parts_of_divisors:FuncData}(d_Q12:Df K mg "parts_of_divisors" s_Q12 ["number"] f_Q12 fd_parts_of_divisors)(o_Q12:FnOk P w K mg base (CXe P w) 3 f_Q12 fd_parts_of_divisors ["number"] (spD K (al ad) F_Q12 1)){f_Q05:Addr}{fd_divisors:FuncData}(d_Q05:Df K mg "divisors" s_Q05 ["number"] f_Q05 fd_divisors)(o_Q05:FnOk P w K mg base (CXe P w) 1 f_Q05 fd_divisors ["number"] (spD K (al ad) F_Q05 1)){f_Q0Y:Addr}{fd_leaves_nought:FuncData}(d_Q0Y:Df K mg "leaves_nought" s_Q0Y ["beat","divisor"] f_Q0Y fd_leaves_nought)(o_Q0Y:FnOk P w K mg base (CXe P w) 3 f_Q0Y fd_leaves_nought ["beat","divisor"] (spD K (al ad) F_Q0Y 2)) :
  FnOk P w K mg base (CXe P w) 4 f fd ["length","beat"] (spD K (al ad) F_Q11 2):=by
 have nd:=sc_parts_had.nd
 refine Df.is cxe_ok ["length","beat","found"] 3 b_Q11 d sc_parts_had rfl rfl rfl λ cdv A outer s H E hr=>?_
 exact(ah (dh (av d_Q02 o_Q02 hr (by decide) rfl (ac (aa 0) (ac (aa 1) aj)))) (ah (mJ (i:=2) (av d_Q12 o_Q12 hr (by decide) rfl (ac (aa 0) aj)) nd rfl (Or.inr rfl)) (ao (aK (bg (fs:=["beat","found"]) (is:=[1,2]) (fe:=(Dv.eVar 0)) (fc:=(Dv.eCall F_Q0Y (Dv.lCons (Dv.eVar 1) (Dv.lCons (Dv.eDix (Dv.eVar 2) (Dv.eVar 0)) Dv.lNil)))) (aH (fsc:=ai s_Q11) (N:=["length","beat","found"]) rfl rfl (by decide +kernel)) (aQ (bK (av d_Q05 o_Q05 hr (by decide) rfl (ac (aa 0) aj)) (cc ag) cb)) (λ cl L s₀ H₀ ex=>(aa 0)) (λ cl L s₀ H₀ ex=>(dq (cR (av d_Q0Y o_Q0Y hr (by decide) rfl (ac (aa 1) (ac (qd (aa 2) (aa 0)) aj)))))))))))
noncomputable abbrev s_Q14:Stmt:=top 30
theorem sc_prime_of:FnScope ["number"] ["number"] (ai s_Q14):=⟨rfl,rfl,rfl,by decide +kernel,rfl,by decide +kernel,by decide +kernel⟩
theorem ok_Q14 {f:Addr}{fd:FuncData}(d:Df K mg "prime_of" s_Q14 ["number"] f fd){f_Q05:Addr}{fd_divisors:FuncData}(d_Q05:Df K mg "divisors" s_Q05 ["number"] f_Q05 fd_divisors)(o_Q05:FnOk P w K mg base (CXe P w) 1 f_Q05 fd_divisors ["number"] (spD K (al ad) F_Q05 1)) :
  FnOk P w K mg base (CXe P w) 2 f fd ["number"] (spD K (al ad) F_Q14 1):=by
 have nd:=sc_prime_of.nd
 refine Df.is cxe_ok ["number"] 1 b_Q14 d sc_prime_of rfl rfl rfl λ cdv A outer s H E hr=>?_
 exact(ao (aK (be (av d_Q05 o_Q05 hr (by decide) rfl (ac (aa 0) aj)) ag)))
noncomputable abbrev s_Q07:Stmt:=top 31
theorem sc_has_one_prime:FnScope ["number","prime"] ["number"] (ai s_Q07):=⟨rfl,rfl,rfl,by decide +kernel,rfl,by decide +kernel,by decide +kernel⟩
theorem ok_Q07 {f:Addr}{fd:FuncData}(d:Df K mg "has_one_prime" s_Q07 ["number"] f fd){f_Q14:Addr}{fd_prime_of:FuncData}(d_Q14:Df K mg "prime_of" s_Q14 ["number"] f_Q14 fd_prime_of)(o_Q14:FnOk P w K mg base (CXe P w) 2 f_Q14 fd_prime_of ["number"] (spD K (al ad) F_Q14 1)){f_Q05:Addr}{fd_divisors:FuncData}(d_Q05:Df K mg "divisors" s_Q05 ["number"] f_Q05 fd_divisors)(o_Q05:FnOk P w K mg base (CXe P w) 1 f_Q05 fd_divisors ["number"] (spD K (al ad) F_Q05 1))(z_all:mg "all"=none) :
  FnOk P w K mg base (CXe P w) 3 f fd ["number"] (spD K (al ad) F_Q07 1):=by
 have nd:=sc_has_one_prime.nd
 refine Df.is cxe_ok ["number","prime"] 2 b_Q07 d sc_has_one_prime rfl rfl rfl λ cdv A outer s H E hr=>?_
 exact(ah (aq (i:=1) (av d_Q14 o_Q14 hr (by decide) rfl (ac (aa 0) aj)) nd rfl (Or.inr rfl)) (ao (aK (qS z_all rfl (bg (fs:=["prime"]) (is:=[1]) (fe:=(Dv.eCm .eq (Dv.eOp .mod (Dv.eVar 0) (Dv.eVar 1)) (Dv.eInt 0))) (fc:=(Dv.eBl true)) (aH (fsc:=ai s_Q07) (N:=["number","prime"]) rfl rfl (by decide +kernel)) (aQ (bK (av d_Q05 o_Q05 hr (by decide) rfl (ac (aa 0) aj)) (cc ag) cb)) (λ cl L s₀ H₀ ex=>(gM (az (aa 0) (aa 1)) ag)) (λ cl L s₀ H₀ ex=>cD))))))
noncomputable abbrev s_Q15:Stmt:=top 32
theorem sc_prime_powers:FnScope ["length"] ["length"] (ai s_Q15):=⟨rfl,rfl,rfl,by decide +kernel,rfl,by decide +kernel,by decide +kernel⟩
theorem ok_Q15 {f:Addr}{fd:FuncData}(d:Df K mg "prime_powers" s_Q15 ["length"] f fd){f_Q04:Addr}{fd_check_wheel:FuncData}(d_Q04:Df K mg "check_wheel" s_Q04 ["length"] f_Q04 fd_check_wheel)(o_Q04:FnOk P w K mg base (CXe P w) 1 f_Q04 fd_check_wheel ["length"] (spD K (al ad) F_Q04 1)){f_Q05:Addr}{fd_divisors:FuncData}(d_Q05:Df K mg "divisors" s_Q05 ["number"] f_Q05 fd_divisors)(o_Q05:FnOk P w K mg base (CXe P w) 1 f_Q05 fd_divisors ["number"] (spD K (al ad) F_Q05 1)){f_Q07:Addr}{fd_has_one_prime:FuncData}(d_Q07:Df K mg "has_one_prime" s_Q07 ["number"] f_Q07 fd_has_one_prime)(o_Q07:FnOk P w K mg base (CXe P w) 3 f_Q07 fd_has_one_prime ["number"] (spD K (al ad) F_Q07 1)) :
  FnOk P w K mg base (CXe P w) 4 f fd ["length"] (spD K (al ad) F_Q15 1):=by
 have nd:=sc_prime_powers.nd
 refine Df.is cxe_ok ["length"] 3 b_Q15 d sc_prime_powers rfl rfl rfl λ cdv A outer s H E hr=>?_
 exact(ah (dh (av d_Q04 o_Q04 hr (by decide) rfl (ac (aa 0) aj))) (ao (aK (bg (fs:=[]) (is:=[]) (fe:=(Dv.eVar 0)) (fc:=(Dv.eCall F_Q07 (Dv.lCons (Dv.eVar 0) Dv.lNil))) (aH (fsc:=ai s_Q15) (N:=["length"]) rfl rfl (by decide +kernel)) (aQ (bK (av d_Q05 o_Q05 hr (by decide) rfl (ac (aa 0) aj)) (cc ag) cb)) (λ cl L s₀ H₀ ex=>(aa 0)) (λ cl L s₀ H₀ ex=>(dq (cR (av d_Q07 o_Q07 hr (by decide) rfl (ac (aa 0) aj)))))))))
noncomputable abbrev s_Q13:Stmt:=top 34
theorem sc_powers_had:FnScope ["length","beat","had"] ["length","beat"] (ai s_Q13):=⟨rfl,rfl,rfl,by decide +kernel,rfl,by decide +kernel,by decide +kernel⟩
theorem ok_Q13 {f:Addr}{fd:FuncData}(d:Df K mg "powers_had" s_Q13 ["length","beat"] f fd){f_Q11:Addr}{fd_parts_had:FuncData}(d_Q11:Df K mg "parts_had" s_Q11 ["length","beat"] f_Q11 fd_parts_had)(o_Q11:FnOk P w K mg base (CXe P w) 4 f_Q11 fd_parts_had ["length","beat"] (spD K (al ad) F_Q11 2)){f_Q15:Addr}{fd_prime_powers:FuncData}(d_Q15:Df K mg "prime_powers" s_Q15 ["length"] f_Q15 fd_prime_powers)(o_Q15:FnOk P w K mg base (CXe P w) 4 f_Q15 fd_prime_powers ["length"] (spD K (al ad) F_Q15 1)) :
  FnOk P w K mg base (CXe P w) 5 f fd ["length","beat"] (spD K (al ad) F_Q13 2):=by
 have nd:=sc_powers_had.nd
 refine Df.is cxe_ok ["length","beat","had"] 4 b_Q13 d sc_powers_had rfl rfl rfl λ cdv A outer s H E hr=>?_
 exact(ah (aq (i:=2) (av d_Q11 o_Q11 hr (by decide) rfl (ac (aa 0) (ac (aa 1) aj))) nd rfl (Or.inr rfl)) (ao (aK (bg (fs:=["had"]) (is:=[2]) (fe:=(Dv.eVar 0)) (fc:=(Dv.eCm .isin (Dv.eVar 0) (Dv.eVar 1))) (aH (fsc:=ai s_Q13) (N:=["length","beat","had"]) rfl rfl (by decide +kernel)) (aQ (av d_Q15 o_Q15 hr (by decide) rfl (ac (aa 0) aj))) (λ cl L s₀ H₀ ex=>(aa 0)) (λ cl L s₀ H₀ ex=>(dq (uT (aa 0) (aa 1))))))))
noncomputable abbrev s_Q06:Stmt:=top 35
theorem sc_first_rule:FnScope ["length","beat","product","power"] ["length","beat"] (ai s_Q06):=⟨rfl,rfl,rfl,by decide +kernel,rfl,by decide +kernel,by decide +kernel⟩
theorem ok_Q06 {f:Addr}{fd:FuncData}(d:Df K mg "first_rule" s_Q06 ["length","beat"] f fd){f_Q13:Addr}{fd_powers_had:FuncData}(d_Q13:Df K mg "powers_had" s_Q13 ["length","beat"] f_Q13 fd_powers_had)(o_Q13:FnOk P w K mg base (CXe P w) 5 f_Q13 fd_powers_had ["length","beat"] (spD K (al ad) F_Q13 2)){f_Q14:Addr}{fd_prime_of:FuncData}(d_Q14:Df K mg "prime_of" s_Q14 ["number"] f_Q14 fd_prime_of)(o_Q14:FnOk P w K mg base (CXe P w) 2 f_Q14 fd_prime_of ["number"] (spD K (al ad) F_Q14 1))(z_len:mg "len"=none) :
  FnOk P w K mg base (CXe P w) 6 f fd ["length","beat"] (spD K (al ad) F_Q06 2):=by
 have nd:=sc_first_rule.nd
 refine Df.is cxe_ok ["length","beat","product","power"] 5 b_Q06 d sc_first_rule rfl rfl rfl λ cdv A outer s H E hr=>?_
 exact(ah (aq (i:=2) ag nd rfl (Or.inl rfl)) (ah (bn [0,1] (i:=3) (aQ (av d_Q13 o_Q13 hr (by decide) rfl (ac (aa 0) (ac (aa 1) aj)))) (ao (oJ (i:=2) (av d_Q14 o_Q14 hr (by decide) rfl (ac (aa 3) aj)) nd rfl (Or.inl rfl))) nd rfl (Or.inl rfl)) (ao (aK (gM (aa 2) (bN z_len rfl (aa 1)))))))
noncomputable abbrev s_Q19:Stmt:=top 36
theorem sc_unlike_products:FnScope ["powers","products","power","prime"] ["powers"] (ai s_Q19):=⟨rfl,rfl,rfl,by decide +kernel,rfl,by decide +kernel,by decide +kernel⟩
theorem ok_Q19 {f:Addr}{fd:FuncData}(d:Df K mg "unlike_products" s_Q19 ["powers"] f fd){f_Q14:Addr}{fd_prime_of:FuncData}(d_Q14:Df K mg "prime_of" s_Q14 ["number"] f_Q14 fd_prime_of)(o_Q14:FnOk P w K mg base (CXe P w) 2 f_Q14 fd_prime_of ["number"] (spD K (al ad) F_Q14 1)) :
  FnOk P w K mg base (CXe P w) 3 f fd ["powers"] (spD K (al ad) F_Q19 1):=by
 have nd:=sc_unlike_products.nd
 refine Df.is cxe_ok ["powers","products","power","prime"] 2 b_Q19 d sc_unlike_products rfl rfl rfl λ cdv A outer s H E hr=>?_
 exact(ah (aq (i:=1) (aC (ac ag aj)) nd rfl (Or.inl rfl)) (ah (bn [0] (i:=2) (aQ (aa 0)) (ah (aq (i:=3) (av d_Q14 o_Q14 hr (by decide) rfl (ac (aa 2) aj)) nd rfl (Or.inr rfl)) (ao (aq (i:=1) (aA (aa 1) (bg (fs:=["power","prime"]) (is:=[2,3]) (fe:=(Dv.eOp .mul (Dv.eVar 0) (Dv.eVar 1))) (fc:=(Dv.eCm .ne (Dv.eOp .mod (Dv.eVar 0) (Dv.eVar 2)) (Dv.eInt 0))) (aH (fsc:=ai s_Q19) (N:=["powers","products","power","prime"]) rfl rfl (by decide +kernel)) (aQ (aa 1)) (λ cl L s₀ H₀ ex=>(aR (aa 0) (aa 1))) (λ cl L s₀ H₀ ex=>(dq (kD (az (aa 0) (aa 2)) ag))))) nd rfl (Or.inl rfl)))) nd rfl (Or.inr rfl)) (ao (b9 1))))
noncomputable abbrev s_Q17:Stmt:=top 37
theorem sc_second_rule:FnScope ["length","beat","had"] ["length","beat"] (ai s_Q17):=⟨rfl,rfl,rfl,by decide +kernel,rfl,by decide +kernel,by decide +kernel⟩
theorem ok_Q17 {f:Addr}{fd:FuncData}(d:Df K mg "second_rule" s_Q17 ["length","beat"] f fd){f_Q11:Addr}{fd_parts_had:FuncData}(d_Q11:Df K mg "parts_had" s_Q11 ["length","beat"] f_Q11 fd_parts_had)(o_Q11:FnOk P w K mg base (CXe P w) 4 f_Q11 fd_parts_had ["length","beat"] (spD K (al ad) F_Q11 2)){f_Q19:Addr}{fd_unlike_products:FuncData}(d_Q19:Df K mg "unlike_products" s_Q19 ["powers"] f_Q19 fd_unlike_products)(o_Q19:FnOk P w K mg base (CXe P w) 3 f_Q19 fd_unlike_products ["powers"] (spD K (al ad) F_Q19 1)){f_Q13:Addr}{fd_powers_had:FuncData}(d_Q13:Df K mg "powers_had" s_Q13 ["length","beat"] f_Q13 fd_powers_had)(o_Q13:FnOk P w K mg base (CXe P w) 5 f_Q13 fd_powers_had ["length","beat"] (spD K (al ad) F_Q13 2))(z_all:mg "all"=none) :
  FnOk P w K mg base (CXe P w) 6 f fd ["length","beat"] (spD K (al ad) F_Q17 2):=by
 have nd:=sc_second_rule.nd
 refine Df.is cxe_ok ["length","beat","had"] 5 b_Q17 d sc_second_rule rfl rfl rfl λ cdv A outer s H E hr=>?_
 exact(ah (aq (i:=2) (av d_Q11 o_Q11 hr (by decide) rfl (ac (aa 0) (ac (aa 1) aj))) nd rfl (Or.inr rfl)) (ao (aK (qS z_all rfl (bg (fs:=["had"]) (is:=[2]) (fe:=(Dv.eCm .isin (Dv.eVar 0) (Dv.eVar 1))) (fc:=(Dv.eBl true)) (aH (fsc:=ai s_Q17) (N:=["length","beat","had"]) rfl rfl (by decide +kernel)) (aQ (bK (av d_Q19 o_Q19 hr (by decide) rfl (ac (av d_Q13 o_Q13 hr (by decide) rfl (ac (aa 0) (ac (aa 1) aj))) aj)) (cc ag) cb)) (λ cl L s₀ H₀ ex=>(xL (aa 0) (aa 1))) (λ cl L s₀ H₀ ex=>cD))))))
noncomputable abbrev s_Q16:Stmt:=top 38
theorem sc_row_of_power:FnScope ["length","power","prime","step"] ["length","power"] (ai s_Q16):=⟨rfl,rfl,rfl,by decide +kernel,rfl,by decide +kernel,by decide +kernel⟩
theorem ok_Q16 {f:Addr}{fd:FuncData}(d:Df K mg "row_of_power" s_Q16 ["length","power"] f fd){f_Q14:Addr}{fd_prime_of:FuncData}(d_Q14:Df K mg "prime_of" s_Q14 ["number"] f_Q14 fd_prime_of)(o_Q14:FnOk P w K mg base (CXe P w) 2 f_Q14 fd_prime_of ["number"] (spD K (al ad) F_Q14 1))(z_range:mg "range"=none) :
  FnOk P w K mg base (CXe P w) 3 f fd ["length","power"] (spD K (al ad) F_Q16 2):=by
 have nd:=sc_row_of_power.nd
 refine Df.is cxe_ok ["length","power","prime","step"] 2 b_Q16 d sc_row_of_power rfl rfl rfl λ cdv A outer s H E hr=>?_
 exact(ah (aq (i:=2) (av d_Q14 o_Q14 hr (by decide) rfl (ac (aa 1) aj)) nd rfl (Or.inr rfl)) (ah (fm [0] (i:=3) (aa 0) nd rfl (Or.inr rfl)) (ah (ip 100000 (bG (az (aa 3) (aa 2)) ag) (ao (mh (i:=3) (aa 2) nd rfl (Or.inr rfl)))) (ao (aK (bg (fs:=["step","power","prime"]) (is:=[3,1,2]) (fe:=(Dv.eOp .mul (Dv.eOp .mul (Dv.eVar 0) (Dv.eVar 1)) (Dv.eOp .fdiv (Dv.eVar 2) (Dv.eVar 3)))) (fc:=(Dv.eBl true)) (aH (fsc:=ai s_Q16) (N:=["length","power","prime","step"]) rfl rfl (by decide +kernel)) (bJ rfl z_range (aa 2)) (λ cl L s₀ H₀ ex=>(aR (aR (aa 0) (aa 1)) (bC (aa 2) (aa 3)))) (λ cl L s₀ H₀ ex=>cD)))))))
noncomputable abbrev s_Q00:Stmt:=top 39
theorem sc_all_added:FnScope ["numbers","row","added","number"] ["numbers","row"] (ai s_Q00):=⟨rfl,rfl,rfl,by decide +kernel,rfl,by decide +kernel,by decide +kernel⟩
theorem ok_Q00 {f:Addr}{fd:FuncData}(d:Df K mg "all_added" s_Q00 ["numbers","row"] f fd) :
  FnOk P w K mg base (CXe P w) 1 f fd ["numbers","row"] (spD K (al ad) F_Q00 2):=by
 have nd:=sc_all_added.nd
 refine Df.is cxe_ok ["numbers","row","added","number"] 0 b_Q00 d sc_all_added rfl rfl rfl λ cdv A outer s H E hr=>?_
 exact(ah (aq (i:=2) (aC aj) nd rfl (Or.inl rfl)) (ah (bn [0] (i:=3) (aQ (aa 0)) (ao (wa (i:=2) (bg (fs:=["number"]) (is:=[3]) (fe:=(Dv.eOp .add (Dv.eVar 1) (Dv.eVar 0))) (fc:=(Dv.eBl true)) (aH (fsc:=ai s_Q00) (N:=["numbers","row","added","number"]) rfl rfl (by decide +kernel)) (aQ (aa 1)) (λ cl L s₀ H₀ ex=>(aA (aa 1) (aa 0))) (λ cl L s₀ H₀ ex=>cD)))) nd rfl (Or.inr rfl)) (ao (b9 2))))
noncomputable abbrev s_Q10:Stmt:=top 40
theorem sc_made_partner:FnScope ["length","beat","had","starts","power"] ["length","beat"] (ai s_Q10):=⟨rfl,rfl,rfl,by decide +kernel,rfl,by decide +kernel,by decide +kernel⟩
theorem ok_Q10 {f:Addr}{fd:FuncData}(d:Df K mg "made_partner" s_Q10 ["length","beat"] f fd){f_Q06:Addr}{fd_first_rule:FuncData}(d_Q06:Df K mg "first_rule" s_Q06 ["length","beat"] f_Q06 fd_first_rule)(o_Q06:FnOk P w K mg base (CXe P w) 6 f_Q06 fd_first_rule ["length","beat"] (spD K (al ad) F_Q06 2)){f_Q17:Addr}{fd_second_rule:FuncData}(d_Q17:Df K mg "second_rule" s_Q17 ["length","beat"] f_Q17 fd_second_rule)(o_Q17:FnOk P w K mg base (CXe P w) 6 f_Q17 fd_second_rule ["length","beat"] (spD K (al ad) F_Q17 2)){f_Q13:Addr}{fd_powers_had:FuncData}(d_Q13:Df K mg "powers_had" s_Q13 ["length","beat"] f_Q13 fd_powers_had)(o_Q13:FnOk P w K mg base (CXe P w) 5 f_Q13 fd_powers_had ["length","beat"] (spD K (al ad) F_Q13 2)){f_Q15:Addr}{fd_prime_powers:FuncData}(d_Q15:Df K mg "prime_powers" s_Q15 ["length"] f_Q15 fd_prime_powers)(o_Q15:FnOk P w K mg base (CXe P w) 4 f_Q15 fd_prime_powers ["length"] (spD K (al ad) F_Q15 1)){f_Q00:Addr}{fd_all_added:FuncData}(d_Q00:Df K mg "all_added" s_Q00 ["numbers","row"] f_Q00 fd_all_added)(o_Q00:FnOk P w K mg base (CXe P w) 1 f_Q00 fd_all_added ["numbers","row"] (spD K (al ad) F_Q00 2)){f_Q16:Addr}{fd_row_of_power:FuncData}(d_Q16:Df K mg "row_of_power" s_Q16 ["length","power"] f_Q16 fd_row_of_power)(o_Q16:FnOk P w K mg base (CXe P w) 3 f_Q16 fd_row_of_power ["length","power"] (spD K (al ad) F_Q16 2)){f_Q0Z:Addr}{fd_made_beat:FuncData}(d_Q0Z:Df K mg "made_beat" s_Q0Z ["length","numbers"] f_Q0Z fd_made_beat)(o_Q0Z:FnOk P w K mg base (CXe P w) 3 f_Q0Z fd_made_beat ["length","numbers"] (spD K (al ad) F_Q0Z 2))(xa:XAll K mg ad){C_6:Addr}(h_6:ad "NoRule"=some C_6) :
  FnOk P w K mg base (CXe P w) 7 f fd ["length","beat"] (spD K (al ad) F_Q10 2):=by
 have nd:=sc_made_partner.nd
 refine Df.is cxe_ok ["length","beat","had","starts","power"] 6 b_Q10 d sc_made_partner rfl rfl rfl λ cdv A outer s H E hr=>?_
 exact(ah (bc (gG (kB (jK (cR (av d_Q06 o_Q06 hr (by decide) rfl (ac (aa 0) (ac (aa 1) aj))))) (cF _ (jK (cR (av d_Q17 o_Q17 hr (by decide) rfl (ac (aa 0) (ac (aa 1) aj)))))))) (cX (xa.cl _ _ h_6).1 (cC h_6) rfl) aT) (ah (aq (i:=2) (av d_Q13 o_Q13 hr (by decide) rfl (ac (aa 0) (ac (aa 1) aj))) nd rfl (Or.inl rfl)) (ah (aq (i:=3) (aC (ac ag aj)) nd rfl (Or.inl rfl)) (ah (bn [0] (i:=4) (aQ (av d_Q15 o_Q15 hr (by decide) rfl (ac (aa 0) aj))) (ao (bc (lG (aa 4) (aa 2)) (ao (aq (i:=3) (av d_Q00 o_Q00 hr (by decide) rfl (ac (aa 3) (ac (av d_Q16 o_Q16 hr (by decide) rfl (ac (aa 0) (ac (aa 4) aj))) aj))) nd rfl (Or.inl rfl))) aT)) nd rfl (Or.inl rfl)) (ao (aK (av d_Q0Z o_Q0Z hr (by decide) rfl (ac (aa 0) (ac (aa 3) aj)))))))))
noncomputable abbrev s_Q0E:Stmt:=top 42
theorem sc_law_cell:FnScope ["_law_script","_law_k","_law_number"] ["_law_script","_law_k"] (ai s_Q0E):=⟨rfl,rfl,rfl,by decide +kernel,rfl,by decide +kernel,by decide +kernel⟩
theorem ok_Q0E {f:Addr}{fd:FuncData}(d:Df K mg "_law_cell" s_Q0E ["_law_script","_law_k"] f fd)(z_len:mg "len"=none) :
  FnOk P w K mg base (CXe P w) 1 f fd ["_law_script","_law_k"] (spD K (al ad) F_Q0E 2):=by
 have nd:=sc_law_cell.nd
 refine Df.is cxe_ok ["_law_script","_law_k","_law_number"] 0 b_Q0E d sc_law_cell rfl rfl rfl λ cdv A outer s H E hr=>?_
 exact(ah (bc (ji (aa 1) (bN z_len rfl (aa 0))) (ao (aK (be (aa 0) (aa 1)))) aT) (ah (aq (i:=2) (aA (aR ag (aa 1)) ag) nd rfl (Or.inl rfl)) (ah (bc (jg (bN z_len rfl (aa 0)) ag) (ao (aq (i:=2) (az (aA (aR (be (aa 0) (az (aa 1) (bN z_len rfl (aa 0)))) ag) (aR (aa 1) ag)) ag) nd rfl (Or.inl rfl))) aT) (ao (aK (az (aR (aa 2) (aa 2)) ag))))))
noncomputable abbrev s_Q0W:Stmt:=top 43
theorem sc_law_some:FnScope ["_law_script","_law_start","_law_length","_law_bits","_law_share","_law_found","_law_place","_law_bit"] ["_law_script","_law_start","_law_length"] (ai s_Q0W):=⟨rfl,rfl,rfl,by decide +kernel,rfl,by decide +kernel,by decide +kernel⟩
theorem ok_Q0W {f:Addr}{fd:FuncData}(d:Df K mg "_law_some" s_Q0W ["_law_script","_law_start","_law_length"] f fd){f_Q0E:Addr}{fd_law_cell:FuncData}(d_Q0E:Df K mg "_law_cell" s_Q0E ["_law_script","_law_k"] f_Q0E fd_law_cell)(o_Q0E:FnOk P w K mg base (CXe P w) 1 f_Q0E fd_law_cell ["_law_script","_law_k"] (spD K (al ad) F_Q0E 2))(z_range:mg "range"=none)(z_max:mg "max"=none) :
  FnOk P w K mg base (CXe P w) 2 f fd ["_law_script","_law_start","_law_length"] (spD K (al ad) F_Q0W 3):=by
 have nd:=sc_law_some.nd
 refine Df.is cxe_ok ["_law_script","_law_start","_law_length","_law_bits","_law_share","_law_found","_law_place","_law_bit"] 1 b_Q0W d sc_law_some rfl rfl rfl λ cdv A outer s H E hr=>?_
 exact(ah (aq (i:=3) (az (aR (av d_Q0E o_Q0E hr (by decide) rfl (ac (aa 0) (ac (aa 1) aj))) ag) ag) nd rfl (Or.inl rfl)) (ah (aq (i:=4) (az (av d_Q0E o_Q0E hr (by decide) rfl (ac (aa 0) (ac (aA (aa 1) ag) aj))) ag) nd rfl (Or.inl rfl)) (ah (aq (i:=5) (aC aj) nd rfl (Or.inl rfl)) (ah (bn [] (i:=6) (bJ rfl z_range (aa 2)) (ah (aq (i:=7) (az (mC (aa 3) (aa 6)) ag) nd rfl (Or.inl rfl)) (ah (bc (bG (aa 4) ag) (ao (aq (i:=7) (aR (aa 7) (az (mC (aa 3) (az (aA (aa 6) ag) ag)) ag)) nd rfl (Or.inl rfl))) aT) (ah (bc (bG (aa 4) ag) (ao (aq (i:=7) (jM z_max rfl (aa 7) (az (mC (aa 3) (az (aA (aa 6) ag) ag)) ag)) nd rfl (Or.inl rfl))) aT) (ao (bc (bG (aa 7) ag) (ao (dO (i:=5) (aa 6))) aT))))) nd rfl (Or.inl rfl)) (ah (bc (bG (aa 5) (aC aj)) (ao (dO (i:=5) (az (bC (av d_Q0E o_Q0E hr (by decide) rfl (ac (aa 0) (ac (aA (aa 1) ag) aj))) ag) (aa 2)))) aT) (ao (b9 5)))))))
noncomputable abbrev s_Q0X:Stmt:=top 44
theorem sc_law_turned:FnScope ["_law_length","_law_beat","_law_by"] ["_law_length","_law_beat","_law_by"] (ai s_Q0X):=⟨rfl,rfl,rfl,by decide +kernel,rfl,by decide +kernel,by decide +kernel⟩
theorem ok_Q0X {f:Addr}{fd:FuncData}(d:Df K mg "_law_turned" s_Q0X ["_law_length","_law_beat","_law_by"] f fd)(z_sorted:mg "sorted"=none) :
  FnOk P w K mg base (CXe P w) 1 f fd ["_law_length","_law_beat","_law_by"] (spD K (al ad) F_Q0X 3):=by
 have nd:=sc_law_turned.nd
 refine Df.is cxe_ok ["_law_length","_law_beat","_law_by"] 0 b_Q0X d sc_law_turned rfl rfl rfl λ cdv A outer s H E hr=>?_
 exact(ao (aK (da z_sorted rfl (bg (fs:=["_law_length","_law_by"]) (is:=[0,2]) (fe:=(Dv.eOp .mod (Dv.eOp .add (Dv.eVar 0) (Dv.eVar 2)) (Dv.eVar 1))) (fc:=(Dv.eBl true)) (aH (fsc:=ai s_Q0X) (N:=["_law_length","_law_beat","_law_by"]) rfl rfl (by decide +kernel)) (aQ (aa 1)) (λ cl L s₀ H₀ ex=>(az (aA (aa 0) (aa 2)) (aa 1))) (λ cl L s₀ H₀ ex=>cD)))))
noncomputable abbrev s_Q09:Stmt:=top 45
theorem sc_law_again:FnScope ["_law_length","_law_beat","_law_times","_law_found","_law_k"] ["_law_length","_law_beat","_law_times"] (ai s_Q09):=⟨rfl,rfl,rfl,by decide +kernel,rfl,by decide +kernel,by decide +kernel⟩
theorem ok_Q09 {f:Addr}{fd:FuncData}(d:Df K mg "_law_again" s_Q09 ["_law_length","_law_beat","_law_times"] f fd)(z_range:mg "range"=none) :
  FnOk P w K mg base (CXe P w) 1 f fd ["_law_length","_law_beat","_law_times"] (spD K (al ad) F_Q09 3):=by
 have nd:=sc_law_again.nd
 refine Df.is cxe_ok ["_law_length","_law_beat","_law_times","_law_found","_law_k"] 0 b_Q09 d sc_law_again rfl rfl rfl λ cdv A outer s H E hr=>?_
 exact(ah (aq (i:=3) (aC aj) nd rfl (Or.inl rfl)) (ah (bn [] (i:=4) (bJ rfl z_range (aa 2)) (ao (aq (i:=3) (aA (aa 3) (bg (fs:=["_law_k","_law_length"]) (is:=[4,0]) (fe:=(Dv.eOp .add (Dv.eVar 0) (Dv.eOp .mul (Dv.eVar 1) (Dv.eVar 2)))) (fc:=(Dv.eBl true)) (aH (fsc:=ai s_Q09) (N:=["_law_length","_law_beat","_law_times","_law_found","_law_k"]) rfl rfl (by decide +kernel)) (aQ (aa 1)) (λ cl L s₀ H₀ ex=>(aA (aa 0) (aR (aa 1) (aa 2)))) (λ cl L s₀ H₀ ex=>cD))) nd rfl (Or.inl rfl))) nd rfl (Or.inr rfl)) (ao (b9 3))))
noncomputable abbrev s_Q0P:Stmt:=top 46
theorem sc_law_pair:FnScope ["_law_script","_law_start","_law_length","_law_one","_law_other","_law_k","_law_number","_law_times","_law_kind","_law_more","_law_j"] ["_law_script","_law_start"] (ai s_Q0P):=⟨rfl,rfl,rfl,by decide +kernel,rfl,by decide +kernel,by decide +kernel⟩
theorem ok_Q0P {f:Addr}{fd:FuncData}(d:Df K mg "_law_pair" s_Q0P ["_law_script","_law_start"] f fd){f_Q0E:Addr}{fd_law_cell:FuncData}(d_Q0E:Df K mg "_law_cell" s_Q0E ["_law_script","_law_k"] f_Q0E fd_law_cell)(o_Q0E:FnOk P w K mg base (CXe P w) 1 f_Q0E fd_law_cell ["_law_script","_law_k"] (spD K (al ad) F_Q0E 2)){f_Q09:Addr}{fd_law_again:FuncData}(d_Q09:Df K mg "_law_again" s_Q09 ["_law_length","_law_beat","_law_times"] f_Q09 fd_law_again)(o_Q09:FnOk P w K mg base (CXe P w) 1 f_Q09 fd_law_again ["_law_length","_law_beat","_law_times"] (spD K (al ad) F_Q09 3)){f_Q0X:Addr}{fd_law_turned:FuncData}(d_Q0X:Df K mg "_law_turned" s_Q0X ["_law_length","_law_beat","_law_by"] f_Q0X fd_law_turned)(o_Q0X:FnOk P w K mg base (CXe P w) 1 f_Q0X fd_law_turned ["_law_length","_law_beat","_law_by"] (spD K (al ad) F_Q0X 3))(z_range:mg "range"=none)(z_sorted:mg "sorted"=none) :
  FnOk P w K mg base (CXe P w) 2 f fd ["_law_script","_law_start"] (spD K (al ad) F_Q0P 2):=by
 have nd:=sc_law_pair.nd
 refine Df.is cxe_ok ["_law_script","_law_start","_law_length","_law_one","_law_other","_law_k","_law_number","_law_times","_law_kind","_law_more","_law_j"] 1 b_Q0P d sc_law_pair rfl rfl rfl λ cdv A outer s H E hr=>?_
 exact(ah (aq (i:=2) ag nd rfl (Or.inl rfl)) (ah (aq (i:=3) (aC (ac ag aj)) nd rfl (Or.inl rfl)) (ah (aq (i:=4) (aC (ac ag aj)) nd rfl (Or.inl rfl)) (ah (bn [] (i:=5) (bJ rfl z_range ag) (ah (aq (i:=6) (az (aR (av d_Q0E o_Q0E hr (by decide) rfl (ac (aa 0) (ac (aA (aa 1) (aa 5)) aj))) ag) ag) nd rfl (Or.inl rfl)) (ah (aq (i:=7) (be (aC (ac ag (ac ag (ac ag (ac ag (ac ag (ac ag (ac ag aj)))))))) (az (aa 6) ag)) nd rfl (Or.inr rfl)) (ah (aq (i:=8) (az (bC (aa 6) ag) ag) nd rfl (Or.inl rfl)) (ah (bc (uU (aR (aa 2) (aa 7)) ag) (ah (bc (ji (aa 8) ag) (ao (aq (i:=3) (av d_Q09 o_Q09 hr (by decide) rfl (ac (aa 2) (ac (aa 3) (ac (aa 7) aj)))) nd rfl (Or.inl rfl))) (ah (aq (i:=9) (aC aj) nd rfl (Or.inl rfl)) (ah (bn [] (i:=10) (bJ rfl z_range (aa 7)) (ao (aq (i:=9) (aA (aa 9) (bg (fs:=["_law_j","_law_times"]) (is:=[10,7]) (fe:=(Dv.eOp .add (Dv.eOp .mul (Dv.eVar 0) (Dv.eVar 2)) (Dv.eVar 1))) (fc:=(Dv.eBl true)) (aH (fsc:=ai s_Q0P) (N:=["_law_script","_law_start","_law_length","_law_one","_law_other","_law_k","_law_number","_law_times","_law_kind","_law_more","_law_j"]) rfl rfl (by decide +kernel)) (aQ (aa 3)) (λ cl L s₀ H₀ ex=>(aA (aR (aa 0) (aa 2)) (aa 1))) (λ cl L s₀ H₀ ex=>cD))) nd rfl (Or.inl rfl))) nd rfl (Or.inr rfl)) (ah (aq (i:=3) (da z_sorted rfl (aa 9)) nd rfl (Or.inl rfl)) (ao (mv (i:=4) (fs:=["_law_times"]) (is:=[7]) (fe:=(Dv.eOp .mul (Dv.eVar 0) (Dv.eVar 1))) (fc:=(Dv.eBl true)) (aH (fsc:=ai s_Q0P) (N:=["_law_script","_law_start","_law_length","_law_one","_law_other","_law_k","_law_number","_law_times","_law_kind","_law_more","_law_j"]) rfl rfl (by decide +kernel)) (aQ (aa 4)) (λ cl L s₀ H₀ ex=>(aR (aa 0) (aa 1))) (λ cl L s₀ H₀ ex=>cD) nd rfl rfl)))))) (ao (aq (i:=2) (aR (aa 2) (aa 7)) nd rfl (Or.inl rfl)))) aT) (ao (bc (bG (az (bC (aa 6) ag) ag) ag) (ao (vI [3,4] (i:=3) (j:=4) (aa 4) (aa 3) nd rfl rfl (by decide) rfl rfl)) aT)))))) nd rfl (Or.inl rfl)) (ah (aq (i:=3) (av d_Q0X o_Q0X hr (by decide) rfl (ac (aa 2) (ac (aa 3) (ac (az (av d_Q0E o_Q0E hr (by decide) rfl (ac (aa 0) (ac (aA (aa 1) ag) aj))) (aa 2)) aj)))) nd rfl (Or.inl rfl)) (ao (aK (fI (ac (aa 2) (ac (aa 3) (ac (av d_Q0X o_Q0X hr (by decide) rfl (ac (aa 2) (ac (aa 4) (ac (az (av d_Q0E o_Q0E hr (by decide) rfl (ac (aa 0) (ac (aA (aa 1) ag) aj))) (aa 2)) aj)))) aj)))))))))))
noncomputable abbrev s_Q0S:Stmt:=top 47
theorem sc_law_primes:FnScope ["_law_number","_law_found","_law_prime"] ["_law_number"] (ai s_Q0S):=⟨rfl,rfl,rfl,by decide +kernel,rfl,by decide +kernel,by decide +kernel⟩
theorem ok_Q0S {f:Addr}{fd:FuncData}(d:Df K mg "_law_primes" s_Q0S ["_law_number"] f fd)(z_range:mg "range"=none) :
  FnOk P w K mg base (CXe P w) 1 f fd ["_law_number"] (spD K (al ad) F_Q0S 1):=by
 have nd:=sc_law_primes.nd
 refine Df.is cxe_ok ["_law_number","_law_found","_law_prime"] 0 b_Q0S d sc_law_primes rfl rfl rfl λ cdv A outer s H E hr=>?_
 exact(ah (aq (i:=1) (aC aj) nd rfl (Or.inl rfl)) (ah (bn [] (i:=2) (d8 rfl z_range ag (aA (aa 0) ag)) (ao (bc (gG (eA (bG (az (aa 0) (aa 2)) ag) (cF _ (bG (bg (fs:=["_law_prime"]) (is:=[2]) (fe:=(Dv.eVar 0)) (fc:=(Dv.eCm .eq (Dv.eOp .mod (Dv.eVar 1) (Dv.eVar 0)) (Dv.eInt 0))) (aH (fsc:=ai s_Q0S) (N:=["_law_number","_law_found","_law_prime"]) rfl rfl (by decide +kernel)) (aQ (aa 1)) (λ cl L s₀ H₀ ex=>(aa 0)) (λ cl L s₀ H₀ ex=>(dq (bG (az (aa 1) (aa 0)) ag)))) (aC aj))))) (ao (dO (i:=1) (aa 2))) aT)) nd rfl (Or.inr rfl)) (ao (b9 1))))
noncomputable abbrev s_Q0H:Stmt:=top 48
theorem sc_law_has:FnScope ["_law_beat","_law_number","_law_counts","_law_place","_law_prime","_law_off"] ["_law_beat","_law_number"] (ai s_Q0H):=⟨rfl,rfl,rfl,by decide +kernel,rfl,by decide +kernel,by decide +kernel⟩
theorem ok_Q0H {f:Addr}{fd:FuncData}(d:Df K mg "_law_has" s_Q0H ["_law_beat","_law_number"] f fd){f_Q0S:Addr}{fd_law_primes:FuncData}(d_Q0S:Df K mg "_law_primes" s_Q0S ["_law_number"] f_Q0S fd_law_primes)(o_Q0S:FnOk P w K mg base (CXe P w) 1 f_Q0S fd_law_primes ["_law_number"] (spD K (al ad) F_Q0S 1))(z_range:mg "range"=none) :
  FnOk P w K mg base (CXe P w) 2 f fd ["_law_beat","_law_number"] (spD K (al ad) F_Q0I 2):=by
 have nd:=sc_law_has.nd
 refine Df.is cxe_ok ["_law_beat","_law_number","_law_counts","_law_place","_law_prime","_law_off"] 1 b_Q0I d sc_law_has rfl rfl rfl λ cdv A outer s H E hr=>?_
 exact(ah (aq (i:=2) (aR (aC (ac ag aj)) (aa 1)) nd rfl (Or.inr rfl)) (ah (bn [0] (i:=3) (aQ (aa 0)) (ao (md (i:=2) (aA (be (aa 2) (az (aa 3) (aa 1))) ag) (az (aa 3) (aa 1)))) nd rfl (Or.inl rfl)) (ah (bn [1] (i:=4) (aQ (av d_Q0S o_Q0S hr (by decide) rfl (ac (aa 1) aj))) (ah (aq (i:=5) (bC (aa 1) (aa 4)) nd rfl (Or.inr rfl)) (ao (aq (i:=2) (bg (fs:=["_law_counts","_law_number","_law_off"]) (is:=[2,1,5]) (fe:=(Dv.eOp .sub (Dv.eIx (Dv.eVar 1) (Dv.eVar 0)) (Dv.eIx (Dv.eVar 1) (Dv.eOp .mod (Dv.eOp .add (Dv.eVar 0) (Dv.eVar 3)) (Dv.eVar 2))))) (fc:=(Dv.eBl true)) (aH (fsc:=ai s_Q0H) (N:=["_law_beat","_law_number","_law_counts","_law_place","_law_prime","_law_off"]) rfl rfl (by decide +kernel)) (bJ rfl z_range (aa 1)) (λ cl L s₀ H₀ ex=>(b8 (be (aa 1) (aa 0)) (be (aa 1) (az (aA (aa 0) (aa 3)) (aa 2))))) (λ cl L s₀ H₀ ex=>cD)) nd rfl (Or.inr rfl)))) nd rfl (Or.inl rfl)) (ao (aK (gM (aa 2) (aR (aC (ac ag aj)) (aa 1))))))))
noncomputable abbrev s_Q0Q:Stmt:=top 49
theorem sc_law_powers:FnScope ["_law_length"] ["_law_length"] (ai s_Q0Q):=⟨rfl,rfl,rfl,by decide +kernel,rfl,by decide +kernel,by decide +kernel⟩
theorem ok_Q0Q {f:Addr}{fd:FuncData}(d:Df K mg "_law_powers" s_Q0Q ["_law_length"] f fd){f_Q0S:Addr}{fd_law_primes:FuncData}(d_Q0S:Df K mg "_law_primes" s_Q0S ["_law_number"] f_Q0S fd_law_primes)(o_Q0S:FnOk P w K mg base (CXe P w) 1 f_Q0S fd_law_primes ["_law_number"] (spD K (al ad) F_Q0S 1))(z_range:mg "range"=none)(z_len:mg "len"=none) :
  FnOk P w K mg base (CXe P w) 2 f fd ["_law_length"] (spD K (al ad) F_Q0R 1):=by
 have nd:=sc_law_powers.nd
 refine Df.is cxe_ok ["_law_length"] 1 b_Q0R d sc_law_powers rfl rfl rfl λ cdv A outer s H E hr=>?_
 exact(ao (aK (bg (fs:=["_law_length"]) (is:=[0]) (fe:=(Dv.eVar 0)) (fc:=(Dv.eAnd (Dv.eCm .eq (Dv.eOp .mod (Dv.eVar 1) (Dv.eVar 0)) (Dv.eInt 0)) (Dv.eCm .eq (Dv.eB1 Dv.lenD (Dv.eCall F_Q0S (Dv.lCons (Dv.eVar 0) Dv.lNil))) (Dv.eInt 1)))) (aH (fsc:=ai s_Q0Q) (N:=["_law_length"]) rfl rfl (by decide +kernel)) (d8 rfl z_range ag (aA (aa 0) ag)) (λ cl L s₀ H₀ ex=>(aa 0)) (λ cl L s₀ H₀ ex=>(dq (gG (eA (bG (az (aa 1) (aa 0)) ag) (cF _ (bG (bN z_len rfl (av d_Q0S o_Q0S hr (by decide) rfl (ac (aa 0) aj))) ag)))))))))
noncomputable abbrev s_Q0G:Stmt:=top 50
theorem sc_law_first:FnScope ["_law_length","_law_beat","_law_together","_law_power"] ["_law_length","_law_beat"] (ai s_Q0G):=⟨rfl,rfl,rfl,by decide +kernel,rfl,by decide +kernel,by decide +kernel⟩
theorem ok_Q0G {f:Addr}{fd:FuncData}(d:Df K mg "_law_first" s_Q0G ["_law_length","_law_beat"] f fd){f_Q0Q:Addr}{fd_law_powers:FuncData}(d_Q0Q:Df K mg "_law_powers" s_Q0Q ["_law_length"] f_Q0Q fd_law_powers)(o_Q0Q:FnOk P w K mg base (CXe P w) 2 f_Q0Q fd_law_powers ["_law_length"] (spD K (al ad) F_Q0R 1)){f_Q0H:Addr}{fd_law_has:FuncData}(d_Q0H:Df K mg "_law_has" s_Q0H ["_law_beat","_law_number"] f_Q0H fd_law_has)(o_Q0H:FnOk P w K mg base (CXe P w) 2 f_Q0H fd_law_has ["_law_beat","_law_number"] (spD K (al ad) F_Q0I 2)){f_Q0S:Addr}{fd_law_primes:FuncData}(d_Q0S:Df K mg "_law_primes" s_Q0S ["_law_number"] f_Q0S fd_law_primes)(o_Q0S:FnOk P w K mg base (CXe P w) 1 f_Q0S fd_law_primes ["_law_number"] (spD K (al ad) F_Q0S 1))(z_len:mg "len"=none) :
  FnOk P w K mg base (CXe P w) 3 f fd ["_law_length","_law_beat"] (spD K (al ad) F_Q0G 2):=by
 have nd:=sc_law_first.nd
 refine Df.is cxe_ok ["_law_length","_law_beat","_law_together","_law_power"] 2 b_Q0G d sc_law_first rfl rfl rfl λ cdv A outer s H E hr=>?_
 exact(ah (aq (i:=2) ag nd rfl (Or.inl rfl)) (ah (bn [0] (i:=3) (aQ (av d_Q0Q o_Q0Q hr (by decide) rfl (ac (aa 0) aj))) (ao (bc (cR (av d_Q0H o_Q0H hr (by decide) rfl (ac (aa 1) (ac (aa 3) aj)))) (ao (aq (i:=2) (aR (aa 2) (be (av d_Q0S o_Q0S hr (by decide) rfl (ac (aa 3) aj)) ag)) nd rfl (Or.inl rfl))) aT)) nd rfl (Or.inl rfl)) (ao (aK (gM (aa 2) (bN z_len rfl (aa 1)))))))
noncomputable abbrev s_Q0V:Stmt:=top 51
theorem sc_law_second:FnScope ["_law_length","_law_beat","_law_had","_law_d","_law_parts","_law_prime","_law_power"] ["_law_length","_law_beat"] (ai s_Q0V):=⟨rfl,rfl,rfl,by decide +kernel,rfl,by decide +kernel,by decide +kernel⟩
theorem ok_Q0V {f:Addr}{fd:FuncData}(d:Df K mg "_law_second" s_Q0V ["_law_length","_law_beat"] f fd){f_Q0Q:Addr}{fd_law_powers:FuncData}(d_Q0Q:Df K mg "_law_powers" s_Q0Q ["_law_length"] f_Q0Q fd_law_powers)(o_Q0Q:FnOk P w K mg base (CXe P w) 2 f_Q0Q fd_law_powers ["_law_length"] (spD K (al ad) F_Q0R 1)){f_Q0H:Addr}{fd_law_has:FuncData}(d_Q0H:Df K mg "_law_has" s_Q0H ["_law_beat","_law_number"] f_Q0H fd_law_has)(o_Q0H:FnOk P w K mg base (CXe P w) 2 f_Q0H fd_law_has ["_law_beat","_law_number"] (spD K (al ad) F_Q0I 2)){f_Q0S:Addr}{fd_law_primes:FuncData}(d_Q0S:Df K mg "_law_primes" s_Q0S ["_law_number"] f_Q0S fd_law_primes)(o_Q0S:FnOk P w K mg base (CXe P w) 1 f_Q0S fd_law_primes ["_law_number"] (spD K (al ad) F_Q0S 1))(z_range:mg "range"=none)(z_len:mg "len"=none) :
  FnOk P w K mg base (CXe P w) 3 f fd ["_law_length","_law_beat"] (spD K (al ad) F_Q0V 2):=by
 have nd:=sc_law_second.nd
 refine Df.is cxe_ok ["_law_length","_law_beat","_law_had","_law_d","_law_parts","_law_prime","_law_power"] 2 b_Q0V d sc_law_second rfl rfl rfl λ cdv A outer s H E hr=>?_
 exact(ah (aq (i:=2) (bg (fs:=["_law_beat"]) (is:=[1]) (fe:=(Dv.eVar 0)) (fc:=(Dv.eCall F_Q0I (Dv.lCons (Dv.eVar 1) (Dv.lCons (Dv.eVar 0) Dv.lNil)))) (aH (fsc:=ai s_Q0V) (N:=["_law_length","_law_beat","_law_had","_law_d","_law_parts","_law_prime","_law_power"]) rfl rfl (by decide +kernel)) (aQ (av d_Q0Q o_Q0Q hr (by decide) rfl (ac (aa 0) aj))) (λ cl L s₀ H₀ ex=>(aa 0)) (λ cl L s₀ H₀ ex=>(dq (cR (av d_Q0H o_Q0H hr (by decide) rfl (ac (aa 1) (ac (aa 0) aj))))))) nd rfl (Or.inr rfl)) (ah (bn [] (i:=3) (d8 rfl z_range ag (aA (aa 0) ag)) (ah (aq (i:=4) (aC aj) nd rfl (Or.inl rfl)) (ah (bn [3] (i:=5) (aQ (av d_Q0S o_Q0S hr (by decide) rfl (ac (aa 3) aj))) (ah (fm [5] (i:=6) (aa 5) nd rfl (Or.inl rfl)) (ah (ip 100000 (bG (az (aa 3) (aR (aa 6) (aa 5))) ag) (ao (aq (i:=6) (aR (aa 6) (aa 5)) nd rfl (Or.inl rfl)))) (ao (dO (i:=4) (aa 6))))) nd rfl (Or.inl rfl)) (ao (bc (gG (eA (bG (az (aa 0) (aa 3)) ag) (eA (jg (bN z_len rfl (aa 4)) ag) (cF _ (bG (bg (fs:=["_law_had"]) (is:=[2]) (fe:=(Dv.eVar 0)) (fc:=(Dv.eCm .notin (Dv.eVar 0) (Dv.eVar 1))) (aH (fsc:=ai s_Q0V) (N:=["_law_length","_law_beat","_law_had","_law_d","_law_parts","_law_prime","_law_power"]) rfl rfl (by decide +kernel)) (aQ (aa 4)) (λ cl L s₀ H₀ ex=>(aa 0)) (λ cl L s₀ H₀ ex=>(dq (lG (aa 0) (aa 1))))) (aC aj)))))) (ao (bc (jK (cR (av d_Q0H o_Q0H hr (by decide) rfl (ac (aa 1) (ac (aa 3) aj))))) (ao (aK bA)) aT)) aT)))) nd rfl (Or.inl rfl)) (ao (aK bA))))
noncomputable abbrev s_Q0F:Stmt:=top 52
theorem sc_law_evened:FnScope ["_law_script","_law_start","_law_most","_law_first_here","_law_second_here","_law_lifts","_law_counts","_law_k","_law_number","_law_one","_law_other","_law_here","_law_there","_law_low"] ["_law_script","_law_start","_law_most"] (ai s_Q0F):=⟨rfl,rfl,rfl,by decide +kernel,rfl,by decide +kernel,by decide +kernel⟩
theorem ok_Q0F {f:Addr}{fd:FuncData}(d:Df K mg "_law_evened" s_Q0F ["_law_script","_law_start","_law_most"] f fd){f_Q0E:Addr}{fd_law_cell:FuncData}(d_Q0E:Df K mg "_law_cell" s_Q0E ["_law_script","_law_k"] f_Q0E fd_law_cell)(o_Q0E:FnOk P w K mg base (CXe P w) 1 f_Q0E fd_law_cell ["_law_script","_law_k"] (spD K (al ad) F_Q0E 2))(z_max:mg "max"=none)(z_range:mg "range"=none)(z_min:mg "min"=none) :
  FnOk P w K mg base (CXe P w) 2 f fd ["_law_script","_law_start","_law_most"] (spD K (al ad) F_Q0F 3):=by
 have nd:=sc_law_evened.nd
 refine Df.is cxe_ok ["_law_script","_law_start","_law_most","_law_first_here","_law_second_here","_law_lifts","_law_counts","_law_k","_law_number","_law_one","_law_other","_law_here","_law_there","_law_low"] 1 b_Q0F d sc_law_evened rfl rfl rfl λ cdv A outer s H E hr=>?_
 exact(ah (jj [0,1] (xs:=[3,4]) (be (aC (ac (fI (ac ag (ac ag aj))) (ac (fI (ac ag (ac ag aj))) (ac (fI (ac ag (ac ag aj))) (ac (fI (ac ag (ac ag aj))) (ac (fI (ac ag (ac ag aj))) aj)))))) (az (av d_Q0E o_Q0E hr (by decide) rfl (ac (aa 0) (ac (aa 1) aj))) ag)) (bE (i:=3) (bE (i:=4) il nd rfl (Or.inr rfl)) nd rfl (Or.inl rfl)) rfl) (ah (aq (i:=5) (aA ag (az (bC (av d_Q0E o_Q0E hr (by decide) rfl (ac (aa 0) (ac (aa 1) aj))) ag) (jM z_max rfl ag (bC (aa 2) (aR (aR (aa 3) (aa 4)) ag))))) nd rfl (Or.inl rfl)) (ah (aq (i:=5) (aR (aa 5) ag) nd rfl (Or.inl rfl)) (ah (ke (i:=6) (fs:=["_law_second_here"]) (is:=[4]) (fe:=(Dv.eOp .mul (Dv.eLst (Dv.lCons (Dv.eInt 1) Dv.lNil)) (Dv.eVar 1))) (fc:=(Dv.eBl true)) (aH (fsc:=ai s_Q0F) (N:=["_law_script","_law_start","_law_most","_law_first_here","_law_second_here","_law_lifts","_law_counts","_law_k","_law_number","_law_one","_law_other","_law_here","_law_there","_law_low"]) rfl rfl (by decide +kernel)) (bJ rfl z_range (aa 3)) (λ cl L s₀ H₀ ex=>(aR (aC (ac ag aj)) (aa 1))) (λ cl L s₀ H₀ ex=>cD) nd rfl rfl) (ah (bn [] (i:=7) (bJ rfl z_range ag) (ah (aq (i:=8) (az (aR (av d_Q0E o_Q0E hr (by decide) rfl (ac (aa 0) (ac (aA (aA (aa 1) ag) (aa 7)) aj))) ag) ag) nd rfl (Or.inl rfl)) (ah (aq (i:=9) (az (aa 8) (aa 3)) nd rfl (Or.inl rfl)) (ah (aq (i:=10) (az (aA (aA (aa 9) ag) (az (bC (aa 8) ag) (b8 (aa 3) ag))) (aa 3)) nd rfl (Or.inl rfl)) (ah (aq (i:=11) (az (bC (aa 8) ag) (aa 4)) nd rfl (Or.inl rfl)) (ah (aq (i:=12) (az (aA (aA (aa 11) ag) (az (bC (aa 8) ag) (b8 (aa 4) ag))) (aa 4)) nd rfl (Or.inl rfl)) (ah (aq (i:=13) (tM z_min rfl (be (dH (aa 6) (aa 9)) (aa 12)) (be (dH (aa 6) (aa 10)) (aa 11))) nd rfl (Or.inl rfl)) (ao (bc (gG (eA (jg (aa 13) ag) (cF _ (ji (jM z_max rfl (be (dH (aa 6) (aa 9)) (aa 11)) (be (dH (aa 6) (aa 10)) (aa 12))) (aa 5))))) (ah (gy (i:=6) (aA (be (dH (aa 6) (aa 9)) (aa 11)) ag) (aa 9) (aa 11)) (ah (gy (i:=6) (aA (be (dH (aa 6) (aa 10)) (aa 12)) ag) (aa 10) (aa 12)) (ah (gy (i:=6) (b8 (be (dH (aa 6) (aa 9)) (aa 12)) ag) (aa 9) (aa 12)) (ao (gy (i:=6) (b8 (be (dH (aa 6) (aa 10)) (aa 11)) ag) (aa 10) (aa 11)))))) aT)))))))) nd rfl (Or.inl rfl)) (ao (rO (i:=6) (aR (aR (aa 3) (aa 4)) (aa 5)) (aa 3) (aa 4))))))))
noncomputable abbrev s_Q0M:Stmt:=top 53
theorem sc_law_lifted:FnScope ["_law_script","_law_start","_law_most","_law_length","_law_first_here","_law_second_here","_law_counts","_law_found","_law_place","_law_at","_law_row"] ["_law_script","_law_start","_law_most"] (ai s_Q0M):=⟨rfl,rfl,rfl,by decide +kernel,rfl,by decide +kernel,by decide +kernel⟩
theorem ok_Q0M {f:Addr}{fd:FuncData}(d:Df K mg "_law_lifted" s_Q0M ["_law_script","_law_start","_law_most"] f fd){f_Q0F:Addr}{fd_law_evened:FuncData}(d_Q0F:Df K mg "_law_evened" s_Q0F ["_law_script","_law_start","_law_most"] f_Q0F fd_law_evened)(o_Q0F:FnOk P w K mg base (CXe P w) 2 f_Q0F fd_law_evened ["_law_script","_law_start","_law_most"] (spD K (al ad) F_Q0F 3)){f_Q0E:Addr}{fd_law_cell:FuncData}(d_Q0E:Df K mg "_law_cell" s_Q0E ["_law_script","_law_k"] f_Q0E fd_law_cell)(o_Q0E:FnOk P w K mg base (CXe P w) 1 f_Q0E fd_law_cell ["_law_script","_law_k"] (spD K (al ad) F_Q0E 2))(z_range:mg "range"=none)(z_sorted:mg "sorted"=none) :
  FnOk P w K mg base (CXe P w) 3 f fd ["_law_script","_law_start","_law_most"] (spD K (al ad) F_Q0M 3):=by
 have nd:=sc_law_lifted.nd
 refine Df.is cxe_ok ["_law_script","_law_start","_law_most","_law_length","_law_first_here","_law_second_here","_law_counts","_law_found","_law_place","_law_at","_law_row"] 2 b_Q0M d sc_law_lifted rfl rfl rfl λ cdv A outer s H E hr=>?_
 exact(ah (ln (i1:=3) (i2:=4) (i3:=5) (i4:=6) (av d_Q0F o_Q0F hr (by decide) rfl (ac (aa 0) (ac (aa 1) (ac (aa 2) aj)))) (bE (i:=3) (bE (i:=4) (bE (i:=5) (bE (i:=6) il nd rfl (Or.inl rfl)) nd rfl (Or.inl rfl)) nd rfl (Or.inl rfl)) nd rfl (Or.inl rfl)) rfl) (ah (aq (i:=7) (aC aj) nd rfl (Or.inl rfl)) (ah (bn [] (i:=8) (bJ rfl z_range (aa 3)) (ah (aq (i:=9) (az (aA (aR (aa 8) ag) (az (av d_Q0E o_Q0E hr (by decide) rfl (ac (aa 0) (ac (aA (aa 1) ag) aj))) ag)) (aa 3)) nd rfl (Or.inl rfl)) (ox (i:=6) (r:=10) (y:=7) (az (aa 9) (aa 4)) (az (aa 9) (aa 5)) (az (aa 9) (aa 5)) (az (aa 9) (aa 5)) (aa 9) aT nd rfl rfl rfl (Or.inl rfl))) nd rfl (Or.inl rfl)) (ao (aK (aC (ac (aa 3) (ac (da z_sorted rfl (aa 7)) aj))))))))
noncomputable abbrev s_Q0N:Stmt:=top 54
theorem sc_law_moved:FnScope ["_law_length","_law_beat","_law_cell_here","_law_at","_law_rest","_law_place"] ["_law_length","_law_beat","_law_cell_here"] (ai s_Q0N):=⟨rfl,rfl,rfl,by decide +kernel,rfl,by decide +kernel,by decide +kernel⟩
theorem ok_Q0N {f:Addr}{fd:FuncData}(d:Df K mg "_law_moved" s_Q0N ["_law_length","_law_beat","_law_cell_here"] f fd)(z_len:mg "len"=none)(z_sorted:mg "sorted"=none) :
  FnOk P w K mg base (CXe P w) 1 f fd ["_law_length","_law_beat","_law_cell_here"] (spD K (al ad) F_Q0N 3):=by
 have nd:=sc_law_moved.nd
 refine Df.is cxe_ok ["_law_length","_law_beat","_law_cell_here","_law_at","_law_rest","_law_place"] 0 b_Q0N d sc_law_moved rfl rfl rfl λ cdv A outer s H E hr=>?_
 exact(ah (aq (i:=3) (az (aa 2) (bN z_len rfl (aa 1))) nd rfl (Or.inl rfl)) (ah (aq (i:=4) (aA (bK (aa 1) cb (cc (aa 3))) (bK (aa 1) (cc (aA (aa 3) ag)) cb)) nd rfl (Or.inl rfl)) (ah (aq (i:=5) (az (aA (be (aa 1) (aa 3)) ag) (aa 0)) nd rfl (Or.inl rfl)) (ah (bc (uT (aa 5) (aa 4)) (ao (b9 1)) aT) (ao (aK (da z_sorted rfl (aA (aa 4) (aC (ac (aa 5) aj))))))))))
noncomputable abbrev s_Q0C:Stmt:=top 55
theorem sc_law_case:FnScope ["_law_script","_law_kind","_law_length","_law_beat","_law_starts"] ["_law_script"] (ai s_Q0C):=⟨rfl,rfl,rfl,by decide +kernel,rfl,by decide +kernel,by decide +kernel⟩
theorem ok_Q0C {f:Addr}{fd:FuncData}(d:Df K mg "_law_case" s_Q0C ["_law_script"] f fd){f_Q0E:Addr}{fd_law_cell:FuncData}(d_Q0E:Df K mg "_law_cell" s_Q0E ["_law_script","_law_k"] f_Q0E fd_law_cell)(o_Q0E:FnOk P w K mg base (CXe P w) 1 f_Q0E fd_law_cell ["_law_script","_law_k"] (spD K (al ad) F_Q0E 2)){f_Q0W:Addr}{fd_law_some:FuncData}(d_Q0W:Df K mg "_law_some" s_Q0W ["_law_script","_law_start","_law_length"] f_Q0W fd_law_some)(o_Q0W:FnOk P w K mg base (CXe P w) 2 f_Q0W fd_law_some ["_law_script","_law_start","_law_length"] (spD K (al ad) F_Q0W 3)){f_Q0M:Addr}{fd_law_lifted:FuncData}(d_Q0M:Df K mg "_law_lifted" s_Q0M ["_law_script","_law_start","_law_most"] f_Q0M fd_law_lifted)(o_Q0M:FnOk P w K mg base (CXe P w) 3 f_Q0M fd_law_lifted ["_law_script","_law_start","_law_most"] (spD K (al ad) F_Q0M 3)){f_Q0P:Addr}{fd_law_pair:FuncData}(d_Q0P:Df K mg "_law_pair" s_Q0P ["_law_script","_law_start"] f_Q0P fd_law_pair)(o_Q0P:FnOk P w K mg base (CXe P w) 2 f_Q0P fd_law_pair ["_law_script","_law_start"] (spD K (al ad) F_Q0P 2)){f_Q0N:Addr}{fd_law_moved:FuncData}(d_Q0N:Df K mg "_law_moved" s_Q0N ["_law_length","_law_beat","_law_cell_here"] f_Q0N fd_law_moved)(o_Q0N:FnOk P w K mg base (CXe P w) 1 f_Q0N fd_law_moved ["_law_length","_law_beat","_law_cell_here"] (spD K (al ad) F_Q0N 3)) :
  FnOk P w K mg base (CXe P w) 4 f fd ["_law_script"] (spD K (al ad) F_Q0D 1):=by
 have nd:=sc_law_case.nd
 refine Df.is cxe_ok ["_law_script","_law_kind","_law_length","_law_beat","_law_starts"] 3 b_Q0D d sc_law_case rfl rfl rfl λ cdv A outer s H E hr=>?_
 exact(ah (aq (i:=1) (az (av d_Q0E o_Q0E hr (by decide) rfl (ac (aa 0) (ac ag aj))) ag) nd rfl (Or.inl rfl)) (ah (bc (ji (aa 1) ag) (ah (aq (i:=2) (aA ag (az (bC (av d_Q0E o_Q0E hr (by decide) rfl (ac (aa 0) (ac ag aj))) ag) ag)) nd rfl (Or.inl rfl)) (ao (aK (aC (ac (aa 2) (ac (av d_Q0W o_Q0W hr (by decide) rfl (ac (aa 0) (ac ag (ac (aa 2) aj)))) aj)))))) aT) (ah (bc (bG (aa 1) ag) (ao (aK (av d_Q0M o_Q0M hr (by decide) rfl (ac (aa 0) (ac ag (ac ag aj)))))) aT) (ah (jj [0] (xs:=[2,3,4]) (av d_Q0P o_Q0P hr (by decide) rfl (ac (aa 0) (ac ag aj))) (bE (i:=2) (bE (i:=3) (bE (i:=4) il nd rfl (Or.inl rfl)) nd rfl (Or.inl rfl)) nd rfl (Or.inl rfl)) rfl) (ao (aK (aC (ac (aa 2) (ac (av d_Q0N o_Q0N hr (by decide) rfl (ac (aa 2) (ac (aa 3) (ac (az (av d_Q0E o_Q0E hr (by decide) rfl (ac (aa 0) (ac ag aj))) ag) aj)))) aj)))))))))
noncomputable abbrev s_Q0A:Stmt:=top 56
theorem sc_law_asked:FnScope ["_law_way","_law_length","_law_beat"] ["_law_way","_law_length","_law_beat"] (ai s_Q0A):=⟨rfl,rfl,rfl,by decide +kernel,rfl,by decide +kernel,by decide +kernel⟩
theorem ok_Q0A {f:Addr}{fd:FuncData}(d:Df K mg "_law_asked" s_Q0A ["_law_way","_law_length","_law_beat"] f fd){f_Q06:Addr}{fd_first_rule:FuncData}(d_Q06:Df K mg "first_rule" s_Q06 ["length","beat"] f_Q06 fd_first_rule)(o_Q06:FnOk P w K mg base (CXe P w) 6 f_Q06 fd_first_rule ["length","beat"] (spD K (al ad) F_Q06 2)){f_Q17:Addr}{fd_second_rule:FuncData}(d_Q17:Df K mg "second_rule" s_Q17 ["length","beat"] f_Q17 fd_second_rule)(o_Q17:FnOk P w K mg base (CXe P w) 6 f_Q17 fd_second_rule ["length","beat"] (spD K (al ad) F_Q17 2)){f_Q10:Addr}{fd_made_partner:FuncData}(d_Q10:Df K mg "made_partner" s_Q10 ["length","beat"] f_Q10 fd_made_partner)(o_Q10:FnOk P w K mg base (CXe P w) 7 f_Q10 fd_made_partner ["length","beat"] (spD K (al ad) F_Q10 2)) :
  FnOk P w K mg base (CXe P w) 8 f fd ["_law_way","_law_length","_law_beat"] (spD K (al ad) F_Q0B 3):=by
 have nd:=sc_law_asked.nd
 refine Df.is cxe_ok ["_law_way","_law_length","_law_beat"] 7 b_Q0B d sc_law_asked rfl rfl rfl λ cdv A outer s H E hr=>?_
 exact(ah (bc (bG (aa 0) ag) (ao (aK (av d_Q06 o_Q06 hr (by decide) rfl (ac (aa 1) (ac (aa 2) aj))))) aT) (ah (bc (bG (aa 0) ag) (ao (aK (av d_Q17 o_Q17 hr (by decide) rfl (ac (aa 1) (ac (aa 2) aj))))) aT) (ao (aK (av d_Q10 o_Q10 hr (by decide) rfl (ac (aa 1) (ac (aa 2) aj)))))))
noncomputable abbrev s_Q0K:Stmt:=top 57
theorem sc_law_kinds:FnScope ["_law_error","_law_found"] ["_law_error"] (ai s_Q0K):=⟨rfl,rfl,rfl,by decide +kernel,rfl,by decide +kernel,by decide +kernel⟩
theorem ok_Q0K {f:Addr}{fd:FuncData}(d:Df K mg "_law_kinds" s_Q0K ["_law_error"] f fd)(xa:XAll K mg ad){C_0:Addr}(h_0:ad "NoBeat"=some C_0){C_8:Addr}(h_8:ad "NoWheel"=some C_8){C_6:Addr}(h_6:ad "NoRule"=some C_6){C_5:Addr}(h_5:ad "NoPart"=some C_5){C_9:Addr}(h_9:ad "NoWindow"=some C_9){C_4:Addr}(h_4:ad "NoPair"=some C_4){C_7:Addr}(h_7:ad "NoText"=some C_7){C_2:Addr}(h_2:ad "NoName"=some C_2){C_3:Addr}(h_3:ad "NoNumber"=some C_3){C_1:Addr}(h_1:ad "NoDeed"=some C_1){C_10:Addr}(h_A:ad "TooMany"=some C_10)(hkn:∀ c∈(["WheelError","NoWheel","NoBeat","NoPart","NoRule","NoWindow","NoPair","NoText","NoName","NoNumber","NoDeed","TooMany"]:List String),∃ Ca,ad c=some Ca)(z_isinstance:mg "isinstance"=none)(z_ValueError:mg "ValueError"=none) :
  FnOk P w K mg base (CXe P w) 1 f fd ["_law_error"] (spD K (al ad) F_Q0L 1):=by
 have nd:=sc_law_kinds.nd
 refine Df.is cxe_ok ["_law_error","_law_found"] 0 b_Q0L d sc_law_kinds rfl rfl rfl λ cdv A outer s H E hr=>?_
 exact(ah (aq (i:=1) (aC (ac (fQ xa hkn h_6 z_isinstance rfl rfl (aa 0)) (ac (fQ xa hkn h_8 z_isinstance rfl rfl (aa 0)) (ac (fQ xa hkn h_0 z_isinstance rfl rfl (aa 0)) aj)))) nd rfl (Or.inl rfl)) (ah (dO (i:=1) (gj xa hkn z_isinstance rfl (aa 0) (bq xa h_5 rfl (bq xa h_9 rfl (bq xa h_4 rfl (bq xa h_7 rfl j6)))))) (ah (dO (i:=1) (gj xa hkn z_isinstance rfl (aa 0) (bq xa h_2 rfl (bq xa h_3 rfl (bq xa h_1 rfl (bq xa h_A rfl j6)))))) (ao (aK (aA (aa 1) (aC (ac (sO xa hkn z_isinstance z_ValueError rfl rfl (aa 0)) aj))))))))
theorem uF {f:Addr}{fd:FuncData}(d:Df K mg "_law_kinds" s_Q0K ["_law_error"] f fd)(xa:XAll K mg ad){C_0:Addr}(h_0:ad "NoBeat"=some C_0){C_8:Addr}(h_8:ad "NoWheel"=some C_8){C_6:Addr}(h_6:ad "NoRule"=some C_6){C_5:Addr}(h_5:ad "NoPart"=some C_5){C_9:Addr}(h_9:ad "NoWindow"=some C_9){C_4:Addr}(h_4:ad "NoPair"=some C_4){C_7:Addr}(h_7:ad "NoText"=some C_7){C_2:Addr}(h_2:ad "NoName"=some C_2){C_3:Addr}(h_3:ad "NoNumber"=some C_3){C_1:Addr}(h_1:ad "NoDeed"=some C_1){C_10:Addr}(h_A:ad "TooMany"=some C_10)(hkn:∀ c∈(["WheelError","NoWheel","NoBeat","NoPart","NoRule","NoWindow","NoPair","NoText","NoName","NoNumber","NoDeed","TooMany"]:List String),∃ Ca,ad c=some Ca)(z_isinstance:mg "isinstance"=none)(z_ValueError:mg "ValueError"=none) :
  FnOkH P w K mg base 1 f fd ["_law_error"] (spD K (al ad) F_Q0L 1):=by
 have nd:=sc_law_kinds.nd
 refine Df.isH (cxe_ok (P:=P) (w:=w)) ["_law_error","_law_found"] 0 b_Q0L d sc_law_kinds rfl rfl rfl λ cdv A outer s H hr=>?_
 exact(ah (aq (i:=1) (aC (ac (fQ xa hkn h_6 z_isinstance rfl rfl (aa 0)) (ac (fQ xa hkn h_8 z_isinstance rfl rfl (aa 0)) (ac (fQ xa hkn h_0 z_isinstance rfl rfl (aa 0)) aj)))) nd rfl (Or.inl rfl)) (ah (dO (i:=1) (gj xa hkn z_isinstance rfl (aa 0) (bq xa h_5 rfl (bq xa h_9 rfl (bq xa h_4 rfl (bq xa h_7 rfl j6)))))) (ah (dO (i:=1) (gj xa hkn z_isinstance rfl (aa 0) (bq xa h_2 rfl (bq xa h_3 rfl (bq xa h_1 rfl (bq xa h_A rfl j6)))))) (ao (aK (aA (aa 1) (aC (ac (sO xa hkn z_isinstance z_ValueError rfl rfl (aa 0)) aj))))))))
noncomputable abbrev s_Q0T:Stmt:=top 58
theorem sc_law_said:FnScope ["_law_way","_law_length","_law_beat","_law_found","_law_error"] ["_law_way","_law_length","_law_beat"] (ai s_Q0T):=⟨rfl,rfl,rfl,by decide +kernel,rfl,by decide +kernel,by decide +kernel⟩
theorem ok_Q0T {f:Addr}{fd:FuncData}(d:Df K mg "_law_said" s_Q0T ["_law_way","_law_length","_law_beat"] f fd){f_Q0A:Addr}{fd_law_asked:FuncData}(d_Q0A:Df K mg "_law_asked" s_Q0A ["_law_way","_law_length","_law_beat"] f_Q0A fd_law_asked)(o_Q0A:FnOk P w K mg base (CXe P w) 8 f_Q0A fd_law_asked ["_law_way","_law_length","_law_beat"] (spD K (al ad) F_Q0B 3)){f_Q0K:Addr}{fd_law_kinds:FuncData}(d_Q0K:Df K mg "_law_kinds" s_Q0K ["_law_error"] f_Q0K fd_law_kinds)(o_Q0K:FnOk P w K mg base (CXe P w) 1 f_Q0K fd_law_kinds ["_law_error"] (spD K (al ad) F_Q0L 1))(oH_Q0K:FnOkH P w K mg base 1 f_Q0K fd_law_kinds ["_law_error"] (spD K (al ad) F_Q0L 1))(xa:XAll K mg ad){C_11:Addr}(h_B:ad "WheelError"=some C_11)(hkn:∀ c∈(["WheelError","NoWheel","NoBeat","NoPart","NoRule","NoWindow","NoPair","NoText","NoName","NoNumber","NoDeed","TooMany"]:List String),∃ Ca,ad c=some Ca) :
  FnOk P w K mg base (CXe P w) 9 f fd ["_law_way","_law_length","_law_beat"] (spD K (al ad) F_Q0U 3):=by
 have nd:=sc_law_said.nd
 refine Df.is cxe_ok ["_law_way","_law_length","_law_beat","_law_found","_law_error"] 8 b_Q0U d sc_law_said rfl rfl rfl λ cdv A outer s H E hr=>?_
 exact(ah (aq (i:=3) (aC aj) nd rfl (Or.inl rfl)) (ah (sM xa (kn2 hkn) h_B (i:=4) nd rfl rfl (λ pins xe W own pass=>(ao (dh (av d_Q0A o_Q0A hr (by decide) rfl (ac (aa 0) (ac (aa 1) (ac (aa 2) aj))))))) (λ pins e=>(ao (aq (i:=3) (wc d_Q0K oH_Q0K (wX hr) (by decide) rfl rfl (ac (aa 4) aj)) nd rfl (Or.inl rfl))))) (ao (b9 3))))
noncomputable abbrev s_Q0O:Stmt:=top 59
theorem sc_law_odd:FnScope ["_law_length","_law_beat","_law_cell_here","_law_some_here"] ["_law_length","_law_beat","_law_cell_here"] (ai s_Q0O):=⟨rfl,rfl,rfl,by decide +kernel,rfl,by decide +kernel,by decide +kernel⟩
theorem ok_Q0O {f:Addr}{fd:FuncData}(d:Df K mg "_law_odd" s_Q0O ["_law_length","_law_beat","_law_cell_here"] f fd) :
  FnOk P w K mg base (CXe P w) 1 f fd ["_law_length","_law_beat","_law_cell_here"] (spD K (al ad) F_Q0O 3):=by
 have nd:=sc_law_odd.nd
 refine Df.is cxe_ok ["_law_length","_law_beat","_law_cell_here","_law_some_here"] 0 b_Q0O d sc_law_odd rfl rfl rfl λ cdv A outer s H E hr=>?_
 exact(ah (fm [0,1] (i:=3) (aC (ac (aC aj) (ac (aA (aa 1) (aC (ac (aa 0) aj))) (ac (aA (aa 1) (aC (ac (be (aa 1) (dm ag)) aj))) (ac (aA (aC (ac (b8 (b8 (be (aa 1) ag) (aa 0)) ag) aj)) (aa 1)) (ac (aA (aa 1) (aC (ac (be (aa 1) ag) aj))) aj)))))) nd rfl (Or.inl rfl)) (ao (aK (be (aa 3) (az (aa 2) ag)))))
noncomputable abbrev s_Q08:Stmt:=top 60
theorem sc_law:FnScope ["_law_script","_law_length","_law_beat","_law_handed","_law_number","_law_wheel","_law_odd_here","_law_way"] ["_law_script"] (ai s_Q08):=⟨rfl,rfl,rfl,by decide +kernel,rfl,by decide +kernel,by decide +kernel⟩
theorem ok_Q08 {f:Addr}{fd:FuncData}(d:Df K mg "law" s_Q08 ["_law_script"] f fd){f_Q0C:Addr}{fd_law_case:FuncData}(d_Q0C:Df K mg "_law_case" s_Q0C ["_law_script"] f_Q0C fd_law_case)(o_Q0C:FnOk P w K mg base (CXe P w) 4 f_Q0C fd_law_case ["_law_script"] (spD K (al ad) F_Q0D 1)){f_Q0E:Addr}{fd_law_cell:FuncData}(d_Q0E:Df K mg "_law_cell" s_Q0E ["_law_script","_law_k"] f_Q0E fd_law_cell)(o_Q0E:FnOk P w K mg base (CXe P w) 1 f_Q0E fd_law_cell ["_law_script","_law_k"] (spD K (al ad) F_Q0E 2)){f_Q0O:Addr}{fd_law_odd:FuncData}(d_Q0O:Df K mg "_law_odd" s_Q0O ["_law_length","_law_beat","_law_cell_here"] f_Q0O fd_law_odd)(o_Q0O:FnOk P w K mg base (CXe P w) 1 f_Q0O fd_law_odd ["_law_length","_law_beat","_law_cell_here"] (spD K (al ad) F_Q0O 3)){f_Q0T:Addr}{fd_law_said:FuncData}(d_Q0T:Df K mg "_law_said" s_Q0T ["_law_way","_law_length","_law_beat"] f_Q0T fd_law_said)(o_Q0T:FnOk P w K mg base (CXe P w) 9 f_Q0T fd_law_said ["_law_way","_law_length","_law_beat"] (spD K (al ad) F_Q0U 3)){f_Q0G:Addr}{fd_law_first:FuncData}(d_Q0G:Df K mg "_law_first" s_Q0G ["_law_length","_law_beat"] f_Q0G fd_law_first)(o_Q0G:FnOk P w K mg base (CXe P w) 3 f_Q0G fd_law_first ["_law_length","_law_beat"] (spD K (al ad) F_Q0G 2)){f_Q0V:Addr}{fd_law_second:FuncData}(d_Q0V:Df K mg "_law_second" s_Q0V ["_law_length","_law_beat"] f_Q0V fd_law_second)(o_Q0V:FnOk P w K mg base (CXe P w) 3 f_Q0V fd_law_second ["_law_length","_law_beat"] (spD K (al ad) F_Q0V 2)){f_Q10:Addr}{fd_made_partner:FuncData}(d_Q10:Df K mg "made_partner" s_Q10 ["length","beat"] f_Q10 fd_made_partner)(o_Q10:FnOk P w K mg base (CXe P w) 7 f_Q10 fd_made_partner ["length","beat"] (spD K (al ad) F_Q10 2))(z_list:mg "list"=none)(z_range:mg "range"=none)(z_isinstance:mg "isinstance"=none) :
  FnOk P w K mg base (CXe P w) 10 f fd ["_law_script"] (spD K (al ad) F_Q0J 1):=by
 have nd:=sc_law.nd
 refine Df.is cxe_ok ["_law_script","_law_length","_law_beat","_law_handed","_law_number","_law_wheel","_law_odd_here","_law_way"] 9 b_Q0J d sc_law rfl rfl rfl λ cdv A outer s H E hr=>?_
 exact(ah (my [0] (xs:=[1,2]) (av d_Q0C o_Q0C hr (by decide) rfl (ac (aa 0) aj)) (bE (i:=1) (bE (i:=2) il nd rfl (Or.inl rfl)) nd rfl (Or.inl rfl)) rfl) (ah (aq (i:=3) (mY z_list rfl (aa 2)) nd rfl (Or.inl rfl)) (ah (aq (i:=4) (az (aR (av d_Q0E o_Q0E hr (by decide) rfl (ac (aa 0) (ac ag aj))) ag) ag) nd rfl (Or.inl rfl)) (ah (aq (i:=5) (be (aC (ac ag (ac ag (ac (aA ag (aa 4)) (ac (b8 (dm ag) (aa 4)) aj))))) (az (aa 4) ag)) nd rfl (Or.inl rfl)) (ah (fm [1,2,4] (i:=6) (av d_Q0O o_Q0O hr (by decide) rfl (ac (aa 1) (ac (aa 2) (ac (bC (aa 4) ag) aj)))) nd rfl (Or.inl rfl)) (ah (bn [] (i:=7) (bJ rfl z_range ag) (ah (bc (kD (av d_Q0T o_Q0T hr (by decide) rfl (ac (aa 7) (ac (aa 5) (ac (be (aC (ac (aa 3) (ac (aa 6) aj))) (az (bC (aa 4) ag) ag)) aj)))) (aC (ac bA (ac bA (ac bA (ac bA (ac bA (ac bA aj)))))))) (ao (aK bA)) aT) (ao (bc (kD (av d_Q0T o_Q0T hr (by decide) rfl (ac (aa 7) (ac (aa 1) (ac (aa 6) aj)))) (aC (ac bA (ac bA (ac bA (ac bA (ac bA (ac bA aj)))))))) (ao (aK bA)) aT))) nd rfl (Or.inl rfl)) (ah (bc (gG (eA (cR (av d_Q0G o_Q0G hr (by decide) rfl (ac (aa 1) (ac (aa 2) aj)))) (cF _ (cR (av d_Q0V o_Q0V hr (by decide) rfl (ac (aa 1) (ac (aa 2) aj))))))) (ao (bc (jK (cR (pJ z_isinstance z_list rfl rfl (av d_Q10 o_Q10 hr (by decide) rfl (ac (aa 1) (ac (aa 3) aj)))))) (ao (aK bA)) aT)) (ao (bc (kD (av d_Q0T o_Q0T hr (by decide) rfl (ac ag (ac (aa 1) (ac (aa 3) aj)))) (aC (ac bA (ac bA (ac bA (ac bA (ac bA (ac bA aj)))))))) (ao (aK bA)) aT))) (ao (aK (wD (gM (aa 3) (aa 2)) (wN (gM (av d_Q10 o_Q10 hr (by decide) rfl (ac (aa 1) (ac (bK (aa 2) cb (cc ag)) aj))) (jY z_list rfl z_range rfl (aa 1))))))))))))))
end
theorem iJ {P:List Value->Prop}(h:P []):∀ us:List Value,us.length=0->P us:=λ us hl=>(zB hl)▸h
theorem bI {P:List Value->Prop}{k:Nat}(h:∀ a (us:List Value),us.length=k->P (a::us)):∀ us:List Value,us.length=k+1->P us:=by
 intro us hl
 cases us with
 | nil=>exact absurd hl (Nat.succ_ne_zero k).symm
 | cons a r=>exact h a r (Nat.succ.inj hl)
theorem cJ {P:List Value->Prop}(h:∀ a0,P [a0]):∀ us:List Value,us.length=1->P us:=bI (P:=P) λ a0=>iJ (P:=λ us=>P (a0:: us)) (h a0)
theorem ce {P:List Value->Prop}(h:∀ a0 a1,P [a0,a1]):∀ us:List Value,us.length=2->P us:=bI (P:=P) λ a0=>bI (P:=λ us=>P (a0:: us)) λ a1=>iJ (P:=λ us=>P (a0::a1:: us)) (h a0 a1)
theorem eW {P:List Value->Prop}(h:∀ a0 a1 a2,P [a0,a1,a2]):∀ us:List Value,us.length=3->P us:=bI (P:=P) λ a0=>bI (P:=λ us=>P (a0:: us)) λ a1=>bI (P:=λ us=>P (a0::a1:: us)) λ a2=>iJ (P:=λ us=>P (a0::a1::a2:: us)) (h a0 a1 a2)
theorem yD {P:List Value->Prop}(h:∀ a0 a1 a2 a3,P [a0,a1,a2,a3]):∀ us:List Value,us.length=4->P us:=bI (P:=P) λ a0=>bI (P:=λ us=>P (a0:: us)) λ a1=>bI (P:=λ us=>P (a0::a1:: us)) λ a2=>bI (P:=λ us=>P (a0::a1::a2:: us)) λ a3=>iJ (P:=λ us=>P (a0::a1::a2::a3:: us)) (h a0 a1 a2 a3)
theorem yE {P:List Value->Prop}(h:∀ a0 a1 a2 a3 a4,P [a0,a1,a2,a3,a4]):∀ us:List Value,us.length=5->P us:=bI (P:=P) λ a0=>bI (P:=λ us=>P (a0:: us)) λ a1=>bI (P:=λ us=>P (a0::a1:: us)) λ a2=>bI (P:=λ us=>P (a0::a1::a2:: us)) λ a3=>bI (P:=λ us=>P (a0::a1::a2::a3:: us)) λ a4=>iJ (P:=λ us=>P (a0::a1::a2::a3::a4:: us)) (h a0 a1 a2 a3 a4)
theorem yC {P:List Value->Prop}(h:∀ a0 a1 a2 a3 a4 a5,P [a0,a1,a2,a3,a4,a5]):∀ us:List Value,us.length=6->P us:=bI (P:=P) λ a0=>bI (P:=λ us=>P (a0:: us)) λ a1=>bI (P:=λ us=>P (a0::a1:: us)) λ a2=>bI (P:=λ us=>P (a0::a1::a2:: us)) λ a3=>bI (P:=λ us=>P (a0::a1::a2::a3:: us)) λ a4=>bI (P:=λ us=>P (a0::a1::a2::a3::a4:: us)) λ a5=>iJ (P:=λ us=>P (a0::a1::a2::a3::a4::a5:: us)) (h a0 a1 a2 a3 a4 a5)
noncomputable abbrev adA (a0 a1 a2 a3 a4 a5 a6 a7 a8 a9 a10 a11:Addr):=sQ [("WheelError",a0),("NoWheel",a1),("NoBeat",a2),("NoPart",a3),("NoRule",a4),("NoWindow",a5),("NoPair",a6),("NoText",a7),("NoName",a8),("NoNumber",a9),("NoDeed",a10),("TooMany",a11)]
abbrev hA (K:PySem.W.Frag)(n:Str)(f:Addr):Prop:=PySem.W.nsIn K mainGlobals n=some (some (.ref f))
abbrev hL (K:PySem.W.Frag)(n:Str)(s:Stmt)(f:Addr)(oc:Value)(od:Option Addr)(kV dc pm:Value)(an:Option Addr)(cd ct:Value)(sl:Array (Option Value)):Prop:=K.lookup f=some ⟨oc,od,.func (PySem.W.fnOf n n (bQ s) (bi s) (ai s) .none kV dc pm an cd ct),sl⟩
abbrev hC (K:PySem.W.Frag)(c:Value)(n:Str):Prop:=PySem.W.codeIn K c n=true
abbrev hK (K:PySem.W.Frag)(f:Addr):Prop:=PySem.W.keepIn K (.ref f)=true
abbrev hS (K:PySem.W.Frag)(a b:Addr)(v:Bool):Prop:=PySem.W.kitOne K (.ref a) (.ref b)=some v
theorem all_mk {l:PySem.W.OpenLaw}{w:World}{K:PySem.W.Frag}{h:Heap}{mg:Str->Option Value}{fa:Addr}(X:K.In h)(G:h.Ns mainGlobals mg)(hfa:mg "law"=some (.ref fa))
    {f_Q04 f_Q03 f_Q02 f_Q0Z f_Q01 f_Q1A f_Q18 f_Q05 f_Q12 f_Q0Y f_Q11 f_Q14 f_Q07 f_Q15 f_Q13 f_Q06 f_Q19 f_Q17 f_Q16 f_Q00 f_Q10 f_Q0E f_Q0W f_Q0X f_Q09 f_Q0P f_Q0S f_Q0H f_Q0Q f_Q0G f_Q0V f_Q0F f_Q0M f_Q0N f_Q0C f_Q0A f_Q0K f_Q0T f_Q0O f_Q08 C_11 e3_B C_8 e3_8 C_0 e3_0 C_5 e3_5 C_6 e3_6 C_9 e3_9 C_4 e3_4 C_7 e3_7 C_2 e3_2 C_3 e3_3 C_1 e3_1 C_10 e3_A:Addr}{od_Q04 an_Q04 od_Q03 an_Q03 od_Q02 an_Q02 od_Q0Z an_Q0Z od_Q01 an_Q01 od_Q1A an_Q1A od_Q18 an_Q18 od_Q05 an_Q05 od_Q12 an_Q12 od_Q0Y an_Q0Y od_Q11 an_Q11 od_Q14 an_Q14 od_Q07 an_Q07 od_Q15 an_Q15 od_Q13 an_Q13 od_Q06 an_Q06 od_Q19 an_Q19 od_Q17 an_Q17 od_Q16 an_Q16 od_Q00 an_Q00 od_Q10 an_Q10 od_Q0E an_Q0E od_Q0W an_Q0W od_Q0X an_Q0X od_Q09 an_Q09 od_Q0P an_Q0P od_Q0S an_Q0S od_Q0H an_Q0H od_Q0Q an_Q0Q od_Q0G an_Q0G od_Q0V an_Q0V od_Q0F an_Q0F od_Q0M an_Q0M od_Q0N an_Q0N od_Q0C an_Q0C od_Q0A an_Q0A od_Q0K an_Q0K od_Q0T an_Q0T od_Q0O an_Q0O od_Q08 an_Q08 eB_B eB_8 eB_0 eB_5 eB_6 eB_9 eB_4 eB_7 eB_2 eB_3 eB_1 eB_A:Option Addr}{sl_Q04 sl_Q03 sl_Q02 sl_Q0Z sl_Q01 sl_Q1A sl_Q18 sl_Q05 sl_Q12 sl_Q0Y sl_Q11 sl_Q14 sl_Q07 sl_Q15 sl_Q13 sl_Q06 sl_Q19 sl_Q17 sl_Q16 sl_Q00 sl_Q10 sl_Q0E sl_Q0W sl_Q0X sl_Q09 sl_Q0P sl_Q0S sl_Q0H sl_Q0Q sl_Q0G sl_Q0V sl_Q0F sl_Q0M sl_Q0N sl_Q0C sl_Q0A sl_Q0K sl_Q0T sl_Q0O sl_Q08:Array (Option Value)}{oc_Q04 kV_Q04 dc_Q04 pm_Q04 cd_Q04 ct_Q04 oc_Q03 kV_Q03 dc_Q03 pm_Q03 cd_Q03 ct_Q03 oc_Q02 kV_Q02 dc_Q02 pm_Q02 cd_Q02 ct_Q02 oc_Q0Z kV_Q0Z dc_Q0Z pm_Q0Z cd_Q0Z ct_Q0Z oc_Q01 kV_Q01 dc_Q01 pm_Q01 cd_Q01 ct_Q01 oc_Q1A kV_Q1A dc_Q1A pm_Q1A cd_Q1A ct_Q1A oc_Q18 kV_Q18 dc_Q18 pm_Q18 cd_Q18 ct_Q18 oc_Q05 kV_Q05 dc_Q05 pm_Q05 cd_Q05 ct_Q05 oc_Q12 kV_Q12 dc_Q12 pm_Q12 cd_Q12 ct_Q12 oc_Q0Y kV_Q0Y dc_Q0Y pm_Q0Y cd_Q0Y ct_Q0Y oc_Q11 kV_Q11 dc_Q11 pm_Q11 cd_Q11 ct_Q11 oc_Q14 kV_Q14 dc_Q14 pm_Q14 cd_Q14 ct_Q14 oc_Q07 kV_Q07 dc_Q07 pm_Q07 cd_Q07 ct_Q07 oc_Q15 kV_Q15 dc_Q15 pm_Q15 cd_Q15 ct_Q15 oc_Q13 kV_Q13 dc_Q13 pm_Q13 cd_Q13 ct_Q13 oc_Q06 kV_Q06 dc_Q06 pm_Q06 cd_Q06 ct_Q06 oc_Q19 kV_Q19 dc_Q19 pm_Q19 cd_Q19 ct_Q19 oc_Q17 kV_Q17 dc_Q17 pm_Q17 cd_Q17 ct_Q17 oc_Q16 kV_Q16 dc_Q16 pm_Q16 cd_Q16 ct_Q16 oc_Q00 kV_Q00 dc_Q00 pm_Q00 cd_Q00 ct_Q00 oc_Q10 kV_Q10 dc_Q10 pm_Q10 cd_Q10 ct_Q10 oc_Q0E kV_Q0E dc_Q0E pm_Q0E cd_Q0E ct_Q0E oc_Q0W kV_Q0W dc_Q0W pm_Q0W cd_Q0W ct_Q0W oc_Q0X kV_Q0X dc_Q0X pm_Q0X cd_Q0X ct_Q0X oc_Q09 kV_Q09 dc_Q09 pm_Q09 cd_Q09 ct_Q09 oc_Q0P kV_Q0P dc_Q0P pm_Q0P cd_Q0P ct_Q0P oc_Q0S kV_Q0S dc_Q0S pm_Q0S cd_Q0S ct_Q0S oc_Q0H kV_Q0H dc_Q0H pm_Q0H cd_Q0H ct_Q0H oc_Q0Q kV_Q0Q dc_Q0Q pm_Q0Q cd_Q0Q ct_Q0Q oc_Q0G kV_Q0G dc_Q0G pm_Q0G cd_Q0G ct_Q0G oc_Q0V kV_Q0V dc_Q0V pm_Q0V cd_Q0V ct_Q0V oc_Q0F kV_Q0F dc_Q0F pm_Q0F cd_Q0F ct_Q0F oc_Q0M kV_Q0M dc_Q0M pm_Q0M cd_Q0M ct_Q0M oc_Q0N kV_Q0N dc_Q0N pm_Q0N cd_Q0N ct_Q0N oc_Q0C kV_Q0C dc_Q0C pm_Q0C cd_Q0C ct_Q0C oc_Q0A kV_Q0A dc_Q0A pm_Q0A cd_Q0A ct_Q0A oc_Q0K kV_Q0K dc_Q0K pm_Q0K cd_Q0K ct_Q0K oc_Q0T kV_Q0T dc_Q0T pm_Q0T cd_Q0T ct_Q0T oc_Q0O kV_Q0O dc_Q0O pm_Q0O cd_Q0O ct_Q0O oc_Q08 kV_Q08 dc_Q08 pm_Q08 cd_Q08 ct_Q08:Value}{t_LONGEST t_LAST_PART:Tok}{e1_B e2_B e1_8 e2_8 e1_0 e2_0 e1_5 e2_5 e1_6 e2_6 e1_9 e2_9 e1_4 e2_4 e1_7 e2_7 e1_2 e2_2 e1_3 e2_3 e1_1 e2_1 e1_A e2_A:Str}{e4_B e5_B e8_B e4_8 e5_8 e8_8 e4_0 e5_0 e8_0 e4_5 e5_5 e8_5 e4_6 e5_6 e8_6 e4_9 e5_9 e8_9 e4_4 e5_4 e8_4 e4_7 e5_7 e8_7 e4_2 e5_2 e8_2 e4_3 e5_3 e8_3 e4_1 e5_1 e8_1 e4_A e5_A e8_A:List Value}{e6_B e9_B e6_8 e9_8 e6_0 e9_0 e6_5 e9_5 e6_6 e9_6 e6_9 e9_9 e6_4 e9_4 e6_7 e9_7 e6_2 e9_2 e6_3 e9_3 e6_1 e9_1 e6_A e9_A:Bool}{e7_B e7_8 e7_0 e7_5 e7_6 e7_9 e7_4 e7_7 e7_2 e7_3 e7_1 e7_A:List Str}{eA_B eA_8 eA_0 eA_5 eA_6 eA_9 eA_4 eA_7 eA_2 eA_3 eA_1 eA_A:Option Bool}{eC_B eD_B eE_B eF_B eG_B eC_8 eD_8 eE_8 eF_8 eG_8 eC_0 eD_0 eE_0 eF_0 eG_0 eC_5 eD_5 eE_5 eF_5 eG_5 eC_6 eD_6 eE_6 eF_6 eG_6 eC_9 eD_9 eE_9 eF_9 eG_9 eC_4 eD_4 eE_4 eF_4 eG_4 eC_7 eD_7 eE_7 eF_7 eG_7 eC_2 eD_2 eE_2 eF_2 eG_2 eC_3 eD_3 eE_3 eF_3 eG_3 eC_1 eD_1 eE_1 eF_1 eG_1 eC_A eD_A eE_A eF_A eG_A:Option Value}
    (a_Q04:hA K "check_wheel" f_Q04) (l_Q04:hL K "check_wheel" s_Q04 f_Q04 oc_Q04 od_Q04 kV_Q04 dc_Q04 pm_Q04 an_Q04 cd_Q04 ct_Q04 sl_Q04) (c_Q04:hC K cd_Q04 "check_wheel") (k_Q04:hK K f_Q04)
    (a_Q03:hA K "check_rising" f_Q03) (l_Q03:hL K "check_rising" s_Q03 f_Q03 oc_Q03 od_Q03 kV_Q03 dc_Q03 pm_Q03 an_Q03 cd_Q03 ct_Q03 sl_Q03) (c_Q03:hC K cd_Q03 "check_rising") (k_Q03:hK K f_Q03)
    (a_Q02:hA K "check_beat" f_Q02) (l_Q02:hL K "check_beat" s_Q02 f_Q02 oc_Q02 od_Q02 kV_Q02 dc_Q02 pm_Q02 an_Q02 cd_Q02 ct_Q02 sl_Q02) (c_Q02:hC K cd_Q02 "check_beat") (k_Q02:hK K f_Q02)
    (a_Q0Z:hA K "made_beat" f_Q0Z) (l_Q0Z:hL K "made_beat" s_Q0Z f_Q0Z oc_Q0Z od_Q0Z kV_Q0Z dc_Q0Z pm_Q0Z an_Q0Z cd_Q0Z ct_Q0Z sl_Q0Z) (c_Q0Z:hC K cd_Q0Z "made_beat") (k_Q0Z:hK K f_Q0Z)
    (a_Q01:hA K "beat_sum" f_Q01) (l_Q01:hL K "beat_sum" s_Q01 f_Q01 oc_Q01 od_Q01 kV_Q01 dc_Q01 pm_Q01 an_Q01 cd_Q01 ct_Q01 sl_Q01) (c_Q01:hC K cd_Q01 "beat_sum") (k_Q01:hK K f_Q01)
    (a_Q1A:hA K "without_last_noughts" f_Q1A) (l_Q1A:hL K "without_last_noughts" s_Q1A f_Q1A oc_Q1A od_Q1A kV_Q1A dc_Q1A pm_Q1A an_Q1A cd_Q1A ct_Q1A sl_Q1A) (c_Q1A:hC K cd_Q1A "without_last_noughts") (k_Q1A:hK K f_Q1A)
    (a_Q18:hA K "sum_divided" f_Q18) (l_Q18:hL K "sum_divided" s_Q18 f_Q18 oc_Q18 od_Q18 kV_Q18 dc_Q18 pm_Q18 an_Q18 cd_Q18 ct_Q18 sl_Q18) (c_Q18:hC K cd_Q18 "sum_divided") (k_Q18:hK K f_Q18)
    (a_Q05:hA K "divisors" f_Q05) (l_Q05:hL K "divisors" s_Q05 f_Q05 oc_Q05 od_Q05 kV_Q05 dc_Q05 pm_Q05 an_Q05 cd_Q05 ct_Q05 sl_Q05) (c_Q05:hC K cd_Q05 "divisors") (k_Q05:hK K f_Q05)
    (a_Q12:hA K "parts_of_divisors" f_Q12) (l_Q12:hL K "parts_of_divisors" s_Q12 f_Q12 oc_Q12 od_Q12 kV_Q12 dc_Q12 pm_Q12 an_Q12 cd_Q12 ct_Q12 sl_Q12) (c_Q12:hC K cd_Q12 "parts_of_divisors") (k_Q12:hK K f_Q12)
    (a_Q0Y:hA K "leaves_nought" f_Q0Y) (l_Q0Y:hL K "leaves_nought" s_Q0Y f_Q0Y oc_Q0Y od_Q0Y kV_Q0Y dc_Q0Y pm_Q0Y an_Q0Y cd_Q0Y ct_Q0Y sl_Q0Y) (c_Q0Y:hC K cd_Q0Y "leaves_nought") (k_Q0Y:hK K f_Q0Y)
    (a_Q11:hA K "parts_had" f_Q11) (l_Q11:hL K "parts_had" s_Q11 f_Q11 oc_Q11 od_Q11 kV_Q11 dc_Q11 pm_Q11 an_Q11 cd_Q11 ct_Q11 sl_Q11) (c_Q11:hC K cd_Q11 "parts_had") (k_Q11:hK K f_Q11)
    (a_Q14:hA K "prime_of" f_Q14) (l_Q14:hL K "prime_of" s_Q14 f_Q14 oc_Q14 od_Q14 kV_Q14 dc_Q14 pm_Q14 an_Q14 cd_Q14 ct_Q14 sl_Q14) (c_Q14:hC K cd_Q14 "prime_of") (k_Q14:hK K f_Q14)
    (a_Q07:hA K "has_one_prime" f_Q07) (l_Q07:hL K "has_one_prime" s_Q07 f_Q07 oc_Q07 od_Q07 kV_Q07 dc_Q07 pm_Q07 an_Q07 cd_Q07 ct_Q07 sl_Q07) (c_Q07:hC K cd_Q07 "has_one_prime") (k_Q07:hK K f_Q07)
    (a_Q15:hA K "prime_powers" f_Q15) (l_Q15:hL K "prime_powers" s_Q15 f_Q15 oc_Q15 od_Q15 kV_Q15 dc_Q15 pm_Q15 an_Q15 cd_Q15 ct_Q15 sl_Q15) (c_Q15:hC K cd_Q15 "prime_powers") (k_Q15:hK K f_Q15)
    (a_Q13:hA K "powers_had" f_Q13) (l_Q13:hL K "powers_had" s_Q13 f_Q13 oc_Q13 od_Q13 kV_Q13 dc_Q13 pm_Q13 an_Q13 cd_Q13 ct_Q13 sl_Q13) (c_Q13:hC K cd_Q13 "powers_had") (k_Q13:hK K f_Q13)
    (a_Q06:hA K "first_rule" f_Q06) (l_Q06:hL K "first_rule" s_Q06 f_Q06 oc_Q06 od_Q06 kV_Q06 dc_Q06 pm_Q06 an_Q06 cd_Q06 ct_Q06 sl_Q06) (c_Q06:hC K cd_Q06 "first_rule") (k_Q06:hK K f_Q06)
    (a_Q19:hA K "unlike_products" f_Q19) (l_Q19:hL K "unlike_products" s_Q19 f_Q19 oc_Q19 od_Q19 kV_Q19 dc_Q19 pm_Q19 an_Q19 cd_Q19 ct_Q19 sl_Q19) (c_Q19:hC K cd_Q19 "unlike_products") (k_Q19:hK K f_Q19)
    (a_Q17:hA K "second_rule" f_Q17) (l_Q17:hL K "second_rule" s_Q17 f_Q17 oc_Q17 od_Q17 kV_Q17 dc_Q17 pm_Q17 an_Q17 cd_Q17 ct_Q17 sl_Q17) (c_Q17:hC K cd_Q17 "second_rule") (k_Q17:hK K f_Q17)
    (a_Q16:hA K "row_of_power" f_Q16) (l_Q16:hL K "row_of_power" s_Q16 f_Q16 oc_Q16 od_Q16 kV_Q16 dc_Q16 pm_Q16 an_Q16 cd_Q16 ct_Q16 sl_Q16) (c_Q16:hC K cd_Q16 "row_of_power") (k_Q16:hK K f_Q16)
    (a_Q00:hA K "all_added" f_Q00) (l_Q00:hL K "all_added" s_Q00 f_Q00 oc_Q00 od_Q00 kV_Q00 dc_Q00 pm_Q00 an_Q00 cd_Q00 ct_Q00 sl_Q00) (c_Q00:hC K cd_Q00 "all_added") (k_Q00:hK K f_Q00)
    (a_Q10:hA K "made_partner" f_Q10) (l_Q10:hL K "made_partner" s_Q10 f_Q10 oc_Q10 od_Q10 kV_Q10 dc_Q10 pm_Q10 an_Q10 cd_Q10 ct_Q10 sl_Q10) (c_Q10:hC K cd_Q10 "made_partner") (k_Q10:hK K f_Q10)
    (a_Q0E:hA K "_law_cell" f_Q0E) (l_Q0E:hL K "_law_cell" s_Q0E f_Q0E oc_Q0E od_Q0E kV_Q0E dc_Q0E pm_Q0E an_Q0E cd_Q0E ct_Q0E sl_Q0E) (c_Q0E:hC K cd_Q0E "_law_cell") (k_Q0E:hK K f_Q0E)
    (a_Q0W:hA K "_law_some" f_Q0W) (l_Q0W:hL K "_law_some" s_Q0W f_Q0W oc_Q0W od_Q0W kV_Q0W dc_Q0W pm_Q0W an_Q0W cd_Q0W ct_Q0W sl_Q0W) (c_Q0W:hC K cd_Q0W "_law_some") (k_Q0W:hK K f_Q0W)
    (a_Q0X:hA K "_law_turned" f_Q0X) (l_Q0X:hL K "_law_turned" s_Q0X f_Q0X oc_Q0X od_Q0X kV_Q0X dc_Q0X pm_Q0X an_Q0X cd_Q0X ct_Q0X sl_Q0X) (c_Q0X:hC K cd_Q0X "_law_turned") (k_Q0X:hK K f_Q0X)
    (a_Q09:hA K "_law_again" f_Q09) (l_Q09:hL K "_law_again" s_Q09 f_Q09 oc_Q09 od_Q09 kV_Q09 dc_Q09 pm_Q09 an_Q09 cd_Q09 ct_Q09 sl_Q09) (c_Q09:hC K cd_Q09 "_law_again") (k_Q09:hK K f_Q09)
    (a_Q0P:hA K "_law_pair" f_Q0P) (l_Q0P:hL K "_law_pair" s_Q0P f_Q0P oc_Q0P od_Q0P kV_Q0P dc_Q0P pm_Q0P an_Q0P cd_Q0P ct_Q0P sl_Q0P) (c_Q0P:hC K cd_Q0P "_law_pair") (k_Q0P:hK K f_Q0P)
    (a_Q0S:hA K "_law_primes" f_Q0S) (l_Q0S:hL K "_law_primes" s_Q0S f_Q0S oc_Q0S od_Q0S kV_Q0S dc_Q0S pm_Q0S an_Q0S cd_Q0S ct_Q0S sl_Q0S) (c_Q0S:hC K cd_Q0S "_law_primes") (k_Q0S:hK K f_Q0S)
    (a_Q0H:hA K "_law_has" f_Q0H) (l_Q0H:hL K "_law_has" s_Q0H f_Q0H oc_Q0H od_Q0H kV_Q0H dc_Q0H pm_Q0H an_Q0H cd_Q0H ct_Q0H sl_Q0H) (c_Q0H:hC K cd_Q0H "_law_has") (k_Q0H:hK K f_Q0H)
    (a_Q0Q:hA K "_law_powers" f_Q0Q) (l_Q0Q:hL K "_law_powers" s_Q0Q f_Q0Q oc_Q0Q od_Q0Q kV_Q0Q dc_Q0Q pm_Q0Q an_Q0Q cd_Q0Q ct_Q0Q sl_Q0Q) (c_Q0Q:hC K cd_Q0Q "_law_powers") (k_Q0Q:hK K f_Q0Q)
    (a_Q0G:hA K "_law_first" f_Q0G) (l_Q0G:hL K "_law_first" s_Q0G f_Q0G oc_Q0G od_Q0G kV_Q0G dc_Q0G pm_Q0G an_Q0G cd_Q0G ct_Q0G sl_Q0G) (c_Q0G:hC K cd_Q0G "_law_first") (k_Q0G:hK K f_Q0G)
    (a_Q0V:hA K "_law_second" f_Q0V) (l_Q0V:hL K "_law_second" s_Q0V f_Q0V oc_Q0V od_Q0V kV_Q0V dc_Q0V pm_Q0V an_Q0V cd_Q0V ct_Q0V sl_Q0V) (c_Q0V:hC K cd_Q0V "_law_second") (k_Q0V:hK K f_Q0V)
    (a_Q0F:hA K "_law_evened" f_Q0F) (l_Q0F:hL K "_law_evened" s_Q0F f_Q0F oc_Q0F od_Q0F kV_Q0F dc_Q0F pm_Q0F an_Q0F cd_Q0F ct_Q0F sl_Q0F) (c_Q0F:hC K cd_Q0F "_law_evened") (k_Q0F:hK K f_Q0F)
    (a_Q0M:hA K "_law_lifted" f_Q0M) (l_Q0M:hL K "_law_lifted" s_Q0M f_Q0M oc_Q0M od_Q0M kV_Q0M dc_Q0M pm_Q0M an_Q0M cd_Q0M ct_Q0M sl_Q0M) (c_Q0M:hC K cd_Q0M "_law_lifted") (k_Q0M:hK K f_Q0M)
    (a_Q0N:hA K "_law_moved" f_Q0N) (l_Q0N:hL K "_law_moved" s_Q0N f_Q0N oc_Q0N od_Q0N kV_Q0N dc_Q0N pm_Q0N an_Q0N cd_Q0N ct_Q0N sl_Q0N) (c_Q0N:hC K cd_Q0N "_law_moved") (k_Q0N:hK K f_Q0N)
    (a_Q0C:hA K "_law_case" f_Q0C) (l_Q0C:hL K "_law_case" s_Q0C f_Q0C oc_Q0C od_Q0C kV_Q0C dc_Q0C pm_Q0C an_Q0C cd_Q0C ct_Q0C sl_Q0C) (c_Q0C:hC K cd_Q0C "_law_case") (k_Q0C:hK K f_Q0C)
    (a_Q0A:hA K "_law_asked" f_Q0A) (l_Q0A:hL K "_law_asked" s_Q0A f_Q0A oc_Q0A od_Q0A kV_Q0A dc_Q0A pm_Q0A an_Q0A cd_Q0A ct_Q0A sl_Q0A) (c_Q0A:hC K cd_Q0A "_law_asked") (k_Q0A:hK K f_Q0A)
    (a_Q0K:hA K "_law_kinds" f_Q0K) (l_Q0K:hL K "_law_kinds" s_Q0K f_Q0K oc_Q0K od_Q0K kV_Q0K dc_Q0K pm_Q0K an_Q0K cd_Q0K ct_Q0K sl_Q0K) (c_Q0K:hC K cd_Q0K "_law_kinds") (k_Q0K:hK K f_Q0K)
    (a_Q0T:hA K "_law_said" f_Q0T) (l_Q0T:hL K "_law_said" s_Q0T f_Q0T oc_Q0T od_Q0T kV_Q0T dc_Q0T pm_Q0T an_Q0T cd_Q0T ct_Q0T sl_Q0T) (c_Q0T:hC K cd_Q0T "_law_said") (k_Q0T:hK K f_Q0T)
    (a_Q0O:hA K "_law_odd" f_Q0O) (l_Q0O:hL K "_law_odd" s_Q0O f_Q0O oc_Q0O od_Q0O kV_Q0O dc_Q0O pm_Q0O an_Q0O cd_Q0O ct_Q0O sl_Q0O) (c_Q0O:hC K cd_Q0O "_law_odd") (k_Q0O:hK K f_Q0O)
    (a_Q08:hA K "law" f_Q08) (l_Q08:hL K "law" s_Q08 f_Q08 oc_Q08 od_Q08 kV_Q08 dc_Q08 pm_Q08 an_Q08 cd_Q08 ct_Q08 sl_Q08) (c_Q08:hC K cd_Q08 "law") (k_Q08:hK K f_Q08)
    (z_len:PySem.W.nsIn K mainGlobals "len"=some none) (z_sorted:PySem.W.nsIn K mainGlobals "sorted"=some none) (z_list:PySem.W.nsIn K mainGlobals "list"=some none) (z_range:PySem.W.nsIn K mainGlobals "range"=some none) (z_enumerate:PySem.W.nsIn K mainGlobals "enumerate"=some none) (z_all:PySem.W.nsIn K mainGlobals "all"=some none) (z_max:PySem.W.nsIn K mainGlobals "max"=some none) (z_min:PySem.W.nsIn K mainGlobals "min"=some none) (z_isinstance:PySem.W.nsIn K mainGlobals "isinstance"=some none) (z_ValueError:PySem.W.nsIn K mainGlobals "ValueError"=some none) (n_LONGEST:PySem.W.nsIn K mainGlobals "LONGEST"=some (some (.int 60 t_LONGEST))) (n_LAST_PART:PySem.W.nsIn K mainGlobals "LAST_PART"=some (some (.int 60 t_LAST_PART)))
   (a_B:hA K "WheelError" C_11) (x_B:PySem.W.excIn K C_11 [.type "ValueError",.type "Exception",.type "BaseException",.type "object"] "ValueError.__new__"=true) (g1_B:PySem.W.findIn K (.ref C_11) "__getattribute__"=some (some (.builtin "BaseException.__getattribute__"))) (g2_B:PySem.W.findIn K (.ref C_11) "__getattr__"=some none) (g3_B:PySem.W.findIn K (.ref C_11) "__class__"=some (some (.builtin "object.__class__"))) (v_B:PySem.W.kitOne K (.ref C_11) (.type "ValueError")=some true) (y_B:K.lookup C_11=some (excClassObj e1_B e2_B C_11 e3_B e4_B e5_B e6_B e7_B e8_B e9_B eA_B eB_B eC_B eD_B eE_B eF_B eG_B "ValueError.__new__"))
   (a_8:hA K "NoWheel" C_8) (x_8:PySem.W.excIn K C_8 [.type "ValueError",.type "Exception",.type "BaseException",.type "object"] "ValueError.__new__"=true) (g1_8:PySem.W.findIn K (.ref C_8) "__getattribute__"=some (some (.builtin "BaseException.__getattribute__"))) (g2_8:PySem.W.findIn K (.ref C_8) "__getattr__"=some none) (g3_8:PySem.W.findIn K (.ref C_8) "__class__"=some (some (.builtin "object.__class__"))) (v_8:PySem.W.kitOne K (.ref C_8) (.type "ValueError")=some true) (y_8:K.lookup C_8=some (excClassObj e1_8 e2_8 C_8 e3_8 e4_8 e5_8 e6_8 e7_8 e8_8 e9_8 eA_8 eB_8 eC_8 eD_8 eE_8 eF_8 eG_8 "ValueError.__new__"))
   (a_0:hA K "NoBeat" C_0) (x_0:PySem.W.excIn K C_0 [.type "ValueError",.type "Exception",.type "BaseException",.type "object"] "ValueError.__new__"=true) (g1_0:PySem.W.findIn K (.ref C_0) "__getattribute__"=some (some (.builtin "BaseException.__getattribute__"))) (g2_0:PySem.W.findIn K (.ref C_0) "__getattr__"=some none) (g3_0:PySem.W.findIn K (.ref C_0) "__class__"=some (some (.builtin "object.__class__"))) (v_0:PySem.W.kitOne K (.ref C_0) (.type "ValueError")=some true) (y_0:K.lookup C_0=some (excClassObj e1_0 e2_0 C_0 e3_0 e4_0 e5_0 e6_0 e7_0 e8_0 e9_0 eA_0 eB_0 eC_0 eD_0 eE_0 eF_0 eG_0 "ValueError.__new__"))
   (a_5:hA K "NoPart" C_5) (x_5:PySem.W.excIn K C_5 [.type "ValueError",.type "Exception",.type "BaseException",.type "object"] "ValueError.__new__"=true) (g1_5:PySem.W.findIn K (.ref C_5) "__getattribute__"=some (some (.builtin "BaseException.__getattribute__"))) (g2_5:PySem.W.findIn K (.ref C_5) "__getattr__"=some none) (g3_5:PySem.W.findIn K (.ref C_5) "__class__"=some (some (.builtin "object.__class__"))) (v_5:PySem.W.kitOne K (.ref C_5) (.type "ValueError")=some true) (y_5:K.lookup C_5=some (excClassObj e1_5 e2_5 C_5 e3_5 e4_5 e5_5 e6_5 e7_5 e8_5 e9_5 eA_5 eB_5 eC_5 eD_5 eE_5 eF_5 eG_5 "ValueError.__new__"))
   (a_6:hA K "NoRule" C_6) (x_6:PySem.W.excIn K C_6 [.type "ValueError",.type "Exception",.type "BaseException",.type "object"] "ValueError.__new__"=true) (g1_6:PySem.W.findIn K (.ref C_6) "__getattribute__"=some (some (.builtin "BaseException.__getattribute__"))) (g2_6:PySem.W.findIn K (.ref C_6) "__getattr__"=some none) (g3_6:PySem.W.findIn K (.ref C_6) "__class__"=some (some (.builtin "object.__class__"))) (v_6:PySem.W.kitOne K (.ref C_6) (.type "ValueError")=some true) (y_6:K.lookup C_6=some (excClassObj e1_6 e2_6 C_6 e3_6 e4_6 e5_6 e6_6 e7_6 e8_6 e9_6 eA_6 eB_6 eC_6 eD_6 eE_6 eF_6 eG_6 "ValueError.__new__"))
   (a_9:hA K "NoWindow" C_9) (x_9:PySem.W.excIn K C_9 [.type "ValueError",.type "Exception",.type "BaseException",.type "object"] "ValueError.__new__"=true) (g1_9:PySem.W.findIn K (.ref C_9) "__getattribute__"=some (some (.builtin "BaseException.__getattribute__"))) (g2_9:PySem.W.findIn K (.ref C_9) "__getattr__"=some none) (g3_9:PySem.W.findIn K (.ref C_9) "__class__"=some (some (.builtin "object.__class__"))) (v_9:PySem.W.kitOne K (.ref C_9) (.type "ValueError")=some true) (y_9:K.lookup C_9=some (excClassObj e1_9 e2_9 C_9 e3_9 e4_9 e5_9 e6_9 e7_9 e8_9 e9_9 eA_9 eB_9 eC_9 eD_9 eE_9 eF_9 eG_9 "ValueError.__new__"))
   (a_4:hA K "NoPair" C_4) (x_4:PySem.W.excIn K C_4 [.type "ValueError",.type "Exception",.type "BaseException",.type "object"] "ValueError.__new__"=true) (g1_4:PySem.W.findIn K (.ref C_4) "__getattribute__"=some (some (.builtin "BaseException.__getattribute__"))) (g2_4:PySem.W.findIn K (.ref C_4) "__getattr__"=some none) (g3_4:PySem.W.findIn K (.ref C_4) "__class__"=some (some (.builtin "object.__class__"))) (v_4:PySem.W.kitOne K (.ref C_4) (.type "ValueError")=some true) (y_4:K.lookup C_4=some (excClassObj e1_4 e2_4 C_4 e3_4 e4_4 e5_4 e6_4 e7_4 e8_4 e9_4 eA_4 eB_4 eC_4 eD_4 eE_4 eF_4 eG_4 "ValueError.__new__"))
   (a_7:hA K "NoText" C_7) (x_7:PySem.W.excIn K C_7 [.type "ValueError",.type "Exception",.type "BaseException",.type "object"] "ValueError.__new__"=true) (g1_7:PySem.W.findIn K (.ref C_7) "__getattribute__"=some (some (.builtin "BaseException.__getattribute__"))) (g2_7:PySem.W.findIn K (.ref C_7) "__getattr__"=some none) (g3_7:PySem.W.findIn K (.ref C_7) "__class__"=some (some (.builtin "object.__class__"))) (v_7:PySem.W.kitOne K (.ref C_7) (.type "ValueError")=some true) (y_7:K.lookup C_7=some (excClassObj e1_7 e2_7 C_7 e3_7 e4_7 e5_7 e6_7 e7_7 e8_7 e9_7 eA_7 eB_7 eC_7 eD_7 eE_7 eF_7 eG_7 "ValueError.__new__"))
   (a_2:hA K "NoName" C_2) (x_2:PySem.W.excIn K C_2 [.type "ValueError",.type "Exception",.type "BaseException",.type "object"] "ValueError.__new__"=true) (g1_2:PySem.W.findIn K (.ref C_2) "__getattribute__"=some (some (.builtin "BaseException.__getattribute__"))) (g2_2:PySem.W.findIn K (.ref C_2) "__getattr__"=some none) (g3_2:PySem.W.findIn K (.ref C_2) "__class__"=some (some (.builtin "object.__class__"))) (v_2:PySem.W.kitOne K (.ref C_2) (.type "ValueError")=some true) (y_2:K.lookup C_2=some (excClassObj e1_2 e2_2 C_2 e3_2 e4_2 e5_2 e6_2 e7_2 e8_2 e9_2 eA_2 eB_2 eC_2 eD_2 eE_2 eF_2 eG_2 "ValueError.__new__"))
   (a_3:hA K "NoNumber" C_3) (x_3:PySem.W.excIn K C_3 [.type "ValueError",.type "Exception",.type "BaseException",.type "object"] "ValueError.__new__"=true) (g1_3:PySem.W.findIn K (.ref C_3) "__getattribute__"=some (some (.builtin "BaseException.__getattribute__"))) (g2_3:PySem.W.findIn K (.ref C_3) "__getattr__"=some none) (g3_3:PySem.W.findIn K (.ref C_3) "__class__"=some (some (.builtin "object.__class__"))) (v_3:PySem.W.kitOne K (.ref C_3) (.type "ValueError")=some true) (y_3:K.lookup C_3=some (excClassObj e1_3 e2_3 C_3 e3_3 e4_3 e5_3 e6_3 e7_3 e8_3 e9_3 eA_3 eB_3 eC_3 eD_3 eE_3 eF_3 eG_3 "ValueError.__new__"))
   (a_1:hA K "NoDeed" C_1) (x_1:PySem.W.excIn K C_1 [.type "ValueError",.type "Exception",.type "BaseException",.type "object"] "ValueError.__new__"=true) (g1_1:PySem.W.findIn K (.ref C_1) "__getattribute__"=some (some (.builtin "BaseException.__getattribute__"))) (g2_1:PySem.W.findIn K (.ref C_1) "__getattr__"=some none) (g3_1:PySem.W.findIn K (.ref C_1) "__class__"=some (some (.builtin "object.__class__"))) (v_1:PySem.W.kitOne K (.ref C_1) (.type "ValueError")=some true) (y_1:K.lookup C_1=some (excClassObj e1_1 e2_1 C_1 e3_1 e4_1 e5_1 e6_1 e7_1 e8_1 e9_1 eA_1 eB_1 eC_1 eD_1 eE_1 eF_1 eG_1 "ValueError.__new__"))
   (a_A:hA K "TooMany" C_10) (x_A:PySem.W.excIn K C_10 [.type "ValueError",.type "Exception",.type "BaseException",.type "object"] "ValueError.__new__"=true) (g1_A:PySem.W.findIn K (.ref C_10) "__getattribute__"=some (some (.builtin "BaseException.__getattribute__"))) (g2_A:PySem.W.findIn K (.ref C_10) "__getattr__"=some none) (g3_A:PySem.W.findIn K (.ref C_10) "__class__"=some (some (.builtin "object.__class__"))) (v_A:PySem.W.kitOne K (.ref C_10) (.type "ValueError")=some true) (y_A:K.lookup C_10=some (excClassObj e1_A e2_A C_10 e3_A e4_A e5_A e6_A e7_A e8_A e9_A eA_A eB_A eC_A eD_A eE_A eF_A eG_A "ValueError.__new__"))
   (s_BB:hS K C_11 C_11 true)
   (s_B8:hS K C_11 C_8 false)
   (s_B0:hS K C_11 C_0 false)
   (s_B5:hS K C_11 C_5 false)
   (s_B6:hS K C_11 C_6 false)
   (s_B9:hS K C_11 C_9 false)
   (s_B4:hS K C_11 C_4 false)
   (s_B7:hS K C_11 C_7 false)
   (s_B2:hS K C_11 C_2 false)
   (s_B3:hS K C_11 C_3 false)
   (s_B1:hS K C_11 C_1 false)
   (s_BA:hS K C_11 C_10 false)
   (s_8B:hS K C_8 C_11 true)
   (s_88:hS K C_8 C_8 true)
   (s_80:hS K C_8 C_0 false)
   (s_85:hS K C_8 C_5 false)
   (s_86:hS K C_8 C_6 false)
   (s_89:hS K C_8 C_9 false)
   (s_84:hS K C_8 C_4 false)
   (s_87:hS K C_8 C_7 false)
   (s_82:hS K C_8 C_2 false)
   (s_83:hS K C_8 C_3 false)
   (s_81:hS K C_8 C_1 false)
   (s_8A:hS K C_8 C_10 false)
   (s_0B:hS K C_0 C_11 true)
   (s_08:hS K C_0 C_8 false)
   (s_00:hS K C_0 C_0 true)
   (s_05:hS K C_0 C_5 false)
   (s_06:hS K C_0 C_6 false)
   (s_09:hS K C_0 C_9 false)
   (s_04:hS K C_0 C_4 false)
   (s_07:hS K C_0 C_7 false)
   (s_02:hS K C_0 C_2 false)
   (s_03:hS K C_0 C_3 false)
   (s_01:hS K C_0 C_1 false)
   (s_0A:hS K C_0 C_10 false)
   (s_5B:hS K C_5 C_11 true)
   (s_58:hS K C_5 C_8 false)
   (s_50:hS K C_5 C_0 false)
   (s_55:hS K C_5 C_5 true)
   (s_56:hS K C_5 C_6 false)
   (s_59:hS K C_5 C_9 false)
   (s_54:hS K C_5 C_4 false)
   (s_57:hS K C_5 C_7 false)
   (s_52:hS K C_5 C_2 false)
   (s_53:hS K C_5 C_3 false)
   (s_51:hS K C_5 C_1 false)
   (s_5A:hS K C_5 C_10 false)
   (s_6B:hS K C_6 C_11 true)
   (s_68:hS K C_6 C_8 false)
   (s_60:hS K C_6 C_0 false)
   (s_65:hS K C_6 C_5 false)
   (s_66:hS K C_6 C_6 true)
   (s_69:hS K C_6 C_9 false)
   (s_64:hS K C_6 C_4 false)
   (s_67:hS K C_6 C_7 false)
   (s_62:hS K C_6 C_2 false)
   (s_63:hS K C_6 C_3 false)
   (s_61:hS K C_6 C_1 false)
   (s_6A:hS K C_6 C_10 false)
   (s_9B:hS K C_9 C_11 true)
   (s_98:hS K C_9 C_8 false)
   (s_90:hS K C_9 C_0 false)
   (s_95:hS K C_9 C_5 false)
   (s_96:hS K C_9 C_6 false)
   (s_99:hS K C_9 C_9 true)
   (s_94:hS K C_9 C_4 false)
   (s_97:hS K C_9 C_7 false)
   (s_92:hS K C_9 C_2 false)
   (s_93:hS K C_9 C_3 false)
   (s_91:hS K C_9 C_1 false)
   (s_9A:hS K C_9 C_10 false)
   (s_4B:hS K C_4 C_11 true)
   (s_48:hS K C_4 C_8 false)
   (s_40:hS K C_4 C_0 false)
   (s_45:hS K C_4 C_5 false)
   (s_46:hS K C_4 C_6 false)
   (s_49:hS K C_4 C_9 false)
   (s_44:hS K C_4 C_4 true)
   (s_47:hS K C_4 C_7 false)
   (s_42:hS K C_4 C_2 false)
   (s_43:hS K C_4 C_3 false)
   (s_41:hS K C_4 C_1 false)
   (s_4A:hS K C_4 C_10 false)
   (s_7B:hS K C_7 C_11 true)
   (s_78:hS K C_7 C_8 false)
   (s_70:hS K C_7 C_0 false)
   (s_75:hS K C_7 C_5 false)
   (s_76:hS K C_7 C_6 false)
   (s_79:hS K C_7 C_9 false)
   (s_74:hS K C_7 C_4 false)
   (s_77:hS K C_7 C_7 true)
   (s_72:hS K C_7 C_2 false)
   (s_73:hS K C_7 C_3 false)
   (s_71:hS K C_7 C_1 false)
   (s_7A:hS K C_7 C_10 false)
   (s_2B:hS K C_2 C_11 true)
   (s_28:hS K C_2 C_8 false)
   (s_20:hS K C_2 C_0 false)
   (s_25:hS K C_2 C_5 false)
   (s_26:hS K C_2 C_6 false)
   (s_29:hS K C_2 C_9 false)
   (s_24:hS K C_2 C_4 false)
   (s_27:hS K C_2 C_7 false)
   (s_22:hS K C_2 C_2 true)
   (s_23:hS K C_2 C_3 false)
   (s_21:hS K C_2 C_1 false)
   (s_2A:hS K C_2 C_10 false)
   (s_3B:hS K C_3 C_11 true)
   (s_38:hS K C_3 C_8 false)
   (s_30:hS K C_3 C_0 false)
   (s_35:hS K C_3 C_5 false)
   (s_36:hS K C_3 C_6 false)
   (s_39:hS K C_3 C_9 false)
   (s_34:hS K C_3 C_4 false)
   (s_37:hS K C_3 C_7 false)
   (s_32:hS K C_3 C_2 false)
   (s_33:hS K C_3 C_3 true)
   (s_31:hS K C_3 C_1 false)
   (s_3A:hS K C_3 C_10 false)
   (s_1B:hS K C_1 C_11 true)
   (s_18:hS K C_1 C_8 false)
   (s_10:hS K C_1 C_0 false)
   (s_15:hS K C_1 C_5 false)
   (s_16:hS K C_1 C_6 false)
   (s_19:hS K C_1 C_9 false)
   (s_14:hS K C_1 C_4 false)
   (s_17:hS K C_1 C_7 false)
   (s_12:hS K C_1 C_2 false)
   (s_13:hS K C_1 C_3 false)
   (s_11:hS K C_1 C_1 true)
   (s_1A:hS K C_1 C_10 false)
   (s_AB:hS K C_10 C_11 true)
   (s_A8:hS K C_10 C_8 false)
   (s_A0:hS K C_10 C_0 false)
   (s_A5:hS K C_10 C_5 false)
   (s_A6:hS K C_10 C_6 false)
   (s_A9:hS K C_10 C_9 false)
   (s_A4:hS K C_10 C_4 false)
   (s_A7:hS K C_10 C_7 false)
   (s_A2:hS K C_10 C_2 false)
   (s_A3:hS K C_10 C_3 false)
   (s_A1:hS K C_10 C_1 false)
   (s_AA:hS K C_10 C_10 true):∃ (fd:FuncData) (cls:String->Value),(∀ (s:Shared) (v:Value),BindsTo s fd ⟨[v],[]⟩ [("_law_script",v)])/\∀ base:Heap,K.In base->base.Ns mainGlobals mg->FnOk l.prog w K mg base (CXe l.prog w) 10 fa fd ["_law_script"] (spD K cls F_Q0J 1):=by
  have e:=hfa.symm.trans (PySem.W.mg_of X G a_Q08)
  cases e
  have d_Q04:=aV (st:=s_Q04) (ps:=["length"]) (PySem.W.mg_of X G a_Q04) l_Q04 c_Q04 k_Q04 λ _ _ _ _ _ _=>cJ λ _=>rfl
  have d_Q03:=aV (st:=s_Q03) (ps:=["numbers","end"]) (PySem.W.mg_of X G a_Q03) l_Q03 c_Q03 k_Q03 λ _ _ _ _ _ _=>ce λ _ _=>rfl
  have d_Q02:=aV (st:=s_Q02) (ps:=["length","beat"]) (PySem.W.mg_of X G a_Q02) l_Q02 c_Q02 k_Q02 λ _ _ _ _ _ _=>ce λ _ _=>rfl
  have d_Q0Z:=aV (st:=s_Q0Z) (ps:=["length","numbers"]) (PySem.W.mg_of X G a_Q0Z) l_Q0Z c_Q0Z k_Q0Z λ _ _ _ _ _ _=>ce λ _ _=>rfl
  have d_Q01:=aV (st:=s_Q01) (ps:=["beat"]) (PySem.W.mg_of X G a_Q01) l_Q01 c_Q01 k_Q01 λ _ _ _ _ _ _=>cJ λ _=>rfl
  have d_Q1A:=aV (st:=s_Q1A) (ps:=["numbers"]) (PySem.W.mg_of X G a_Q1A) l_Q1A c_Q1A k_Q1A λ _ _ _ _ _ _=>cJ λ _=>rfl
  have d_Q18:=aV (st:=s_Q18) (ps:=["one","other"]) (PySem.W.mg_of X G a_Q18) l_Q18 c_Q18 k_Q18 λ _ _ _ _ _ _=>ce λ _ _=>rfl
  have d_Q05:=aV (st:=s_Q05) (ps:=["number"]) (PySem.W.mg_of X G a_Q05) l_Q05 c_Q05 k_Q05 λ _ _ _ _ _ _=>cJ λ _=>rfl
  have d_Q12:=aV (st:=s_Q12) (ps:=["number"]) (PySem.W.mg_of X G a_Q12) l_Q12 c_Q12 k_Q12 λ _ _ _ _ _ _=>cJ λ _=>rfl
  have d_Q0Y:=aV (st:=s_Q0Y) (ps:=["beat","divisor"]) (PySem.W.mg_of X G a_Q0Y) l_Q0Y c_Q0Y k_Q0Y λ _ _ _ _ _ _=>ce λ _ _=>rfl
  have d_Q11:=aV (st:=s_Q11) (ps:=["length","beat"]) (PySem.W.mg_of X G a_Q11) l_Q11 c_Q11 k_Q11 λ _ _ _ _ _ _=>ce λ _ _=>rfl
  have d_Q14:=aV (st:=s_Q14) (ps:=["number"]) (PySem.W.mg_of X G a_Q14) l_Q14 c_Q14 k_Q14 λ _ _ _ _ _ _=>cJ λ _=>rfl
  have d_Q07:=aV (st:=s_Q07) (ps:=["number"]) (PySem.W.mg_of X G a_Q07) l_Q07 c_Q07 k_Q07 λ _ _ _ _ _ _=>cJ λ _=>rfl
  have d_Q15:=aV (st:=s_Q15) (ps:=["length"]) (PySem.W.mg_of X G a_Q15) l_Q15 c_Q15 k_Q15 λ _ _ _ _ _ _=>cJ λ _=>rfl
  have d_Q13:=aV (st:=s_Q13) (ps:=["length","beat"]) (PySem.W.mg_of X G a_Q13) l_Q13 c_Q13 k_Q13 λ _ _ _ _ _ _=>ce λ _ _=>rfl
  have d_Q06:=aV (st:=s_Q06) (ps:=["length","beat"]) (PySem.W.mg_of X G a_Q06) l_Q06 c_Q06 k_Q06 λ _ _ _ _ _ _=>ce λ _ _=>rfl
  have d_Q19:=aV (st:=s_Q19) (ps:=["powers"]) (PySem.W.mg_of X G a_Q19) l_Q19 c_Q19 k_Q19 λ _ _ _ _ _ _=>cJ λ _=>rfl
  have d_Q17:=aV (st:=s_Q17) (ps:=["length","beat"]) (PySem.W.mg_of X G a_Q17) l_Q17 c_Q17 k_Q17 λ _ _ _ _ _ _=>ce λ _ _=>rfl
  have d_Q16:=aV (st:=s_Q16) (ps:=["length","power"]) (PySem.W.mg_of X G a_Q16) l_Q16 c_Q16 k_Q16 λ _ _ _ _ _ _=>ce λ _ _=>rfl
  have d_Q00:=aV (st:=s_Q00) (ps:=["numbers","row"]) (PySem.W.mg_of X G a_Q00) l_Q00 c_Q00 k_Q00 λ _ _ _ _ _ _=>ce λ _ _=>rfl
  have d_Q10:=aV (st:=s_Q10) (ps:=["length","beat"]) (PySem.W.mg_of X G a_Q10) l_Q10 c_Q10 k_Q10 λ _ _ _ _ _ _=>ce λ _ _=>rfl
  have d_Q0E:=aV (st:=s_Q0E) (ps:=["_law_script","_law_k"]) (PySem.W.mg_of X G a_Q0E) l_Q0E c_Q0E k_Q0E λ _ _ _ _ _ _=>ce λ _ _=>rfl
  have d_Q0W:=aV (st:=s_Q0W) (ps:=["_law_script","_law_start","_law_length"]) (PySem.W.mg_of X G a_Q0W) l_Q0W c_Q0W k_Q0W λ _ _ _ _ _ _=>eW λ _ _ _=>rfl
  have d_Q0X:=aV (st:=s_Q0X) (ps:=["_law_length","_law_beat","_law_by"]) (PySem.W.mg_of X G a_Q0X) l_Q0X c_Q0X k_Q0X λ _ _ _ _ _ _=>eW λ _ _ _=>rfl
  have d_Q09:=aV (st:=s_Q09) (ps:=["_law_length","_law_beat","_law_times"]) (PySem.W.mg_of X G a_Q09) l_Q09 c_Q09 k_Q09 λ _ _ _ _ _ _=>eW λ _ _ _=>rfl
  have d_Q0P:=aV (st:=s_Q0P) (ps:=["_law_script","_law_start"]) (PySem.W.mg_of X G a_Q0P) l_Q0P c_Q0P k_Q0P λ _ _ _ _ _ _=>ce λ _ _=>rfl
  have d_Q0S:=aV (st:=s_Q0S) (ps:=["_law_number"]) (PySem.W.mg_of X G a_Q0S) l_Q0S c_Q0S k_Q0S λ _ _ _ _ _ _=>cJ λ _=>rfl
  have d_Q0H:=aV (st:=s_Q0H) (ps:=["_law_beat","_law_number"]) (PySem.W.mg_of X G a_Q0H) l_Q0H c_Q0H k_Q0H λ _ _ _ _ _ _=>ce λ _ _=>rfl
  have d_Q0Q:=aV (st:=s_Q0Q) (ps:=["_law_length"]) (PySem.W.mg_of X G a_Q0Q) l_Q0Q c_Q0Q k_Q0Q λ _ _ _ _ _ _=>cJ λ _=>rfl
  have d_Q0G:=aV (st:=s_Q0G) (ps:=["_law_length","_law_beat"]) (PySem.W.mg_of X G a_Q0G) l_Q0G c_Q0G k_Q0G λ _ _ _ _ _ _=>ce λ _ _=>rfl
  have d_Q0V:=aV (st:=s_Q0V) (ps:=["_law_length","_law_beat"]) (PySem.W.mg_of X G a_Q0V) l_Q0V c_Q0V k_Q0V λ _ _ _ _ _ _=>ce λ _ _=>rfl
  have d_Q0F:=aV (st:=s_Q0F) (ps:=["_law_script","_law_start","_law_most"]) (PySem.W.mg_of X G a_Q0F) l_Q0F c_Q0F k_Q0F λ _ _ _ _ _ _=>eW λ _ _ _=>rfl
  have d_Q0M:=aV (st:=s_Q0M) (ps:=["_law_script","_law_start","_law_most"]) (PySem.W.mg_of X G a_Q0M) l_Q0M c_Q0M k_Q0M λ _ _ _ _ _ _=>eW λ _ _ _=>rfl
  have d_Q0N:=aV (st:=s_Q0N) (ps:=["_law_length","_law_beat","_law_cell_here"]) (PySem.W.mg_of X G a_Q0N) l_Q0N c_Q0N k_Q0N λ _ _ _ _ _ _=>eW λ _ _ _=>rfl
  have d_Q0C:=aV (st:=s_Q0C) (ps:=["_law_script"]) (PySem.W.mg_of X G a_Q0C) l_Q0C c_Q0C k_Q0C λ _ _ _ _ _ _=>cJ λ _=>rfl
  have d_Q0A:=aV (st:=s_Q0A) (ps:=["_law_way","_law_length","_law_beat"]) (PySem.W.mg_of X G a_Q0A) l_Q0A c_Q0A k_Q0A λ _ _ _ _ _ _=>eW λ _ _ _=>rfl
  have d_Q0K:=aV (st:=s_Q0K) (ps:=["_law_error"]) (PySem.W.mg_of X G a_Q0K) l_Q0K c_Q0K k_Q0K λ _ _ _ _ _ _=>cJ λ _=>rfl
  have d_Q0T:=aV (st:=s_Q0T) (ps:=["_law_way","_law_length","_law_beat"]) (PySem.W.mg_of X G a_Q0T) l_Q0T c_Q0T k_Q0T λ _ _ _ _ _ _=>eW λ _ _ _=>rfl
  have d_Q0O:=aV (st:=s_Q0O) (ps:=["_law_length","_law_beat","_law_cell_here"]) (PySem.W.mg_of X G a_Q0O) l_Q0O c_Q0O k_Q0O λ _ _ _ _ _ _=>eW λ _ _ _=>rfl
  have d_Q08:=aV (st:=s_Q08) (ps:=["_law_script"]) (PySem.W.mg_of X G a_Q08) l_Q08 c_Q08 k_Q08 λ _ _ _ _ _ _=>cJ λ _=>rfl
  have xa:XAll K mg (adA C_11 C_8 C_0 C_5 C_6 C_9 C_4 C_7 C_2 C_3 C_1 C_10):=tQ _ (ae ⟨⟨PySem.W.mg_of X G a_B,a_B,x_B,⟨_,_,_,_,_,_,_,_,_,_,_,_,_,_,_,_,y_B⟩⟩,⟨x_B,⟨_,_,_,_,_,_,_,_,_,_,_,_,_,_,_,_,y_B⟩,g1_B,g2_B,g3_B⟩,v_B⟩ (ae ⟨⟨PySem.W.mg_of X G a_8,a_8,x_8,⟨_,_,_,_,_,_,_,_,_,_,_,_,_,_,_,_,y_8⟩⟩,⟨x_8,⟨_,_,_,_,_,_,_,_,_,_,_,_,_,_,_,_,y_8⟩,g1_8,g2_8,g3_8⟩,v_8⟩ (ae ⟨⟨PySem.W.mg_of X G a_0,a_0,x_0,⟨_,_,_,_,_,_,_,_,_,_,_,_,_,_,_,_,y_0⟩⟩,⟨x_0,⟨_,_,_,_,_,_,_,_,_,_,_,_,_,_,_,_,y_0⟩,g1_0,g2_0,g3_0⟩,v_0⟩ (ae ⟨⟨PySem.W.mg_of X G a_5,a_5,x_5,⟨_,_,_,_,_,_,_,_,_,_,_,_,_,_,_,_,y_5⟩⟩,⟨x_5,⟨_,_,_,_,_,_,_,_,_,_,_,_,_,_,_,_,y_5⟩,g1_5,g2_5,g3_5⟩,v_5⟩ (ae ⟨⟨PySem.W.mg_of X G a_6,a_6,x_6,⟨_,_,_,_,_,_,_,_,_,_,_,_,_,_,_,_,y_6⟩⟩,⟨x_6,⟨_,_,_,_,_,_,_,_,_,_,_,_,_,_,_,_,y_6⟩,g1_6,g2_6,g3_6⟩,v_6⟩ (ae ⟨⟨PySem.W.mg_of X G a_9,a_9,x_9,⟨_,_,_,_,_,_,_,_,_,_,_,_,_,_,_,_,y_9⟩⟩,⟨x_9,⟨_,_,_,_,_,_,_,_,_,_,_,_,_,_,_,_,y_9⟩,g1_9,g2_9,g3_9⟩,v_9⟩ (ae ⟨⟨PySem.W.mg_of X G a_4,a_4,x_4,⟨_,_,_,_,_,_,_,_,_,_,_,_,_,_,_,_,y_4⟩⟩,⟨x_4,⟨_,_,_,_,_,_,_,_,_,_,_,_,_,_,_,_,y_4⟩,g1_4,g2_4,g3_4⟩,v_4⟩ (ae ⟨⟨PySem.W.mg_of X G a_7,a_7,x_7,⟨_,_,_,_,_,_,_,_,_,_,_,_,_,_,_,_,y_7⟩⟩,⟨x_7,⟨_,_,_,_,_,_,_,_,_,_,_,_,_,_,_,_,y_7⟩,g1_7,g2_7,g3_7⟩,v_7⟩ (ae ⟨⟨PySem.W.mg_of X G a_2,a_2,x_2,⟨_,_,_,_,_,_,_,_,_,_,_,_,_,_,_,_,y_2⟩⟩,⟨x_2,⟨_,_,_,_,_,_,_,_,_,_,_,_,_,_,_,_,y_2⟩,g1_2,g2_2,g3_2⟩,v_2⟩ (ae ⟨⟨PySem.W.mg_of X G a_3,a_3,x_3,⟨_,_,_,_,_,_,_,_,_,_,_,_,_,_,_,_,y_3⟩⟩,⟨x_3,⟨_,_,_,_,_,_,_,_,_,_,_,_,_,_,_,_,y_3⟩,g1_3,g2_3,g3_3⟩,v_3⟩ (ae ⟨⟨PySem.W.mg_of X G a_1,a_1,x_1,⟨_,_,_,_,_,_,_,_,_,_,_,_,_,_,_,_,y_1⟩⟩,⟨x_1,⟨_,_,_,_,_,_,_,_,_,_,_,_,_,_,_,_,y_1⟩,g1_1,g2_1,g3_1⟩,v_1⟩ (ae ⟨⟨PySem.W.mg_of X G a_A,a_A,x_A,⟨_,_,_,_,_,_,_,_,_,_,_,_,_,_,_,_,y_A⟩⟩,⟨x_A,⟨_,_,_,_,_,_,_,_,_,_,_,_,_,_,_,_,y_A⟩,g1_A,g2_A,g3_A⟩,v_A⟩ (bL))))))))))))) (ae (ae s_BB (ae s_B8 (ae s_B0 (ae s_B5 (ae s_B6 (ae s_B9 (ae s_B4 (ae s_B7 (ae s_B2 (ae s_B3 (ae s_B1 (ae s_BA (bL))))))))))))) (ae (ae s_8B (ae s_88 (ae s_80 (ae s_85 (ae s_86 (ae s_89 (ae s_84 (ae s_87 (ae s_82 (ae s_83 (ae s_81 (ae s_8A (bL))))))))))))) (ae (ae s_0B (ae s_08 (ae s_00 (ae s_05 (ae s_06 (ae s_09 (ae s_04 (ae s_07 (ae s_02 (ae s_03 (ae s_01 (ae s_0A (bL))))))))))))) (ae (ae s_5B (ae s_58 (ae s_50 (ae s_55 (ae s_56 (ae s_59 (ae s_54 (ae s_57 (ae s_52 (ae s_53 (ae s_51 (ae s_5A (bL))))))))))))) (ae (ae s_6B (ae s_68 (ae s_60 (ae s_65 (ae s_66 (ae s_69 (ae s_64 (ae s_67 (ae s_62 (ae s_63 (ae s_61 (ae s_6A (bL))))))))))))) (ae (ae s_9B (ae s_98 (ae s_90 (ae s_95 (ae s_96 (ae s_99 (ae s_94 (ae s_97 (ae s_92 (ae s_93 (ae s_91 (ae s_9A (bL))))))))))))) (ae (ae s_4B (ae s_48 (ae s_40 (ae s_45 (ae s_46 (ae s_49 (ae s_44 (ae s_47 (ae s_42 (ae s_43 (ae s_41 (ae s_4A (bL))))))))))))) (ae (ae s_7B (ae s_78 (ae s_70 (ae s_75 (ae s_76 (ae s_79 (ae s_74 (ae s_77 (ae s_72 (ae s_73 (ae s_71 (ae s_7A (bL))))))))))))) (ae (ae s_2B (ae s_28 (ae s_20 (ae s_25 (ae s_26 (ae s_29 (ae s_24 (ae s_27 (ae s_22 (ae s_23 (ae s_21 (ae s_2A (bL))))))))))))) (ae (ae s_3B (ae s_38 (ae s_30 (ae s_35 (ae s_36 (ae s_39 (ae s_34 (ae s_37 (ae s_32 (ae s_33 (ae s_31 (ae s_3A (bL))))))))))))) (ae (ae s_1B (ae s_18 (ae s_10 (ae s_15 (ae s_16 (ae s_19 (ae s_14 (ae s_17 (ae s_12 (ae s_13 (ae s_11 (ae s_1A (bL))))))))))))) (ae (ae s_AB (ae s_A8 (ae s_A0 (ae s_A5 (ae s_A6 (ae s_A9 (ae s_A4 (ae s_A7 (ae s_A2 (ae s_A3 (ae s_A1 (ae s_AA (bL))))))))))))) (bL)))))))))))))
  have h_B:(adA C_11 C_8 C_0 C_5 C_6 C_9 C_4 C_7 C_2 C_3 C_1 C_10) "WheelError"=some C_11:=rfl
  have h_8:(adA C_11 C_8 C_0 C_5 C_6 C_9 C_4 C_7 C_2 C_3 C_1 C_10) "NoWheel"=some C_8:=rfl
  have h_0:(adA C_11 C_8 C_0 C_5 C_6 C_9 C_4 C_7 C_2 C_3 C_1 C_10) "NoBeat"=some C_0:=rfl
  have h_5:(adA C_11 C_8 C_0 C_5 C_6 C_9 C_4 C_7 C_2 C_3 C_1 C_10) "NoPart"=some C_5:=rfl
  have h_6:(adA C_11 C_8 C_0 C_5 C_6 C_9 C_4 C_7 C_2 C_3 C_1 C_10) "NoRule"=some C_6:=rfl
  have h_9:(adA C_11 C_8 C_0 C_5 C_6 C_9 C_4 C_7 C_2 C_3 C_1 C_10) "NoWindow"=some C_9:=rfl
  have h_4:(adA C_11 C_8 C_0 C_5 C_6 C_9 C_4 C_7 C_2 C_3 C_1 C_10) "NoPair"=some C_4:=rfl
  have h_7:(adA C_11 C_8 C_0 C_5 C_6 C_9 C_4 C_7 C_2 C_3 C_1 C_10) "NoText"=some C_7:=rfl
  have h_2:(adA C_11 C_8 C_0 C_5 C_6 C_9 C_4 C_7 C_2 C_3 C_1 C_10) "NoName"=some C_2:=rfl
  have h_3:(adA C_11 C_8 C_0 C_5 C_6 C_9 C_4 C_7 C_2 C_3 C_1 C_10) "NoNumber"=some C_3:=rfl
  have h_1:(adA C_11 C_8 C_0 C_5 C_6 C_9 C_4 C_7 C_2 C_3 C_1 C_10) "NoDeed"=some C_1:=rfl
  have h_A:(adA C_11 C_8 C_0 C_5 C_6 C_9 C_4 C_7 C_2 C_3 C_1 C_10) "TooMany"=some C_10:=rfl
  have hkn:∀ c∈(["WheelError","NoWheel","NoBeat","NoPart","NoRule","NoWindow","NoPair","NoText","NoName","NoNumber","NoDeed","TooMany"]:List String),∃ Ca,(adA C_11 C_8 C_0 C_5 C_6 C_9 C_4 C_7 C_2 C_3 C_1 C_10) c=some Ca:=ae ⟨C_11,rfl⟩ (ae ⟨C_8,rfl⟩ (ae ⟨C_0,rfl⟩ (ae ⟨C_5,rfl⟩ (ae ⟨C_6,rfl⟩ (ae ⟨C_9,rfl⟩ (ae ⟨C_4,rfl⟩ (ae ⟨C_7,rfl⟩ (ae ⟨C_2,rfl⟩ (ae ⟨C_3,rfl⟩ (ae ⟨C_1,rfl⟩ (ae ⟨C_10,rfl⟩ (bL))))))))))))
  refine⟨PySem.W.fnOf "law" "law" (bQ s_Q08) (bi s_Q08) (ai s_Q08) .none kV_Q08 dc_Q08 pm_Q08 an_Q08 cd_Q08 ct_Q08,al (adA C_11 C_8 C_0 C_5 C_6 C_9 C_4 C_7 C_2 C_3 C_1 C_10),λ s v=>.of_eq rfl,λ base _ _=>?_⟩
  have o_Q04:FnOk l.prog w K mg base (CXe l.prog w) 1 f_Q04 _ ["length"] (spD K (al (adA C_11 C_8 C_0 C_5 C_6 C_9 C_4 C_7 C_2 C_3 C_1 C_10)) F_Q04 1):=ok_Q04 d_Q04  xa h_8  (PySem.W.mg_of X G n_LONGEST)
  have o_Q03:FnOk l.prog w K mg base (CXe l.prog w) 1 f_Q03 _ ["numbers","end"] (spD K (al (adA C_11 C_8 C_0 C_5 C_6 C_9 C_4 C_7 C_2 C_3 C_1 C_10)) F_Q03 2):=ok_Q03 d_Q03  xa h_0 (PySem.W.mg_none_of X G z_len) 
  have o_Q02:FnOk l.prog w K mg base (CXe l.prog w) 2 f_Q02 _ ["length","beat"] (spD K (al (adA C_11 C_8 C_0 C_5 C_6 C_9 C_4 C_7 C_2 C_3 C_1 C_10)) F_Q02 2):=ok_Q02 d_Q02 d_Q04 o_Q04 d_Q03 o_Q03  
  have o_Q0Z:FnOk l.prog w K mg base (CXe l.prog w) 3 f_Q0Z _ ["length","numbers"] (spD K (al (adA C_11 C_8 C_0 C_5 C_6 C_9 C_4 C_7 C_2 C_3 C_1 C_10)) F_Q0Z 2):=ok_Q0Z d_Q0Z d_Q04 o_Q04 d_Q02 o_Q02 (PySem.W.mg_none_of X G z_sorted) 
  have o_Q01:FnOk l.prog w K mg base (CXe l.prog w) 1 f_Q01 _ ["beat"] (spD K (al (adA C_11 C_8 C_0 C_5 C_6 C_9 C_4 C_7 C_2 C_3 C_1 C_10)) F_Q01 1):=ok_Q01 d_Q01  (PySem.W.mg_none_of X G z_len) 
  have o_Q1A:FnOk l.prog w K mg base (CXe l.prog w) 1 f_Q1A _ ["numbers"] (spD K (al (adA C_11 C_8 C_0 C_5 C_6 C_9 C_4 C_7 C_2 C_3 C_1 C_10)) F_Q1A 1):=ok_Q1A d_Q1A  (PySem.W.mg_none_of X G z_len) 
  have o_Q18:FnOk l.prog w K mg base (CXe l.prog w) 2 f_Q18 _ ["one","other"] (spD K (al (adA C_11 C_8 C_0 C_5 C_6 C_9 C_4 C_7 C_2 C_3 C_1 C_10)) F_Q18 2):=ok_Q18 d_Q18 d_Q1A o_Q1A xa h_5 (PySem.W.mg_none_of X G z_len) (PySem.W.mg_none_of X G z_list) (PySem.W.mg_none_of X G z_range) (PySem.W.mg_none_of X G z_enumerate) 
  have o_Q05:FnOk l.prog w K mg base (CXe l.prog w) 1 f_Q05 _ ["number"] (spD K (al (adA C_11 C_8 C_0 C_5 C_6 C_9 C_4 C_7 C_2 C_3 C_1 C_10)) F_Q05 1):=ok_Q05 d_Q05  xa h_5 (PySem.W.mg_none_of X G z_range) (PySem.W.mg_of X G n_LAST_PART)
  have o_Q12:FnOk l.prog w K mg base (CXe l.prog w) 3 f_Q12 _ ["number"] (spD K (al (adA C_11 C_8 C_0 C_5 C_6 C_9 C_4 C_7 C_2 C_3 C_1 C_10)) F_Q12 1):=ok_Q12 d_Q12 d_Q05 o_Q05 d_Q18 o_Q18  
  have o_Q0Y:FnOk l.prog w K mg base (CXe l.prog w) 3 f_Q0Y _ ["beat","divisor"] (spD K (al (adA C_11 C_8 C_0 C_5 C_6 C_9 C_4 C_7 C_2 C_3 C_1 C_10)) F_Q0Y 2):=ok_Q0Y d_Q0Y d_Q18 o_Q18 d_Q01 o_Q01  
  have o_Q11:FnOk l.prog w K mg base (CXe l.prog w) 4 f_Q11 _ ["length","beat"] (spD K (al (adA C_11 C_8 C_0 C_5 C_6 C_9 C_4 C_7 C_2 C_3 C_1 C_10)) F_Q11 2):=ok_Q11 d_Q11 d_Q02 o_Q02 d_Q12 o_Q12 d_Q05 o_Q05 d_Q0Y o_Q0Y  
  have o_Q14:FnOk l.prog w K mg base (CXe l.prog w) 2 f_Q14 _ ["number"] (spD K (al (adA C_11 C_8 C_0 C_5 C_6 C_9 C_4 C_7 C_2 C_3 C_1 C_10)) F_Q14 1):=ok_Q14 d_Q14 d_Q05 o_Q05  
  have o_Q07:FnOk l.prog w K mg base (CXe l.prog w) 3 f_Q07 _ ["number"] (spD K (al (adA C_11 C_8 C_0 C_5 C_6 C_9 C_4 C_7 C_2 C_3 C_1 C_10)) F_Q07 1):=ok_Q07 d_Q07 d_Q14 o_Q14 d_Q05 o_Q05 (PySem.W.mg_none_of X G z_all) 
  have o_Q15:FnOk l.prog w K mg base (CXe l.prog w) 4 f_Q15 _ ["length"] (spD K (al (adA C_11 C_8 C_0 C_5 C_6 C_9 C_4 C_7 C_2 C_3 C_1 C_10)) F_Q15 1):=ok_Q15 d_Q15 d_Q04 o_Q04 d_Q05 o_Q05 d_Q07 o_Q07  
  have o_Q13:FnOk l.prog w K mg base (CXe l.prog w) 5 f_Q13 _ ["length","beat"] (spD K (al (adA C_11 C_8 C_0 C_5 C_6 C_9 C_4 C_7 C_2 C_3 C_1 C_10)) F_Q13 2):=ok_Q13 d_Q13 d_Q11 o_Q11 d_Q15 o_Q15  
  have o_Q06:FnOk l.prog w K mg base (CXe l.prog w) 6 f_Q06 _ ["length","beat"] (spD K (al (adA C_11 C_8 C_0 C_5 C_6 C_9 C_4 C_7 C_2 C_3 C_1 C_10)) F_Q06 2):=ok_Q06 d_Q06 d_Q13 o_Q13 d_Q14 o_Q14 (PySem.W.mg_none_of X G z_len) 
  have o_Q19:FnOk l.prog w K mg base (CXe l.prog w) 3 f_Q19 _ ["powers"] (spD K (al (adA C_11 C_8 C_0 C_5 C_6 C_9 C_4 C_7 C_2 C_3 C_1 C_10)) F_Q19 1):=ok_Q19 d_Q19 d_Q14 o_Q14  
  have o_Q17:FnOk l.prog w K mg base (CXe l.prog w) 6 f_Q17 _ ["length","beat"] (spD K (al (adA C_11 C_8 C_0 C_5 C_6 C_9 C_4 C_7 C_2 C_3 C_1 C_10)) F_Q17 2):=ok_Q17 d_Q17 d_Q11 o_Q11 d_Q19 o_Q19 d_Q13 o_Q13 (PySem.W.mg_none_of X G z_all) 
  have o_Q16:FnOk l.prog w K mg base (CXe l.prog w) 3 f_Q16 _ ["length","power"] (spD K (al (adA C_11 C_8 C_0 C_5 C_6 C_9 C_4 C_7 C_2 C_3 C_1 C_10)) F_Q16 2):=ok_Q16 d_Q16 d_Q14 o_Q14 (PySem.W.mg_none_of X G z_range) 
  have o_Q00:FnOk l.prog w K mg base (CXe l.prog w) 1 f_Q00 _ ["numbers","row"] (spD K (al (adA C_11 C_8 C_0 C_5 C_6 C_9 C_4 C_7 C_2 C_3 C_1 C_10)) F_Q00 2):=ok_Q00 d_Q00   
  have o_Q10:FnOk l.prog w K mg base (CXe l.prog w) 7 f_Q10 _ ["length","beat"] (spD K (al (adA C_11 C_8 C_0 C_5 C_6 C_9 C_4 C_7 C_2 C_3 C_1 C_10)) F_Q10 2):=ok_Q10 d_Q10 d_Q06 o_Q06 d_Q17 o_Q17 d_Q13 o_Q13 d_Q15 o_Q15 d_Q00 o_Q00 d_Q16 o_Q16 d_Q0Z o_Q0Z xa h_6  
  have o_Q0E:FnOk l.prog w K mg base (CXe l.prog w) 1 f_Q0E _ ["_law_script","_law_k"] (spD K (al (adA C_11 C_8 C_0 C_5 C_6 C_9 C_4 C_7 C_2 C_3 C_1 C_10)) F_Q0E 2):=ok_Q0E d_Q0E  (PySem.W.mg_none_of X G z_len) 
  have o_Q0W:FnOk l.prog w K mg base (CXe l.prog w) 2 f_Q0W _ ["_law_script","_law_start","_law_length"] (spD K (al (adA C_11 C_8 C_0 C_5 C_6 C_9 C_4 C_7 C_2 C_3 C_1 C_10)) F_Q0W 3):=ok_Q0W d_Q0W d_Q0E o_Q0E (PySem.W.mg_none_of X G z_range) (PySem.W.mg_none_of X G z_max) 
  have o_Q0X:FnOk l.prog w K mg base (CXe l.prog w) 1 f_Q0X _ ["_law_length","_law_beat","_law_by"] (spD K (al (adA C_11 C_8 C_0 C_5 C_6 C_9 C_4 C_7 C_2 C_3 C_1 C_10)) F_Q0X 3):=ok_Q0X d_Q0X  (PySem.W.mg_none_of X G z_sorted) 
  have o_Q09:FnOk l.prog w K mg base (CXe l.prog w) 1 f_Q09 _ ["_law_length","_law_beat","_law_times"] (spD K (al (adA C_11 C_8 C_0 C_5 C_6 C_9 C_4 C_7 C_2 C_3 C_1 C_10)) F_Q09 3):=ok_Q09 d_Q09  (PySem.W.mg_none_of X G z_range) 
  have o_Q0P:FnOk l.prog w K mg base (CXe l.prog w) 2 f_Q0P _ ["_law_script","_law_start"] (spD K (al (adA C_11 C_8 C_0 C_5 C_6 C_9 C_4 C_7 C_2 C_3 C_1 C_10)) F_Q0P 2):=ok_Q0P d_Q0P d_Q0E o_Q0E d_Q09 o_Q09 d_Q0X o_Q0X (PySem.W.mg_none_of X G z_range) (PySem.W.mg_none_of X G z_sorted) 
  have o_Q0S:FnOk l.prog w K mg base (CXe l.prog w) 1 f_Q0S _ ["_law_number"] (spD K (al (adA C_11 C_8 C_0 C_5 C_6 C_9 C_4 C_7 C_2 C_3 C_1 C_10)) F_Q0S 1):=ok_Q0S d_Q0S  (PySem.W.mg_none_of X G z_range) 
  have o_Q0H:FnOk l.prog w K mg base (CXe l.prog w) 2 f_Q0H _ ["_law_beat","_law_number"] (spD K (al (adA C_11 C_8 C_0 C_5 C_6 C_9 C_4 C_7 C_2 C_3 C_1 C_10)) F_Q0I 2):=ok_Q0H d_Q0H d_Q0S o_Q0S (PySem.W.mg_none_of X G z_range) 
  have o_Q0Q:FnOk l.prog w K mg base (CXe l.prog w) 2 f_Q0Q _ ["_law_length"] (spD K (al (adA C_11 C_8 C_0 C_5 C_6 C_9 C_4 C_7 C_2 C_3 C_1 C_10)) F_Q0R 1):=ok_Q0Q d_Q0Q d_Q0S o_Q0S (PySem.W.mg_none_of X G z_range) (PySem.W.mg_none_of X G z_len) 
  have o_Q0G:FnOk l.prog w K mg base (CXe l.prog w) 3 f_Q0G _ ["_law_length","_law_beat"] (spD K (al (adA C_11 C_8 C_0 C_5 C_6 C_9 C_4 C_7 C_2 C_3 C_1 C_10)) F_Q0G 2):=ok_Q0G d_Q0G d_Q0Q o_Q0Q d_Q0H o_Q0H d_Q0S o_Q0S (PySem.W.mg_none_of X G z_len) 
  have o_Q0V:FnOk l.prog w K mg base (CXe l.prog w) 3 f_Q0V _ ["_law_length","_law_beat"] (spD K (al (adA C_11 C_8 C_0 C_5 C_6 C_9 C_4 C_7 C_2 C_3 C_1 C_10)) F_Q0V 2):=ok_Q0V d_Q0V d_Q0Q o_Q0Q d_Q0H o_Q0H d_Q0S o_Q0S (PySem.W.mg_none_of X G z_range) (PySem.W.mg_none_of X G z_len) 
  have o_Q0F:FnOk l.prog w K mg base (CXe l.prog w) 2 f_Q0F _ ["_law_script","_law_start","_law_most"] (spD K (al (adA C_11 C_8 C_0 C_5 C_6 C_9 C_4 C_7 C_2 C_3 C_1 C_10)) F_Q0F 3):=ok_Q0F d_Q0F d_Q0E o_Q0E (PySem.W.mg_none_of X G z_max) (PySem.W.mg_none_of X G z_range) (PySem.W.mg_none_of X G z_min) 
  have o_Q0M:FnOk l.prog w K mg base (CXe l.prog w) 3 f_Q0M _ ["_law_script","_law_start","_law_most"] (spD K (al (adA C_11 C_8 C_0 C_5 C_6 C_9 C_4 C_7 C_2 C_3 C_1 C_10)) F_Q0M 3):=ok_Q0M d_Q0M d_Q0F o_Q0F d_Q0E o_Q0E (PySem.W.mg_none_of X G z_range) (PySem.W.mg_none_of X G z_sorted) 
  have o_Q0N:FnOk l.prog w K mg base (CXe l.prog w) 1 f_Q0N _ ["_law_length","_law_beat","_law_cell_here"] (spD K (al (adA C_11 C_8 C_0 C_5 C_6 C_9 C_4 C_7 C_2 C_3 C_1 C_10)) F_Q0N 3):=ok_Q0N d_Q0N  (PySem.W.mg_none_of X G z_len) (PySem.W.mg_none_of X G z_sorted) 
  have o_Q0C:FnOk l.prog w K mg base (CXe l.prog w) 4 f_Q0C _ ["_law_script"] (spD K (al (adA C_11 C_8 C_0 C_5 C_6 C_9 C_4 C_7 C_2 C_3 C_1 C_10)) F_Q0D 1):=ok_Q0C d_Q0C d_Q0E o_Q0E d_Q0W o_Q0W d_Q0M o_Q0M d_Q0P o_Q0P d_Q0N o_Q0N  
  have o_Q0A:FnOk l.prog w K mg base (CXe l.prog w) 8 f_Q0A _ ["_law_way","_law_length","_law_beat"] (spD K (al (adA C_11 C_8 C_0 C_5 C_6 C_9 C_4 C_7 C_2 C_3 C_1 C_10)) F_Q0B 3):=ok_Q0A d_Q0A d_Q06 o_Q06 d_Q17 o_Q17 d_Q10 o_Q10  
  have oH_Q0K:FnOkH l.prog w K mg base 1 f_Q0K _ ["_law_error"] (spD K (al (adA C_11 C_8 C_0 C_5 C_6 C_9 C_4 C_7 C_2 C_3 C_1 C_10)) F_Q0L 1):=uF d_Q0K  xa h_0 h_8 h_6 h_5 h_9 h_4 h_7 h_2 h_3 h_1 h_A hkn (PySem.W.mg_none_of X G z_isinstance) (PySem.W.mg_none_of X G z_ValueError) 
  have o_Q0K:FnOk l.prog w K mg base (CXe l.prog w) 1 f_Q0K _ ["_law_error"] (spD K (al (adA C_11 C_8 C_0 C_5 C_6 C_9 C_4 C_7 C_2 C_3 C_1 C_10)) F_Q0L 1):=ok_Q0K d_Q0K  xa h_0 h_8 h_6 h_5 h_9 h_4 h_7 h_2 h_3 h_1 h_A hkn (PySem.W.mg_none_of X G z_isinstance) (PySem.W.mg_none_of X G z_ValueError) 
  have o_Q0T:FnOk l.prog w K mg base (CXe l.prog w) 9 f_Q0T _ ["_law_way","_law_length","_law_beat"] (spD K (al (adA C_11 C_8 C_0 C_5 C_6 C_9 C_4 C_7 C_2 C_3 C_1 C_10)) F_Q0U 3):=ok_Q0T d_Q0T d_Q0A o_Q0A d_Q0K o_Q0K oH_Q0K xa h_B hkn  
  have o_Q0O:FnOk l.prog w K mg base (CXe l.prog w) 1 f_Q0O _ ["_law_length","_law_beat","_law_cell_here"] (spD K (al (adA C_11 C_8 C_0 C_5 C_6 C_9 C_4 C_7 C_2 C_3 C_1 C_10)) F_Q0O 3):=ok_Q0O d_Q0O   
  exact ok_Q08 d_Q08 d_Q0C o_Q0C d_Q0E o_Q0E d_Q0O o_Q0O d_Q0T o_Q0T d_Q0G o_Q0G d_Q0V o_Q0V d_Q10 o_Q10 (PySem.W.mg_none_of X G z_list) (PySem.W.mg_none_of X G z_range) (PySem.W.mg_none_of X G z_isinstance) 
end Lk34
namespace Bt
open Dv (ins isort)
theorem cE (i:Int):∀ l:List Int,(ins i l).Perm (i::l)
 | []=>.refl _
 | j::r=>by
  unfold ins
  split
  ·exact .refl _
  ·exact((cE i r).cons j).trans (.swap _ _ _)
theorem bf:∀ l:List Int,(isort l).Perm l
 | []=>.refl _
 | i::r=>(cE i _).trans ((bf r).cons i)
theorem cu (i:Int):∀ l:List Int,l.Pairwise (·<=·)->(ins i l).Pairwise (·<=·)
 | [],_=>by unfold ins; simp
 | j::r,h=>by
  unfold ins
  obtain⟨h1,h2⟩:=List.pairwise_cons.mp h
  split
  ·rename_i hij
   refine List.pairwise_cons.mpr ⟨λ a ha=>?_,h⟩
   rcases List.mem_cons.mp ha with rfl|ha
   ·exact hij
   ·have:=h1 a ha; omega
  ·rename_i hij
   refine List.pairwise_cons.mpr ⟨λ a ha=>?_,cu i r h2⟩
   rcases List.mem_cons.mp ((cE i r).mem_iff.mp ha) with rfl|ha
   ·omega
   ·exact h1 a ha
theorem bV:∀ l:List Int,(isort l).Pairwise (·<=·)
 | []=>.nil
 | i::r=>cu i _ (bV r)
theorem cN:∀ {a b:List Int},a.Perm b->a.Pairwise (·<=·)->b.Pairwise (·<=·)->a=b
 | [],b,p,_,_=>(List.Perm.nil_eq p)
 | x::a,[],p,_,_=>(nomatch p.length_eq)
 | x::a,y::b,p,ha,hb=>by
  obtain⟨a1,a2⟩:=List.pairwise_cons.mp ha
  obtain⟨b1,b2⟩:=List.pairwise_cons.mp hb
  have hx:x∈y::b:=p.mem_iff.mp (yR ..)
  have hy:y∈x::a:=p.mem_iff.mpr (yR ..)
  have e:x=y:=by
   rcases List.mem_cons.mp hx with e|hx
   ·exact e
   ·rcases List.mem_cons.mp hy with e|hy
    ·exact e.symm
    ·have:=a1 y hy; have:=b1 x hx; omega
  subst e
  rw[cN (List.Perm.cons_inv p) a2 b2]
theorem i7 (l:List Int):(isort l).length=l.length:=(bf l).length_eq
structure Beat (n:Int)(xs:List Int):Prop where
 ne:xs≠[]
 up:xs.Pairwise (·<·)
 rg:∀ x∈xs,0<=x/\x<n
theorem Beat.nd {n:Int}{xs:List Int}(h:Beat n xs):xs.Nodup:=h.up.imp λ {a b} h e=>by omega
theorem pX:∀ {xs:List Int} {lo hi:Int},xs.Pairwise (·<·)->(∀ x∈xs,lo<=x/\x<hi)->(xs.length:Int)<=max 0 (hi-lo)
 | [],lo,hi,_,_=>by simp; omega
 | x::r,lo,hi,h,g=>by
  obtain⟨h1,h2⟩:=List.pairwise_cons.mp h
  have gx:=g x (yR ..)
  have:=pX (lo:=x+1) (hi:=hi) h2 λ y hy=>⟨h1 y hy,(g y (yM _ hy)).2⟩
  rw[yJ]
  omega
theorem Beat.len {n:Int}{xs:List Int}(h:Beat n xs):(xs.length:Int)<=n:=by
 have:=pX h.up h.rg
 obtain⟨x,hx⟩:=Am xs h.ne
 have:=h.rg x hx
 omega
theorem Beat.pos {n:Int}{xs:List Int}(h:Beat n xs):1<=n:=by
 obtain⟨x,hx⟩:=Am xs h.ne
 have:=h.rg x hx
 omega
theorem Beat.len1 {n:Int}{xs:List Int}(h:Beat n xs):1<=xs.length:=by
 cases xs with
 | nil=>exact absurd rfl h.ne
 | cons a r=>simp
theorem wW {l:List Int}(h1:l.Pairwise (·<=·))(h2:l.Nodup):l.Pairwise (·<·):=by
 induction l with
 | nil=>exact .nil
 | cons a r ih =>
  obtain⟨a1,a2⟩:=List.pairwise_cons.mp h1
  obtain⟨b1,b2⟩:=List.nodup_cons.mp h2
  refine List.pairwise_cons.mpr ⟨λ x hx=>?_,ih a2 b2⟩
  have:=a1 x hx
  have:a≠x:=λ e=>b1 (e▸hx)
  omega
theorem dX {n:Int}{xs:List Int}(ne:xs≠[])(nd:xs.Nodup)(rg:∀ x∈xs,0<=x/\x<n):Beat n (isort xs) where
 ne:=λ e=>ne (by have:=i7 xs; rw[e] at this; exact zB this.symm)
 up:=wW (bV xs) ((bf xs).nodup_iff.mpr nd)
 rg:=λ x hx=>rg x ((bf xs).mem_iff.mp hx)
theorem fR {f:Int->Int}:∀ {xs:List Int},xs.Nodup->(∀ x∈xs,∀ y∈xs,f x=f y->x=y)->(xs.map f).Nodup
 | [],_,_=>by simp
 | x::r,h,g=>by
  obtain⟨h1,h2⟩:=List.nodup_cons.mp h
  refine List.nodup_cons.mpr ⟨λ m=>?_,fR h2 λ a ha b hb=>g a (yM _ ha) b (yM _ hb)⟩
  obtain⟨y,hy,e⟩:=List.mem_map.mp m
  exact h1 (g y (yM _ hy) x (yR ..) e▸hy)
theorem fN {n k d:Int}(hn:0<n)(e:d=n*k)(h1:-n<d)(h2:d<n):d=0:=by
 rcases Int.lt_trichotomy k 0 with h|h|h
 ·have:n*k<=n*(-1):=zt (by omega) (by omega)
  omega
 ·subst h; omega
 ·have:n*1<=n*k:=zt (by omega) (by omega)
  omega
theorem mod_eq_iff {n a b:Int}:a%n=b%n ↔ ∃ k,a-b=n*k:=by
 constructor
 ·intro h
  have:=Int.emod_emod_of_dvd a (Int.dvd_refl n)
  have h1:(a-b)%n=0:=(zy).mp h
  exact zd h1
 ·rintro ⟨k,h⟩
  exact(zy).mpr (zr ⟨k,h⟩)
theorem mT {n x y b:Int}(hn:0<n)(hx:0<=x/\x<n)(hy:0<=y/\y<n)(h:(x+b)%n=(y+b)%n):x=y:=by
 obtain⟨k,e⟩:=mod_eq_iff.mp h
 have:=fN (d:=x-y) (k:=k) hn (by omega) (by omega) (by omega)
 omega
theorem aN {n a:Int}(hn:0<n):0<=a%n/\a%n<n:=⟨AD _ (by omega),Aq _ hn⟩
theorem oU {n b:Int}{xs:List Int}(h:Beat n xs):Beat n (isort (xs.map λ x=>(x+b)%n)):=by
 have hp:=h.pos
 refine dX (by simpa using h.ne) (fR h.nd λ x hx y hy e=>mT (by omega) (h.rg x hx) (h.rg y hy) e) λ x hx=>?_
 obtain⟨y,_,rfl⟩:=List.mem_map.mp hx
 exact aN (by omega)
noncomputable def again (n:Int)(xs:List Int):Nat->List Int
 | 0=>[]
 | t+1=>again n xs t++xs.map (·+t*n)
theorem gQ {n:Int}{xs:List Int}(h:∀ x∈xs,0<=x/\x<n)(hn:0<=n):∀ (t:Nat),∀ x∈again n xs t,0<=x/\x<n*t
 | 0,x,hx=>by simp[again] at hx
 | t+1,x,hx=>by
  have e:n*((t+1:Nat):Int)=n*t+n:=by rw[BB,Ax,Bx]
  unfold again at hx
  rcases List.mem_append.mp hx with hx|hx
  ·have:=gQ h hn t x hx; omega
  ·obtain⟨y,hy,rfl⟩:=List.mem_map.mp hx
   have:=h y hy
   have e2:(t:Int)*n=n*t:=Ae _ _
   have:0<=n*(t:Int):=AI hn (by omega)
   simp only[e2]; omega
theorem lH {n:Int}{xs:List Int}(h:xs.Pairwise (·<·))(g:∀ x∈xs,0<=x/\x<n)(hn:0<=n):∀ (t:Nat),(again n xs t).Pairwise (·<·)
 | 0=>.nil
 | t+1=>by
  unfold again
  refine List.pairwise_append.mpr ⟨lH h g hn t,?_,λ a ha b hb=>?_⟩
  ·exact List.pairwise_map.mpr (h.imp λ {a b} h=>by omega)
  ·have:=gQ g hn t a ha
   obtain⟨y,hy,rfl⟩:=List.mem_map.mp hb
   have:=g y hy
   have e2:(t:Int)*n=n*t:=Ae _ _
   simp only[e2]; omega
theorem mo {n:Int}{xs:List Int}(h:Beat n xs){t:Nat}(ht:1<=t):Beat (n*t) (again n xs t) where
 ne:=by
  cases t with
  | zero=>omega
  | succ t=>unfold again; have:=h.ne; simp[this]
 up:=lH h.up h.rg (by have:=h.pos; omega) t
 rg:=gQ h.rg (by have:=h.pos; omega) t
theorem kU {n t:Int}{xs:List Int}(h:Beat n xs)(ht:1<=t):Beat (n*t) (xs.map (·*t)) where
 ne:=by simpa using h.ne
 up:=List.pairwise_map.mpr (h.up.imp λ {a b} h=>AJ h (by omega))
 rg:=λ x hx=>by
  obtain⟨y,hy,rfl⟩:=List.mem_map.mp hx
  have:=h.rg y hy
  exact⟨AI this.1 (by omega),AJ this.2 (by omega)⟩
noncomputable def mix (xs:List Int)(t:Int):Nat->List Int
 | 0=>[]
 | j+1=>mix xs t j++xs.map (·*t+j)
theorem mix_mem {xs:List Int}{t:Int}:∀ {j:Nat} {x:Int},x∈mix xs t j ↔ ∃ y∈xs,∃ i:Nat,i<j/\x=y*t+i
 | 0,x=>by simp[mix]
 | j+1,x=>by
  unfold mix
  rw[List.mem_append,mix_mem,Bm]
  constructor
  ·rintro (⟨y,hy,i,hi,rfl⟩|⟨y,hy,rfl⟩)
   ·exact⟨y,hy,i,by omega,rfl⟩
   ·exact⟨y,hy,j,by omega,rfl⟩
  ·rintro ⟨y,hy,i,hi,rfl⟩
   by_cases e:i=j
   ·subst e; exact .inr ⟨y,hy,rfl⟩
   ·exact .inl ⟨y,hy,i,by omega,rfl⟩
theorem digits {t y z i j:Int}(ht:0<t)(hi:0<=i/\i<t)(hj:0<=j/\j<t)(e:y*t+i=z*t+j):y=z/\i=j:=by
 have h1:i-j=t*(z-y):=by rw[BW,Ae t z,Ae t y]; omega
 have h2:=fN ht h1 (by omega) (by omega)
 have h3:y*t=z*t:=by omega
 exact⟨Int.eq_of_mul_eq_mul_right (by omega) h3,by omega⟩
theorem pT {xs:List Int}{t:Int}(h:xs.Nodup)(ht:0<t):∀ {j:Nat},(j:Int)<=t->(mix xs t j).Nodup
 | 0,_=>by simp[mix]
 | j+1,hj=>by
  unfold mix
  refine List.nodup_append.mpr ⟨pT h ht (by omega),fR h λ x _ y _ e=>(digits ht (i:=j) (j:=j) (by omega) (by omega) e).1,λ a ha b hb e=>?_⟩
  subst e
  obtain⟨y,hy,i,hi,rfl⟩:=mix_mem.mp ha
  obtain⟨z,hz,e⟩:=List.mem_map.mp hb
  have:=(digits ht (i:=j) (j:=i) (by omega) (by omega) e).2
  omega
theorem k8 {n:Int}{xs:List Int}(h:Beat n xs){t:Nat}(ht:1<=t):Beat (n*t) (isort (mix xs t t)):=by
 refine dX ?_ (pT h.nd (by omega) (by omega)) λ x hx=>?_
 ·obtain⟨x,hx⟩:=Am xs h.ne
  exact Bi (mix_mem.mpr ⟨x,hx,0,by omega,rfl⟩)
 ·obtain⟨y,hy,i,hi,rfl⟩:=mix_mem.mp hx
  have h1:=h.rg y hy
  have h2:0<=y*(t:Int):=AI h1.1 (by omega)
  have h3:(y+1)*(t:Int)<=n*t:=AB (by omega) (by omega)
  rw[Ay,BC] at h3
  omega
noncomputable def hits (n:Int)(beat starts:List Int):List Int:=starts.flatMap λ s=>beat.map λ b=>(b+s)%n
noncomputable def bump (c:List Int)(p:Int):List Int:=c.set p.toNat (c.getD p.toNat 0+1)
noncomputable def tally (n:Nat)(ps:List Int):List Int:=ps.foldl bump (List.replicate n 0)
theorem k6 (c:List Int)(p:Int):(bump c p).length=c.length:=by unfold bump; rw[zh]
theorem dP:∀ (ps:List Int) (c:List Int),(ps.foldl bump c).length=c.length
 | [],c=>rfl
 | p::r,c=>by rw[yX,dP,k6]
theorem ju (n:Nat)(ps:List Int):(tally n ps).length=n:=by unfold tally; rw[dP,zA]
theorem dF:∀ (ps:List Int) (c:List Int) (i:Nat),i<c.length->(∀ p∈ps,0<=p)->(ps.foldl bump c)[i]?.getD 0=c[i]?.getD 0+(ps.count (i:Int):Nat)
 | [],c,i,_,_=>by simp
 | p::r,c,i,h,g=>by
  rw[yX,dF r (bump c p) i (by rw[k6]; exact h) λ q hq=>g q (yM _ hq)]
  have gp:=g p (yR ..)
  unfold bump
  rw[Bp]
  by_cases e:p.toNat=i
  ·have e2:p=(i:Int):=by omega
   subst e2
   simp[h,yW]
   omega
  ·have e2:¬ p=(i:Int):=by omega
   have e3:¬ (i:Int)=p:=by omega
   simp[e,e2,List.count_cons]
theorem kw (n:Nat){ps:List Int}(g:∀ p∈ps,0<=p):tally n ps=(List.range n).map λ (i:Nat)=>((ps.count (i:Int):Nat):Int):=by
 apply Ab
 intro i
 by_cases h:i<n
 ·have h1:=dF ps (List.replicate n 0) i (by simpa using h) g
  have hl:i<(tally n ps).length:=by rw[ju]; exact h
  have h2:(tally n ps)[i]?=some ((tally n ps)[i]?.getD 0):=by rw[zf hl]; rfl
  rw[h2]
  show some ((ps.foldl bump (List.replicate n 0))[i]?.getD 0)=_
  rw[h1]
  simp[h]
 ·rw[zj (by rw[ju]; omega),zj (by simp; omega)]
theorem gu {n:Int}(hn:0<n){beat starts:List Int}:∀ p∈hits n beat starts,0<=p/\p<n:=λ p hp=>by
 unfold hits at hp
 obtain⟨s,_,h⟩:=List.mem_flatMap.mp hp
 obtain⟨b,_,rfl⟩:=List.mem_map.mp h
 exact aN hn
noncomputable def due (n:Int)(beat starts:List Int):List Int:=(List.range n.toNat).map λ (p:Nat)=>((starts.filter λ s=>decide (((p:Int)-s)%n∈beat)).length:Int)
end Bt
namespace Cw
open Dv (Out R RL cmD compGo eB1 eB2 eBl eCall eCm eComp eInt eIx eLst eNeg eOp eOr eTup eVar forGo iRange iSeq keepD lCons lNil opD rngOk sApp sCons sExpr sFor sIf sNil sPar sRet sRetO sSet sSetG)
open Dv (D R RL EE EL EI RI Sl Out SS St)
open Bt
noncomputable abbrev L (xs:List Int):D:=.lst (xs.map .int)
theorem sT:∀ xs:List Int,Dv.intsOf (xs.map .int)=some xs
 | []=>rfl
 | x::r=>by simp[Dv.intsOf,sT r]
theorem bh:∀ xs:List Int,Dv.flatL (xs.map .int)=true
 | []=>rfl
 | x::r=>by simp[Dv.flatL,Dv.scal,bh r]
theorem wA (i:Int):∀ xs:List Int,Dv.inD i (xs.map .int)=some (decide (i∈xs))
 | []=>by simp[Dv.inD]
 | x::r=>by
  rw[yH]
  unfold Dv.inD
  rw[wA i r]
  by_cases h:x=i
  ·subst h; simp
  ·have h2:¬ i=x:=λ e=>h e.symm
   simp[h,h2]
theorem vf:∀ a b:List Int,Dv.eqDL (a.map .int) (b.map .int)=some (decide (a=b))
 | [],[]=>rfl
 | [],_::_=>rfl
 | _::_,[]=>rfl
 | x::a,y::b=>by
  show (match (some (decide (x=y)):Option Bool),Dv.eqDL (a.map .int) (b.map .int) with|some p,some q=>some (p&&q)|_,_=>none)=_
  rw[vf a b]
  show some (decide (x=y)&&decide (a=b))=_
  by_cases h:x=y <;>by_cases h2:a=b <;>simp[h,h2]
theorem yu (a b:List Int):Dv.eqD (L a) (L b)=some (decide (a=b)):=vf a b
theorem rz (a b:Int):Dv.eqD (.int a) (.int b)=some (decide (a=b)):=rfl
theorem vb:∀ xs:List Int,Dv.depthL (xs.map .int)=0
 | []=>by simp[Dv.depthL]
 | x::r=>by rw[yH]; unfold Dv.depthL; rw[vb r]; simp[Dv.depthD]
theorem rJ (xs:List Int):Dv.depthD (L xs)=1:=by unfold Dv.depthD; rw[vb]
theorem gm (i:Int):Dv.depthD (.int i)=0:=by unfold Dv.depthD; rfl
theorem kM {s:List Int}{k:Int}(h:0<=k)(h2:k<s.length):Dv.at? (s.map .int) k=some (.int (s.getD k.toNat 0)):=by
 unfold Dv.at?
 rw[if_pos h]
 have:k.toNat<s.length:=by omega
 simp[zi,yW,zf this]
theorem gN (a b:List Int):cmD .eq (L a) (L b)=.ok (.bl (decide (a=b))) true:=by
 simp only[Dv.cmD_eq,Dv.cmD_ne,Dv.cmD_lt,Dv.cmD_le,Dv.cmD_gt,Dv.cmD_ge,Dv.cmD_in,Dv.cmD_ni,Dv.cmD_it,Dv.cmD_nt,rJ,rJ,yu,Dv.optB,zW]; rfl
theorem aX (a b:Int):cmD .eq (.int a) (.int b)=.ok (.bl (decide (a=b))) true:=by
 simp only[Dv.cmD_eq,Dv.cmD_ne,Dv.cmD_lt,Dv.cmD_le,Dv.cmD_gt,Dv.cmD_ge,Dv.cmD_in,Dv.cmD_ni,Dv.cmD_it,Dv.cmD_nt,gm,gm,rz,Dv.optB,zW]; rfl
theorem wQ (a b:Int):cmD .ne (.int a) (.int b)=.ok (.bl (!decide (a=b))) true:=by
 simp only[Dv.cmD_eq,Dv.cmD_ne,Dv.cmD_lt,Dv.cmD_le,Dv.cmD_gt,Dv.cmD_ge,Dv.cmD_in,Dv.cmD_ni,Dv.cmD_it,Dv.cmD_nt,gm,gm,rz,Dv.optB,zW]; rfl
theorem fS (a:List Int):cmD .eq (L a) (.lst [])=.ok (.bl (decide (a=[]))) true:=gN a []
theorem nD (i:Int)(b:List Int):cmD .isin (.int i) (L b)=.ok (.bl (decide (i∈b))) true:=by
 simp only[Dv.cmD_eq,Dv.cmD_ne,Dv.cmD_lt,Dv.cmD_le,Dv.cmD_gt,Dv.cmD_ge,Dv.cmD_in,Dv.cmD_ni,Dv.cmD_it,Dv.cmD_nt,wA,Dv.optB,zW]
theorem iy (i:Int)(b:List Int):cmD .notin (.int i) (L b)=.ok (.bl (!decide (i∈b))) true:=by
 simp only[Dv.cmD_eq,Dv.cmD_ne,Dv.cmD_lt,Dv.cmD_le,Dv.cmD_gt,Dv.cmD_ge,Dv.cmD_in,Dv.cmD_ni,Dv.cmD_it,Dv.cmD_nt,wA,Dv.optB,zW]
theorem cw (a b:Int):cmD .lt (.int a) (.int b)=.ok (.bl (decide (a<b))) true:=rfl
theorem ij (a b:Int):cmD .le (.int a) (.int b)=.ok (.bl (decide (a<=b))) true:=rfl
theorem cz (a b:Int):cmD .gt (.int a) (.int b)=.ok (.bl (decide (b<a))) true:=rfl
theorem rB (a b:Int):cmD .ge (.int a) (.int b)=.ok (.bl (decide (b<=a))) true:=rfl
theorem bU {i j:Int}(h:-(2 ^ 64)<i)(h2:i<2 ^ 64):Dv.mulOk i j=true:=by
 have:Dv.bits i<=64:=by
  unfold Dv.bits
  split
  ·omega
  ·have h3:i.natAbs<2 ^ 64:=by omega
   have:=(A7 (by omega)).mpr h3
   omega
 simp[Dv.mulOk,this]
theorem bS {i j:Int}(h:-(2 ^ 64)<j)(h2:j<2 ^ 64):Dv.mulOk i j=true:=by
 have:Dv.bits j<=64:=by
  unfold Dv.bits
  split
  ·omega
  ·have h3:j.natAbs<2 ^ 64:=by omega
   have:=(A7 (by omega)).mpr h3
   omega
 simp[Dv.mulOk,this]
theorem uJ {i j:Int}(h:Dv.bits i<=1048576)(h2:Dv.bits j<=1048576):Dv.mulOk i j=true:=by
 simp[Dv.mulOk,h,h2]
theorem km {i:Int}{k:Nat}(hk:0<k)(h:-(2 ^ k)<i)(h2:i<2 ^ k):Dv.bits i<=k:=by
 unfold Dv.bits
 split
 ·omega
 ·have h3:i.natAbs<2 ^ k:=by
   have e:((2 ^ k:Nat):Int)=2 ^ k:=by norm_cast
   omega
  have:=(A7 (by omega)).mpr h3
  omega
theorem aZ {i j:Int}(h:Dv.mulOk i j=true):opD .mul (.int i) (.int j)=.ok (.int (i*j)) true:=by
 simp[Dv.opD_ai,Dv.opD_al,Dv.opD_su,Dv.opD_mi,Dv.opD_ml,Dv.opD_mo,Dv.opD_fd,Dv.opD_po,Dv.opD_ba,Dv.opD_sh,h]
theorem ap {i j:Int}(h:0<j):opD .mod (.int i) (.int j)=.ok (.int (i%j)) true:=by
 simp[Dv.opD_ai,Dv.opD_al,Dv.opD_su,Dv.opD_mi,Dv.opD_ml,Dv.opD_mo,Dv.opD_fd,Dv.opD_po,Dv.opD_ba,Dv.opD_sh,h]
theorem fL {i j:Int}(h:0<=j):opD .shr (.int i) (.int j)=.ok (.int (i/2 ^ j.toNat)) true:=by
 simp[Dv.opD_ai,Dv.opD_al,Dv.opD_su,Dv.opD_mi,Dv.opD_ml,Dv.opD_mo,Dv.opD_fd,Dv.opD_po,Dv.opD_ba,Dv.opD_sh,h]
theorem sK {j:Int}(h:0<j)(h2:j<2 ^ 200):Dv.divOk j=true:=by
 have h3:j.natAbs<2 ^ 200:=by omega
 have:=(A7 (by omega)).mpr h3
 simp only[Dv.divOk,yN,decide_eq_true_eq]
 omega
theorem aW {i j:Int}(h:0<j)(h2:j<2 ^ 200):opD .fdiv (.int i) (.int j)=.ok (.int (i/j)) true:=by
 simp[Dv.opD_ai,Dv.opD_al,Dv.opD_su,Dv.opD_mi,Dv.opD_ml,Dv.opD_mo,Dv.opD_fd,Dv.opD_po,Dv.opD_ba,Dv.opD_sh,sK h h2]
theorem aP (i j:Int):opD .add (.int i) (.int j)=.ok (.int (i+j)) true:=rfl
theorem cg (i j:Int):opD .sub (.int i) (.int j)=.ok (.int (i-j)) true:=rfl
theorem dC {a b:List Int}(h:a.length+b.length<=100000):opD .add (L a) (L b)=.ok (L (a++b)) true:=by
 simp[Dv.opD_ai,Dv.opD_al,Dv.opD_su,Dv.opD_mi,Dv.opD_ml,Dv.opD_mo,Dv.opD_fd,Dv.opD_po,Dv.opD_ba,Dv.opD_sh,Dv.mx,h,bh]
theorem nN {x n:Int}(h:-100000<=n)(h2:n<=100000):opD .mul (.lst [.int x]) (.int n)=.ok (L (List.replicate n.toNat x)) true:=by
 have h3:n.toNat<=100000:=by omega
 have e:(List.replicate n.toNat [D.int x]).flatten=(List.replicate n.toNat x).map D.int:=by
  generalize n.toNat=k
  induction k with
  | zero=>rfl
  | succ k ih=>rw[zl,zJ,ih,zl,yH]; rfl
 simp[Dv.opD_ai,Dv.opD_al,Dv.opD_su,Dv.opD_mi,Dv.opD_ml,Dv.opD_mo,Dv.opD_fd,Dv.opD_po,Dv.opD_ba,Dv.opD_sh,Dv.mx,h,h2,h3,e,Dv.flatL,Dv.scal,L]
theorem lU {x n:Int}(h:0<=n)(h2:n<=100000):opD .mul (.lst [.int x]) (.int n)=.ok (L (List.replicate n.toNat x)) true:=nN (by omega) h2
theorem fu {xs:List Int}(h:xs.length<64)(f:Bool):Dv.sortedD (L xs) f=.ok (L (Dv.isort xs)) true:=by
 unfold Dv.sortedD; simp only[sT]; rw[if_pos h]
theorem aJ:Sl.get .no=none:=rfl
theorem cS (d:D):Sl.get (.dp d)=some d:=rfl
theorem fM (d:D):Sl.shared (.dp d)=none:=rfl
theorem am (d:D):Sl.get (.sh d)=some d:=rfl
theorem aB (d:D):Sl.get (.ow d)=some d:=rfl
theorem aM (d:D):Sl.give (.sh d)=.sh d:=rfl
theorem tX (d:D):Sl.give (.ow d)=.sh d:=rfl
theorem aF:Sl.shared .no=none:=rfl
theorem au (d:D):Sl.shared (.sh d)=some d:=rfl
theorem aO (d:D):Sl.shared (.ow d)=none:=rfl
theorem af (i:Int):Dv.scal (.int i)=true:=rfl
theorem ak (i:List D):Dv.scal (.lst i)=false:=rfl
theorem dI (i:List D):Dv.scal (.tup i)=false:=rfl
theorem aw (i:Int)(f:Bool):keepD (.int i) f=some (.sh (.int i)):=rfl
theorem bz:keepD (.lst []) true=some (.ow (.lst [])):=rfl
theorem lv (i:Int):keepD (.lst [.int i]) true=some (.ow (.lst [.int i])):=rfl
theorem bo (xs:List Int):keepD (L xs) true=some (.ow (L xs)):=by simp[keepD,bh]
theorem l6 {elt cond:EE}{free:Dv.Env}{c:Int->Bool}{g:Int->Int}:∀ {xs:List Int},(∀ x∈xs,cond (some (.int x)::free)=.ok (.bl (c x)) true)->(∀ x∈xs,c x=true->elt (some (.int x)::free)=.ok (.int (g x)) true) ->
  compGo elt cond free (xs.map .int)=.ok (((xs.filter c).map g).map .int) true
 | [],_,_=>rfl
 | x::r,h,k=>by
  rw[yH]
  unfold compGo
  rw[h x (yR ..),l6 (c:=c) (g:=g) (λ y hy=>h y (yM _ hy)) λ y hy=>k y (yM _ hy)]
  cases e:c x with
  | true=>rw[k x (yR ..) e]; simp[e]
  | false=>simp[e]
theorem pS {elt:EE}{free:Dv.Env}{g:Int->Int}{xs:List Int}(k:∀ x∈xs,elt (some (.int x)::free)=.ok (.int (g x)) true) :
  compGo elt (eBl true) free (xs.map .int)=.ok ((xs.map g).map .int) true:=by
 rw[l6 (c:=λ _=>true) (g:=g) (λ _ _=>rfl) λ x hx _=>k x hx,List.filter_eq_self.mpr (λ _ _=>rfl)]
theorem b7 {elt:EE}{is:List Nat}{it:EI}{ρ:Dv.Env}{g:Int->Int}{xs:List Int}{f:Bool}(hi:it ρ=.ok (xs.map .int) f)(hl:xs.length<=100000)(k:∀ x∈xs,elt (some (.int x)::Dv.pick ρ is)=.ok (.int (g x)) true) :
  eComp elt (eBl true) is it ρ=.ok (L (xs.map g)) true:=by
 unfold eComp; rw[hi]; simp only[yP,Dv.mx,hl,if_true,pS k]
theorem c5 {elt cond:EE}{is:List Nat}{it:EI}{ρ:Dv.Env}{c:Int->Bool}{g:Int->Int}{xs:List Int}{f:Bool}(hi:it ρ=.ok (xs.map .int) f)(hl:xs.length<=100000)(h:∀ x∈xs,cond (some (.int x)::Dv.pick ρ is)=.ok (.bl (c x)) true)
  (k:∀ x∈xs,c x=true->elt (some (.int x)::Dv.pick ρ is)=.ok (.int (g x)) true):eComp elt cond is it ρ=.ok (L ((xs.filter c).map g)) true:=by
 unfold eComp; rw[hi]; simp only[yP,Dv.mx,hl,if_true,l6 h k]
noncomputable def upto (n:Nat):List Int:=(List.range n).map λ (i:Nat)=>(i:Int)
theorem dZ (lo:Int):∀ n:Nat,Dv.rangeL lo n=((List.range n).map λ (i:Nat)=>lo+(i:Int)).map D.int
 | 0=>rfl
 | n+1=>by
  unfold Dv.rangeL
  rw[dZ (lo+1) n,A2,yH,yH,Af,Af,Af]
  simp only[BD,Int.add_zero,List.cons.injEq,true_and]
  apply AG
  intro i _
  simp only[Function.comp,BB]
  congr 1
  omega
theorem bw (n:Nat):Dv.rangeL 0 n=(upto n).map .int:=by rw[dZ]; simp[upto]
theorem iZ (n:Nat):upto (n+1)=upto n++[(n:Int)]:=by unfold upto; rw[List.range_succ,An]; rfl
theorem upto_len (n:Nat):(upto n).length=n:=by simp[upto]
theorem mem_upto {n:Nat}{x:Int}:x∈upto n ↔ 0<=x/\x<n:=by
 unfold upto
 rw[Bm]
 constructor
 ·rintro ⟨i,hi,rfl⟩; have:=List.mem_range.mp hi; omega
 ·intro h; exact⟨x.toNat,List.mem_range.mpr (by omega),by omega⟩
theorem aL {x:Nat}{body:SS}{d:D}{r:List D}{st st':St}(h:body (st.set x (.sh d))=.nx st'):forGo x body (d::r) st=forGo x body r st':=by
 conv=>lhs; unfold forGo
 rw[h]
theorem js {x:Nat}{body:SS}{d:D}{r:List D}{st st':St}{c:String}(h:body (st.set x (.sh d))=.exc c st'):forGo x body (d::r) st=.exc c st':=by
 conv=>lhs; unfold forGo
 rw[h]
theorem pI {x:Nat}{body:SS}{d:D}{r:List D}{st:St}{v:D}{f:Bool}(h:body (st.set x (.sh d))=.ret v f):forGo x body (d::r) st=.ret v f:=by
 conv=>lhs; unfold forGo
 rw[h]
theorem nW {tgt:D->St->Option St}{body:SS}{d:D}{r:List D}{st st1 st':St}(h0:tgt d st=some st1)(h:body st1=.nx st'):Dv.forGoT tgt body (d::r) st=Dv.forGoT tgt body r st':=by
 conv=>lhs; unfold Dv.forGoT
 rw[h0]; simp only[h]
set_option maxHeartbeats 1000000
theorem dJ {n:Int}(h:1<=n)(h2:n<=60):F_Q04 [.int n]=.ok .non true:=by
 simp only[F_Q04,b_Q04,Dv.fn,sNil,sIf,eOr,eCm,eVar,eInt,Dv.all,R.bind,RL.bind,Out.bind,am,af,yH,yI,yJ,yT,List.replicate,yO,yS,yF,Nat.reduceAdd,Nat.reduceSub,cw,cz,decide_eq_false (show ¬ n<1 by omega),decide_eq_false (show ¬ 60<n by omega)]
noncomputable def dU (b n:Int):List Int->Bool
 | []=>true
 | x::r=>decide (b<x)&&decide (x<n)&&dU x n r
theorem gS:∀ {xs:List Int} {b n:Int},dU b n xs=true ↔ xs.Pairwise (·<·)/\∀ x∈xs,b<x/\x<n
 | [],b,n=>by simp[dU]
 | x::r,b,n=>by
  unfold dU
  rw[yN,yN,decide_eq_true_eq,decide_eq_true_eq,gS,Bj]
  constructor
  ·rintro ⟨⟨h1,h2⟩,h3,h4⟩
   refine⟨⟨λ y hy=>(h4 y hy).1,h3⟩,λ y hy=>?_⟩
   rcases List.mem_cons.mp hy with rfl|hy
   ·exact⟨h1,h2⟩
   ·have:=h4 y hy; omega
  ·rintro ⟨⟨h1,h2⟩,h3⟩
   have:=h3 x (yR ..)
   exact⟨this,h2,λ y hy=>⟨h1 y hy,(h3 y (yM _ hy)).2⟩⟩
theorem beat_iff {n:Int}{xs:List Int}:Beat n xs ↔ xs≠[]/\dU (-1) n xs=true:=by
 rw[gS]
 constructor
 ·intro h; exact⟨h.ne,h.up,λ x hx=>by have:=h.rg x hx; omega⟩
 ·rintro ⟨h1,h2,h3⟩; exact⟨h1,h2,λ x hx=>by have:=h3 x hx; omega⟩
theorem dz (n:Int)(A:D):∀ (xs:List Int) (b:Int) (z:Sl),dU b n xs=true->∃ st',forGo 3 b_Q03_l1 (xs.map .int) [.sh A,.sh (.int n),.sh (.int b),z]=.nx st'
 | [],b,z,_=>⟨_,rfl⟩
 | x::r,b,z,hu=>by
  unfold dU at hu
  rw[yN,yN,decide_eq_true_eq,decide_eq_true_eq] at hu
  obtain⟨⟨h1,h2⟩,h3⟩:=hu
  obtain⟨st',h⟩:=dz n A r x (.sh (.int x)) h3
  refine⟨st',?_⟩
  rw[yH,aL (st':=[.sh A,.sh (.int n),.sh (.int x),.sh (.int x)]),h]
  simp only[b_Q03_l1,sCons,sNil,sSetG,Dv.give,Dv.open_,aM,au,sIf,eOr,eCm,eVar,Dv.all,R.bind,RL.bind,Out.bind,am,af,yH,yI,yF,yG,yL,yK,yX,yV,yU,ij,rB,decide_eq_false (show ¬ x<=b by omega),decide_eq_false (show ¬ n<=x by omega)]
theorem gc {n:Int}{xs:List Int}(h1:xs≠[])(h:dU (-1) n xs=true):F_Q03 [L xs,.int n]=.ok .non true:=by
 obtain⟨st',e⟩:=dz n (L xs) xs (-1) .no h
 have h1:¬ ((xs.length:Int)=0):=by
  have:=List.length_pos_iff.mpr h1
  omega
 simp only[F_Q03,b_Q03,b_Q03_t2,b_Q03_t1,Dv.fn,sCons,sNil,sSet,aw,Dv.give,Dv.open_,aM,aF,au,sIf,sFor,iSeq,eB1,Dv.lenD,eNeg,eCm,eVar,eInt,Dv.all,R.bind,RL.bind,Out.bind,aJ,am,ak,yH,yI,yJ,yT,List.replicate,yO,yS,yF,yL,yK,yX,yV,yU,Nat.reduceAdd,Nat.reduceSub,aX,yP,decide_eq_false h1,e]
theorem el {n:Int}{xs:List Int}(hn:n<=60)(h:Beat n xs):F_Q02 [.int n,L xs]=.ok .non true:=by
 have e:=gc h.ne (beat_iff.mp h).2
 simp only[F_Q02,b_Q02,b_Q02_t1,Dv.fn,sCons,sExpr,eVar,lNil,lCons,eCall,Dv.all,R.bind,RL.bind,Dv.R.bindL,Dv.RL.bindL,Out.bind,am,af,ak,yH,yI,yJ,yT,List.replicate,yO,yS,yF,yG,yQ,Nat.reduceAdd,Nat.reduceSub,dJ h.pos hn,e]
noncomputable def cell (s:List Int)(k:Int):Int :=
 if k<s.length then s.getD k.toNat 0 else
 if 0<s.length then
  (s.getD (k%s.length).toNat 0*48271+k*7919)%2147483647*((s.getD (k%s.length).toNat 0*48271+k*7919)%2147483647)%2147483629
 else (7919*k+5)*(7919*k+5)%2147483629
theorem bD {s:List Int}{k:Int}(h:0<=k)(h2:k<=1000000):F_Q0E [L s,.int k]=.ok (.int (cell s k)) true:=by
 by_cases hk:k<(s.length:Int)
 ·simp only[F_Q0E,b_Q0E,b_Q0E_t3,b_Q0E_t2,b_Q0E_t1,Dv.fn,sCons,sIf,sRet,eB1,Dv.lenD,eIx,Dv.ixD,eCm,eVar,Dv.all,R.bind,RL.bind,Out.bind,aJ,am,af,ak,yH,yI,yJ,yT,List.replicate,yO,yS,yF,yG,zc,Nat.reduceAdd,Nat.reduceSub,cw,yP,kM h hk,decide_eq_true hk,cell,if_pos hk]
 ·by_cases hs:0<s.length
  ·have hs':(0:Int)<(s.length:Int):=by omega
   have hm:=aN (n:=(s.length:Int)) (a:=k) hs'
   have hz:=aN (n:=2147483647) (a:=s.getD (k%(s.length:Int)).toNat 0*48271+k*7919) (by omega)
   simp only[F_Q0E,b_Q0E,b_Q0E_t3,b_Q0E_t2,b_Q0E_t1,Dv.fn,sCons,sNil,sSet,aw,sIf,sRet,eB1,Dv.lenD,eIx,Dv.ixD,eCm,eOp,eVar,eInt,Dv.all,R.bind,RL.bind,Out.bind,aJ,am,af,ak,yH,yI,yJ,yT,List.replicate,yO,yS,yF,yG,yL,yK,zc,Nat.reduceAdd,Nat.reduceSub,aP,cw,cz,yP,decide_eq_false hk,cell,if_neg hk,if_pos hs,decide_eq_true hs',ap hs',kM hm.1 hm.2,aZ (bS (j:=48271) (by decide) (by decide)),aZ (bS (j:=7919) (by decide) (by decide)),aZ (bU (i:=7919) (by decide) (by decide)),ap (j:=2147483647) (by decide),ap (j:=2147483629) (by decide)]
   simp only[aZ (bU (i:=(s.getD (k%(s.length:Int)).toNat 0*48271+k*7919)%2147483647) (by omega) (by omega)),ap (j:=2147483629) (by decide)]
  ·have hs':¬ (0:Int)<(s.length:Int):=by omega
   simp only[F_Q0E,b_Q0E,b_Q0E_t3,b_Q0E_t2,b_Q0E_t1,Dv.fn,sCons,sNil,sSet,aw,sIf,sRet,eB1,Dv.lenD,eCm,eOp,eVar,eInt,Dv.all,R.bind,RL.bind,Out.bind,aJ,am,af,ak,yH,yI,yJ,yT,List.replicate,yO,yS,yF,yG,yL,yK,Nat.reduceAdd,Nat.reduceSub,aP,cw,cz,yP,decide_eq_false hk,cell,if_neg hk,if_neg hs,decide_eq_false hs',aZ (bU (i:=7919) (by decide) (by decide)),aZ (bU (i:=7919*k+5) (by omega) (by omega)),ap (j:=2147483629) (by decide)]
noncomputable def Sm (s:List Int):Prop:=∀ x∈s,Dv.bits x<=1048576
theorem sR {s:List Int}{i:Nat}(h:i<s.length):s.getD i 0∈s:=by
 rw[yW,zf h]; exact AV h
theorem pH {s:List Int}(hs:Sm s){k:Int}(h:0<=k):Dv.bits (cell s k)<=1048576:=by
 have small:∀ a:Int,Dv.bits (a%2147483629)<=1048576:=λ a=>by
  have:=aN (n:=2147483629) (a:=a) (by omega)
  have:=km (i:=a%2147483629) (k:=32) (by omega) (by omega) (by omega)
  omega
 unfold cell
 split
 ·exact hs _ (sR (by omega))
 ·split
  ·exact small _
  ·exact small _
theorem kS {s:List Int}(hs:Sm s){k j:Int}(h:0<=k)(hj:-(2 ^ 200)<j)(hj2:j<2 ^ 200):opD .mul (.int (cell s k)) (.int j)=.ok (.int (cell s k*j)) true :=
 aZ (uJ (pH hs h) (by have:=km (i:=j) (k:=200) (by omega) hj hj2; omega))
theorem xZ (xs:List Int)(p:Int):xs.map D.int++[.int p]=(xs++[p]).map D.int:=by simp
noncomputable def cG (bits share p:Int):Int :=
 if share=4 then (if bits/2 ^ ((p+7)%61).toNat%2 > bits/2 ^ p.toNat%2 then bits/2 ^ ((p+7)%61).toNat%2 else bits/2 ^ p.toNat%2)
 else if share=3 then bits/2 ^ p.toNat%2*(bits/2 ^ ((p+7)%61).toNat%2) else bits/2 ^ p.toNat%2
theorem pv {bits share p:Int}(hp:0<=p){found:List Int}(hl:found.length<=1000)(A B C:D)(z:Sl) :
  ∃ z',b_Q0W_l1 [.sh A,.sh B,.sh C,.sh (.int bits),.sh (.int share),.ow (L found),.sh (.int p),z]=.nx [.sh A,.sh B,.sh C,.sh (.int bits),.sh (.int share),.ow (L (if cG bits share p=1 then found++[p] else found)),.sh (.int p),z']:=by
 have hm:=aN (n:=61) (a:=p+7) (by omega)
 have hx:found.length<Dv.mx:=by unfold Dv.mx; omega
 have h2:(0:Int)<2:=by omega
 have hb:=aN (n:=2) (a:=bits/2 ^ p.toNat) (by omega)
 have go:∀ b:Int,cG bits share p=b->(∃ z',sIf (eCm .eq (eVar 7) (eInt 1)) (sApp 5 (eVar 6)) sNil [.sh A,.sh B,.sh C,.sh (.int bits),.sh (.int share),.ow (L found),.sh (.int p),.sh (.int b)]=.nx [.sh A,.sh B,.sh C,.sh (.int bits),.sh (.int share),.ow (L (if cG bits share p=1 then found++[p] else found)),.sh (.int p),z']):=by
  intro b e
  refine⟨.sh (.int b),?_⟩
  rw[e]
  by_cases h1:b=1
  ·simp only[sIf,sApp,eCm,eVar,eInt,Dv.all,R.bind,RL.bind,Out.bind,am,aB,af,yH,yI,yF,yG,yL,yK,yQ,if_true,aX,yP,decide_eq_true h1,decide_eq_true hx,if_pos h1,xZ,L]
  ·simp only[sNil,sIf,eCm,eVar,eInt,Dv.all,R.bind,RL.bind,Out.bind,am,aB,af,yH,yI,yF,yG,aX,decide_eq_false h1,if_neg h1,L]
 by_cases h3:share=3
 ·have h4:¬ share=4:=by omega
  obtain⟨z',e⟩:=go (bits/2 ^ p.toNat%2*(bits/2 ^ ((p+7)%61).toNat%2)) (by simp[cG,h3])
  refine⟨z',e▸?_⟩
  simp only[b_Q0W_l1,sCons,sNil,sSet,aw,sIf,sApp,eCm,eOp,eVar,eInt,Dv.all,R.bind,RL.bind,Out.bind,am,aB,af,yH,yI,yF,yG,yL,yK,zX,aP,aX,yP,fL hp,fL hm.1,ap h2,ap (j:=61) (by decide),decide_eq_true h3,decide_eq_false h4,aZ (bU (i:=bits/2 ^ p.toNat%2) (by omega) (by omega))]
 ·by_cases h4:share=4
  ·obtain⟨z',e⟩:=go (if bits/2 ^ ((p+7)%61).toNat%2 > bits/2 ^ p.toNat%2 then bits/2 ^ ((p+7)%61).toNat%2 else bits/2 ^ p.toNat%2) (by simp[cG,h4])
   refine⟨z',e▸?_⟩
   simp only[b_Q0W_l1,sCons,sNil,sSet,aw,sIf,sApp,eB2,Dv.max2D,eCm,eOp,eVar,eInt,Dv.all,R.bind,RL.bind,Out.bind,am,aB,af,yH,yI,yF,yG,yL,yK,zX,aP,aX,yP,fL hp,fL hm.1,ap h2,ap (j:=61) (by decide),decide_eq_false h3,decide_eq_true h4]
  ·obtain⟨z',e⟩:=go (bits/2 ^ p.toNat%2) (by simp[cG,h3,h4])
   refine⟨z',e▸?_⟩
   simp only[b_Q0W_l1,sCons,sNil,sSet,aw,sIf,sApp,eCm,eOp,eVar,eInt,Dv.all,R.bind,RL.bind,Out.bind,am,aB,af,yH,yI,yF,yG,yL,yK,zX,aX,yP,fL hp,fL hm.1,ap h2,ap (j:=61) (by decide),decide_eq_false h3,decide_eq_false h4]
theorem iW {bits share:Int}(A B C:D):∀ (xs found:List Int) (y z:Sl),(∀ x∈xs,0<=x)->xs.length+found.length<=1000 ->
  ∃ y' z',forGo 6 b_Q0W_l1 (xs.map .int) [.sh A,.sh B,.sh C,.sh (.int bits),.sh (.int share),.ow (L found),y,z]=.nx [.sh A,.sh B,.sh C,.sh (.int bits),.sh (.int share),.ow (L (found++xs.filter λ p=>decide (cG bits share p=1))),y',z']
 | [],found,y,z,_,_=>⟨y,z,by simp[forGo]⟩
 | p::r,found,y,z,h,hl=>by
  rw[yJ] at hl
  obtain⟨z1,e⟩:=pv (bits:=bits) (share:=share) (h p (yR ..)) (found:=found) (by omega) A B C z
  have hlen:(if cG bits share p=1 then found++[p] else found).length<=found.length+1:=by split <;>simp
  obtain⟨y',z',e2⟩:=iW A B C r (if cG bits share p=1 then found++[p] else found) (.sh (.int p)) z1 (λ x hx=>h x (yM _ hx)) (by omega)
  refine⟨y',z',?_⟩
  rw[yH,aL (st':=[.sh A,.sh B,.sh C,.sh (.int bits),.sh (.int share),.ow (L (if cG bits share p=1 then found++[p] else found)),.sh (.int p),z1]),e2]
  ·by_cases hb:cG bits share p=1
   ·simp[hb,zC]
   ·simp[hb,zC]
  ·simp only[yK,yL]; exact e
theorem uu (n:Nat):(upto n).Pairwise (·<·):=by
 unfold upto
 exact List.pairwise_map.mpr (List.pairwise_lt_range.imp λ {a b} h=>by omega)
theorem lg {n:Nat}:∀ x∈upto n,(0:Int)<=x:=λ x hx=>(mem_upto.mp hx).1
noncomputable def eB (s:List Int)(k n:Int):List Int :=
 if ((upto n.toNat).filter λ p=>decide (cG (cell s k*618970019642690137449562111%2305843009213693951) (cell s (k+1)%5) p=1))=[] then [cell s (k+1)/5%n]
 else (upto n.toNat).filter λ p=>decide (cG (cell s k*618970019642690137449562111%2305843009213693951) (cell s (k+1)%5) p=1)
theorem fT {n:Int}(h:0<=n)(h2:n<=1000):rngOk n=true:=by
 simp only[rngOk,yN,decide_eq_true_eq]; omega
theorem sW {s:List Int}(hs:Sm s){k n:Int}(hk:0<=k)(hk2:k<=1000)(hn:1<=n)(hn2:n<=61):F_Q0W [L s,.int k,.int n]=.ok (L (eB s k n)) true:=by
 obtain⟨y,z,e⟩:=iW (bits:=cell s k*618970019642690137449562111%2305843009213693951) (share:=cell s (k+1)%5) (L s) (.int k) (.int n) (upto n.toNat) [] .no .no lg (by rw[upto_len]; simp; omega)
 have hx:(0:Nat)<Dv.mx:=by decide
 by_cases hf:((upto n.toNat).filter λ p=>decide (cG (cell s k*618970019642690137449562111%2305843009213693951) (cell s (k+1)%5) p=1))=[]
 ·rw[hf] at e
  unfold eB
  rw[if_pos hf]
  simp only[yI,L,zz] at e
  simp only[F_Q0W,b_Q0W,b_Q0W_t5,b_Q0W_t4,b_Q0W_t3,b_Q0W_t2,b_Q0W_t1,Dv.fn,sCons,sNil,sSet,aw,bz,Dv.give,Dv.open_,aF,au,aO,sIf,sRetO,sApp,sFor,iRange,eCm,eOp,eVar,eInt,eLst,lNil,lCons,eCall,Dv.all,R.bind,RL.bind,Dv.R.bindL,Dv.RL.bindL,Out.bind,aJ,am,aB,af,ak,yH,yI,yJ,yT,List.replicate,yO,yS,yF,yG,yL,yK,yV,yQ,if_true,Nat.reduceAdd,Nat.reduceSub,aP,bD hk (show k<=1000000 by omega),bD (s:=s) (k:=k+1) (by omega) (by omega),kS hs hk (j:=618970019642690137449562111) (by decide) (by decide),ap (j:=2305843009213693951) (by decide),ap (j:=5) (by decide),fT (n:=n) (by omega) (by omega),bw,Dv.flatL,e,aW (j:=5) (by decide) (by decide),ap (show (0:Int)<n by omega),decide_eq_true hx]
  have q:cmD .eq (.lst []) (.lst [])=.ok (.bl true) true:=gN [] []
  simp only[q,af,yF,yG,yQ,decide_eq_true hx,Dv.flatL]
  all_goals rfl
 ·unfold eB
  rw[if_neg hf]
  simp only[yS,yI,L] at e
  simp only[F_Q0W,b_Q0W,b_Q0W_t5,b_Q0W_t4,b_Q0W_t3,b_Q0W_t2,b_Q0W_t1,Dv.fn,sCons,sNil,sSet,aw,bz,Dv.give,Dv.open_,aF,au,aO,sIf,sRetO,sApp,sFor,iRange,eCm,eOp,eVar,eInt,eLst,lNil,lCons,eCall,Dv.all,R.bind,RL.bind,Dv.R.bindL,Dv.RL.bindL,Out.bind,aJ,am,aB,af,ak,yH,yI,yJ,yT,List.replicate,yO,yS,yF,yG,yL,yK,yV,yQ,if_true,Nat.reduceAdd,Nat.reduceSub,aP,fS,yP,bD hk (show k<=1000000 by omega),bD (s:=s) (k:=k+1) (by omega) (by omega),kS hs hk (j:=618970019642690137449562111) (by decide) (by decide),ap (j:=2305843009213693951) (by decide),ap (j:=5) (by decide),fT (n:=n) (by omega) (by omega),bw,Dv.flatL,e]
  have q:=fS ((upto n.toNat).filter λ p=>decide (cG (cell s k*618970019642690137449562111%2305843009213693951) (cell s (k+1)%5) p=1))
  simp only[L] at q
  simp only[q,yF,yG,bh,decide_eq_false hf]
theorem tF {s:List Int}(hs:Sm s){k n:Int}(hk:0<=k)(hk2:k<=1000)(hn:1<=n)(hn2:n<=60):F_Q0W [L s,.int k,.int n]=.ok (L (eB s k n)) true:=sW hs hk hk2 hn (by omega)
theorem oz (s:List Int)(k:Int){n:Int}(hn:1<=n):Beat n (eB s k n):=by
 unfold eB
 split
 ·exact⟨by simp,by simp,λ x hx=>by rw[Ao] at hx; subst hx; exact aN (by omega)⟩
 ·rename_i h
  exact⟨h,(uu _).filter _,λ x hx=>by have:=mem_upto.mp (List.mem_filter.mp hx).1; omega⟩
theorem iU {n by_:Int}{xs:List Int}(hn:0<n)(hl:xs.length<64):F_Q0X [.int n,L xs,.int by_]=.ok (L (Dv.isort (xs.map λ x=>(x+by_)%n))) true:=by
 have hc:c_Q0X_1 [some (.int n),some (L xs),some (.int by_)]=.ok (L (xs.map λ x=>(x+by_)%n)) true:=by
  unfold c_Q0X_1
  exact b7 (f:=false) rfl (by omega) λ x hx=>by simp only[eOp,eVar,Dv.pick,R.bind,RL.bind,Out.bind,af,yH,yI,yF,yG,yU,aP,ap hn]
 simp only[F_Q0X,b_Q0X,Dv.fn,sRet,eB1,Dv.all,R.bind,RL.bind,Out.bind,am,yH,yI,yJ,yT,List.replicate,yO,yS,Nat.reduceAdd,Nat.reduceSub,hc,fu (xs:=xs.map λ x=>(x+by_)%n) (by simpa using hl)]
theorem ie (n:Int)(xs:List Int):∀ t:Nat,(upto t).foldl (λ a k=>a++xs.map (·+k*n)) []=again n xs t
 | 0=>rfl
 | t+1=>by rw[iZ,Bq,ie n xs t]; rfl
theorem iw {n t:Int}{xs:List Int}:∀ (ks found:List Int) (z:Sl),(∀ k∈ks,0<=k/\k<=1000)->found.length+ks.length*xs.length<=100000 ->
  ∃ z',forGo 4 b_Q09_l1 (ks.map .int) [.sh (.int n),.sh (L xs),.sh (.int t),.ow (L found),z]=.nx [.sh (.int n),.sh (L xs),.sh (.int t),.ow (L (ks.foldl (λ a k=>a++xs.map (·+k*n)) found)),z']
 | [],found,z,_,_=>⟨z,rfl⟩
 | k::r,found,z,h,hl=>by
  rw[yJ,zw] at hl
  have hk:=h k (yR ..)
  have hc:c_Q09_1 [some (.int n),some (L xs),some (.int t),some (L found),some (.int k)]=.ok (L (xs.map (·+k*n))) true:=by
   unfold c_Q09_1
   exact b7 (f:=false) rfl (by omega) λ x hx=>by simp only[eOp,eVar,Dv.pick,R.bind,RL.bind,Out.bind,af,yH,yI,yF,yG,yU,aP,aZ (bU (i:=k) (j:=n) (by omega) (by omega))]
  obtain⟨z',e⟩:=iw (n:=n) (t:=t) (xs:=xs) r (found++xs.map (·+k*n)) (.sh (.int k)) (λ x hx=>h x (yM _ hx)) (by rw[za,yP]; omega)
  refine⟨z',?_⟩
  rw[yH,aL (st':=[.sh (.int n),.sh (L xs),.sh (.int t),.ow (L (found++xs.map (·+k*n))),.sh (.int k)]),e]
  ·rfl
  ·simp only[b_Q09_l1,sSet,bo,eOp,eVar,Dv.all,R.bind,RL.bind,Out.bind,am,aB,ak,yH,yI,yF,yG,yL,yK,yP,hc,dC (a:=found) (b:=xs.map (·+k*n)) (by rw[yP]; omega)]
theorem pR {n t:Int}{xs:List Int}(ht:0<=t)(ht2:t<=1000)(hl:xs.length<=60):F_Q09 [.int n,L xs,.int t]=.ok (L (again n xs t.toNat)) true:=by
 obtain⟨z,e⟩:=iw (n:=n) (t:=t) (xs:=xs) (upto t.toNat) [] .no (λ k hk=>by have:=mem_upto.mp hk; omega) (by
  rw[upto_len]
  have:t.toNat*xs.length<=1000*60:=BO (by omega) hl
  simp; omega)
 rw[ie] at e
 simp only[yI,L] at e
 simp only[F_Q09,b_Q09,b_Q09_t2,b_Q09_t1,Dv.fn,sCons,sSet,bz,Dv.give,Dv.open_,aF,au,aO,sRetO,sFor,iRange,eVar,eLst,lNil,R.bind,RL.bind,Out.bind,af,yH,yI,yJ,yT,List.replicate,yO,yS,yF,yG,yL,yK,yV,if_true,Nat.reduceAdd,Nat.reduceSub,bh,Dv.flatL,fT ht ht2,bw,e]
theorem e8 {a r:SS}{st st1:St}(h:a st=.nx st1):sCons a r st=r st1:=by
 unfold sCons; rw[h]
noncomputable def Hs (s:Sl)(a:List Int):Prop:=s=.sh (L a)\/s=.ow (L a)
theorem Hs.get {s:Sl}{a:List Int}(h:Hs s a):s.get=some (L a):=by rcases h with h|h <;>(subst h; rfl)
theorem Hs.give {s:Sl}{a:List Int}(h:Hs s a):s.give=.sh (L a):=by rcases h with h|h <;>(subst h; rfl)
structure PairP (P:Int->List Int->List Int->Prop):Prop where
 one:P 1 [0] [0]
 beat:∀ {n a b},P n a b->Beat n a/\Beat n b
 again:∀ {n a b} {t:Nat},1<=t->P n a b->P (n*t) (again n a t) b
 mix:∀ {n a b} {t:Nat},1<=t->P n a b->P (n*t) (Dv.isort (mix a t t)) (b.map (·*(t:Int)))
 swap:∀ {n a b},P n a b->P n b a
 turn:∀ {n a b} (c:Int),P n a b->P n (Dv.isort (a.map λ x=>(x+c)%n)) b
theorem qG:PairP (λ n a b=>Beat n a/\Beat n b) where
 one:=⟨⟨by simp,by simp,by simp⟩,⟨by simp,by simp,by simp⟩⟩
 beat:=λ h=>h
 again:=λ {n a b t} ht h=>⟨mo h.1 ht,h.2.ne,h.2.up,λ x hx=>by
  have h1:=h.2.rg x hx
  have h2:n*1<=n*(t:Int):=zt (by omega) (by have:=h.2.pos; omega)
  omega⟩
 mix:=λ {n a b t} ht h=>⟨k8 h.1 ht,kU h.2 (by omega)⟩
 swap:=λ h=>⟨h.2,h.1⟩
 turn:=λ c h=>⟨oU h.1,h.2⟩
theorem kG (xs:List Int)(t:Int):∀ j:Nat,(upto j).foldl (λ a k=>a++xs.map (·*t+k)) []=mix xs t j
 | 0=>rfl
 | j+1=>by rw[iZ,Bq,kG xs t j]; rfl
section
variable {s:List Int}{k0 n t:Int}{a b:List Int}{sa sb z5 z6 z8:Sl}
theorem kQ (ha:Hs sa a)(ht0:0<=t)(ht:t<=100)(hsb:True):∀ (ks found:List Int) (z:Sl),(∀ k∈ks,0<=k/\k<=1000)->found.length+ks.length*a.length<=100000 ->
  ∃ z',forGo 10 b_Q0P_l1 (ks.map .int) [.sh (L s),.sh (.int k0),.sh (.int n),sa,sb,z5,z6,.sh (.int t),z8,.ow (L found),z]=.nx [.sh (L s),.sh (.int k0),.sh (.int n),sa,sb,z5,z6,.sh (.int t),z8,.ow (L (ks.foldl (λ x k=>x++a.map (·*t+k)) found)),z']
 | [],found,z,_,_=>⟨z,rfl⟩
 | k::r,found,z,h,hl=>by
  rw[yJ,zw] at hl
  have hk:=h k (yR ..)
  have hc:c_Q0P_1 [some (L s),some (.int k0),some (.int n),some (L a),sb.get,z5.get,z6.get,some (.int t),z8.get,some (L found),some (.int k)]=.ok (L (a.map (·*t+k))) true:=by
   unfold c_Q0P_1
   exact b7 (f:=false) rfl (by omega) λ x hx=>by simp only[eOp,eVar,Dv.pick,R.bind,RL.bind,Out.bind,af,yH,yI,yF,yG,yU,aP,aZ (bS (i:=x) (j:=t) (by omega) (by omega))]
  obtain⟨z',e⟩:=kQ ha ht0 ht hsb r (found++a.map (·*t+k)) (.sh (.int k)) (λ x hx=>h x (yM _ hx)) (by rw[za,yP]; omega)
  refine⟨z',?_⟩
  rw[yH,aL (st':=[.sh (L s),.sh (.int k0),.sh (.int n),sa,sb,z5,z6,.sh (.int t),z8,.ow (L (found++a.map (·*t+k))),.sh (.int k)]),e]
  ·rfl
  ·simp only[b_Q0P_l1,sSet,bo,eOp,eVar,Dv.all,R.bind,RL.bind,Out.bind,am,aB,ak,yH,yI,yF,yG,yL,yK,yP,ha.get,hc,dC (a:=found) (b:=a.map (·*t+k)) (by rw[yP]; omega)]
end
theorem qz (r:Int)(h:0<=r)(h2:r<7):∃ t:Nat,Dv.at? [.int 2,.int 3,.int 2,.int 5,.int 2,.int 3,.int 7] r=some (.int t)/\2<=t/\t<=7:=by
 have:r=0\/r=1\/r=2\/r=3\/r=4\/r=5\/r=6:=by omega
 rcases this with rfl|rfl|rfl|rfl|rfl|rfl|rfl
 ·exact⟨2,rfl,by omega,by omega⟩
 ·exact⟨3,rfl,by omega,by omega⟩
 ·exact⟨2,rfl,by omega,by omega⟩
 ·exact⟨5,rfl,by omega,by omega⟩
 ·exact⟨2,rfl,by omega,by omega⟩
 ·exact⟨3,rfl,by omega,by omega⟩
 ·exact⟨7,rfl,by omega,by omega⟩
theorem oV {P:Int->List Int->List Int->Prop}(hP:PairP P){s:List Int}{k0 n k:Int}{a b:List Int}{sa sb z6 z7 z8 z9 z10:Sl}(hk0:0<=k0)(hk1:k0<=1000)(hk:0<=k/\k<=100)(h:P n a b)(hn:n<=60)(ha:Hs sa a)(hb:Hs sb b) :
  ∃ n' a' b' sa' sb' y6 y7 y8 y9 y10,b_Q0P_l2 [.sh (L s),.sh (.int k0),.sh (.int n),sa,sb,.sh (.int k),z6,z7,z8,z9,z10]=.nx [.sh (L s),.sh (.int k0),.sh (.int n'),sa',sb',.sh (.int k),y6,y7,y8,y9,y10]/\P n' a' b'/\n'<=60/\Hs sa' a'/\Hs sb' b':=by
 have hA:=(hP.beat h).1
 have hB:=(hP.beat h).2
 have hnp:=hA.pos
 have hz:=aN (n:=2147483647) (a:=cell s (k0+k)*48271) (by omega)
 generalize hnum:cell s (k0+k)*48271%2147483647=num at hz
 have hm7:=aN (n:=7) (a:=num) (by omega)
 obtain⟨t,ht,ht2,ht7⟩:=qz (num%7) hm7.1 hm7.2
 have h6:sSet 6 (eOp .mod (eOp .mul (eCall F_Q0E (lCons (eVar 0) (lCons (eOp .add (eVar 1) (eVar 5)) lNil))) (eInt 48271)) (eInt 2147483647)) [.sh (L s),.sh (.int k0),.sh (.int n),sa,sb,.sh (.int k),z6,z7,z8,z9,z10]
   = .nx [.sh (L s),.sh (.int k0),.sh (.int n),sa,sb,.sh (.int k),.sh (.int num),z7,z8,z9,z10]:=by
  simp only[sSet,aw,eOp,eVar,eInt,lNil,lCons,eCall,Dv.all,R.bind,RL.bind,Dv.R.bindL,Dv.RL.bindL,Out.bind,am,af,ak,yH,yI,yF,yG,yL,yK,yQ,aP,bD (s:=s) (k:=k0+k) (by omega) (by omega),aZ (bS (j:=48271) (by decide) (by decide)),ap (j:=2147483647) (by decide),hnum]
 have h78:∀ rest:SS,sCons (sSet 7 (eIx (eLst (lCons (eInt 2) (lCons (eInt 3) (lCons (eInt 2) (lCons (eInt 5) (lCons (eInt 2) (lCons (eInt 3) (lCons (eInt 7) lNil)))))))) (eOp .mod (eVar 6) (eInt 7)))) (sCons (sSet 8 (eOp .mod (eOp .fdiv (eVar 6) (eInt 7)) (eInt 4))) rest)
   [.sh (L s),.sh (.int k0),.sh (.int n),sa,sb,.sh (.int k),.sh (.int num),z7,z8,z9,z10]=rest [.sh (L s),.sh (.int k0),.sh (.int n),sa,sb,.sh (.int k),.sh (.int num),.sh (.int t),.sh (.int (num/7%4)),z9,z10]:=by
  intro rest
  simp only[sCons,sSet,aw,eIx,Dv.ixD,eOp,eVar,eInt,eLst,lNil,lCons,Dv.all,R.bind,RL.bind,Dv.R.bindL,Dv.RL.bindL,Out.bind,am,af,yH,yI,yF,yG,yL,yK,zc,yQ,ap (j:=7) (by decide),ht,aW (j:=7) (by decide) (by decide),ap (j:=4) (by decide)]
 have hsw:∀ (n':Int) (a' b':List Int) (sa' sb' y9 y10:Sl),P n' a' b'->n'<=60->Hs sa' a'->Hs sb' b'->∃ a2 b2 sa2 sb2,sIf (eCm .eq (eOp .mod (eOp .fdiv (eVar 6) (eInt 28)) (eInt 2)) (eInt 1)) (sPar [3,4] 3 4 (eVar 4) (eVar 3)) sNil [.sh (L s),.sh (.int k0),.sh (.int n'),sa',sb',.sh (.int k),.sh (.int num),.sh (.int t),.sh (.int (num/7%4)),y9,y10]
   = .nx [.sh (L s),.sh (.int k0),.sh (.int n'),sa2,sb2,.sh (.int k),.sh (.int num),.sh (.int t),.sh (.int (num/7%4)),y9,y10]/\P n' a2 b2/\Hs sa2 a2/\Hs sb2 b2:=by
  intro n' a' b' sa' sb' y9 y10 h' hn' ha' hb'
  by_cases hq:num/28%2=1
  ·refine⟨b',a',.sh (L b'),.sh (L a'),?_,hP.swap h',.inl rfl,.inl rfl⟩
   rcases ha' with e|e <;>rcases hb' with e2|e2 <;>(subst e; subst e2; simp only[Dv.give,Dv.open_,aM,tX,au,sIf,sPar,eCm,eOp,eVar,eInt,Dv.all,R.bind,RL.bind,Out.bind,am,aB,af,ak,yH,yI,yF,yG,yL,yK,yX,yV,yU,aX,aW (j:=28) (by decide) (by decide),ap (j:=2) (by decide),decide_eq_true hq])
  ·refine⟨a',b',sa',sb',?_,h',ha',hb'⟩
   simp only[sNil,sIf,eCm,eOp,eVar,eInt,Dv.all,R.bind,RL.bind,Out.bind,am,af,yH,yI,yF,yG,aX,aW (j:=28) (by decide) (by decide),ap (j:=2) (by decide),decide_eq_false hq]
 have hla:=hA.len
 have hlb:=hB.len
 have hmul:opD .mul (.int n) (.int (t:Int))=.ok (.int (n*t)) true:=aZ (bU (by omega) (by omega))
 unfold b_Q0P_l2
 rw[e8 h6,h78]
 by_cases hle:n*t<=60
 ·by_cases hkd:num/7%4<2
  ·have hag:F_Q09 [.int n,L a,.int (t:Int)]=.ok (L (again n a t)) true:=by
    have:=pR (n:=n) (t:=(t:Int)) (xs:=a) (by omega) (by omega) (by omega)
    rwa [zo] at this
   obtain⟨a2,b2,sa2,sb2,e,p2,x1,x2⟩:=hsw (n*t) (again n a t) b (.ow (L (again n a t))) sb z9 z10 (hP.again (by omega) h) hle (.inr rfl) hb
   refine⟨n*t,a2,b2,sa2,sb2,.sh (.int num),.sh (.int t),.sh (.int (num/7%4)),z9,z10,?_,p2,hle,x1,x2⟩
   rw[e8 (st1:=[.sh (L s),.sh (.int k0),.sh (.int (n*t)),.ow (L (again n a t)),sb,.sh (.int k),.sh (.int num),.sh (.int t),.sh (.int (num/7%4)),z9,z10])]
   ·exact e
   ·simp only[sCons,sSet,aw,bo,sIf,eCm,eOp,eVar,eInt,lNil,lCons,eCall,Dv.all,R.bind,RL.bind,Dv.R.bindL,Dv.RL.bindL,Out.bind,am,aB,af,ak,yH,yI,yF,yG,yL,yK,yQ,yZ,cw,ij,hmul,decide_eq_true hle,decide_eq_true hkd,ha.get,hag]
  ·obtain⟨z',em⟩:=kQ (s:=s) (k0:=k0) (n:=n) (t:=(t:Int)) (a:=a) (sa:=sa) (sb:=sb) (z5:=.sh (.int k)) (z6:=.sh (.int num)) (z8:=.sh (.int (num/7%4))) ha (by omega) (by omega) trivial (upto t) [] z10 (λ x hx=>by have:=mem_upto.mp hx; omega) (by
    rw[upto_len]
    have:t*a.length<=7*60:=BO ht7 (by omega)
    simp; omega)
   rw[kG] at em
   simp only[yI,L] at em
   have hmx:(mix a t t).length<64:=by
    have h1:(((mix a t t).length:Nat):Int)<=n*t:=by
     have e1:=(k8 hA (show 1<=t by omega)).len
     rw[i7] at e1
     exact e1
    omega
   have hc2:c_Q0P_2 [some (L s),some (.int k0),some (.int n),some (L (Dv.isort (mix a t t))),some (L b),some (.int k),some (.int num),some (.int t),some (.int (num/7%4)),some (L (mix a t t)),z'.get]=.ok (L (b.map (·*(t:Int)))) true:=by
    unfold c_Q0P_2
    exact b7 (f:=false) rfl (by omega) λ x hx=>by simp only[eOp,eVar,Dv.pick,R.bind,RL.bind,Out.bind,af,yH,yI,yF,yG,yU,aZ (bS (i:=x) (j:=(t:Int)) (by omega) (by omega))]
   obtain⟨a2,b2,sa2,sb2,e,p2,x1,x2⟩:=hsw (n*t) (Dv.isort (mix a t t)) (b.map (·*(t:Int))) (.ow (L (Dv.isort (mix a t t)))) (.ow (L (b.map (·*(t:Int))))) (.ow (L (mix a t t))) z' (hP.mix (by omega) h) hle (.inr rfl) (.inr rfl)
   refine⟨n*t,a2,b2,sa2,sb2,.sh (.int num),.sh (.int t),.sh (.int (num/7%4)),.ow (L (mix a t t)),z',?_,p2,hle,x1,x2⟩
   rw[e8 (st1:=[.sh (L s),.sh (.int k0),.sh (.int (n*t)),.ow (L (Dv.isort (mix a t t))),.ow (L (b.map (·*(t:Int)))),.sh (.int k),.sh (.int num),.sh (.int t),.sh (.int (num/7%4)),.ow (L (mix a t t)),z'])]
   ·exact e
   ·have hso:=fu hmx false
    simp only[L] at hso hc2
    simp only[sCons,sSet,aw,bo,bz,Dv.give,Dv.open_,au,aO,sIf,sFor,iRange,eB1,eCm,eOp,eVar,eInt,eLst,lNil,Dv.all,R.bind,RL.bind,Out.bind,am,aB,af,ak,yH,yI,yF,yG,yL,yK,yV,if_true,cw,ij,hmul,decide_eq_true hle,decide_eq_false hkd,Dv.flatL,fT (n:=(t:Int)) (by omega) (by omega),zo,bw,em,hso,hb.get,hc2]
 ·obtain⟨a2,b2,sa2,sb2,e,p2,x1,x2⟩:=hsw n a b sa sb z9 z10 h hn ha hb
  refine⟨n,a2,b2,sa2,sb2,.sh (.int num),.sh (.int t),.sh (.int (num/7%4)),z9,z10,?_,p2,hn,x1,x2⟩
  rw[e8 (st1:=[.sh (L s),.sh (.int k0),.sh (.int n),sa,sb,.sh (.int k),.sh (.int num),.sh (.int t),.sh (.int (num/7%4)),z9,z10])]
  ·exact e
  ·simp only[sNil,sIf,eCm,eOp,eVar,eInt,Dv.all,R.bind,RL.bind,Out.bind,am,af,yH,yI,yF,yG,ij,hmul,decide_eq_false hle]
theorem jr {P:Int->List Int->List Int->Prop}(hP:PairP P){s:List Int}{k0:Int}(hk0:0<=k0)(hk1:k0<=1000):∀ (ks:List Int) (n:Int) (a b:List Int) (sa sb z5 z6 z7 z8 z9 z10:Sl),(∀ k∈ks,0<=k/\k<=100)->P n a b->n<=60->Hs sa a->Hs sb b ->
  ∃ n' a' b' sa' sb' y5 y6 y7 y8 y9 y10,forGo 5 b_Q0P_l2 (ks.map .int) [.sh (L s),.sh (.int k0),.sh (.int n),sa,sb,z5,z6,z7,z8,z9,z10]=.nx [.sh (L s),.sh (.int k0),.sh (.int n'),sa',sb',y5,y6,y7,y8,y9,y10]/\P n' a' b'/\n'<=60/\Hs sa' a'/\Hs sb' b'
 | [],n,a,b,sa,sb,z5,z6,z7,z8,z9,z10,_,h,hn,ha,hb=>⟨n,a,b,sa,sb,z5,z6,z7,z8,z9,z10,rfl,h,hn,ha,hb⟩
 | k::r,n,a,b,sa,sb,z5,z6,z7,z8,z9,z10,hk,h,hn,ha,hb=>by
  obtain⟨n1,a1,b1,sa1,sb1,y6,y7,y8,y9,y10,e1,p1,hn1,ha1,hb1⟩:=oV hP (s:=s) (z6:=z6) (z7:=z7) (z8:=z8) (z9:=z9) (z10:=z10) hk0 hk1 (hk k (yR ..)) h hn ha hb
  obtain⟨n2,a2,b2,sa2,sb2,x5,x6,x7,x8,x9,x10,e2,p2⟩:=jr hP hk0 hk1 r n1 a1 b1 sa1 sb1 (.sh (.int k)) y6 y7 y8 y9 y10 (λ x hx=>hk x (yM _ hx)) p1 hn1 ha1 hb1
  refine⟨n2,a2,b2,sa2,sb2,x5,x6,x7,x8,x9,x10,?_,p2⟩
  rw[yH,aL (st':=[.sh (L s),.sh (.int k0),.sh (.int n1),sa1,sb1,.sh (.int k),y6,y7,y8,y9,y10])]
  ·exact e2
  ·simp only[yK,yL]; exact e1
theorem uc {P:Int->List Int->List Int->Prop}(hP:PairP P){s:List Int}{k0:Int}(hk0:0<=k0)(hk1:k0<=1000):∃ n a b f,F_Q0P [L s,.int k0]=.ok (.tup [.int n,L a,L b]) f/\P n a b/\n<=60:=by
 obtain⟨n,a,b,sa,sb,y5,y6,y7,y8,y9,y10,e,p,hn,ha,hb⟩:=jr hP (s:=s) hk0 hk1 (upto 6) 1 [0] [0] (.ow (L [0])) (.ow (L [0])) .no .no .no .no .no .no (λ x hx=>by have:=mem_upto.mp hx; omega) hP.one (by omega) (.inr rfl) (.inr rfl)
 have hA:=(hP.beat p).1
 have hB:=(hP.beat p).2
 have hnp:0<n:=by have:=hA.pos; omega
 have hla:=hA.len
 have hlb:=hB.len
 simp only[L,yH,yI] at e
 have hr:rngOk 6=true:=by decide
 have h6:(6:Int).toNat=6:=rfl
 refine⟨n,Dv.isort (a.map λ x=>(x+cell s (k0+6)%n)%n),Dv.isort (b.map λ x=>(x+cell s (k0+7)%n)%n),false,?_,hP.swap (hP.turn _ (hP.swap (hP.turn _ p))),hn⟩
 have ht1:=iU (by_:=cell s (k0+6)%n) (xs:=a) hnp (by omega)
 have ht2:=iU (by_:=cell s (k0+7)%n) (xs:=b) hnp (by omega)
 simp only[F_Q0P,b_Q0P,b_Q0P_t5,b_Q0P_t4,b_Q0P_t3,b_Q0P_t2,b_Q0P_t1,Dv.fn,sCons,sSet,aw,bo,lv,Dv.give,sRet,sFor,iRange,eOp,eVar,eInt,eLst,eTup,lNil,lCons,eCall,Dv.all,R.bind,RL.bind,Dv.R.bindL,Dv.RL.bindL,Out.bind,am,aB,af,ak,yH,yI,yJ,yT,List.replicate,yO,yS,yF,yG,yL,yK,yV,yQ,yZ,if_true,Nat.reduceAdd,Nat.reduceSub,aP,Dv.flatL,hr,h6,bw,e,ha.get,hb.get,bD (s:=s) (k:=k0+6) (by omega) (by omega),bD (s:=s) (k:=k0+7) (by omega) (by omega),ap hnp,ht1,ht2]
end Cw
namespace Bt
open Dv (ins isort)
structure Fill (n:Int)(a b:List Int):Prop where
 one:Beat n a
 oth:Beat n b
 len:((a.length*b.length:Nat):Int)=n
 inj:∀ x∈a,∀ y∈a,∀ s∈b,∀ t∈b,(x+s)%n=(y+t)%n->x=y/\s=t
theorem gY (n:Int)(a:List Int):∀ b:List Int,(hits n a b).length=a.length*b.length
 | []=>by simp[hits]
 | s::r=>by
  have e:hits n a (s::r)=(a.map λ b=>(b+s)%n)++hits n a r:=by simp[hits]
  rw[e,za,yP,gY n a r,yJ,Nat.mul_succ,AY]
theorem lE (n i:Nat)(h:i<n):((List.range n).map λ (i:Nat)=>(i:Int)).count (i:Int)=1:=by
 have nd:((List.range n).map λ (i:Nat)=>(i:Int)).Nodup:=List.pairwise_map.mpr (List.pairwise_lt_range.imp λ {a b} h=>by omega)
 have h1:=(List.nodup_iff_count.mp nd) (i:Int)
 have h2:=List.count_pos_iff.mpr (List.mem_map.mpr ⟨i,List.mem_range.mpr h,rfl⟩:(i:Int)∈(List.range n).map λ (i:Nat)=>(i:Int))
 omega
theorem uI {n:Int}{a b:List Int}(ha:Beat n a)(hb:Beat n b)(h:tally n.toNat (hits n a b)=List.replicate n.toNat 1):Fill n a b:=by
 have hp:=ha.pos
 rw[kw _ λ p hq=>(gu (by omega) p hq).1] at h
 have cnt:∀ p:Int,0<=p->p<n->(hits n a b).count p=1:=λ p h0 h1=>by
  have e:=congrArg (λ l=>l[p.toNat]?) h
  have hi:p.toNat<n.toNat:=by omega
  simp[hi] at e
  have e2:((p.toNat:Nat):Int)=p:=by omega
  have e3:max p 0=p:=by omega
  first
   | (rw[e2] at e; omega)
   | (rw[e3] at e; omega)
 have nd:(hits n a b).Nodup:=by
  rw[List.nodup_iff_count]
  intro p
  by_cases hm:p∈hits n a b
  ·have:=gu (n:=n) (by omega) p hm
   rw[cnt p this.1 this.2]; omega
  ·rw[zY hm]; omega
 have pm:(hits n a b).Perm ((List.range n.toNat).map λ (i:Nat)=>(i:Int)):=by
  refine(List.perm_iff_count).mpr λ p=>?_
  by_cases hr:0<=p/\p<n
  ·rw[cnt p hr.1 hr.2]
   have:=lE n.toNat p.toNat (by omega)
   rw[show ((p.toNat:Nat):Int)=p by omega] at this
   exact this.symm
  ·rw[zY λ hm=>hr (gu (by omega) p hm),zY]
   intro hm
   obtain⟨i,hi,rfl⟩:=List.mem_map.mp hm
   have:=List.mem_range.mp hi
   omega
 refine⟨ha,hb,?_,?_⟩
 ·have:=pm.length_eq
  rw[gY,yP,List.length_range] at this
  omega
 ·-- two ways to one place would count twice
  have aux:∀ {b:List Int},(hits n a b).Nodup->b.Nodup->∀ x∈a,∀ y∈a,∀ s∈b,∀ t∈b,(x+s)%n=(y+t)%n->x=y/\s=t:=by
   intro b
   induction b with
   | nil=>intro _ _ x _ y _ s hs; simp at hs
   | cons u r ih =>
    intro nd nb x hx y hy s hs t ht e
    have eh:hits n a (u::r)=(a.map λ b=>(b+u)%n)++hits n a r:=by simp[hits]
    rw[eh] at nd
    obtain⟨n1,n2,n3⟩:=List.nodup_append.mp nd
    have inr:∀ z∈a,∀ v∈r,(z+v)%n∈hits n a r:=λ z hz v hv=>List.mem_flatMap.mpr ⟨v,hv,List.mem_map.mpr ⟨z,hz,rfl⟩⟩
    rcases List.mem_cons.mp hs with e1|hs'
    ·rcases List.mem_cons.mp ht with e2|ht'
     ·subst e1 e2
      exact⟨mT (by omega) (ha.rg x hx) (ha.rg y hy) e,rfl⟩
     ·subst e1
      exact absurd e (n3 _ (List.mem_map.mpr ⟨x,hx,rfl⟩) _ (inr y hy t ht'))
    ·rcases List.mem_cons.mp ht with e2|ht'
     ·subst e2
      exact absurd e.symm (n3 _ (List.mem_map.mpr ⟨y,hy,rfl⟩) _ (inr x hx s hs'))
     ·exact ih n2 (List.nodup_cons.mp nb).2 x hx y hy s hs' t ht' e
  exact aux nd hb.nd
end Bt
namespace Cw
open Dv (Out R RL eB1 eCall eCm eInt eIx eLst eNeg eOp eOr eVar forGo iSeq lCons lNil sCons sExpr sFor sIf sNil sPut sRaise sRetO sSet sSetG)
open Dv (D R RL EE EL EI RI Sl Out SS St)
open Bt
theorem kg {n:Int}{xs:List Int}(hn:1<=n)(hn2:n<=60)(hl:xs.length<64)(hb:Beat n (Dv.isort (xs.map (·%n)))):F_Q0Z [.int n,L xs]=.ok (L (Dv.isort (xs.map (·%n)))) true:=by
 have hc:c_Q0Z_1 [some (.int n),some (L xs),none]=.ok (L (xs.map (·%n))) true:=by
  unfold c_Q0Z_1
  exact b7 (f:=false) rfl (by omega) λ x hx=>by simp only[eOp,eVar,Dv.pick,R.bind,RL.bind,Out.bind,af,yH,yI,yF,yG,yU,ap (show (0:Int)<n by omega)]
 simp only[F_Q0Z,b_Q0Z,b_Q0Z_t3,b_Q0Z_t2,b_Q0Z_t1,Dv.fn,sCons,sSet,bo,sRetO,sExpr,eB1,eVar,lNil,lCons,eCall,Dv.all,R.bind,RL.bind,Dv.R.bindL,Dv.RL.bindL,Out.bind,aJ,am,aB,af,ak,yH,yI,yJ,yT,List.replicate,yO,yS,yF,yG,yL,yK,yQ,yZ,Nat.reduceAdd,Nat.reduceSub,bh,dJ hn hn2,hc,fu (xs:=xs.map (·%n)) (by simpa using hl),el hn2 hb]
theorem bR (n:Int):F_Q04 [.int n]=if 1<=n/\n<=60 then .ok .non true else .exc "NoWheel":=by
 by_cases h1:n<1
 ·have h3:¬ (1<=n/\n<=60):=by omega
  simp only[F_Q04,b_Q04,Dv.fn,sIf,eOr,eCm,eVar,eInt,Dv.all,R.bind,RL.bind,Out.bind,am,af,yH,yI,yJ,yT,List.replicate,yO,yS,yF,Nat.reduceAdd,Nat.reduceSub,cw,decide_eq_true h1,if_neg h3,sRaise]
 ·by_cases h2:60<n
  ·have h3:¬ (1<=n/\n<=60):=by omega
   simp only[F_Q04,b_Q04,Dv.fn,sIf,eOr,eCm,eVar,eInt,Dv.all,R.bind,RL.bind,Out.bind,am,af,yH,yI,yJ,yT,List.replicate,yO,yS,yF,Nat.reduceAdd,Nat.reduceSub,cw,cz,decide_eq_true h2,decide_eq_false h1,if_neg h3,sRaise]
  ·have h3:1<=n/\n<=60:=by omega
   simp only[F_Q04,b_Q04,Dv.fn,sNil,sIf,eOr,eCm,eVar,eInt,Dv.all,R.bind,RL.bind,Out.bind,am,af,yH,yI,yJ,yT,List.replicate,yO,yS,yF,Nat.reduceAdd,Nat.reduceSub,cw,cz,decide_eq_false h2,decide_eq_false h1,if_pos h3,sRaise]
noncomputable def bF (b n:Int):List Int->Bool
 | []=>true
 | x::r=>decide (b<x)&&decide (x<n)&&bF x n r
theorem gb:∀ {xs:List Int} {b n:Int},bF b n xs=true ↔ xs.Pairwise (·<·)/\∀ x∈xs,b<x/\x<n
 | [],b,n=>by simp[bF]
 | x::r,b,n=>by
  unfold bF
  rw[yN,yN,decide_eq_true_eq,decide_eq_true_eq,gb,Bj]
  constructor
  ·rintro ⟨⟨h1,h2⟩,h3,h4⟩
   refine⟨⟨λ y hy=>(h4 y hy).1,h3⟩,λ y hy=>?_⟩
   rcases List.mem_cons.mp hy with rfl|hy
   ·exact⟨h1,h2⟩
   ·have:=h4 y hy; omega
  ·rintro ⟨⟨h1,h2⟩,h3⟩
   have:=h3 x (yR ..)
   exact⟨this,h2,λ y hy=>⟨h1 y hy,(h3 y (yM _ hy)).2⟩⟩
theorem beat_iffX {n:Int}{xs:List Int}:Beat n xs ↔ xs≠[]/\bF (-1) n xs=true:=by
 rw[gb]
 constructor
 ·intro h; exact⟨h.ne,h.up,λ x hx=>by have:=h.rg x hx; omega⟩
 ·rintro ⟨h1,h2,h3⟩; exact⟨h1,h2,λ x hx=>by have:=h3 x hx; omega⟩
theorem cU (n:Int)(A:D):∀ (xs:List Int) (b:Int) (z:Sl),∃ st',forGo 3 b_Q03_l1 (xs.map .int) [.sh A,.sh (.int n),.sh (.int b),z]=if bF b n xs then .nx st' else .exc "NoBeat" st'
 | [],b,z=>⟨_,rfl⟩
 | x::r,b,z=>by
  obtain⟨st',h⟩:=cU n A r x (.sh (.int x))
  by_cases h1:b<x
  ·by_cases h2:x<n
   ·refine⟨st',?_⟩
    rw[yH,aL (st':=[.sh A,.sh (.int n),.sh (.int x),.sh (.int x)]),h]
    ·simp only[bF,decide_eq_true h1,decide_eq_true h2,zX]
    ·simp only[b_Q03_l1,sCons,sNil,sSetG,Dv.give,Dv.open_,aM,au,sIf,eOr,eCm,eVar,Dv.all,R.bind,RL.bind,Out.bind,am,af,yH,yI,yF,yG,yL,yK,yX,yV,yU,ij,rB,decide_eq_false (show ¬ x<=b by omega),decide_eq_false (show ¬ n<=x by omega)]
   ·refine⟨[.sh A,.sh (.int n),.sh (.int b),.sh (.int x)],?_⟩
    rw[yH,js (c:="NoBeat") (st':=[.sh A,.sh (.int n),.sh (.int b),.sh (.int x)])]
    ·simp only[bF,decide_eq_true h1,decide_eq_false h2,zX,Ac,Ap,if_false]
    ·simp only[b_Q03_l1,sCons,sIf,eOr,eCm,eVar,Dv.all,R.bind,RL.bind,Out.bind,am,af,yH,yI,yF,yG,yL,yK,ij,rB,sRaise,decide_eq_false (show ¬ x<=b by omega),decide_eq_true (show n<=x by omega)]
  ·refine⟨[.sh A,.sh (.int n),.sh (.int b),.sh (.int x)],?_⟩
   rw[yH,js (c:="NoBeat") (st':=[.sh A,.sh (.int n),.sh (.int b),.sh (.int x)])]
   ·simp only[bF,decide_eq_false h1,Ac,Ap,if_false]
   ·simp only[b_Q03_l1,sCons,sIf,eOr,eCm,eVar,Dv.all,R.bind,RL.bind,Out.bind,am,af,yH,yI,yF,yG,yL,yK,ij,sRaise,decide_eq_true (show x<=b by omega)]
theorem dA (n:Int)(xs:List Int):F_Q03 [L xs,.int n]=if xs≠[]/\bF (-1) n xs=true then .ok .non true else .exc "NoBeat":=by
 obtain⟨st',e⟩:=cU n (L xs) xs (-1) .no
 by_cases hx:xs=[]
 ·subst hx
  simp only[F_Q03,b_Q03,b_Q03_t2,b_Q03_t1,Dv.fn,sCons,sIf,eB1,Dv.lenD,eCm,eVar,eInt,Dv.all,R.bind,RL.bind,Out.bind,aJ,am,ak,yH,yI,yJ,yT,List.replicate,yO,yS,yF,Nat.reduceAdd,Nat.reduceSub,decide_true,aX,sRaise,BD]
  simp
 ·have h1:¬ ((xs.length:Int)=0):=by
   have:=List.length_pos_iff.mpr hx
   omega
  simp only[F_Q03,b_Q03,b_Q03_t2,b_Q03_t1,Dv.fn,sCons,sNil,sSet,aw,Dv.give,Dv.open_,aM,aF,au,sIf,sFor,iSeq,eB1,Dv.lenD,eNeg,eCm,eVar,eInt,Dv.all,R.bind,RL.bind,Out.bind,aJ,am,ak,yH,yI,yJ,yT,List.replicate,yO,yS,yF,yL,yK,yX,yV,yU,Nat.reduceAdd,Nat.reduceSub,aX,yP,decide_eq_false h1,e]
  cases hu:bF (-1) n xs with
  | true=>simp[hx]
  | false=>simp
theorem cO (n:Int)(xs:List Int):F_Q02 [.int n,L xs]=if 1<=n/\n<=60 then (if xs≠[]/\bF (-1) n xs=true then .ok .non true else .exc "NoBeat") else .exc "NoWheel":=by
 by_cases h:1<=n/\n<=60
 ·by_cases h2:xs≠[]/\bF (-1) n xs=true
  ·have e:=dA n xs
   rw[if_pos h2] at e
   rw[if_pos h,if_pos h2]
   simp only[F_Q02,b_Q02,b_Q02_t1,Dv.fn,sCons,sExpr,eVar,lNil,lCons,eCall,Dv.all,R.bind,RL.bind,Dv.R.bindL,Dv.RL.bindL,Out.bind,am,af,ak,yH,yI,yJ,yT,List.replicate,yO,yS,yF,yG,yQ,Nat.reduceAdd,Nat.reduceSub,bR,if_pos h,e]
  ·have e:=dA n xs
   rw[if_neg h2] at e
   rw[if_pos h,if_neg h2]
   simp only[F_Q02,b_Q02,b_Q02_t1,Dv.fn,sCons,sExpr,eVar,lNil,lCons,eCall,Dv.all,R.bind,RL.bind,Dv.R.bindL,Dv.RL.bindL,Out.bind,am,af,ak,yH,yI,yJ,yT,List.replicate,yO,yS,yF,yG,yQ,Nat.reduceAdd,Nat.reduceSub,bR,if_pos h,e]
 ·simp only[F_Q02,b_Q02,b_Q02_t1,Dv.fn,sCons,sExpr,eVar,lNil,lCons,eCall,Dv.all,R.bind,RL.bind,Dv.R.bindL,Dv.RL.bindL,Out.bind,am,af,yH,yI,yJ,yT,List.replicate,yO,yS,yF,yQ,Nat.reduceAdd,Nat.reduceSub,bR,if_neg h]
theorem iF {n:Int}{xs:List Int}(h1:1<=n)(h2:n<=60)(h:¬ Beat n xs):F_Q02 [.int n,L xs]=.exc "NoBeat":=by
 rw[cO,if_pos ⟨h1,h2⟩,if_neg λ h3=>h (beat_iffX.mpr h3)]
theorem j7 {xs:List Int}(h:xs≠[]):Dv.at? (xs.map D.int) (-1)=some (.int (xs.getLast h)):=by
 have hl:0<xs.length:=List.length_pos_iff.mpr h
 unfold Dv.at?
 rw[if_neg (by omega),if_pos (by simp; omega)]
 have:((-1:Int)+((xs.map D.int).length:Int)).toNat=xs.length-1:=by simp; omega
 rw[this,zi,zf (by omega),Ar]
 rfl
theorem mM (c:List Int)(i:Nat)(x:Int):(c.map D.int).set i (.int x)=(c.set i x).map D.int:=by
 rw[AZ]
noncomputable def ones (c:List Int)(xs:List Int):List Int:=xs.foldl (λ c x=>c.set x.toNat 1) c
theorem lx:∀ (xs c:List Int),(ones c xs).length=c.length
 | [],c=>rfl
 | x::r,c=>by unfold ones; rw[yX]; have:=lx r (c.set x.toNat 1); unfold ones at this; rw[this,zh]
theorem kx:∀ (xs c:List Int) (i:Nat),(∀ x∈xs,0<=x)->i<c.length->(ones c xs)[i]?=if (i:Int)∈xs then some 1 else c[i]?
 | [],c,i,_,_=>by simp[ones]
 | x::r,c,i,h,hi=>by
  have e:ones c (x::r)=ones (c.set x.toNat 1) r:=rfl
  have hx:=h x (yR ..)
  rw[e,kx r _ i (λ y hy=>h y (yM _ hy)) (by rw[zh]; exact hi)]
  by_cases h1:(i:Int)∈r
  ·rw[if_pos h1,if_pos (yM _ h1)]
  ·rw[if_neg h1]
   by_cases h2:(i:Int)=x
   ·rw[if_pos (by rw[h2]; exact yR ..)]
    have:x.toNat=i:=by omega
    rw[this,zq hi]
   ·rw[if_neg (by simp[h1,h2]),zp (by omega)]
theorem tz {xs:List Int}{m:Nat}(h:∀ x∈xs,0<=x):ones (List.replicate m 0) xs=(upto m).map λ i=>if i∈xs then 1 else 0:=by
 apply Ab
 intro i
 by_cases hi:i<m
 ·rw[kx xs _ i h (by simpa using hi)]
  unfold upto
  rw[Af,zi,Bd hi,zP]
  simp only[zW,Function.comp,if_pos hi]
  split <;>rfl
 ·rw[zj (by rw[lx]; simpa using hi),zj (by simp[upto_len]; omega)]
noncomputable def bsum (xs:List Int):List Int:=if h:xs=[] then [] else (upto (xs.getLast h+1).toNat).map λ i=>if i∈xs then 1 else 0
theorem kz:bsum []=[]:=by simp[bsum]
theorem jH:F_Q01 [.lst []]=.ok (.lst []) true:=rfl
theorem eu (A:D):∀ (xs c:List Int) (z:Sl),(∀ x∈xs,0<=x/\x<c.length)->∃ z',forGo 2 b_Q01_l1 (xs.map .int) [.sh A,.ow (L c),z]=.nx [.sh A,.ow (L (ones c xs)),z']
 | [],c,z,_=>⟨z,rfl⟩
 | x::r,c,z,h=>by
  obtain⟨h1,h2⟩:=h x (yR ..)
  obtain⟨z',e⟩:=eu A r (c.set x.toNat 1) (.sh (.int x)) (λ y hy=>by rw[zh]; exact h y (yM _ hy))
  refine⟨z',?_⟩
  rw[yH,aL (st':=[.sh A,.ow (L (c.set x.toNat 1)),.sh (.int x)]),e]
  ·rfl
  ·simp only[b_Q01_l1,sPut,eVar,eInt,Dv.all,am,aB,af,yH,yI,yF,yG,yL,yK,yQ,if_true,yP,decide_eq_true h1,decide_eq_true h2,mM]
structure Up (m:Int)(xs:List Int):Prop where
 up:xs.Pairwise (·<·)
 rg:∀ x∈xs,0<=x/\x<m
theorem Up.last {m:Int}{xs:List Int}(h:Up m xs)(ne:xs≠[]):∀ x∈xs,x<=xs.getLast ne:=λ x hx=>by
 obtain⟨i,hi,rfl⟩:=List.mem_iff_getElem.mp hx
 rw[Ar]
 by_cases e:i=xs.length-1
 ·subst e; omega
 ·have:=List.pairwise_iff_getElem.mp h.up i (xs.length-1) hi (by omega) (by omega)
  omega
theorem lI {m:Int}{xs:List Int}(h:Up m xs)(hm:m<=1000):F_Q01 [L xs]=.ok (L (bsum xs)) true:=by
 by_cases ne:xs=[]
 ·subst ne; rw[kz]; exact jH
 ·have hl:¬ ((xs.length:Int)=0):=by
   have:0<xs.length:=List.length_pos_iff.mpr ne
   omega
  have hla:=h.rg (xs.getLast ne) (Az ne)
  have hb:bsum xs=(upto (xs.getLast ne+1).toNat).map λ i=>if i∈xs then 1 else 0:=by unfold bsum; rw[dif_neg ne]
  rw[hb]
  have hat:=j7 ne
  obtain⟨z,e⟩:=eu (L xs) xs (List.replicate (xs.getLast ne+1).toNat 0) .no (λ x hx=>by
   have:=h.last ne x hx
   have:=(h.rg x hx).1
   simp; omega)
  rw[tz λ x hx=>(h.rg x hx).1] at e
  have hre:=lU (x:=0) (n:=xs.getLast ne+1) (by omega) (by omega)
  simp only[F_Q01,b_Q01,b_Q01_t3,b_Q01_t2,b_Q01_t1,Dv.fn,sCons,sNil,sSet,bo,Dv.give,Dv.open_,aM,aF,au,aO,sIf,sRetO,sFor,iSeq,eB1,Dv.lenD,eIx,Dv.ixD,eNeg,eCm,eOp,eVar,eInt,eLst,lNil,lCons,Dv.all,R.bind,RL.bind,Dv.R.bindL,Dv.RL.bindL,Out.bind,aJ,am,af,ak,yH,yI,yJ,yT,List.replicate,yO,yS,yF,yG,yL,yK,yX,yV,yU,zc,yQ,Nat.reduceAdd,Nat.reduceSub,aP,aX,bh,yP,decide_eq_false hl,hat,hre,e]
end Cw
namespace Pl
noncomputable def co (a:List Int)(i:Nat):Int:=a.getD i 0
theorem co_nil (i:Nat):co [] i=0:=by simp[co]
theorem co_zero (x:Int)(r:List Int):co (x::r) 0=x:=rfl
theorem co_succ (x:Int)(r:List Int)(i:Nat):co (x::r) (i+1)=co r i:=by simp[co]
theorem co_over {a:List Int}{i:Nat}(h:a.length<=i):co a i=0:=by
 unfold co; rw[yW,zj h]; rfl
theorem co_get {a:List Int}{i:Nat}(h:i<a.length):co a i=a[i]:=by
 unfold co; rw[yW,zf h]; rfl
noncomputable def sh (f:Nat->Int):Nat->Int
 | 0=>0
 | p+1=>f p
noncomputable def cf:List Int->(Nat->Int)->Nat->Int
 | [],_,_=>0
 | x::r,g,p=>x*g p+sh (cf r g) p
theorem cf_nil (g:Nat->Int)(p:Nat):cf [] g p=0:=rfl
theorem cf_z (x:Int)(r:List Int)(g:Nat->Int):cf (x::r) g 0=x*g 0:=by simp[cf,sh]
theorem cf_s (x:Int)(r:List Int)(g:Nat->Int)(p:Nat):cf (x::r) g (p+1)=x*g (p+1)+cf r g p:=by simp[cf,sh]
theorem cf_congr {g h:Nat->Int}:∀ (a:List Int) (p:Nat),(∀ i,i<=p->g i=h i)->cf a g p=cf a h p
 | [],p,_=>rfl
 | x::r,0,e=>by rw[cf_z,cf_z,e 0 (y4 _)]
 | x::r,p+1,e=>by rw[cf_s,cf_s,e _ (y4 _),cf_congr r p λ i hi=>e i (by omega)]
theorem qZ (g h:Nat->Int):∀ (a:List Int) (p:Nat),cf a (λ i=>g i+h i) p=cf a g p+cf a h p
 | [],p=>by simp[cf]
 | x::r,0=>by rw[cf_z,cf_z,cf_z,Ax]
 | x::r,p+1=>by rw[cf_s,cf_s,cf_s,qZ g h r p,Ax]; omega
theorem nM (c:Int)(g:Nat->Int):∀ (a:List Int) (p:Nat),cf a (λ i=>c*g i) p=c*cf a g p
 | [],p=>by simp[cf]
 | x::r,0=>by rw[cf_z,cf_z,Br]
 | x::r,p+1=>by rw[cf_s,cf_s,nM c g r p,Ax,Br]
theorem cf_zero:∀ (a:List Int) (p:Nat),cf a (λ _=>0) p=0
 | [],p=>rfl
 | x::r,0=>by rw[cf_z,Bn]
 | x::r,p+1=>by rw[cf_s,cf_zero r p,Bn]; rfl
theorem jT (x:Int)(r:List Int):∀ (b:List Int) (p:Nat),cf b (co (x::r)) p=x*co b p+sh (cf b (co r)) p
 | [],0=>by simp[cf,co,sh]
 | [],p+1=>by simp[cf,co,sh]
 | y::s,0=>by rw[cf_z,co_zero,co_zero,Ae]; simp[sh]
 | y::s,p+1=>by
  rw[cf_s,jT x r s p,co_succ,co_succ]
  show y*co r p+(x*co s p+sh (cf s (co r)) p)=x*co s p+cf (y::s) (co r) p
  have:cf (y::s) (co r) p=y*co r p+sh (cf s (co r)) p:=rfl
  rw[this]; omega
theorem cf_comm:∀ (a b:List Int) (p:Nat),cf a (co b) p=cf b (co a) p
 | [],b,p=>by
  rw[cf_nil]
  have:cf b (co []) p=cf b (λ _=>0) p:=cf_congr b p λ i _=>co_nil i
  rw[this,cf_zero]
 | x::r,b,0=>by rw[cf_z,jT]; simp[sh]
 | x::r,b,p+1=>by rw[cf_s,jT]; show _=_+cf b (co r) p; rw[cf_comm r b p]
theorem mZ:∀ {a b:List Int} {p:Nat},a.length+b.length<=p+1->cf a (co b) p=0
 | [],b,p,_=>rfl
 | x::r,b,0,h=>by
  have:b=[]:=zB (by simp at h; omega)
  subst this
  rw[cf_z,co_nil,Bn]
 | x::r,b,p+1,h=>by
  simp only[yJ] at h
  rw[cf_s,co_over (by omega),mZ (a:=r) (b:=b) (p:=p) (by omega)]
  simp
theorem lS:∀ {a b:List Int},a≠[]->b≠[]->cf a (co b) (a.length+b.length-2)=co a (a.length-1)*co b (b.length-1)
 | [],_,h,_=>absurd rfl h
 | [x],b,_,hb=>by
  have:0<b.length:=List.length_pos_iff.mpr hb
  have e:[x].length+b.length-2=b.length-1:=by simp; omega
  rw[e]
  show x*co b (b.length-1)+sh (cf [] (co b)) (b.length-1)=_
  have:sh (cf [] (co b)) (b.length-1)=0:=by cases b.length-1 <;>rfl
  rw[this]; simp[co]
 | x::y::r,b,_,hb=>by
  have hl:0<b.length:=List.length_pos_iff.mpr hb
  have e:(x::y::r).length+b.length-2=((y::r).length+b.length-2)+1:=by simp; omega
  rw[e,cf_s,co_over (by simp; omega),lS (a:=y::r) (by simp) hb]
  simp[co]
theorem ext_co {a b:List Int}(hl:a.length=b.length)(h:∀ i,i<a.length->co a i=co b i):a=b:=by
 apply BE hl
 intro i h1 h2
 have:=h i h1
 rw[co_get h1,co_get h2] at this
 exact this
noncomputable def Tr (a:List Int):Prop:=a=[]\/co a (a.length-1)≠0
theorem tr_ext {a b:List Int}(ha:Tr a)(hb:Tr b)(h:∀ i,co a i=co b i):a=b:=by
 have hl:a.length=b.length:=by
  rcases Nat.lt_trichotomy a.length b.length with hh|hh|hh
  ·exfalso
   rcases hb with hb|hb
   ·subst hb; simp at hh
   ·exact hb (by rw[<- h,co_over (by omega)])
  ·exact hh
  ·exfalso
   rcases ha with ha|ha
   ·subst ha; simp at hh
   ·exact ha (by rw[h,co_over (by omega)])
 exact ext_co hl λ i _=>h i
noncomputable def upto (n:Nat)(f:Nat->Int):List Int:=(List.range n).map f
theorem upto_len (n:Nat)(f:Nat->Int):(upto n f).length=n:=by simp[upto]
theorem co_upto {n:Nat}{f:Nat->Int}{i:Nat}(h:i<n):co (upto n f) i=f i:=by
 rw[co_get (by rw[upto_len]; exact h)]; simp[upto]
noncomputable def mul (a b:List Int):List Int:=if a=[]\/b=[] then [] else upto (a.length+b.length-1) (cf a (co b))
theorem gi (a:List Int):mul a []=[]:=by simp[mul]
theorem jX (a:List Int):mul [] a=[]:=by simp[mul]
theorem mul_len {a b:List Int}(ha:a≠[])(hb:b≠[]):(mul a b).length=a.length+b.length-1:=by
 unfold mul; rw[if_neg (by simp[ha,hb]),upto_len]
theorem co_mul (a b:List Int)(p:Nat):co (mul a b) p=cf a (co b) p:=by
 by_cases ha:a=[]
 ·subst ha; rw[jX,co_nil]; rfl
 by_cases hb:b=[]
 ·subst hb; rw[gi,co_nil,cf_comm]; rfl
 have h1:0<a.length:=List.length_pos_iff.mpr ha
 have h2:0<b.length:=List.length_pos_iff.mpr hb
 by_cases hp:p<a.length+b.length-1
 ·unfold mul; rw[if_neg (by simp[ha,hb]),co_upto hp]
 ·rw[co_over (by rw[mul_len ha hb]; omega),mZ (by omega)]
theorem mul_comm (a b:List Int):mul a b=mul b a:=by
 by_cases ha:a=[]
 ·subst ha; rw[jX,gi]
 by_cases hb:b=[]
 ·subst hb; rw[jX,gi]
 refine ext_co (by rw[mul_len ha hb,mul_len hb ha]; omega) λ i _=>?_
 rw[co_mul,co_mul,cf_comm]
theorem one_mul (a:List Int):mul [1] a=a:=by
 by_cases ha:a=[]
 ·subst ha; rw[gi]
 refine ext_co (by rw[mul_len (by simp) ha]; simp) λ i _=>?_
 rw[co_mul]
 show 1*co a i+sh (cf [] (co a)) i=co a i
 have:sh (cf [] (co a)) i=0:=by cases i <;>rfl
 rw[this]; omega
theorem mul_one (a:List Int):mul a [1]=a:=by rw[mul_comm,one_mul]
structure Mo (o:List Int):Prop where
 ne:o≠[]
 top:co o (o.length-1)=1
theorem Mo.mul {a b:List Int}(ha:Mo a)(hb:Mo b):Mo (mul a b):=by
 have h1:0<a.length:=List.length_pos_iff.mpr ha.ne
 have h2:0<b.length:=List.length_pos_iff.mpr hb.ne
 have hl:=mul_len ha.ne hb.ne
 refine⟨by intro h; rw[h] at hl; simp at hl; omega,?_⟩
 rw[hl,co_mul]
 have:a.length+b.length-1-1=a.length+b.length-2:=by omega
 rw[this,lS ha.ne hb.ne,ha.top,hb.top]
 rfl
theorem mo_few {o:List Int}(ho:Mo o):∀ {q:List Int},(∀ p,o.length-1<=p->cf q (co o) p=0)->∀ i,co q i=0:=by
 intro q
 generalize hn:q.length=n
 induction n generalizing q with
 | zero=>intro _ i; exact co_over (by omega)
 | succ n ih =>
  intro h i
  have hq:q≠[]:=by intro z; rw[z] at hn; simp at hn
  have ho1:0<o.length:=List.length_pos_iff.mpr ho.ne
  have top:=h (q.length+o.length-2) (by omega)
  rw[lS hq ho.ne,ho.top,Bx] at top
  have e:∀ i,co (q.take n) i=co q i:=λ i=>by
   by_cases hi:i<n
   ·unfold co; rw[yW,yW,zO hi]
   ·rw[co_over (by rw[zE]; omega)]
    by_cases hi2:i=n
    ·have e1:q.length-1=n:=by omega
     rw[hi2,<- e1]; exact top.symm
    ·rw[co_over (by omega)]
  rw[<- e i]
  refine ih (q:=q.take n) (by rw[zE]; omega) (λ p hp=>?_) i
  rw[cf_comm,cf_congr o p λ j _=>e j,cf_comm]
  exact h p hp
theorem wH (a:List Int)(g h:Nat->Int)(p:Nat):cf a (λ i=>g i-h i) p=cf a g p-cf a h p:=by
 have e:(λ i=>g i-h i)=λ i=>g i+(-1)*h i:=by funext i; omega
 rw[e,qZ,nM]; omega
theorem div_one {o q q':List Int}{r r':Nat->Int}(ho:Mo o)(hr:∀ i,o.length-1<=i->r i=0)(hr':∀ i,o.length-1<=i->r' i=0)(h:∀ p,cf q (co o) p+r p=cf q' (co o) p+r' p) :
  (∀ i,co q i=co q' i)/\∀ i,r i=r' i:=by
 let d:=upto (max q.length q'.length) λ i=>co q i-co q' i
 have hd:∀ i,co d i=co q i-co q' i:=λ i=>by
  by_cases hi:i<max q.length q'.length
  ·exact co_upto hi
  ·rw[co_over (by rw[upto_len]; omega),co_over (a:=q) (by omega),co_over (a:=q') (by omega)]; rfl
 have hc:∀ p,cf d (co o) p=cf q (co o) p-cf q' (co o) p:=λ p=>by
  rw[cf_comm,cf_congr o p λ j _=>hd j,wH,cf_comm o q,cf_comm o q']
 have z:=mo_few ho (q:=d) λ p hp=>by
  rw[hc]; have:=h p; rw[hr p hp,hr' p hp] at this; omega
 have e1:∀ i,co q i=co q' i:=λ i=>by have:=hd i; rw[z i] at this; omega
 refine⟨e1,λ i=>?_⟩
 have e2:cf q (co o) i=cf q' (co o) i:=by rw[cf_comm,cf_congr o i λ j _=>e1 j,cf_comm]
 have:=h i
 omega
end Pl
namespace Cw
open Dv (Out R RL compGo eAnd eB1 eBl eCall eCm eDict0 eDix eInt eIx eLst eNeg eOp eOr ePart eSlice eVar forGo iDown iEnum iRange2 iSeq lCons lNil opD rngOk sAug sAugIx sCons sDMove sExpr sFor sForR sForT sIf sNil sPut sRet sRetO sRetT sSet sSetD sWhile whileGo)
open Dv (D R RL EE EL EI RI Sl Out SS St)
open Bt
open Pl (co cf sh)
theorem kH {s:List Int}{k:Int}(h:0<=k)(h2:k<s.length):Dv.at? (s.map .int) k=some (.int (co s k.toNat)):=kM h h2
noncomputable def ci (c:List Int)(i:Nat)(x:Int):List Int->List Int
 | []=>c
 | y::r=>ci (c.set i (co c i+x*y)) (i+1) x r
theorem dt (x:Int):∀ (b:List Int) (c:List Int) (i:Nat),(ci c i x b).length=c.length
 | [],c,i=>rfl
 | y::r,c,i=>by unfold ci; rw[dt x r,zh]
theorem j5 {c:List Int}{i:Nat}{x:Int}(h:i<c.length)(p:Nat):co (c.set i x) p=if p=i then x else co c p:=by
 unfold co
 rw[yW,yW]
 by_cases e:p=i
 ·subst e; rw[zq h,if_pos rfl]; rfl
 ·rw[zp (Ne.symm e),if_neg e]
theorem ja (x:Int):∀ (b:List Int) (c:List Int) (i:Nat),i+b.length<=c.length->∀ p,co (ci c i x b) p=co c p+if i<=p then x*co b (p-i) else 0
 | [],c,i,_,p=>by
  unfold ci
  rw[Pl.co_nil]; simp
 | y::r,c,i,h,p=>by
  rw[yJ] at h
  unfold ci
  rw[ja x r _ (i+1) (by rw[zh]; omega) p,j5 (by omega)]
  by_cases e:p=i
  ·subst e
   rw[if_pos rfl,if_neg (by omega),if_pos (y4 _),Nat.sub_self,Pl.co_zero]; omega
  ·rw[if_neg e]
   by_cases hp:i<=p
   ·rw[if_pos (by omega),if_pos hp]
    have:p-i=(p-(i+1))+1:=by omega
    rw[this,Pl.co_succ]
   ·rw[if_neg (by omega),if_neg hp]
theorem ou (k:Nat)(x:Int)(r:List Int):Dv.enumL k ((x::r).map .int)=.tup [.int k,.int x]::Dv.enumL (k+1) (r.map .int):=rfl
noncomputable def trim (a:List Int):List Int:=(a.reverse.dropWhile λ x=>decide (x=0)).reverse
theorem db (b:List Int)(x:Int):trim (b++[x])=if x=0 then trim b else b++[x]:=by
 unfold trim
 rw[List.reverse_append,List.reverse_cons,List.reverse_nil,yS,yO,yS,List.dropWhile_cons]
 by_cases h:x=0
 ·simp[h]
 ·simp[h]
theorem kq {a:List Int}(h:a≠[]):a.dropLast++[a.getLast h]=a:=List.dropLast_concat_getLast h
theorem ft {P:List Int->Prop}(h0:P [])(h1:∀ b x,P b->P (b++[x])):∀ a,P a:=by
 intro a
 generalize hn:a.length=n
 induction n generalizing a with
 | zero=>rw[zB hn]; exact h0
 | succ n ih =>
  have ne:a≠[]:=by intro z; rw[z] at hn; simp at hn
  rw[<- kq ne]
  exact h1 _ _ (ih _ (by rw[List.length_dropLast]; omega))
theorem gF:∀ a:List Int,(trim a).length<=a.length:=ft (by simp[trim]) λ b x ih=>by
 rw[db]; split
 ·simp; omega
 ·exact y4 _
theorem gz (b:List Int)(x:Int)(i:Nat):co (b++[x]) i=if i=b.length then x else co b i:=by
 unfold co
 rw[yW,yW]
 by_cases h:i<b.length
 ·rw[zF h,if_neg (by omega)]
 ·by_cases e:i=b.length
  ·subst e; simp
  ·rw[zj (by simp; omega),zj (by omega),if_neg e]
theorem tK:∀ a:List Int,∀ i,co (trim a) i=co a i:=ft (λ i=>rfl) λ b x ih i=>by
 rw[db]
 by_cases h:x=0
 ·rw[if_pos h,ih,gz]
  split
  ·rename_i e; rw[Pl.co_over (by omega),h]
  ·rfl
 ·rw[if_neg h]
theorem uC:∀ a:List Int,Pl.Tr (trim a):=ft (.inl rfl) λ b x ih=>by
 rw[db]
 by_cases h:x=0
 ·rw[if_pos h]; exact ih
 ·rw[if_neg h]
  refine .inr ?_
  rw[gz,if_pos (by simp)]
  exact h
theorem pM:∀ a:List Int,a.take (trim a).length=trim a:=ft rfl λ b x ih=>by
 rw[db]
 by_cases h:x=0
 ·rw[if_pos h,List.take_append_of_le_length (gF b)]; exact ih
 ·rw[if_neg h,AW]
theorem nU {xs:List Int}{n:Nat}(h:n<xs.length):xs.take (n+1)=xs.take n++[co xs n]:=by
 rw[Pl.co_get h,List.take_succ_eq_append_getElem h]
theorem eo (xs:List Int):∀ (n m:Nat),n<=xs.length->n<m->whileGo (eAnd (eCm .gt (eVar 1) (eInt 0)) (eCm .eq (eIx (eVar 0) (eOp .sub (eVar 1) (eInt 1))) (eInt 0))) b_Q1A_l1 m [.sh (L xs),.sh (.int n)]=.nx [.sh (L xs),.sh (.int (trim (xs.take n)).length)]
 | 0,m+1,_,_=>by
  rw[whileGo]
  simp only[eIx,Dv.ixD,eAnd,eCm,eOp,eVar,eInt,Dv.all,R.bind,RL.bind,Out.bind,am,af,ak,yH,yI,yF,yG,zm,cg,Dv.cmD_eq,Dv.cmD_ne,Dv.cmD_lt,Dv.cmD_le,Dv.cmD_gt,Dv.cmD_ge,Dv.cmD_in,Dv.cmD_ni,Dv.cmD_it,Dv.cmD_nt]
  rfl
 | n+1,m+1,h,hm=>by
  have hat:=kH (s:=xs) (k:=(n:Int)) (by omega) (by omega)
  rw[zo] at hat
  have e1:(((n+1:Nat):Int)-1)=(n:Int):=by omega
  have h0:(0:Int)<((n+1:Nat):Int):=by omega
  have ih:=eo xs n m (by omega) (by omega)
  rw[whileGo,nU (by omega),db]
  by_cases hz:co xs n=0
  ·rw[if_pos hz]
   simp only[eIx,Dv.ixD,eAnd,eCm,eOp,eVar,eInt,Dv.all,R.bind,RL.bind,Out.bind,am,sAug,af,ak,yH,yI,yF,yG,yL,yK,zc,cg,cz,aX,decide_eq_true h0,e1,hat,decide_eq_true hz,b_Q1A_l1]
   exact ih
  ·rw[if_neg hz]
   have hl:(xs.take n++[co xs n]).length=n+1:=by simp; omega
   simp only[eIx,Dv.ixD,eAnd,eCm,eOp,eVar,eInt,Dv.all,R.bind,RL.bind,Out.bind,am,af,ak,yH,yI,yF,yG,zc,cg,cz,aX,decide_eq_true h0,e1,hat,decide_eq_false hz,hl]
theorem kZ {α:Type}(ds:List α)(n:Nat)(h:n<=ds.length):Dv.cutL ds none (some (n:Int))=ds.take n:=by
 unfold Dv.cutL Dv.cutI
 have h1:¬ ((n:Int)<0):=by omega
 simp only[h1,if_false,AH,zo,A0]
 rw[BJ h]
theorem n6 {α:Type}(ds:List α)(n:Nat):Dv.cutL ds none (some (n:Int))=ds.take n:=by
 by_cases h:n<=ds.length
 ·exact kZ ds n h
 ·unfold Dv.cutL Dv.cutI
  have h1:¬ ((n:Int)<0):=by omega
  simp only[h1,if_false,AH,zo,A0]
  rw[Nat.min_eq_right (by omega),AW,zV (by omega)]
theorem me {xs:List Int}(h:xs.length<99999):F_Q1A [L xs]=.ok (L (trim xs)) true:=by
 have w:=eo xs xs.length 100000 (y4 _) (by omega)
 rw[AW] at w
 have hc:Dv.cutL (xs.map D.int) none (some ((trim xs).length:Int))=(trim xs).map D.int:=by
  rw[kZ _ _ (by rw[yP]; exact gF xs),<- Be,pM]
 simp only[F_Q1A,b_Q1A,b_Q1A_t2,b_Q1A_t1,Dv.fn,sCons,sSet,aw,sRet,sWhile,eB1,Dv.lenD,eVar,eSlice,ePart,Dv.all,R.bind,RL.bind,Out.bind,aJ,am,af,ak,yH,yI,yJ,yT,List.replicate,yO,yS,yF,yG,yL,yK,zc,Nat.reduceAdd,Nat.reduceSub,bh,yP,w,Dv.sliceD,hc]
theorem jF (n i:Nat):co (List.replicate n 0) i=0:=by
 unfold co; rw[yW,zP]; split <;>rfl
noncomputable def dw (o:List Int)(m:Nat):Nat->List Int->List Int->List Int × List Int
 | 0,rest,share=>(rest,share)
 | n+1,rest,share=>dw o m n (ci rest n (-(co rest (n+m))) o) (share.set n (co rest (n+m)))
theorem iH (o:List Int)(m:Nat):∀ (n:Nat) (rest share:List Int),(dw o m n rest share).1.length=rest.length/\(dw o m n rest share).2.length=share.length
 | 0,rest,share=>⟨rfl,rfl⟩
 | n+1,rest,share=>by
  unfold dw
  have:=iH o m n (ci rest n (-(co rest (n+m))) o) (share.set n (co rest (n+m)))
  rw[dt,zh] at this
  exact this
theorem m7 (o:Nat->Int):∀ (q:List Int) (n:Nat) (x:Int),n<q.length->co q n=0->∀ p,cf (q.set n x) o p=cf q o p+if n<=p then x*o (p-n) else 0
 | [],n,x,h,_,p=>by simp at h
 | y::r,0,x,_,hz,p=>by
  have hy:y=0:=hz
  rw[yL,if_pos (A6 _),A0]
  show x*o p+sh (cf r o) p=y*o p+sh (cf r o) p+x*o p
  rw[hy]; omega
 | y::r,n+1,x,h,hz,0=>by
  rw[yK,Pl.cf_z,Pl.cf_z,if_neg (by omega)]; omega
 | y::r,n+1,x,h,hz,p+1=>by
  rw[yK,Pl.cf_s,Pl.cf_s,m7 o r n x (by simpa using h) (by rw[Pl.co_succ] at hz; exact hz) p]
  by_cases hp:n<=p
  ·rw[if_pos hp,if_pos (by omega)]
   have:p+1-(n+1)=p-n:=by omega
   rw[this]; omega
  ·rw[if_neg hp,if_neg (by omega)]; omega
theorem lF {o:List Int}{m:Nat}(hm:o.length=m+1)(ho:co o m=1):∀ (n:Nat) (rest share:List Int),(0<n->n+m<=rest.length)->n<=share.length->(∀ i,i<n->co share i=0)->(∀ p,n+m<=p->co rest p=0) ->
  (∀ p,cf (dw o m n rest share).2 (co o) p+co (dw o m n rest share).1 p=cf share (co o) p+co rest p)/\(∀ p,m<=p->co (dw o m n rest share).1 p=0)/\∀ i,n<=i->co (dw o m n rest share).2 i=co share i
 | 0,rest,share,_,_,_,hz=>⟨λ p=>rfl,λ p hp=>hz p (by omega),λ i _=>rfl⟩
 | n+1,rest,share,h1,h2,h3,h4=>by
  have h1:=h1 (by omega)
  unfold dw
  have hr:=ja (-(co rest (n+m))) o rest n (by omega)
  have ih:=lF hm ho n (ci rest n (-(co rest (n+m))) o) (share.set n (co rest (n+m))) (λ _=>by rw[dt]; omega) (by rw[zh]; omega)
   (λ i hi=>by rw[j5 (by omega),if_neg (by omega)]; exact h3 i (by omega))
   (λ p hp=>by
    rw[hr,if_pos (by omega)]
    by_cases e:p=n+m
    ·subst e
     have:n+m-n=m:=by omega
     rw[this,ho]; omega
    ·rw[h4 p (by omega),Pl.co_over (a:=o) (by omega)]; simp)
  refine⟨λ p=>?_,ih.2.1,λ i hi=>?_⟩
  ·rw[ih.1 p,hr,m7 (co o) share n _ (by omega) (h3 n (by omega))]
   split
   ·rw[BF]; omega
   ·omega
  ·rw[ih.2.2 i (by omega),j5 (by omega),if_neg (by omega)]
noncomputable def Few (o:List Int):Prop:=∀ y∈o,-(2 ^ 64)<y/\y<2 ^ 64
theorem qD {x:Int}{r:List Int}(h:Few (x::r)):(-(2 ^ 64)<x/\x<2 ^ 64)/\Few r:=⟨h x (yR ..),λ y hy=>h y (yM _ hy)⟩
theorem rq (A B M:D)(low:Nat)(share:List Int)(hlow:low<share.length):∀ (o c:List Int) (k:Nat) (y z:Sl),Few o->low+k+o.length<=c.length ->
  ∃ y' z',Dv.forGoT (Dv.tupTo [6,7]) b_Q18_l1 (Dv.enumL k (o.map .int)) [.sh A,.sh B,.sh M,.ow (L c),.ow (L share),.sh (.int low),y,z]=.nx [.sh A,.sh B,.sh M,.ow (L (ci c (low+k) (-(co share low)) o)),.ow (L share),.sh (.int low),y',z']
 | [],c,k,y,z,_,_=>⟨y,z,rfl⟩
 | w::r,c,k,y,z,hs,hl=>by
  obtain⟨⟨h1,h1'⟩,h2⟩:=qD hs
  rw[yJ] at hl
  have hval:co c (low+k)-co share low*w=co c (low+k) + -(co share low)*w:=by rw[BF]; omega
  obtain⟨y',z',e⟩:=rq A B M low share hlow r (c.set (low+k) (co c (low+k) + -(co share low)*w)) (k+1) (.sh (.int k)) (.sh (.int w)) h2 (by rw[zh]; omega)
  refine⟨y',z',?_⟩
  have hat:=kH (s:=c) (k:=(low:Int)+(k:Int)) (by omega) (by omega)
  have hat2:=kH (s:=share) (k:=(low:Int)) (by omega) (by omega)
  have ht:((low:Int)+(k:Int)).toNat=low+k:=by omega
  have h0:(0:Int)<=(low:Int)+(k:Int):=by omega
  have hm:=aZ (bS (i:=co share low) h1 h1')
  rw[ht] at hat
  rw[zo] at hat2
  rw[ou,nW (st1:=[.sh A,.sh B,.sh M,.ow (L c),.ow (L share),.sh (.int low),.sh (.int k),.sh (.int w)]) (st':=[.sh A,.sh B,.sh M,.ow (L (c.set (low+k) (co c (low+k) + -(co share low)*w))),.ow (L share),.sh (.int low),.sh (.int k),.sh (.int w)])]
  ·have:low+(k+1)=low+k+1:=by omega
   rw[this] at e
   exact e
  ·rfl
  ·simp only[b_Q18_l1,sAugIx,eIx,Dv.ixD,eOp,eVar,Dv.all,R.bind,RL.bind,Out.bind,am,aB,af,ak,yH,yI,yF,yG,yL,yK,zc,aP,cg,if_pos h0,hat,hat2,hm,ht,mM,hval]
theorem oK (n:Nat):Dv.downL (n:Int) (n+1)=.int n::Dv.downL ((n:Int)-1) n:=rfl
theorem nE {o:List Int}(hf:Few o){m:Nat}(hm:o.length=m+1)(A:D):∀ (n:Nat) (rest share:List Int) (x y z:Sl),(0<n->n+m<=rest.length)->n<=share.length ->
  ∃ x' y' z',forGo 5 b_Q18_l2 (Dv.downL ((n:Int)-1) n) [.sh A,.sh (L o),.sh (.int m),.ow (L rest),.ow (L share),x,y,z]=.nx [.sh A,.sh (L o),.sh (.int m),.ow (L (dw o m n rest share).1),.ow (L (dw o m n rest share).2),x',y',z']
 | 0,rest,share,x,y,z,_,_=>⟨x,y,z,rfl⟩
 | n+1,rest,share,x,y,z,h1,h2=>by
  have h1:=h1 (by omega)
  have hat:=kH (s:=rest) (k:=(n:Int)+(m:Int)) (by omega) (by omega)
  have ht:((n:Int)+(m:Int)).toNat=n+m:=by omega
  rw[ht] at hat
  obtain⟨y1,z1,e1⟩:=rq A (L o) (.int m) n (share.set n (co rest (n+m))) (by rw[zh]; omega) o rest 0 y z hf (by omega)
  rw[j5 (by omega),if_pos rfl] at e1
  obtain⟨x',y',z',e⟩:=nE hf hm A n (ci rest n (-(co rest (n+m))) o) (share.set n (co rest (n+m))) (.sh (.int n)) y1 z1 (λ _=>by rw[dt]; omega) (by rw[zh]; omega)
  refine⟨x',y',z',?_⟩
  have e2:(((n+1:Nat):Int)-1)=(n:Int):=by omega
  have hs0:(0:Int)<=(n:Int):=by omega
  have hs1:(n:Int)<(share.length:Int):=by omega
  simp only[BS] at e1
  rw[e2,oK,aL (st':=[.sh A,.sh (L o),.sh (.int m),.ow (L (ci rest n (-(co rest (n+m))) o)),.ow (L (share.set n (co rest (n+m)))),.sh (.int n),y1,z1]),e]
  ·rfl
  ·simp only[b_Q18_l2,sCons,Dv.give,Dv.open_,aM,au,aO,sPut,sForT,eIx,Dv.ixD,eOp,eVar,Dv.all,R.bind,RL.bind,Out.bind,am,aB,iEnum,af,ak,yH,yI,yF,yG,yL,yK,yX,yV,yU,zc,yQ,if_true,aP,yP,hat,decide_eq_true hs0,decide_eq_true hs1,zo,mM,e1]
theorem cA {a o:List Int}(ho:Pl.Mo o)(hf:Few o)(ha:a.length<=1000)(hlo:o.length<=1000) :
  ∃ q r,F_Q18 [L a,L o]=.ok (.tup [L q,L r]) true/\q.length=a.length-(o.length-1)/\Pl.Tr r/\r.length<=o.length-1/\∀ p,co a p=cf q (co o) p+co r p:=by
 have hol:0<o.length:=List.length_pos_iff.mpr ho.ne
 obtain⟨m,hm⟩:∃ m,o.length=m+1:=⟨o.length-1,by omega⟩
 have htop:co o m=1:=by have:=ho.top; rw[hm] at this; exact this
 have n1:¬ ((o.length:Int)=0):=by omega
 have hat:Dv.at? (o.map D.int) (-1)=some (.int 1):=by
  rw[j7 ho.ne,Ar,<- Pl.co_get (by omega),ho.top]
 have hsub:(o.length:Int)-1=(m:Int):=by omega
 have hre:=nN (x:=0) (n:=(a.length:Int)-(m:Int)) (by omega) (by omega)
 have ht:((a.length:Int)-(m:Int)).toNat=a.length-m:=by omega
 rw[ht] at hre
 obtain⟨x,y,z,e⟩:=nE hf hm (L a) (a.length-m) a (List.replicate (a.length-m) 0) .no .no .no (by omega) (by simp)
 obtain⟨d1,d2,d3⟩:=lF hm htop (a.length-m) a (List.replicate (a.length-m) 0) (by omega) (by simp) (λ i _=>jF _ i) (λ p hp=>Pl.co_over (by omega))
 obtain⟨l1,l2⟩:=iH o m (a.length-m) a (List.replicate (a.length-m) 0)
 generalize dw o m (a.length-m) a (List.replicate (a.length-m) 0)=qr at *
 obtain⟨rest,share⟩:=qr
 simp only[zA] at l2
 have hrng:(rngOk (((a.length-m:Nat):Int)-1)&&rngOk (-1))=true:=by simp only[rngOk,yN,decide_eq_true_eq]; omega
 have htn:((((a.length-m:Nat):Int)-1)-(-1)).toNat=a.length-m:=by omega
 have hc:Dv.cutL (rest.map D.int) none (some (m:Int))=(rest.take m).map D.int:=by rw[n6,<- Be]
 have hw:=me (xs:=rest.take m) (by simp; omega)
 have hfl:Dv.listD (L a) false=.ok (L a) true:=by simp[Dv.listD,bh]
 refine⟨share,trim (rest.take m),?_,by rw[l2,hm]; omega,uC _,?_,λ p=>?_⟩
 ·have hrl:((List.replicate (a.length-m) (0:Int)).length:Int)=((a.length-m:Nat):Int):=by simp
  simp only[F_Q18,b_Q18,b_Q18_t5,b_Q18_t4,b_Q18_t3,b_Q18_t2,b_Q18_t1,Dv.fn,sCons,sNil,sSet,aw,bo,sIf,eB1,Dv.lenD,Dv.listD,eIx,Dv.ixD,eOr,eNeg,eCm,eOp,eVar,eInt,eLst,lNil,lCons,eCall,eSlice,ePart,Dv.all,R.bind,RL.bind,Dv.R.bindL,Dv.RL.bindL,Out.bind,aJ,am,aB,sForR,iDown,af,ak,yH,yI,yJ,yT,List.replicate,yO,yS,yF,yG,yL,yK,zc,yQ,zM,if_true,Nat.reduceAdd,Nat.reduceSub,decide_true,cg,aX,wQ,bh,yP,decide_eq_false n1,hat,hsub,hre,hrl,hrng,htn,e,sRetT,Dv.sliceD,hc,hw,zM,decide_true]
 ·have:=gF (rest.take m)
  simp at this
  omega
 ·have h1:=d1 p
  have z0:cf (List.replicate (a.length-m) 0) (co o) p=0:=by
   rw[Pl.cf_comm,Pl.cf_congr o p (λ i _=>jF _ i),Pl.cf_zero]
  rw[z0] at h1
  rw[tK]
  have h2:co (rest.take m) p=co rest p:=by
   by_cases hp:p<m
   ·unfold co; rw[yW,yW,zO hp]
   ·rw[Pl.co_over (by simp; omega),d2 p (by omega)]
  rw[h2]
  simp only at h1
  omega
theorem iE {q o:List Int}(ho:Pl.Mo o)(hq:q≠[])(hf:Few o)(hl:q.length+o.length<=900):F_Q18 [L (Pl.mul q o),L o]=.ok (.tup [L q,.lst []]) true:=by
 have hol:0<o.length:=List.length_pos_iff.mpr ho.ne
 have hql:0<q.length:=List.length_pos_iff.mpr hq
 have hml:=Pl.mul_len hq ho.ne
 obtain⟨q',r,e,l1,t,l2,h⟩:=cA (a:=Pl.mul q o) ho hf (by omega) (by omega)
 have key:=Pl.div_one (o:=o) (q:=q') (q':=q) (r:=co r) (r':=λ _=>0) ho (λ i hi=>Pl.co_over (by omega)) (λ _ _=>rfl) (λ p=>by rw[<- h p,Pl.co_mul]; simp)
 have e1:q'=q:=Pl.ext_co (by omega) λ i _=>key.1 i
 have e2:r=[]:=Pl.tr_ext t (.inl rfl) λ i=>by rw[key.2 i,Pl.co_nil]
 rw[e,e1,e2]
 rfl
noncomputable def phiT:List (List Int):=[
 [],
 [-1,1],
 [1,1],
 [1,1,1],
 [1,0,1],
 [1,1,1,1,1],
 [1,-1,1],
 [1,1,1,1,1,1,1],
 [1,0,0,0,1],
 [1,0,0,1,0,0,1],
 [1,-1,1,-1,1],
 [1,1,1,1,1,1,1,1,1,1,1],
 [1,0,-1,0,1],
 [1,1,1,1,1,1,1,1,1,1,1,1,1],
 [1,-1,1,-1,1,-1,1],
 [1,-1,0,1,-1,1,0,-1,1],
 [1,0,0,0,0,0,0,0,1],
 [1,1,1,1,1,1,1,1,1,1,1,1,1,1,1,1,1],
 [1,0,0,-1,0,0,1],
 [1,1,1,1,1,1,1,1,1,1,1,1,1,1,1,1,1,1,1],
 [1,0,-1,0,1,0,-1,0,1],
 [1,-1,0,1,-1,0,1,0,-1,1,0,-1,1],
 [1,-1,1,-1,1,-1,1,-1,1,-1,1],
 [1,1,1,1,1,1,1,1,1,1,1,1,1,1,1,1,1,1,1,1,1,1,1],
 [1,0,0,0,-1,0,0,0,1],
 [1,0,0,0,0,1,0,0,0,0,1,0,0,0,0,1,0,0,0,0,1],
 [1,-1,1,-1,1,-1,1,-1,1,-1,1,-1,1],
 [1,0,0,0,0,0,0,0,0,1,0,0,0,0,0,0,0,0,1],
 [1,0,-1,0,1,0,-1,0,1,0,-1,0,1],
 [1,1,1,1,1,1,1,1,1,1,1,1,1,1,1,1,1,1,1,1,1,1,1,1,1,1,1,1,1],
 [1,1,0,-1,-1,-1,0,1,1],
 [1,1,1,1,1,1,1,1,1,1,1,1,1,1,1,1,1,1,1,1,1,1,1,1,1,1,1,1,1,1,1],
 [1,0,0,0,0,0,0,0,0,0,0,0,0,0,0,0,1],
 [1,-1,0,1,-1,0,1,-1,0,1,-1,1,0,-1,1,0,-1,1,0,-1,1],
 [1,-1,1,-1,1,-1,1,-1,1,-1,1,-1,1,-1,1,-1,1],
 [1,-1,0,0,0,1,-1,1,-1,0,1,-1,1,-1,1,0,-1,1,-1,1,0,0,0,-1,1],
 [1,0,0,0,0,0,-1,0,0,0,0,0,1],
 [1,1,1,1,1,1,1,1,1,1,1,1,1,1,1,1,1,1,1,1,1,1,1,1,1,1,1,1,1,1,1,1,1,1,1,1,1],
 [1,-1,1,-1,1,-1,1,-1,1,-1,1,-1,1,-1,1,-1,1,-1,1],
 [1,-1,0,1,-1,0,1,-1,0,1,-1,0,1,0,-1,1,0,-1,1,0,-1,1,0,-1,1],
 [1,0,0,0,-1,0,0,0,1,0,0,0,-1,0,0,0,1],
 [1,1,1,1,1,1,1,1,1,1,1,1,1,1,1,1,1,1,1,1,1,1,1,1,1,1,1,1,1,1,1,1,1,1,1,1,1,1,1,1,1],
 [1,1,0,-1,-1,0,1,0,-1,-1,0,1,1],
 [1,1,1,1,1,1,1,1,1,1,1,1,1,1,1,1,1,1,1,1,1,1,1,1,1,1,1,1,1,1,1,1,1,1,1,1,1,1,1,1,1,1,1],
 [1,0,-1,0,1,0,-1,0,1,0,-1,0,1,0,-1,0,1,0,-1,0,1],
 [1,0,0,-1,0,0,0,0,0,1,0,0,-1,0,0,1,0,0,0,0,0,-1,0,0,1],
 [1,-1,1,-1,1,-1,1,-1,1,-1,1,-1,1,-1,1,-1,1,-1,1,-1,1,-1,1],
 [1,1,1,1,1,1,1,1,1,1,1,1,1,1,1,1,1,1,1,1,1,1,1,1,1,1,1,1,1,1,1,1,1,1,1,1,1,1,1,1,1,1,1,1,1,1,1],
 [1,0,0,0,0,0,0,0,-1,0,0,0,0,0,0,0,1],
 [1,0,0,0,0,0,0,1,0,0,0,0,0,0,1,0,0,0,0,0,0,1,0,0,0,0,0,0,1,0,0,0,0,0,0,1,0,0,0,0,0,0,1],
 [1,0,0,0,0,-1,0,0,0,0,1,0,0,0,0,-1,0,0,0,0,1],
 [1,-1,0,1,-1,0,1,-1,0,1,-1,0,1,-1,0,1,-1,1,0,-1,1,0,-1,1,0,-1,1,0,-1,1,0,-1,1],
 [1,0,-1,0,1,0,-1,0,1,0,-1,0,1,0,-1,0,1,0,-1,0,1,0,-1,0,1],
 [1,1,1,1,1,1,1,1,1,1,1,1,1,1,1,1,1,1,1,1,1,1,1,1,1,1,1,1,1,1,1,1,1,1,1,1,1,1,1,1,1,1,1,1,1,1,1,1,1,1,1,1,1],
 [1,0,0,0,0,0,0,0,0,-1,0,0,0,0,0,0,0,0,1],
 [1,-1,0,0,0,1,-1,0,0,0,1,0,-1,0,0,1,0,-1,0,0,1,0,0,-1,0,1,0,0,-1,0,1,0,0,0,-1,1,0,0,0,-1,1],
 [1,0,0,0,-1,0,0,0,1,0,0,0,-1,0,0,0,1,0,0,0,-1,0,0,0,1],
 [1,-1,0,1,-1,0,1,-1,0,1,-1,0,1,-1,0,1,-1,0,1,0,-1,1,0,-1,1,0,-1,1,0,-1,1,0,-1,1,0,-1,1],
 [1,-1,1,-1,1,-1,1,-1,1,-1,1,-1,1,-1,1,-1,1,-1,1,-1,1,-1,1,-1,1,-1,1,-1,1],
 [1,1,1,1,1,1,1,1,1,1,1,1,1,1,1,1,1,1,1,1,1,1,1,1,1,1,1,1,1,1,1,1,1,1,1,1,1,1,1,1,1,1,1,1,1,1,1,1,1,1,1,1,1,1,1,1,1,1,1],
 [1,0,1,0,0,0,-1,0,-1,0,-1,0,0,0,1,0,1]]
noncomputable def phi (n:Int):List Int:=phiT.getD n.toNat []
noncomputable def cH:List Int->List Int->List Int
 | [],b=>b
 | a,[]=>a
 | x::a,y::b=>(x+y)::cH a b
theorem fg:∀ (a b:List Int) (i:Nat),co (cH a b) i=co a i+co b i
 | [],b,i=>by unfold cH; rw[Pl.co_nil]; omega
 | x::a,[],i=>by unfold cH; rw[Pl.co_nil]; omega
 | x::a,y::b,0=>rfl
 | x::a,y::b,i+1=>by unfold cH; rw[Pl.co_succ,Pl.co_succ,Pl.co_succ,fg a b i]
theorem gW:∀ (a b:List Int),(cH a b).length=max a.length b.length
 | [],b=>by unfold cH; simp
 | x::a,[]=>by unfold cH; simp
 | x::a,y::b=>by unfold cH; rw[yJ,gW a b,yJ,yJ]; omega
noncomputable def fmul:List Int->List Int->List Int
 | [],_=>[]
 | x::r,b=>cH (b.map (x*·)) (0::fmul r b)
theorem mi (x:Int):∀ (b:List Int) (i:Nat),co (b.map (x*·)) i=x*co b i
 | [],i=>by simp[co]
 | y::b,0=>rfl
 | y::b,i+1=>by rw[yH,Pl.co_succ,Pl.co_succ,mi x b i]
theorem cK:∀ (a b:List Int) (p:Nat),co (fmul a b) p=cf a (co b) p
 | [],b,p=>by unfold fmul; rw[Pl.co_nil]; rfl
 | x::r,b,0=>by unfold fmul; rw[fg,mi,Pl.cf_z]; show _+0=_; omega
 | x::r,b,p+1=>by unfold fmul; rw[fg,mi,Pl.cf_s,Pl.co_succ,cK r b p]
theorem fC:∀ (a b:List Int),a≠[]->b≠[]->(fmul a b).length=a.length+b.length-1
 | [],b,h,_=>absurd rfl h
 | [x],b,_,hb=>by
  have:0<b.length:=List.length_pos_iff.mpr hb
  unfold fmul fmul; rw[gW]; simp; omega
 | x::y::r,b,_,hb=>by
  have:0<b.length:=List.length_pos_iff.mpr hb
  unfold fmul; rw[gW,yJ,fC (y::r) b (by simp) hb]; simp; omega
theorem tV {a b:List Int}(ha:a≠[])(hb:b≠[]):Pl.mul a b=fmul a b:=Pl.ext_co (by rw[Pl.mul_len ha hb,fC a b ha hb]) λ i _=>by rw[Pl.co_mul,cK]
noncomputable def ck (f:Int->List Int):List Int->List Int
 | []=>[1]
 | d::r=>Pl.mul (f d) (ck f r)
noncomputable def fprod (f:Int->List Int):List Int->List Int
 | []=>[1]
 | d::r=>fmul (f d) (fprod f r)
theorem io {f:Int->List Int}:∀ {ds:List Int},(∀ d∈ds,Pl.Mo (f d))->Pl.Mo (ck f ds)
 | [],_=>⟨by simp[ck],rfl⟩
 | d::r,h=>(h d (yR ..)).mul (io λ x hx=>h x (yM _ hx))
theorem kA {f:Int->List Int}:∀ {ds:List Int},(∀ d∈ds,Pl.Mo (f d))->ck f ds=fprod f ds
 | [],_=>rfl
 | d::r,h=>by
  have hr:∀ x∈r,Pl.Mo (f x):=λ x hx=>h x (yM _ hx)
  unfold ck fprod
  rw[<- kA hr,tV (h d (yR ..)).ne (io hr).ne]
noncomputable def eP (n:Int):List Int:=(List.range n.toNat).map λ (i:Nat)=>1+(i:Int)
noncomputable def divs (n:Int):List Int:=(eP n).filter λ d=>decide (n%d=0)
noncomputable def xn1 (n:Int):List Int:=[-1]++List.replicate (n-1).toNat 0++[1]
theorem rM:((List.range 61).all λ k=>decide (k=0) || (fprod phi (divs k) == xn1 k))=true:=by decide +kernel
theorem qL:((List.range 61).all λ k=>decide (k=0) || ((phi k).all (λ x=>decide (-2<x)&&decide (x<3))&&decide ((phi k).length<=61)&&decide (phi k≠[])&&decide (co (phi k) ((phi k).length-1)=1)))=true:=by decide +kernel
theorem qC {P:Nat->Bool}(h:(List.range 61).all P=true){n:Int}(h1:1<=n)(h2:n<=60):P n.toNat=true:=List.all_eq_true.mp h _ (List.mem_range.mpr (by omega))
theorem sP {n:Int}(h1:1<=n):((n.toNat:Nat):Int)=n:=by omega
theorem eM {n:Int}(h1:1<=n)(h2:n<=60):Pl.Mo (phi n)/\Few (phi n)/\(phi n).length<=61/\∀ x∈phi n,-2<x/\x<3:=by
 have:=qC qL h1 h2
 rw[sP h1] at this
 have hz:¬ n.toNat=0:=by omega
 simp only[zT,yN,decide_eq_true_eq,zH,hz,false_or] at this
 obtain⟨⟨⟨a1,a2⟩,a3⟩,a4⟩:=this
 exact⟨⟨a3,a4⟩,λ y hy=>by have:=a1 y hy; omega,a2,a1⟩
theorem mem_divs {n d:Int}:d∈divs n ↔ 1<=d/\d<=n/\n%d=0:=by
 unfold divs eP
 rw[BK,Bm]
 constructor
 ·rintro ⟨⟨i,hi,rfl⟩,h⟩
  have:=List.mem_range.mp hi
  simp at h
  exact⟨by omega,by omega,h⟩
 ·rintro ⟨h1,h2,h3⟩
  exact⟨⟨(d-1).toNat,List.mem_range.mpr (by omega),by omega⟩,by simp[h3]⟩
theorem ue {n:Int}(h2:n<=60):∀ d∈divs n,Pl.Mo (phi d):=λ d hd=>(eM (mem_divs.mp hd).1 (by have:=mem_divs.mp hd; omega)).1
theorem mH {n:Int}(h1:1<=n)(h2:n<=60):ck phi (divs n)=xn1 n:=by
 have:=qC rM h1 h2
 rw[sP h1] at this
 have hz:¬ n.toNat=0:=by omega
 simp only[zT,decide_eq_true_eq,hz,false_or,beq_iff_eq] at this
 rw[kA (ue h2),this]
theorem ud (n:Int):(eP n).Pairwise (·<·):=by
 unfold eP
 exact List.pairwise_map.mpr (List.pairwise_lt_range.imp λ {a b} h=>by omega)
theorem gE (n:Int):(divs n).Pairwise (·<·):=(ud n).filter _
theorem oY {n:Int}(h1:1<=n):∃ l,divs n=l++[n]/\∀ d∈l,1<=d/\d<n/\n%d=0:=by
 have hn:n∈divs n:=mem_divs.mpr ⟨h1,Int.le_refl _,Int.emod_self⟩
 have ne:divs n≠[]:=Bi hn
 have hl:(divs n).getLast ne=n:=by
  have up:Up (n+1) (divs n):=⟨gE n,λ x hx=>by have:=mem_divs.mp hx; omega⟩
  have a:=up.last ne n hn
  have b:=(mem_divs.mp (Az ne)).2.1
  omega
 refine⟨(divs n).dropLast,?_,λ d hd=>?_⟩
 ·conv=>lhs; rw[<- kq ne,hl]
 ·have hd':=List.dropLast_subset _ hd
  have hm:=mem_divs.mp hd'
  refine⟨hm.1,?_,hm.2.2⟩
  have pw:=gE n
  rw[<- kq ne,hl] at pw
  exact(List.pairwise_append.mp pw).2.2 d hd n (by simp)
theorem vw (n:Int)(h:1<=n):Dv.rangeL 1 (n+1-1).toNat=(eP n).map .int:=by
 rw[dZ]; unfold eP
 have:(n+1-1).toNat=n.toNat:=by omega
 rw[this]
theorem bO {n:Int}(h1:1<=n)(h2:n<=60):F_Q05 [.int n]=.ok (L (divs n)) true:=by
 have hc:c_Q05_1 [some (.int n)]=.ok (L (divs n)) true:=by
  have hr:(rngOk 1&&rngOk (n+1))=true:=by simp only[rngOk,yN,decide_eq_true_eq]; omega
  have:=c5 (elt:=eVar 0) (cond:=eCm .eq (eOp .mod (eVar 1) (eVar 0)) (eInt 0)) (is:=[0]) (it:=iRange2 (eInt 1) (eOp .add (eVar 0) (eInt 1))) (ρ:=[some (.int n)]) (c:=λ d=>decide (n%d=0)) (g:=λ d=>d) (xs:=eP n) (f:=true)
   (by simp only[iRange2,eOp,eVar,eInt,R.bind,RL.bind,Out.bind,af,yF,if_true,aP,hr,vw n h1]) (by unfold eP; simp; omega) (λ d hd=>by
    have:0<d:=by unfold eP at hd; obtain⟨i,_,rfl⟩:=List.mem_map.mp hd; omega
    simp only[eCm,eOp,eVar,eInt,Dv.pick,R.bind,RL.bind,Out.bind,af,yH,yI,yF,yG,yU,aX,ap this]) (λ d hd _=>by simp only[eVar,Dv.pick,af,yH,yI,yF,yU])
  simp only[Ag] at this
  exact this
 have n1:¬ n<1:=by omega
 have n2:¬ 60<n:=by omega
 simp only[F_Q05,b_Q05,b_Q05_t1,Dv.fn,sCons,sNil,sIf,sRet,eOr,eCm,eVar,eInt,Dv.all,R.bind,RL.bind,Out.bind,am,af,yH,yI,yJ,yT,List.replicate,yO,yS,yF,Nat.reduceAdd,Nat.reduceSub,cw,cz,decide_eq_false n1,decide_eq_false n2,hc]
theorem gP {f:Int->D}{j:Int}:∀ {ks:List Int},j∈ks->Dv.look ks (ks.map f) j=some (f j)
 | [],h=>by simp at h
 | k::ks,h=>by
  rw[yH]
  unfold Dv.look
  by_cases e:k=j
  ·rw[if_pos e,e]
  ·rw[if_neg e]
   exact gP ((List.mem_cons.mp h).resolve_left (λ z=>e z.symm))
theorem kX:∀ ks:List Int,Dv.lstsFlat (ks.map λ d=>L (phi d))=true
 | []=>rfl
 | k::ks=>by rw[yH]; unfold Dv.lstsFlat; rw[bh,kX ks]; rfl
theorem kr {n:D}{ks:List Int}{d:Int}(hd:1<=d/\d<=60):∀ (l:List Int) (z:Sl),(∀ a∈l,a∈ks/\1<=a/\a<=60)->l.length<=60->(ck phi (l++[d])).length<=200 ->
  ∃ z',forGo 4 b_Q12_l1 (l.map .int) [.sh n,.dp (.dct ks (ks.map λ d=>L (phi d))),.sh (.int d),.ow (L (ck phi (l++[d]))),z]=.nx [.sh n,.dp (.dct ks (ks.map λ d=>L (phi d))),.sh (.int d),.ow (L (phi d)),z']
 | [],z,_,_,_=>⟨z,by simp only[yS,ck,Pl.mul_one]; rfl⟩
 | a::l,z,h,hl,hp=>by
  obtain⟨h1,h2,h3⟩:=h a (yR ..)
  rw[yJ] at hl
  have hm:∀ x∈l++[d],Pl.Mo (phi x):=λ x hx=>by
   rcases List.mem_append.mp hx with hx|hx
   ·have:=h x (yM _ hx); exact(eM this.2.1 this.2.2).1
   ·simp at hx; subst hx; exact(eM hd.1 hd.2).1
  have po:=eM h2 h3
  have pm:=io hm
  have e:ck phi (a::l++[d])=Pl.mul (ck phi (l++[d])) (phi a):=by
   rw[yO]
   show Pl.mul (phi a) (ck phi (l++[d]))=_
   exact Pl.mul_comm _ _
  have hlen:(ck phi (l++[d])).length<=200:=by
   rw[e,Pl.mul_len pm.ne po.1.ne] at hp
   have:0<(phi a).length:=List.length_pos_iff.mpr po.1.ne
   omega
  obtain⟨z',ih⟩:=kr hd l (.sh (.int a)) (λ x hx=>h x (yM _ hx)) (by omega) hlen
  refine⟨z',?_⟩
  have ex:=iE po.1 pm.ne po.2.1 (by have:=po.2.2.1; omega)
  have a0:Dv.at? [L (ck phi (l++[d])),.lst []] 0=some (L (ck phi (l++[d]))):=rfl
  rw[yH,aL (st':=[.sh n,.dp (.dct ks (ks.map λ d=>L (phi d))),.sh (.int d),.ow (L (ck phi (l++[d]))),.sh (.int a)]),ih]
  rw[e]
  simp only[b_Q12_l1,sSet,bo,eIx,Dv.ixD,eVar,eInt,lNil,lCons,eCall,Dv.all,R.bind,RL.bind,Dv.R.bindL,Dv.RL.bindL,Out.bind,am,aB,cS,af,ak,yH,yI,yF,yG,yL,yK,yQ,zD,Ac,eDix,gP h1,ex,a0]
theorem je {n:D}:∀ (l ks:List Int) (x y z:Sl),(∀ d∈l,(1<=d/\d<=60)/\d∉ks/\∀ a,1<=a->a<d->d%a=0->a∈ks\/a∈l)->l.Pairwise (·<·)->ks.length+l.length<=1000 ->
  ∃ x' y' z',forGo 2 b_Q12_l2 (l.map .int) [.sh n,.dp (.dct ks (ks.map λ d=>L (phi d))),x,y,z]=.nx [.sh n,.dp (.dct (ks++l) ((ks++l).map λ d=>L (phi d))),x',y',z']
 | [],ks,x,y,z,_,_,_=>⟨x,y,z,by rw[zz]; rfl⟩
 | d::l,ks,x,y,z,h,hp,hl=>by
  rw[yJ] at hl
  obtain⟨hd,hk,ha⟩:=h d (yR ..)
  obtain⟨l0,e0,h0⟩:=oY hd.1
  have hin:∀ a∈l0,a∈ks/\1<=a/\a<=60:=λ a ha'=>by
   have:=h0 a ha'
   refine⟨?_,this.1,by omega⟩
   rcases ha a this.1 this.2.1 this.2.2 with q|q
   ·exact q
   ·rcases List.mem_cons.mp q with q|q
    ·omega
    ·have:=(List.pairwise_cons.mp hp).1 a q; omega
  have hpp:=mH hd.1 hd.2
  rw[e0] at hpp
  have hdl:(divs d).length<=60:=by
   have:(divs d).length<=(eP d).length:=zI _ _
   unfold eP at this; simp at this; omega
  have hxl:(xn1 d).length<=200:=by unfold xn1; simp; omega
  obtain⟨z1,e1⟩:=kr (n:=n) hd l0 z hin (by rw[e0] at hdl; simp at hdl; omega) (by rw[hpp]; exact hxl)
  rw[hpp] at e1
  obtain⟨x',y',z',ih⟩:=je (n:=n) l (ks++[d]) (.sh (.int d)) .no z1 (λ b hb=>by
   obtain⟨q1,q2,q3⟩:=h b (yM _ hb)
   refine⟨q1,λ hb2=>?_,λ a a1 a2 a3=>?_⟩
   ·rcases List.mem_append.mp hb2 with hb2|hb2
    ·exact q2 hb2
    ·simp at hb2; have:=(List.pairwise_cons.mp hp).1 b hb; omega
   ·rcases q3 a a1 a2 a3 with q|q
    ·exact .inl (zx _ q)
    ·rcases List.mem_cons.mp q with q|q
     ·exact .inl (by rw[q]; simp)
     ·exact .inr q) (List.pairwise_cons.mp hp).2 (by simp; omega)
  refine⟨x',y',z',?_⟩
  have hdo:=bO hd.1 hd.2
  have hcut:Dv.cutL ((divs d).map D.int) none (some (-1))=l0.map D.int:=by
   rw[e0]
   unfold Dv.cutL Dv.cutI
   simp
   have:(-1+((l0.length:Int)+1)).toNat=l0.length:=by omega
   rw[this]
   exact List.take_left' (by simp)
  have hre:=lU (x:=0) (n:=d-1) (by omega) (by omega)
  have hadd1:opD .add (.lst [.int (-1)]) (L (List.replicate (d-1).toNat 0))=.ok (L (-1::List.replicate (d-1).toNat 0)) true:=by
   have hle:([D.int (-1)].length+((List.replicate (d-1).toNat (0:Int)).map D.int).length<=Dv.mx):=by simp[Dv.mx]; omega
   simp only[Dv.opD_ai,Dv.opD_al,Dv.opD_su,Dv.opD_mi,Dv.opD_ml,Dv.opD_mo,Dv.opD_fd,Dv.opD_po,Dv.opD_ba,Dv.opD_sh,L,if_pos hle,bh]
   rfl
  have hadd2:opD .add (L (-1::List.replicate (d-1).toNat 0)) (.lst [.int 1])=.ok (L (xn1 d)) true:=by
   have hle:(((-1::List.replicate (d-1).toNat (0:Int)).map D.int).length+[D.int 1].length<=Dv.mx):=by simp[Dv.mx]; omega
   simp only[Dv.opD_ai,Dv.opD_al,Dv.opD_su,Dv.opD_mi,Dv.opD_ml,Dv.opD_mo,Dv.opD_fd,Dv.opD_po,Dv.opD_ba,Dv.opD_sh,L,if_pos hle,bh,xn1]
   simp[Dv.flatL,Dv.scal]
  have hpk:Dv.putKs ks d=ks++[d]:=by unfold Dv.putKs; rw[if_neg hk]
  have hpl:Dv.putL ks (ks.map λ d=>L (phi d)) d (L (phi d))=(ks++[d]).map λ d=>L (phi d):=by unfold Dv.putL; rw[if_neg hk]; simp
  have h100:ks.length<Dv.mx:=by unfold Dv.mx; omega
  have h13:decide ((1:Nat)≠3)=true:=by decide
  rw[yH,aL (st':=[.sh n,.dp (.dct (ks++[d]) ((ks++[d]).map λ d=>L (phi d))),.sh (.int d),.no,z1]),ih]
  ·simp
  ·simp only[b_Q12_l2,sCons,sSet,bo,Dv.give,Dv.open_,aM,au,aO,sFor,iSeq,eNeg,eOp,eVar,eInt,eLst,lNil,lCons,eCall,eSlice,ePart,Dv.all,R.bind,RL.bind,Dv.R.bindL,Dv.RL.bindL,Out.bind,am,aB,cS,fM,af,yH,yI,yF,yG,yL,yK,yX,yV,yU,zc,yQ,if_true,decide_true,cg,bh,yP,hre,hadd1,hadd2,hdo,Dv.sliceD,hcut,e1,sDMove,kX,decide_eq_true h100,h13,hpk,hpl]
theorem tm {n:Int}(h1:1<=n)(h2:n<=60):F_Q12 [.int n]=.ok (.dct (divs n) ((divs n).map λ d=>L (phi d))) true:=by
 have hdl:(divs n).length<=60:=by
  have:(divs n).length<=(eP n).length:=zI _ _
  unfold eP at this; simp at this; omega
 obtain⟨x,y,z,e⟩:=je (n:=.int n) (divs n) [] .no .no .no (λ d hd=>by
  have:=mem_divs.mp hd
  refine⟨⟨this.1,by omega⟩,by simp,λ a a1 a2 a3=>.inr (mem_divs.mpr ⟨a1,by omega,?_⟩)⟩
  exact zr (Int.dvd_trans (zd a3) (zd this.2.2))) (gE n) (by simp; omega)
 simp only[yS,yI] at e
 simp only[F_Q12,b_Q12,b_Q12_t2,b_Q12_t1,Dv.fn,sCons,Dv.give,Dv.open_,aM,aF,au,sRetO,sFor,iSeq,eVar,lNil,lCons,eCall,R.bind,RL.bind,Dv.R.bindL,Dv.RL.bindL,Out.bind,fM,sSetD,eDict0,af,yH,yI,yJ,yT,List.replicate,yO,yS,yF,yG,yL,yK,yX,yV,yU,yQ,Nat.reduceAdd,Nat.reduceSub,bO h1 h2,e]
theorem nH (g:Nat->Int):∀ (a b:List Int) (p:Nat),cf (cH a b) g p=cf a g p+cf b g p
 | [],b,p=>by unfold cH; rw[Pl.cf_nil]; omega
 | x::a,[],p=>by unfold cH; rw[Pl.cf_nil]; omega
 | x::a,y::b,0=>by unfold cH; rw[Pl.cf_z,Pl.cf_z,Pl.cf_z,Ay]
 | x::a,y::b,p+1=>by unfold cH; rw[Pl.cf_s,Pl.cf_s,Pl.cf_s,nH g a b p,Ay]; omega
theorem kJ (g:Nat->Int):∀ (n:Nat) (l:List Int) (p:Nat),cf (List.replicate n 0++l) g p=if n<=p then cf l g (p-n) else 0
 | 0,l,p=>by simp
 | n+1,l,0=>by rw[zl,yO,Pl.cf_z,if_neg (by omega)]; simp
 | n+1,l,p+1=>by
  rw[zl,yO,Pl.cf_s,kJ g n l p]
  by_cases h:n<=p
  ·rw[if_pos h,if_pos (by omega)]
   have:p+1-(n+1)=p-n:=by omega
   rw[this]; simp
  ·rw[if_neg h,if_neg (by omega)]; simp
noncomputable def Dvd (o:List Int)(f:Nat->Int):Prop:=∃ q:List Int,∀ i,f i=cf q (co o) i
theorem gI {a o q r:List Int}(ho:Pl.Mo o)(hr:r.length<=o.length-1)(h:∀ p,co a p=cf q (co o) p+co r p):Dvd o (co a) ↔ ∀ i,co r i=0:=by
 constructor
 ·rintro ⟨q',h'⟩
  exact(Pl.div_one (o:=o) (q:=q) (q':=q') (r:=co r) (r':=λ _=>0) ho (λ i hi=>Pl.co_over (by omega)) (λ _ _=>rfl) (λ p=>by rw[<- h p,h' p]; simp)).2
 ·intro hz
  exact⟨q,λ i=>by rw[h i,hz i]; simp⟩
open Classical in
noncomputable def aS (xs:List Int)(d:Int):Bool:=decide (Dvd (phi d) (co (bsum xs)))
open Classical in
theorem hasB_iff {xs:List Int}{d:Int}:aS xs d=true ↔ Dvd (phi d) (co (bsum xs)):=by unfold aS; exact decide_eq_true_iff
theorem lu {m:Int}{xs:List Int}(h:Up m xs)(hm:m<=200):(bsum xs).length<=200:=by
 unfold bsum
 split
 ·simp
 ·rename_i ne
  have:=h.rg (xs.getLast ne) (Az ne)
  rw[yP,upto_len]; omega
theorem o9 {m d:Int}{xs:List Int}(h:Up m xs)(hm:m<=200)(d1:1<=d)(d2:d<=60):F_Q0Y [L xs,L (phi d)]=.ok (.bl (aS xs d)) true:=by
 obtain⟨po,pf,pl,_⟩:=eM d1 d2
 have hbl:=lu h hm
 obtain⟨q,r,e,l1,tr,l2,hr⟩:=cA (a:=bsum xs) po pf (by omega) (by omega)
 have bs:=lI h (by omega)
 have a1:∀ x y:D,Dv.at? [x,y] 1=some y:=λ _ _=>rfl
 have hbool:decide (r=[])=aS xs d:=by
  have:=gI (a:=bsum xs) po l2 hr
  rw[<- hasB_iff] at this
  rw[zU,decide_eq_true_eq,this]
  constructor
  ·intro z i; rw[z,Pl.co_nil]
  ·intro z; exact Pl.tr_ext tr (.inl rfl) λ i=>by rw[z i,Pl.co_nil]
 have q0:=fS r
 rw[hbool] at q0
 simp only[F_Q0Y,b_Q0Y,Dv.fn,sRet,eIx,Dv.ixD,eCm,eVar,eInt,eLst,lNil,lCons,eCall,Dv.all,R.bind,RL.bind,Dv.R.bindL,Dv.RL.bindL,Out.bind,am,ak,yH,yI,yJ,yT,List.replicate,yO,yS,yF,yG,yQ,zD,yZ,Nat.reduceAdd,Nat.reduceSub,bs,e,a1,q0]
theorem oN {n:Int}(h:1<=n):∃ l,divs n=1::l/\∀ d∈l,1<d/\d<=n/\n%d=0:=by
 have h1:(1:Int)∈divs n:=mem_divs.mpr ⟨by omega,h,BT n⟩
 have up:=gE n
 cases hd:divs n with
 | nil=>rw[hd] at h1; simp at h1
 | cons x l =>
  rw[hd] at h1 up
  have hx:=mem_divs.mp (show x∈divs n by rw[hd]; exact yR ..)
  have e:x=1:=by
   rcases List.mem_cons.mp h1 with h1|h1
   ·exact h1.symm
   ·have:=(List.pairwise_cons.mp up).1 1 h1; omega
  subst e
  refine⟨l,rfl,λ d hdl=>?_⟩
  have h2:=(List.pairwise_cons.mp up).1 d hdl
  have h3:=mem_divs.mp (show d∈divs n by rw[hd]; exact yM _ hdl)
  exact⟨h2,h3.2.1,h3.2.2⟩
noncomputable def bp (n:Int):List Int:=(divs n).drop 1
theorem cW {n d:Int}(h:1<=n):d∈bp n ↔ 1<d/\d<=n/\n%d=0:=by
 obtain⟨l,e,hl⟩:=oN h
 unfold bp
 rw[e]
 constructor
 ·exact λ hd=>hl d hd
 ·rintro ⟨h1,h2,h3⟩
  have:=mem_divs.mpr ⟨show 1<=d by omega,h2,h3⟩
  rw[e] at this
  rcases List.mem_cons.mp this with h4|h4
  ·omega
  ·exact h4
theorem jh (ds:List D):Dv.cutL ds (some 1) none=ds.drop 1:=by
 unfold Dv.cutL Dv.cutI
 have h1:¬ ((1:Int)<0):=by omega
 have t1:(1:Int).toNat=1:=rfl
 simp only[h1,if_false,t1]
 by_cases h:1<=ds.length
 ·rw[BJ h,zV (by simp)]
 ·have:ds=[]:=zB (by omega)
  subst this; rfl
theorem mw (n:Int):Dv.cutL ((divs n).map D.int) (some 1) none=(bp n).map D.int:=by rw[jh,<- Bf]; rfl
theorem cT {n:Int}(h2:n<=60):(bp n).length<=60:=by
 have:(divs n).length<=(eP n).length:=zI _ _
 unfold eP at this
 simp at this
 unfold bp
 simp; omega
theorem dY {n:Int}{xs:List Int}(h:Beat n xs):Up n xs:=⟨h.up,h.rg⟩
theorem sk {n:Int}{xs:List Int}(n2:n<=60)(h:Beat n xs):F_Q11 [.int n,L xs]=.ok (L ((bp n).filter λ d=>aS xs d)) true:=by
 have n1:=h.pos
 have hc:c_Q11_1 [some (.int n),some (L xs),some (.dct (divs n) ((divs n).map λ d=>L (phi d)))]=.ok (L ((bp n).filter λ d=>aS xs d)) true:=by
  have:=c5 (elt:=eVar 0) (cond:=eCall F_Q0Y (lCons (eVar 1) (lCons (eDix (eVar 2) (eVar 0)) lNil))) (is:=[1,2]) (it:=iSeq (eSlice (eCall F_Q05 (lCons (eVar 0) lNil)) (some (eInt 1)) none)) (ρ:=[some (.int n),some (L xs),some (.dct (divs n) ((divs n).map λ d=>L (phi d)))]) (c:=λ d=>aS xs d) (g:=λ d=>d) (xs:=bp n) (f:=true)
   (by simp only[iSeq,eVar,eInt,lNil,lCons,eCall,eSlice,ePart,R.bind,RL.bind,Dv.R.bindL,Dv.RL.bindL,Out.bind,af,yF,zc,yQ,bh,bO n1 n2,Dv.sliceD,mw]) (by have:=cT n2; omega) (λ d hd=>by
    have hd':=(cW n1).mp hd
    have hk:d∈divs n:=mem_divs.mpr ⟨by omega,hd'.2.1,hd'.2.2⟩
    simp only[eVar,lNil,lCons,eCall,Dv.pick,R.bind,RL.bind,Dv.R.bindL,Dv.RL.bindL,Out.bind,af,ak,yH,yI,yF,yG,yU,yQ,zD,Ac,eDix,gP hk,o9 (dY h) (show n<=200 by omega) (show 1<=d by omega) (show d<=60 by omega)]) (λ d hd _=>by simp only[eVar,Dv.pick,af,yH,yI,yF,yG,yU])
  simp only[Ag] at this
  exact this
 simp only[F_Q11,b_Q11,b_Q11_t2,b_Q11_t1,Dv.fn,sCons,sRet,sExpr,eVar,lNil,lCons,eCall,Dv.all,R.bind,RL.bind,Dv.R.bindL,Dv.RL.bindL,Out.bind,aJ,am,cS,sSetD,af,ak,yH,yI,yJ,yT,List.replicate,yO,yS,yF,yG,yL,yK,yQ,yZ,Nat.reduceAdd,Nat.reduceSub,el n2 h,tm n1 n2,hc]
theorem eN {elt:EE}{free:Dv.Env}{g:Int->D}:∀ {xs:List Int},(∀ x∈xs,elt (some (.int x)::free)=.ok (g x) true)->compGo elt (eBl true) free (xs.map .int)=.ok (xs.map g) true
 | [],_=>rfl
 | x::r,h=>by
  rw[yH]
  unfold compGo
  simp only[eBl,h x (yR ..),eN λ y hy=>h y (yM _ hy),yH,Bool.and_self]
noncomputable def row (a b:List Int)(d:Int):D:=.tup [.int d,.bl (aS a d),.bl (aS b d)]
theorem mS {n d:Int}{xs:List Int}(hd:d∈bp n):decide (d∈(bp n).filter λ d=>aS xs d)=aS xs d:=by
 rw[zU,decide_eq_true_eq,BK]
 exact⟨λ h=>h.2,λ h=>⟨hd,h⟩⟩
end Cw
namespace Bt
open Dv (ins isort)
noncomputable def ch:Nat->Nat->Nat
 | _,0=>1
 | 0,_+1=>0
 | n+1,k+1=>ch n k+ch n (k+1)
structure Prm (p:Nat):Prop where
 two:2<=p
 dv:∀ d,d ∣ p->d=1\/d=p
noncomputable def T (A:List Int)(g:Int->Int):Int->Int:=λ s=>(A.map λ a=>g (s-a)).sum
theorem bv (a:Int)(A:List Int)(g:Int->Int)(s:Int):T (a::A) g s=g (s-a)+T A g s:=by unfold T; simp
theorem eg (g:Int->Int)(s:Int):T [] g s=0:=by simp[T]
noncomputable def cnt (n:Int)(B:List Int)(s:Int):Int:=(B.map λ b=>if (s-b)%n=0 then (1:Int) else 0).sum
end Bt
namespace Cw
open Dv (Out R RL cmD eAnd eB1 eB2 eBl eCall eCm eComp eInt eIx eIxT eLst eNeg eNot eOp eOr ePart eSlice eTup eVar forGo iRange iRange2 iSeq keepD lCons lNil opD rngOk sApp sAug sCons sExpr sExt sFor sIf sNil sPut sPutT sRaise sRet sRetO sRetTb sRowDec sSet sSetD sSetG sTryAs sUnpack sUnpackL sUnpackTb sWhile whileGo)
open Bt (T bv eg hits Fill bf Beat)
open Pl (co cf)
noncomputable def sl {α:Type}(l:List α)(f:α->Int):Int:=(l.map f).sum
theorem aj {α:Type}(f:α->Int):sl [] f=0:=rfl
theorem ac {α:Type}(x:α)(l:List α)(f:α->Int):sl (x::l) f=f x+sl l f:=by unfold sl; simp
theorem c8 {α:Type}{f g:α->Int}:∀ {l:List α},(∀ x∈l,f x=g x)->sl l f=sl l g
 | [],_=>rfl
 | x::l,h=>by rw[ac,ac,h x (yR ..),c8 λ y hy=>h y (yM _ hy)]
theorem lQ {α:Type}(f g:α->Int):∀ l:List α,sl l (λ x=>f x+g x)=sl l f+sl l g
 | []=>rfl
 | x::l=>by rw[ac,ac,ac,lQ f g l]; omega
theorem mt {α:Type}(c:Int)(f:α->Int):∀ l:List α,sl l (λ x=>c*f x)=c*sl l f
 | []=>by rw[aj,aj]; omega
 | x::l=>by rw[ac,ac,mt c f l,Ax]
theorem mQ {α:Type}(l:List α):sl l (λ _=>0)=0:=by
 have:=mt 0 (λ _=>(0:Int)) l
 simp only[Int.zero_mul] at this
 exact this
theorem nG {α β:Type}(f:α->β->Int):∀ (l:List α) (m:List β),sl l (λ a=>sl m (λ b=>f a b))=sl m (λ b=>sl l (λ a=>f a b))
 | [],m=>by rw[aj]; exact(mQ m).symm
 | a::l,m=>by
  rw[ac,nG f l m,<- lQ]
  exact c8 λ b _=>(ac a l (λ a=>f a b)).symm
theorem ly (A:List Int)(g:Int->Int)(s:Int):T A g s=sl A (λ a=>g (s-a)):=rfl
noncomputable def act:List Int->(Int->Int)->Int->Int
 | [],_,_=>0
 | x::r,g,s=>x*g s+act r g (s-1)
theorem gA (g:Int->Int):∀ (a b:List Int) (s:Int),act (cH a b) g s=act a g s+act b g s
 | [],b,s=>by unfold cH; show _=0+_; omega
 | x::a,[],s=>by unfold cH; show _=_+0; omega
 | x::a,y::b,s=>by
  unfold cH act
  rw[gA g a b,Ay]; omega
theorem nj (g:Int->Int)(x:Int):∀ (b:List Int) (s:Int),act (b.map (x*·)) g s=x*act b g s
 | [],s=>by show (0:Int)=x*0; omega
 | y::b,s=>by
  rw[yH]
  unfold act
  rw[nj g x b,Ax,Bg]
theorem bx (g:Int->Int)(b:List Int):∀ (a:List Int) (s:Int),act (fmul a b) g s=act a (act b g) s
 | [],s=>rfl
 | x::r,s=>by
  unfold fmul
  rw[gA,nj]
  show _+(0*g s+act (fmul r b) g (s-1))=x*act b g s+act r (act b g) (s-1)
  rw[bx g b r]; omega
theorem cV (a:List Int)(g:Int->Int)(h:∀ s,g s=0):∀ s,act a g s=0:=by
 induction a with
 | nil=>intro s; rfl
 | cons x r ih=>intro s; unfold act; rw[h,ih]; omega
theorem j4 (g:Int->Int):∀ (b:List Int) (s:Int),(∀ i,co b i=0)->act b g s=0
 | [],s,_=>rfl
 | y::b,s,h=>by
  have h0:=h 0
  rw[Pl.co_zero] at h0
  unfold act
  rw[h0,j4 g b (s-1) λ i=>by have:=h (i+1); rw[Pl.co_succ] at this; exact this]; omega
theorem eY (g:Int->Int):∀ (a b:List Int) (s:Int),(∀ i,co a i=co b i)->act a g s=act b g s
 | [],b,s,h=>(j4 g b s λ i=>by rw[<- h i,Pl.co_nil]).symm
 | x::a,[],s,h=>j4 g (x::a) s λ i=>by rw[h i,Pl.co_nil]
 | x::a,y::b,s,h=>by
  have h0:=h 0
  rw[Pl.co_zero,Pl.co_zero] at h0
  unfold act
  rw[h0,eY g a b (s-1) λ i=>by have:=h (i+1); rw[Pl.co_succ,Pl.co_succ] at this; exact this]
theorem d9 (g:Int->Int)(l:List Int):∀ (n:Nat) (s:Int),act (List.replicate n 0++l) g s=act l g (s-n)
 | 0,s=>by simp
 | n+1,s=>by
  rw[zl,yO]
  show 0*g s+act (List.replicate n 0++l) g (s-1)=_
  rw[d9 g l n]
  have:s-1-(n:Int)=s-((n+1:Nat):Int):=by omega
  rw[this]; omega
theorem gq {d:Int}(hd:1<=d)(g:Int->Int)(s:Int):act (xn1 d) g s=g (s-d)-g s:=by
 unfold xn1
 rw[zZ]
 show -1*g s+act (List.replicate (d-1).toNat 0++[1]) g (s-1)=_
 rw[d9]
 show _+(1*g (s-1-((d-1).toNat:Int))+0)=_
 have:s-1-((d-1).toNat:Int)=s-d:=by omega
 rw[this]; omega
theorem u3 (A:List Int)(g:Int->Int):∀ (a:List Int) (s:Int),act a (T A g) s=T A (act a g) s
 | [],s=>by rw[ly]; exact(mQ A).symm
 | x::r,s=>by
  show x*T A g s+act r (T A g) (s-1)=_
  rw[u3 A g r,ly,ly,ly,<- mt,<- lQ]
  refine c8 λ a _=>?_
  have:s-1-a=s-a-1:=by omega
  rw[this]; rfl
noncomputable def Per (d:Int)(g:Int->Int):Prop:=∀ s,g (s-d)=g s
theorem Per.T {d:Int}{g:Int->Int}(h:Per d g)(A:List Int):Per d (T A g):=λ s=>by
 rw[ly,ly]
 refine c8 λ a _=>?_
 have:s-d-a=s-a-d:=by omega
 rw[this,h]
theorem Per.nat {d:Int}{g:Int->Int}(h:Per d g)(s:Int):∀ k:Nat,g (s-k*d)=g s
 | 0=>by congr 1; omega
 | k+1=>by
  rw[<- h.nat s k,<- h (s-k*d)]
  congr 1
  rw[BL,Ay]; omega
theorem Per.dvd {d:Int}{g:Int->Int}(h:Per d g){s t:Int}(hd:d ∣ s-t):g s=g t:=by
 obtain⟨k,hk⟩:=hd
 rcases Int.le_total 0 k with h0|h0
 ·have:=h.nat s k.toNat
  rw[<- this]
  congr 1
  have e:((k.toNat:Nat):Int)=k:=by omega
  rw[e,Ae]; omega
 ·have:=h.nat t (-k).toNat
  rw[<- this]
  congr 1
  have e:(((-k).toNat:Nat):Int)=-k:=by omega
  rw[e,BF,Ae]; omega
noncomputable def dl (d:Int):Int->Int:=λ s=>if s%d=0 then 1 else 0
theorem dl_per {d:Int}:Per d (dl d):=λ s=>by
 unfold dl
 rw[Int.sub_emod_right]
theorem sZ {d:Int}(hd:1<=d):∀ (l:List Int) (s:Int),s<d->(l.length:Int)<=s+d->act l (dl d) s=if 0<=s then co l s.toNat else 0
 | [],s,_,_=>by rw[Pl.co_nil]; split <;>rfl
 | x::r,s,h1,h2=>by
  rw[yJ] at h2
  unfold act
  rw[sZ hd r (s-1) (by omega) (by omega)]
  unfold dl
  by_cases h0:s=0
  ·subst h0
   rw[if_pos (by simp),if_neg (by omega),if_pos (by omega)]
   show x*1+0=x; omega
  ·have hm:¬ s%d=0:=by
    intro hm
    obtain⟨k,hk⟩:=zd hm
    have k1:k<1:=by
     by_cases hk1:k<1
     ·exact hk1
     ·exfalso
      have:d*1<=d*k:=zt (by omega) (by omega)
      omega
    have k2:-1<k:=by
     by_cases hk1:-1<k
     ·exact hk1
     ·exfalso
      have:d*k<=d*(-1):=zt (by omega) (by omega)
      omega
    have:k=0:=by omega
    subst this
    omega
   rw[if_neg hm]
   by_cases hs:0<=s
   ·rw[if_pos (by omega),if_pos hs]
    have:s.toNat=(s-1).toNat+1:=by omega
    rw[this,Pl.co_succ]; omega
   ·rw[if_neg (by omega),if_neg hs]; omega
noncomputable def kN (x:Nat):List Int:=List.replicate x 0++[1]
noncomputable def fsL:List Int->List Int
 | []=>[]
 | x::r=>cH (kN x.toNat) (fsL r)
theorem qO (g:Int->Int)(x:Nat)(s:Int):act (kN x) g s=g (s-x):=by
 unfold kN
 rw[d9]
 show 1*g (s-x)+0=_; omega
theorem so (g:Int->Int):∀ (xs:List Int) (s:Int),(∀ x∈xs,0<=x)->act (fsL xs) g s=T xs g s
 | [],s,_=>rfl
 | x::r,s,h=>by
  unfold fsL
  rw[gA,qO,bv,so g r s λ y hy=>h y (yM _ hy)]
  have:((x.toNat:Nat):Int)=x:=by have:=h x (yR ..); omega
  rw[this]
open Dv (D R RL EE EL EI RI Sl Out SS St)
open Bt
open Pl (co cf sh)
noncomputable def mono (i:Nat):Nat->Int:=λ j=>if j=i then 1 else 0
theorem bX {o:List Int}{f g:Nat->Int}(h:Dvd o f)(e:∀ i,f i=g i):Dvd o g:=by
 obtain⟨q,hq⟩:=h
 exact⟨q,λ i=>by rw[<- e,hq]⟩
theorem dvd_zero (o:List Int):Dvd o (λ _=>0):=⟨[],λ i=>rfl⟩
theorem dvd_add {o:List Int}{f g:Nat->Int}(h1:Dvd o f)(h2:Dvd o g):Dvd o (λ i=>f i+g i):=by
 obtain⟨a,ha⟩:=h1
 obtain⟨b,hb⟩:=h2
 exact⟨cH a b,λ i=>by rw[nH,<- ha,<- hb]⟩
theorem vR {o:List Int}{f:Nat->Int}(h:Dvd o f):Dvd o (sh f):=by
 obtain⟨q,hq⟩:=h
 refine⟨0::q,λ i=>?_⟩
 cases i with
 | zero=>rw[Pl.cf_z]; simp[sh]
 | succ i=>rw[Pl.cf_s,<- hq]; simp[sh]
theorem lw {o:List Int}{q:Nat}(h:Dvd o (λ j=>mono q j-mono 0 j)):∀ i:Nat,Dvd o (λ j=>mono (i+q) j-mono i j)
 | 0=>bX h λ j=>by rw[Bo]
 | i+1=>bX (vR (lw h i)) λ j=>by
  cases j with
  | zero=>simp[sh,mono]; omega
  | succ j =>
   have e:i+1+q=i+q+1:=by omega
   simp only[sh,mono,e,Nat.add_right_cancel_iff]
theorem uy {o:List Int}{q:Nat}(hq:0<q)(h:Dvd o (λ j=>mono q j-mono 0 j)):∀ i:Nat,Dvd o (λ j=>mono i j-mono (i%q) j):=by
 intro i
 induction i using Nat.strongRecOn with
 | ind i ih =>
  by_cases hi:i<q
  ·rw[Ak hi]; exact bX (dvd_zero o) λ j=>by omega
  ·have h1:=ih (i-q) (by omega)
   have h2:=lw h (i-q)
   have e1:i-q+q=i:=by omega
   have e2:(i-q)%q=i%q:=by rw[<- Bk (by omega)]
   rw[e1] at h2
   rw[e2] at h1
   exact bX (dvd_add h2 h1) λ j=>by omega
noncomputable def fs:List Int->Nat->Int
 | [],_=>0
 | x::r,j=>mono x.toNat j+fs r j
theorem kY {o:List Int}{q:Nat}(hq:0<q)(h:Dvd o (λ j=>mono q j-mono 0 j)):∀ xs:List Int,(∀ x∈xs,0<=x)->Dvd o (λ j=>fs xs j-fs (xs.map (·%(q:Int))) j)
 | [],_=>bX (dvd_zero o) λ j=>by simp[fs]
 | x::r,hx=>by
  have h1:=uy hq h x.toNat
  have h2:=kY hq h r λ y hy=>hx y (yM _ hy)
  have h0:=hx x (yR ..)
  have e:(x%(q:Int)).toNat=x.toNat%q:=by
   have:=Int.toNat_emod h0 (by omega:(0:Int)<=(q:Int))
   rw[this,zo]
  exact bX (dvd_add h1 h2) λ j=>by
   simp only[yH,fs,e]; omega
noncomputable def cnt (xs:List Int)(q r:Int):Int:=((xs.filter λ x=>decide (x%q=r)).length:Nat)
theorem qI (x:Int)(xs:List Int)(q r:Int):cnt (x::xs) q r=(if x%q=r then 1 else 0)+cnt xs q r:=by
 unfold cnt
 rw[zC]
 by_cases h:x%q=r
 ·rw[if_pos (by simp[h]),if_pos h,yJ]; omega
 ·rw[if_neg (by simp[h]),if_neg h]; omega
theorem pO {q:Int}(hq:0<q):∀ (xs:List Int) (j:Nat),fs (xs.map (·%q)) j=cnt xs q j
 | [],j=>rfl
 | x::r,j=>by
  have h0:=AD x (by omega:q≠0)
  rw[yH,qI,<- pO hq r j]
  show mono (x%q).toNat j+_=_
  unfold mono
  by_cases h:x%q=j
  ·rw[if_pos (by omega),if_pos h]
  ·rw[if_neg (by omega),if_neg h]
theorem tu {xs:List Int}{q r:Int}(hq:0<q)(h:q<=r):cnt xs q r=0:=by
 unfold cnt
 have:xs.filter (λ x=>decide (x%q=r))=[]:=by
  rw[A3]
  intro x _
  have:=Aq x hq
  simp; omega
 rw[this]; rfl
noncomputable def comb (m:Nat):Nat->List Int
 | 0=>[]
 | 1=>[1]
 | p+2=>1::(List.replicate (m-1) 0++comb m (p+1))
theorem kF {m:Nat}(hm:0<m):∀ p,(comb m (p+1)).length=p*m+1
 | 0=>by simp[comb]
 | p+1=>by
  unfold comb
  rw[yJ,za,zA,kF hm p,zw]; omega
theorem nB {m:Nat}(hm:0<m){gl:List Int}(hl:gl.length=m):∀ (p j:Nat),cf (comb m (p+1)) (co gl) j=if j<(p+1)*m then co gl (j%m) else 0
 | 0,j=>by
  show 1*co gl j+sh (cf [] (co gl)) j=_
  have:sh (cf [] (co gl)) j=0:=by cases j <;>rfl
  rw[this,Bo,Nat.one_mul]
  by_cases h:j<m
  ·rw[if_pos h,Ak h]; omega
  ·rw[if_neg h,Pl.co_over (by omega)]; rfl
 | p+1,j=>by
  have hc:comb m (p+1+1)=1::(List.replicate (m-1) 0++comb m (p+1)):=rfl
  rw[hc]
  have hs:sh (cf (List.replicate (m-1) 0++comb m (p+1)) (co gl)) j=if m<=j then cf (comb m (p+1)) (co gl) (j-m) else 0:=by
   cases j with
   | zero=>rw[if_neg (by omega)]; rfl
   | succ j =>
    show cf _ _ j=_
    rw[kJ]
    by_cases h:m-1<=j
    ·rw[if_pos h,if_pos (by omega)]
     have:j-(m-1)=j+1-m:=by omega
     rw[this]
    ·rw[if_neg h,if_neg (by omega)]
  show 1*co gl j+sh (cf (List.replicate (m-1) 0++comb m (p+1)) (co gl)) j=_
  rw[hs]
  by_cases h:m<=j
  ·rw[if_pos h,nB hm hl p (j-m),Pl.co_over (by omega),<- Bk h]
   have e:(p+1+1)*m=(p+1)*m+m:=by rw[zw]
   by_cases h2:j-m<(p+1)*m
   ·rw[if_pos h2,if_pos (by omega)]; omega
   ·rw[if_neg h2,if_neg (by omega)]; omega
  ·rw[if_neg h,Ak (by omega),if_pos (by rw[zw]; omega)]; omega
theorem gr:∀ {xs:List Int} {j:Nat},(∀ x∈xs,0<=x)->(j:Int)∉xs->fs xs j=0
 | [],j,_,_=>rfl
 | x::r,j,h0,hj=>by
  have:=h0 x (yR ..)
  have hx:¬ j=x.toNat:=λ e=>hj (List.mem_cons.mpr (.inl (by omega)))
  show mono x.toNat j+fs r j=0
  rw[gr (λ y hy=>h0 y (yM _ hy)) λ hm=>hj (yM _ hm)]
  unfold mono; rw[if_neg hx]; rfl
theorem qB:∀ {xs:List Int} {j:Nat},(∀ x∈xs,0<=x)->xs.Pairwise (·<·)->(j:Int)∈xs->fs xs j=1
 | [],j,_,_,hm=>nomatch hm
 | x::r,j,h0,hu,hm=>by
  obtain⟨hu1,hu2⟩:=List.pairwise_cons.mp hu
  have hr:∀ y∈r,0<=y:=λ y hy=>h0 y (yM _ hy)
  have h1:=h0 x (yR ..)
  show mono x.toNat j+fs r j=1
  unfold mono
  rcases List.mem_cons.mp hm with e|hmr
  ·rw[if_pos (by omega),gr hr λ hm=>by have:=hu1 _ hm; omega]; rfl
  ·have:=hu1 _ hmr
   rw[if_neg (by omega),qB hr hu2 hmr]; rfl
theorem nS {m:Int}{xs:List Int}(h:Up m xs)(j:Nat):co (bsum xs) j=fs xs j:=by
 have h0:∀ x∈xs,0<=x:=λ x hx=>(h.rg x hx).1
 by_cases ne:xs=[]
 ·subst ne; rw[kz,Pl.co_nil]; rfl
 have hb:bsum xs=(upto (xs.getLast ne+1).toNat).map λ i=>if i∈xs then 1 else 0:=by unfold bsum; rw[dif_neg ne]
 have hl:(bsum xs).length=(xs.getLast ne+1).toNat:=by rw[hb]; simp[upto]
 by_cases hj:j<(bsum xs).length
 ·rw[Pl.co_get hj]
  have e:(bsum xs)[j]=if (j:Int)∈xs then 1 else 0:=by
   simp only[hb,upto,List.getElem_map,List.getElem_range]
  rw[e]
  by_cases hm:(j:Int)∈xs
  ·rw[if_pos hm,qB h0 h.up hm]
  ·rw[if_neg hm,gr h0 hm]
 ·rw[Pl.co_over (by omega),gr h0 λ hm=>?_]
  have:=h.last ne _ hm
  omega
noncomputable def Ev (xs:List Int)(p m:Nat):Prop:=∀ r k:Nat,r<m->k<p->cnt xs ((p*m:Nat):Int) ((r+k*m:Nat):Int)=cnt xs ((p*m:Nat):Int) (r:Int)
theorem t9 {m p:Nat}(hm:0<m){M:Int}{xs:List Int}(h:Up M xs)(ho:Pl.Mo (comb m (p+1)))(hq:Dvd (comb m (p+1)) (co (xn1 (((p+1)*m:Nat):Int)))):Dvd (comb m (p+1)) (co (bsum xs)) ↔ Ev xs (p+1) m:=by
 generalize hqq:(p+1)*m=q at *
 have q0:0<q:=by rw[<- hqq,zw]; omega
 have qe:q=p*m+m:=by rw[<- hqq,zw]
 have hx:∀ j,co (xn1 (q:Int)) j=mono q j-mono 0 j:=by
  intro j
  have e:xn1 (q:Int)=-1::(List.replicate (q-1) 0++[1]):=by
   unfold xn1
   have:((q:Int)-1).toNat=q-1:=by omega
   rw[this]; rfl
  rw[e]
  cases j with
  | zero=>rw[Pl.co_zero]; simp[mono]; omega
  | succ j =>
   rw[Pl.co_succ,gz,jF,zA]
   unfold mono
   by_cases hj:j=q-1
   ·rw[if_pos hj,if_pos (by omega),if_neg (by omega)]; rfl
   ·rw[if_neg hj,if_neg (by omega),if_neg (by omega)]; rfl
 have hf:=kY q0 (bX hq hx) xs λ x hx=>(h.rg x hx).1
 let G:Nat->Int:=λ j=>cnt xs (q:Int) j
 let R:List Int:=Pl.upto (p*m) λ s=>G s-G (p*m+s%m)
 let gl:List Int:=Pl.upto m λ r=>G (p*m+r)
 have hgl:gl.length=m:=Pl.upto_len _ _
 have hRl:R.length=p*m:=Pl.upto_len _ _
 have h2:Dvd (comb m (p+1)) (λ j=>G j-co R j):=by
  refine⟨gl,λ j=>?_⟩
  show G j-co R j=_
  rw[Pl.cf_comm,nB hm hgl,hqq]
  by_cases hj:j<q
  ·rw[if_pos hj]
   have hjm:j%m<m:=Bb _ hm
   have e1:co gl (j%m)=G (p*m+j%m):=Pl.co_upto hjm
   rw[e1]
   by_cases hj2:j<p*m
   ·have e2:co R j=G j-G (p*m+j%m):=Pl.co_upto hj2
    rw[e2]; omega
   ·rw[Pl.co_over (by omega)]
    have e3:p*m+j%m=j:=by
     have:j=(j-p*m)+p*m:=by omega
     have h4:j%m=(j-p*m)%m:=by conv=>lhs; rw[this,AN]
     rw[h4,Ak (by omega)]; omega
    rw[e3]; omega
  ·rw[if_neg hj,Pl.co_over (by omega)]
   show cnt xs (q:Int) j-0=0
   rw[tu (by omega) (by omega)]; rfl
 obtain⟨Q,hQ⟩:=dvd_add hf h2
 have key:∀ j,co (bsum xs) j=cf Q (co (comb m (p+1))) j+co R j:=λ j=>by
  rw[<- hQ j,nS h]
  have:=pO (q:=(q:Int)) (by omega) xs j
  show _=(fs xs j-fs (xs.map (·%(q:Int))) j)+(cnt xs (q:Int) j-co R j)+co R j
  omega
 rw[gI ho (by rw[hRl,kF hm]; omega) key]
 unfold Ev
 rw[hqq]
 constructor
 ·intro hz
  have hall:∀ r k:Nat,r<m->k<p+1->cnt xs (q:Int) ((r+k*m:Nat):Int)=G (p*m+r):=by
   intro r k hr hk
   by_cases hkp:k=p
   ·subst hkp
    show G (r+k*m)=_
    rw[AY]
   ·have hlt:r+k*m<p*m:=by
     have:(k+1)*m<=p*m:=A8 m (by omega)
     rw[zw] at this; omega
    have e2:co R (r+k*m)=G (r+k*m)-G (p*m+(r+k*m)%m):=Pl.co_upto hlt
    rw[hz,AN,Ak hr] at e2
    show G (r+k*m)=_
    omega
  intro r k hr hk
  rw[hall r k hr hk]
  have:=hall r 0 hr (by omega)
  rw[Nat.zero_mul,BS] at this
  rw[this]
 ·intro he i
  by_cases hi:i<p*m
  ·have e2:co R i=G i-G (p*m+i%m):=Pl.co_upto hi
   have hmm:i%m<m:=Bb _ hm
   have hdm:i/m<p+1:=by
    have:i/m<p:=(AA hm).mpr hi
    omega
   have a1:=he (i%m) (i/m) hmm hdm
   have a2:=he (i%m) p hmm (by omega)
   have e3:i%m+i/m*m=i:=by rw[Ad]; exact BM i m
   have e4:i%m+p*m=p*m+i%m:=by omega
   rw[e3] at a1
   rw[e4] at a2
   rw[e2]
   show cnt xs (q:Int) i-cnt xs (q:Int) ((p*m+i%m:Nat):Int)=0
   omega
  ·exact Pl.co_over (by omega)
noncomputable def fw (p:Nat):Bool:=decide (2<=p)&&(List.range p).all λ j=>decide (j<2) || decide (p%j≠0)
theorem qm:((List.range 61).all λ p=>(List.range 6).all λ a=>!fw p || !decide (p ^ (a+1)<=60) || (comb (p ^ a) p == phi ((p ^ (a+1):Nat):Int)&&fmul (xn1 ((p ^ a:Nat):Int)) (phi ((p ^ (a+1):Nat):Int)) == xn1 ((p ^ (a+1):Nat):Int)))=true:=by decide +kernel
theorem vH {p a:Nat}(hp:fw p=true)(hq:p ^ (a+1)<=60){M:Int}{xs:List Int}(h:Up M xs):aS xs ((p ^ (a+1):Nat):Int)=true ↔ Ev xs p (p ^ a):=by
 have hp2:2<=p:=by unfold fw at hp; simp at hp; exact hp.1
 have p60:p<=60:=by
  have h1:p ^ 1<=p ^ (a+1):=A9 (by omega) (by omega)
  rw[Nat.pow_one] at h1; omega
 have a6:a<6:=by
  by_cases ha:a<6
  ·exact ha
  ·exfalso
   have h1:2 ^ (a+1)<=p ^ (a+1):=Nat.pow_le_pow_left hp2 _
   have h2:2 ^ 7<=2 ^ (a+1):=A9 (by omega) (by omega)
   omega
 have ht:=List.all_eq_true.mp (List.all_eq_true.mp qm p (List.mem_range.mpr (by omega))) a (List.mem_range.mpr a6)
 rw[hp,decide_eq_true hq] at ht
 simp only[zM,zm,yN,beq_iff_eq] at ht
 obtain⟨t1,t2⟩:=ht
 have q1:1<=p ^ (a+1):=AO (by omega)
 have m1:0<p ^ a:=AO (by omega)
 have ph:=eM (n:=((p ^ (a+1):Nat):Int)) (by omega) (by omega)
 rw[hasB_iff]
 obtain⟨p',rfl⟩:∃ p',p=p'+1:=⟨p-1,by omega⟩
 have hpm:(p'+1) ^ (a+1)=(p'+1)*(p'+1) ^ a:=by rw[A1,Ad]
 rw[<- t1]
 rw[<- t1] at ph t2
 refine t9 m1 h ph.1 ?_
 rw[<- hpm,<- t2]
 exact⟨_,λ i=>cK _ _ i⟩
theorem ua (x j:Nat):co (kN x) j=mono x j:=by
 unfold kN mono
 rw[gz,jF,zA]
theorem uX:∀ (xs:List Int) (j:Nat),co (fsL xs) j=fs xs j
 | [],j=>rfl
 | x::r,j=>by unfold fsL fs; rw[fg,ua,uX r j]
theorem lL {m:Int}{xs:List Int}(h:Up m xs)(g:Int->Int)(s:Int):act (bsum xs) g s=T xs g s:=by
 rw[eY g _ (fsL xs) s λ i=>by rw[nS h,uX],so g xs s λ x hx=>(h.rg x hx).1]
noncomputable def Psi (d:Int):List Int:=fprod phi (divs d).dropLast
theorem oQ:((List.range 61).all λ k=>decide (k<2) || (fmul (phi k) (Psi k) == xn1 k&&(Psi k == fmul [-1,1] (fprod phi ((divs k).dropLast.drop 1))&&(decide (Psi k≠[])&&decide (co (Psi k) ((Psi k).length-1)=1)))))=true:=by decide +kernel
theorem ko {d:Int}(h1:2<=d)(h2:d<=60):fmul (phi d) (Psi d)=xn1 d/\Psi d=fmul [-1,1] (fprod phi ((divs d).dropLast.drop 1))/\Pl.Mo (Psi d):=by
 have:=List.all_eq_true.mp oQ d.toNat (List.mem_range.mpr (by omega))
 have e:((d.toNat:Nat):Int)=d:=by omega
 rw[decide_eq_false (by omega),zm,e,yN,yN,yN,decide_eq_true_eq,decide_eq_true_eq,beq_iff_eq,beq_iff_eq] at this
 exact⟨this.1,this.2.1,this.2.2.1,this.2.2.2⟩
noncomputable def psi (d:Int):Int->Int:=act (Psi d) (dl d)
theorem mU {d:Int}(h1:2<=d)(h2:d<=60)(s:Int):act (phi d) (psi d) s=0:=by
 unfold psi
 rw[<- bx,(ko h1 h2).1,gq (by omega),dl_per]; omega
theorem sd {d m:Int}(h1:2<=d)(h2:d<=60){A:List Int}(hA:Up m A)(h:aS A d=true)(s:Int):T A (psi d) s=0:=by
 obtain⟨q,hq⟩:=hasB_iff.mp h
 rw[<- lL hA,eY _ _ (fmul q (phi d)) s λ i=>by rw[hq,cK],bx]
 exact cV _ _ (mU h1 h2) s
theorem sV {d m:Int}(h1:2<=d)(h2:d<=60)(hm:m<=200){A:List Int}(hA:Up m A)(h:∀ s,T A (psi d) s=0):aS A d=true:=by
 obtain⟨po,pf,pl,pr⟩:=eM (n:=d) (by omega) h2
 obtain⟨t1,t2,t3⟩:=ko h1 h2
 obtain⟨q,r,_,_,_,hr,hq⟩:=cA (a:=bsum A) po pf (by have:=lu hA hm; omega) (by omega)
 rw[hasB_iff,gI po hr hq]
 have hz:∀ s,act (fmul r (Psi d)) (dl d) s=0:=λ s=>by
  have h3:act (bsum A) (psi d) s=0:=by rw[lL hA]; exact h s
  rw[eY _ _ (cH (fmul q (phi d)) r) s λ i=>by rw[hq,fg,cK],gA,bx,cV _ _ (mU h1 h2)] at h3
  rw[bx]
  show act r (psi d) s=0
  omega
 by_cases hr0:r=[]
 ·subst hr0; exact λ i=>Pl.co_nil i
 have hl:((fmul r (Psi d)).length:Int)<=d:=by
  have l1:=fC r (Psi d) hr0 t3.ne
  have l2:=fC (phi d) (Psi d) po.ne t3.ne
  have l3:(xn1 d).length=(d+1).toNat:=by unfold xn1; simp; omega
  have l4:0<(phi d).length:=List.length_pos_iff.mpr po.ne
  have l5:0<(Psi d).length:=List.length_pos_iff.mpr t3.ne
  rw[t1,l3] at l2
  omega
 refine Pl.mo_few t3 λ p _=>?_
 rw[<- cK]
 by_cases hp:(p:Int)<d
 ·have:=sZ (d:=d) (by omega) (fmul r (Psi d)) (p:Int) hp (by omega)
  rw[hz,if_pos (by omega),zo] at this
  exact this.symm
 ·exact Pl.co_over (by omega)
noncomputable def us (d:Nat):List Nat:=(List.range d).filter λ k=>Nat.gcd k d == 1
noncomputable def w8:List Int->List Int->Int->List Int
 | a::as,o::os,c=>(a-c*o)::w8 as os c
 | as,_,_=>as
noncomputable def xl (o:List Int):Nat->List Int->List Int
 | 0,_=>[]
 | _,[]=>[]
 | n+1,c::as=>c::xl o n ((w8 (c::as) o c).drop 1)
noncomputable def quo (o a:List Int):List Int:=(xl o.reverse (a.length+1-o.length) a.reverse).reverse
theorem xD (xs:List Int)(lo hi:Option Int):Dv.cutL (xs.map D.int) lo hi=(Dv.cutL xs lo hi).map D.int:=by
 unfold Dv.cutL; rw[yP,Be,Bf]
theorem jZ (xs:List Int)(f:Bool)(lo hi:Option Int):Dv.sliceD (L xs) f lo hi=.ok (L (Dv.cutL xs lo hi)) true:=by
 unfold Dv.sliceD; simp only[xD,bh,zc]
theorem rF {xs:List Int}{k:Int}(h:0<=k)(h2:k<=xs.length):Dv.cutL xs none (some k)=xs.take k.toNat:=by
 unfold Dv.cutL Dv.cutI; simp only[AH,A0,if_neg (show ¬ k<0 by omega)]; congr 1; omega
theorem rk {xs:List Int}{k:Int}(h:0<=k)(h2:k<=xs.length):Dv.cutL xs (some k) none=xs.drop k.toNat:=by
 unfold Dv.cutL Dv.cutI
 simp only[if_neg (show ¬ k<0 by omega)]
 rw[show min k.toNat xs.length=k.toNat by omega]
 exact zV (by rw[zG]; omega)
theorem sB {n c:Int}{xs:List Int}(h:Beat n xs)(hn:n<=60):∃ ys f,F_Q0N [.int n,L xs,.int c]=.ok (L ys) f/\Beat n ys:=by
 have hp:=h.pos
 have hl:=h.len
 have hl1:=h.len1
 have hat:=aN (n:=(xs.length:Int)) (a:=c) (by omega)
 generalize hk:c%(xs.length:Int)=k at hat
 have hkn:k.toNat<xs.length:=by omega
 have hrest:opD .add (L (Dv.cutL xs none (some k))) (L (Dv.cutL xs (some (k+1)) none))=.ok (L (xs.eraseIdx k.toNat)) true:=by
  rw[rF hat.1 (by omega),rk (by omega) (by omega),dC (by rw[zE,zG]; omega)]
  rw[List.eraseIdx_eq_take_drop_succ,show (k+1).toNat=k.toNat+1 by omega]
 have hsub:∀ x∈xs.eraseIdx k.toNat,x∈xs:=λ x hx=>List.mem_of_mem_eraseIdx hx
 by_cases hin:(xs.getD k.toNat 0+1)%n∈xs.eraseIdx k.toNat
 ·refine⟨xs,false,?_,h⟩
  simp only[F_Q0N,b_Q0N,b_Q0N_t4,b_Q0N_t3,b_Q0N_t2,b_Q0N_t1,Dv.fn,sCons,sSet,aw,bo,sIf,sRetO,eB1,Dv.lenD,eIx,Dv.ixD,eCm,eOp,eVar,eInt,eSlice,ePart,Dv.all,R.bind,RL.bind,Out.bind,aJ,am,aB,af,ak,yH,yI,yJ,yT,List.replicate,yO,yS,yF,yG,yL,yK,zc,Nat.reduceAdd,Nat.reduceSub,aP,nD,yP,ap (i:=c) (show (0:Int)<(xs.length:Int) by omega),hk,jZ,hrest,kM hat.1 hat.2,ap (show (0:Int)<n by omega),decide_eq_true hin]
 ·refine⟨Dv.isort (xs.eraseIdx k.toNat++[(xs.getD k.toNat 0+1)%n]),true,?_,?_⟩
  ·have h1:(xs.eraseIdx k.toNat).length<=60:=by rw[List.length_eraseIdx]; split <;>omega
   have hc:=dC (a:=xs.eraseIdx k.toNat) (b:=[(xs.getD k.toNat 0+1)%n]) (by simp; omega)
   have hso:=fu (xs:=xs.eraseIdx k.toNat++[(xs.getD k.toNat 0+1)%n]) (by simp; omega) true
   simp only[L,yH,yI] at hc hso
   simp only[F_Q0N,b_Q0N,b_Q0N_t4,b_Q0N_t3,b_Q0N_t2,b_Q0N_t1,Dv.fn,sCons,sNil,sSet,aw,bo,sIf,sRet,eB1,Dv.lenD,eIx,Dv.ixD,eCm,eOp,eVar,eInt,eLst,lNil,lCons,eSlice,ePart,Dv.all,R.bind,RL.bind,Dv.R.bindL,Dv.RL.bindL,Out.bind,aJ,am,aB,af,ak,yH,yI,yJ,yT,List.replicate,yO,yS,yF,yG,yL,yK,zc,yQ,Nat.reduceAdd,Nat.reduceSub,aP,nD,yP,ap (i:=c) (show (0:Int)<(xs.length:Int) by omega),hk,jZ,hrest,kM hat.1 hat.2,ap (show (0:Int)<n by omega),decide_eq_false hin,hc,hso]
  ·refine dX (by simp) ?_ λ x hx=>?_
   ·refine List.nodup_append.mpr ⟨(List.eraseIdx_sublist _ _).nodup h.nd,by simp,λ a ha b hb e=>?_⟩
    rw[Ao] at hb
    subst hb e
    exact hin ha
   ·rcases List.mem_append.mp hx with hx|hx
    ·exact h.rg x (hsub x hx)
    ·rw[Ao] at hx; subst hx; exact aN (by omega)
structure Fu (n:Int)(a b:List Int):Prop where
 nd:b.Nodup
 rg:∀ x∈b,0<=x/\x<n
 fl:Fill n a (Dv.isort b)
section
variable {n num step:Int}{a b steps:List Int}
end
section
variable {s:List Int}{k0 n t:Int}{a b:List Int}{sa sb z5 z6 z8:Sl}
end
noncomputable def ct (A:List Int)(q r:Int):Int:=((A.filter λ x=>decide ((x-r)%q=0)).length:Nat)
theorem gB (x:Int)(A:List Int)(q r:Int):ct (x::A) q r=(if (x-r)%q=0 then 1 else 0)+ct A q r:=by
 unfold ct
 rw[zC]
 by_cases h:(x-r)%q=0
 ·rw[if_pos (by simp[h]),if_pos h,yJ]; omega
 ·rw[if_neg (by simp[h]),if_neg h]; omega
theorem sD {f:Int->Int}{q r q' r':Int}:∀ {A:List Int},(∀ x∈A,(f x-r)%q=0 ↔ (x-r')%q'=0)->ct (A.map f) q r=ct A q' r'
 | [],_=>rfl
 | x::A,h=>by
  rw[yH,gB,gB,sD λ y hy=>h y (yM _ hy)]
  have:=h x (yR ..)
  by_cases hx:(x-r')%q'=0
  ·rw[if_pos hx,if_pos (this.mpr hx)]
  ·rw[if_neg hx,if_neg λ hh=>hx (this.mp hh)]
theorem rS {q r r':Int}(A:List Int)(h:q ∣ r-r'):ct A q r=ct A q r':=by
 have:=sD (f:=λ x=>x) (q:=q) (r:=r) (q':=q) (r':=r') (A:=A) λ x hx=>by
  obtain⟨k,hk⟩:=h
  constructor
  ·intro h1
   obtain⟨l,hl⟩:=zd h1
   exact zr ⟨l+k,by grind⟩
  ·intro h1
   obtain⟨l,hl⟩:=zd h1
   exact zr ⟨l-k,by grind⟩
 rw[Ag] at this
 exact this
theorem im {q r:Int}(hq:0<q)(h0:0<=r)(h1:r<q)(A:List Int):cnt A q r=ct A q r:=by
 unfold cnt ct
 refine congrArg (λ l:List Int=>((l.length:Nat):Int)) (List.filter_congr λ x _=>?_)
 have:x%q=r ↔ (x-r)%q=0:=by
  constructor
  ·intro h
   exact zr ⟨x/q,by have:=zu x q; omega⟩
  ·intro h
   obtain⟨k,hk⟩:=zd h
   have:x=r+q*k:=by omega
   rw[this,AQ,AU h0 h1]
 exact decide_eq_decide.mpr this
noncomputable def Inv (A:List Int)(q m:Int):Prop:=∀ r,ct A q (r+m)=ct A q r
theorem Inv.times {A:List Int}{q m:Int}(h:Inv A q m)(r:Int):∀ k:Nat,ct A q (r+k*m)=ct A q r
 | 0=>by congr 1; omega
 | k+1=>by
  rw[<- h.times r k,<- h (r+k*m)]
  congr 1; grind
theorem vq {A:List Int}{p m:Nat}(hm:0<m)(hp:0<p):Ev A p m ↔ Inv A ((p*m:Nat):Int) (m:Int):=by
 have q0:0<p*m:=Nat.mul_pos hp hm
 constructor
 ·intro h r
  have r0:=AD r (b:=((p*m:Nat):Int)) (by omega)
  have r1:=Aq r (b:=((p*m:Nat):Int)) (by omega)
  obtain⟨s,hs⟩:∃ s:Nat,r%((p*m:Nat):Int)=s:=⟨(r%((p*m:Nat):Int)).toNat,by omega⟩
  have hsq:s<p*m:=by omega
  have key:=zu r ((p*m:Nat):Int)
  have a1:ct A ((p*m:Nat):Int) r=ct A ((p*m:Nat):Int) s:=rS A ⟨r/((p*m:Nat):Int),by omega⟩
  have a2:ct A ((p*m:Nat):Int) (r+m)=ct A ((p*m:Nat):Int) (s+m):=rS A ⟨r/((p*m:Nat):Int),by omega⟩
  have hmod:s%m<m:=Bb _ hm
  have hdiv:s/m<p:=(AA hm).mpr hsq
  have e3:s%m+s/m*m=s:=by rw[Ad]; exact BM s m
  have b1:=h (s%m) (s/m) hmod hdiv
  rw[e3] at b1
  rw[im (by omega) (by omega) (by omega)] at b1
  rw[a1,a2,b1]
  by_cases hl:s+m<p*m
  ·have hdiv2:s/m+1<p:=by
    have:(s+m)/m<p:=(AA hm).mpr hl
    rw[Bs _ hm] at this; omega
   have b2:=h (s%m) (s/m+1) hmod hdiv2
   have e4:s%m+(s/m+1)*m=s+m:=by rw[zw]; omega
   rw[e4,im (by omega) (by omega) (by omega)] at b2
   have e5:((s+m:Nat):Int)=(s:Int)+m:=by omega
   rw[e5] at b2
   exact b2
  ·have e6:s+m=p*m+s%m:=by
    have hd:s/m=p-1:=by
     have:p*m<=s+m:=by omega
     have h5:p<=(s+m)/m:=(Nat.le_div_iff_mul_le hm).mpr this
     rw[Bs _ hm] at h5; omega
    have h6:(p-1)*m+m=p*m:=by
     obtain⟨p',rfl⟩:∃ p',p=p'+1:=⟨p-1,by omega⟩
     rw[zw]; rfl
    rw[hd] at e3; omega
   have b3:ct A ((p*m:Nat):Int) (s+m)=ct A ((p*m:Nat):Int) ((s%m:Nat):Int):=rS A ⟨1,by omega⟩
   have hmq:m<=p*m:=A4 m hp
   rw[b3,im (by omega) (by omega) (by omega)]
 ·intro h r k hr hk
  have hlt:r+k*m<p*m:=by
   have:(k+1)*m<=p*m:=A8 m (by omega)
   rw[zw] at this; omega
  have hmq:m<=p*m:=A4 m hp
  rw[im (by omega) (by omega) (by omega),im (by omega) (by omega) (by omega),<- h.times r k]
  congr 1
noncomputable def sm (g:Nat->Int):Nat->Int
 | 0=>0
 | t+1=>sm g t+g t
theorem dB {g h:Nat->Int}:∀ (t:Nat),(∀ i,i<t->g i=h i)->sm g t=sm h t
 | 0,_=>rfl
 | t+1,e=>by unfold sm; rw[dB t λ i hi=>e i (by omega),e t (by omega)]
structure Pp (p a:Nat):Prop where
 nd:fw p=true
 le:p ^ (a+1)<=60
theorem Pp.two {p a:Nat}(h:Pp p a):2<=p:=by have:=h.nd; unfold fw at this; simp at this; exact this.1
theorem Pp.pos {p a:Nat}(h:Pp p a)(b:Nat):0<p ^ b:=AO (by have:=h.two; omega)
theorem tf (g h:Nat->Int):∀ t,sm (λ i=>g i+h i) t=sm g t+sm h t
 | 0=>rfl
 | t+1=>by unfold sm; rw[tf g h t]; omega
theorem jE:∀ t,sm (λ _=>0) t=0
 | 0=>rfl
 | t+1=>by unfold sm; rw[jE t]; rfl
theorem rH (k:Nat):∀ t,sm (λ i=>if i=k then 1 else 0) t=if k<t then 1 else 0
 | 0=>rfl
 | t+1=>by
  unfold sm
  rw[rH k t]
  by_cases h:t=k
  ·rw[if_pos h,if_neg (by omega),if_pos (by omega)]; rfl
  ·rw[if_neg h]
   by_cases h2:k<t
   ·rw[if_pos h2,if_pos (by omega)]; rfl
   ·rw[if_neg h2,if_neg (by omega)]; rfl
theorem lf (c:Int):∀ t:Nat,sm (λ _=>c) t=t*c
 | 0=>by simp[sm]
 | t+1=>by unfold sm; rw[lf c t]; grind
theorem sI {d:Int}{g:Nat->Int}(h:∀ i,d ∣ g i):∀ t,d ∣ sm g t
 | 0=>Int.dvd_zero d
 | t+1=>Int.dvd_add (sI h t) (h t)
theorem kR {p q:Nat}(p0:0<p)(q0:0<q)(r:Int):∀ A:List Int,ct A (q:Int) r=sm (λ k=>ct A ((p:Int)*(q:Int)) (r+k*q)) p
 | []=>by show (0:Int)=_; rw[<- jE p]; rfl
 | x::A=>by
  have e:sm (λ k=>ct (x::A) ((p:Int)*q) (r+k*q)) p=sm (λ k=>(if (x-(r+k*q))%((p:Int)*q)=0 then 1 else 0)+ct A ((p:Int)*q) (r+k*q)) p:=dB p λ i _=>gB ..
  rw[e,gB,tf,kR p0 q0 r A]
  congr 1
  by_cases h:(x-r)%(q:Int)=0
  ·rw[if_pos h]
   obtain⟨y,hy⟩:=zd h
   have h0:=AD y (b:=(p:Int)) (by omega)
   have h1:=Aq y (b:=(p:Int)) (by omega)
   have h2:=zu y (p:Int)
   obtain⟨k,hk⟩:∃ k:Nat,y%(p:Int)=k:=⟨(y%(p:Int)).toNat,by omega⟩
   have e2:sm (λ i:Nat=>if (x-(r+i*q))%((p:Int)*q)=0 then (1:Int) else 0) p=sm (λ i=>if i=k then 1 else 0) p:=dB p λ i hi=>by
    by_cases hik:i=k
    ·rw[if_pos hik,if_pos]
     exact zr ⟨y/p,by subst hik; grind⟩
    ·rw[if_neg hik,if_neg]
     intro hc
     obtain⟨z,hz⟩:=zd hc
     apply hik
     have h5:(q:Int)*(y-i)=(q:Int)*(p*z):=by grind
     have h6:y-i=p*z:=Int.eq_of_mul_eq_mul_left (by omega) h5
     have h7:y=i+p*z:=by omega
     have h8:y%(p:Int)=i:=by rw[h7,AQ,AU (by omega) (by omega)]
     omega
   rw[e2,rH,if_pos (by omega)]
  ·rw[if_neg h]
   have e2:sm (λ i:Nat=>if (x-(r+i*q))%((p:Int)*q)=0 then (1:Int) else 0) p=sm (λ _=>0) p:=dB p λ i hi=>by
    rw[if_neg]
    intro hc
    obtain⟨z,hz⟩:=zd hc
    exact h (zr ⟨p*z+i,by grind⟩)
   rw[e2,jE]
noncomputable def kkF (g:Nat->Bool)(p:Nat):Nat->Nat->Nat
 | _,0=>0
 | j,i+1=>(if g (p ^ (j+1))=true then 1 else 0)+kkF g p (j+1) i
theorem lev {p:Nat}(p0:0<p){A:List Int}{g:Nat->Bool}(hg:∀ j,g (p ^ (j+1))=true->Inv A ((p ^ (j+1):Nat):Int) ((p ^ j:Nat):Int)):∀ (i j:Nat) (r:Int),((p ^ kkF g p j i:Nat):Int) ∣ ct A ((p ^ j:Nat):Int) r
 | 0,j,r=>by unfold kkF; rw[BU]; exact Int.one_dvd _
 | i+1,j,r=>by
  have ih:=lev p0 hg i (j+1)
  have e:((p ^ (j+1):Nat):Int)=(p:Int)*((p ^ j:Nat):Int):=by rw[A1,Ad,AE]
  rw[kR p0 (AO p0) r A,<- e]
  unfold kkF
  by_cases h:g (p ^ (j+1))=true
  ·rw[if_pos h]
   have hi:=hg j h
   have e2:sm (λ k=>ct A ((p ^ (j+1):Nat):Int) (r+k*((p ^ j:Nat):Int))) p=sm (λ _=>ct A ((p ^ (j+1):Nat):Int) r) p:=dB p λ k _=>hi.times r k
   rw[e2,lf,AY,A1,Ad,AE]
   exact Int.mul_dvd_mul_left _ (ih r)
  ·rw[if_neg h,Bo]
   exact sI (λ k=>ih _) p
theorem vK (A:List Int)(r:Int):ct A 1 r=(A.length:Int):=by
 unfold ct
 rw[List.filter_eq_self.mpr λ x _=>by simp[BT]]
noncomputable def lpf (d:Nat):Nat:=((List.range 61).find? λ p=>decide (2<=p)&&decide (d%p=0)).getD 0
noncomputable def ee (d:Nat):Bool:=decide (2<=d)&&(List.range 6).any λ a=>decide (lpf d ^ (a+1)=d)
noncomputable def ppw (n:Nat):List Nat:=(List.range (n+1)).filter λ d=>decide (2<=d)&&(decide (n%d=0)&&ee d)
noncomputable def bW:List Nat->Nat
 | []=>1
 | x::r=>x*bW r
noncomputable def subs:List Nat->List (List Nat)
 | []=>[[]]
 | x::r=>subs r++(subs r).map (x::·)
theorem fz {g:Nat->Bool}:∀ l:List Nat,l.filter g∈subs l
 | []=>by simp[subs]
 | x::r=>by
  unfold subs
  rw[zC]
  split
  ·exact List.mem_append.mpr (.inr (List.mem_map.mpr ⟨_,fz r,rfl⟩))
  ·exact List.mem_append.mpr (.inl (fz r))
theorem pz:((List.range 61).all λ n=>(subs (ppw n)).all λ S=>bW (S.map lpf) == (S.map λ q=>lpf q ^ kkF (λ x=>S.contains x) (lpf q) 0 5).foldr Nat.lcm 1)=true:=by decide +kernel
theorem pE:((List.range 61).all λ n=>decide (n=0) || (bW ((ppw n).map lpf) == n&&((bp (n:Int)).filter (λ d=>ee d.toNat) == (ppw n).map (λ (i:Nat)=>(i:Int)))))=true:=by decide +kernel
theorem pC:((List.range 61).all λ d=>decide (d<2) || (fw (lpf d)&&(decide (d%lpf d=0)&&(List.range (lpf d)).all λ j=>decide (j<2) || decide (d%j≠0))))=true:=by decide +kernel
theorem rD {d:Nat}(h2:2<=d)(h:d<=60):fw (lpf d)=true/\d%lpf d=0/\∀ j,2<=j->j<lpf d->d%j≠0:=by
 have:=List.all_eq_true.mp pC d (List.mem_range.mpr (by omega))
 rw[decide_eq_false (by omega),zm,yN,yN,decide_eq_true_eq] at this
 refine⟨this.1,this.2.1,λ j j2 jl=>?_⟩
 have h3:=List.all_eq_true.mp this.2.2 j (List.mem_range.mpr jl)
 rw[decide_eq_false (by omega),zm,decide_eq_true_eq] at h3
 exact h3
theorem nO {n d:Nat}(h:d∈ppw n):2<=d/\d<=n/\n%d=0/\ee d=true:=by
 unfold ppw at h
 obtain⟨h1,h2⟩:=List.mem_filter.mp h
 have:=List.mem_range.mp h1
 simp only[yN,decide_eq_true_eq] at h2
 exact⟨h2.1,by omega,h2.2⟩
theorem jb {p:Nat}(h:fw p=true):2<=p:=by unfold fw at h; simp at h; exact h.1
theorem f8 {N:Nat}:∀ {l:List Nat},(∀ x∈l,x ∣ N)->l.foldr Nat.lcm 1 ∣ N
 | [],_=>Nat.one_dvd N
 | x::r,h=>Nat.lcm_dvd (h x (yR ..)) (f8 λ y hy=>h y (yM _ hy))
theorem sX {n:Nat}(hn:n<=60){M:Int}{A:List Int}(hA:Up M A):bW (((ppw n).filter λ (q:Nat)=>aS A (q:Int)).map lpf) ∣ A.length:=by
 have ht:=List.all_eq_true.mp (List.all_eq_true.mp pz n (List.mem_range.mpr (by omega))) _ (fz (g:=λ (q:Nat)=>aS A (q:Int)) (ppw n))
 rw[eq_of_beq ht]
 refine f8 λ x hx=>?_
 obtain⟨q,hq,rfl⟩:=List.mem_map.mp hx
 obtain⟨hq1,hq2⟩:=List.mem_filter.mp hq
 obtain⟨q2,qn,_,qp⟩:=nO hq1
 have hl:=rD q2 (by omega)
 have p2:=jb hl.1
 have key:=lev (p:=lpf q) (by omega) (A:=A) (g:=λ x=>((ppw n).filter λ (q:Nat)=>aS A (q:Int)).contains x) (λ j hj=>by
  have hj:=List.contains_iff_mem.mp hj
  obtain⟨h1,h2⟩:=List.mem_filter.mp hj
  obtain⟨_,h4,_,_⟩:=nO h1
  have h5:=(vH hl.1 (by omega) hA).mp h2
  have h6:=(vq (A:=A) (AO (by omega)) (by omega)).mp h5
  rw[<- Ad,<- A1] at h6
  exact h6) 5 0 0
 rw[BU] at key
 have h1:((1:Nat):Int)=1:=rfl
 rw[h1,vK] at key
 exact Int.natCast_dvd_natCast.mp key
noncomputable def hV (n:Int):List Int:=(List.range (n-1).toNat).map λ (i:Nat)=>2+(i:Int)
theorem ik {n:Int}(h:1<=n):Dv.rangeL 2 (n+1-2).toNat=(hV n).map .int:=by
 rw[dZ]; unfold hV
 have:(n+1-2).toNat=(n-1).toNat:=by omega
 rw[this]
theorem fN {i j:Int}(h:0<=i)(h2:i<=1000):opD .mul (.int i) (.int j)=.ok (.int (i*j)) true :=
 aZ (by unfold Dv.mulOk; rw[decide_eq_true (zK (km (k:=10) (by omega) (by omega) (by omega)) (by omega)),Bl,Bl])
noncomputable def had (n:Int)(xs:List Int):List Int:=(bp n).filter λ d=>aS xs d
theorem fq {n d:Int}(h:d∈hV n):2<=d/\d<=n:=by
 unfold hV at h
 obtain⟨i,hi,rfl⟩:=List.mem_map.mp h
 have:=List.mem_range.mp hi
 omega
noncomputable def ppI (n:Int):List Int:=(bp n).filter λ d=>ee d.toNat
theorem oR:((List.range 61).all λ k=>decide (k<2) || (decide (co (divs (k:Int)) 1=(lpf k:Int))&&(decide (1<(divs (k:Int)).length)&&(((bp (k:Int)).all λ x=>decide (x%(lpf k:Int)=0)) == ee k))))=true:=by decide +kernel
theorem m8 {d:Int}(h2:2<=d)(h:d<=60):co (divs d) 1=(lpf d.toNat:Int)/\1<(divs d).length/\((bp d).all λ x=>decide (x%(lpf d.toNat:Int)=0))=ee d.toNat:=by
 have:=List.all_eq_true.mp oR d.toNat (List.mem_range.mpr (by omega))
 have e:((d.toNat:Nat):Int)=d:=by omega
 rw[decide_eq_false (by omega),zm,e,yN,yN,decide_eq_true_eq,decide_eq_true_eq,beq_iff_eq] at this
 exact this
theorem fP {d:Int}(h2:2<=d)(h:d<=60):2<=(lpf d.toNat:Int)/\(lpf d.toNat:Int)<=d/\d%(lpf d.toNat:Int)=0:=by
 obtain⟨h1,h3,_⟩:=rD (d:=d.toNat) (by omega) (by omega)
 have h4:=jb h1
 have h5:=Nat.le_of_dvd (by omega) (A5 h3)
 refine⟨by omega,by omega,?_⟩
 have e:((d.toNat:Nat):Int)=d:=by omega
 have h6:((lpf d.toNat:Nat):Int) ∣ ((d.toNat:Nat):Int):=Int.natCast_dvd_natCast.mpr (A5 h3)
 rw[e] at h6
 exact zr h6
theorem fY {d:Int}(h2:2<=d)(h:d<=60):F_Q14 [.int d]=.ok (.int (lpf d.toNat)) true:=by
 obtain⟨t1,t2,_⟩:=m8 h2 h
 have hat:=kH (s:=divs d) (k:=1) (by omega) (by omega)
 have e1:(1:Int).toNat=1:=rfl
 rw[e1,t1] at hat
 simp only[F_Q14,b_Q14,Dv.fn,sRet,eIx,Dv.ixD,eVar,eInt,lNil,lCons,eCall,Dv.all,R.bind,RL.bind,Dv.R.bindL,Dv.RL.bindL,Out.bind,am,af,yH,yI,yJ,yT,List.replicate,yO,yS,yF,zc,yQ,Nat.reduceAdd,Nat.reduceSub,bO (show 1<=d by omega) h,hat]
theorem jy (f:Int->Bool):∀ xs:List Int,Dv.blsOf (xs.map λ x=>D.bl (f x))=some (xs.map f)
 | []=>rfl
 | x::r=>by rw[yH,yH]; show (Dv.blsOf (r.map _)).map (f x::·)=_; rw[jy f r]; rfl
theorem jQ {d:Int}(h2:2<=d)(h:d<=60):F_Q07 [.int d]=.ok (.bl (ee d.toNat)) true:=by
 obtain⟨_,_,t3⟩:=m8 h2 h
 have hp:=fP h2 h
 have hc:c_Q07_1 [some (.int d),some (.int (lpf d.toNat))]=.ok (.lst ((bp d).map λ x=>D.bl (decide (x%(lpf d.toNat:Int)=0)))) true:=by
  unfold c_Q07_1 eComp
  have hl:=cT h
  have hle:(bp d).length<=Dv.mx:=by unfold Dv.mx; omega
  have hg:=eN (elt:=(eCm .eq (eOp .mod (eVar 0) (eVar 1)) (eInt 0))) (free:=[some (.int (lpf d.toNat))]) (g:=λ x=>D.bl (decide (x%(lpf d.toNat:Int)=0))) (xs:=bp d) (λ x hx=>by
   simp only[eCm,eOp,eVar,eInt,R.bind,RL.bind,Out.bind,af,yF,yG,aX,ap (show (0:Int)<(lpf d.toNat:Int) by omega)])
  simp only[iSeq,eVar,eInt,lNil,lCons,eCall,Dv.pick,eSlice,ePart,R.bind,RL.bind,Dv.R.bindL,Dv.RL.bindL,Out.bind,af,yH,yI,yF,yG,yU,zc,yQ,bh,yP,bO (show 1<=d by omega) h,Dv.sliceD,mw,if_pos hle,hg]
 have hall:∀ f,Dv.allD (.lst ((bp d).map λ x=>D.bl (decide (x%(lpf d.toNat:Int)=0)))) f=.ok (.bl (ee d.toNat)) true:=λ f=>by
  unfold Dv.allD
  simp only[jy,BV]
  rw[<- t3]; rfl
 simp only[F_Q07,b_Q07,b_Q07_t1,Dv.fn,sCons,sSet,aw,sRet,eB1,eVar,lNil,lCons,eCall,Dv.all,R.bind,RL.bind,Dv.R.bindL,Dv.RL.bindL,Out.bind,aJ,am,af,yH,yI,yJ,yT,List.replicate,yO,yS,yF,yL,yK,yQ,Nat.reduceAdd,Nat.reduceSub,fY h2 h,hc,hall]
theorem du {n:Int}(h1:1<=n)(h:n<=60):F_Q15 [.int n]=.ok (L (ppI n)) true:=by
 have hc:c_Q15_1 [some (.int n)]=.ok (L (ppI n)) true:=by
  have:=c5 (elt:=eVar 0) (cond:=(eCall F_Q07 (lCons (eVar 0) lNil))) (is:=[]) (it:=(iSeq (eSlice (eCall F_Q05 (lCons (eVar 0) lNil)) (some (eInt 1)) none))) (ρ:=[some (.int n)]) (c:=λ d=>ee d.toNat) (g:=λ d=>d) (xs:=bp n) (f:=true)
   (by simp only[iSeq,eVar,eInt,lNil,lCons,eCall,eSlice,ePart,R.bind,RL.bind,Dv.R.bindL,Dv.RL.bindL,Out.bind,af,yF,zc,yQ,bh,bO h1 h,Dv.sliceD,mw]) (by have:=cT h; omega) (λ d hd=>by
    have hd:=(cW h1).mp hd
    simp only[eVar,lNil,lCons,eCall,Dv.pick,R.bind,RL.bind,Dv.R.bindL,Dv.RL.bindL,Out.bind,af,yI,yF,yQ,jQ (show 2<=d by omega) (show d<=60 by omega)]) (λ d hd _=>by simp only[eVar,Dv.pick,af,yI,yF])
  simp only[Ag] at this
  exact this
 have hw:F_Q04 [.int n]=.ok .non true:=by rw[bR,if_pos ⟨h1,h⟩]
 simp only[F_Q15,b_Q15,b_Q15_t1,Dv.fn,sCons,sRet,sExpr,eVar,lNil,lCons,eCall,Dv.all,R.bind,RL.bind,Dv.R.bindL,Dv.RL.bindL,Out.bind,am,af,yH,yI,yJ,yT,List.replicate,yO,yS,yF,yQ,Nat.reduceAdd,Nat.reduceSub,hw,hc]
theorem cP {n:Int}{xs:List Int}(n2:n<=60)(h:Beat n xs):F_Q13 [.int n,L xs]=.ok (L ((ppI n).filter λ d=>aS xs d)) true:=by
 have n1:=h.pos
 have hc:c_Q13_1 [some (.int n),some (L xs),some (L ((bp n).filter λ d=>aS xs d))]=.ok (L ((ppI n).filter λ d=>aS xs d)) true:=by
  have:=c5 (elt:=eVar 0) (cond:=(eCm .isin (eVar 0) (eVar 1))) (is:=[2]) (it:=(iSeq (eCall F_Q15 (lCons (eVar 0) lNil)))) (ρ:=[some (.int n),some (L xs),some (L ((bp n).filter λ d=>aS xs d))]) (c:=λ d=>aS xs d) (g:=λ d=>d) (xs:=ppI n) (f:=true)
   (by simp only[iSeq,eVar,lNil,lCons,eCall,R.bind,RL.bind,Dv.R.bindL,Dv.RL.bindL,Out.bind,af,yF,yQ,du n1 n2]) (by have:=zI (λ d:Int=>ee d.toNat) (bp n); have:=cT n2; unfold ppI; omega) (λ d hd=>by
    have hd1:d∈bp n:=(List.mem_filter.mp hd).1
    simp only[eCm,eVar,Dv.pick,R.bind,RL.bind,Out.bind,af,ak,yH,yI,yF,yG,yU,nD,mS hd1]) (λ d hd _=>by simp only[eVar,Dv.pick,af,yH,yI,yF,yG,yU])
  simp only[Ag] at this
  exact this
 simp only[F_Q13,b_Q13,b_Q13_t1,Dv.fn,sCons,sSet,bo,sRet,eVar,lNil,lCons,eCall,Dv.all,R.bind,RL.bind,Dv.R.bindL,Dv.RL.bindL,Out.bind,aJ,am,aB,af,ak,yH,yI,yJ,yT,List.replicate,yO,yS,yF,yG,yL,yK,yQ,yZ,Nat.reduceAdd,Nat.reduceSub,sk n2 h,hc]
theorem gK {n:Int}{A:D}:∀ (ds:List Int) (x:Int) (z:Sl),(∀ d∈ds,2<=d/\d<=60) ->
  ∃ z',forGo 3 b_Q06_l1 (ds.map .int) [.sh (.int n),.sh A,.sh (.int x),z]=.nx [.sh (.int n),.sh A,.sh (.int (x*((bW (ds.map λ d=>lpf d.toNat):Nat):Int))),z']
 | [],x,z,_=>⟨z,by simp[bW,forGo]⟩
 | d::r,x,z,h=>by
  obtain⟨d1,d2⟩:=h d (yR ..)
  have lr:=fP d1 d2
  obtain⟨z',e⟩:=gK (n:=n) (A:=A) r (x*lpf d.toNat) (.sh (.int d)) (λ y hy=>h y (yM _ hy))
  refine⟨z',?_⟩
  rw[yH,aL (st':=[.sh (.int n),.sh A,.sh (.int (x*lpf d.toNat)),.sh (.int d)]),e]
  ·rw[yH,bW,AE,Bg]
  ·simp only[b_Q06_l1,eVar,lNil,lCons,eCall,Dv.all,R.bind,RL.bind,Dv.R.bindL,Dv.RL.bindL,Out.bind,am,sAug,af,yH,yI,yF,yG,yL,yK,yQ,fY d1 d2,aZ (bS (i:=x) (j:=(lpf d.toNat:Int)) (by omega) (by omega))]
noncomputable def vl (A B:List Int)(d:Int):D:=.lst [.bl (aS A d),.bl (aS B d)]
open Bt (T bv eg hits Fill bf Beat tally kw gu uI gY)
noncomputable def der:Nat->List Int->List Int
 | _,[]=>[]
 | i,x::r=>((i:Int)*x)::der (i+1) r
noncomputable def dr (a:List Int):List Int:=der 1 (a.drop 1)
theorem lD (a b:List Int)(g:Int->Int)(s:Int):act a (act b g) s=act b (act a g) s:=by
 rw[<- bx,<- bx]
 exact eY g _ _ s λ i=>by rw[cK,cK,Pl.cf_comm]
theorem vY (A B:List Int)(g:Int->Int)(s:Int):T A (T B g) s=T B (T A g) s:=by
 rw[ly,ly]
 show sl A (λ a=>sl B (λ b=>g (s-a-b)))=sl B (λ b=>sl A (λ a=>g (s-b-a)))
 rw[nG]
 refine c8 λ b _=>c8 λ a _=>?_
 congr 1; omega
noncomputable def aE (n:Int):List Int:=(hV n).foldl (λ fo p=>if n%p=0/\(fo.filter λ q=>decide (p%q=0))=[] then fo++[p] else fo) []
noncomputable def Xp (d:Int):List Int:=fprod (λ p=>xn1 (d/p)) (aE d)
theorem pW:((List.range 61).all λ d=>decide (d<2) || ((aE (d:Int)).all (λ p=>decide (2<=p)&&(decide (p<=(d:Int))&&(decide ((d:Int)%p=0)&&(fmul (quo (phi d) (comb ((d:Int)/p).toNat p.toNat)) (phi d) == comb ((d:Int)/p).toNat p.toNat))))&&(fmul (quo (Psi d) (Xp d)) (Psi d) == Xp d&&(((aE (d:Int)).length == 1) == ee d&&(decide (ee d=false) || ((aE (d:Int)).getD 0 0 == (lpf d:Int)))))))=true:=by decide +kernel
noncomputable def okI (r:R)(xs:List Int):Bool:=match r with
 | .ok (.lst ds) true=>match Dv.intsOf ds with
  | some ys=>ys == xs
  | none=>false
 | _=>false
theorem iM:∀ {ds:List D} {ys:List Int},Dv.intsOf ds=some ys->ds=ys.map .int
 | [],ys,h=>by simp[Dv.intsOf] at h; subst h; rfl
 | d::r,ys,h=>by
  cases d <;>simp only[Dv.intsOf,reduceCtorEq] at h
  case int i =>
   cases e:Dv.intsOf r with
   | none=>rw[e] at h; simp at h
   | some zs=>rw[e] at h; simp at h; subst h; rw[yH,iM e]
theorem jJ {r:R}{xs:List Int}(h:okI r xs=true):r=.ok (L xs) true:=by
 unfold okI at h
 split at h
 ·split at h
  ·rename_i e
   have:=iM e
   rw[beq_iff_eq] at h; subst h; subst this; rfl
  ·simp at h
 ·simp at h
theorem jB:((List.range 61).all λ d=>decide (d<1) || okI (F_Q0S [.int (d:Int)]) (aE d))=true:=by decide +kernel
theorem cQ {d:Int}(h1:1<=d)(h2:d<=60):F_Q0S [.int d]=.ok (L (aE d)) true:=by
 have:=List.all_eq_true.mp jB d.toNat (List.mem_range.mpr (by omega))
 have e:((d.toNat:Nat):Int)=d:=by omega
 rw[decide_eq_false (by omega),zm,e] at this
 exact jJ this
theorem eI {d:Int}(h1:2<=d)(h2:d<=60):(∀ p∈aE d,2<=p/\p<=d/\d%p=0/\∃ Q,fmul Q (phi d)=comb (d/p).toNat p.toNat)/\(∃ Q,fmul Q (Psi d)=Xp d)/\(((aE d).length == 1)=ee d.toNat)/\(ee d.toNat=true->(aE d).getD 0 0=(lpf d.toNat:Int)):=by
 have:=List.all_eq_true.mp pW d.toNat (List.mem_range.mpr (by omega))
 have e:((d.toNat:Nat):Int)=d:=by omega
 rw[decide_eq_false (by omega),zm,e,yN,yN,yN] at this
 obtain⟨a,b,c,f⟩:=this
 refine⟨λ p hp=>?_,⟨_,beq_iff_eq.mp b⟩,beq_iff_eq.mp c,λ hh=>?_⟩
 ·have:=List.all_eq_true.mp a p hp
  rw[yN,yN,yN,decide_eq_true_eq,decide_eq_true_eq,decide_eq_true_eq] at this
  exact⟨this.1,this.2.1,this.2.2.1,_,beq_iff_eq.mp this.2.2.2⟩
 ·rw[hh] at f
  exact beq_iff_eq.mp f
theorem lO {m:Nat}(hm:0<m){g:Int->Int}(hg:Per m g):∀ (p:Nat) (s:Int),act (comb m (p+1)) g s=((p+1:Nat):Int)*g s
 | 0,s=>by
  show 1*g s+0=_
  omega
 | p+1,s=>by
  show 1*g s+act (List.replicate (m-1) 0++comb m (p+1)) g (s-1)=_
  rw[d9]
  have e:s-1-((m-1:Nat):Int)=s-m:=by omega
  rw[e,lO hm hg p,hg s,BL (p+1) 1,Ay]
  omega
theorem peel {d p:Int}(h1:2<=d)(h2:d<=60)(hp:p∈aE d){g:Int->Int}(z1:∀ s,act (phi d) g s=0)(z2:∀ s,act (xn1 (d/p)) g s=0)(s:Int):g s=0:=by
 obtain⟨p2,p3,p4,Q,hQ⟩:=(eI h1 h2).1 p hp
 have hx:p*(d/p)=d:=Ba (zd p4)
 have q1:1<=d/p:=by
  by_cases h0:d/p<=0
  ·exfalso
   have:p*(d/p)<=0:=As (by omega) h0
   omega
  ·omega
 have e:(((d/p).toNat:Nat):Int)=d/p:=by omega
 have hg:Per ((d/p).toNat:Nat) g:=λ s=>by
  have:=z2 s
  rw[gq q1] at this
  rw[e]; omega
 obtain⟨k,hk⟩:∃ k,p.toNat=k+1:=⟨p.toNat-1,by omega⟩
 have h3:=lO (m:=(d/p).toNat) (by omega) hg k s
 rw[<- hk,<- hQ,bx,cV _ _ z1] at h3
 have h4:((p.toNat:Nat):Int)≠0:=by omega
 rcases Int.mul_eq_zero.mp h3.symm with h|h
 ·exact absurd h h4
 ·exact h
theorem lA {d:Int}(h1:2<=d)(h2:d<=60):∀ (ps:List Int),(∀ p∈ps,p∈aE d)->∀ {g:Int->Int},(∀ s,act (phi d) g s=0)->(∀ s,act (fprod (λ p=>xn1 (d/p)) ps) g s=0)->∀ s,g s=0
 | [],_,g,_,z2,s=>by
  have:act [1] g s=0:=z2 s
  have e:act [1] g s=1*g s+0:=rfl
  omega
 | p::ps,hp,g,z1,z2,s=>by
  refine lA h1 h2 ps (λ q hq=>hp q (yM _ hq)) z1 (λ s=>?_) s
  refine peel h1 h2 (hp p (yR ..)) (λ s=>?_) (λ s=>?_) s
  ·rw[lD]; exact cV _ _ z1 s
  ·have:act (fmul (xn1 (d/p)) (fprod (λ p=>xn1 (d/p)) ps)) g s=0:=z2 s
   rwa [bx] at this
theorem pN {d m:Int}(h1:2<=d)(h2:d<=60)(hm:m<=200){A:List Int}(hA:Up m A):aS A d=true ↔ ∀ s,act (Xp d) (T A (dl d)) s=0:=by
 obtain⟨hp,⟨Q,hQ⟩,_⟩:=eI h1 h2
 have key:∀ s,T A (psi d) s=act (Psi d) (T A (dl d)) s:=λ s=>(u3 A (dl d) (Psi d) s).symm
 refine⟨λ h s=>?_,λ h=>sV h1 h2 hm hA λ s=>?_⟩
 ·rw[<- hQ,bx]
  refine cV _ _ (λ s=>?_) s
  rw[<- key]; exact sd h1 h2 hA h s
 ·rw[key]
  refine lA h1 h2 (aE d) (λ p hp=>hp) (g:=act (Psi d) (T A (dl d))) (λ s=>?_) (λ s=>?_) s
  ·rw[<- bx,(ko h1 h2).1,gq (by omega),(dl_per.T A)]; omega
  ·rw[lD]
   exact cV _ _ h s
noncomputable def gs (d:Int)(g:Int->Int):List Int->Int->Int
 | []=>g
 | p::r=>gs d (λ s=>g s-g (s+d/p)) r
theorem Per.stp {d:Int}{g:Int->Int}(h:Per d g)(o:Int):Per d (λ s=>g s-g (s+o)):=λ s=>by
 show g (s-d)-g (s-d+o)=g s-g (s+o)
 have e:s-d+o=s+o-d:=by omega
 rw[e,h,h]
theorem jf (g:Int->Int)(o:Int):∀ (a:List Int) (s:Int),act a (λ s=>g (s+o)) s=act a g (s+o)
 | [],s=>rfl
 | x::r,s=>by
  show x*g (s+o)+act r (λ s=>g (s+o)) (s-1)=x*g (s+o)+act r g (s+o-1)
  rw[jf g o r]
  have e:s-1+o=s+o-1:=by omega
  rw[e]
theorem lM (g h:Int->Int):∀ (a:List Int) (s:Int),act a (λ s=>g s-h s) s=act a g s-act a h s
 | [],s=>rfl
 | x::r,s=>by
  show x*(g s-h s)+act r (λ s=>g s-h s) (s-1)=(x*g s+act r g (s-1))-(x*h s+act r h (s-1))
  rw[lM g h r,BW]; omega
theorem mX {d:Int}(h1:2<=d):∀ (ps:List Int) (g:Int->Int),(∀ p∈ps,1<=d/p)->((∀ s,gs d g ps s=0) ↔ ∀ s,act (fprod (λ p=>xn1 (d/p)) ps) g s=0)
 | [],g,_=>by
  refine forall_congr' λ s=>?_
  show g s=0 ↔ 1*g s+0=0
  omega
 | p::ps,g,hp=>by
  have ih:=mX h1 ps (λ s=>g s-g (s+d/p)) (λ q hq=>hp q (yM _ hq))
  have q1:=hp p (yR ..)
  show (∀ s,gs d (λ s=>g s-g (s+d/p)) ps s=0) ↔ ∀ s,act (fmul (xn1 (d/p)) (fprod (λ p=>xn1 (d/p)) ps)) g s=0
  rw[ih]
  have e:∀ s,act (fprod (λ p=>xn1 (d/p)) ps) (λ s=>g s-g (s+d/p)) s=act (fmul (xn1 (d/p)) (fprod (λ p=>xn1 (d/p)) ps)) g (s+d/p):=λ s=>by
   rw[lM,jf,bx,gq q1]
   have:s+d/p-d/p=s:=by omega
   rw[this]
  constructor
  ·intro h s
   have:=h (s-d/p)
   rw[e] at this
   have e2:s-d/p+d/p=s:=by omega
   rwa [e2] at this
  ·intro h s
   rw[e]; exact h _
theorem rE {d m:Int}(h1:2<=d)(h2:d<=60)(hm:m<=200){A:List Int}(hA:Up m A):aS A d=true ↔ ∀ s,gs d (T A (dl d)) (aE d) s=0:=by
 rw[pN h1 h2 hm hA,mX h1]
 ·rfl
 ·intro p hp
  obtain⟨p2,p3,p4,_⟩:=(eI h1 h2).1 p hp
  have hx:p*(d/p)=d:=Ba (zd p4)
  by_cases h0:d/p<=0
  ·exfalso
   have:p*(d/p)<=0:=As (by omega) h0
   omega
  ·omega
theorem lY {d:Int}:∀ (ps:List Int) {g:Int->Int},Per d g->Per d (gs d g ps)
 | [],g,h=>h
 | p::ps,g,h=>lY ps (h.stp _)
noncomputable def mpw (d p:Int):Nat->Int->Int
 | 0,x=>x
 | m+1,x=>if d%(x*p)=0 then mpw d p m (x*p) else x
noncomputable def aU (d:Int):List Int:=(aE d).map λ p=>mpw d p 100000 p
noncomputable def rA (S:List Int):List Int:=S.foldl (λ fo x=>fo++(fo.filter λ y=>decide (y%(lpf x.toNat:Int)≠0)).map λ y=>y*x) [1]
noncomputable def ptI (S:List Nat):List Int:=S.map λ (i:Nat)=>(i:Int)
theorem oG:((List.range 61).all λ n=>decide (n<1) || (subs (ppw n)).all λ S=>okI (F_Q19 [L (ptI S)]) (rA (ptI S))&&(((rA (ptI S)).drop 1).all (λ d=>decide (2<=d)&&(decide (d<=(n:Int))&&(decide ((n:Int)%d=0)&&((aU d).all λ q=>decide (q∈ptI S)))))&&((hV n).all λ d=>!decide ((n:Int)%d=0) || (!((aU d).all λ q=>decide (q∈ptI S)) || decide (d∈(rA (ptI S)).drop 1)))))=true:=by decide +kernel
theorem k9:((List.range 61).all λ d=>decide (d<2) || (decide (1<=(aU (d:Int)).length)&&(decide (1<(aU (d:Int)).length) || (aU (d:Int) == [(d:Int)]))))=true:=by decide +kernel
theorem uj:((List.range 61).all λ n=>(subs (ppw n)).all λ S=>decide ((rA (ptI S)).length<=1000))=true:=by decide +kernel
theorem pG:((List.range 61).all λ d=>decide ((aE (d:Int)).length<=61))=true:=by decide +kernel
theorem uget {n:Nat}(g:Int->Int){i:Nat}(h:i<n):((upto n).map g)[i]?=some (g i):=by
 unfold upto
 rw[Af,zi,Bd h]; rfl
theorem ulen (n:Nat):(upto n).length=n:=by unfold upto; simp
theorem qj {d k:Int}(g:Int->Int)(h:0<=k)(h2:k<d):Dv.at? (((upto d.toNat).map g).map D.int) k=some (.int (g k)):=by
 rw[kM h (by rw[yP,ulen]; omega),yW,uget g (by omega)]
 have e:((k.toNat:Nat):Int)=k:=by omega
 rw[e]; rfl
theorem uset {d x:Int}(d1:1<=d)(g:Int->Int):((upto d.toNat).map g).set (x%d).toNat (g (x%d)+1)=(upto d.toNat).map λ s=>dl d (s-x)+g s:=by
 have hr:=aN (n:=d) (a:=x) (by omega)
 refine Ab λ i=>?_
 rw[Bp]
 by_cases hi:i<d.toNat
 ·rw[uget (λ s=>dl d (s-x)+g s) hi]
  have hk:dl d ((i:Int)-x)=if (x%d).toNat=i then 1 else 0:=by
   unfold dl
   have:((i:Int)-x)%d=0 ↔ (x%d).toNat=i:=by
    rw[<- zy,AU (show (0:Int)<=i by omega) (show (i:Int)<d by omega)]
    omega
   by_cases h:(x%d).toNat=i
   ·rw[if_pos h,if_pos (this.mpr h)]
   ·rw[if_neg h,if_neg λ h'=>h (this.mp h')]
  rw[hk]
  split
  ·rename_i h
   subst h
   rw[if_pos (by rw[yP,ulen]; exact hi)]
   have e:(((x%d).toNat:Nat):Int)=x%d:=by omega
   rw[e,Int.add_comm]
  ·rw[uget _ hi,Int.zero_add]
 ·have l1:((upto d.toNat).map λ s=>dl d (s-x)+g s)[i]?=none:=by rw[zj]; rw[yP,ulen]; omega
  rw[l1]
  split
  ·rename_i h
   exfalso; omega
  ·rw[zj]; rw[yP,ulen]; omega
noncomputable def adds (d:Int)(g:Int->Int):List Int->Int->Int
 | []=>g
 | x::r=>adds d (λ s=>dl d (s-x)+g s) r
theorem sJ (d:Int):∀ (xs:List Int) (g:Int->Int) (s:Int),adds d g xs s=T xs (dl d) s+g s
 | [],g,s=>by rw[eg]; show g s=_; omega
 | x::r,g,s=>by
  show adds d (λ s=>dl d (s-x)+g s) r s=_
  rw[sJ d r,bv]; omega
theorem iS {A:D}{d:Int}(d1:1<=d):∀ (xs:List Int) (g:Int->Int) (z z4 z5:Sl),
  ∃ z',forGo 3 b_Q0I_l1 (xs.map .int) [.sh A,.sh (.int d),.ow (L ((upto d.toNat).map g)),z,z4,z5]=.nx [.sh A,.sh (.int d),.ow (L ((upto d.toNat).map (adds d g xs))),z',z4,z5]
 | [],g,z,z4,z5=>⟨z,rfl⟩
 | x::r,g,z,z4,z5=>by
  obtain⟨z',e⟩:=iS (A:=A) d1 r (λ s=>dl d (s-x)+g s) (.sh (.int x)) z4 z5
  refine⟨z',?_⟩
  have hr:=aN (n:=d) (a:=x) (by omega)
  have hlt:x%d<((upto d.toNat).length:Int):=by rw[ulen]; omega
  rw[yH,aL (st':=[.sh A,.sh (.int d),.ow (L ((upto d.toNat).map λ s=>dl d (s-x)+g s)),.sh (.int x),z4,z5])]
  ·exact e
  ·simp only[b_Q0I_l1,sPut,eIx,Dv.ixD,eOp,eVar,eInt,Dv.all,R.bind,RL.bind,Out.bind,am,aB,af,ak,yH,yI,yF,yG,yL,yK,zc,yQ,if_true,aP,yP,ap (show (0:Int)<d by omega),qj g hr.1 hr.2,decide_eq_true hr.1,decide_eq_true hlt,mM,uset d1]
theorem o5 {d o:Int}(d1:1<=d)(d2:d<=60){g:Int->Int}(hg:Per d g)(r0 r3 r4:Option D):c_Q0I_1 [r0,some (.int d),some (L ((upto d.toNat).map g)),r3,r4,some (.int o)]=.ok (L ((upto d.toNat).map λ s=>g s-g (s+o))) true:=by
 have hr:=fT (n:=d) (by omega) (by omega)
 unfold c_Q0I_1
 refine b7 (f:=true) (xs:=upto d.toNat) ?_ (by rw[ulen]; omega) λ x hx=>?_
 ·simp only[iRange,eVar,af,yF,yG,if_true,hr,bw]
 ·have hx:=mem_upto.mp hx
  have hm:=aN (n:=d) (a:=x+o) (by omega)
  have e:g ((x+o)%d)=g (x+o):=hg.dvd (by
   have:=zu (x+o) d
   exact⟨-((x+o)/d),by rw[BX]; omega⟩)
  simp only[eIx,Dv.ixD,eOp,eVar,Dv.pick,R.bind,RL.bind,Out.bind,af,ak,yH,yI,yF,yG,yU,zc,aP,cg,qj g hx.1 (show x<d by omega),ap (show (0:Int)<d by omega),qj g hm.1 hm.2,e]
theorem iz {A:D}{d:Int}(d1:1<=d)(d2:d<=60):∀ (ps:List Int) (g:Int->Int) (z3 z4 z5:Sl),(∀ p∈ps,0<p/\p<=60)->Per d g ->
  ∃ z4' z5',forGo 4 b_Q0I_l2 (ps.map .int) [.sh A,.sh (.int d),.ow (L ((upto d.toNat).map g)),z3,z4,z5]=.nx [.sh A,.sh (.int d),.ow (L ((upto d.toNat).map (gs d g ps))),z3,z4',z5']
 | [],g,z3,z4,z5,_,_=>⟨z4,z5,rfl⟩
 | p::r,g,z3,z4,z5,hp,hg=>by
  obtain⟨z4',z5',e⟩:=iz (A:=A) d1 d2 r (λ s=>g s-g (s+d/p)) z3 (.sh (.int p)) (.sh (.int (d/p))) (λ q hq=>hp q (yM _ hq)) (hg.stp _)
  refine⟨z4',z5',?_⟩
  have h0:=hp p (yR ..)
  rw[yH,aL (st':=[.sh A,.sh (.int d),.ow (L ((upto d.toNat).map λ s=>g s-g (s+d/p))),z3,.sh (.int p),.sh (.int (d/p))])]
  ·exact e
  ·simp only[b_Q0I_l2,sCons,sSet,aw,bo,eOp,eVar,Dv.all,R.bind,RL.bind,Out.bind,am,aB,af,yH,yI,yF,yG,yL,yK,aW (i:=d) (j:=p) h0.1 (by omega),o5 d1 d2 hg]
theorem kh {m d:Int}{xs:List Int}(h:Up m xs)(hm:m<=200)(d1:2<=d)(d2:d<=60):F_Q0I [L xs,.int d]=.ok (.bl (aS xs d)) true:=by
 have hre:=lU (x:=0) (n:=d) (by omega) (by omega)
 have e0:List.replicate d.toNat 0=(upto d.toNat).map λ _=>(0:Int):=by
  unfold upto; rw[Af]; exact(BE (by simp) (by simp))
 obtain⟨z,e1⟩:=iS (A:=L xs) (d:=d) (by omega) xs (λ _=>0) .no .no .no
 rw[<- e0] at e1
 have hT:adds d (λ _=>0) xs=T xs (dl d):=funext λ s=>by rw[sJ]; omega
 rw[hT] at e1
 obtain⟨z4,z5,e2⟩:=iz (A:=L xs) (d:=d) (by omega) d2 (aE d) (T xs (dl d)) z .no .no (λ p hp=>by have:=(eI d1 d2).1 p hp; omega) (dl_per.T xs)
 have hq:decide ((upto d.toNat).map (gs d (T xs (dl d)) (aE d))=List.replicate d.toNat 0)=aS xs d:=by
  have hper:=lY (d:=d) (aE d) (dl_per.T (d:=d) xs)
  have key:(upto d.toNat).map (gs d (T xs (dl d)) (aE d))=List.replicate d.toNat 0 ↔ aS xs d=true:=by
   rw[rE d1 d2 hm h,e0]
   constructor
   ·intro he s
    have hr:=aN (n:=d) (a:=s) (by omega)
    have h1:=uget (gs d (T xs (dl d)) (aE d)) (n:=d.toNat) (i:=(s%d).toNat) (by omega)
    rw[he,uget _ (by omega)] at h1
    have e:(((s%d).toNat:Nat):Int)=s%d:=by omega
    rw[e] at h1
    have h2:gs d (T xs (dl d)) (aE d) s=gs d (T xs (dl d)) (aE d) (s%d):=hper.dvd (by
     have:=zu s d
     exact⟨s/d,by omega⟩)
    rw[h2]; injection h1 with h1; exact h1.symm
   ·intro he
    exact AG λ x _=>he x
  cases hb:aS xs d
  ·rw[hb] at key; exact decide_eq_false λ hh=>Bool.noConfusion (key.mp hh)
  ·exact decide_eq_true (key.mpr hb)
 simp only[F_Q0I,b_Q0I,b_Q0I_t3,b_Q0I_t2,b_Q0I_t1,Dv.fn,sCons,sSet,bo,Dv.give,Dv.open_,aM,aF,au,aO,sRet,sFor,iSeq,eCm,eOp,eVar,eInt,eLst,lNil,lCons,eCall,Dv.all,R.bind,RL.bind,Dv.R.bindL,Dv.RL.bindL,Out.bind,aJ,am,aB,af,ak,yH,yI,yJ,yT,List.replicate,yO,yS,yF,yG,yL,yK,yX,yV,yU,yQ,Nat.reduceAdd,Nat.reduceSub,gN,hre,e1,cQ (show 1<=d by omega) d2,e2,hq]
noncomputable def frB (n:Int)(A:List Int):Bool:=decide (((bW (((ppI n).filter λ d=>aS A d).map λ d=>lpf d.toNat):Nat):Int)=(A.length:Int))
theorem c7 {n d:Int}(n1:1<=n)(h:d∈ppI n):2<=d/\d<=n/\n%d=0/\ee d.toNat=true:=by
 have h1:=(cW n1).mp (List.mem_filter.mp h).1
 have h2:=(List.mem_filter.mp h).2
 exact⟨by omega,by omega,h1.2.2,h2⟩
theorem et {n:Int}{A:List Int}(n2:n<=60)(h:Beat n A):F_Q06 [.int n,L A]=.ok (.bl (frB n A)) true:=by
 have n1:=h.pos
 obtain⟨z,e⟩:=gK (n:=n) (A:=L A) ((ppI n).filter λ d=>aS A d) 1 .no (λ d hd=>by
  have h1:=c7 n1 (List.mem_filter.mp hd).1
  omega)
 rw[BC] at e
 have hq:decide (((bW (((ppI n).filter λ d=>aS A d).map λ d=>lpf d.toNat):Nat):Int)=(A.length:Int))=frB n A:=rfl
 simp only[F_Q06,b_Q06,b_Q06_t2,b_Q06_t1,Dv.fn,sCons,sSet,aw,Dv.give,Dv.open_,aM,aF,au,sRet,sFor,iSeq,eB1,Dv.lenD,eCm,eVar,eInt,lNil,lCons,eCall,Dv.all,R.bind,RL.bind,Dv.R.bindL,Dv.RL.bindL,Out.bind,am,af,ak,yH,yI,yJ,yT,List.replicate,yO,yS,yF,yG,yL,yK,yX,yV,yU,yQ,yZ,Nat.reduceAdd,Nat.reduceSub,aX,yP,cP n2 h,e,hq]
theorem iD:((List.range 61).all λ n=>decide (n<1) || okI (F_Q0R [.int (n:Int)]) (ppI n))=true:=by decide +kernel
theorem ix {n:Int}(h1:1<=n)(h2:n<=60):F_Q0R [.int n]=.ok (L (ppI n)) true:=by
 have:=List.all_eq_true.mp iD n.toNat (List.mem_range.mpr (by omega))
 have e:((n.toNat:Nat):Int)=n:=by omega
 rw[decide_eq_false (by omega),zm,e] at this
 exact jJ this
theorem tq {xs:List Int}(h:1<=xs.length):Dv.at? (xs.map D.int) 0=some (.int (xs.getD 0 0)):=kM (k:=0) (by omega) (by omega)
theorem dS {n:Int}{A:List Int}(n1:1<=n)(n2:n<=60)(h:Beat n A):∀ (ds:List Int) (x:Int) (z:Sl),(∀ d∈ds,d∈ppI n) ->
  ∃ z',forGo 3 b_Q0G_l1 (ds.map .int) [.sh (.int n),.sh (L A),.sh (.int x),z]=.nx [.sh (.int n),.sh (L A),.sh (.int (x*((bW ((ds.filter λ d=>aS A d).map λ d=>lpf d.toNat):Nat):Int))),z']
 | [],x,z,_=>⟨z,by simp[bW,forGo]⟩
 | d::r,x,z,hd=>by
  obtain⟨d1,d2,d3,d4⟩:=c7 n1 (hd d (yR ..))
  have lr:=fP d1 (show d<=60 by omega)
  have hB:=kh (dY h) (show n<=200 by omega) d1 (show d<=60 by omega)
  have hp:=cQ (d:=d) (by omega) (by omega)
  obtain⟨_,_,pl,pf⟩:=eI d1 (show d<=60 by omega)
  rw[d4] at pl
  have hl:(aE d).length=1:=beq_iff_eq.mp pl
  have ha:=tq (xs:=aE d) (by omega)
  rw[pf d4] at ha
  cases hb:aS A d
  ·rw[hb] at hB
   obtain⟨z',e⟩:=dS n1 n2 h r x (.sh (.int d)) (λ y hy=>hd y (yM _ hy))
   refine⟨z',?_⟩
   rw[yH,aL (st':=[.sh (.int n),.sh (L A),.sh (.int x),.sh (.int d)]),e,zC,hb]
   ·rfl
   ·simp only[b_Q0G_l1,sNil,sIf,eVar,lNil,lCons,eCall,Dv.all,R.bind,RL.bind,Dv.R.bindL,Dv.RL.bindL,Out.bind,am,af,ak,yH,yI,yF,yG,yL,yK,yQ,hB]
  ·rw[hb] at hB
   obtain⟨z',e⟩:=dS n1 n2 h r (x*lpf d.toNat) (.sh (.int d)) (λ y hy=>hd y (yM _ hy))
   refine⟨z',?_⟩
   rw[yH,aL (st':=[.sh (.int n),.sh (L A),.sh (.int (x*lpf d.toNat)),.sh (.int d)]),e,zC,hb]
   ·rw[if_pos rfl,yH,bW,AE,Bg]
   ·simp only[b_Q0G_l1,sSet,aw,sIf,eIx,Dv.ixD,eOp,eVar,eInt,lNil,lCons,eCall,Dv.all,R.bind,RL.bind,Dv.R.bindL,Dv.RL.bindL,Out.bind,am,af,ak,yH,yI,yF,yG,yL,yK,zc,yQ,hB,hp,ha,aZ (bS (i:=x) (j:=(lpf d.toNat:Int)) (by omega) (by omega))]
theorem j8 {n:Int}{A:List Int}(n2:n<=60)(h:Beat n A):F_Q0G [.int n,L A]=.ok (.bl (frB n A)) true:=by
 have n1:=h.pos
 obtain⟨z,e⟩:=dS n1 n2 h (ppI n) 1 .no (λ d hd=>hd)
 rw[BC] at e
 have hq:decide (((bW (((ppI n).filter λ d=>aS A d).map λ d=>lpf d.toNat):Nat):Int)=(A.length:Int))=frB n A:=rfl
 simp only[F_Q0G,b_Q0G,b_Q0G_t2,b_Q0G_t1,Dv.fn,sCons,sSet,aw,Dv.give,Dv.open_,aM,aF,au,sRet,sFor,iSeq,eB1,Dv.lenD,eCm,eVar,eInt,lNil,lCons,eCall,Dv.all,R.bind,RL.bind,Dv.R.bindL,Dv.RL.bindL,Out.bind,am,af,ak,yH,yI,yJ,yT,List.replicate,yO,yS,yF,yG,yL,yK,yX,yV,yU,yQ,Nat.reduceAdd,Nat.reduceSub,aX,yP,ix n1 n2,e,hq]
noncomputable def inP (P:List Int)(d:Int):Bool:=(aU d).all λ q=>decide (q∈P)
theorem gh {n:Int}(n1:1<=n)(n2:n<=60):ppI n=(ppw n.toNat).map λ (i:Nat)=>(i:Int):=by
 have:=List.all_eq_true.mp pE n.toNat (List.mem_range.mpr (by omega))
 have e:((n.toNat:Nat):Int)=n:=by omega
 rw[decide_eq_false (by omega),zm,e,yN] at this
 exact beq_iff_eq.mp this.2
theorem kI {n:Int}(n1:1<=n)(n2:n<=60)(g:Int->Bool):∃ S,S∈subs (ppw n.toNat)/\(ppI n).filter g=ptI S:=by
 refine⟨(ppw n.toNat).filter λ (q:Nat)=>g (q:Int),fz _,?_⟩
 rw[gh n1 n2,BN]; rfl
structure Unl (n:Int)(P U:List Int):Prop where
 ok:F_Q19 [L P]=.ok (L U) true
 fwd:∀ d∈U.drop 1,2<=d/\d<=n/\n%d=0/\inP P d=true
 bwd:∀ d,2<=d->d<=n->n%d=0->inP P d=true->d∈U.drop 1
theorem iK {n d:Int}(h1:2<=d)(h2:d<=n):d∈hV n:=by
 unfold hV
 exact List.mem_map.mpr ⟨(d-2).toNat,List.mem_range.mpr (by omega),by omega⟩
theorem vB {n:Int}(n1:1<=n)(n2:n<=60)(g:Int->Bool):∃ U,Unl n ((ppI n).filter g) U/\U.length<=1000:=by
 obtain⟨S,hS,e⟩:=kI n1 n2 g
 have:=List.all_eq_true.mp oG n.toNat (List.mem_range.mpr (by omega))
 have en:((n.toNat:Nat):Int)=n:=by omega
 rw[decide_eq_false (by omega),zm] at this
 have:=List.all_eq_true.mp this S hS
 rw[yN,yN,en] at this
 obtain⟨a,b,c⟩:=this
 have hl:=List.all_eq_true.mp uj n.toNat (List.mem_range.mpr (by omega))
 have hl:=of_decide_eq_true (List.all_eq_true.mp hl S hS)
 refine⟨rA (ptI S),?_,hl⟩
 rw[e]
 refine⟨jJ a,λ d hd=>?_,λ d d1 d2 d3 d4=>?_⟩
 ·have:=List.all_eq_true.mp b d hd
  rw[yN,yN,yN,decide_eq_true_eq,decide_eq_true_eq,decide_eq_true_eq] at this
  exact⟨this.1,this.2.1,this.2.2.1,this.2.2.2⟩
 ·have:=List.all_eq_true.mp c d (iK d1 d2)
  unfold inP at d4
  rw[decide_eq_true d3,d4] at this
  simpa using this
noncomputable def seB (n:Int)(A:List Int):Bool:=(hV n).all λ d=>!(decide (n%d=0)&&inP ((ppI n).filter λ d=>aS A d) d) || aS A d
theorem dW {n:Int}{A:List Int}(n2:n<=60)(h:Beat n A):F_Q17 [.int n,L A]=.ok (.bl (seB n A)) true:=by
 have n1:=h.pos
 obtain⟨U,hU,hl⟩:=vB n1 n2 (λ d=>aS A d)
 have hcut:Dv.cutL (U.map D.int) (some 1) none=(U.drop 1).map D.int:=by rw[jh,<- Bf]
 have hc:c_Q17_1 [some (.int n),some (L A),some (L ((bp n).filter λ d=>aS A d))]=.ok (.lst ((U.drop 1).map λ x=>D.bl (aS A x))) true:=by
  unfold c_Q17_1 eComp
  have hle:(U.drop 1).length<=Dv.mx:=by unfold Dv.mx; rw[zG]; omega
  have hg:=eN (elt:=(eCm .isin (eVar 0) (eVar 1))) (free:=[some (L ((bp n).filter λ d=>aS A d))]) (g:=λ x=>D.bl (aS A x)) (xs:=U.drop 1) (λ x hx=>by
   obtain⟨x1,x2,x3,_⟩:=hU.fwd x hx
   have hm:=mS (xs:=A) ((cW n1).mpr ⟨show 1<x by omega,x2,x3⟩)
   simp only[eCm,eVar,R.bind,RL.bind,Out.bind,af,ak,yF,yG,nD,hm])
  simp only[iSeq,eVar,eInt,lNil,lCons,eCall,Dv.pick,eSlice,ePart,R.bind,RL.bind,Dv.R.bindL,Dv.RL.bindL,Out.bind,af,ak,yH,yI,yF,yG,yU,zc,yQ,yZ,bh,yP,cP n2 h,hU.ok,Dv.sliceD,hcut,if_pos hle,hg]
 have hall:∀ f,Dv.allD (.lst ((U.drop 1).map λ x=>D.bl (aS A x))) f=.ok (.bl (seB n A)) true:=λ f=>by
  unfold Dv.allD
  simp only[jy,BV]
  have:((U.drop 1).all λ x=>aS A x)=seB n A:=by
   rw[zU,zH]
   unfold seB
   rw[zH]
   constructor
   ·intro k d hd
    have hd2:=fq hd
    cases hin:(decide (n%d=0)&&inP ((ppI n).filter λ d=>aS A d) d)
    ·rfl
    ·rw[yN,decide_eq_true_eq] at hin
     rw[k d (hU.bwd d hd2.1 hd2.2 hin.1 hin.2)]; rfl
   ·intro k d hd
    obtain⟨x1,x2,x3,x4⟩:=hU.fwd d hd
    have:=k d (iK x1 x2)
    rw[decide_eq_true x3,x4] at this
    simpa using this
  rw[<- this]; rfl
 simp only[F_Q17,b_Q17,b_Q17_t1,Dv.fn,sCons,sSet,bo,sRet,eB1,eVar,lNil,lCons,eCall,Dv.all,R.bind,RL.bind,Dv.R.bindL,Dv.RL.bindL,Out.bind,aJ,am,aB,af,ak,yH,yI,yJ,yT,List.replicate,yO,yS,yF,yG,yL,yK,yQ,yZ,Nat.reduceAdd,Nat.reduceSub,sk n2 h,hc,hall]
theorem lK {S0 S1 S2 S4:Sl}{d p:Int}(d2:d<=60)(p2:2<=p)(p60:p<=60):∀ (m:Nat) (x:Int),1<=x->x<=d->d-x<m ->
  whileGo (eCm .eq (eOp .mod (eVar 3) (eOp .mul (eVar 6) (eVar 5))) (eInt 0)) b_Q0V_l1 m [S0,S1,S2,.sh (.int d),S4,.sh (.int p),.sh (.int x)]=.nx [S0,S1,S2,.sh (.int d),S4,.sh (.int p),.sh (.int (mpw d p m x))]
 | 0,x,_,_,h=>by omega
 | m+1,x,x1,x2,h=>by
  have hpos:0<x*p:=BY (by omega) (by omega)
  have hml:=aZ (bU (i:=x) (j:=p) (by omega) (by omega))
  rw[whileGo]
  by_cases hd:d%(x*p)=0
  ·have hle:x*p<=d:=Int.le_of_dvd (by omega) (zd hd)
   have hgt:x*2<=x*p:=zt p2 (by omega)
   have ih:=lK (S0:=S0) (S1:=S1) (S2:=S2) (S4:=S4) d2 p2 p60 m (x*p) (by omega) hle (by omega)
   rw[mpw,if_pos hd,<- ih]
   simp only[b_Q0V_l1,sSet,aw,eCm,eOp,eVar,eInt,Dv.all,R.bind,RL.bind,Out.bind,am,af,yH,yI,yF,yG,yL,yK,aX,hml,ap hpos,decide_eq_true hd]
  ·rw[mpw,if_neg hd]
   simp only[eCm,eOp,eVar,eInt,Dv.all,R.bind,RL.bind,Out.bind,am,af,yH,yI,yF,yG,aX,hml,ap hpos,decide_eq_false hd]
theorem iq {S0 S1 S2:Sl}{d:Int}(d1:2<=d)(d2:d<=60):∀ (ps acc:List Int) (z5 z6:Sl),(∀ p∈ps,2<=p/\p<=d)->acc.length+ps.length<=1000 ->
  ∃ z5' z6',forGo 5 b_Q0V_l2 (ps.map .int) [S0,S1,S2,.sh (.int d),.ow (L acc),z5,z6]=.nx [S0,S1,S2,.sh (.int d),.ow (L (acc++ps.map λ p=>mpw d p 100000 p)),z5',z6']
 | [],acc,z5,z6,_,_=>⟨z5,z6,by simp[forGo]⟩
 | p::r,acc,z5,z6,hp,hl=>by
  rw[yJ] at hl
  have h0:=hp p (yR ..)
  have ew:=lK (S0:=S0) (S1:=S1) (S2:=S2) (S4:=.ow (L acc)) (d:=d) (p:=p) d2 h0.1 (by omega) 100000 p (by omega) h0.2 (by omega)
  obtain⟨z5',z6',e⟩:=iq (S0:=S0) (S1:=S1) (S2:=S2) d1 d2 r (acc++[mpw d p 100000 p]) (.sh (.int p)) (.sh (.int (mpw d p 100000 p))) (λ q hq=>hp q (yM _ hq)) (by rw[za,Aa]; omega)
  refine⟨z5',z6',?_⟩
  have hmx:decide (acc.length<Dv.mx)=true:=decide_eq_true (by unfold Dv.mx; omega)
  rw[yH,aL (st':=[S0,S1,S2,.sh (.int d),.ow (L (acc++[mpw d p 100000 p])),.sh (.int p),.sh (.int (mpw d p 100000 p))]),e,yH,zZ]
  ·rfl
  ·have e9:List.map D.int acc++[D.int (mpw d p 100000 p)]=List.map D.int (acc++[mpw d p 100000 p]):=by rw[An]; rfl
   simp only[b_Q0V_l2,sCons,sSetG,Dv.give,Dv.open_,aM,au,aO,sApp,sWhile,eVar,Dv.all,R.bind,RL.bind,Out.bind,am,aB,af,yH,yI,yF,yG,yL,yK,yX,yV,yU,yQ,if_true,yP,ew,hmx,e9]
theorem fO (xs:List Int):cmD .eq (L xs) (.lst [])=.ok (.bl (decide (xs=[]))) true:=gN xs []
theorem iT {d:Int}(d1:2<=d)(d2:d<=60):(1<(aU d).length\/aU d=[d]):=by
 have:=List.all_eq_true.mp k9 d.toNat (List.mem_range.mpr (by omega))
 have e:((d.toNat:Nat):Int)=d:=by omega
 rw[decide_eq_false (by omega),zm,e,yN,zT,decide_eq_true_eq,decide_eq_true_eq,beq_iff_eq] at this
 exact this.2
noncomputable def seF (n:Int)(P A:List Int)(d:Int)(b:Bool):Bool:=!(decide (n%d=0)&&(decide (1<(aU d).length)&&inP P d)) || b
theorem ls {n d:Int}{A P:List Int}(hPl:P.length<=1000)(n2:n<=60)(h:Beat n A)(d1:2<=d)(d2:d<=n)(z4 z5 z6:Sl) :
  (seF n P A d (aS A d)=true/\∃ z4' z5' z6',b_Q0V_l3 [.sh (.int n),.sh (L A),.ow (L P),.sh (.int d),z4,z5,z6]=.nx [.sh (.int n),.sh (L A),.ow (L P),.sh (.int d),z4',z5',z6'])\/(seF n P A d (aS A d)=false/\b_Q0V_l3 [.sh (.int n),.sh (L A),.ow (L P),.sh (.int d),z4,z5,z6]=.ret (.bl false) true):=by
 have hpr:=(eI d1 (show d<=60 by omega)).1
 have hl:(aE d).length<=61:=by
  have:=List.all_eq_true.mp pG d.toNat (List.mem_range.mpr (by omega))
  have e:((d.toNat:Nat):Int)=d:=by omega
  rw[e] at this
  exact of_decide_eq_true this
 obtain⟨z5',z6',e⟩:=iq (S0:=.sh (.int n)) (S1:=.sh (L A)) (S2:=.ow (L P)) d1 (show d<=60 by omega) (aE d) [] z5 z6 (λ p hp=>by have:=hpr p hp; omega) (by simp; omega)
 have ep:[]++(aE d).map (λ p=>mpw d p 100000 p)=aU d:=rfl
 rw[ep] at e
 have hnil:L []=.lst []:=rfl
 rw[hnil] at e
 have hpl:(aU d).length<=61:=by unfold aU; rw[yP]; exact hl
 have hc:∀ r0 r1 r3 r5 r6,c_Q0V_2 [r0,r1,some (L P),r3,some (L (aU d)),r5,r6]=.ok (L ((aU d).filter λ q=>!decide (q∈P))) true:=λ r0 r1 r3 r5 r6=>by
  have:=c5 (elt:=eVar 0) (cond:=(eCm .notin (eVar 0) (eVar 1))) (is:=[2]) (it:=(iSeq (eVar 4))) (ρ:=[r0,r1,some (L P),r3,some (L (aU d)),r5,r6]) (c:=λ q=>!decide (q∈P)) (g:=λ d=>d) (xs:=aU d) (f:=false)
   (by simp only[iSeq,eVar,ak,yF,yG]) (by omega) (λ q _=>by simp only[eCm,eVar,Dv.pick,R.bind,RL.bind,Out.bind,af,ak,yH,yI,yF,yG,yU,iy]) (λ q _ _=>by simp only[eVar,Dv.pick,af,yH,yI,yF,yG,yU])
  simp only[Ag] at this
  exact this
 have hin:decide ((aU d).filter (λ q=>!decide (q∈P))=[])=inP P d:=by
  unfold inP
  rw[zU,decide_eq_true_eq,A3,zH]
  exact forall_congr' λ q=>forall_congr' λ _=>by simp
 have hB:=kh (dY h) (show n<=200 by omega) d1 (show d<=60 by omega)
 have hp:=cQ (d:=d) (by omega) (by omega)
 unfold seF
 by_cases h1:n%d=0
 ·by_cases h2:1<(aU d).length
  ·have h2':(1:Int)<((aU d).length:Int):=by omega
   cases h3:inP P d
   ·rw[h3] at hin
    refine .inl ⟨by rw[decide_eq_true h1,decide_eq_true h2]; rfl,.ow (L (aU d)),z5',z6',?_⟩
    simp only[b_Q0V_l3,sCons,sNil,sSet,bz,Dv.give,Dv.open_,aM,au,aO,sIf,sFor,iSeq,eB1,Dv.lenD,eAnd,eCm,eOp,eVar,eInt,eLst,lNil,lCons,eCall,Dv.all,R.bind,RL.bind,Dv.R.bindL,Dv.RL.bindL,Out.bind,am,aB,af,ak,yH,yI,yF,yG,yL,yK,yX,yV,yU,yQ,cz,aX,fS,yP,hp,e,ap (show (0:Int)<d by omega),decide_eq_true h1,gt_iff_lt,decide_eq_true h2',hc,fO,hin]
   ·rw[h3] at hin
    cases h4:aS A d
    ·rw[h4] at hB
     refine .inr ⟨by rw[decide_eq_true h1,decide_eq_true h2]; rfl,?_⟩
     simp only[b_Q0V_l3,sCons,sSet,bz,Dv.give,Dv.open_,aM,au,aO,sIf,sRet,sFor,iSeq,eB1,Dv.lenD,eAnd,eNot,eCm,eOp,eVar,eInt,eBl,eLst,lNil,lCons,eCall,Dv.all,R.bind,RL.bind,Dv.R.bindL,Dv.RL.bindL,Out.bind,am,aB,af,ak,yH,yI,yF,yG,yL,yK,yX,yV,yU,yQ,AK,cz,aX,fS,yP,hp,e,ap (show (0:Int)<d by omega),decide_eq_true h1,gt_iff_lt,decide_eq_true h2',hc,fO,hin,hB]
    ·rw[h4] at hB
     refine .inl ⟨by rw[decide_eq_true h1,decide_eq_true h2]; rfl,.ow (L (aU d)),z5',z6',?_⟩
     simp only[b_Q0V_l3,sCons,sNil,sSet,bz,Dv.give,Dv.open_,aM,au,aO,sIf,sFor,iSeq,eB1,Dv.lenD,eAnd,eNot,eCm,eOp,eVar,eInt,eLst,lNil,lCons,eCall,Dv.all,R.bind,RL.bind,Dv.R.bindL,Dv.RL.bindL,Out.bind,am,aB,af,ak,yH,yI,yF,yG,yL,yK,yX,yV,yU,yQ,zM,cz,aX,fS,yP,hp,e,ap (show (0:Int)<d by omega),decide_eq_true h1,gt_iff_lt,decide_eq_true h2',hc,fO,hin,hB]
  ·have h2':¬ (1:Int)<((aU d).length:Int):=by omega
   refine .inl ⟨by rw[decide_eq_false h2]; simp,.ow (L (aU d)),z5',z6',?_⟩
   simp only[b_Q0V_l3,sCons,sNil,sSet,bz,Dv.give,Dv.open_,aM,au,aO,sIf,sFor,iSeq,eB1,Dv.lenD,eAnd,eCm,eOp,eVar,eInt,eLst,lNil,lCons,eCall,Dv.all,R.bind,RL.bind,Dv.R.bindL,Dv.RL.bindL,Out.bind,am,aB,af,ak,yH,yI,yF,yG,yL,yK,yX,yV,yU,yQ,cz,aX,yP,hp,e,ap (show (0:Int)<d by omega),decide_eq_true h1,gt_iff_lt,decide_eq_false h2']
 ·refine .inl ⟨by rw[decide_eq_false h1]; rfl,.ow (L (aU d)),z5',z6',?_⟩
  simp only[b_Q0V_l3,sCons,sNil,sSet,bz,Dv.give,Dv.open_,aM,au,aO,sIf,sFor,iSeq,eAnd,eCm,eOp,eVar,eInt,eLst,lNil,lCons,eCall,Dv.all,R.bind,RL.bind,Dv.R.bindL,Dv.RL.bindL,Out.bind,am,aB,af,yH,yI,yF,yG,yL,yK,yX,yV,yU,yQ,aX,hp,e,ap (show (0:Int)<d by omega),decide_eq_false h1]
theorem f7 {n:Int}{A P:List Int}(hPl:P.length<=1000)(n2:n<=60)(h:Beat n A):∀ (ds:List Int) (z3 z4 z5 z6:Sl),(∀ d∈ds,2<=d/\d<=n) ->
  (ds.all (λ d=>seF n P A d (aS A d))=true/\∃ z3' z4' z5' z6',forGo 3 b_Q0V_l3 (ds.map .int) [.sh (.int n),.sh (L A),.ow (L P),z3,z4,z5,z6]=.nx [.sh (.int n),.sh (L A),.ow (L P),z3',z4',z5',z6'])\/(ds.all (λ d=>seF n P A d (aS A d))=false/\forGo 3 b_Q0V_l3 (ds.map .int) [.sh (.int n),.sh (L A),.ow (L P),z3,z4,z5,z6]=.ret (.bl false) true)
 | [],z3,z4,z5,z6,_=>.inl ⟨rfl,z3,z4,z5,z6,rfl⟩
 | d::r,z3,z4,z5,z6,hd=>by
  have h0:=hd d (yR ..)
  rw[AS,yH]
  rcases ls hPl n2 h h0.1 h0.2 z4 z5 z6 with ⟨a,z4',z5',z6',e⟩|⟨a,e⟩
  ·rw[aL (st':=[.sh (.int n),.sh (L A),.ow (L P),.sh (.int d),z4',z5',z6']) e,a,zX]
   exact f7 hPl n2 h r _ _ _ _ (λ q hq=>hd q (yM _ hq))
  ·exact .inr ⟨by rw[a]; rfl,pI e⟩
theorem iC {n:Int}{A:List Int}(n2:n<=60)(h:Beat n A):F_Q0V [.int n,L A]=.ok (.bl (seB n A)) true:=by
 have n1:=h.pos
 have hr:(rngOk 2&&rngOk (n+1))=true:=by simp only[rngOk,yN,decide_eq_true_eq]; omega
 have hlp:(ppI n).length<=60:=by
  have:=zI (λ d:Int=>ee d.toNat) (bp n); have:=cT n2; unfold ppI; omega
 have hc:∀ r2 r3 r4 r5 r6,c_Q0V_1 [some (.int n),some (L A),r2,r3,r4,r5,r6]=.ok (L ((ppI n).filter λ d=>aS A d)) true:=λ r2 r3 r4 r5 r6=>by
  have:=c5 (elt:=eVar 0) (cond:=(eCall F_Q0I (lCons (eVar 1) (lCons (eVar 0) lNil)))) (is:=[1]) (it:=(iSeq (eCall F_Q0R (lCons (eVar 0) lNil)))) (ρ:=[some (.int n),some (L A),r2,r3,r4,r5,r6]) (c:=λ d=>aS A d) (g:=λ d=>d) (xs:=ppI n) (f:=true)
   (by simp only[iSeq,eVar,lNil,lCons,eCall,R.bind,RL.bind,Dv.R.bindL,Dv.RL.bindL,Out.bind,af,yF,yQ,ix n1 n2]) (by omega) (λ d hd=>by
    have hd:=c7 n1 hd
    simp only[eVar,lNil,lCons,eCall,Dv.pick,R.bind,RL.bind,Dv.R.bindL,Dv.RL.bindL,Out.bind,af,ak,yH,yI,yF,yG,yU,yQ,kh (dY h) (show n<=200 by omega) hd.1 (show d<=60 by omega)]) (λ d _ _=>by simp only[eVar,Dv.pick,af,yH,yI,yF,yG,yU])
  simp only[Ag] at this
  exact this
 have hfl:((ppI n).filter λ d=>aS A d).length<=1000:=by
  have:=zI (λ d=>aS A d) (ppI n); omega
 have hse:((hV n).all λ d=>seF n ((ppI n).filter λ d=>aS A d) A d (aS A d))=seB n A:=by
  unfold seB
  rw[zU,zH,zH]
  refine forall_congr' λ d=>forall_congr' λ hd=>?_
  have hd:=fq hd
  unfold seF
  rcases iT hd.1 (show d<=60 by omega) with h1|h1
  ·rw[decide_eq_true h1,zX]
  ·rw[decide_eq_false (show ¬ 1<(aU d).length by rw[h1]; simp),Ac,yZ]
   cases hb:aS A d
   ·have hin:inP ((ppI n).filter λ d=>aS A d) d=false:=by
     unfold inP
     rw[h1,AS,List.all_nil,yQ]
     exact decide_eq_false λ hm=>by
      have:=(List.mem_filter.mp hm).2
      rw[hb] at this; exact Bool.noConfusion this
    rw[hin,yZ]
   ·simp
 rcases f7 (P:=(ppI n).filter λ d=>aS A d) hfl n2 h (hV n) .no .no .no .no (λ d hd=>fq hd) with ⟨a,z3,z4,z5,z6,e⟩|⟨a,e⟩
 ·rw[hse] at a
  rw[a]
  simp only[F_Q0V,b_Q0V,b_Q0V_t2,b_Q0V_t1,Dv.fn,sCons,sSet,bo,Dv.give,Dv.open_,aF,au,aO,sRet,sFor,iRange2,eOp,eVar,eInt,eBl,Dv.all,R.bind,RL.bind,Out.bind,aJ,am,af,yH,yI,yJ,yT,List.replicate,yO,yS,yF,yL,yK,yV,if_true,Nat.reduceAdd,Nat.reduceSub,aP,hc,hr,ik n1,e]
 ·rw[hse] at a
  rw[a]
  simp only[F_Q0V,b_Q0V,b_Q0V_t2,b_Q0V_t1,Dv.fn,sCons,sSet,bo,Dv.give,Dv.open_,aF,au,aO,sFor,iRange2,eOp,eVar,eInt,Dv.all,R.bind,RL.bind,Out.bind,aJ,am,af,yH,yI,yJ,yT,List.replicate,yO,yS,yF,yL,yK,yV,if_true,Nat.reduceAdd,Nat.reduceSub,aP,hc,hr,ik n1,e]
noncomputable def stp (p:Int):Nat->Int->Int
 | 0,x=>x
 | m+1,x=>if x%p=0 then stp p m (x/p) else x
noncomputable def fU (n q:Int):List Int:=(upto (lpf q.toNat)).map λ k=>k*stp (lpf q.toNat:Int) 100000 n*(q/(lpf q.toNat:Int))
noncomputable def b0 (xs row:List Int):List Int:=xs.flatMap λ s=>row.map λ r=>s+r
noncomputable def stP (n:Int)(P:List Int):List Int->List Int->List Int
 | [],st=>st
 | q::r,st=>if q∈P then stP n P r st else stP n P r (b0 st (fU n q))
noncomputable def df (n:Int)(st row:List Int):List Int:=row.flatMap λ r=>st.map λ s=>(s+r)%n
noncomputable def stL (n:Int)(P:List Int):List Int->List Int->List Int
 | [],st=>st
 | q::r,st=>if q∈P then stL n P r st else stL n P r (df n st (fU n q))
noncomputable def upB:List Int->Bool
 | []=>true
 | [_]=>true
 | a::b::r=>decide (a<b)&&upB (b::r)
noncomputable def eJ (n:Int)(P:List Int):List Int:=Dv.isort (stL n P (ppI n) [0])
theorem oF:((List.range 61).all λ n=>decide (n<1) || (ppw n).all λ q=>okI (F_Q16 [.int (n:Int),.int (q:Int)]) (fU n q))=true:=by decide +kernel
noncomputable def gL (d:Int):List Int->List Int->List Int
 | c,[]=>c
 | c,p::r=>gL d (List.zipWith (λ a b=>a-b) c (c.drop (d/p).toNat++c.take (d/p).toNat)) r
noncomputable def wL (xs:List Int)(d:Int):Bool:=(gL d ((upto d.toNat).map λ s=>T xs (dl d) s) (aE d)).all λ x=>decide (x=0)
theorem vP {d o:Int}{g:Int->Int}(hg:Per d g)(o0:0<=o)(o1:o<=d):((upto d.toNat).map g).drop o.toNat++((upto d.toNat).map g).take o.toNat=(upto d.toNat).map λ s=>g (s+o):=by
 refine Ab λ i=>?_
 by_cases hi:i<d.toNat
 ·rw[uget (λ s=>g (s+o)) hi]
  by_cases h2:i+o.toNat<d.toNat
  ·rw[zF (by rw[zG,yP,upto_len]; omega),List.getElem?_drop,uget g (by omega)]
   congr 2
   omega
  ·rw[Ai (by rw[zG,yP,upto_len]; omega),zG,yP,upto_len,zO (by omega),uget g (by omega)]
   have:=hg ((i:Int)+o)
   rw[<- this]
   congr 2
   omega
 ·rw[zj (by rw[za,zG,zE,yP,upto_len]; omega),zj (by rw[yP,upto_len]; omega)]
theorem u4 {d:Int}:∀ (ps:List Int) {g:Int->Int},Per d g->(∀ p∈ps,0<=d/p/\d/p<=d)->gL d ((upto d.toNat).map g) ps=(upto d.toNat).map (gs d g ps)
 | [],g,_,_=>rfl
 | p::r,g,hg,hp=>by
  obtain⟨p0,p1⟩:=hp p (yR ..)
  unfold gL gs
  rw[vP hg p0 p1,List.zipWith_map,List.zipWith_self]
  exact u4 r (hg.stp _) λ q hq=>hp q (yM _ hq)
noncomputable def Zr (d:Int)(xs:List Int):Prop:=∀ s,gs d (T xs (dl d)) (aE d) s=0
theorem wO {d:Int}(h1:2<=d)(h2:d<=60){A:List Int}(h:wL A d=true):Zr d A:=by
 have hp:∀ p∈aE d,0<=d/p/\d/p<=d:=λ p hp=>by
  obtain⟨p2,p3,p4,_⟩:=(eI h1 h2).1 p hp
  exact⟨Int.ediv_nonneg (by omega) (by omega),Int.ediv_le_self _ (by omega)⟩
 have hper:Per d (T A (dl d)):=dl_per.T A
 unfold wL at h
 rw[u4 (aE d) hper hp] at h
 intro s
 have hs:=aN (n:=d) (a:=s) (by omega)
 have:=of_decide_eq_true (List.all_eq_true.mp h _ (List.mem_map.mpr ⟨s%d,mem_upto.mpr ⟨hs.1,by omega⟩,rfl⟩))
 have e:gs d (T A (dl d)) (aE d) s=gs d (T A (dl d)) (aE d) (s%d):=(lY (aE d) hper).dvd (by
  have:=zu s d
  exact⟨s/d,by omega⟩)
 rw[e]
 exact this
theorem vW (A:List Int)(g:Int->Int)(o s:Int):T A (λ s=>g s-g (s+o)) s=T A g s-T A g (s+o):=by
 induction A with
 | nil=>simp[eg]
 | cons a r ih =>
  rw[bv,bv,bv,ih]
  have:s-a+o=s+o-a:=by omega
  rw[this]
  omega
theorem v6 (d:Int)(A:List Int):∀ (ps:List Int) (g:Int->Int) (s:Int),gs d (T A g) ps s=T A (gs d g ps) s
 | [],g,s=>rfl
 | p::r,g,s=>by
  unfold gs
  have e:(λ s=>T A g s-T A g (s+d/p))=T A (λ s=>g s-g (s+d/p)):=funext λ s=>(vW A g (d/p) s).symm
  rw[e]
  exact v6 d A r _ s
theorem rZ (A:List Int){g:Int->Int}(h:∀ s,g s=0)(s:Int):T A g s=0:=by
 induction A with
 | nil=>exact eg g s
 | cons a r ih=>rw[bv,h,ih]; rfl
theorem xY (A B:List Int)(g:Int->Int)(s:Int):T (A++B) g s=T A g s+T B g s:=by
 induction A with
 | nil=>rw[yS,eg]; omega
 | cons a r ih=>rw[yO,bv,bv,ih]; omega
theorem xJ {n:Int}{g:Int->Int}(hg:Per n g)(x:Int)(st:List Int)(s:Int):T (st.map λ y=>(y+x)%n) g s=T st g (s-x):=by
 induction st with
 | nil=>rw[yI,eg,eg]
 | cons a r ih =>
  rw[yH,bv,bv,ih]
  have:g (s-(a+x)%n)=g (s-x-a):=hg.dvd (by
   have:=zu (a+x) n
   exact⟨(a+x)/n,by omega⟩)
  rw[this]
theorem hI {n:Int}{g:Int->Int}(hg:Per n g)(st:List Int)(s:Int):∀ row:List Int,T (df n st row) g s=T row (T st g) s
 | []=>by rw[eg]; exact eg g s
 | x::r=>by
  have e:df n st (x::r)=(st.map λ y=>(y+x)%n)++df n st r:=by unfold df; rw[Bu]
  rw[e,xY,hI hg st s r,bv,xJ hg]
theorem Zr.row {n d:Int}(hg:Per n (dl d)){st row:List Int}(h:Zr d row):Zr d (df n st row):=λ s=>by
 have e:T (df n st row) (dl d)=T st (T row (dl d)):=funext λ s=>by rw[hI hg,vY]
 rw[e,v6]
 exact rZ st h s
theorem Zr.st {n d:Int}(hg:Per n (dl d)){st row:List Int}(h:Zr d st):Zr d (df n st row):=λ s=>by
 have e:T (df n st row) (dl d)=T row (T st (dl d)):=funext λ s=>hI hg st s row
 rw[e,v6]
 exact rZ row h s
theorem Zr.stL {n d:Int}{P:List Int}(hg:Per n (dl d)):∀ (qs st:List Int),(Zr d st\/∃ q∈qs,q∉P/\Zr d (fU n q))->Zr d (stL n P qs st)
 | [],st,h=>by
  rcases h with h|⟨q,hq,_⟩
  ·exact h
  ·cases hq
 | q::r,st,h=>by
  unfold Cw.stL
  by_cases hp:q∈P
  ·rw[if_pos hp]
   refine Zr.stL hg r st ?_
   rcases h with h|⟨q',hq,h1,h2⟩
   ·exact .inl h
   ·rcases List.mem_cons.mp hq with rfl|hq
    ·exact absurd hp h1
    ·exact .inr ⟨q',hq,h1,h2⟩
  ·rw[if_neg hp]
   refine Zr.stL hg r _ ?_
   rcases h with h|⟨q',hq,h1,h2⟩
   ·exact .inl (h.st hg)
   ·rcases List.mem_cons.mp hq with rfl|hq
    ·exact .inl (h2.row hg)
    ·exact .inr ⟨q',hq,h1,h2⟩
theorem vV {A B:List Int}(h:A.Perm B)(g:Int->Int)(s:Int):T A g s=T B g s:=by
 induction h with
 | nil=>rfl
 | cons x _ ih=>rw[bv,bv,ih]
 | swap x y l=>rw[bv,bv,bv,bv]; omega
 | trans _ _ i1 i2=>rw[i1,i2]
theorem Zr.due {n d:Int}{P:List Int}(h:Zr d (Cw.stL n P (ppI n) [0])):Zr d (eJ n P):=λ s=>by
 have e:T (eJ n P) (dl d)=T (Cw.stL n P (ppI n) [0]) (dl d):=funext λ s=>vV (bf _) _ s
 rw[e]
 exact h s
theorem mq:((List.range 61).all λ n=>decide (n<1) || ((bp n).all λ d=>(aU d).all λ q=>decide (q∈ppI n)&&wL (fU n q) d))=true:=by decide +kernel
theorem oX:((List.range 61).all λ n=>decide (n<1) || (subs (ppw n)).all λ S=>(Dv.isort ((stP n (ptI S) (ppI n) [0]).map (·%(n:Int))) == eJ n (ptI S))&&(upB (eJ n (ptI S))&&((eJ n (ptI S)).all (λ x=>decide (0<=x)&&decide (x<(n:Int)))&&(decide ((stP n (ptI S) (ppI n) [0]).length<64)&&(decide ((stL n (ptI S) (ppI n) [0]).length<64)&&(decide (eJ n (ptI S)≠[])&&(decide ((eJ n (ptI S)).length*bW (S.map lpf)=n))))))))=true:=by decide +kernel
theorem fZ (x:Int)(xs row:List Int):b0 (x::xs) row=(row.map λ r=>x+r)++b0 xs row:=by
 unfold b0; rw[Bu]
theorem eF:∀ (xs row:List Int),(b0 xs row).length=xs.length*row.length
 | [],row=>by simp[b0]
 | x::r,row=>by rw[fZ,za,eF r,yP,yJ,zw]; omega
theorem gU {A:D}{row:List Int}:∀ (xs acc:List Int) (z:Sl),acc.length+xs.length*row.length<=10000->row.length<=10000 ->
  ∃ z',forGo 3 b_Q00_l1 (xs.map .int) [.sh A,.sh (L row),.ow (L acc),z]=.nx [.sh A,.sh (L row),.ow (L (acc++b0 xs row)),z']
 | [],acc,z,_,_=>⟨z,by simp[forGo,b0]⟩
 | x::r,acc,z,hl,hr=>by
  rw[yJ,zw] at hl
  have hc:c_Q00_1 [some A,some (L row),some (L acc),some (.int x)]=.ok (L (row.map λ r=>x+r)) true:=by
   unfold c_Q00_1
   refine b7 (f:=false) (xs:=row) ?_ (by omega) λ y hy=>?_
   ·simp only[iSeq,eVar,ak,yF,yG]
   ·simp only[eOp,eVar,Dv.pick,R.bind,RL.bind,Out.bind,af,yH,yI,yF,yG,yU,aP]
  have hm:acc.length+row.length<=Dv.mx:=by unfold Dv.mx; omega
  obtain⟨z',e⟩:=gU (A:=A) (row:=row) r (acc++row.map λ r=>x+r) (.sh (.int x)) (by rw[za,yP]; omega) hr
  refine⟨z',?_⟩
  rw[yH,aL (st':=[.sh A,.sh (L row),.ow (L (acc++row.map λ r=>x+r)),.sh (.int x)]),e,fZ,zZ]
  simp only[b_Q00_l1,sExt,Dv.all,am,aB,yH,yI,yF,yG,yL,yK,yQ,if_true,bh,yP,hc,decide_eq_true hm,<- An]
theorem jV {xs row:List Int}(h:xs.length*row.length<=1000)(hr:row.length<=1000):F_Q00 [L xs,L row]=.ok (L (b0 xs row)) true:=by
 obtain⟨z,e⟩:=gU (A:=L xs) (row:=row) xs [] .no (by simp; omega) (by omega)
 rw[yS] at e
 simp only[yI,L] at e
 simp only[F_Q00,b_Q00,b_Q00_t2,b_Q00_t1,Dv.fn,sCons,sSet,bz,Dv.give,Dv.open_,aM,aF,au,aO,sRetO,sFor,iSeq,eVar,eLst,lNil,R.bind,RL.bind,Out.bind,ak,yH,yI,yJ,yT,List.replicate,yO,yS,yF,yG,yL,yK,yX,yV,yU,Nat.reduceAdd,Nat.reduceSub,bh,L,e]
theorem mP (n q:Int):(fU n q).length=lpf q.toNat:=by unfold fU; rw[yP,upto_len]
theorem l7 {n:Int}{P:List Int}:∀ (qs st:List Int),(∀ q∈qs,2<=q/\q<=60)->st.length<=(stP n P qs st).length
 | [],st,_=>y4 _
 | q::r,st,h=>by
  unfold stP
  have hr:=λ y hy=>h y (yM q hy)
  split
  ·exact l7 r st hr
  ·have:=l7 (n:=n) (P:=P) r (b0 st (fU n q)) hr
   obtain⟨h1,h2⟩:=h q (yR ..)
   have lr:=fP h1 h2
   rw[eF,mP] at this
   have:st.length*1<=st.length*lpf q.toNat:=Nat.mul_le_mul_left _ (by omega)
   omega
theorem wP {n q:Int}(n1:1<=n)(n2:n<=60)(h:q∈ppI n):F_Q16 [.int n,.int q]=.ok (L (fU n q)) true:=by
 have:=List.all_eq_true.mp oF n.toNat (List.mem_range.mpr (by omega))
 have en:((n.toNat:Nat):Int)=n:=by omega
 rw[decide_eq_false (by omega),zm] at this
 rw[gh n1 n2] at h
 obtain⟨i,hi,rfl⟩:=List.mem_map.mp h
 have:=jJ (List.all_eq_true.mp this i hi)
 rw[en] at this
 exact this
theorem fJ {n:Int}{A P:List Int}(n1:1<=n)(n2:n<=60):∀ (qs st:List Int) (z:Sl),(∀ q∈qs,q∈ppI n)->(stP n P qs st).length<64 ->
  ∃ z',forGo 4 b_Q10_l1 (qs.map .int) [.sh (.int n),.sh (L A),.ow (L P),.ow (L st),z]=.nx [.sh (.int n),.sh (L A),.ow (L P),.ow (L (stP n P qs st)),z']
 | [],st,z,_,_=>⟨z,rfl⟩
 | q::r,st,z,h,hl=>by
  have hq:=h q (yR ..)
  have hr:=λ y hy=>h y (yM q hy)
  have rg:∀ y∈r,2<=y/\y<=60:=λ y hy=>by
   obtain⟨a,b,_,_⟩:=c7 n1 (hr y hy)
   exact⟨a,by omega⟩
  obtain⟨q1,q2,_,_⟩:=c7 n1 hq
  unfold stP at hl ⊢
  by_cases hp:q∈P
  ·rw[if_pos hp] at hl ⊢
   obtain⟨z',e⟩:=fJ n1 n2 r st (.sh (.int q)) hr hl
   refine⟨z',?_⟩
   rw[yH,aL (st':=[.sh (.int n),.sh (L A),.ow (L P),.ow (L st),.sh (.int q)]),e]
   simp only[b_Q10_l1,sNil,sIf,eCm,eVar,Dv.all,R.bind,RL.bind,Out.bind,am,aB,af,ak,yH,yI,yF,yG,yL,yK,zM,iy,decide_eq_true hp]
  ·rw[if_neg hp] at hl ⊢
   have ge:=l7 (n:=n) (P:=P) r (b0 st (fU n q)) rg
   have lr:=fP q1 (show q<=60 by omega)
   rw[eF] at ge
   have ad:=jV (xs:=st) (row:=fU n q) (by omega) (by rw[mP]; omega)
   have ro:=wP n1 n2 hq
   obtain⟨z',e⟩:=fJ n1 n2 r (b0 st (fU n q)) (.sh (.int q)) hr hl
   refine⟨z',?_⟩
   rw[yH,aL (st':=[.sh (.int n),.sh (L A),.ow (L P),.ow (L (b0 st (fU n q))),.sh (.int q)]),e]
   simp only[b_Q10_l1,sSet,bo,sIf,eCm,eVar,lNil,lCons,eCall,Dv.all,R.bind,RL.bind,Dv.R.bindL,Dv.RL.bindL,Out.bind,am,aB,af,ak,yH,yI,yF,yG,yL,yK,yQ,AK,iy,decide_eq_false hp,ro,ad]
noncomputable def pwH (n:Int)(A:List Int):List Int:=(ppI n).filter λ d=>aS A d
noncomputable def due (n:Int)(A:List Int):List Int:=eJ n (pwH n A)
theorem rY:∀ {xs:List Int},upB xs=true->xs.Pairwise (·<·)
 | [],_=>.nil
 | [x],_=>by simp
 | a::b::r,h=>by
  unfold upB at h
  rw[yN,decide_eq_true_eq] at h
  have ih:=rY h.2
  refine List.pairwise_cons.mpr ⟨λ y hy=>?_,ih⟩
  rcases List.mem_cons.mp hy with rfl|hy
  ·exact h.1
  ·have:=(List.pairwise_cons.mp ih).1 y hy; omega
structure Due (n:Int)(P:List Int)(S:List Nat):Prop where
 made:Dv.isort ((stP n P (ppI n) [0]).map (·%n))=eJ n P
 beat:Beat n (eJ n P)
 lp:(stP n P (ppI n) [0]).length<64
 ll:(stL n P (ppI n) [0]).length<64
 prod:(eJ n P).length*bW (S.map lpf)=n.toNat
 has:∀ d,1<d->d<=n->n%d=0->inP P d=true\/aS (eJ n P) d=true
theorem t8 {n:Int}{A:List Int}(n1:1<=n)(n2:n<=60):∃ S,pwH n A=ptI S/\Due n (pwH n A) S:=by
 obtain⟨S,hS,e⟩:=kI n1 n2 (λ d=>aS A d)
 have e:pwH n A=ptI S:=e
 refine⟨S,e,?_⟩
 rw[e]
 have:=List.all_eq_true.mp oX n.toNat (List.mem_range.mpr (by omega))
 have en:((n.toNat:Nat):Int)=n:=by omega
 rw[decide_eq_false (by omega),zm] at this
 have:=List.all_eq_true.mp this S hS
 simp only[en,yN,decide_eq_true_eq] at this
 obtain⟨t1,t2,t3,t4,t5,t6,t7⟩:=this
 have bt:Beat n (eJ n (ptI S)):=⟨t6,rY t2,λ x hx=>by
  have:=List.all_eq_true.mp t3 x hx
  rw[yN,decide_eq_true_eq,decide_eq_true_eq] at this
  exact this⟩
 refine⟨beq_iff_eq.mp t1,bt,t4,t5,t7,λ d d1 d2 d3=>?_⟩
 cases hi:inP (ptI S) d with
 | true=>exact .inl rfl
 | false =>
  refine .inr ((rE (show 2<=d by omega) (show d<=60 by omega) (show n<=200 by omega) (dY bt)).mpr ?_)
  have hr:=List.all_eq_true.mp mq n.toNat (List.mem_range.mpr (by omega))
  rw[decide_eq_false (by omega),zm,en] at hr
  have hr:=List.all_eq_true.mp hr d ((cW n1).mpr ⟨d1,d2,d3⟩)
  unfold inP at hi
  obtain⟨q,hq,hn⟩:∃ q∈aU d,q∉ptI S:=by
   by_cases hx:∃ q∈aU d,q∉ptI S
   ·exact hx
   ·exfalso
    have:(aU d).all (λ q=>decide (q∈ptI S))=true:=List.all_eq_true.mpr λ q hq=>by
     by_cases hz:q∈ptI S
     ·exact decide_eq_true hz
     ·exact absurd ⟨q,hq,hz⟩ hx
    rw[hi] at this
    cases this
  have hr:=List.all_eq_true.mp hr q hq
  rw[yN,decide_eq_true_eq] at hr
  have hper:Per n (dl d):=λ s=>dl_per.dvd (by
   have:=zu n d
   exact⟨-(n/d),by rw[BX]; omega⟩)
  exact(Zr.stL hper (ppI n) [0] (.inr ⟨q,hr.1,hn,wO (by omega) (by omega) hr.2⟩)).due
theorem nC {n:Int}{A:List Int}(n2:n<=60)(h:Beat n A)(f:frB n A=true)(s:seB n A=true):F_Q10 [.int n,L A]=.ok (L (due n A)) true:=by
 have n1:=h.pos
 obtain⟨S,eS,d⟩:=t8 (A:=A) n1 n2
 have e1:=et n2 h
 have e2:=dW n2 h
 rw[f] at e1
 rw[s] at e2
 have e3:=cP n2 h
 have e4:=du n1 n2
 obtain⟨z,e5⟩:=fJ (A:=A) (P:=pwH n A) n1 n2 (ppI n) [0] .no (λ q hq=>hq) d.lp
 have bt:=d.beat
 have e6:=kg (n:=n) (xs:=stP n (pwH n A) (ppI n) [0]) n1 n2 d.lp (by rw[d.made]; exact bt)
 rw[d.made] at e6
 have e3:F_Q13 [.int n,L A]=.ok (L (pwH n A)) true:=e3
 have ld:L [0]=.lst [.int 0]:=rfl
 rw[ld] at e5
 simp only[F_Q10,b_Q10,b_Q10_t4,b_Q10_t3,b_Q10_t2,b_Q10_t1,Dv.fn,sCons,sNil,sSet,bo,lv,Dv.give,Dv.open_,aM,aF,au,aO,sIf,sRet,sFor,iSeq,eOr,eNot,eVar,eInt,eLst,lNil,lCons,eCall,Dv.all,R.bind,RL.bind,Dv.R.bindL,Dv.RL.bindL,Out.bind,aJ,am,aB,af,ak,yH,yI,yJ,yT,List.replicate,yO,yS,yF,yG,yL,yK,yX,yV,yU,yQ,yZ,zM,Nat.reduceAdd,Nat.reduceSub,e1,e2,e3,e4,e5,e6]
 rfl
theorem tO {n:Int}{A:List Int}(n2:n<=60)(h:Beat n A)(q:¬ (frB n A=true/\seB n A=true)):F_Q10 [.int n,L A]=.exc "NoRule":=by
 have e1:=et n2 h
 have e2:=dW n2 h
 cases hf:frB n A with
 | false =>
  rw[hf] at e1
  simp only[F_Q10,b_Q10,b_Q10_t4,b_Q10_t3,b_Q10_t2,b_Q10_t1,Dv.fn,sCons,sIf,eOr,eNot,eVar,lNil,lCons,eCall,Dv.all,R.bind,RL.bind,Dv.R.bindL,Dv.RL.bindL,Out.bind,aJ,am,af,ak,yH,yI,yJ,yT,List.replicate,yO,yS,yF,yG,yQ,yZ,AK,Nat.reduceAdd,Nat.reduceSub,e1,sRaise]
 | true =>
  cases hs:seB n A with
  | false =>
   rw[hf] at e1
   rw[hs] at e2
   simp only[F_Q10,b_Q10,b_Q10_t4,b_Q10_t3,b_Q10_t2,b_Q10_t1,Dv.fn,sCons,sIf,eOr,eNot,eVar,lNil,lCons,eCall,Dv.all,R.bind,RL.bind,Dv.R.bindL,Dv.RL.bindL,Out.bind,aJ,am,af,ak,yH,yI,yJ,yT,List.replicate,yO,yS,yF,yG,yQ,yZ,zM,AK,Nat.reduceAdd,Nat.reduceSub,e1,e2,sRaise]
  | true=>exact absurd ⟨hf,hs⟩ q
noncomputable def gtT (rows:List (List Int))(j k:Int):Int:=(rows.getD j.toNat []).getD k.toNat 0
noncomputable def ptT (rows:List (List Int))(j k v:Int):List (List Int):=rows.set j.toNat ((rows.getD j.toNat []).set k.toNat v)
noncomputable def tot (rows:List (List Int)):Int:=(rows.map List.sum).sum
structure Tb (f g:Int)(rows:List (List Int)):Prop where
 len:(rows.length:Int)=f
 row:∀ r∈rows,(r.length:Int)=g
theorem Tb.rd {f g:Int}{rows:List (List Int)}(h:Tb f g rows){j:Int}(j0:0<=j)(j1:j<f):rows[j.toNat]?=some (rows.getD j.toNat []):=by
 have:=h.len
 have hj:j.toNat<rows.length:=by omega
 rw[yW,zf hj]; rfl
theorem Tb.rl {f g:Int}{rows:List (List Int)}(h:Tb f g rows){j:Int}(j0:0<=j)(j1:j<f):((rows.getD j.toNat []).length:Int)=g :=
 h.row _ (zN (h.rd j0 j1))
theorem Tb.at_ {f g:Int}{rows:List (List Int)}(h:Tb f g rows){j k:Int}(j0:0<=j)(j1:j<f)(k0:0<=k)(k1:k<g):Dv.at? ((rows.getD j.toNat []).map .int) k=some (.int (gtT rows j k)):=kM k0 (by rw[h.rl j0 j1]; exact k1)
theorem Tb.gt_ {f g:Int}{rows:List (List Int)}(h:Tb f g rows){j k:Int}(j0:0<=j)(j1:j<f)(k0:0<=k)(k1:k<g):(rows.getD j.toNat [])[k.toNat]?=some (gtT rows j k):=by
 have:=h.rl j0 j1
 have hk:k.toNat<(rows.getD j.toNat []).length:=by omega
 unfold gtT
 rw[yW (l:=rows.getD j.toNat []),zf hk]; rfl
theorem jv:∀ (l:List Int) (k:Nat) (v x:Int),l[k]?=some x->(l.set k v).sum=l.sum+(v-x)
 | [],k,v,x,h=>by simp at h
 | a::r,0,v,x,h=>by simp at h; subst h; simp; omega
 | a::r,k+1,v,x,h=>by
  rw[yG] at h
  rw[yK,Bh,Bh,jv r k v x h]; omega
theorem uQ (rows:List (List Int))(j:Nat)(r r':List Int)(h:rows[j]?=some r):tot (rows.set j r')=tot rows+(r'.sum-r.sum):=by
 unfold tot
 rw[AZ]
 exact jv _ _ _ _ (by rw[zi,h]; rfl)
theorem Tb.put {f g:Int}{rows:List (List Int)}(h:Tb f g rows){j k:Int}(v:Int)(j0:0<=j)(j1:j<f):Tb f g (ptT rows j k v) where
 len:=by unfold ptT; rw[zh]; exact h.len
 row:=λ r hr=>by
  unfold ptT at hr
  rcases List.mem_or_eq_of_mem_set hr with h1|h1
  ·exact h.row r h1
  ·rw[h1,zh]; exact h.rl j0 j1
theorem Tb.tot {f g:Int}{rows:List (List Int)}(h:Tb f g rows){j k:Int}(v:Int)(j0:0<=j)(j1:j<f)(k0:0<=k)(k1:k<g):Cw.tot (ptT rows j k v)=Cw.tot rows+(v-gtT rows j k):=by
 unfold ptT
 rw[uQ _ _ _ _ (h.rd j0 j1),jv _ _ _ _ (h.gt_ j0 j1 k0 k1)]; omega
theorem u7 (rows:List (List Int))(j k v:Int):rows.set j.toNat ((rows.getD j.toNat []).set k.toNat v)=ptT rows j k v:=rfl
theorem ut {s:List Int}{k0 f g l k:Int}(hk0:0<=k0)(hk1:k0<=1000)(hk:0<=k/\k<=10)(f2:2<=f)(g2:2<=g){A:D}{rows:List (List Int)}(h:Tb f g rows)(z8 z9 z10 z11 z12 z13:Sl) :
  ∃ rows' y8 y9 y10 y11 y12 y13,Tb f g rows'/\tot rows'=tot rows/\b_Q0F_l1 [.sh (L s),.sh (.int k0),.sh A,.sh (.int f),.sh (.int g),.sh (.int l),.dp (.tab rows),.sh (.int k),z8,z9,z10,z11,z12,z13]=.nx [.sh (L s),.sh (.int k0),.sh A,.sh (.int f),.sh (.int g),.sh (.int l),.dp (.tab rows'),.sh (.int k),y8,y9,y10,y11,y12,y13]:=by
 have f0:(0:Int)<f:=by omega
 have g0:(0:Int)<g:=by omega
 have f1':(0:Int)<f-1:=by omega
 have g1':(0:Int)<g-1:=by omega
 have hc:=bD (s:=s) (k:=k0+1+k) (by omega) (by omega)
 generalize cell s (k0+1+k)=c at hc
 have hm:=aZ (bS (i:=c) (j:=48271) (by decide) (by decide))
 generalize hN:c*48271%2147483647=N at *
 have r1:=aN (n:=f) (a:=N) f0
 generalize h1:N%f=one at *
 have r2:=aN (n:=f) (a:=one+1+N/8%(f-1)) f0
 generalize h2:(one+1+N/8%(f-1))%f=oth at *
 have r3:=aN (n:=g) (a:=N/64) g0
 generalize h3:N/64%g=he at *
 have r4:=aN (n:=g) (a:=he+1+N/512%(g-1)) g0
 generalize h4:(he+1+N/512%(g-1))%g=th at *
 generalize hlow:(if gtT rows oth he<gtT rows one th then gtT rows oth he else gtT rows one th)=low
 have a1:=h.rd r1.1 r1.2
 have a2:=h.rd r2.1 r2.2
 have b1:=h.at_ r1.1 r1.2 r4.1 r4.2
 have b2:=h.at_ r2.1 r2.2 r3.1 r3.2
 have b3:=h.at_ r1.1 r1.2 r3.1 r3.2
 have b4:=h.at_ r2.1 r2.2 r4.1 r4.2
 by_cases c1:0<low
 ·generalize hmx:(if gtT rows oth th > gtT rows one he then gtT rows oth th else gtT rows one he)=mxx
  by_cases c2:mxx<l
  ·have l1:=h.rl r1.1 r1.2
   have H1:=h.put (k:=he) (gtT rows one he+1) r1.1 r1.2
   have T1:=h.tot (gtT rows one he+1) r1.1 r1.2 r3.1 r3.2
   generalize hR1:ptT rows one he (gtT rows one he+1)=R1 at *
   have d1:=H1.rd r2.1 r2.2
   have d2:=H1.at_ r2.1 r2.2 r4.1 r4.2
   have l2:=H1.rl r2.1 r2.2
   have H2:=H1.put (k:=th) (gtT R1 oth th+1) r2.1 r2.2
   have T2:=H1.tot (gtT R1 oth th+1) r2.1 r2.2 r4.1 r4.2
   generalize hR2:ptT R1 oth th (gtT R1 oth th+1)=R2 at *
   have e1:=H2.rd r1.1 r1.2
   have e2:=H2.at_ r1.1 r1.2 r4.1 r4.2
   have l3:=H2.rl r1.1 r1.2
   have H3:=H2.put (k:=th) (gtT R2 one th-1) r1.1 r1.2
   have T3:=H2.tot (gtT R2 one th-1) r1.1 r1.2 r4.1 r4.2
   generalize hR3:ptT R2 one th (gtT R2 one th-1)=R3 at *
   have f1:=H3.rd r2.1 r2.2
   have f2':=H3.at_ r2.1 r2.2 r3.1 r3.2
   have l4:=H3.rl r2.1 r2.2
   have H4:=H3.put (k:=he) (gtT R3 oth he-1) r2.1 r2.2
   have T4:=H3.tot (gtT R3 oth he-1) r2.1 r2.2 r3.1 r3.2
   refine⟨ptT R3 oth he (gtT R3 oth he-1),.sh (.int N),.sh (.int one),.sh (.int oth),.sh (.int he),.sh (.int th),.sh (.int low),H4,by omega,?_⟩
   simp only[b_Q0F_l1,sCons,sSet,aw,sIf,eB2,Dv.max2D,Dv.min2D,eIx,Dv.ixD,eAnd,eCm,eOp,eVar,eInt,lNil,lCons,eCall,Dv.all,R.bind,RL.bind,Dv.R.bindL,Dv.RL.bindL,Out.bind,am,cS,af,ak,yH,yI,yF,yG,yL,yK,zc,yQ,if_true,aP,cg,cw,cz,eIxT,sPutT,hc,hm,ap (j:=2147483647) (by decide),hN,ap f0,h1,aW (j:=8) (by decide) (by decide),ap f1',h2,aW (j:=64) (by decide) (by decide),ap g0,h3,aW (j:=512) (by decide) (by decide),ap g1',h4,if_pos r1.1,if_pos r2.1,a1,a2,b1,b2,b3,b4,hlow,hmx,decide_eq_true c1,decide_eq_true c2,decide_eq_true r1.1,decide_eq_true r2.1,decide_eq_true r3.1,decide_eq_true r4.1,l1,l2,l3,l4,decide_eq_true r3.2,decide_eq_true r4.2,u7,hR1,hR2,hR3,d1,d2,e1,e2,f1,f2']
  ·refine⟨rows,.sh (.int N),.sh (.int one),.sh (.int oth),.sh (.int he),.sh (.int th),.sh (.int low),h,rfl,?_⟩
   simp only[b_Q0F_l1,sCons,sNil,sSet,aw,sIf,eB2,Dv.max2D,Dv.min2D,eIx,Dv.ixD,eAnd,eCm,eOp,eVar,eInt,lNil,lCons,eCall,Dv.all,R.bind,RL.bind,Dv.R.bindL,Dv.RL.bindL,Out.bind,am,cS,af,ak,yH,yI,yF,yG,yL,yK,zc,yQ,aP,cg,cw,cz,eIxT,hc,hm,ap (j:=2147483647) (by decide),hN,ap f0,h1,aW (j:=8) (by decide) (by decide),ap f1',h2,aW (j:=64) (by decide) (by decide),ap g0,h3,aW (j:=512) (by decide) (by decide),ap g1',h4,if_pos r1.1,if_pos r2.1,a1,a2,b1,b2,b3,b4,hlow,hmx,decide_eq_true c1,decide_eq_false c2]
 ·refine⟨rows,.sh (.int N),.sh (.int one),.sh (.int oth),.sh (.int he),.sh (.int th),.sh (.int low),h,rfl,?_⟩
  simp only[b_Q0F_l1,sCons,sNil,sSet,aw,sIf,eB2,Dv.min2D,eIx,Dv.ixD,eAnd,eCm,eOp,eVar,eInt,lNil,lCons,eCall,Dv.all,R.bind,RL.bind,Dv.R.bindL,Dv.RL.bindL,Out.bind,am,cS,af,ak,yH,yI,yF,yG,yL,yK,zc,yQ,aP,cg,cz,eIxT,hc,hm,ap (j:=2147483647) (by decide),hN,ap f0,h1,aW (j:=8) (by decide) (by decide),ap f1',h2,aW (j:=64) (by decide) (by decide),ap g0,h3,aW (j:=512) (by decide) (by decide),ap g1',h4,if_pos r1.1,if_pos r2.1,a1,a2,b1,b2,b3,b4,hlow,decide_eq_false c1]
theorem nR {s:List Int}{k0 f g l:Int}(hk0:0<=k0)(hk1:k0<=1000)(f2:2<=f)(g2:2<=g){A:D}:∀ (ks:List Int) (rows:List (List Int)) (z7 z8 z9 z10 z11 z12 z13:Sl),Tb f g rows->(∀ k∈ks,0<=k/\k<=10) ->
  ∃ rows' y7 y8 y9 y10 y11 y12 y13,Tb f g rows'/\tot rows'=tot rows/\forGo 7 b_Q0F_l1 (ks.map .int) [.sh (L s),.sh (.int k0),.sh A,.sh (.int f),.sh (.int g),.sh (.int l),.dp (.tab rows),z7,z8,z9,z10,z11,z12,z13]=.nx [.sh (L s),.sh (.int k0),.sh A,.sh (.int f),.sh (.int g),.sh (.int l),.dp (.tab rows'),y7,y8,y9,y10,y11,y12,y13]
 | [],rows,z7,z8,z9,z10,z11,z12,z13,h,_=>⟨rows,z7,z8,z9,z10,z11,z12,z13,h,rfl,rfl⟩
 | k::r,rows,z7,z8,z9,z10,z11,z12,z13,h,hk=>by
  obtain⟨R,y8,y9,y10,y11,y12,y13,H,T,e⟩:=ut (s:=s) (k0:=k0) (l:=l) (k:=k) (A:=A) hk0 hk1 (hk k (yR ..)) f2 g2 h z8 z9 z10 z11 z12 z13
  obtain⟨R',x7,x8,x9,x10,x11,x12,x13,H',T',e'⟩:=nR (s:=s) (k0:=k0) (l:=l) (A:=A) hk0 hk1 f2 g2 r R (.sh (.int k)) y8 y9 y10 y11 y12 y13 H (λ q hq=>hk q (yM _ hq))
  refine⟨R',x7,x8,x9,x10,x11,x12,x13,H',by omega,?_⟩
  rw[yH,aL (st':=_) e]
  exact e'
noncomputable def cmb:List (Int × Int × Int):=[(2,3,2),(2,3,4),(2,3,6),(2,3,8),(2,3,10),(3,2,2),(3,2,4),(3,2,6),(3,2,8),(3,2,10),(2,5,2),(2,5,4),(2,5,6),(3,5,2),(3,5,4)]
theorem eZ {s:List Int}{k0 f g l:Int}(hk0:0<=k0)(hk1:k0<=1000)(f2:2<=f)(g2:2<=g)(f9:f<=9)(g9:g<=9){A:D}{rows:List (List Int)}(h:Tb f g rows) :
  ∃ rows',Tb f g rows'/\tot rows'=tot rows/\b_Q0F_t4 [.sh (L s),.sh (.int k0),.sh A,.sh (.int f),.sh (.int g),.sh (.int l),.dp (.tab rows),.no,.no,.no,.no,.no,.no,.no]=.ret (.lst [.int (f*g*l),.int f,.int g,.tab rows']) true:=by
 obtain⟨R',x7,x8,x9,x10,x11,x12,x13,H',T',e'⟩:=nR (s:=s) (k0:=k0) (l:=l) (A:=A) hk0 hk1 f2 g2 (upto 6) rows .no .no .no .no .no .no .no h (λ k hk=>by have:=mem_upto.mp hk; omega)
 refine⟨R',H',T',?_⟩
 have hr:rngOk 6=true:=by decide
 have ht:(6:Int).toNat=6:=rfl
 have hfg:-(2 ^ 64)<f*g/\f*g<2 ^ 64:=by
  have h1:f*g<=9*g:=AB f9 (by omega)
  have h2:0<=f*g:=AI (by omega) (by omega)
  omega
 simp only[b_Q0F_t4,b_Q0F_t5,sRetTb,sCons,Dv.give,sFor,iRange,eOp,eVar,eInt,Dv.all,R.bind,RL.bind,Out.bind,am,cS,af,yH,yI,yF,yG,yV,if_true,hr,bw,ht,e',aZ (bU (i:=f) (j:=g) (by omega) (by omega)),aZ (bU (i:=f*g) (j:=l) hfg.1 hfg.2)]
structure Evd (R:R)(n f g:Int)(rows:List (List Int)):Prop where
 ok:R=.ok (.lst [.int n,.int f,.int g,.tab rows]) true
 tb:Tb f g rows
 to:tot rows=f*g
 cm:∃ l,(f,g,l)∈cmb/\n=f*g*l
theorem xo:Tb 2 3 [[1,1,1],[1,1,1]]:=⟨rfl,by simp⟩
theorem yo:Tb 2 5 [[1,1,1,1,1],[1,1,1,1,1]]:=⟨rfl,by simp⟩
theorem yy:Tb 3 2 [[1,1],[1,1],[1,1]]:=⟨rfl,by simp⟩
theorem yw:Tb 3 5 [[1,1,1,1,1],[1,1,1,1,1],[1,1,1,1,1]]:=⟨rfl,by simp⟩
theorem ic {x:Int}(h:0<=x/\x<5):(2,3,(1+x)*2)∈cmb/\(3,2,(1+x)*2)∈cmb:=by
 have:x=0\/x=1\/x=2\/x=3\/x=4:=by omega
 rcases this with rfl|rfl|rfl|rfl|rfl <;>decide
theorem pP {x:Int}(h:0<=x/\x<3):(2,5,(1+x)*2)∈cmb:=by
 have:x=0\/x=1\/x=2:=by omega
 rcases this with rfl|rfl|rfl <;>decide
theorem sx {x:Int}(h:0<=x/\x<2):(3,5,(1+x)*2)∈cmb:=by
 have:x=0\/x=1:=by omega
 rcases this with rfl|rfl <;>decide
theorem five {k:Int}(h0:0<=k)(h1:k<5):k=0\/k=1\/k=2\/k=3\/k=4:=by omega
theorem oH {s:List Int}{k0:Int}(hk0:0<=k0)(hk1:k0<=1000):∃ n f g rows,Evd (F_Q0F [L s,.int k0,.int 60]) n f g rows:=by
 have hc:=bD (s:=s) (k:=k0) (by omega) (by omega)
 generalize cell s k0=c at hc
 have r5:=aN (n:=5) (a:=c) (by decide)
 have hm5:=five r5.1 r5.2
 have x0:Dv.at? [.tup [.int 2,.int 3],.tup [.int 2,.int 5],.tup [.int 3,.int 2],.tup [.int 2,.int 3],.tup [.int 3,.int 5]] 0=some (.tup [.int 2,.int 3]):=rfl
 have x1:Dv.at? [.tup [.int 2,.int 3],.tup [.int 2,.int 5],.tup [.int 3,.int 2],.tup [.int 2,.int 3],.tup [.int 3,.int 5]] 1=some (.tup [.int 2,.int 5]):=rfl
 have x2:Dv.at? [.tup [.int 2,.int 3],.tup [.int 2,.int 5],.tup [.int 3,.int 2],.tup [.int 2,.int 3],.tup [.int 3,.int 5]] 2=some (.tup [.int 3,.int 2]):=rfl
 have x3:Dv.at? [.tup [.int 2,.int 3],.tup [.int 2,.int 5],.tup [.int 3,.int 2],.tup [.int 2,.int 3],.tup [.int 3,.int 5]] 3=some (.tup [.int 2,.int 3]):=rfl
 have x4:Dv.at? [.tup [.int 2,.int 3],.tup [.int 2,.int 5],.tup [.int 3,.int 2],.tup [.int 2,.int 3],.tup [.int 3,.int 5]] 4=some (.tup [.int 3,.int 5]):=rfl
 have q5:=aN (n:=5) (a:=c/5) (by decide)
 have q3:=aN (n:=3) (a:=c/5) (by decide)
 have q2:=aN (n:=2) (a:=c/5) (by decide)
 have c23:∀ r0 r1 r2 r5 r6 r7 r8 r9 ra rb rc rd,c_Q0F_1 [r0,r1,r2,some (.int 2),some (.int 3),r5,r6,r7,r8,r9,ra,rb,rc,rd]=.ok (.tab [[1,1,1],[1,1,1]]) true:=λ _ _ _ _ _ _ _ _ _ _ _ _=>rfl
 have c25:∀ r0 r1 r2 r5 r6 r7 r8 r9 ra rb rc rd,c_Q0F_1 [r0,r1,r2,some (.int 2),some (.int 5),r5,r6,r7,r8,r9,ra,rb,rc,rd]=.ok (.tab [[1,1,1,1,1],[1,1,1,1,1]]) true:=λ _ _ _ _ _ _ _ _ _ _ _ _=>rfl
 have c32:∀ r0 r1 r2 r5 r6 r7 r8 r9 ra rb rc rd,c_Q0F_1 [r0,r1,r2,some (.int 3),some (.int 2),r5,r6,r7,r8,r9,ra,rb,rc,rd]=.ok (.tab [[1,1],[1,1],[1,1]]) true:=λ _ _ _ _ _ _ _ _ _ _ _ _=>rfl
 have c35:∀ r0 r1 r2 r5 r6 r7 r8 r9 ra rb rc rd,c_Q0F_1 [r0,r1,r2,some (.int 3),some (.int 5),r5,r6,r7,r8,r9,ra,rb,rc,rd]=.ok (.tab [[1,1,1,1,1],[1,1,1,1,1],[1,1,1,1,1]]) true:=λ _ _ _ _ _ _ _ _ _ _ _ _=>rfl
 have m2:∀ x:Int,0<=x->x<=100->opD .mul (.int x) (.int 2)=.ok (.int (x*2)) true:=λ x h1 h2=>aZ (bU (by omega) (by omega))
 have s12:opD .mul (.int 2) (.int 3)=.ok (.int 6) true:=rfl
 have s10:opD .mul (.int 2) (.int 5)=.ok (.int 10) true:=rfl
 have s6:opD .mul (.int 3) (.int 2)=.ok (.int 6) true:=rfl
 have s15:opD .mul (.int 3) (.int 5)=.ok (.int 15) true:=rfl
 have u6:opD .mul (.int 6) (.int 2)=.ok (.int 12) true:=rfl
 have u10:opD .mul (.int 10) (.int 2)=.ok (.int 20) true:=rfl
 have u15:opD .mul (.int 15) (.int 2)=.ok (.int 30) true:=rfl
 have v12:opD .fdiv (.int 60) (.int 12)=.ok (.int 5) true:=rfl
 have v20:opD .fdiv (.int 60) (.int 20)=.ok (.int 3) true:=rfl
 have v30:opD .fdiv (.int 60) (.int 30)=.ok (.int 2) true:=rfl
 have w5':(if (5:Int) > 1 then (5:Int) else 1)=5:=rfl
 have w3':(if (3:Int) > 1 then (3:Int) else 1)=3:=rfl
 have w2':(if (2:Int) > 1 then (2:Int) else 1)=2:=rfl
 have y5:=m2 (1+c/5%5) (by omega) (by omega)
 have y3:=m2 (1+c/5%3) (by omega) (by omega)
 have y2:=m2 (1+c/5%2) (by omega) (by omega)
 rcases hm5 with h|h|h|h|h
 ·obtain⟨Rw,H,T,e⟩:=eZ (s:=s) (k0:=k0) (f:=2) (g:=3) (l:=(1+c/5%5)*2) (A:=.int 60) hk0 hk1 (by decide) (by decide) (by decide) (by decide) xo
  refine⟨_,_,_,Rw,?_,H,T,⟨_,(ic q5).1,rfl⟩⟩
  simp only[F_Q0F,b_Q0F,b_Q0F_t1,b_Q0F_t2,b_Q0F_t3,Dv.fn,sCons,sSet,aw,Dv.give,Dv.open_,aM,aF,au,sUnpack,Dv.setAll,eB2,Dv.max2D,eIx,Dv.ixD,eOp,eVar,eInt,eLst,eTup,lNil,lCons,eCall,Dv.all,R.bind,RL.bind,Dv.R.bindL,Dv.RL.bindL,Out.bind,aJ,am,sSetD,af,ak,dI,yH,yI,yJ,yT,List.replicate,yO,yS,yF,yG,yL,yK,yX,yV,yU,yQ,zD,if_true,Nat.reduceAdd,Nat.reduceSub,aP,hc,ap (j:=5) (by decide),h,x0,aW (i:=c) (j:=5) (by decide) (by decide),s12,s10,s6,s15,u6,u10,u15,v12,w5',ap (j:=5) (by decide),y5,c23,e]
 ·obtain⟨Rw,H,T,e⟩:=eZ (s:=s) (k0:=k0) (f:=2) (g:=5) (l:=(1+c/5%3)*2) (A:=.int 60) hk0 hk1 (by decide) (by decide) (by decide) (by decide) yo
  refine⟨_,_,_,Rw,?_,H,T,⟨_,pP q3,rfl⟩⟩
  simp only[F_Q0F,b_Q0F,b_Q0F_t1,b_Q0F_t2,b_Q0F_t3,Dv.fn,sCons,sSet,aw,Dv.give,Dv.open_,aM,aF,au,sUnpack,Dv.setAll,eB2,Dv.max2D,eIx,Dv.ixD,eOp,eVar,eInt,eLst,eTup,lNil,lCons,eCall,Dv.all,R.bind,RL.bind,Dv.R.bindL,Dv.RL.bindL,Out.bind,aJ,am,sSetD,af,ak,dI,yH,yI,yJ,yT,List.replicate,yO,yS,yF,yG,yL,yK,yX,yV,yU,yQ,zD,if_true,Nat.reduceAdd,Nat.reduceSub,aP,hc,ap (j:=5) (by decide),h,x1,aW (i:=c) (j:=5) (by decide) (by decide),s12,s10,s6,s15,u6,u10,u15,v20,w3',ap (j:=3) (by decide),y3,c25,e]
 ·obtain⟨Rw,H,T,e⟩:=eZ (s:=s) (k0:=k0) (f:=3) (g:=2) (l:=(1+c/5%5)*2) (A:=.int 60) hk0 hk1 (by decide) (by decide) (by decide) (by decide) yy
  refine⟨_,_,_,Rw,?_,H,T,⟨_,(ic q5).2,rfl⟩⟩
  simp only[F_Q0F,b_Q0F,b_Q0F_t1,b_Q0F_t2,b_Q0F_t3,Dv.fn,sCons,sSet,aw,Dv.give,Dv.open_,aM,aF,au,sUnpack,Dv.setAll,eB2,Dv.max2D,eIx,Dv.ixD,eOp,eVar,eInt,eLst,eTup,lNil,lCons,eCall,Dv.all,R.bind,RL.bind,Dv.R.bindL,Dv.RL.bindL,Out.bind,aJ,am,sSetD,af,ak,dI,yH,yI,yJ,yT,List.replicate,yO,yS,yF,yG,yL,yK,yX,yV,yU,yQ,zD,if_true,Nat.reduceAdd,Nat.reduceSub,aP,hc,ap (j:=5) (by decide),h,x2,aW (i:=c) (j:=5) (by decide) (by decide),s12,s10,s6,s15,u6,u10,u15,v12,w5',ap (j:=5) (by decide),y5,c32,e]
 ·obtain⟨Rw,H,T,e⟩:=eZ (s:=s) (k0:=k0) (f:=2) (g:=3) (l:=(1+c/5%5)*2) (A:=.int 60) hk0 hk1 (by decide) (by decide) (by decide) (by decide) xo
  refine⟨_,_,_,Rw,?_,H,T,⟨_,(ic q5).1,rfl⟩⟩
  simp only[F_Q0F,b_Q0F,b_Q0F_t1,b_Q0F_t2,b_Q0F_t3,Dv.fn,sCons,sSet,aw,Dv.give,Dv.open_,aM,aF,au,sUnpack,Dv.setAll,eB2,Dv.max2D,eIx,Dv.ixD,eOp,eVar,eInt,eLst,eTup,lNil,lCons,eCall,Dv.all,R.bind,RL.bind,Dv.R.bindL,Dv.RL.bindL,Out.bind,aJ,am,sSetD,af,ak,dI,yH,yI,yJ,yT,List.replicate,yO,yS,yF,yG,yL,yK,yX,yV,yU,yQ,zD,if_true,Nat.reduceAdd,Nat.reduceSub,aP,hc,ap (j:=5) (by decide),h,x3,aW (i:=c) (j:=5) (by decide) (by decide),s12,s10,s6,s15,u6,u10,u15,v12,w5',ap (j:=5) (by decide),y5,c23,e]
 ·obtain⟨Rw,H,T,e⟩:=eZ (s:=s) (k0:=k0) (f:=3) (g:=5) (l:=(1+c/5%2)*2) (A:=.int 60) hk0 hk1 (by decide) (by decide) (by decide) (by decide) yw
  refine⟨_,_,_,Rw,?_,H,T,⟨_,sx q2,rfl⟩⟩
  simp only[F_Q0F,b_Q0F,b_Q0F_t1,b_Q0F_t2,b_Q0F_t3,Dv.fn,sCons,sSet,aw,Dv.give,Dv.open_,aM,aF,au,sUnpack,Dv.setAll,eB2,Dv.max2D,eIx,Dv.ixD,eOp,eVar,eInt,eLst,eTup,lNil,lCons,eCall,Dv.all,R.bind,RL.bind,Dv.R.bindL,Dv.RL.bindL,Out.bind,aJ,am,sSetD,af,ak,dI,yH,yI,yJ,yT,List.replicate,yO,yS,yF,yG,yL,yK,yX,yV,yU,yQ,zD,if_true,Nat.reduceAdd,Nat.reduceSub,aP,hc,ap (j:=5) (by decide),h,x4,aW (i:=c) (j:=5) (by decide) (by decide),s12,s10,s6,s15,u6,u10,u15,v30,w2',ap (j:=2) (by decide),y2,c35,e]
noncomputable def atP (n C p:Int):Int:=(p*7+C)%n
theorem fV {s:List Int}{k0 n f g C:Int}{A:D}(hk0:0<=k0)(hk1:k0<=1000)(hC:cell s (k0+7)%1000003=C)(n1:1<=n)(f2:2<=f)(g2:2<=g):∀ (ks:List Int) (rows:List (List Int)) (found:List Int) (z8 z9 z10:Sl),Tb f g rows->(∀ k∈ks,0<=k/\k<=1000)->found.length+ks.length<=1000 ->
  ∃ rows' add y8 y9 y10,forGo 8 b_Q0M_l1 (ks.map .int) [.sh (L s),.sh (.int k0),.sh A,.sh (.int n),.sh (.int f),.sh (.int g),.dp (.tab rows),.ow (L found),z8,z9,z10]=.nx [.sh (L s),.sh (.int k0),.sh A,.sh (.int n),.sh (.int f),.sh (.int g),.dp (.tab rows'),.ow (L (found++add)),y8,y9,y10]/\add.Sublist (ks.map (atP n C))/\(add=[]->∀ k∈ks,gtT rows (atP n C k%f) (atP n C k%g)<=0)
 | [],rows,found,z8,z9,z10,h,_,_=>⟨rows,[],z8,z9,z10,by rw[zz]; rfl,.slnil,λ _ k hk=>nomatch hk⟩
 | k::r,rows,found,z8,z9,z10,h,hk,hl=>by
  rw[yJ] at hl
  have hkk:=hk k (yR ..)
  have n0:(0:Int)<n:=by omega
  have f0:(0:Int)<f:=by omega
  have g0:(0:Int)<g:=by omega
  have hc:=bD (s:=s) (k:=k0+7) (by omega) (by omega)
  have hm:=aZ (bS (i:=k) (j:=7) (by decide) (by decide))
  have ha:(k*7+C)%n=atP n C k:=rfl
  have rn:=aN (n:=n) (a:=k*7+C) n0
  rw[ha] at rn
  have e0:List.map (atP n C) (k::r)=atP n C k::r.map (atP n C):=rfl
  generalize hA:atP n C k=at_ at *
  have r1:=aN (n:=f) (a:=at_) f0
  have r2:=aN (n:=g) (a:=at_) g0
  have a1:=h.rd r1.1 r1.2
  have a2:=h.gt_ r1.1 r1.2 r2.1 r2.2
  have H1:=h.put (k:=at_%g) (gtT rows (at_%f) (at_%g)-1) r1.1 r1.2
  have d1:decide ((6:Nat)≠10)=true:=rfl
  have d2:decide ((6:Nat)≠7)=true:=rfl
  have d3:decide ((10:Nat)≠7)=true:=rfl
  have d4:decide ((10:Nat)<11)=true:=rfl
  have hmx:decide (found.length<Dv.mx)=true:=decide_eq_true (by unfold Dv.mx; omega)
  have e9:List.map D.int found++[D.int at_]=List.map D.int (found++[at_]):=by rw[An]; rfl
  by_cases hv:0<gtT rows (at_%f) (at_%g)
  ·obtain⟨R',add,y8,y9,y10,e,hs,_⟩:=fV (s:=s) (n:=n) (A:=A) hk0 hk1 hC n1 f2 g2 r (ptT rows (at_%f) (at_%g) (gtT rows (at_%f) (at_%g)-1)) (found++[at_]) (.sh (.int k)) (.sh (.int at_)) .no H1 (λ q hq=>hk q (yM _ hq)) (by rw[za,Aa]; omega)
   refine⟨R',at_::add,y8,y9,y10,?_,?_,λ hh=>nomatch hh⟩
   ·rw[yH,aL (st':=[.sh (L s),.sh (.int k0),.sh A,.sh (.int n),.sh (.int f),.sh (.int g),.dp (.tab (ptT rows (at_%f) (at_%g) (gtT rows (at_%f) (at_%g)-1))),.ow (L (found++[at_])),.sh (.int k),.sh (.int at_),.no])]
    ·rw[e,zZ]; rfl
    ·simp only[b_Q0M_l1,sCons,sNil,sSet,aw,eOp,eVar,eInt,lNil,lCons,eCall,Dv.all,R.bind,RL.bind,Dv.R.bindL,Dv.RL.bindL,Out.bind,aJ,am,aB,cS,af,ak,yH,yI,yJ,yT,yF,yG,yL,yK,yQ,if_true,Nat.reduceAdd,aP,yP,sRowDec,hc,hm,ap (j:=1000003) (by decide),hC,ap n0,ha,ap f0,ap g0,a1,a2,decide_eq_true r1.1,decide_eq_true r2.1,d1,d2,d3,d4,if_pos hv,hmx,e9,u7]
   ·rw[e0]; exact hs.cons_cons _
  ·obtain⟨R',add,y8,y9,y10,e,hs,hz⟩:=fV (s:=s) (n:=n) (A:=A) hk0 hk1 hC n1 f2 g2 r rows found (.sh (.int k)) (.sh (.int at_)) .no h (λ q hq=>hk q (yM _ hq)) (by omega)
   refine⟨R',add,y8,y9,y10,?_,?_,λ hh q hq=>?_⟩
   ·rw[yH,aL (st':=[.sh (L s),.sh (.int k0),.sh A,.sh (.int n),.sh (.int f),.sh (.int g),.dp (.tab rows),.ow (L found),.sh (.int k),.sh (.int at_),.no])]
    ·exact e
    ·simp only[b_Q0M_l1,sCons,sNil,sSet,aw,eOp,eVar,eInt,lNil,lCons,eCall,Dv.all,R.bind,RL.bind,Dv.R.bindL,Dv.RL.bindL,Out.bind,aJ,am,aB,cS,af,ak,yH,yI,yJ,yT,yF,yG,yL,yK,yQ,if_true,Nat.reduceAdd,aP,yP,sRowDec,hc,hm,ap (j:=1000003) (by decide),hC,ap n0,ha,ap f0,ap g0,a1,a2,decide_eq_true r1.1,decide_eq_true r2.1,d1,d2,d3,d4,if_neg hv]
   ·rw[e0]; exact hs.cons _
   ·rcases List.mem_cons.mp hq with rfl|hq
    ·rw[hA]; omega
    ·exact hz hh q hq
theorem nY:(cmb.all λ x=>match x with
  | (f,g,l)=>decide (2<=f)&&(decide (2<=g)&&(decide (f*g*l<=60)&&(decide (1<=f*g*l)&&((upto (f*g*l).toNat).all (λ k=>decide (k=0) || !decide (k*7%(f*g*l)=0))&&(upto (f*g*l).toNat).all λ c=>(upto f.toNat).all λ i=>(upto g.toNat).all λ j=>(upto (f*g*l).toNat).any λ p=>decide ((p*7+c)%(f*g*l)%f=i)&&decide ((p*7+c)%(f*g*l)%g=j))))))=true:=by decide +kernel
structure Cm1 (f g n:Int):Prop where
 f2:2<=f
 g2:2<=g
 n60:n<=60
 n1:1<=n
 inj:∀ k,0<k->k<n->k*7%n≠0
 sur:∀ c i j,0<=c->c<n->0<=i->i<f->0<=j->j<g->∃ p,0<=p/\p<n/\(p*7+c)%n%f=i/\(p*7+c)%n%g=j
theorem vC {f g l:Int}(h:(f,g,l)∈cmb):Cm1 f g (f*g*l):=by
 have:=List.all_eq_true.mp nY _ h
 simp only[yN,decide_eq_true_eq] at this
 obtain⟨a,b,c,d,e,k⟩:=this
 generalize f*g*l=n at *
 refine⟨a,b,c,d,λ k k0 k1=>?_,λ c i j c0 c1 i0 i1 j0 j1=>?_⟩
 ·have:=List.all_eq_true.mp e k (mem_upto.mpr (by omega))
  rw[decide_eq_false (by omega),zm] at this
  simpa using this
 ·have:=List.all_eq_true.mp (List.all_eq_true.mp (List.all_eq_true.mp k c (mem_upto.mpr (by omega))) i (mem_upto.mpr (by omega))) j (mem_upto.mpr (by omega))
  obtain⟨p,hp,hh⟩:=List.any_eq_true.mp this
  rw[yN,decide_eq_true_eq,decide_eq_true_eq] at hh
  have hp:=mem_upto.mp hp
  exact⟨p,hp.1,by omega,hh.1,hh.2⟩
theorem mj:∀ l:List Int,(∀ v∈l,v<=0)->l.sum<=0
 | [],_=>by simp
 | a::r,h=>by
  have:=mj r λ v hv=>h v (yM _ hv)
  have:=h a (yR ..)
  rw[Bh]; omega
theorem vO {f g:Int}{rows:List (List Int)}(h:Tb f g rows)(hz:∀ i j,0<=i->i<f->0<=j->j<g->gtT rows i j<=0):tot rows<=0:=by
 refine mj _ λ v hv=>?_
 obtain⟨r,hr,rfl⟩:=List.mem_map.mp hv
 refine mj _ λ x hx=>?_
 obtain⟨i,hi,ei⟩:=List.mem_iff_getElem.mp hr
 obtain⟨j,hj,ej⟩:=List.mem_iff_getElem.mp hx
 have h1:=h.len
 have h2:=h.row r hr
 have:=hz i j (by omega) (by omega) (by omega) (by omega)
 unfold gtT at this
 rw[zo,zo,yW (l:=rows),zf hi,ei,yU,yW,zf hj,ej] at this
 exact this
theorem uk (a b c x:Nat)(st:St)(i j k:Int)(rows:List (List Int)):Dv.unTb a b c x st (.lst [.int i,.int j,.int k,.tab rows])=if x<st.length then .nx ((((st.set a (.sh (.int i))).set b (.sh (.int j))).set c (.sh (.int k))).set x (.dp (.tab rows))) else .bad:=rfl
theorem o2 {s:List Int}{k0:Int}(hk0:0<=k0)(hk1:k0<=1000):∃ n b,F_Q0M [L s,.int k0,.int 60]=.ok (.lst [.int n,L b]) true/\Beat n b/\n<=60:=by
 obtain⟨n,f,g,rows,hE⟩:=oH (s:=s) hk0 hk1
 obtain⟨l,hl,hn⟩:=hE.cm
 have hC:=vC hl
 rw[<- hn] at hC
 have n1:=hC.n1
 have n60:=hC.n60
 generalize hCC:cell s (k0+7)%1000003=C
 obtain⟨R',add,y8,y9,y10,e,hs,hz⟩:=fV (s:=s) (k0:=k0) (A:=.int 60) hk0 hk1 hCC n1 hC.f2 hC.g2 (upto n.toNat) rows [] .no .no .no hE.tb (λ k hk=>by have:=mem_upto.mp hk; omega) (by rw[ulen]; simp; omega)
 have hnd:add.Nodup:=by
  refine List.Nodup.sublist hs ?_
  unfold List.Nodup
  rw[Bv]
  have up2:(upto n.toNat).Pairwise (·<·):=by
   unfold upto
   rw[Bv]
   exact List.pairwise_lt_range.imp λ {a b} h=>by omega
  refine up2.imp_of_mem λ {a b} ha hb hab hh=>?_
  have ha:=mem_upto.mp ha
  have hb:=mem_upto.mp hb
  unfold atP at hh
  have:=(zy).mp hh.symm
  have e2:b*7+C-(a*7+C)=(b-a)*7:=by omega
  rw[e2] at this
  exact hC.inj (b-a) (by omega) (by omega) this
 have hrg:∀ x∈add,0<=x/\x<n:=λ x hx=>by
  obtain⟨p,_,rfl⟩:=List.mem_map.mp (hs.subset hx)
  exact aN (by omega)
 have hne:add≠[]:=λ hh=>by
  have hz:=hz hh
  have:tot rows<=0:=vO hE.tb λ i j i0 i1 j0 j1=>by
   have rC:=aN (n:=n) (a:=C) (by omega)
   obtain⟨p,p0,p1,q1,q2⟩:=hC.sur (C%n) i j rC.1 rC.2 i0 i1 j0 j1
   have:=hz p (mem_upto.mpr (by omega))
   have e3:atP n C p=(p*7+C%n)%n:=by unfold atP; rw[Int.add_emod_emod]
   rw[e3,q1,q2] at this
   exact this
  have h1:=hE.to
  have h2:0<f*g:=BY (by have:=hC.f2; omega) (by have:=hC.g2; omega)
  omega
 have hb:Beat n (Dv.isort add):=dX hne hnd hrg
 have hlen:add.length<=60:=by
  have:=hs.length_le
  rw[yP,ulen] at this; omega
 have hso:=λ fl=>fu (xs:=add) (by omega) fl
 rw[yS] at e
 have hnil:L []=.lst []:=rfl
 rw[hnil] at e
 have hr:=fT (n:=n) (by omega) (by omega)
 have d5:((6:Nat)<11)=True:=by simp
 refine⟨n,Dv.isort add,?_,hb,n60⟩
 simp only[F_Q0M,b_Q0M,b_Q0M_t3,b_Q0M_t2,b_Q0M_t1,sUnpackTb,uk,Dv.fn,sCons,sSet,bz,Dv.give,Dv.open_,aF,au,aO,sRet,sFor,iRange,eB1,eVar,eLst,lNil,lCons,eCall,Dv.all,R.bind,RL.bind,Dv.R.bindL,Dv.RL.bindL,Out.bind,aJ,am,aB,cS,fM,af,ak,yH,yI,yJ,yT,List.replicate,yO,yS,yF,yG,yL,yK,yV,yQ,if_true,Nat.reduceAdd,Nat.reduceSub,hE.ok,d5,hr,bw,e,hso]
theorem qP {s:List Int}(hs:Sm s):∃ n b fl,F_Q0D [L s]=.ok (.lst [.int n,L b]) fl/\Beat n b/\n<=60:=by
 have c0:=bD (s:=s) (k:=0) (by omega) (by omega)
 have c9:=bD (s:=s) (k:=9) (by omega) (by omega)
 have r4:=aN (n:=4) (a:=cell s 0) (by omega)
 generalize hq:cell s 0%4=kind at *
 by_cases h0:kind<2
 ·have hm:=aN (n:=60) (a:=cell s 0/4) (by omega)
  generalize hn:1+cell s 0/4%60=n at *
  have n1:1<=n:=by omega
  have n2:n<=60:=by omega
  have ba:=oz s 1 n1
  have so1:=tF hs (k:=1) (by omega) (by omega) n1 n2
  refine⟨n,eB s 1 n,true,?_,ba,n2⟩
  simp only[F_Q0D,b_Q0D,b_Q0D_t4,b_Q0D_t3,b_Q0D_t2,b_Q0D_t1,Dv.fn,sCons,sSet,aw,sIf,sRet,eCm,eOp,eVar,eInt,eLst,lNil,lCons,eCall,Dv.all,R.bind,RL.bind,Dv.R.bindL,Dv.RL.bindL,Out.bind,aJ,am,af,ak,yH,yI,yJ,yT,List.replicate,yO,yS,yF,yG,yL,yK,yQ,Nat.reduceAdd,Nat.reduceSub,aP,cw,c0,ap (j:=4) (by decide),hq,decide_eq_true h0,aW (j:=4) (by decide) (by decide),ap (j:=60) (by decide),hn,so1]
 ·by_cases h3:kind=3
  ·obtain⟨n,b,e,hb,n2⟩:=o2 (s:=s) (k0:=1) (by omega) (by omega)
   refine⟨n,b,true,?_,hb,n2⟩
   simp only[F_Q0D,b_Q0D,b_Q0D_t4,b_Q0D_t3,b_Q0D_t2,b_Q0D_t1,Dv.fn,sCons,sNil,sSet,aw,sIf,sRet,eCm,eOp,eVar,eInt,lNil,lCons,eCall,Dv.all,R.bind,RL.bind,Dv.R.bindL,Dv.RL.bindL,Out.bind,aJ,am,af,ak,yH,yI,yJ,yT,List.replicate,yO,yS,yF,yG,yL,yK,yQ,Nat.reduceAdd,Nat.reduceSub,cw,aX,c0,ap (j:=4) (by decide),hq,decide_eq_false h0,decide_eq_true h3,e]
  ·obtain⟨n,p,q,f,e,⟨hp,_⟩,n2⟩:=uc qG (s:=s) (k0:=1) (by omega) (by omega)
   obtain⟨ys,f',em,hy⟩:=sB (c:=cell s 9%1000003) hp n2
   refine⟨n,ys,f',?_,hy,n2⟩
   cases f' <;>
   simp only[F_Q0D,b_Q0D,b_Q0D_t4,b_Q0D_t3,b_Q0D_t2,b_Q0D_t1,Dv.fn,sCons,sNil,sSet,aw,Dv.give,Dv.open_,aM,aF,au,sIf,sRet,sUnpack,Dv.setAll,eCm,eOp,eVar,eInt,eLst,lNil,lCons,eCall,Dv.all,R.bind,RL.bind,Dv.R.bindL,Dv.RL.bindL,Out.bind,aJ,am,af,ak,yH,yI,yJ,yT,List.replicate,yO,yS,yF,yG,yL,yK,yX,yV,yU,yQ,yZ,if_true,Nat.reduceAdd,Nat.reduceSub,cw,aX,c0,ap (j:=4) (by decide),hq,decide_eq_false h0,decide_eq_false h3,e,c9,ap (j:=1000003) (by decide),em]
section
variable {n:Int}{xs:List Int}{c:String}
theorem qR (h:F_Q02 [.int n,L xs]=.exc c):F_Q11 [.int n,L xs]=.exc c:=by
 simp only[F_Q11,b_Q11,b_Q11_t2,b_Q11_t1,Dv.fn,sCons,sExpr,eVar,lNil,lCons,eCall,Dv.all,R.bind,RL.bind,Dv.R.bindL,Dv.RL.bindL,Out.bind,aJ,am,af,ak,yH,yI,yJ,yT,List.replicate,yO,yS,yF,yG,yQ,yZ,Nat.reduceAdd,Nat.reduceSub,h]
theorem qf (h:F_Q02 [.int n,L xs]=.exc c):F_Q13 [.int n,L xs]=.exc c:=by
 simp only[F_Q13,b_Q13,b_Q13_t1,Dv.fn,sCons,sSet,eVar,lNil,lCons,eCall,Dv.all,R.bind,RL.bind,Dv.R.bindL,Dv.RL.bindL,Out.bind,aJ,am,af,ak,yH,yI,yJ,yT,List.replicate,yO,yS,yF,yG,yQ,yZ,Nat.reduceAdd,Nat.reduceSub,qR h]
theorem kW (h:F_Q02 [.int n,L xs]=.exc c):F_Q06 [.int n,L xs]=.exc c:=by
 simp only[F_Q06,b_Q06,b_Q06_t2,b_Q06_t1,Dv.fn,sCons,sSet,aw,Dv.give,Dv.open_,aM,aF,au,sFor,iSeq,eVar,eInt,lNil,lCons,eCall,R.bind,RL.bind,Dv.R.bindL,Dv.RL.bindL,Out.bind,af,ak,yH,yI,yJ,yT,List.replicate,yO,yS,yF,yG,yL,yK,yX,yV,yU,yQ,yZ,Nat.reduceAdd,Nat.reduceSub,qf h]
theorem o6 (h:F_Q02 [.int n,L xs]=.exc c):F_Q17 [.int n,L xs]=.exc c:=by
 simp only[F_Q17,b_Q17,b_Q17_t1,Dv.fn,sCons,sSet,eVar,lNil,lCons,eCall,Dv.all,R.bind,RL.bind,Dv.R.bindL,Dv.RL.bindL,Out.bind,aJ,am,af,ak,yH,yI,yJ,yT,List.replicate,yO,yS,yF,yG,yQ,yZ,Nat.reduceAdd,Nat.reduceSub,qR h]
theorem uE (h:F_Q02 [.int n,L xs]=.exc c):F_Q10 [.int n,L xs]=.exc c:=by
 simp only[F_Q10,b_Q10,b_Q10_t4,b_Q10_t3,b_Q10_t2,b_Q10_t1,Dv.fn,sCons,sIf,eOr,eNot,eVar,lNil,lCons,eCall,Dv.all,R.bind,RL.bind,Dv.R.bindL,Dv.RL.bindL,Out.bind,aJ,am,af,ak,yH,yI,yJ,yT,List.replicate,yO,yS,yF,yG,yQ,yZ,Nat.reduceAdd,Nat.reduceSub,kW h]
theorem i8 {k:Int}(hk:k=0\/k=1\/k=2)(h:F_Q02 [.int n,L xs]=.exc c):F_Q0B [.int k,.int n,L xs]=.exc c:=by
 rcases hk with rfl|rfl|rfl <;>simp only[F_Q0B,b_Q0B,b_Q0B_t2,b_Q0B_t1,Dv.fn,sCons,sNil,sIf,sRet,eCm,eVar,eInt,lNil,lCons,eCall,Dv.all,R.bind,RL.bind,Dv.R.bindL,Dv.RL.bindL,Out.bind,am,af,ak,yH,yI,yJ,yT,List.replicate,yO,yS,yF,yG,yQ,yZ,Nat.reduceAdd,Nat.reduceSub,decide_true,decide_false,aX,Int.reduceEq,kW h,o6 h,uE h]
end
theorem oA:F_Q0L [.exn "NoWheel"]=.ok (.lst [.bl false,.bl true,.bl false,.bl false,.bl false,.bl true]) true:=by rfl
theorem oa:F_Q0L [.exn "NoBeat"]=.ok (.lst [.bl false,.bl false,.bl true,.bl false,.bl false,.bl true]) true:=by rfl
theorem pF:F_Q0L [.exn "NoRule"]=.ok (.lst [.bl true,.bl false,.bl false,.bl false,.bl false,.bl true]) true:=by rfl
theorem l8 {way n b:D}{c:String}{ds:List D}(h:F_Q0B [way,n,b]=.exc c)(hk:F_Q0L [.exn c]=.ok (.lst ds) true)(hf:Dv.flatL ds=true)
  (hc:(["WheelError","NoWheel","NoBeat","NoPart","NoRule","NoWindow","NoPair","NoText","NoName","NoNumber","NoDeed","TooMany"].contains c&&Dv.subX c "WheelError")=true):F_Q0U [way,n,b]=.ok (.lst ds) true:=by
 have kp:keepD (.lst ds) true=some (.ow (.lst ds)):=by simp[keepD,hf]
 simp only[F_Q0U,b_Q0U,b_Q0U_t2,b_Q0U_t1,Dv.fn,sCons,sSet,bz,sRetO,sExpr,eVar,eLst,lNil,lCons,eCall,Dv.all,R.bind,RL.bind,Dv.R.bindL,Dv.RL.bindL,Out.bind,aJ,am,aB,yH,yI,yJ,yT,List.replicate,yO,yS,yF,yG,yL,yK,yQ,if_true,Nat.reduceAdd,Nat.reduceSub,h,sTryAs,hc,hk,kp,Dv.unb,hf]
theorem kL {k n:Int}{xs:List Int}(hk:k=0\/k=1\/k=2)(h:F_Q02 [.int n,L xs]=.exc "NoWheel"):F_Q0U [.int k,.int n,L xs]=.ok (.lst [.bl false,.bl true,.bl false,.bl false,.bl false,.bl true]) true:=l8 (i8 hk h) oA rfl (by decide)
theorem sA {k n:Int}{xs:List Int}(hk:k=0\/k=1\/k=2)(h:F_Q02 [.int n,L xs]=.exc "NoBeat"):F_Q0U [.int k,.int n,L xs]=.ok (.lst [.bl false,.bl false,.bl true,.bl false,.bl false,.bl true]) true:=l8 (i8 hk h) oa rfl (by decide)
theorem pV {n:Int}{xs:List Int}(h:F_Q10 [.int n,L xs]=.exc "NoRule"):F_Q0U [.int 2,.int n,L xs]=.ok (.lst [.bl true,.bl false,.bl false,.bl false,.bl false,.bl true]) true:=l8 (by
  simp only[F_Q0B,b_Q0B,b_Q0B_t2,b_Q0B_t1,Dv.fn,sCons,sNil,sIf,sRet,eCm,eVar,eInt,lNil,lCons,eCall,Dv.all,R.bind,RL.bind,Dv.R.bindL,Dv.RL.bindL,Out.bind,am,af,ak,yH,yI,yJ,yT,List.replicate,yO,yS,yF,yG,yQ,yZ,Nat.reduceAdd,Nat.reduceSub,decide_false,aX,Int.reduceEq,h]) pF rfl (by decide)
theorem u9:cmD .ne (.lst [.bl false,.bl true,.bl false,.bl false,.bl false,.bl true]) (.lst [.bl false,.bl true,.bl false,.bl false,.bl false,.bl true])=.ok (.bl false) true:=rfl
theorem vo:cmD .ne (.lst [.bl false,.bl false,.bl true,.bl false,.bl false,.bl true]) (.lst [.bl false,.bl false,.bl true,.bl false,.bl false,.bl true])=.ok (.bl false) true:=rfl
theorem vn:cmD .ne (.lst [.bl true,.bl false,.bl false,.bl false,.bl false,.bl true]) (.lst [.bl true,.bl false,.bl false,.bl false,.bl false,.bl true])=.ok (.bl false) true:=rfl
theorem sj {n v:Int}{xs:List Int}(n2:n<=60)(h:Beat n xs):∃ zs,F_Q0O [.int n,L xs,.int v]=.ok (L zs) false/\¬ Beat n zs:=by
 have hl:=h.len
 have hl1:=h.len1
 have hm:=aN (n:=5) (a:=v) (by omega)
 obtain⟨x,r,rfl⟩:=AR h.ne
 have hx:=h.rg x (yR ..)
 have la:=j7 h.ne
 have fi:Dv.at? ((x::r).map D.int) 0=some (.int x):=rfl
 have lm:=Az h.ne
 generalize (x::r).getLast h.ne=y at la lm
 have hn:=h.nd
 have c1:=dC (a:=x::r) (b:=[n]) (by simp at hl ⊢; omega)
 have c2:=dC (a:=x::r) (b:=[y]) (by simp at hl ⊢; omega)
 have c3:=dC (a:=[x-n-1]) (b:=x::r) (by simp at hl ⊢; omega)
 have c4:=dC (a:=x::r) (b:=[x]) (by simp at hl ⊢; omega)
 have k1:¬ Beat n ((x::r)++[n]):=λ z=>by have:=z.rg n (by simp); omega
 have k2:¬ Beat n ((x::r)++[y]):=λ z=>(List.nodup_append.mp z.nd).2.2 y lm y (by simp) rfl
 have k3:¬ Beat n ([x-n-1]++(x::r)):=λ z=>by have:=z.rg (x-n-1) (by simp); omega
 have k4:¬ Beat n ((x::r)++[x]):=λ z=>(List.nodup_append.mp z.nd).2.2 x (by simp) x (by simp) rfl
 have hneg:(-1:Int)=-1:=rfl
 generalize hA:x::r=A at *
 have e1:L [n]=.lst [.int n]:=rfl
 have e2:L [y]=.lst [.int y]:=rfl
 have e3:L [x-n-1]=.lst [.int (x-n-1)]:=rfl
 have e4:L [x]=.lst [.int x]:=rfl
 rw[e1] at c1
 rw[e2] at c2
 rw[e3] at c3
 rw[e4] at c4
 have key:∀ (j:Int) (zs:List Int),v%5=j->Dv.at? [.lst [],L (A++[n]),L (A++[y]),L ([x-n-1]++A),L (A++[x])] j=some (L zs)->F_Q0O [.int n,L A,.int v]=.ok (L zs) false:=λ j zs hj ha=>by
  simp only[L,yO,yS,yH] at c1 c2 c3 c4 ha
  simp only[F_Q0O,b_Q0O,b_Q0O_t1,Dv.fn,sCons,sSetG,Dv.give,Dv.open_,aM,aF,au,sRet,eIx,Dv.ixD,eNeg,eOp,eVar,eInt,eLst,lNil,lCons,Dv.all,R.bind,RL.bind,Dv.R.bindL,Dv.RL.bindL,Out.bind,am,af,ak,yH,yI,yJ,yT,List.replicate,yO,yS,yF,yG,yL,yK,yX,yV,yU,zc,yQ,zD,Nat.reduceAdd,Nat.reduceSub,cg,L,la,fi,c1,c2,c3,c4,ap (j:=5) (by decide),hj,ha]
 rcases (show v%5=0\/v%5=1\/v%5=2\/v%5=3\/v%5=4 by omega) with e|e|e|e|e
 ·exact⟨[],key 0 [] e rfl,λ z=>z.ne rfl⟩
 ·exact⟨_,key 1 _ e rfl,k1⟩
 ·exact⟨_,key 2 _ e rfl,k2⟩
 ·exact⟨_,key 3 _ e rfl,k3⟩
 ·exact⟨_,key 4 _ e rfl,k4⟩
theorem uL:((List.range 61).all λ n=>decide (n<1) || (eJ (n:Int) [] == upto n))=true:=by decide +kernel
theorem mk {S:List Nat}(h:∀ q∈S,2<=lpf q)(h1:bW (S.map lpf)=1):S=[]:=by
 cases S with
 | nil=>rfl
 | cons q r =>
  exfalso
  rw[yH,bW] at h1
  have:=h q (yR ..)
  have:=Nat.eq_one_of_mul_eq_one_right h1
  omega
theorem wF {n b:Int}(n2:n<=60)(h:Beat n [b]):pwH n [b]=[]:=by
 have n1:=h.pos
 have:=sX (n:=n.toNat) (by omega) (dY h)
 have h1:bW (((ppw n.toNat).filter λ (q:Nat)=>aS [b] (q:Int)).map lpf)=1:=Nat.dvd_one.mp this
 have h2:=mk (λ q hq=>by
  have hq:=(List.mem_filter.mp hq).1
  have hm:(q:Int)∈ppI n:=by rw[gh n1 n2]; exact List.mem_map.mpr ⟨q,hq,rfl⟩
  obtain⟨a,b,_,_⟩:=c7 n1 hm
  have:=fP a (show (q:Int)<=60 by omega)
  rw[zo] at this
  omega) h1
 unfold pwH
 rw[gh n1 n2,BN]
 have h3:(ppw n.toNat).filter ((λ d=>aS [b] d) ∘ λ (i:Nat)=>(i:Int))=[]:=h2
 rw[h3]
 rfl
theorem vZ {n b:Int}(n2:n<=60)(h:Beat n [b]):F_Q10 [.int n,L [b]]=.ok (L (upto n.toNat)) true:=by
 have n1:=h.pos
 have pw:=wF n2 h
 have pw':((ppI n).filter λ d=>aS [b] d)=[]:=pw
 have fr:frB n [b]=true:=by
  unfold frB
  rw[pw']
  rfl
 have se:seB n [b]=true:=by
  unfold seB
  rw[pw']
  refine List.all_eq_true.mpr λ d hd=>?_
  obtain⟨d1,d2⟩:=fq hd
  have hp:inP [] d=false:=by
   unfold inP
   rcases iT d1 (show d<=60 by omega) with q|q
   ·cases hx:aU d with
    | nil=>rw[hx] at q; simp at q
    | cons a r=>simp
   ·rw[q]; simp
  rw[hp]
  simp
 have m:=nC n2 h fr se
 have e:due n [b]=upto n.toNat:=by
  have:=List.all_eq_true.mp uL n.toNat (List.mem_range.mpr (by omega))
  have en:((n.toNat:Nat):Int)=n:=by omega
  rw[decide_eq_false (by omega),zm,en] at this
  show eJ n (pwH n [b])=_
  rw[pw]
  exact beq_iff_eq.mp this
 rw[e] at m
 exact m
theorem jp:∀ (m:Nat) (lo:Int),Dv.upL lo m=(List.range m).map λ (i:Nat)=>lo+(i:Int)
 | 0,lo=>rfl
 | m+1,lo=>by
  rw[Dv.upL,jp m,A2,yH,Af]
  congr 1
  ·simp
  ·apply AG
   intro i _
   simp only[Function.comp]
   omega
theorem lX {n:Int}(h:0<=n)(h2:n<=1000)(f:Bool):Dv.listRangeD (.int n) f=.ok (L (upto n.toNat)) true:=by
 have e:Dv.upL 0 n.toNat=upto n.toNat:=by rw[jp]; simp[upto]
 show (if (decide (0<=n)&&decide (n<=100000))=true then R.ok (.lst ((Dv.upL 0 n.toNat).map .int)) true else .bad)=_
 rw[e,if_pos (by simp; omega)]
theorem iu {n w v:Int}{xs zs:List Int}{S:Sl}(n2:n<=60)(h:Beat n xs)(hz:¬ Beat n zs)(hw:¬ (1<=w/\w<=60)):∀ (ks:List Int) (z:Sl),(∀ k∈ks,k=0\/k=1\/k=2) ->
  ∃ z',forGo 7 b_Q0J_l1 (ks.map .int) [S,.sh (.int n),.sh (L xs),.ow (L xs),.sh (.int v),.sh (.int w),.sh (L zs),z]=.nx [S,.sh (.int n),.sh (L xs),.ow (L xs),.sh (.int v),.sh (.int w),.sh (L zs),z']
 | [],z,_=>⟨z,rfl⟩
 | k::r,z,hk=>by
  have n1:=h.pos
  obtain⟨z',e⟩:=iu (S:=S) (v:=v) n2 h hz hw r (.sh (.int k)) λ x hx=>hk x (yM _ hx)
  refine⟨z',?_⟩
  have kk:=hk k (yR ..)
  have w1:=kL (xs:=xs) kk (show F_Q02 [.int w,L xs]=.exc "NoWheel" by rw[cO,if_neg hw])
  have w2:=kL (xs:=zs) kk (show F_Q02 [.int w,L zs]=.exc "NoWheel" by rw[cO,if_neg hw])
  have b2:=sA kk (iF n1 n2 hz)
  rw[yH,aL (st':=[S,.sh (.int n),.sh (L xs),.ow (L xs),.sh (.int v),.sh (.int w),.sh (L zs),.sh (.int k)]),e]
  have hm:=aN (n:=2) (a:=v/64) (by omega)
  rcases (show v/64%2=0\/v/64%2=1 by omega) with e|e
  ·have a0:Dv.at? [L xs,L zs] 0=some (L xs):=rfl
   simp only[b_Q0J_l1,sCons,sNil,sIf,eIx,Dv.ixD,eCm,eOp,eVar,eInt,eBl,eLst,lNil,lCons,eCall,Dv.all,R.bind,RL.bind,Dv.R.bindL,Dv.RL.bindL,Out.bind,am,aB,af,ak,yH,yI,yF,yG,yL,yK,yQ,zD,yZ,aW (j:=64) (by decide) (by decide),ap (j:=2) (by decide),e,a0,w1,b2,u9,vo]
  ·have a0:Dv.at? [L xs,L zs] 1=some (L zs):=rfl
   simp only[b_Q0J_l1,sCons,sNil,sIf,eIx,Dv.ixD,eCm,eOp,eVar,eInt,eBl,eLst,lNil,lCons,eCall,Dv.all,R.bind,RL.bind,Dv.R.bindL,Dv.RL.bindL,Out.bind,am,aB,af,ak,yH,yI,yF,yG,yL,yK,yQ,zD,yZ,aW (j:=64) (by decide) (by decide),ap (j:=2) (by decide),e,a0,w2,b2,u9,vo]
theorem sq {n:Int}{xs:List Int}{S0 S4 S5 S6 S7:Sl}(n2:n<=60)(h:Beat n xs):b_Q0J_t7 [S0,.sh (.int n),.sh (L xs),.ow (L xs),S4,S5,S6,S7]=.ret (.bl true) true:=by
 have n1:=h.pos
 obtain⟨x,r,rfl⟩:=AR h.ne
 have hb:Beat n [x]:=⟨by simp,by simp,λ y hy=>by rw[List.mem_singleton.mp hy]; exact h.rg x (yR ..)⟩
 have o:=vZ n2 hb
 have c:=rF (xs:=x::r) (k:=1) (by omega) (by simp; omega)
 have c:Dv.cutL (x::r) none (some 1)=[x]:=by rw[c]; rfl
 have ra:=λ f=>lX (n:=n) (by omega) (by omega) f
 generalize hA:x::r=A at *
 have sl:=λ f=>jZ A f none (some 1)
 rw[c] at sl
 simp only[b_Q0J_t7,sRet,eB1,eAnd,eCm,eVar,eInt,lNil,lCons,eCall,eSlice,ePart,Dv.all,R.bind,RL.bind,Dv.R.bindL,Dv.RL.bindL,Out.bind,am,aB,af,ak,yH,yI,yF,yG,yQ,decide_true,gN,sl,o,ra]
theorem qu {n:Int}{xs:List Int}{S0 S4 S5 S6 S7:Sl}(n2:n<=60)(h:Beat n xs):b_Q0J_t6 [S0,.sh (.int n),.sh (L xs),.ow (L xs),S4,S5,S6,S7]=.ret (.bl true) true:=by
 have e1:=j8 n2 h
 have e2:=iC n2 h
 have en:=sq (S0:=S0) (S4:=S4) (S5:=S5) (S6:=S6) (S7:=S7) n2 h
 by_cases q:frB n xs=true/\seB n xs=true
 ·have m:=nC n2 h q.1 q.2
  rw[q.1] at e1
  rw[q.2] at e2
  simp only[b_Q0J_t6,sCons,sNil,sIf,eB1,Dv.isListD,eAnd,eNot,eVar,lNil,lCons,eCall,Dv.all,R.bind,RL.bind,Dv.R.bindL,Dv.RL.bindL,Out.bind,am,aB,af,ak,yH,yI,yF,yG,yQ,yZ,zM,e1,e2,m,en]
 ·have m:=pV (tO n2 h q)
  cases hf:frB n xs with
  | false =>
   rw[hf] at e1
   simp only[b_Q0J_t6,sCons,sNil,sIf,eAnd,eCm,eVar,eInt,eBl,eLst,lNil,lCons,eCall,Dv.all,R.bind,RL.bind,Dv.R.bindL,Dv.RL.bindL,Out.bind,am,aB,af,ak,yH,yI,yF,yG,yQ,yZ,e1,m,vn,en]
  | true =>
   cases hs:seB n xs with
   | true=>exact absurd ⟨hf,hs⟩ q
   | false =>
    rw[hf] at e1
    rw[hs] at e2
    simp only[b_Q0J_t6,sCons,sNil,sIf,eAnd,eCm,eVar,eInt,eBl,eLst,lNil,lCons,eCall,Dv.all,R.bind,RL.bind,Dv.R.bindL,Dv.RL.bindL,Out.bind,am,aB,af,ak,yH,yI,yF,yG,yQ,yZ,e1,e2,m,vn,en]
theorem law34_ok {s:List Int}(hs:Sm s):F_Q0J [L s]=.ok (.bl true) true:=by
 obtain⟨n,xs,fl,ec,hb,n2⟩:=qP hs
 have n1:=hb.pos
 have c10:=bD (s:=s) (k:=10) (by omega) (by omega)
 have mu:=aZ (bS (i:=cell s 10) (j:=48271) (by omega) (by omega))
 have hv:=aN (n:=2147483647) (a:=cell s 10*48271) (by omega)
 generalize hve:cell s 10*48271%2147483647=v at *
 have hm:=aN (n:=4) (a:=v) (by omega)
 obtain⟨w,hat,hw⟩:∃ w,Dv.at? [.int 0,.int 61,.int (61+v),.int (-1-v)] (v%4)=some (.int w)/\¬ (1<=w/\w<=60):=by
  rcases (show v%4=0\/v%4=1\/v%4=2\/v%4=3 by omega) with h|h|h|h
  ·exact⟨0,by rw[h]; rfl,by omega⟩
  ·exact⟨61,by rw[h]; rfl,by omega⟩
  ·exact⟨61+v,by rw[h]; rfl,by omega⟩
  ·exact⟨-1-v,by rw[h]; rfl,by omega⟩
 obtain⟨zs,ez,hz⟩:=sj (v:=v/4) n2 hb
 obtain⟨z',e⟩:=iu (S:=.sh (L s)) (v:=v) n2 hb hz hw (upto 3) .no λ k hk=>by have:=mem_upto.mp hk; omega
 have e3:Dv.rangeL 0 (3:Int).toNat=(upto 3).map .int:=bw 3
 have en:=qu (S0:=.sh (L s)) (S4:=.sh (.int v)) (S5:=.sh (.int w)) (S6:=.sh (L zs)) (S7:=z') n2 hb
 have hr:rngOk 3=true:=by decide
 simp only[b_Q0J,F_Q0J,b_Q0J_t1,b_Q0J_t2,b_Q0J_t3,b_Q0J_t4,b_Q0J_t5,Dv.fn,sCons,sSet,sSetG,aw,bo,Dv.give,Dv.open_,aM,aF,au,aO,sFor,sUnpackL,Dv.setAll,iRange,eB1,Dv.listD,eIx,Dv.ixD,eNeg,eOp,eVar,eInt,eLst,lNil,lCons,eCall,Dv.all,R.bind,RL.bind,Dv.R.bindL,Dv.RL.bindL,Out.bind,aJ,am,aB,af,ak,yH,yI,yJ,yT,List.replicate,yO,yS,yF,yG,yL,yK,yX,yV,yU,zc,yQ,yZ,if_true,Nat.reduceAdd,Nat.reduceSub,aP,cg,bh,ec,c10,mu,ap (j:=2147483647) (by decide),hve,ap (j:=4) (by decide),hat,aW (j:=4) (by decide) (by decide),ez,hr,e3,e,en]
end Cw
noncomputable def PySem.W.Fast.tw8600459233351581268:PySem.Program:=PySem.Challenge.pw_canonwheel_k34_no_rule
theorem PySem.W.Fast.te8600459233351581268:PySem.Challenge.pw_canonwheel_k34_no_rule=PySem.W.Fast.tw8600459233351581268:=rfl
def PySem.W.Fast.tw10351779674597267125 : Unit := ()
def PySem.W.Fast.tw15278117767511198316 : Unit := ()
def PySem.W.Fast.tw16704212187047027515 : Unit := ()
def PySem.W.Fast.tw13505899125085792464 : Unit := ()
def PySem.W.Fast.tw582380535870034765 : Unit := ()
def PySem.W.Fast.tw11864036196363039382 : Unit := ()
def PySem.W.Fast.tw12886099333329917484 : Unit := ()
def PySem.W.Fast.tw9006026972163264262 : Unit := ()
def PySem.W.Fast.tw14402457878913957963 : Unit := ()
open PySem PySem.W PyProof.Rows
set_option maxRecDepth 100000 in
set_option maxHeartbeats 0 in
theorem PySem.Challenge.cw_canonwheel_k34_no_rule_holds : PySem.Challenge.rw_canonwheel_k34_no_rule.Holds := by
 w_on; o_law; k_head; (case hw => w_witness2)
 k_fill
 refine Sd.walkD (l := PySem.Challenge.rw_canonwheel_k34_no_rule) (k := 10) (x := "_law_script") (CX := fun w => Sd.CXe PySem.Challenge.rw_canonwheel_k34_no_rule.prog w) (Fl := Cw.F_Q0J) rfl rfl ⟨rfl,by decide,by decide⟩ (fun w h Y => PySem.W.kIn_of Y) (fun w => Sd.cxe_ok) ?F ?S
 case F =>
  intro w mg fa h KX G hmg
  refine' Lk34.all_mk KX G hmg ?a_Q04 ?l_Q04 ?c_Q04 ?k_Q04 ?a_Q03 ?l_Q03 ?c_Q03 ?k_Q03 ?a_Q02 ?l_Q02 ?c_Q02 ?k_Q02 ?a_Q0Z ?l_Q0Z ?c_Q0Z ?k_Q0Z ?a_Q01 ?l_Q01 ?c_Q01 ?k_Q01 ?a_Q1A ?l_Q1A ?c_Q1A ?k_Q1A ?a_Q18 ?l_Q18 ?c_Q18 ?k_Q18 ?a_Q05 ?l_Q05 ?c_Q05 ?k_Q05 ?a_Q12 ?l_Q12 ?c_Q12 ?k_Q12 ?a_Q0Y ?l_Q0Y ?c_Q0Y ?k_Q0Y ?a_Q11 ?l_Q11 ?c_Q11 ?k_Q11 ?a_Q14 ?l_Q14 ?c_Q14 ?k_Q14 ?a_Q07 ?l_Q07 ?c_Q07 ?k_Q07 ?a_Q15 ?l_Q15 ?c_Q15 ?k_Q15 ?a_Q13 ?l_Q13 ?c_Q13 ?k_Q13 ?a_Q06 ?l_Q06 ?c_Q06 ?k_Q06 ?a_Q19 ?l_Q19 ?c_Q19 ?k_Q19 ?a_Q17 ?l_Q17 ?c_Q17 ?k_Q17 ?a_Q16 ?l_Q16 ?c_Q16 ?k_Q16 ?a_Q00 ?l_Q00 ?c_Q00 ?k_Q00 ?a_Q10 ?l_Q10 ?c_Q10 ?k_Q10 ?a_Q0E ?l_Q0E ?c_Q0E ?k_Q0E ?a_Q0W ?l_Q0W ?c_Q0W ?k_Q0W ?a_Q0X ?l_Q0X ?c_Q0X ?k_Q0X ?a_Q09 ?l_Q09 ?c_Q09 ?k_Q09 ?a_Q0P ?l_Q0P ?c_Q0P ?k_Q0P ?a_Q0S ?l_Q0S ?c_Q0S ?k_Q0S ?a_Q0H ?l_Q0H ?c_Q0H ?k_Q0H ?a_Q0Q ?l_Q0Q ?c_Q0Q ?k_Q0Q ?a_Q0G ?l_Q0G ?c_Q0G ?k_Q0G ?a_Q0V ?l_Q0V ?c_Q0V ?k_Q0V ?a_Q0F ?l_Q0F ?c_Q0F ?k_Q0F ?a_Q0M ?l_Q0M ?c_Q0M ?k_Q0M ?a_Q0N ?l_Q0N ?c_Q0N ?k_Q0N ?a_Q0C ?l_Q0C ?c_Q0C ?k_Q0C ?a_Q0A ?l_Q0A ?c_Q0A ?k_Q0A ?a_Q0K ?l_Q0K ?c_Q0K ?k_Q0K ?a_Q0T ?l_Q0T ?c_Q0T ?k_Q0T ?a_Q0O ?l_Q0O ?c_Q0O ?k_Q0O ?a_Q08 ?l_Q08 ?c_Q08 ?k_Q08 ?z_len ?z_sorted ?z_list ?z_range ?z_enumerate ?z_all ?z_max ?z_min ?z_isinstance ?z_ValueError ?n_LONGEST ?n_LAST_PART ?a_B ?x_B ?g1_B ?g2_B ?g3_B ?v_B ?y_B ?a_8 ?x_8 ?g1_8 ?g2_8 ?g3_8 ?v_8 ?y_8 ?a_0 ?x_0 ?g1_0 ?g2_0 ?g3_0 ?v_0 ?y_0 ?a_5 ?x_5 ?g1_5 ?g2_5 ?g3_5 ?v_5 ?y_5 ?a_6 ?x_6 ?g1_6 ?g2_6 ?g3_6 ?v_6 ?y_6 ?a_9 ?x_9 ?g1_9 ?g2_9 ?g3_9 ?v_9 ?y_9 ?a_4 ?x_4 ?g1_4 ?g2_4 ?g3_4 ?v_4 ?y_4 ?a_7 ?x_7 ?g1_7 ?g2_7 ?g3_7 ?v_7 ?y_7 ?a_2 ?x_2 ?g1_2 ?g2_2 ?g3_2 ?v_2 ?y_2 ?a_3 ?x_3 ?g1_3 ?g2_3 ?g3_3 ?v_3 ?y_3 ?a_1 ?x_1 ?g1_1 ?g2_1 ?g3_1 ?v_1 ?y_1 ?a_A ?x_A ?g1_A ?g2_A ?g3_A ?v_A ?y_A ?s_BB ?s_B8 ?s_B0 ?s_B5 ?s_B6 ?s_B9 ?s_B4 ?s_B7 ?s_B2 ?s_B3 ?s_B1 ?s_BA ?s_8B ?s_88 ?s_80 ?s_85 ?s_86 ?s_89 ?s_84 ?s_87 ?s_82 ?s_83 ?s_81 ?s_8A ?s_0B ?s_08 ?s_00 ?s_05 ?s_06 ?s_09 ?s_04 ?s_07 ?s_02 ?s_03 ?s_01 ?s_0A ?s_5B ?s_58 ?s_50 ?s_55 ?s_56 ?s_59 ?s_54 ?s_57 ?s_52 ?s_53 ?s_51 ?s_5A ?s_6B ?s_68 ?s_60 ?s_65 ?s_66 ?s_69 ?s_64 ?s_67 ?s_62 ?s_63 ?s_61 ?s_6A ?s_9B ?s_98 ?s_90 ?s_95 ?s_96 ?s_99 ?s_94 ?s_97 ?s_92 ?s_93 ?s_91 ?s_9A ?s_4B ?s_48 ?s_40 ?s_45 ?s_46 ?s_49 ?s_44 ?s_47 ?s_42 ?s_43 ?s_41 ?s_4A ?s_7B ?s_78 ?s_70 ?s_75 ?s_76 ?s_79 ?s_74 ?s_77 ?s_72 ?s_73 ?s_71 ?s_7A ?s_2B ?s_28 ?s_20 ?s_25 ?s_26 ?s_29 ?s_24 ?s_27 ?s_22 ?s_23 ?s_21 ?s_2A ?s_3B ?s_38 ?s_30 ?s_35 ?s_36 ?s_39 ?s_34 ?s_37 ?s_32 ?s_33 ?s_31 ?s_3A ?s_1B ?s_18 ?s_10 ?s_15 ?s_16 ?s_19 ?s_14 ?s_17 ?s_12 ?s_13 ?s_11 ?s_1A ?s_AB ?s_A8 ?s_A0 ?s_A5 ?s_A6 ?s_A9 ?s_A4 ?s_A7 ?s_A2 ?s_A3 ?s_A1 ?s_AA
  (case a_Q04 | l_Q04 | c_Q04 | k_Q04 | a_Q03 | l_Q03 | c_Q03 | k_Q03 | a_Q02 | l_Q02 | c_Q02 | k_Q02 | a_Q0Z | l_Q0Z | c_Q0Z | k_Q0Z | a_Q01 | l_Q01 | c_Q01 | k_Q01 | a_Q1A | l_Q1A | c_Q1A | k_Q1A | a_Q18 | l_Q18 | c_Q18 | k_Q18 | a_Q05 | l_Q05 | c_Q05 | k_Q05 | a_Q12 | l_Q12 | c_Q12 | k_Q12 | a_Q0Y | l_Q0Y | c_Q0Y | k_Q0Y | a_Q11 | l_Q11 | c_Q11 | k_Q11 | a_Q14 | l_Q14 | c_Q14 | k_Q14 | a_Q07 | l_Q07 | c_Q07 | k_Q07 | a_Q15 | l_Q15 | c_Q15 | k_Q15 | a_Q13 | l_Q13 | c_Q13 | k_Q13 | a_Q06 | l_Q06 | c_Q06 | k_Q06 | a_Q19 | l_Q19 | c_Q19 | k_Q19 | a_Q17 | l_Q17 | c_Q17 | k_Q17 | a_Q16 | l_Q16 | c_Q16 | k_Q16 | a_Q00 | l_Q00 | c_Q00 | k_Q00 | a_Q10 | l_Q10 | c_Q10 | k_Q10 | a_Q0E | l_Q0E | c_Q0E | k_Q0E | a_Q0W | l_Q0W | c_Q0W | k_Q0W | a_Q0X | l_Q0X | c_Q0X | k_Q0X | a_Q09 | l_Q09 | c_Q09 | k_Q09 | a_Q0P | l_Q0P | c_Q0P | k_Q0P | a_Q0S | l_Q0S | c_Q0S | k_Q0S | a_Q0H | l_Q0H | c_Q0H | k_Q0H | a_Q0Q | l_Q0Q | c_Q0Q | k_Q0Q | a_Q0G | l_Q0G | c_Q0G | k_Q0G | a_Q0V | l_Q0V | c_Q0V | k_Q0V | a_Q0F | l_Q0F | c_Q0F | k_Q0F | a_Q0M | l_Q0M | c_Q0M | k_Q0M | a_Q0N | l_Q0N | c_Q0N | k_Q0N | a_Q0C | l_Q0C | c_Q0C | k_Q0C | a_Q0A | l_Q0A | c_Q0A | k_Q0A | a_Q0K | l_Q0K | c_Q0K | k_Q0K | a_Q0T | l_Q0T | c_Q0T | k_Q0T | a_Q0O | l_Q0O | c_Q0O | k_Q0O | a_Q08 | l_Q08 | c_Q08 | k_Q08 | z_len | z_sorted | z_list | z_range | z_enumerate | z_all | z_max | z_min | z_isinstance | z_ValueError | n_LONGEST | n_LAST_PART | a_B => show _ = _; k_is)
  (case x_B => k_exc)
  (case g1_B | g2_B | g3_B => show _ = _; k_is)
  (case v_B => show _ = _; kit_is)
  (case y_B | a_8 => show _ = _; k_is)
  (case x_8 => k_exc)
  (case g1_8 | g2_8 | g3_8 => show _ = _; k_is)
  (case v_8 => show _ = _; kit_is)
  (case y_8 | a_0 => show _ = _; k_is)
  (case x_0 => k_exc)
  (case g1_0 | g2_0 | g3_0 => show _ = _; k_is)
  (case v_0 => show _ = _; kit_is)
  (case y_0 | a_5 => show _ = _; k_is)
  (case x_5 => k_exc)
  (case g1_5 | g2_5 | g3_5 => show _ = _; k_is)
  (case v_5 => show _ = _; kit_is)
  (case y_5 | a_6 => show _ = _; k_is)
  (case x_6 => k_exc)
  (case g1_6 | g2_6 | g3_6 => show _ = _; k_is)
  (case v_6 => show _ = _; kit_is)
  (case y_6 | a_9 => show _ = _; k_is)
  (case x_9 => k_exc)
  (case g1_9 | g2_9 | g3_9 => show _ = _; k_is)
  (case v_9 => show _ = _; kit_is)
  (case y_9 | a_4 => show _ = _; k_is)
  (case x_4 => k_exc)
  (case g1_4 | g2_4 | g3_4 => show _ = _; k_is)
  (case v_4 => show _ = _; kit_is)
  (case y_4 | a_7 => show _ = _; k_is)
  (case x_7 => k_exc)
  (case g1_7 | g2_7 | g3_7 => show _ = _; k_is)
  (case v_7 => show _ = _; kit_is)
  (case y_7 | a_2 => show _ = _; k_is)
  (case x_2 => k_exc)
  (case g1_2 | g2_2 | g3_2 => show _ = _; k_is)
  (case v_2 => show _ = _; kit_is)
  (case y_2 | a_3 => show _ = _; k_is)
  (case x_3 => k_exc)
  (case g1_3 | g2_3 | g3_3 => show _ = _; k_is)
  (case v_3 => show _ = _; kit_is)
  (case y_3 | a_1 => show _ = _; k_is)
  (case x_1 => k_exc)
  (case g1_1 | g2_1 | g3_1 => show _ = _; k_is)
  (case v_1 => show _ = _; kit_is)
  (case y_1 | a_A => show _ = _; k_is)
  (case x_A => k_exc)
  (case g1_A | g2_A | g3_A => show _ = _; k_is)
  (case v_A => show _ = _; kit_is)
  (case y_A => show _ = _; k_is)
  (case s_BB | s_B8 | s_B0 | s_B5 | s_B6 | s_B9 | s_B4 | s_B7 | s_B2 | s_B3 | s_B1 | s_BA | s_8B | s_88 | s_80 | s_85 | s_86 | s_89 | s_84 | s_87 | s_82 | s_83 | s_81 | s_8A | s_0B | s_08 | s_00 | s_05 | s_06 | s_09 | s_04 | s_07 | s_02 | s_03 | s_01 | s_0A | s_5B | s_58 | s_50 | s_55 | s_56 | s_59 | s_54 | s_57 | s_52 | s_53 | s_51 | s_5A | s_6B | s_68 | s_60 | s_65 | s_66 | s_69 | s_64 | s_67 | s_62 | s_63 | s_61 | s_6A | s_9B | s_98 | s_90 | s_95 | s_96 | s_99 | s_94 | s_97 | s_92 | s_93 | s_91 | s_9A | s_4B | s_48 | s_40 | s_45 | s_46 | s_49 | s_44 | s_47 | s_42 | s_43 | s_41 | s_4A | s_7B | s_78 | s_70 | s_75 | s_76 | s_79 | s_74 | s_77 | s_72 | s_73 | s_71 | s_7A | s_2B | s_28 | s_20 | s_25 | s_26 | s_29 | s_24 | s_27 | s_22 | s_23 | s_21 | s_2A | s_3B | s_38 | s_30 | s_35 | s_36 | s_39 | s_34 | s_37 | s_32 | s_33 | s_31 | s_3A | s_1B | s_18 | s_10 | s_15 | s_16 | s_19 | s_14 | s_17 | s_12 | s_13 | s_11 | s_1A | s_AB | s_A8 | s_A0 | s_A5 | s_A6 | s_A9 | s_A4 | s_A7 | s_A2 | s_A3 | s_A1 | s_AA => show _ = _; kit_is)
 case S => exact fun ns _ hb => Cw.law34_ok hb
