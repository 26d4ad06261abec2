import PyProof.Rows.All
import Wide.All
import OpenK.AllK
import Wide.FinOn
import Lean
import PyProof.EqAt
import PyProof.EqKinds
import PyProof.TupleCall
import KE.BitLaws
import KE.KRevIter
import PyProof.P3In
import PySem.SetTable
import PyProof.TupleKey
import PyProof.SetRoads
import PyProof.IsRules
import PyProof.Rows.SetFrom
import KE.KDictSum
import PySem.Challenge.RW_canonwheel_k52_whole_runs
set_option Elab.async false
set_option linter.all false
set_option maxRecDepth 100000
set_option maxHeartbeats 4000000
set_option compiler.extract_closed false
set_option genSizeOf false
set_option genSizeOfSpec false
set_option bootstrap.genMatcherCode false
noncomputable section
local macro_rules|`(⋯)=>`(by omega)
theorem Zf {C:Prop}(h:False):C:=h.elim
open List renaming mem_cons_of_mem → wd, mem_cons_self → we, length_map → wj, map_cons → wm, getElem?_eq_getElem → wo, getD_eq_getElem?_getD → wt, size_toArray → wx, length_cons → wA, length_append → wB, mem_append_right → wC, getElem?_set_ne → wF, getElem?_append_left → wG, getElem?_map → wH, getElem?_append_right → wI, lookup_cons → wJ, map_nil → wK, set_cons_zero → wM, set_cons_succ → wN, replicate_succ → wO, getElem_of_mem → wQ, append_assoc → wR, getElem?_set_self → wV, take_of_length_le → wW, length_take → wX, take_append_drop → wZ, length_set → w4, mem_append_left → w5, foldl_cons → w6, getElem?_cons_zero → w9, length_replicate → xh, drop_eq_getElem_cons → xi, mem_singleton → xj, mem_of_getElem? → xl, append_nil → xn, flatten_cons → xo, getElem?_replicate → xq, mem_cons → xr, nil_append → xA, length_range → xC, extract_eq_take_drop → xF, getElem_mem → xH, getElem?_cons_succ → xJ, find?_cons → xK, mem_append → xM, length_nil → xN, count_eq_zero_of_not_mem → xP, getElem?_eq_none → xQ, mem_map → xS, cons_append → xT, not_mem_nil → xU, getElem_map → xX, getLast_mem → xZ, filterMap_cons → yc, getElem?_range → ye, pairwise_iff_getElem → yf, reverse_append → yg, exists_mem_of_ne_nil → yh, map_map → yn, getLast_eq_getElem → yo, ext_getElem? → yp, take_succ_eq_append_getElem → yq, length_drop → yr, any_cons → yt, eq_nil_of_length_eq_zero → yx, drop_zero → yC, perm_ext_iff_of_nodup → yI, length_eraseIdx_of_lt → yJ, take_sublist → yL, mem_of_find?_eq_some → yO, foldl_append → yQ, reverse_perm → yR, nodup_range → yY, ext_getElem → yZ, of_mem_zip → ze, range_succ_eq_map → zh, length_singleton → zk, pairwise_reverse → zo, reverse_reverse → zB, map_congr_left → zC, getElem_take → zF, getElem_drop → zG, flatMap_cons → zJ, pairwise_map → zK, drop_length → zL, mem_reverse → zN, nodup_cons → zT, zip_append → zU, foldl_nil → zY, nodup_nil → zZ, all_cons → Ab, sum_cons → Ac, set_set → Af
open Bool renaming false_eq_true → wg, and_eq_true → wq, false_ne_true → wU, not_true → xD, not_false → xG, beq_eq_decide_eq → yu, and_false → yD, and_self → yP, and_true → yT, or_true → zd, or_eq_true → zf, false_and → zu, true_or → Ae
open Nat renaming le_refl → wu, ne_of_lt → wz, lt_of_lt_of_le → wD, mul_assoc → w8, le_trans → xp, mod_eq_of_lt → xu, zero_le → xw, zero_add → xy, lt_irrefl → xB, lt_succ_of_lt → xE, mul_add → xI, le_of_lt → xR, le_add_right → xV, lt_succ_self → xW, mod_lt → yd, eq_zero_or_pos → yk, mul_comm → ym, add_assoc → yv, ne_of_gt → yy, succ_mul → yz, pow_succ → yA, lt_or_ge → yB, le_succ → yG, add_mul → yH, lt_trichotomy → yM, add_mul_mod_self_left → yN, le_succ_of_le → yS, add_comm → zb, lt_trans → zc, mul_one → zl, mod_mul → zm, mul_le_mul → zw, pow_le_pow_right → zA, add_sub_cancel → zD, sub_zero → zE, one_mul → zM, log2_lt → zP, testBit_zero → zQ, testBit_succ → zR, min_le_left → zS, mod_add_mod → zX, testBit_or → Aa, le_of_eq → Ad, succ_add → Ag, add_zero → Ah, pow_add → Am, mul_two → Ap, add_mod → Aq, mul_mod → Ar, mod_one → As
open Int renaming toNat_natCast → wL, le_trans → wY, le_of_lt → xc, le_refl → xf, mul_comm → xg, mul_le_mul_of_nonneg_left → xO, natCast_zero → xY, emod_eq_emod_iff_emod_sub_eq_zero → yi, mul_lt_mul_of_pos_right → yE, emod_lt_of_pos → yF, one_mul → yK, mul_assoc → yU, emod_eq_of_lt → yV, emod_add_emod → yW, natCast_succ → za, emod_nonneg → zg, mul_sub → zp, add_mul → zq, emod_add_mul_ediv → zr, pow_pos → zt, mul_nonneg → zv, lt_trichotomy → zH, emod_sub_emod → zI, mul_add → zO, natCast_mul → zV, natCast_add → zW, add_zero → Ai, add_comm → Aj, pow_succ → Ak, mul_one → Al
open Option renaming map_eq_some_iff → xt, map_some → yj, getD_some → yw, getD_none → yX
open PySem.W renaming Frag → Av, nsIn → AG, mg_none_of → AU, kitOne → AV, fnOf → A0, kia_one → Bf, codeIn → Bl, keepIn → Bm, mg_of → Bq, findIn → By, hideAll_get → BB, nsOkIn → B8, tail_of_in → Cd, excIn → Ci, methodObj → Cp, hideAll → CH, cellsFrom_some → CM, of_hideAll → Dg, plainGet → Dw, tailIn → DD, Looks → DI
open PySem renaming wpAny_bind → Aw, wpAny_pure → Ax, wpAny_mono → AI, wpAny_holding → AL, Env → AY, sizeLine_eq → A2, wpAny_setState_of → A4, wpAny_Call_Name_kw → Bb, wpAny_call_entry → Bn, mem_of_lookup → Bo, wpAny_newObj_type → Bw, wpAny_rule → Bz, wpAny_askSetting → BA, wpAny_passesOwn → BD, putSet_of → BI, wpAny_truthy_bool → BO, wpAny_storeSet_of → BP, wpAny_pyNext_list_item → BQ, wpAny_standAt → BR, wpAny_pyNext_list_end → BU, wpAny_execs_nil → BX, codeAny_mono → BZ, codeAny_builtin → B0, wpAny_setEntries_of → B7, wpAny_pyIter_list → Cq, wpAny_forIn_list → Cz, wpAny_callSpecial?_slot → CF, wpAny_specialOf → CK, wpAny_eqIsQuiet_tuple → CP, builtinLookup_eq_fast → CQ, isSubtype_type → CS, call_meets → CV, lookup_relabel_local → C1, plainId_quiet → C3, wpAny_attempt → C4, wpAny_newList → C6, wpAny_isSubtype_exc → C9, seqIndex_neg → Dh, wpAny_setField_rec → Dm, list_append → Do, seqIndex_of → Dt
open PyProof.Rows renaming wpS_bind → Ay, wpS_pure → AA, wpS_forRange → AQ, callWith_type1 → AX, wpS_mono → AZ, boot_sorted → BG, wpS_modify → BM, callWith_builtin1 → BY, wpS_lift → B9, assignInOrder_cons → Cc, subscriptTail_builtinR → CN, listUpdate_at → C5, getElem?_mirror_all → Dc, seqEpoch_at → Du
open PySem.Heap renaming lt_size → Az, get?_push_of_some → AB, get?_push_size → AF, get?_update_other → AM, get?_update_self → Be, SameBut → BW, size_push → CO
open Array renaming getElem?_eq_getElem → AC, length_toList → AD, getElem?_toList → AH, getElem?_setIfInBounds_ne → AN, getD → AR, getElem_extract → AS, toList_append → AW, getElem?_setIfInBounds_self_of_lt → A1, toList_push → A5, getElem_toList → A8, getElem?_eq_none → Ba, toList_extract → Bh, toList_reverse → Bi, getElem?_push → BC, size_setIfInBounds → BH, getElem?_map → BJ, getElem?_modify → BV, append_assoc → Cb, size_extract → Cf, getElem?_replicate → Cy, toList_map → CA, size_push → CL, mem_of_getElem? → CT, getElem_of_mem → CZ, forIn_toList → Dk, getElem_mem → Dq, size_modify → Ds
open PySem.Value renaming none → AE, ref → AK, int → AO, isInt → Bj, type → Br, isInt_shape → Co, str → DF, isStrOf → DG
open PySem.Str renaming ofString → AJ
open PySem.PyData renaming canLay0 → A3, depth → A9, eqv → BL, eqvAll → BS, canLayAll0 → Cr, depthAll → CI
open PySem.Obj renaming mapSeq → A6, putSet → Bd
open PySem.NameKind renaming free → A7, cell → C2
open False renaming elim → Bc
open Classical renaming byContradiction → Bg
open PyProof.Rows.F renaming plain_set_update_loop → Bp, entry_set_update_loop → CG
open PySem.Calls renaming spliced_cons → Bu, spliced_nil → Bx, Name_function_global → Cg, call_function_entry → Ct, evalArgs_plain → CU
open ForInStep renaming yield → Bv
open PySem.Builtin.List renaming listTooLong → BE, listLengthHint → Ce
open PySem.W.WData renaming int → BF, weightAll → CJ, weight → Dj, list → DA
open True renaming intro → BK
open PySem.Builtin renaming bitNot → BN, bitOr → DL
open PySem.Around renaming under_plainId → B6
open PySem.SetTable renaming fits → Cj, fill → Cn, tooFull → Dy
open PySem.F renaming slot_list_append → Cu, type_list_append → Cv, plainAttrs_list → CD, args_list_append_2 → CY, entry_list_append → C7, slot_list_append → Di
open PySem.Builtin.Range renaming rangeSize → CB
open PySem.Builtin.Int renaming intBits → C8
open PySem.SeqAt.EqAt renaming int_str → Dd, str_int → De
open PySem.pickOrder renaming go → Dl
open PySem.PassesOwn renaming looking → Dp, never → DB
open PySem.IsL renaming update → Dx
open PyProof.Rows.SortSt renaming mk' → DC
open PySem.Builtin.Frozenset renaming updateFrom → DE, newClass → DJ, sizeOf → DN, slot0 → DO
open PySem.Paired renaming length → DH, snoc → DQ
open PySem.Value.int renaming inj → DK
open Function renaming comp → DM
open PySem.IsRange renaming new → DP
open Prod.mk renaming inj → DR
open PySem.Heap.IsSliceOf renaming new → DS
theorem ZB (h:True:=by first|exact .inl rfl|exact .inr rfl|assumption):True:=h
theorem ZC (h:True:=by decide):True:=h
theorem ZD (h:True:=by intro _;rfl):True:=h
theorem ZE (h:True:=by rfl):True:=h
theorem ZF (h:True:=by intro _ _ z;cases z):True:=h
theorem ZG (h:True:=by first|exact Or.inl rfl|exact Or.inr (Or.inl rfl)|exact Or.inr (Or.inr rfl)):True:=h
theorem ZH (h:True:=by decide +kernel):True:=h
theorem ZI (h:True:=by intro _ _;rfl):True:=h
theorem ZJ (h:True:=by with_unfolding_all rfl):True:=h
namespace L2
open PySem PySem.Spec PyProof.Rows
abbrev Key:=Sum Int Str
def g8:Key->Value->Bool
 | .inl k,v=>Bj k v
 | .inr x,v=>DG x v
def vN (w:World):Key->Int
 | .inl k=>hashInt k
 | .inr x=>hashStr w x
theorem aK:∀ {k:Key} {v:Value},g8 k v=true->(∃ i t,k=Sum.inl i/\v=AO i t)\/(∃ x t,k=Sum.inr x/\v=DF x t)
 | .inl i,v,h=>by
  obtain⟨t,e⟩:=Co (k:=i) (v:=v) h;exact .inl ⟨i,t,rfl,e⟩
 | .inr x,v,h=>by
  obtain⟨t,e⟩:=Value.isStrOf_shape (x:=x) (v:=v) h;exact .inr ⟨x,t,rfl,e⟩
theorem my (i:Int)(t:Tok):g8 (.inl i) (.int i t)=true:=by simp[g8,Bj]
theorem nu (x:Str)(t:Tok):g8 (.inr x) (.str x t)=true:=by simp[g8,DG]
theorem se (a b:Int):decide ((Sum.inl a:Key)=Sum.inl b)=(a == b):=by
 by_cases e:a=b
 ·subst e;simp
 ·have h:¬ (Sum.inl a:Key)=Sum.inl b:=λ q=>e (Sum.inl.inj q)
  rw[decide_eq_false h];exact(beq_eq_false_iff_ne.mpr e).symm
theorem rV (a b:Str):decide ((Sum.inr a:Key)=Sum.inr b)=decide (a=b):=by
 by_cases e:a=b
 ·subst e;simp
 ·have h:¬ (Sum.inr a:Key)=Sum.inr b:=λ q=>e (Sum.inr.inj q)
  rw[decide_eq_false h,decide_eq_false e]
theorem sU (a:Int)(b:Str):decide ((Sum.inl a:Key)=Sum.inr b)=false:=decide_eq_false (λ q=>nomatch q)
theorem sR (a:Str)(b:Int):decide ((Sum.inr a:Key)=Sum.inl b)=false:=decide_eq_false (λ q=>nomatch q)
def bE (prog:Program)(w:World):PySem.KeyKind prog w Key where
 is:=g8
 hash:=vN w
 inj:=λ v a b ha hb=>by
  rcases aK ha with ⟨i,t,rfl,rfl⟩|⟨x,t,rfl,rfl⟩
  ·rcases aK hb with ⟨j,u,rfl,e⟩|⟨y,u,rfl,e⟩
   ·injection e with e1 _;rw[e1]
   ·exact nomatch e
  ·rcases aK hb with ⟨j,u,rfl,e⟩|⟨y,u,rfl,e⟩
   ·exact nomatch e
   ·injection e with e1 _;rw[e1]
 byValue:=λ k v h=>by
  rcases aK h with ⟨i,t,rfl,rfl⟩|⟨x,t,rfl,rfl⟩ <;>rfl
 pyHash:=λ hv h=>by
  rcases aK hv with ⟨i,t,rfl,rfl⟩|⟨x,t,rfl,rfl⟩
  ·exact wpAny_pyHash_int h
  ·exact wpAny_pyHash_str h
 eqBool:=λ hu hv h=>by
  rcases aK hu with ⟨i,t,rfl,rfl⟩|⟨x,t,rfl,rfl⟩
  ·rcases aK hv with ⟨j,u,rfl,rfl⟩|⟨y,u,rfl,rfl⟩
   ·rw[se] at h;exact wpAny_eqBool_int h
   ·rw[sU] at h;exact Dd i t y u _ _ _ _ h
  ·rcases aK hv with ⟨j,u,rfl,rfl⟩|⟨y,u,rfl,rfl⟩
   ·rw[sR] at h;exact De x t j u _ _ _ _ h
   ·rw[rV] at h;exact wpAny_eqBool_str h
 «strs»:=λ k x t v h=>by
  rcases aK h with ⟨i,u,rfl,e⟩|⟨y,u,rfl,e⟩
  ·exact nomatch e
  ·injection e with e1 _
   subst e1;cases v <;>rfl
theorem jz (prog:Program)(w:World)(i:Int)(t:Tok):(bE prog w).is (.inl i) (.int i t)=true:=my i t
theorem js (prog:Program)(w:World)(x:Str)(t:Tok):(bE prog w).is (.inr x) (.str x t)=true:=nu x t
inductive V where
 | non|bl (b:Bool)|int (i:Int)|str (x:Str)|byt (b:Array UInt8)|flt (b:UInt64)|ref (a:Addr)|ty (n:String)
 deriving DecidableEq
def RelV:V->Value->Prop
 | .non,u=>u=AE
 | .bl b,u=>u=Value.bool b
 | .int i,u=>∃ t,u=AO i t
 | .str x,u=>∃ t,u=DF x t
 | .byt b,u=>∃ t,u=Value.bytes b t
 | .flt b,u=>∃ t,u=Value.float b t
 | .ref a,u=>u=AK a
 | .ty n,u=>u=Br n
abbrev Vals:List V->List Value->Prop:=Paired RelV
theorem Vals.length {xs:List V}{us:List Value}(r:Vals xs us):xs.length=us.length:=DH r
theorem Vals.get:∀ {xs:List V} {us:List Value} {i:Nat} {x:V},Vals xs us->xs[i]?=some x->∃ u,us[i]?=some u/\RelV x u
 | _,_,_,_,.nil,e=>by simp at e
 | _,_,0,_,.cons r _,e=>by simp at e;subst e;exact⟨_,rfl,r⟩
 | _,_,i+1,x,.cons _ t,e=>by
  obtain⟨u,h1,h2⟩:=Vals.get (i:=i) (x:=x) t (by simpa using e);exact⟨u,by simpa using h1,h2⟩
theorem Vals.set {x:V}{u:Value}(r:RelV x u):∀ {xs:List V} {us:List Value} (i:Nat),Vals xs us->Vals (xs.set i x) (us.set i u)
 | _,_,_,.nil=>.nil
 | _,_,0,.cons _ t=>.cons r t
 | _,_,i+1,.cons q t=>.cons q (Vals.set r i t)
theorem Vals.append {xs ys:List V}{us ws:List Value}(q:Vals xs us)(s:Vals ys ws):Vals (xs++ys) (us++ws):=by
 induction q with
 | nil=>exact s
 | cons r t ih=>exact .cons r ih
theorem Vals.take:∀ {xs:List V} {us:List Value} (n:Nat),Vals xs us->Vals (xs.take n) (us.take n)
 | _,_,0,_=>.nil
 | _,_,_+1,.nil=>.nil
 | _,_,n+1,.cons r t=>.cons r (Vals.take n t)
theorem Vals.drop:∀ {xs:List V} {us:List Value} (n:Nat),Vals xs us->Vals (xs.drop n) (us.drop n)
 | _,_,0,r=>r
 | _,_,_+1,.nil=>.nil
 | _,_,n+1,.cons _ t=>Vals.drop n t
def RelO:Option V->Option Value->Prop
 | some v,some u=>RelV v u
 | none,none=>True
 | _,_=>False
def KV {κ:Type}:List (κ×V)->List (κ×Value)->Prop:=Paired λ (p:κ×V) (q:κ×Value)=>p.1=q.1/\RelV p.2 q.2
def kV:Key->V
 | .inl i=>.int i
 | .inr x=>.str x
inductive HO where
  | lst (xs:List V)
  | tup (xs:List V)
  | dK (kvs:List (Key×V))|dT (kvs:List (List Key×V))
  | set (S:Int->Bool) (n:Nat)
  | ins (C dx:Addr) (fs:List (Str×V))
  | own (x:Addr)
  | xd (fs:List (Str×V))
  | met (f x:Addr)
  | rng (lo hi:Int)
  | frz (o:Obj) (u:HO)
  | tbl (ps:Array Value)
  | ext (φ:Heap->Prop)
abbrev Hp:=Addr->Option HO
def upd (H:Hp)(a:Addr)(o:HO):Hp:=λ b=>if b=a then some o else H b
theorem ax {H:Hp}{a:Addr}{o:HO}:upd H a o a=some o:=by unfold upd;rw[if_pos rfl]
theorem aq {H:Hp}{a b:Addr}{o:HO}(h:b≠a):upd H a o b=H b:=by unfold upd;rw[if_neg h]
theorem au {H:Hp}{a b:Addr}{o:HO}(h:H a=some o)(h':H b=none):a≠b:=by
 intro e;subst e;rw[h] at h';cases h'
section
variable (P:Program)(w:World)
def ObjOk (H:Hp)(h:Heap)(a:Addr):HO->Prop
 | .lst xs=>xs.length<=sizeLine/\∃ (its:List Value) (n:Nat),Vals xs its/\h.get? a=some { cls:=.type "list",data:=.seq its.toArray n }
 | .tup xs=>xs.length<=sizeLine/\∃ its:List Value,Vals xs its/\IsTup h a its.toArray
 | .dK kvs=>kvs.length<=sizeLine/\(a == sysModules)=false/\∃ vs,KV kvs vs/\h.DictOf (bE P w) a vs
 | .dT kvs=>kvs.length<=sizeLine/\(a == sysModules)=false/\∃ xs:List (List Key×Addr×Value),
   Paired (λ (p:List Key×V) (q:List Key×Addr×Value)=>p.1=q.1/\H q.2.1=some (.tup (p.1.map kV))/\RelV p.2 q.2.2) kvs xs /\
   ∃ o es ep,h.get? a=some o/\o.ExactDict/\o.data=.dict es ep/\es.toList=xs.map (entryOfKey (tupleKind (bE P w)))/\(xs.map (·.1)).Nodup
 | .set S n=>h.SetOf (intKind P w) a S n
 | .ins C dx fs=>H dx=some (.own a)/\fs.length<=1000/\dx≠a/\h.get? a=some (PySem.W.instObj C dx) /\
   ∃ mA,h.Ns1 dx mA/\(∀ f,RelO (fs.lookup f) (mA f))/\PySem.Within mA (fs.map (·.1))
 | .own _=>∃ o,h.get? a=some o
 | .xd fs=>∃ mA,h.Ns1 a mA/\∀ f,RelO (fs.lookup f) (mA f)
 | .rng lo hi=>∃ t u v,h.get? a=some { cls:=.type "range",data:=.fields #[.int lo t,.int hi u,.int 1 v] }
 | .frz o u=>h.get? a=some o/\ObjOk H h a u
 | .tbl ps=>h.get? a=some { cls:=.none,data:=.fields ps }
 | .met f x=>h.get? a=some (Cp (.ref f) (.ref x))
 | .ext φ=>φ h/\(∃ o,h.get? a=some o)/\∀ h1 h2:Heap,φ h1->(∀ o,h1.get? a=some o->h2.get? a=some o)->φ h2
def HOk (H:Hp)(h:Heap):Prop:=∀ a o,H a=some o->ObjOk P w H h a o
end
section
variable {P:Program}{w:World}{H H':Hp}{h h':Heap}{a:Addr}{o:HO}
theorem ObjOk.lt (x:ObjOk P w H h a o):a<h.objs.size:=by
 cases o with
 | lst xs=>obtain⟨_,_,_,_,e⟩:=x;exact Az e
 | tup xs=>obtain⟨_,_,_,p⟩:=x;exact p.lt
 | dK kvs=>obtain⟨_,_,_,_,o,_,_,e,_⟩:=x;exact Az e
 | dT kvs=>obtain⟨_,_,_,_,o,_,_,e,_⟩:=x;exact Az e
 | set S n=>obtain⟨o,_,_,_,e,_⟩:=x;exact Az e
 | ins C dx fs=>obtain⟨_,_,_,e,_⟩:=x;exact Az e
 | own y=>obtain⟨_,e⟩:=x;exact Az e
 | xd fs=>obtain⟨_,⟨_,_,_,e,_⟩,_⟩:=x;exact Az e
 | rng lo hi=>obtain⟨_,_,_,e⟩:=x;exact Az e
 | frz ob u=>obtain⟨e,_⟩:=x;exact Az e
 | tbl ps=>exact Az (show h.get? a=some _ from x)
 | met f y=>exact Az (show h.get? a=some _ from x)
 | ext φ=>obtain⟨_,⟨_,e⟩,_⟩:=x;exact Az e
theorem Paired.mapP {α β:Type}{F G:α->β->Prop}{l₁:List α}{l₂:List β}(q:Paired F l₁ l₂)(f:∀ a b,F a b->G a b):Paired G l₁ l₂:=by
 induction q with
 | nil=>exact .nil
 | cons r t ih=>exact .cons (f _ _ r) ih
theorem ObjOk.stay (x:ObjOk P w H h a o)(k:∀ b u,(b=a\/H b=some (.own a))->h.get? b=some u->h'.get? b=some u)
  (ho:∀ b,H b=some (.own a)->H' b=some (.own a)) (ht:∀ b xs,H b=some (.tup xs)->H' b=some (.tup xs)):ObjOk P w H' h' a o:=by
 induction o with
 | lst xs=>obtain⟨z,its,n,r,e⟩:=x;exact⟨z,its,n,r,k _ _ (.inl rfl) e⟩
 | tup xs=>obtain⟨z,its,r,ob,e,c⟩:=x;exact⟨z,its,r,ob,k _ _ (.inl rfl) e,c⟩
 | dK kvs=>obtain⟨z,y,vs,r,ob,es,ep,e,c⟩:=x;exact⟨z,y,vs,r,ob,es,ep,k _ _ (.inl rfl) e,c⟩
 | dT kvs=>
  obtain⟨z,y,xs,r,ob,es,ep,e,c⟩:=x;exact⟨z,y,xs,Paired.mapP r λ p q z=>⟨z.1,ht _ _ z.2.1,z.2.2⟩,ob,es,ep,k _ _ (.inl rfl) e,c⟩
 | set S n=>obtain⟨ob,es,ep,t,e,c⟩:=x;exact⟨ob,es,ep,t,k _ _ (.inl rfl) e,c⟩
 | ins C dx fs=>
  obtain⟨d,z,ne,e,mA,⟨od,es,ep,e2,c⟩,r⟩:=x;exact⟨ho _ d,z,ne,k _ _ (.inl rfl) e,mA,⟨od,es,ep,k _ _ (.inr d) e2,c⟩,r⟩
 | own y=>obtain⟨ob,e⟩:=x;exact⟨ob,k _ _ (.inl rfl) e⟩
 | xd fs=>obtain⟨mA,⟨od,es,ep,e,c⟩,r⟩:=x;exact⟨mA,⟨od,es,ep,k _ _ (.inl rfl) e,c⟩,r⟩
 | rng lo hi=>obtain⟨t,u,v,e⟩:=x;exact⟨t,u,v,k _ _ (.inl rfl) e⟩
 | frz ob u ih=>obtain⟨e,q⟩:=x;exact⟨k _ _ (.inl rfl) e,ih q⟩
 | tbl ps=>
  have e:h.get? a=some { cls:=.none,data:=.fields ps }:=x;show h'.get? a=some { cls:=.none,data:=.fields ps }
  exact k a _ (.inl rfl) e
 | met f y=>
  have e:h.get? a=some (Cp (.ref f) (.ref y)):=x;show h'.get? a=some (Cp (.ref f) (.ref y))
  exact k a _ (.inl rfl) e
 | ext φ=>obtain⟨p,⟨o,e⟩,st⟩:=x;exact⟨st _ _ p λ o q=>k _ _ (.inl rfl) q,⟨o,k _ _ (.inl rfl) e⟩,st⟩
theorem HOk.lt (x:HOk P w H h)(e:H a=some o):a<h.objs.size:=(x a o e).lt
theorem HOk.fresh (x:HOk P w H h)(e:h.objs.size<=a):H a=none:=by
 cases q:H a with
 | none=>rfl
 | some u=>exact absurd (wD (x.lt q) e) (xB _)
theorem HOk.kept (x:HOk P w H h)(k:∀ b u,h.get? b=some u->h'.get? b=some u):HOk P w H h':=λ a o e=>
 (x a o e).stay (λ b u _ q=>k b u q) (λ _ q=>q) λ _ _ q=>q
theorem HOk.laid (x:HOk P w H h)(k:∀ b u,h.get? b=some u->h'.get? b=some u)(hp:h.objs.size<=a)(new:ObjOk P w (upd H a o) h' a o):HOk P w (upd H a o) h':=λ b u e=>by
 have hn:=x.fresh hp;by_cases hb:b=a
 ·subst hb;rw[ax] at e;cases e;exact new
 ·rw[aq hb] at e
  exact(x b u e).stay (λ c v _ q=>k c v q) (λ c q=>by rw[aq (au q hn)];exact q) λ c xs q=>by rw[aq (au q hn)];exact q
end
def Rd (H:Hp)(a:Addr)(u:HO):Prop:=H a=some u\/∃ o,H a=some (.frz o u)
theorem Rd.ok {P:Program}{w:World}{H:Hp}{h:Heap}{a:Addr}{u:HO}(r:Rd H a u)(x:HOk P w H h):ObjOk P w H h a u:=by
 rcases r with r|⟨o,r⟩
 ·exact x a u r
 ·obtain⟨_,q⟩:=x a _ r
  exact q
def Mut:Option HO->Prop
 | some (.lst _)=>True
 | some (.dK _)=>True
 | some (.dT _)=>True
 | some (.set _ _)=>True
 | some (.ins _ _ _)=>True
 | some (.ext _)=>True
 | _=>False
section
variable {P:Program}{w:World}{H:Hp}{h h':Heap}{x e:Addr}{o':HO}
theorem HOk.write (ok:HOk P w H h)(mu:Mut (H x))(he:e=x\/H e=some (.own x))(k:∀ b u,b≠e->h.get? b=some u->h'.get? b=some u)(heo:∃ u,h'.get? e=some u)
  (new:ObjOk P w (upd H x o') h' x o'):HOk P w (upd H x o') h':=λ b u q=>by
 have nown:∀ c y,H c=some (.own y)->c≠x:=λ c y r z=>by subst z;rw[r] at mu;exact mu
 have ntup:∀ c xs,H c=some (.tup xs)->c≠x:=λ c xs r z=>by subst z;rw[r] at mu;exact mu
 by_cases hb:b=x
 ·subst hb;rw[ax] at q;cases q;exact new
 ·rw[aq hb] at q
  by_cases hbe:b=e
  ·have q':H b=some (.own x):=by
    rcases he with z|z
    ·exact absurd (hbe.trans z) hb
    ·rw[hbe];exact z
   rw[q] at q';cases q';obtain⟨v,hv⟩:=heo;exact⟨v,by rw[hbe];exact hv⟩
  ·refine(ok b u q).stay (λ c v hc r=>k c v ?_ r) (λ c r=>by rw[aq (nown c b r)];exact r) λ c xs r=>by rw[aq (ntup c xs r)];exact r
   rcases hc with rfl|hc
   ·exact hbe
   ·rintro rfl
    rcases he with z|z
    ·exact nown c b hc z
    ·rw[hc] at z;cases z;exact hb rfl
end
structure Un (fs ex:List Addr)(H H':Hp)(h h':Heap):Prop where
 keep:∀ b o,h.get? b=some o->H b=none->b∉fs->b∉ex->h'.get? b=some o
 slot:∀ b o,h.get? b=some o->H b=none->b∈fs->b∉ex->∃ sl,h'.get? b=some { o with slots:=sl }
 free:∀ b o,h.get? b=some o->H b=none->b∉ex->H' b=none
 there:∀ b o,h.get? b=some o->b∉ex->∃ o',h'.get? b=some o'
 tups:∀ b xs,H b=some (.tup xs)->H' b=some (.tup xs)
 frzs:∀ b o u,H b=some (.frz o u)->H' b=some (.frz o u)
 tbls:∀ b ps,H b=some (.tbl ps)->∃ more,H' b=some (.tbl (ps++more))
section
variable {fs fs' ex ex':List Addr}{H H1 H2:Hp}{h h1 h2 h':Heap}{a x e:Addr}{o:HO}
theorem Un.any (u:Un fs ex H H1 h h1){b:Addr}{ob:Obj}(q:h.get? b=some ob)(n:H b=none)(hx:b∉ex):∃ sl,h1.get? b=some { ob with slots:=sl }:=by
 by_cases hb:b∈fs
 ·exact u.slot b ob q n hb hx
 ·exact⟨ob.slots,u.keep b ob q n hb hx⟩
theorem Un.trans (a:Un fs ex H H1 h h1)(b:Un fs ex H1 H2 h1 h2):Un fs ex H H2 h h2 where
 keep:=λ c ob q n hc hx=>b.keep c ob (a.keep c ob q n hc hx) (a.free c ob q n hx) hc hx
 slot:=λ c ob q n hc hx=>by
  obtain⟨sl,e1⟩:=a.slot c ob q n hc hx;obtain⟨sl',e2⟩:=b.slot c _ e1 (a.free c ob q n hx) hc hx;exact⟨sl',e2⟩
 free:=λ c ob q n hx=>by
  obtain⟨o',e1⟩:=a.there c ob q hx;exact b.free c o' e1 (a.free c ob q n hx) hx
 there:=λ c ob q hx=>by
  obtain⟨o',e1⟩:=a.there c ob q hx;exact b.there c o' e1 hx
 tups:=λ c xs q=>b.tups c xs (a.tups c xs q)
 frzs:=λ c ob xs q=>b.frzs c ob xs (a.frzs c ob xs q)
 tbls:=λ c ps q=>by
  obtain⟨m1,e1⟩:=a.tbls c ps q;obtain⟨m2,e2⟩:=b.tbls c _ e1;exact⟨m1++m2,by rw[e2,Cb]⟩
theorem Un.kept (k:∀ b u,h.get? b=some u->h'.get? b=some u):Un fs ex H H h h':=
 ⟨λ b ob q _ _ _=>k b ob q,λ b ob q _ _ _=>⟨ob.slots,k b ob q⟩,λ _ _ _ n _=>n,λ b ob q _=>⟨ob,k b ob q⟩,λ _ _ q=>q,λ _ _ _ q=>q,λ _ ps q=>⟨#[],by rw[q];simp⟩⟩
theorem Un.refl:Un fs ex H H h h:=Un.kept λ _ _ q=>q
theorem Un.laid (k:∀ b u,h.get? b=some u->h'.get? b=some u)(hp:h.objs.size<=a)(hn:H a=none):Un fs ex H (upd H a o) h h' where
 keep:=λ b u q _ _ _=>k b u q
 slot:=λ b u q _ _ _=>⟨u.slots,k b u q⟩
 free:=λ b u q n _=>by rw[aq (wz (wD (Az q) hp))];exact n
 there:=λ b u q _=>⟨u,k b u q⟩
 tups:=λ b xs q=>by rw[aq (au q hn)];exact q
 frzs:=λ b u xs q=>by rw[aq (au q hn)];exact q
 tbls:=λ b ps q=>⟨#[],by rw[aq (au q hn),q];simp⟩
theorem Un.write (mu:Mut (H x))(he:e=x\/H e=some (.own x))(k:∀ b u,b≠e->h.get? b=some u->h'.get? b=some u)(heo:∃ u,h'.get? e=some u):Un fs ex H (upd H x o) h h':=by
 have hx:∀ b,H b=none->b≠x:=λ b n z=>by subst z;rw[n] at mu;exact mu
 have hb:∀ b,H b=none->b≠e:=λ b n z=>by
  subst z
  rcases he with r|r
  ·exact hx b n r
  ·rw[n] at r;cases r
 have hm:∀ b u,H b=some u->¬ Mut (some u)->b≠x:=λ b u q nm z=>by subst z;rw[q] at mu;exact nm mu
 refine⟨λ b u q n _ _=>k b u (hb b n) q,λ b u q n _ _=>⟨u.slots,k b u (hb b n) q⟩,λ b u q n _=>by rw[aq (hx b n)];exact n,λ b u q _=>?_,
  λ b xs q=>by rw[aq (hm b _ q λ z=>z)];exact q,λ b u xs q=>by rw[aq (hm b _ q λ z=>z)];exact q,λ b ps q=>⟨#[],by rw[aq (hm b _ q λ z=>z),q];simp⟩⟩
 by_cases hbe:b=e
 ·subst hbe;exact heo
 ·exact⟨u,k b u hbe q⟩
end
def trk (h:Heap)(H:Hp):List Addr:=(List.range h.objs.size).filter λ a=>(H a).isSome
def ig (h:Heap)(H:Hp):Heap:=CH h (trk h H)
theorem mL (h:Heap)(H:Hp):(ig h H).objs.size=h.objs.size:=PySem.W.hideAll_size _ _
theorem oo {h:Heap}{H:Hp}{b:Addr}{o:Obj}(e:h.get? b=some o)(n:H b=none):(ig h H).get? b=some o:=
 BB _ e λ hm=>by
  have q:(H b).isSome=true:=(List.mem_filter.mp hm).2;rw[n] at q;simp at q
theorem qq {h:Heap}{H:Hp}{b:Addr}{o:Obj}(e:(ig h H).get? b=some o):h.get? b=some o/\H b=none:=by
 have e':h.get? b=some o:=Dg (trk h H) e;refine⟨e',?_⟩;cases q:H b with
 | none=>rfl
 | some x=>
  have hm:b∈trk h H:=List.mem_filter.mpr ⟨List.mem_range.mpr (Az e'),by simp[q]⟩;have z:(ig h H).get? b=none:=PySem.W.hideAll_none (trk h H) hm;rw[z] at e;cases e
def qP (g h:Heap)(L:Addr):List (Addr×Obj):=(List.range h.objs.size).filterMap λ a=>if a=L\/(g.get? a).isSome=true then none else (h.get? a).map λ o=>(a,o)
def rest (g h:Heap)(L d:Addr):List (Addr×Obj):=(qP g h L).filter λ p=>decide (p.1≠d)
structure Mod (K:Av)(mg:Str->Option Value)(base:Heap):Prop where
 kin:K.In base
 glob:base.Ns mainGlobals mg
 blt:∃ mb,base.Ns builtinsNs mb/\∀ x:Str,x≠"__name__"->mb x=bootBuiltins x
 nolimit:base.NoLimit
structure Cx where
 prog:Program
 w:World
 K:Av
 mg:Str->Option Value
 base:Heap
 A:Around
 N:List Str
 s₀:Shared
 H₀:Hp
 env:Env
 outer:List Env
 stack:List Env
 ex:List Addr
 fn:Str->Bool
 calm:Bool
 pn:List (Addr×Obj)
 xe:Value->Shared->Prop
def frs (l:List Env):List Addr:=l.filterMap (·.frame)
abbrev Cx.fs (X:Cx):List Addr:=frs X.outer
def Vis (sc:Scope)(x:Str):Prop:=sc.names.lookup x=some .local\/sc.names.lookup x=some .cell\/sc.names.lookup x=some .free
def Loc (sc:Scope)(x:Str):Prop:=sc.names.lookup x=some .local\/sc.names.lookup x=some .cell
def Look (env:Env)(h:Heap)(m:Str->Option Value)(x:Str)(u:Value):Prop:=
 (env.kindOf x=some .local/\m x=some u)\/((env.kindOf x=some .cell\/env.kindOf x=some .free)/\∃ c,env.cells.lookup x=some c/\h.IsCell c (some u))
structure Cx.Ok (X:Cx):Prop where
 mod:Mod X.K X.mg X.base
 kind:X.env.scope.kind=.function
 glob:X.env.globals=mainGlobals
 blt:X.env.builtins=builtinsNs
 above:X.s₀.heap.objs.size<=X.env.locals
 inj:∀ x y c,X.env.cells.lookup x=some c->X.env.cells.lookup y=some c->x=y
 has:∀ x,(X.env.kindOf x=some .cell\/X.env.kindOf x=some .free)->∃ c,X.env.cells.lookup x=some c
 cab:∀ x c,X.fn x=true->X.env.cells.lookup x=some c->X.s₀.heap.objs.size<=c
 hd:X.calm=true->X.A.handled=none
 frames:X.A.frames=some X.stack
 stk:X.stack=X.outer\/(X.stack=X.env::X.outer/\X.env.frame=some X.env.locals)
 exf:∀ b∈X.ex,b≠X.env.locals/\∀ x c,X.env.cells.lookup x=some c->c≠b
 bs:∀ b o,X.base.get? b=some o->X.s₀.heap.get? b=some o/\X.H₀ b=none
 bsz:X.base.objs.size<=X.s₀.heap.objs.size
 noex:∀ b o,X.base.get? b=some o->b∉X.ex
 exfs:∀ b∈X.ex,b∉X.fs
 funs:X.s₀.heap.FunFrames X.base X.outer
 frf:∀ b∈X.fs,X.H₀ b=none
structure Inv (X:Cx)(pins:List (Addr×Obj))(σ:List (Option V))(H:Hp)(s:Shared):Prop where
 ok:X.Ok
 os:s.os=X.s₀.os
 bare:AllBare s.gens
 base:Un X.fs X.ex X.H₀ H X.s₀.heap s.heap
 loc:∃ m,s.heap.Ns X.env.locals m/\∀ (i:Nat) (x:Str) (v:V),X.N[i]?=some x->σ[i]?=some (some v)->Vis X.env.scope x->∃ u,RelV v u/\Look X.env s.heap m x u
 cell:∀ x c,X.env.cells.lookup x=some c->∃ v,s.heap.IsCell c v
 free:H X.env.locals=none
 freeC:∀ x c,X.env.cells.lookup x=some c->H c=none
 pin:∀ p∈X.pn++pins,s.heap.get? p.1=some p.2/\H p.1=none/\p.1≠X.env.locals/\p.1∉X.fs/\∀ v,p.2.data≠.cell v
 hok:HOk X.prog X.w H s.heap
 len:σ.length=X.N.length
section
variable {X:Cx}{pins:List (Addr×Obj)}{σ:List (Option V)}{H H':Hp}{s:Shared}{h':Heap}
theorem Cx.Ok.nofr (ok:X.Ok){b:Addr}{o:Obj}(e:X.base.get? b=some o):b∉X.fs:=λ hb=>by
 have:=(ok.funs.mem hb).1;rw[e] at this;cases this
theorem Inv.bs (I:Inv X pins σ H s):∀ b o,X.base.get? b=some o->s.heap.get? b=some o/\H b=none:=λ b o e=>
 ⟨I.base.keep b o (I.ok.bs b o e).1 (I.ok.bs b o e).2 (I.ok.nofr e) (I.ok.noex b o e),I.base.free b o (I.ok.bs b o e).1 (I.ok.bs b o e).2 (I.ok.noex b o e)⟩
theorem Inv.bk (I:Inv X pins σ H s):∀ b o,X.base.get? b=some o->s.heap.get? b=some o:=λ b o e=>(I.bs b o e).1
theorem Inv.mod (I:Inv X pins σ H s):Mod X.K X.mg X.base:=I.ok.mod
theorem Inv.kIn (I:Inv X pins σ H s):X.K.In s.heap:=I.ok.mod.kin.keeps I.bk
theorem Inv.lt (I:Inv X pins σ H s):X.env.locals<s.heap.objs.size:=let ⟨_,hn,_⟩:=I.loc;hn.lt
theorem Inv.sz (I:Inv X pins σ H s):X.s₀.heap.objs.size<=s.heap.objs.size:=xp I.ok.above (xR I.lt)
theorem Inv.nofs (I:Inv X pins σ H s){a:Addr}(h:s.heap.objs.size<=a):a∉X.fs:=λ hb=>by
 obtain⟨_,o,ho,_⟩:=I.ok.funs.mem hb;exact absurd (wD (Az ho) (xp I.sz h)) (xB _)
theorem Inv.cne (I:Inv X pins σ H s):∀ x c,X.env.cells.lookup x=some c->c≠X.env.locals:=λ x c e z=>by
 obtain⟨v,o,ho,hd⟩:=I.cell x c e;obtain⟨m,⟨o',es,ep,ho',hd',_⟩,_⟩:=I.loc;rw[z,ho'] at ho;cases ho;rw[hd'] at hd;cases hd
theorem Inv.funs (I:Inv X pins σ H s):s.heap.FunFrames X.base X.outer:=by
 have all:∀ (l:List Env),(∀ b∈frs l,b∈X.fs)->X.s₀.heap.FunFrames X.base l->s.heap.FunFrames X.base l:=by
  intro l
  induction l with
  | nil=>intro _ _;trivial
  | cons env r ih=>
   intro hs hl;obtain⟨hk,⟨L,o,hf,hn,ho,hd⟩,hr⟩:=hl;have hL:L∈X.fs:=hs L (by unfold frs;rw[yc,hf];exact we);obtain⟨sl,e⟩:=I.base.slot L o ho (I.ok.frf L hL) hL λ z=>I.ok.exfs L z hL
   exact⟨hk,⟨L,_,hf,hn,e,hd⟩,ih (λ b hb=>hs b (by unfold frs;rw[yc,hf];exact wd _ hb)) hr⟩
 exact all X.outer (λ _ hb=>hb) I.ok.funs
theorem Inv.stack (I:Inv X pins σ H s):s.heap.FunFrames X.base X.stack:=by
 rcases I.ok.stk with e|⟨e,hf⟩
 ·rw[e];exact I.funs
 ·rw[e]
  obtain⟨m,hn,_⟩:=I.loc;refine .cons (by rw[I.ok.kind];decide) hf hn ?_ I.funs
  exact Heap.get?_none_of_le (xp I.ok.bsz I.ok.above)
theorem Inv.stkSub (I:Inv X pins σ H s):∀ b∈frs X.stack,b∈X.env.locals::X.fs:=λ b hb=>by
 rcases I.ok.stk with e|⟨e,hf⟩
 ·rw[e] at hb;exact wd _ hb
 ·rw[e] at hb
  unfold frs at hb;rw[yc,hf] at hb;exact hb
theorem Inv.stkFree (I:Inv X pins σ H s):∀ b∈frs X.stack,H b=none:=λ b hb=>by
 rcases List.mem_cons.mp (I.stkSub b hb) with e|hb
 ·rw[e];exact I.free
 ·obtain⟨_,o,ho,_⟩:=I.ok.funs.mem hb
  exact I.base.free b o ho (I.ok.frf b hb) λ z=>I.ok.exfs b z hb
theorem Inv.step {g':Array GenState}{t':Nat}{d':Drawn}{ch:List Addr}(I:Inv X pins σ H s)
  (hch:∀ b∈ch,(b∈X.ex\/X.s₀.heap.objs.size<=b)/\b≠X.env.locals/\(∀ x c,X.env.cells.lookup x=some c->c≠b)/\∀ p∈X.pn++pins,p.1≠b)
  (keep:∀ b o,b≠X.env.locals->b∉X.fs->b∉ch->s.heap.get? b=some o->H b=none->h'.get? b=some o)
  (slot:∀ b o,b≠X.env.locals->b∈X.fs->b∉ch->s.heap.get? b=some o->H b=none->∃ sl,h'.get? b=some { o with slots:=sl }) (free:∀ b o,b∉ch->s.heap.get? b=some o->H b=none->H' b=none)
  (there:∀ b o,b∉ch->s.heap.get? b=some o->∃ o',h'.get? b=some o')
  (tups:∀ b xs,H b=some (.tup xs)->H' b=some (.tup xs)) (frzs:∀ b o u,H b=some (.frz o u)->H' b=some (.frz o u)) (tbls:∀ b ps,H b=some (.tbl ps)->∃ more,H' b=some (.tbl (ps++more)))
  (ns:∀ m,s.heap.Ns X.env.locals m->h'.Ns X.env.locals m) (hok:HOk X.prog X.w H' h') (hg:AllBare g'):
  Inv X pins σ H' { s with heap:=h',gens:=g',drawn:=d',toks:=t' }:=by
 have neL:∀ b o,X.s₀.heap.get? b=some o->b≠X.env.locals:=λ b o e=>wz (wD (Az e) I.ok.above)
 have neC:∀ b o,X.s₀.heap.get? b=some o->b∉X.ex->b∉ch:=λ b o e hx hb=>by
  rcases (hch b hb).1 with z|z
  ·exact hx z
  ·exact absurd (wD (Az e) z) (xB _)
 have cellK:∀ x c,X.env.cells.lookup x=some c->∀ v,s.heap.IsCell c v->h'.IsCell c v:=λ x c e v ⟨o,ho,hd⟩=>by
  have nch:c∉ch:=λ z=>(hch c z).2.2.1 x c e rfl
  by_cases hc:c∈X.fs
  ·obtain⟨sl,q⟩:=slot c o (I.cne x c e) hc nch ho (I.freeC x c e)
   exact⟨_,q,hd⟩
  ·exact⟨o,keep c o (I.cne x c e) hc nch ho (I.freeC x c e),hd⟩
 refine⟨I.ok,I.os,hg,⟨λ b o e n hb hx=>?_,λ b o e n hb hx=>?_,λ b o e n hx=>?_,λ b o e hx=>?_,λ b xs e=>tups b xs (I.base.tups b xs e),λ b o xs e=>frzs b o xs (I.base.frzs b o xs e),λ b ps e=>?_⟩,?_,λ x c e=>?_,?_,λ x c e=>?_,λ p hp=>?_,hok,I.len⟩
 ·exact keep b o (neL b o e) hb (neC b o e hx) (I.base.keep b o e n hb hx) (I.base.free b o e n hx)
 ·obtain⟨sl,e1⟩:=I.base.slot b o e n hb hx
  obtain⟨sl',e2⟩:=slot b _ (neL b o e) hb (neC b o e hx) e1 (I.base.free b o e n hx);exact⟨sl',e2⟩
 ·obtain⟨o',e1⟩:=I.base.there b o e hx
  exact free b o' (neC b o e hx) e1 (I.base.free b o e n hx)
 ·obtain⟨o',e1⟩:=I.base.there b o e hx
  exact there b o' (neC b o e hx) e1
 ·obtain⟨m1,e1⟩:=I.base.tbls b ps e
  obtain⟨m2,e2⟩:=tbls b _ e1;exact⟨m1++m2,by rw[e2,Cb]⟩
 ·obtain⟨m,hn,hl⟩:=I.loc
  refine⟨m,ns m hn,λ i x v e1 e2 e3=>?_⟩;obtain⟨u,r,l⟩:=hl i x v e1 e2 e3;refine⟨u,r,?_⟩
  rcases l with l|⟨k,c,e,z⟩
  ·exact .inl l
  ·exact .inr ⟨k,c,e,cellK x c e _ z⟩
 ·obtain⟨v,z⟩:=I.cell x c e
  exact⟨v,cellK x c e v z⟩
 ·obtain⟨m,⟨o,_,_,ho,_⟩,_⟩:=I.loc
  exact free _ o (λ z=>(hch _ z).2.1 rfl) ho I.free
 ·obtain⟨v,o,ho,hd⟩:=I.cell x c e
  exact free c o (λ z=>(hch c z).2.2.1 x c e rfl) ho (I.freeC x c e)
 ·obtain⟨e,n,ne,nf,d⟩:=I.pin p hp
  have nch:p.1∉ch:=λ z=>(hch p.1 z).2.2.2 p hp rfl
  exact⟨keep p.1 p.2 ne nf nch e n,free p.1 p.2 nch e n,ne,nf,d⟩
theorem Inv.un {t':Nat}(I:Inv X pins σ H s)(u:Un X.fs [] H H' s.heap h')(hok:HOk X.prog X.w H' h'):Inv X pins σ H' { s with heap:=h',toks:=t' }:=by
 obtain⟨m,⟨o,es,ep,ho,r⟩,_⟩:=id I.loc;obtain⟨sl,hL⟩:=u.any ho I.free (by simp);exact I.step (g':=s.gens) (d':=s.drawn) (ch:=[]) (λ _ z=>nomatch z) (λ b o _ hb _ e n=>u.keep b o e n hb (by simp)) (λ b o _ hb _ e n=>u.slot b o e n hb (by simp)) (λ b o _ e n=>u.free b o e n (by simp)) (λ b o _ e=>u.there b o e (by simp)) u.tups u.frzs u.tbls (λ m' hm=>by
  obtain⟨o',es',ep',ho',r'⟩:=hm;rw[ho] at ho';cases ho';exact⟨_,es',ep',hL,r'⟩) hok I.bare
theorem Inv.call {g':Array GenState}{t':Nat}{d':Drawn}{ch:List Addr}(I:Inv X pins σ H s)(u:Un (frs X.stack) ch H H' s.heap h')(hok:HOk X.prog X.w H' h')(hg:AllBare g')
  (hch:∀ b∈ch,(b∈X.ex\/X.s₀.heap.objs.size<=b)/\b≠X.env.locals/\(∀ x c,X.env.cells.lookup x=some c->c≠b)/\∀ p∈X.pn++pins,p.1≠b):
  Inv X pins σ H' { s with heap:=h',gens:=g',drawn:=d',toks:=t' }:=by
 obtain⟨m,⟨o,es,ep,ho,r⟩,_⟩:=id I.loc;obtain⟨sl,hL⟩:=u.any ho I.free λ z=>(hch _ z).2.1 rfl
 exact I.step (ch:=ch) hch (λ b o hL hb hc e n=>u.keep b o e n (λ z=>(List.mem_cons.mp (I.stkSub b z)).elim hL hb) hc) (λ b o _ _ hc e n=>u.any e n hc) (λ b o hc e n=>u.free b o e n hc) (λ b o hc e=>u.there b o e hc) u.tups u.frzs u.tbls (λ m' hm=>by
  obtain⟨o',es',ep',ho',r'⟩:=hm;rw[ho] at ho';cases ho';exact⟨_,es',ep',hL,r'⟩) hok hg
theorem Inv.turned {t':Nat}{it:Addr}(I:Inv X pins σ H s)(k:∀ b o,b≠it->s.heap.get? b=some o->h'.get? b=some o)(hn:H it=none)(hL:it≠X.env.locals)
  (h1:it∈X.ex\/X.s₀.heap.objs.size<=it) (h2:∀ x c,X.env.cells.lookup x=some c->c≠it) (h3:∀ p∈X.pn++pins,p.1≠it):Inv X pins σ H { s with heap:=h',toks:=t' }:=by
 have nit:∀ b u,H b=some u->b≠it:=λ b u e z=>by rw[z,hn] at e;cases e
 refine I.step (g':=s.gens) (d':=s.drawn) (ch:=[it]) (λ b hb=>?_) (λ b o _ _ hc e _=>k b o (λ z=>hc (by simp[z])) e) (λ b o _ _ hc e _=>⟨o.slots,k b o (λ z=>hc (by simp[z])) e⟩) (λ _ _ _ _ n=>n)
  (λ b o hc e=>⟨o,k b o (λ z=>hc (by simp[z])) e⟩) (λ _ _ e=>e) (λ _ _ _ e=>e) (λ b ps e=>⟨#[],by rw[e];simp⟩) (λ m hm=>?_) (λ b u e=>?_) I.bare
 ·have e:b=it:=by simpa using hb
  subst e;exact⟨h1,hL,h2,h3⟩
 ·obtain⟨o,es,ep,ho,r⟩:=hm
  exact⟨o,es,ep,k _ o (Ne.symm hL) ho,r⟩
 ·refine(I.hok b u e).stay (λ c v hc q=>k c v ?_ q) (λ _ q=>q) λ _ _ q=>q
  rcases hc with z|z
  ·rw[z];exact nit b u e
  ·exact nit c _ z
theorem Inv.tok (I:Inv X pins σ H s)(t:Nat):Inv X pins σ H { s with toks:=t }:=I.un (h':=s.heap) (t':=t) Un.refl I.hok
theorem Inv.kept {t':Nat}(I:Inv X pins σ H s)(k:∀ b u,s.heap.get? b=some u->h'.get? b=some u):Inv X pins σ H { s with heap:=h',toks:=t' }:=I.un (Un.kept k) (I.hok.kept k)
theorem Inv.laid {a:Addr}{o:HO}{t':Nat}(I:Inv X pins σ H s)(k:∀ b u,s.heap.get? b=some u->h'.get? b=some u)(hp:s.heap.objs.size<=a)(new:ObjOk X.prog X.w (upd H a o) h' a o):
  Inv X pins σ (upd H a o) { s with heap:=h',toks:=t' }:=I.un (Un.laid k hp (I.hok.fresh hp)) (I.hok.laid k hp new)
theorem Inv.write {x e:Addr}{o:HO}{t':Nat}(I:Inv X pins σ H s)(mu:Mut (H x))(he:e=x\/H e=some (.own x))(k:∀ b u,b≠e->s.heap.get? b=some u->h'.get? b=some u)(heo:∃ u,h'.get? e=some u)
  (new:ObjOk X.prog X.w (upd H x o) h' x o):Inv X pins σ (upd H x o) { s with heap:=h',toks:=t' }:=I.un (Un.write mu he k heo) (I.hok.write mu he k heo new)
theorem Inv.pins_of {pins':List (Addr×Obj)}(I:Inv X pins σ H s)(h:∀ p∈pins',s.heap.get? p.1=some p.2/\H p.1=none/\p.1≠X.env.locals/\p.1∉X.fs/\∀ v,p.2.data≠.cell v):Inv X pins' σ H s:=
 ⟨I.ok,I.os,I.bare,I.base,I.loc,I.cell,I.free,I.freeC,λ p hp=>(List.mem_append.mp hp).elim (λ z=>I.pin p (w5 _ z)) (h p),I.hok,I.len⟩
theorem jl {N:List Str}(hN:N.Nodup){i j:Nat}{x:Str}(a:N[i]?=some x)(b:N[j]?=some x):i=j:=by
 obtain⟨h1,e1⟩:=List.getElem?_eq_some_iff.mp a;obtain⟨h2,e2⟩:=List.getElem?_eq_some_iff.mp b;exact(List.getElem_inj hN).mp (e1.trans e2.symm)
theorem gw {M:Model}{A:Around}{E:Value->Shared->Prop}{i:Nat}{x:Str}{v:V}{u:Value}{Q:Unit->Shared->Prop}(I:Inv X pins σ H s)(hN:X.N.Nodup)(hi:X.N[i]?=some x)(hx:Loc X.env.scope x)(r:RelV v u)
  (h:∀ s',Inv X pins (σ.set i (some v)) H s'->(∃ a,BW a s.heap s'.heap/\(a=X.env.locals\/X.env.cells.lookup x=some a))->Q () s') (hf:autoParam (X.fn x=true\/X.env.scope.names.lookup x=some .local) ZB._auto_1):wpAny M A (storeName X.env x u) Q E s:=by
 obtain⟨m,hn,hl⟩:=id I.loc;have hcls:(X.env.scope.kind == .class || (X.env.scope.kind == .module&&X.env.locals != X.env.globals))=false:=by rw[I.ok.kind];rfl
 have hiσ:i<σ.length:=by rw[I.len];exact(List.getElem?_eq_some_iff.mp hi).1
 have cne:=I.cne;have tracked:∀ {a:Addr} {h':Heap},(∃ o,s.heap.get? a=some o/\H a=none)->BW a s.heap h'->HOk X.prog X.w H h':=λ {a h'} ha hs b ob e=>by
  obtain⟨_,_,hfree⟩:=ha;refine(I.hok b ob e).stay (λ c w' hc q=>(hs.2 c ?_).trans q) (λ _ q=>q) λ _ _ q=>q
  rintro rfl
  rcases hc with rfl|hc
  ·rw[hfree] at e;cases e
  ·rw[hfree] at hc;cases hc
 rcases hx with hk|hk
 ·refine wpAny_storeName_local hk hn (λ h' hn' hs=>?_) hcls
  obtain⟨oL,_,_,hoL,_⟩:=id hn;refine h _ ⟨I.ok,I.os,I.bare,⟨λ b o e n hb hx=>?_,λ b o e n hb hx=>?_,I.base.free,λ b o e hx=>?_,I.base.tups,I.base.frzs,I.base.tbls⟩,⟨_,hn',λ j y v' e1 e2 e3=>?_⟩,λ y c e=>?_,I.free,I.freeC,λ p hp=>?_,tracked ⟨oL,hoL,I.free⟩ hs,by simpa using I.len⟩ ⟨_,hs,.inl rfl⟩
  ·exact(hs.2 b (wz (wD (Az e) I.ok.above))).trans (I.base.keep b o e n hb hx)
  ·obtain⟨sl,e1⟩:=I.base.slot b o e n hb hx
   exact⟨sl,(hs.2 b (wz (wD (Az e) I.ok.above))).trans e1⟩
  ·obtain⟨o',e1⟩:=I.base.there b o e hx
   exact⟨o',(hs.2 b (wz (wD (Az e) I.ok.above))).trans e1⟩
  ·by_cases hj:j=i
   ·subst hj
    rw[hi] at e1;cases e1;rw[wV hiσ] at e2;cases e2;exact⟨u,r,.inl ⟨hk,by simp⟩⟩
   ·rw[wF (Ne.symm hj)] at e2
    obtain⟨u',r',q⟩:=hl j y v' e1 e2 e3;refine⟨u',r',?_⟩
    rcases q with ⟨k,e⟩|⟨k,c,e,z⟩
    ·refine .inl ⟨k,?_⟩
     have:y≠x:=λ e=>hj (jl hN e1 (e▸hi))
     simp[this,e]
    ·exact .inr ⟨k,c,e,z.sameBut hs (cne y c e)⟩
  ·obtain⟨w',z⟩:=I.cell y c e
   exact⟨w',z.sameBut hs (cne y c e)⟩
  ·obtain⟨e,n,ne,nf,d⟩:=I.pin p hp
   exact⟨(hs.2 p.1 ne).trans e,n,ne,nf,d⟩
 ·have hfn:X.fn x=true:=by
   rcases hf with z|z
   ·exact z
   ·rw[z] at hk;cases hk
  obtain⟨c,hc⟩:=I.ok.has x (.inl hk);obtain⟨w',z⟩:=I.cell x c hc;refine wpAny_storeName_cell I.ok.kind hk hc z (λ h' hc' hs=>?_);obtain⟨oc,hoc,hocd⟩:=id z;refine h { s with heap:=h' } ⟨I.ok,I.os,I.bare,⟨λ b o e n hb hx=>?_,λ b o e n hb hx=>?_,I.base.free,λ b o e hx=>?_,I.base.tups,I.base.frzs,I.base.tbls⟩,⟨m,hn.sameBut hs (Ne.symm (cne x c hc)),λ j y v' e1 e2 e3=>?_⟩,λ y c' e=>?_,I.free,I.freeC,λ p hp=>?_,tracked ⟨oc,hoc,I.freeC x c hc⟩ hs,by simpa using I.len⟩ ⟨c,hs,.inr hc⟩
  ·exact(hs.2 b (wz (wD (Az e) (I.ok.cab x c hfn hc)))).trans (I.base.keep b o e n hb hx)
  ·obtain⟨sl,e1⟩:=I.base.slot b o e n hb hx
   exact⟨sl,(hs.2 b (wz (wD (Az e) (I.ok.cab x c hfn hc)))).trans e1⟩
  ·obtain⟨o',e1⟩:=I.base.there b o e hx
   exact⟨o',(hs.2 b (wz (wD (Az e) (I.ok.cab x c hfn hc)))).trans e1⟩
  ·by_cases hj:j=i
   ·subst hj
    rw[hi] at e1;cases e1;rw[wV hiσ] at e2;cases e2;exact⟨u,r,.inr ⟨.inl hk,c,hc,hc'⟩⟩
   ·rw[wF (Ne.symm hj)] at e2
    obtain⟨u',r',q⟩:=hl j y v' e1 e2 e3;refine⟨u',r',?_⟩
    rcases q with q|⟨k,c',e,z'⟩
    ·exact .inl q
    ·refine .inr ⟨k,c',e,z'.sameBut hs ?_⟩
     rintro rfl
     exact hj (jl hN e1 (I.ok.inj _ _ _ e hc▸hi))
  ·by_cases hcc:c'=c
   ·subst hcc;exact⟨_,hc'⟩
   ·obtain⟨w2,z2⟩:=I.cell y c' e
    exact⟨w2,z2.sameBut hs hcc⟩
  ·obtain⟨e,n,ne,nf,d⟩:=I.pin p hp
   refine⟨(hs.2 p.1 ?_).trans e,n,ne,nf,d⟩;intro q;rw[q,hoc] at e;have q':oc=p.2:=Option.some.inj e;exact d w' (by rw[<- q'];exact hocd)
theorem ee {M:Model}{A:Around}{E:Value->Shared->Prop}{i:Nat}{x:Str}{v:V}{u:Value}{Q:Unit->Shared->Prop}(I:Inv X pins σ H s)(hN:X.N.Nodup)(hi:X.N[i]?=some x)(hx:Loc X.env.scope x)(r:RelV v u)
  (h:∀ s',Inv X pins (σ.set i (some v)) H s'->Q () s') (hf:autoParam (X.fn x=true\/X.env.scope.names.lookup x=some .local) ZB._auto_1):wpAny M A (storeName X.env x u) Q E s:=
 gw I hN hi hx r (λ s' I' _=>h s' I') hf
theorem Inv.call' {s':Shared}{ch:List Addr}(I:Inv X pins σ H s)(ho:s'.os=s.os)(u:Un (frs X.stack) ch H H' s.heap s'.heap)(hok:HOk X.prog X.w H' s'.heap)(hg:AllBare s'.gens)
  (hch:∀ b∈ch,(b∈X.ex\/X.s₀.heap.objs.size<=b)/\b≠X.env.locals/\(∀ x c,X.env.cells.lookup x=some c->c≠b)/\∀ p∈X.pn++pins,p.1≠b):Inv X pins σ H' s':=by
 obtain⟨h',g',d',t',o'⟩:=s';have e:o'=s.os:=ho;subst e;exact I.call (g':=g') (t':=t') (d':=d') u hok hg hch
end
abbrev XK:=Value->Option Addr->Hp->Prop
abbrev St:=List (Option V)
abbrev VK:=V->Hp->Prop
abbrev TE:=St->Hp->VK->Prop
abbrev TT:=St->Hp->(Bool->Hp->Prop)->Prop
abbrev TA:=St->Hp->(List V->Hp->Prop)->Prop
structure Ends where
 nx:St->Hp->Prop
 rt:VK
 bk:St->Hp->Prop:=λ _ _=>False
 ct:St->Hp->Prop:=λ _ _=>False
abbrev TS:=Ends->St->Hp->Prop
def EP (X:Cx)(pins:List (Addr×Obj))(σ:St)(Q:VK)(u:Value)(s':Shared):Prop:=∃ v H',Inv X pins σ H' s'/\RelV v u/\Q v H'
def TP (X:Cx)(pins:List (Addr×Obj))(σ:St)(Q:Bool->Hp->Prop)(b:Bool)(s':Shared):Prop:=∃ H',Inv X pins σ H' s'/\Q b H'
def AP (X:Cx)(pins:List (Addr×Obj))(σ:St)(Q:List V->Hp->Prop)(us:List Value)(s':Shared):Prop:=∃ vs H',Inv X pins σ H' s'/\Vals vs us/\Q vs H'
def SP (X:Cx)(pins:List (Addr×Obj))(D:Ends)(f:Flow)(s':Shared):Prop:=
 match f with
 | .next=>∃ σ' H',Inv X pins σ' H' s'/\D.nx σ' H'
 | .brk=>∃ σ' H',Inv X pins σ' H' s'/\D.bk σ' H'
 | .cont=>∃ σ' H',Inv X pins σ' H' s'/\D.ct σ' H'
 | .ret u=>∃ v σ' H',Inv X pins σ' H' s'/\RelV v u/\D.rt v H'
def PE (X:Cx)(e:Expr)(t:TE):Prop:=
 ∀ (pins:List (Addr×Obj)) (s:Shared) (σ:St) (H:Hp) (Q:VK),Inv X pins σ H s->t σ H Q->wpAny (model X.prog X.w) X.A (eval e X.env) (EP X pins σ Q) X.xe s
def PT (X:Cx)(e:Expr)(t:TT):Prop:=
 ∀ (pins:List (Addr×Obj)) (s:Shared) (σ:St) (H:Hp) (Q:Bool->Hp->Prop),Inv X pins σ H s->t σ H Q->wpAny (model X.prog X.w) X.A (isTrue e X.env (eval e X.env)) (TP X pins σ Q) X.xe s
def PW (X:Cx)(e:Expr)(t:TT):Prop:=
 ∀ (whole:Sem Value) (pins:List (Addr×Obj)) (s:Shared) (σ:St) (H:Hp) (Q:Bool->Hp->Prop),Inv X pins σ H s->t σ H Q->wpAny (model X.prog X.w) X.A (isTrue e X.env whole) (TP X pins σ Q) X.xe s
theorem PW.pt {X:Cx}{e:Expr}{t:TT}(h:PW X e t):PT X e t:=h _
def PA (X:Cx)(es:List Expr)(t:TA):Prop:=
 ∀ (pos:Pos) (pins:List (Addr×Obj)) (s:Shared) (σ:St) (H:Hp) (Q:List V->Hp->Prop),Inv X pins σ H s->t σ H Q->wpAny (model X.prog X.w) X.A (spliced (backTo pos (starEach es X.env))) (AP X pins σ Q) X.xe s
def PS (X:Cx)(st:Stmt)(t:TS):Prop:=
 ∀ (pins:List (Addr×Obj)) (s:Shared) (σ:St) (H:Hp) (D:Ends),Inv X pins σ H s->t D σ H->wpAny (model X.prog X.w) X.A (exec st X.env) (SP X pins D) X.xe s
def PSs (X:Cx)(st:List Stmt)(t:TS):Prop:=
 ∀ (pins:List (Addr×Obj)) (s:Shared) (σ:St) (H:Hp) (D:Ends),Inv X pins σ H s->t D σ H->wpAny (model X.prog X.w) X.A (execs st X.env) (SP X pins D) X.xe s
theorem thn {α:Type}{t:Sem α}{Q Q':α->Shared->Prop}{M:Model}{A:Around}{E:Value->Shared->Prop}{s:Shared}(h:wpAny M A t Q E s)(hQ:∀ a s,Q a s->Q' a s):wpAny M A t Q' E s:=AI h hQ λ _ _ x=>x
section
variable {X:Cx}
def sD (i:Nat):TE:=λ σ H Q=>∃ v,σ[i]?=some (some v)/\Q v H
def tC (v:V):TE:=λ _ H Q=>Q v H
theorem cW {i:Nat}{x:Str}{pos:Pos}(hN:X.N[i]?=some x)(hv:Vis X.env.scope x)(hd:autoParam ((x == ("__debug__":Str))=false) ZC._auto_1)(hcd:autoParam ((x == ("__classdict__":Str))=false) ZC._auto_1):PE X (.Name x pos) (sD i):=by
 intro pins s σ H Q I h;obtain⟨v,e,h⟩:=h;obtain⟨m,hn,hl⟩:=I.loc;obtain⟨u,r,l⟩:=hl i x v hN e hv;have fin:EP X pins σ Q u s:=⟨v,H,I,r,h⟩
 rcases l with ⟨hk,hm⟩|⟨hk,c,hc,hcell⟩
 ·exact wpAny_Name (wpAny_loadName_local I.ok.kind hk hn hm fin) hd
 ·rcases hk with hk|hk
  ·exact wpAny_Name (wpAny_loadName_cell I.ok.kind hk hc hcell fin) hd
  ·exact wpAny_Name (wpAny_loadName_free I.ok.kind hk hc hcell fin hcd) hd
theorem oM {i j pos}:PE X (.Constant (.int i) j pos) (tC (.int i)):=λ _ _ _ H _ I h=>wpAny_Constant_int ⟨.int i,H,I.tok _,⟨_,rfl⟩,h⟩
theorem vb {b j pos}:PE X (.Constant (.bool b) j pos) (tC (.bl b)):=λ _ _ _ H _ I h=>Constant_bool ⟨.bl b,H,I,rfl,h⟩
theorem tY {j pos}:PE X (.Constant .none j pos) (tC .non):=λ _ _ _ H _ I h=>Constant_none ⟨.non,H,I,rfl,h⟩
theorem kT {x j pos}:PE X (.Constant (.str x) j pos) (tC (.str x)):=λ _ _ _ H _ I h=>Calls.Constant_str ⟨.str x,H,I.tok _,⟨_,rfl⟩,h⟩
def Gl (X:Cx)(x:Str):Prop:=X.env.kindOf x=some .globalImplicit
theorem ie {E:Value->Shared->Prop}{pins:List (Addr×Obj)}{s:Shared}{σ:St}{H:Hp}{x:Str}{u:Value}{pos:Pos}{Q:Value->Shared->Prop}(I:Inv X pins σ H s)(hg:Gl X x)(hm:X.mg x=some u)(h:Q u s)
  (hd:autoParam ((x == ("__debug__":Str))=false) ZC._auto_1):wpAny (model X.prog X.w) X.A (eval (.Name x pos) X.env) Q E s:=
 Cg I.ok.kind hg (Calls.loadGlobal_global (by rw[I.ok.glob];exact I.mod.glob.keeps I.bk) hm h) hd
theorem ck {E:Value->Shared->Prop}{pins:List (Addr×Obj)}{s:Shared}{σ:St}{H:Hp}{x:Str}{u:Value}{pos:Pos}{Q:Value->Shared->Prop}(I:Inv X pins σ H s)(hg:Gl X x)(hm:X.mg x=none)(hv:bootBuiltins x=some u)(h:Q u s)
  (hn:autoParam (x≠"__name__") ZC._auto_1) (hd:autoParam ((x == ("__debug__":Str))=false) ZC._auto_1):wpAny (model X.prog X.w) X.A (eval (.Name x pos) X.env) Q E s:=by
 obtain⟨mb,h1,h2⟩:=I.mod.blt;exact Cg I.ok.kind hg (Calls.loadGlobal_builtin (by rw[I.ok.glob];exact I.mod.glob.keeps I.bk) hm (by rw[I.ok.blt];exact h1.keeps I.bk) ((h2 x hn).trans hv) h) hd
theorem ls {x:Str}{v:V}{u:Value}{pos:Pos}(hg:Gl X x)(hm:X.mg x=some u)(r:RelV v u)(hd:autoParam ((x == ("__debug__":Str))=false) ZC._auto_1):PE X (.Name x pos) (tC v):=
 λ _ _ _ H _ I h=>ie I hg hm ⟨v,H,I,r,h⟩ hd
theorem qd {x:Str}{v:V}{u:Value}{pos:Pos}(hg:Gl X x)(hm:X.mg x=none)(hv:bootBuiltins x=some u)(r:RelV v u)(hn:autoParam (x≠"__name__") ZC._auto_1)(hd:autoParam ((x == ("__debug__":Str))=false) ZC._auto_1):PE X (.Name x pos) (tC v):=
 λ _ _ _ H _ I h=>ck I hg hm hv ⟨v,H,I,r,h⟩ hn hd
variable {a b:Expr}{ta tb:TE}{pos:Pos}
def tB (t:TE):TT:=λ σ H Q=>t σ H λ x H1=>∃ c,x=.bl c/\Q c H1
theorem tD {e:Expr}{t:TE}(h:PE X e t)(he:autoParam (∀ whole,isTrue e X.env whole=(do let v <- whole;standAt e.pos;holding [v] (truthy v))) ZD._auto_1):PT X e (tB t):=by
 intro pins s σ H Q I hw;refine isTrue_plain (thn (h pins s σ H _ I hw) λ v s1 ⟨x,H1,I1,r1,q1⟩=>?_) (he _);obtain⟨d,rfl,q⟩:=q1;cases r1;exact BO ⟨H1,I1,q⟩
variable {tA tB':TT}{rest:List Expr}
def v7 (t u:TT):TT:=λ σ H Q=>t σ H λ c H1=>if c=true then u σ H1 Q else Q false H1
def tOr (t u:TT):TT:=λ σ H Q=>t σ H λ c H1=>if c=true then Q true H1 else u σ H1 Q
def v8 (t:TT):TT:=λ σ H Q=>t σ H λ c H1=>Q (!c) H1
theorem qv (ha:PT X a tA):PW X (.BoolOp .And [a] pos) tA:=by
 intro wh pins s σ H Q I h;refine isTrue_and (thn (ha pins s σ H Q I h) λ c s1 e=>?_);cases c with
 | true=>exact isTrue_and_nil e
 | false=>exact e
theorem tP (ha:PT X a tA):PW X (.BoolOp .Or [a] pos) tA:=by
 intro wh pins s σ H Q I h;refine isTrue_or (thn (ha pins s σ H Q I h) λ c s1 e=>?_);cases c with
 | false=>exact isTrue_or_nil e
 | true=>exact e
theorem tE (ha:PT X a tA)(hb:PW X (.BoolOp .And (b::rest) pos) tB'):PW X (.BoolOp .And (a::b::rest) pos) (v7 tA tB'):=by
 intro wh pins s σ H Q I h;refine isTrue_and (thn (ha pins s σ H _ I h) λ c s1 ⟨H1,I1,q1⟩=>?_);cases c with
 | true=>exact hb wh pins s1 σ H1 Q I1 q1
 | false=>exact⟨H1,I1,q1⟩
theorem vk (ha:PT X a tA)(hb:PW X (.BoolOp .Or (b::rest) pos) tB'):PW X (.BoolOp .Or (a::b::rest) pos) (tOr tA tB'):=by
 intro wh pins s σ H Q I h;refine isTrue_or (thn (ha pins s σ H _ I h) λ c s1 ⟨H1,I1,q1⟩=>?_);cases c with
 | true=>exact⟨H1,I1,q1⟩
 | false=>exact hb wh pins s1 σ H1 Q I1 q1
theorem rW (ha:PT X a tA):PT X (.UnaryOp .Not a pos) (v8 tA):=by
 intro pins s σ H Q I h;exact isTrue_not (ha pins s σ H (λ c H1=>Q (!c) H1) I h)
def uY (ta tb:TE):TE:=λ σ H Q=>ta σ H λ x H1=>∃ c,x=.bl c/\if c=true then tb σ H1 Q else Q (.bl false) H1
def uc (ta:TE):TE:=λ σ H Q=>ta σ H λ x H1=>∃ c,x=.bl c/\Q (.bl (!c)) H1
theorem sO {op}{t:TE}(h:PE X a t):PE X (.BoolOp op [a] pos) t:=λ pins s σ H Q I hw=>BoolOp_one (h pins s σ H Q I hw)
theorem tS (ha:PE X a ta)(hb:PE X (.BoolOp .And (b::rest) pos) tb):PE X (.BoolOp .And (a::b::rest) pos) (uY ta tb):=by
 intro pins s σ H Q I h;refine BoolOp_and (thn (ha pins s σ H _ I h) λ v s1 ⟨x,H1,I1,r1,q1⟩=>?_);obtain⟨c,rfl,q1⟩:=q1;cases r1;refine BO ?_
 cases c with
 | true=>exact hb pins s1 σ H1 Q I1 q1
 | false=>exact⟨.bl false,H1,I1,rfl,q1⟩
theorem sf (ha:PE X a ta):PE X (.UnaryOp .Not a pos) (uc ta):=by
 intro pins s σ H Q I h;refine UnaryOp_ (thn (ha pins s σ H _ I h) λ v s1 ⟨x,H1,I1,r1,q1⟩=>?_);obtain⟨c,rfl,q1⟩:=q1;cases r1;exact not_of (BO ⟨.bl (!c),H1,I1,rfl,q1⟩)
end
def SqL (K:Av)(H:Hp)(a:Addr)(xs:List V):Prop:=
 Rd H a (.lst xs) \/
  ∃ (o:Obj) (its:Array Value) (n:Nat),K.lookup a=some o/\o.cls=.type "list"/\o.dict=none/\o.data=.seq its n/\its.size<=sizeLine/\Vals xs its.toList
def SqT (K:Av)(H:Hp)(a:Addr)(xs:List V):Prop:=
 Rd H a (.tup xs) \/
  ∃ (o:Obj) (its:Array Value) (n:Nat),K.lookup a=some o/\o.cls=.type "tuple"/\o.data=.seq its n/\its.size<=sizeLine/\Vals xs its.toList
def vD:Value->Option V
 | .none=>some .non
 | .bool b=>some (.bl b)
 | .int i _=>some (.int i)
 | .str x _=>some (.str x)
 | .bytes b _=>some (.byt b)
 | .float b _=>some (.flt b)
 | .ref a=>some (.ref a)
 | .type n=>some (.ty n)
 | _=>none
theorem RelV.abs {x:V}{u:Value}(r:RelV x u):vD u=some x:=by
 cases x with
 | non=>cases r;rfl
 | bl _=>cases r;rfl
 | int _=>obtain⟨t,rfl⟩:=r;rfl
 | str _=>obtain⟨t,rfl⟩:=r;rfl
 | byt _=>obtain⟨t,rfl⟩:=r;rfl
 | flt _=>obtain⟨t,rfl⟩:=r;rfl
 | ref _=>cases r;rfl
 | ty _=>cases r;rfl
theorem RelV.inj {x y:V}{u:Value}(r:RelV x u)(q:RelV y u):x=y:=Option.some.inj (r.abs.symm.trans q.abs)
theorem Vals.inj {xs ys:List V}{us:List Value}(q:Vals xs us)(p:Vals ys us):xs=ys:=by
 induction q generalizing ys with
 | nil=>cases p;rfl
 | cons r t ih=>
  cases p with
  | cons r' t'=>rw[r.inj r',ih t']
section
variable {X:Cx}{pins:List (Addr×Obj)}{σ:St}{H:Hp}{s:Shared}{a:Addr}{xs ys:List V}
theorem SqL.of {K:Av}(h:H a=some (.lst xs)):SqL K H a xs:=.inl (.inl h)
theorem Inv.list (I:Inv X pins σ H s)(h:SqL X.K H a xs):∃ its:List Value,Vals xs its/\PlainL s.heap a its.toArray/\xs.length<=sizeLine:=by
 rcases h with h|⟨o,its,n,hk,hc,hd,hs,hz,r⟩
 ·obtain⟨z,its,n,r,e⟩:=h.ok I.hok
  exact⟨its,r,⟨_,n,e,rfl,rfl,rfl⟩,z⟩
 ·refine⟨its.toList,r,⟨o,n,I.kIn a o hk,hc,hd,by simpa using hs⟩,?_⟩
  have e:=r.length;simp only[AD] at e;omega
theorem Inv.tuple (I:Inv X pins σ H s)(h:SqT X.K H a xs):∃ its:List Value,Vals xs its/\IsTup s.heap a its.toArray/\xs.length<=sizeLine:=by
 rcases h with h|⟨o,its,n,hk,hc,hs,hz,r⟩
 ·obtain⟨z,its,r,p⟩:=h.ok I.hok
  exact⟨its,r,p,z⟩
 ·refine⟨its.toList,r,⟨o,I.kIn a o hk,hc,n,by simpa using hs⟩,?_⟩
  have e:=r.length;simp only[AD] at e;omega
theorem Inv.list_inj (I:Inv X pins σ H s)(h:SqL X.K H a xs)(h':SqL X.K H a ys):xs=ys:=by
 obtain⟨its,r,⟨o,n,e,_,_,d⟩,_⟩:=I.list h;obtain⟨its',r',⟨o',n',e',_,_,d'⟩,_⟩:=I.list h';rw[e] at e';cases e';rw[d] at d';injection d' with d1 _
 have:its=its':=by simpa using congrArg Array.toList d1
 subst this;exact r.inj r'
end
abbrev Cx.wish (X:Cx)(E:Value->Shared->Prop):Cx:={ X with xe:=E }
abbrev Cx.nox (X:Cx):Cx:=X.wish λ _ _=>False
theorem Cx.Ok.wish {X:Cx}(ok:X.Ok)(E:Value->Shared->Prop):(X.wish E).Ok:=
 ⟨ok.mod,ok.kind,ok.glob,ok.blt,ok.above,ok.inj,ok.has,ok.cab,ok.hd,ok.frames,ok.stk,ok.exf,ok.bs,ok.bsz,ok.noex,ok.exfs,ok.funs,ok.frf⟩
theorem Cx.Ok.unwish {X:Cx}{E:Value->Shared->Prop}(ok:(X.wish E).Ok):X.Ok:=
 ⟨ok.mod,ok.kind,ok.glob,ok.blt,ok.above,ok.inj,ok.has,ok.cab,ok.hd,ok.frames,ok.stk,ok.exf,ok.bs,ok.bsz,ok.noex,ok.exfs,ok.funs,ok.frf⟩
section
variable {X:Cx}{pins:List (Addr×Obj)}{σ:St}{H:Hp}{s:Shared}{E:Value->Shared->Prop}
theorem Inv.wish (I:Inv X pins σ H s)(E:Value->Shared->Prop):Inv (X.wish E) pins σ H s:=⟨I.ok.wish E,I.os,I.bare,I.base,I.loc,I.cell,I.free,I.freeC,I.pin,I.hok,I.len⟩
theorem Inv.unwish (I:Inv (X.wish E) pins σ H s):Inv X pins σ H s:=⟨I.ok.unwish,I.os,I.bare,I.base,I.loc,I.cell,I.free,I.freeC,I.pin,I.hok,I.len⟩
theorem SP.unwish {D:Ends}{f:Flow}{s':Shared}(h:SP (X.wish E) pins D f s'):SP X pins D f s':=by
 cases f with
 | next=>obtain⟨σ',H',I,q⟩:=h;exact⟨σ',H',I.unwish,q⟩
 | brk=>obtain⟨σ',H',I,q⟩:=h;exact⟨σ',H',I.unwish,q⟩
 | cont=>obtain⟨σ',H',I,q⟩:=h;exact⟨σ',H',I.unwish,q⟩
 | ret u=>obtain⟨v,σ',H',I,r,q⟩:=h;exact⟨v,σ',H',I.unwish,r,q⟩
theorem PE.nox {e:Expr}{t:TE}(h:PE X.nox e t):PE X e t:=λ pins s σ H Q I hw=>
 AI (h pins s σ H Q (I.wish _) hw) (λ _ _ ⟨v,H',I',r,q⟩=>⟨v,H',I'.unwish,r,q⟩) λ _ _ z=>Bc z
theorem PT.nox {e:Expr}{t:TT}(h:PT X.nox e t):PT X e t:=λ pins s σ H Q I hw=>
 AI (h pins s σ H Q (I.wish _) hw) (λ _ _ ⟨H',I',q⟩=>⟨H',I'.unwish,q⟩) λ _ _ z=>Bc z
theorem PSs.nox {st:List Stmt}{t:TS}(h:PSs X.nox st t):PSs X st t:=λ pins s σ H D I hw=>
 AI (h pins s σ H D (I.wish _) hw) (λ _ _ q=>q.unwish) λ _ _ z=>Bc z
end
section
variable {X:Cx}{st:Stmt}{rest:List Stmt}{t u:TS}{e:Expr}{te:TE}{pos:Pos}
def uh:TS:=λ D σ H=>D.nx σ H
def sy (t u:TS):TS:=λ D σ H=>t { D with nx:=u D } σ H
theorem qL:PSs X [] uh:=λ _ _ σ H _ I h=>BX ⟨σ,H,I,h⟩
theorem fB (h1:PS X st t)(h2:PSs X rest u):PSs X (st::rest) (sy t u):=by
 intro pins s σ H D I h;refine wpAny_execs_cons (thn (h1 pins s σ H { D with nx:=u D } I h) λ f s1 q=>?_);cases f with
 | next=>
  obtain⟨σ',H',I',q⟩:=q;exact h2 pins s1 σ' H' D I' q
 | ret v=>exact q
 | brk=>exact q
 | cont=>exact q
theorem lY (h1:PS X st t):PSs X [st] t:=by
 intro pins s σ H D I h;refine wpAny_execs_cons (thn (h1 pins s σ H D I h) λ f s1 q=>?_);cases f with
 | next=>exact BX q
 | ret v=>exact q
 | brk=>exact q
 | cont=>exact q
theorem Inv.quiet {pins:List (Addr×Obj)}{σ:St}{H:Hp}{s:Shared}(I:Inv X pins σ H s):interactive X.env=false:=by simp[interactive,I.ok.kind]
def uX (te:TE):TS:=λ D σ H=>te σ H λ _ H1=>D.nx σ H1
theorem iK (he:PE X e te)(hs:autoParam (swapsWith e none pos.line X.env=pure false) ZE._auto_1):PS X (.Expr e pos) (uX te):=by
 intro pins s σ H D I h;exact wpAny_Expr_any (thn (he pins s σ H _ I h) λ v s1 ⟨x,H1,I1,r1,q1⟩=>⟨σ,H1,I1,q1⟩) I.quiet hs
def vJ (te:TE):TS:=λ D σ H=>te σ H D.rt
theorem kI (he:PE X e te):PS X (.Return (some e) pos) (vJ te):=by
 intro pins s σ H D I h;exact wpAny_Return_some (thn (he pins s σ H _ I h) λ v s1 ⟨x,H1,I1,r1,q1⟩=>⟨x,σ,H1,I1,r1,q1⟩)
def vF (c:TT)(t u:TS):TS:=λ D σ H=>c σ H λ b H1=>if b=true then t D σ H1 else u D σ H1
theorem ug {c:Expr}{a b:List Stmt}{tc:TT}(hc:PT X c tc)(ha:PSs X a t)(hb:PSs X b u):PS X (.If c a b pos) (vF tc t u):=by
 intro pins s σ H D I h;refine wpAny_If (thn (hc pins s σ H _ I h) λ d s1 ⟨H1,I1,q1⟩=>?_);cases d with
 | true=>exact ha pins s1 σ H1 D I1 q1
 | false=>exact hb pins s1 σ H1 D I1 q1
end
abbrev TG:=V->St->Hp->(St->Hp->Prop)->Prop
abbrev TGs:=List V->St->Hp->(St->Hp->Prop)->Prop
def PG (X:Cx)(target:Expr)(t:TG):Prop:=
 ∀ (pins:List (Addr×Obj)) (s:Shared) (σ:St) (H:Hp) (v:V) (u:Value) (Q:St->Hp->Prop),Inv X pins σ H s->RelV v u->t v σ H Q ->
  wpAny (model X.prog X.w) X.A (assign target X.env u) (λ _ s'=>∃ σ' H',Inv X pins σ' H' s'/\Q σ' H') X.xe s
def PGs (X:Cx)(ts:List Expr)(t:TGs):Prop:=
 ∀ (pins:List (Addr×Obj)) (s:Shared) (σ:St) (H:Hp) (vs:List V) (us:List Value) (Q:St->Hp->Prop),Inv X pins σ H s->Vals vs us->t vs σ H Q ->
  wpAny (model X.prog X.w) X.A (assignInOrder ((assignEach ts X.env).map (·.2)) us) (λ _ s'=>∃ σ' H',Inv X pins σ' H' s'/\Q σ' H') X.xe s
abbrev t5:=V->V->V->Hp->(Hp->Prop)->Prop
def vm (X:Cx)(t:t5):Prop:=
 ∀ (pins:List (Addr×Obj)) (s:Shared) (σ:St) (H:Hp) (o i v:V) (ov iv u:Value) (Q:Hp->Prop),Inv X pins σ H s->RelV o ov->RelV i iv->RelV v u->t o i v H Q ->
  wpAny (model X.prog X.w) X.A (setItem ov iv u) (λ _ s'=>∃ H',Inv X pins σ H' s'/\Q H') X.xe s
section
variable {X:Cx}{pos:Pos}
def lB (i:Nat):TG:=λ v σ H Q=>Q (σ.set i (some v)) H
theorem iJ {i:Nat}{x:Str}(hN:X.N.Nodup)(hi:X.N[i]?=some x)(hx:Loc X.env.scope x)(hf:autoParam (X.fn x=true\/X.env.scope.names.lookup x=some .local) ZB._auto_1):PG X (.Name x pos) (lB i):=by
 intro pins s σ H v u Q I r h;exact wpAny_assign_Name (ee I hN hi hx r (λ s' I'=>⟨_,H,I',h⟩) hf)
def vV:TGs:=λ vs σ H Q=>vs=[]/\Q σ H
def uI (t:TG)(u:TGs):TGs:=λ vs σ H Q=>∃ v r,vs=v::r/\t v σ H λ σ' H'=>u r σ' H' Q
theorem qp:PGs X [] vV:=by
 intro pins s σ H vs us Q I r h;obtain⟨e,h⟩:=h;subst e;cases r;exact assignInOrder_nil ⟨σ,H,I,h⟩
theorem pD {e:Expr}{es:List Expr}{t:TG}{u:TGs}(h1:PG X e t)(h2:PGs X es u)
  (hs:autoParam ((assignEach (e::es) X.env).map (·.2)=assign e X.env::(assignEach es X.env).map (·.2)) ZE._auto_1):PGs X (e::es) (uI t u):=by
 intro pins s σ H vs us Q I r h;obtain⟨v,vr,e1,h⟩:=h;subst e1;cases r with
 | cons r rr=>
  rw[hs];refine Cc (thn (h1 pins s σ H _ _ _ I r h) λ _ s1 ⟨σ1,H1,I1,q1⟩=>?_);exact h2 pins s1 σ1 H1 _ _ Q I1 rr q1
def vO (K:Av)(n:Nat)(t:TGs):TG:=λ v σ H Q=>∃ a xs,v=.ref a/\SqT K H a xs/\xs.length=n/\t xs σ H Q
theorem pH {es:List Expr}{k:Nat}{t:TGs}{n:Nat}(hc:X.calm=true)(h:PGs X es t)
  (hn:autoParam ((assignEach es X.env).length=n) ZE._auto_1) (hst:autoParam ((assignEach es X.env).findIdx? (·.1)=none) ZE._auto_1):PG X (.Tuple es k pos) (vO X.K n t):=by
 intro pins s σ H v u Q I r hw;obtain⟨a,xs,e1,hq,hl,hw⟩:=hw;subst e1;cases r;obtain⟨its,rv,ht,hz⟩:=I.tuple hq;refine assign_Tuple_tuple (I.ok.hd hc) ht (by simp[hn,<- hl,rv.length]) hst λ h' hx=>?_
 have I1:Inv X pins σ H { s with heap:=h' }:=I.kept (t':=s.toks) λ b o e=>hx b o (wz (Az e)) e
 exact h pins _ σ H xs _ Q I1 (by simpa using rv) hw
def vR (to ti:TE)(t:t5):TG:=λ v σ H Q=>to σ H λ o H1=>ti σ H1 λ i H2=>t o i v H2 λ H3=>Q σ H3
theorem nL {o i:Expr}{to ti:TE}{t:t5}(ho:PE X o to)(hi:PE X i ti)(hs:vm X t)
  (ha:autoParam (∀ v,assign (.Subscript o i pos) X.env v=(do
   let ov <- holding [v] (eval o X.env)
   let iv <- holding [v,ov] (eval i X.env)
   standAt pos
   holding [v,ov,iv] (setItem ov iv v)
   release [v,ov,iv] [])) ZD._auto_1):PG X (.Subscript o i pos) (vR to ti t):=by
 intro pins s σ H v u Q I r h;rw[ha];refine Aw (AL (thn (ho pins s σ H _ I h) λ ov s1 ⟨x,H1,I1,r1,q1⟩=>?_));refine Aw (AL (thn (hi pins s1 σ H1 _ I1 q1) λ iv s2 ⟨y,H2,I2,r2,q2⟩=>?_));refine Aw (BR (Aw (AL (thn (hs pins s2 σ H2 x y v ov iv u _ I2 r1 r2 r q2) λ _ s3 ⟨H3,I3,q3⟩=>?_))));exact wpAny_release ⟨σ,H3,I3,q3⟩
def sL (te:TE)(g:TG):TS:=λ D σ H=>te σ H λ x H1=>g x σ H1 D.nx
theorem iy {tg e:Expr}{te:TE}{g:TG}(he:PE X e te)(hg:PG X tg g)(hs:autoParam (swapsWithSole [tg] e pos.line X.env=pure false) ZE._auto_1)(hw:autoParam (swappedStores [tg] e X.env=pure none) ZE._auto_1)
  (h1:autoParam ((assignEach [tg] X.env).map (·.2)=[assign tg X.env]) ZE._auto_1):PS X (.Assign [tg] e pos) (sL te g):=by
 intro pins s σ H D I h;refine wpAny_Assign_stores (thn (he pins s σ H _ I h) λ v s1 ⟨x,H1,I1,r1,q1⟩=>?_) hs hw;rw[h1];exact thn (hg pins s1 σ H1 x v _ I1 r1 q1) λ _ s2 q=>q
theorem iP {i:Nat}{x:Str}{e:Expr}{te:TE}{pos':Pos}(hN:X.N.Nodup)(hi:X.N[i]?=some x)(hx:Loc X.env.scope x)(he:PE X e te)(hs:autoParam (swapsWith e (some (.Name x pos')) pos.line X.env=pure false) ZE._auto_1)(hf:autoParam (X.fn x=true\/X.env.scope.names.lookup x=some .local) ZB._auto_1):
  PS X (.Assign [.Name x pos'] e pos) (sL te (lB i)):=by
 intro pins s σ H D I h;refine wpAny_Assign_Name (thn (he pins s σ H _ I h) λ v s1 ⟨y,H1,I1,r1,q1⟩=>?_) hs;exact ee I1 hN hi hx r1 (λ s2 I2=>⟨_,H1,I2,q1⟩) hf
def vI (i j:Nat)(ta:TA):TS:=λ D σ H=>ta σ H λ vs H1=>∃ v w,vs=[v,w]/\D.nx ((σ.set i (some v)).set j (some w)) H1
theorem sj {i j:Nat}{x y:Str}{a b:Expr}{ta:TA}{px py pt:Pos}{kt k2 pt2}(hc:X.calm=true)(hN:X.N.Nodup)(hi:X.N[i]?=some x)(hj:X.N[j]?=some y)(hij:i≠j)
  (hx:X.env.scope.names.lookup x=some .local) (hy:X.env.scope.names.lookup y=some .local) (ha:PA X [a,b] ta)
  (hw:swappedStores [.Tuple [.Name x px,.Name y py] kt pt] (.Tuple [a,b] k2 pt2) X.env=pure (some [x,y]))
  (hs:autoParam (swapsWithSole [.Tuple [.Name x px,.Name y py] kt pt] (.Tuple [a,b] k2 pt2) pos.line X.env=pure false) ZE._auto_1):
  PS X (.Assign [.Tuple [.Name x px,.Name y py] kt pt] (.Tuple [a,b] k2 pt2) pos) (vI i j ta):=by
 intro pins s σ H D I h;rw[exec_Assign_arm];refine Aw (BR ?_);rw[hs];refine Aw (Ax ?_);rw[if_neg (by decide)];refine Aw (Tuple_ (thn (ha _ pins s σ H _ I h) λ us s1 ⟨vs,H1,I1,r1,q1⟩=>?_));obtain⟨v,w,e1,q1⟩:=q1;subst e1;obtain⟨u1,u2,rfl,rv,rw'⟩:∃ u1 u2,us=[u1,u2]/\RelV v u1/\RelV w u2:=by
  cases r1 with
  | cons p q=>
   cases q with
   | cons p' q'=>
    cases q';exact⟨_,_,rfl,p,p'⟩
 refine Bw ?_ (by show 2<=sizeLine;decide)
 have I2:Inv X pins σ H1 { s1 with heap:=s1.heap.push { cls:=.type "tuple",data:=.seq [u1,u2].toArray } }:=I1.kept (t':=s1.toks) λ b o e=>AB _ e
 rw[hw];refine Aw (Ax ?_);show wpAny (model X.prog X.w) X.A (do rule "assign.swapped-stores";let items <- unpackItems (.ref s1.heap.objs.size) 2 none;assignInOrder [λ v=>bindName X.env y v,λ v=>bindName X.env x v] items.reverse;pure Flow.next) _ _ _
 refine Aw (Bz (Aw (unpackItems_tuple (items:=#[u1,u2]) (I.ok.hd hc) (IsTup.new s1.heap _) λ h' hx'=>?_)));have I3:=I2.kept (h':=h') (t':=s1.toks) λ b o e=>hx' b o (wz (Az e)) e
 show wpAny _ _ (assignInOrder [λ v=>bindName X.env y v,λ v=>bindName X.env x v] [u2,u1] >>= λ _=>pure Flow.next) _ _ _
 refine Aw (Cc (wpAny_bindName (ee I3 hN hj (.inl hy) rw' (λ s2 I4=>?_) (.inr hy))));refine Cc (wpAny_bindName (ee I4 hN hi (.inl hx) rv (λ s3 I5=>assignInOrder_nil (Ax ?_)) (.inr hx)));rw[List.set_comm _ _ (Ne.symm hij)] at I5;exact⟨_,H1,I5,q1⟩
end
structure It where
 go:Nat->Hp->Prop
 yld:Nat->Hp->V->Hp->Prop
 stop:Nat->Hp->Prop
def fH (X:Cx)(pins:List (Addr×Obj))(H:Hp)(b:Addr):Prop:=
 H b=none/\b≠X.env.locals/\b∉X.fs/\(b∈X.ex\/X.s₀.heap.objs.size<=b)/\(∀ x c,X.env.cells.lookup x=some c->c≠b)/\∀ p∈X.pn++pins,p.1≠b
theorem Inv.fpOk {X:Cx}{pins:List (Addr×Obj)}{σ:St}{H H':Hp}{s:Shared}{b:Addr}(I:Inv X pins σ H s)(hb:s.heap.objs.size<=b)(hn:H' b=none):fH X pins H' b:=by
 refine⟨hn,yy (wD I.lt hb),I.nofs hb,.inr (xp I.sz hb),λ x c e z=>?_,λ p hp z=>?_⟩
 ·obtain⟨v,q⟩:=I.cell x c e
  exact absurd (wD q.lt (by rw[z];exact hb)) (xB _)
 ·exact absurd (wD (Az (I.pin p hp).1) (by rw[z];exact hb)) (xB _)
structure Turn (P:Program)(w:World)(K:Av)(tg:Expr)(J:It)(fp:List Addr)(it:Addr)(tn:Nat->Heap->Prop):Prop where
 mem:it∈fp
 obj:∀ i h,tn i h->∀ b∈fp,∃ o,h.get? b=some o/\∀ v,o.data≠.cell v
 keep:∀ i h h',tn i h->(∀ b∈fp,∀ o,h.get? b=some o->h'.get? b=some o)->tn i h'
 item:∀ (X:Cx),X.prog=P->X.w=w->X.K=K->X.calm=true->∀ (i:Nat) (pins:List (Addr×Obj)) (s:Shared) (σ:St) (H:Hp) (E:Value->Shared->Prop),Inv X pins σ H s->(∀ b∈fp,fH X pins H b)->tn i s.heap->J.go i H ->
  wpAny (model P w) X.A (pyNext (.ref it)) (λ r s1=>∃ u,r=some u /\
   wpAny (model P w) X.A (letOwnedTupleGo tg (.ref it) u) (λ _ s2=>∃ x H',Inv X pins σ H' s2/\RelV x u/\J.yld i H x H'/\tn (i+1) s2.heap/\∀ b∈fp,H' b=none) E s1) E s
 done:∀ (X:Cx),X.prog=P->X.w=w->X.K=K->X.calm=true->∀ (i:Nat) (pins:List (Addr×Obj)) (s:Shared) (σ:St) (H:Hp) (E:Value->Shared->Prop),Inv X pins σ H s->(∀ b∈fp,fH X pins H b)->tn i s.heap->J.stop i H ->
  wpAny (model P w) X.A (pyNext (.ref it)) (λ r s1=>r=none/\Inv X pins σ H s1) E s
 self:∀ (A:Around) (i:Nat) (s:Shared) (Q:Value->Shared->Prop) (E:Value->Shared->Prop),tn i s.heap->Q (.ref it) s->wpAny (model P w) A (pyIter (.ref it)) Q E s
abbrev TI:=St->Hp->(It->Hp->Prop)->Prop
def PIE (X:Cx)(pins:List (Addr×Obj))(σ:St)(tg:Expr)(R:It->Hp->Prop)(itv:Value)(s2:Shared):Prop:=
 ∃ (it:Addr) (fp:List Addr) (tn:Nat->Heap->Prop) (J:It) (H':Hp),itv=.ref it/\Inv X pins σ H' s2/\Turn X.prog X.w X.K tg J fp it tn/\tn 0 s2.heap/\(∀ b∈fp,fH X pins H' b)/\R J H'
def PI (X:Cx)(tg iter:Expr)(wi:TI):Prop:=
 ∀ (pins:List (Addr×Obj)) (s:Shared) (σ:St) (H:Hp) (R:It->Hp->Prop),Inv X pins σ H s->wi σ H R ->
  wpAny (model X.prog X.w) X.A (eval iter X.env) (λ v s1=>wpAny (model X.prog X.w) X.A (pyIter v) (PIE X pins σ tg R) X.xe s1) X.xe s
theorem rC {M:Model}{A:Around}{E:Value->Shared->Prop}{s:Shared}{tg:Expr}{it:Addr}{u:Value}{o:Obj}{n:String}{vs:Array Value}{Q:Unit->Shared->Prop}(ho:s.heap.get? it=some o)(hc:o.cls=.type n)(hd:o.data=.fields vs)
    (hn:["enumerate","zip","dict_itemiterator","dict_reverseitemiterator","odict_iterator","itertools.zip_longest","itertools.pairwise"].contains n=false) (hQ:Q () s):wpAny M A (letOwnedTupleGo tg (.ref it) u) Q E s:=by
  unfold letOwnedTupleGo;cases tg <;>first
    | exact Ax hQ
    | (cases u <;>first
        | exact Ax hQ
        | (refine Aw (wpAny_load ho ?_)
           rw[hc,hd];show wpAny M A (if (["enumerate","zip","dict_itemiterator","dict_reverseitemiterator","odict_iterator","itertools.zip_longest","itertools.pairwise"].contains n&&vs[0]? == some (rawInt _))=true then _ else _) Q E s
           rw[if_neg (by intro h;rw[hn,zu] at h;cases h)];exact Ax hQ))
def Itl (K:Av)(a:Addr):It:=
 ⟨λ i H=>∃ xs x,SqL K H a xs/\xs[i]?=some x,λ i H x H'=>H'=H/\∀ xs,SqL K H a xs->xs[i]?=some x,λ i H=>∃ xs,SqL K H a xs/\xs.length<=i⟩
def Itr (lo:Int)(n:Nat):It:=⟨λ i _=>i<n,λ i H x H'=>H'=H/\x=.int (lo+i),λ i _=>n<=i⟩
theorem nj {P:Program}{w:World}{K:Av}{tg:Expr}(a it:Addr):Turn P w K tg (Itl K a) [it] it (λ i h=>h.IsListIter it a i) where
 mem:=by simp
 obj:=λ i h st b hb=>by
  have e:b=it:=by simpa using hb
  subst e;obtain⟨o,e,c,d⟩:=st;exact⟨o,e,λ v z=>by rw[d] at z;cases z⟩
 keep:=λ i h h' st k=>st.at λ o e=>k it (by simp) o e
 item:=by
  intro X hP hw hK hc i pins s σ H E I hf st hg;subst hP hw hK;obtain⟨xs,x,hq,hx⟩:=hg;obtain⟨its,rv,p,hz⟩:=I.list hq;obtain⟨u,hu,ru⟩:=rv.get hx;obtain⟨f0,f1,f2,f3,f4,f5⟩:=hf it (by simp);refine BQ st p.isList (x:=u) (by simpa using hu) λ h' st' sb=>?_
  have I1:Inv X pins σ H { s with heap:=h' }:=I.turned (t':=s.toks) (λ b o hb e=>(sb.2 b hb).trans e) f0 f1 f3 f4 f5;obtain⟨o,e,c,d⟩:=id st';exact⟨u,rfl,rC (s:={ s with heap:=h' }) e c d (by decide) ⟨x,H,I1,ru,⟨rfl,λ ys hy=>by rw[I.list_inj hy hq];exact hx⟩,st',λ b hb=>(hf b hb).1⟩⟩
 done:=by
  intro X hP hw hK hc i pins s σ H E I hf st hg;subst hP hw hK;obtain⟨xs,hq,hx⟩:=hg;obtain⟨its,rv,p,hz⟩:=I.list hq;obtain⟨f0,f1,f2,f3,f4,f5⟩:=hf it (by simp);have hl:=rv.length;exact BU (I.ok.hd hc) st p.isList (by simp;omega) λ h' eb=>⟨rfl,I.turned (t':=s.toks) (λ b o hb e=>eb b o hb e) f0 f1 f3 f4 f5⟩
 self:=λ _ _ _ _ _ st h=>wpAny_pyIter_listiter st h
theorem kF {P:Program}{w:World}{K:Av}{tg:Expr}(it:Addr)(lo:Int)(n:Nat):Turn P w K tg (Itr lo n) [it] it (λ i h=>IsRangeIter h it (lo+(i:Nat)*1) ((n:Int)-(i:Nat)) 1) where
 mem:=by simp
 obj:=λ i h st b hb=>by
  have e:b=it:=by simpa using hb
  subst e;exact⟨_,st,λ v z=>by
   have z':Data.fields _=Data.cell v:=z;cases z'⟩
 keep:=λ i h h' st k=>k it (by simp) _ st
 item:=by
  intro X hP hw hK hc i pins s σ H E I hf st hg;subst hP hw hK;obtain⟨f0,f1,f2,f3,f4,f5⟩:=hf it (by simp);have W:=Walks.range (prog:=X.prog) (w:=X.w) (I.ok.hd hc) it lo 1 n;refine W.item i s _ _ hg st λ v h' tk hv st' kk=>?_
  obtain⟨t,rfl⟩:=hv;have I1:Inv X pins σ H { s with heap:=h',toks:=tk }:=I.turned (λ b o hb e=>kk b o (by simpa using hb) e) f0 f1 f3 f4 f5;refine⟨_,rfl,rC (s:={ s with heap:=h',toks:=tk }) (n:="range_iterator") st' rfl rfl (by decide) ⟨.int (lo+i),H,I1,⟨t,?_⟩,⟨rfl,rfl⟩,st',λ b hb=>(hf b hb).1⟩⟩;rw[Al]
 done:=by
  intro X hP hw hK hc i pins s σ H E I hf st hg;subst hP hw hK;obtain⟨f0,f1,f2,f3,f4,f5⟩:=hf it (by simp);exact wpAny_pyNext_range_end (I.ok.hd hc) st (by have:n<=i:=hg;omega) λ h' eb=>⟨rfl,I.turned (t':=s.toks) (λ b o hb e=>eb b o hb e) f0 f1 f3 f4 f5⟩
 self:=λ _ _ _ _ _ st h=>wpAny_pyIter_rangeiter st h
section
variable {X:Cx}{tg:Expr}
def u9 (K:Av)(tl:TE):TI:=λ σ H R=>tl σ H λ x H1=>∃ a,x=.ref a/\(∃ xs,SqL K H1 a xs)/\R (Itl K a) H1
theorem qm {l:Expr}{tl:TE}(hl:PE X l tl):PI X tg l (u9 X.K tl):=by
 intro pins s σ H R I h;refine thn (hl pins s σ H _ I h) λ v s1 ⟨x,H1,I1,r1,q1⟩=>?_
 obtain⟨a,e,⟨xs,hq⟩,q⟩:=q1;subst e;cases r1;obtain⟨its,rv,p,hz⟩:=I1.list hq;refine Cq p.isList ?_
 refine⟨s1.heap.objs.size,[s1.heap.objs.size],_,_,H1,rfl,I1.kept (t':=s1.toks) λ b o e=>AB _ e,nj a _,⟨_,AF _ rfl,rfl,rfl⟩,λ b hb=>?_,q⟩;have e:b=s1.heap.objs.size:=by simpa using hb
 subst e;exact I1.fpOk (wu _) (I1.hok.fresh (wu _))
theorem jo {pins:List (Addr×Obj)}{σ:St}{H:Hp}{s:Shared}{R:It->Hp->Prop}{E:Value->Shared->Prop}{lo hi:Int}{t u v:Tok}{tk:Nat}(I:Inv X pins σ H s)(h1:-(2 ^ 62)<=lo)(h2:lo<2 ^ 62)(h3:-(2 ^ 62)<=hi)(h4:hi<2 ^ 62)
  (q:R (Itr lo (hi-lo).toNat) H):wpAny (model X.prog X.w) X.A (pyIter (.ref s.heap.objs.size)) (PIE X pins σ tg R) E { s with heap:=s.heap.push { cls:=.type "range",data:=.fields #[.int lo t,.int hi u,.int 1 v] },toks:=tk }:=by
 refine wpAny_pyIter_range (DP ..) (small_one h1 h2 h3 h4) ?_
 have I1:Inv X pins σ H { s with heap:=s.heap.push { cls:=.type "range",data:=.fields #[.int lo t,.int hi u,.int 1 v] },toks:=tk }:=I.kept λ b o e=>AB _ e
 refine⟨(s.heap.push { cls:=.type "range",data:=.fields #[.int lo t,.int hi u,.int 1 v] }).objs.size,[(s.heap.push { cls:=.type "range",data:=.fields #[.int lo t,.int hi u,.int 1 v] }).objs.size],_,_,H,rfl,
  I1.kept (t':=tk) λ b o e=>AB _ e,kF _ lo (hi-lo).toNat,?_,λ b hb=>?_,q⟩
 ·have e1:lo+((0:Nat):Int)*1=lo:=by simp
  have e2:(((hi-lo).toNat:Nat):Int)-((0:Nat):Int)=CB lo hi 1:=by rw[rangeSize_one];split <;>omega
  show IsRangeIter _ _ (lo+((0:Nat):Int)*1) ((((hi-lo).toNat:Nat):Int)-((0:Nat):Int)) 1
  rw[e1,e2];exact AF _ rfl
 ·have e:b=(s.heap.push { cls:=.type "range",data:=.fields #[.int lo t,.int hi u,.int 1 v] }).objs.size:=by simpa using hb
  subst e;exact I1.fpOk (wu _) (I1.hok.fresh (wu _))
def ve (ta:TA):TI:=λ σ H R=>ta σ H λ vs H1=>∃ j:Int,vs=[.int j]/\-(2 ^ 62)<=j/\j<2 ^ 62/\R (Itr 0 j.toNat) H1
def uZ (ta:TA):TI:=λ σ H R=>ta σ H λ vs H1=>∃ i j:Int,vs=[.int i,.int j]/\(-(2 ^ 62)<=i/\i<2 ^ 62/\-(2 ^ 62)<=j/\j<2 ^ 62)/\R (Itr i (j-i).toNat) H1
theorem l7 {a:Expr}{ta:TA}{p pos:Pos}(hg:Gl X "range")(hm:X.mg "range"=none)(ha:PA X [a] ta)(hs:autoParam (starEach [a] X.env=[(false,eval a X.env)]) ZE._auto_1):PI X tg (.Call (.Name "range" p) [a] [] pos) (ve ta):=by
 intro pins s σ H R I h;refine Call_ (ck I hg hm boot_range (AX (thn (ha pos pins s σ H _ I h) λ us s1 ⟨vs,H1,I1,r1,q1⟩=>?_) hs rfl));obtain⟨j,e,q1,q2,q⟩:=q1;subst e;cases r1 with
 | cons r rr=>
  cases rr;obtain⟨t,rfl⟩:=r;exact call_range_1 (jo I1 ⋯ ⋯ q1 q2 (by simpa using q))
theorem mE {a b:Expr}{ta:TA}{p pos:Pos}(hg:Gl X "range")(hm:X.mg "range"=none)(ha:PA X [a,b] ta)(hs:autoParam (starEach [a,b] X.env=[(false,eval a X.env),(false,eval b X.env)]) ZE._auto_1)(hs2:autoParam (starEach [b] X.env=[(false,eval b X.env)]) ZE._auto_1):
  PI X tg (.Call (.Name "range" p) [a,b] [] pos) (uZ ta):=by
 intro pins s σ H R I h;refine Call_ (ck I hg hm boot_range (AX (thn (ha pos pins s σ H _ I h) λ us s1 ⟨vs,H1,I1,r1,q1⟩=>?_) (by rw[hs,hs2]) (by rw[hs2];rfl)));obtain⟨i,j,e,⟨q1,q2,q3,q4⟩,q⟩:=q1;subst e;cases r1 with
 | cons r rr=>
  cases rr with
  | cons r' rr=>
   cases rr;obtain⟨t,rfl⟩:=r;obtain⟨t',rfl⟩:=r';exact call_range_2 (jo I1 q1 q2 q3 q4 q)
def vU (wi:TI)(g:TG)(tb:TS):TS:=λ D σ H=>wi σ H λ J H1=>∃ W:Nat->Nat->St->Hp->Prop,(∃ m,W 0 m σ H1)/\∀ i m σ H,W i m σ H ->
 (J.stop i H/\D.nx σ H)\/(J.go i H/\∃ N:St->Hp->Prop,(∀ σ' H',N σ' H'->∃ m',m'<m/\W (i+1) m' σ' H')/\∀ x H',J.yld i H x H'->g x σ H' λ σ2 H2=>tb { D with nx:=N,ct:=N,bk:=D.nx } σ2 H2)
def fQ (fp:List Addr)(h:Heap):List (Addr×Obj):=fp.filterMap λ b=>(h.get? b).map λ o=>(b,o)
theorem cy {fp:List Addr}{h:Heap}{b:Addr}{o:Obj}(hb:b∈fp)(e:h.get? b=some o):(b,o)∈fQ fp h:=List.mem_filterMap.mpr ⟨b,hb,by rw[e];rfl⟩
theorem mz {fp:List Addr}{h:Heap}{p:Addr×Obj}(hp:p∈fQ fp h):p.1∈fp/\h.get? p.1=some p.2:=by
 obtain⟨b,hb,e⟩:=List.mem_filterMap.mp hp;cases q:h.get? b with
 | none=>rw[q] at e;cases e
 | some o=>
  rw[q] at e;have e':(b,o)=p:=Option.some.inj e;subst e';exact⟨hb,q⟩
theorem Inv.pinned {pins:List (Addr×Obj)}{σ:St}{H:Hp}{s:Shared}{fp:List Addr}(I:Inv X pins σ H s)(hf:∀ b∈fp,fH X pins H b)(ho:∀ b∈fp,∃ o,s.heap.get? b=some o/\∀ v,o.data≠.cell v):Inv X (pins++fQ fp s.heap) σ H s:=
 I.pins_of λ p hp=>(List.mem_append.mp hp).elim (λ z=>I.pin p (wC _ z)) λ z=>by
  obtain⟨hb,e⟩:=mz z;obtain⟨f0,f1,f2,_⟩:=hf p.1 hb;obtain⟨o,e',d⟩:=ho p.1 hb;rw[e] at e';cases e';exact⟨e,f0,f1,f2,d⟩
theorem Inv.unpinned {pins pl:List (Addr×Obj)}{σ:St}{H:Hp}{s:Shared}(I:Inv X (pins++pl) σ H s):Inv X pins σ H s:=I.pins_of λ p hp=>I.pin p (wC _ (w5 _ hp))
theorem sF {iter:Expr}{body:List Stmt}{wi:TI}{g:TG}{tb:TS}{pos:Pos}(hp:PassesOwn (model X.prog X.w) X.A X.env X.xe)(hc:X.calm=true)(hi:PI X tg iter wi)(hg:PG X tg g)(hb:PSs X body tb)
  (hs:autoParam (∀ x,foldedSetIterable iter X.env x=pure x) ZD._auto_1):PS X (.For tg iter body [] pos) (vU wi g tb):=by
 intro pins s σ H D I h;refine wpAny_For (thn (hi pins s σ H _ I h) λ v s1 h1=>thn h1 λ itv s2 h2=>?_) hs;obtain⟨it,fp,tn,J,H2,e,I2,T,st2,f2,W,⟨m0,w0⟩,turn⟩:=h2;subst e;have stat:∀ {H':Hp},(∀ b∈fp,H' b=none)->∀ b∈fp,fH X pins H' b:=λ hn b hb=>⟨hn b hb,(f2 b hb).2⟩
 refine codeAny_forLoop_any (λ n s'=>∃ i σ' H',Inv X pins σ' H' s'/\tn i s'.heap/\(∀ b∈fp,H' b=none)/\W i n σ' H') ?_ m0 ⟨0,σ,H2,I2,st2,λ b hb=>(f2 b hb).1,w0⟩
 rintro n s3 ⟨i,σ3,H3,I3,st3,fr3,w3⟩
 rcases turn i n σ3 H3 w3 with ⟨stop,qn⟩|⟨go,N,hN,step⟩
 ·refine BD hp (thn (T.done X rfl rfl rfl hc i pins s3 σ3 H3 X.xe I3 (stat fr3) st3 stop) λ r s4 ⟨hr,I4⟩=>?_)
  subst hr;exact BX ⟨σ3,H3,I4,qn⟩
 ·refine BD hp (thn (T.item X rfl rfl rfl hc i pins s3 σ3 H3 X.xe I3 (stat fr3) st3 go) λ r s4 ⟨u,hr,h4⟩=>?_)
  subst hr;refine BD hp (thn h4 λ _ s5 ⟨x,H5,I5,r5,y5,st5,fr5⟩=>?_);have I5':=I5.pinned (stat fr5) (T.obj _ _ st5);refine BD hp (thn (hg _ s5 σ3 H5 x u _ I5' r5 (step x H5 y5)) λ _ s6 ⟨σ6,H6,I6,q6⟩=>?_);refine BD hp (thn (hb _ s6 σ6 H6 _ I6 q6) λ f s7 q7=>?_);have again:∀ {σ7:St} {H7:Hp},Inv X (pins++fQ fp s5.heap) σ7 H7 s7->N σ7 H7->∃ m,m<n/\∃ i σ' H',Inv X pins σ' H' s7/\tn i s7.heap/\(∀ b∈fp,H' b=none)/\W i m σ' H':=λ {σ7 H7} I7 n7=>by
   obtain⟨m',hm,w7⟩:=hN σ7 H7 n7;refine⟨m',hm,i+1,σ7,H7,I7.unpinned,T.keep _ _ _ st5 λ b hb o e=>(I7.pin (b,o) (wC _ (wC _ (cy hb e)))).1,λ b hb=>?_,w7⟩;obtain⟨o,e,d⟩:=T.obj _ _ st5 b hb;exact(I7.pin (b,o) (wC _ (wC _ (cy hb e)))).2.1
  cases f with
  | next=>obtain⟨σ7,H7,I7,n7⟩:=q7;exact again I7 n7
  | cont=>obtain⟨σ7,H7,I7,n7⟩:=q7;exact again I7 n7
  | brk=>obtain⟨σ7,H7,I7,q7⟩:=q7;exact⟨σ7,H7,I7.unpinned,q7⟩
  | ret v=>obtain⟨x7,σ7,H7,I7,r7,q7⟩:=q7;exact⟨x7,σ7,H7,I7.unpinned,r7,q7⟩
end
abbrev R2:=V->V->Hp->VK->Prop
def OpR (X:Cx)(f:Value->Value->Sem Value)(r:R2):Prop:=
 ∀ (pins:List (Addr×Obj)) (s:Shared) (σ:St) (H:Hp) (x y:V) (v u:Value) (Q:VK),Inv X pins σ H s->RelV x v->RelV y u->r x y H Q ->
  wpAny (model X.prog X.w) X.A (f v u) (EP X pins σ Q) X.xe s
def UnR (X:Cx)(f:Value->Sem Value)(r:V->Hp->VK->Prop):Prop:=
 ∀ (pins:List (Addr×Obj)) (s:Shared) (σ:St) (H:Hp) (x:V) (v:Value) (Q:VK),Inv X pins σ H s->RelV x v->r x H Q ->
  wpAny (model X.prog X.w) X.A (f v) (EP X pins σ Q) X.xe s
def de (X:Cx)(f:Value)(r:List V->Hp->VK->Prop):Prop:=
 ∀ (pins:List (Addr×Obj)) (s:Shared) (σ:St) (H:Hp) (xs:List V) (us:List Value) (Q:VK),Inv X pins σ H s->Vals xs us->r xs H Q ->
  wpAny (model X.prog X.w) X.A (call f us) (EP X pins σ Q) X.xe s
def tOp (r:R2)(ta tb:TE):TE:=λ σ H Q=>ta σ H λ x H1=>tb σ H1 λ y H2=>r x y H2 Q
def tUn (r:V->Hp->VK->Prop)(ta:TE):TE:=λ σ H Q=>ta σ H λ x H1=>r x H1 Q
def rI (C:Int->Int->Prop)(g:Int->Int->V):R2:=λ x y H Q=>∃ i j,x=.int i/\y=.int j/\C i j/\Q (g i j) H
def rI0 (g:Int->Int->V):R2:=λ x y H Q=>∃ i j,x=.int i/\y=.int j/\Q (g i j) H
def rU (g:Int->V):V->Hp->VK->Prop:=λ x H Q=>∃ i,x=.int i/\Q (g i) H
section
variable {X:Cx}{a b c:Expr}{ta tb tc:TE}{pos:Pos}
theorem sT (ha:PE X a ta)(hb:PE X b tb){pins:List (Addr×Obj)}{s:Shared}{σ:St}{H:Hp}{R:V->V->Hp->Prop}(I:Inv X pins σ H s)
  (h:ta σ H λ x H1=>tb σ H1 λ y H2=>R x y H2) {Q:Value->Shared->Prop} {f:Value->Value->Sem Value}
  (hf:∀ v u s2 x y H2,Inv X pins σ H2 s2->RelV x v->RelV y u->R x y H2->wpAny (model X.prog X.w) X.A (f v u) Q X.xe s2):
  wpAny (model X.prog X.w) X.A (eval a X.env) (λ v s₁=>wpAny (model X.prog X.w) X.A (eval b X.env) (λ u s₂=>wpAny (model X.prog X.w) X.A (f v u) Q X.xe s₂) X.xe s₁) X.xe s:=by
 refine thn (ha pins s σ H _ I h) λ v s1 ⟨x,H1,I1,r1,q1⟩=>?_
 refine thn (hb pins s1 σ H1 _ I1 q1) λ u s2 ⟨y,H2,I2,r2,q2⟩=>?_
 exact hf v u s2 x y H2 I2 r1 r2 q2
theorem vo {op:Operator}{r:R2}(ho:OpR X (binaryOp op) r)(ha:PE X a ta)(hb:PE X b tb):PE X (.BinOp a op b pos) (tOp r ta tb):=by
 intro pins s σ H Q I h;exact wpAny_BinOp (sT ha hb I h λ v u s2 x y H2 I2 rx ry q=>ho pins s2 σ H2 x y v u Q I2 rx ry q)
theorem uD {op:UnaryOp}{r:V->Hp->VK->Prop}(ho:UnR X (unaryOp op) r)(ha:PE X a ta):PE X (.UnaryOp op a pos) (tUn r ta):=by
 intro pins s σ H Q I h;exact UnaryOp_ (thn (ha pins s σ H _ I h) λ v s1 ⟨x,H1,I1,r1,q1⟩=>ho pins s1 σ H1 x v Q I1 r1 q1)
theorem opI {f:Value->Value->Sem Value}{C:Int->Int->Prop}{g:Int->Int->Int}
  (rule:∀ (i j:Int) (t u:Tok) (s:Shared) (Q:Value->Shared->Prop) (E:Value->Shared->Prop),C i j->Q (.int (g i j) s.toks) { s with toks:=s.toks+1 }->wpAny (model X.prog X.w) X.A (f (.int i t) (.int j u)) Q E s):
  OpR X f (rI C λ i j=>.int (g i j)):=by
 intro pins s σ H x y v u Q I rx ry h;obtain⟨i,j,rfl,rfl,hc,q⟩:=h;obtain⟨t,rfl⟩:=rx;obtain⟨t',rfl⟩:=ry;exact rule i j t t' s _ _ hc ⟨.int (g i j),H,I.tok _,⟨_,rfl⟩,q⟩
theorem uH {f:Value->Value->Sem Value}{g:Int->Int->Int}
  (rule:∀ (i j:Int) (t u:Tok) (s:Shared) (Q:Value->Shared->Prop) (E:Value->Shared->Prop),Q (.int (g i j) s.toks) { s with toks:=s.toks+1 }->wpAny (model X.prog X.w) X.A (f (.int i t) (.int j u)) Q E s):
  OpR X f (rI0 λ i j=>.int (g i j)):=by
 intro pins s σ H x y v u Q I rx ry h;obtain⟨i,j,rfl,rfl,q⟩:=h;obtain⟨t,rfl⟩:=rx;obtain⟨t',rfl⟩:=ry;exact rule i j t t' s _ _ ⟨.int (g i j),H,I.tok _,⟨_,rfl⟩,q⟩
theorem rm {f:Value->Value->Sem Value}{g:Int->Int->Bool}
  (rule:∀ (i j:Int) (t u:Tok) (s:Shared) (Q:Value->Shared->Prop) (E:Value->Shared->Prop),Q (.bool (g i j)) s->wpAny (model X.prog X.w) X.A (f (.int i t) (.int j u)) Q E s):
  OpR X f (rI0 λ i j=>.bl (g i j)):=by
 intro pins s σ H x y v u Q I rx ry h;obtain⟨i,j,rfl,rfl,q⟩:=h;obtain⟨t,rfl⟩:=rx;obtain⟨t',rfl⟩:=ry;exact rule i j t t' s _ _ ⟨.bl (g i j),H,I,rfl,q⟩
def ux (i j:Int):Prop:=0<=j/\j<=1000000/\i.natAbs<2 ^ 64
def CMul (i j:Int):Prop:=(-(2 ^ 64)<i/\i<2 ^ 64)\/(-(2 ^ 64)<j/\j<2 ^ 64)
theorem CMul.ok {i j:Int}(h:CMul i j):IntMulOk i j:=by
 rcases h with ⟨h1,h2⟩|⟨h1,h2⟩
 ·exact .of_left (intBits_le_64 h1 h2)
 ·exact .of_right (intBits_le_64 h1 h2)
theorem t9:OpR X (binaryOp .Add) (rI0 λ i j=>.int (i+j)):=uH λ _ _ _ _ _ _ _ q=>add_int q
theorem sC:OpR X (binaryOp .Sub) (rI0 λ i j=>.int (i-j)):=uH λ _ _ _ _ _ _ _ q=>sub_int q
theorem sV:OpR X (binaryOp .Mod) (rI (λ _ j=>0<j) λ i j=>.int (i%j)):=opI λ i j _ _ _ _ _ hc q=>by
 have h1:(0:Int)<j:=hc;exact mod_int' ⋯ (by rw[Int.fmod_eq_emod_of_nonneg i ⋯];exact q)
theorem t6:OpR X (binaryOp .Pow) (rI ux λ i j=>.int (i ^ j.toNat)):=opI λ _ _ _ _ _ _ _ hc q=>pow_int_small hc.1 hc.2.1 hc.2.2 q
theorem oE:OpR X (binaryOp .LShift) (rI ux λ i j=>.int (i*2 ^ j.toNat)):=opI λ _ _ _ _ _ _ _ hc q=>lshift_int_small hc.1 hc.2.1 hc.2.2 q
theorem unI {f:Value->Sem Value}{g:Int->Int}
  (rule:∀ (i:Int) (t:Tok) (s:Shared) (Q:Value->Shared->Prop) (E:Value->Shared->Prop),Q (.int (g i) s.toks) { s with toks:=s.toks+1 }->wpAny (model X.prog X.w) X.A (f (.int i t)) Q E s):
  UnR X f (rU λ i=>.int (g i)):=by
 intro pins s σ H x v Q I rx h;obtain⟨i,rfl,q⟩:=h;obtain⟨t,rfl⟩:=rx;exact rule i t s _ _ ⟨.int (g i),H,I.tok _,⟨_,rfl⟩,q⟩
theorem sq:UnR X (unaryOp .USub) (rU λ i=>.int (-i)):=unI λ _ _ _ _ _ q=>neg_int q
end
def scal:V->V->Bool
 | .non,.non=>true | .non,.int _=>true | .int _,.non=>true | .non,.bl _=>true | .bl _,.non=>true | .non,.str _=>true | .str _,.non=>true
 | .int _,.int _=>true | .bl _,.bl _=>true | .str _,.str _=>true | .byt _,.byt _=>true
 | .int _,.str _=>true | .str _,.int _=>true | .bl _,.str _=>true | .str _,.bl _=>true
 | _,_=>false
section
variable {X:Cx}{a b c:Expr}{ta tb tc:TE}{pos:Pos}
theorem sg {pins:List (Addr×Obj)}{σ:St}{H:Hp}{s:Shared}{Q:VK}{k k':Bool}(I:Inv X pins σ H s)(q:Q (.bl k) H)(e:k=k'):EP X pins σ Q (.bool k') s:=by
 subst e;exact⟨.bl k,H,I,rfl,q⟩
theorem uf:OpR X (compareOp .Lt) (rI0 λ i j=>.bl (decide (i<j))):=rm λ _ _ _ _ _ _ _ q=>lt_int q
theorem uF:OpR X (compareOp .LtE) (rI0 λ i j=>.bl (decide (i<=j))):=rm λ _ _ _ _ _ _ _ q=>le_int q
theorem ur:OpR X (compareOp .Gt) (rI0 λ i j=>.bl (decide (j<i))):=rm λ _ _ _ _ _ _ _ q=>gt_int q
theorem uG:OpR X (compareOp .GtE) (rI0 λ i j=>.bl (decide (j<=i))):=rm λ _ _ _ _ _ _ _ q=>ge_int q
theorem tG:OpR X (compareOp .Is) (λ x y H Q=>y=.non/\Q (.bl (decide (x=.non))) H):=by
 intro pins s σ H x y v u Q I rx ry h;obtain⟨rfl,q⟩:=h;cases ry;refine is_none_gen (sg I q ?_);cases x <;>first
  | (cases rx;rfl)
  | (obtain⟨t,rfl⟩:=rx;rfl)
theorem OpR.or {f:Value->Value->Sem Value}{r r':R2}(h:OpR X f r)(h':OpR X f r'):OpR X f (λ x y H Q=>r x y H Q\/r' x y H Q):=by
 intro pins s σ H x y v u Q I rx ry q
 rcases q with q|q
 ·exact h pins s σ H x y v u Q I rx ry q
 ·exact h' pins s σ H x y v u Q I rx ry q
theorem nomark (b:Expr){op:CmpOp}(h:autoParam (op≠.In) ZC._auto_1)(h2:autoParam (op≠.NotIn) ZC._auto_1):behindInMarks op b=false:=by
 have e1:(op == CmpOp.In)=false:=by cases op <;>first|rfl|exact absurd rfl h
 have e2:(op == CmpOp.NotIn)=false:=by cases op <;>first|rfl|exact absurd rfl h2
 cases b <;>simp[behindInMarks,e1,e2]
theorem qF {op:CmpOp}{r:R2}(ho:OpR X (compareOp op) r)(ha:PE X a ta)(hb:PE X b tb)(hm:behindInMarks op b=false):PE X (.Compare a [op] [b] pos) (tOp r ta tb):=by
 intro pins s σ H Q I h;exact wpAny_Compare1 (sT ha hb I h λ v u s2 x y H2 I2 rx ry q=>ho pins s2 σ H2 x y v u Q I2 rx ry q) hm
def uA (t:TE):TT:=λ σ H Q=>t σ H λ x H'=>∃ k,x=.bl k/\Q k H'
theorem qk {op:CmpOp}{r:R2}(ho:OpR X (compareOp op) r)(ha:PE X a ta)(hb:PE X b tb)(hm:behindInMarks op b=false):PT X (.Compare a [op] [b] pos) (uA (tOp r ta tb)):=by
 intro pins s σ H Q I h;refine wpAny_isTrue_Compare1 (thn (ha pins s σ H _ I h) λ v s1 ⟨x,H1,I1,r1,q1⟩=>thn (hb pins s1 σ H1 _ I1 q1) λ u s2 ⟨y,H2,I2,r2,q2⟩=>
  thn (ho pins s2 σ H2 x y v u _ I2 r1 r2 q2) λ c s3 ⟨z,H3,I3,r3,k,e,q3⟩=>?_) hm
 subst e;cases r3;exact BO ⟨H3,I3,q3⟩
theorem iF:(sizeLine:Nat)<2 ^ 63:=by rw[A2];decide
theorem vals1 {x:V}{us:List Value}(r:Vals [x] us):∃ u,us=[u]/\RelV x u:=by
 cases r with
 | cons r1 r2=>cases r2;exact⟨_,rfl,r1⟩
theorem vals2 {x y:V}{us:List Value}(r:Vals [x,y] us):∃ u w',us=[u,w']/\RelV x u/\RelV y w':=by
 cases r with
 | cons r1 r2=>
  cases r2 with
  | cons r3 r4=>cases r4;exact⟨_,_,rfl,r1,r3⟩
theorem ml:de X (.type "int") (λ xs H Q=>(∃ i,xs=[.int i]/\Q (.int i) H)\/∃ k,xs=[.bl k]/\Q (.int (if k then 1 else 0)) H):=by
 intro pins s σ H xs us Q I r h
 rcases h with ⟨i,rfl,q⟩|⟨k,rfl,q⟩
 ·obtain⟨u,rfl,t,rfl⟩:=vals1 r
  exact call_int_int ⟨.int i,H,I,⟨_,rfl⟩,q⟩
 ·obtain⟨u,rfl,r1⟩:=vals1 r
  cases r1;exact call_int_bool ⟨.int (if k then 1 else 0),H,I.tok _,⟨_,rfl⟩,q⟩
end
structure Cls (K:Av)(C:Addr):Prop where
 pg:Dw K C Str.empty=true
 hd:PySem.W.hasDictIn K C=true
 po:PySem.W.plainOver K C=true
 sa:By K (.ref C) "__setattr__"=some (some (.builtin "object.__setattr__"))
theorem Cls.get {K:Av}{C:Addr}(c:Cls K C)(f:Str):Dw K C f=true:=c.pg
def r8 (K:Av)(C:Addr)(f:Str):Prop:=By K (.ref C) f=some none
structure Room (k:Nat)(A:Around):Prop where
 hd:A.handled=none
 dp:A.depth+3*k+5<recursionLimit
 un:A.units+16*k+200<cLine
theorem Room.mono {j k:Nat}{A:Around}(r:Room k A)(h:j<=k):Room j A:=⟨r.hd,by have:=r.dp;omega,by have:=r.un;omega⟩
theorem Room.deeper {k:Nat}{A:Around}(r:Room (k+1) A)(env:Env):Room k (A.deeper env):=
 ⟨r.hd,by have:=r.dp;show A.depth+1+3*k+5<_;omega,by have:=r.un;show A.units+3+16*k+200<_;omega⟩
theorem Room.depth {k:Nat}{A:Around}(r:Room k A):A.depth<recursionLimit:=by have:=r.dp;omega
theorem Room.units {k:Nat}{A:Around}(r:Room k A):A.units+64<cLine:=by have:=r.un;omega
def tT:TA:=λ _ H Q=>Q [] H
def nB (ta:TE)(tr:TA):TA:=λ σ H Q=>ta σ H λ x H1=>tr σ H1 λ xs H2=>Q (x::xs) H2
section
variable {X:Cx}{e:Expr}{es:List Expr}{te:TE}{t:TA}{pos:Pos}
theorem bD:PA X [] tT:=λ _ _ _ _ H Q I h=>Bx ⟨[],H,I,.nil,h⟩
theorem aH (ha:PE X e te)(hr:PA X es t)(hs:autoParam (starEach (e::es) X.env=(false,eval e X.env)::starEach es X.env) ZE._auto_1):PA X (e::es) (nB te t):=by
 intro pos pins s σ H Q I h;rw[hs];show wpAny _ _ (spliced ((false,eval e X.env)::backTo pos (starEach es X.env))) _ _ s
 refine Bu (thn (ha pins s σ H _ I h) λ u s1 ⟨x,H1,I1,r1,q1⟩=>?_);exact thn (hr pos pins s1 σ H1 _ I1 q1) λ us s2 ⟨xs,H2,I2,r2,q2⟩=>⟨x::xs,H2,I2,.cons r1 r2,q2⟩
def v5 (t:TA):TE:=λ σ H Q=>t σ H λ xs H1=>xs.length<=sizeLine/\∀ p,H1 p=none->Q (.ref p) (upd H1 p (.tup xs))
def v3 (t:TA):TE:=λ σ H Q=>t σ H λ xs H1=>xs.length<=sizeLine/\∀ p,H1 p=none->Q (.ref p) (upd H1 p (.lst xs))
theorem pB {x1}(h:PA X es t):PE X (.Tuple es x1 pos) (v5 t):=by
 intro pins s σ H Q I hq;refine wpAny_Tuple_spliced (thn (h pos pins s σ H _ I hq) λ us s1 ⟨xs,H1,I1,r,z,q⟩=>⟨by rw[<- r.length];exact z,?_⟩);have hf:H1 s1.heap.objs.size=none:=I1.hok.fresh (wu _);refine⟨.ref s1.heap.objs.size,upd H1 s1.heap.objs.size (.tup xs),I1.laid (t':=s1.toks) (λ b u e=>AB _ e) (wu _) ?_,rfl,q _ hf⟩;exact⟨z,us,r,⟨_,AF _ rfl,rfl,_,rfl⟩⟩
theorem rY (h:PA X es t):PE X (.List es pos) (v3 t):=by
 intro pins s σ H Q I hq;refine wpAny_List_spliced (thn (h pos pins s σ H _ I hq) λ us s1 ⟨xs,H1,I1,r,z,q⟩=>⟨by rw[<- r.length];exact z,?_⟩);have hf:H1 s1.heap.objs.size=none:=I1.hok.fresh (wu _);refine⟨.ref s1.heap.objs.size,upd H1 s1.heap.objs.size (.lst xs),I1.laid (t':=s1.toks) (λ b u e=>AB _ e) (wu _) ?_,rfl,q _ hf⟩;exact⟨z,us,0,r,AF _ rfl⟩
end
abbrev Sp:=List V->Hp->VK->XK->Prop
abbrev CXT:=List Env->Hp->Shared->XK->Value->Shared->Prop
structure Env0 (P:Program)(w:World)(K:Av)(mg:Str->Option Value)(base:Heap)(A:Around)(outer:List Env)(s:Shared)(H:Hp):Prop where
 frames:A.frames=some outer
 mod:Mod K mg base
 bs:∀ b o,base.get? b=some o->s.heap.get? b=some o/\H b=none
 bsz:base.objs.size<=s.heap.objs.size
 funs:s.heap.FunFrames base outer
 frf:∀ b∈frs outer,H b=none
 hok:HOk P w H s.heap
 bare:AllBare s.gens
def CE (outer:List Env)(P:Program)(w:World)(H:Hp)(s:Shared)(Q:VK)(u:Value)(s':Shared):Prop:=
 ∃ v H',s'.os=s.os/\AllBare s'.gens/\Un (frs outer) [] H H' s.heap s'.heap/\HOk P w H' s'.heap/\RelV v u/\Q v H'
def CR (CX:CXT)(outer:List Env)(P:Program)(w:World)(H:Hp)(s:Shared)(Q:VK)(E:XK)(r:Result)(s':Shared):Prop:=
 match r with
 | .ok (.ret u)=>CE outer P w H s Q u s'
 | .ok _=>False
 | .error e=>CX outer H s E e s'
structure FnOk (P:Program)(w:World)(K:Av)(mg:Str->Option Value)(base:Heap)(CX:CXT)(k:Nat)(f:Addr)(fd:FuncData)(ps:List Str)(sp:Sp):Prop where
 len:∀ vs H Q E,sp vs H Q E->vs.length=ps.length
 run:∀ (A:Around) (outer:List Env) (s:Shared) (H:Hp) (args:Args) (us:List Value) (vs:List V) (Q:VK) (E:XK),Room k A->Env0 P w K mg base A outer s H->BindsTo s fd args (ps.zip us)->Vals vs us->sp vs H Q E ->
  codeAny (model P w) A (.call (.ref f) args) (CR CX outer P w H s Q E) s
theorem FnOk.mono {P:Program}{w:World}{K:Av}{mg:Str->Option Value}{base:Heap}{CX:CXT}{j k:Nat}{f:Addr}{fd:FuncData}{ps:List Str}{sp:Sp}(F:FnOk P w K mg base CX j f fd ps sp)(h:j<=k):
  FnOk P w K mg base CX k f fd ps sp:=⟨F.len,λ A outer s H args us vs Q E hr=>F.run A outer s H args us vs Q E (hr.mono h)⟩
theorem FnOk.imp {P:Program}{w:World}{K:Av}{mg:Str->Option Value}{base:Heap}{CX:CXT}{k:Nat}{f:Addr}{fd:FuncData}{ps:List Str}{sp sp':Sp}(F:FnOk P w K mg base CX k f fd ps sp)
  (h:∀ vs H Q E,sp' vs H Q E->sp vs H Q E):FnOk P w K mg base CX k f fd ps sp':=
 ⟨λ vs H Q E q=>F.len vs H Q E (h _ _ _ _ q),λ A outer s H args us vs Q E hr he hb hv hs=>F.run A outer s H args us vs Q E hr he hb hv (h _ _ _ _ hs)⟩
section
variable {X:Cx}{pins:List (Addr×Obj)}{σ:St}{H:Hp}{s s':Shared}
theorem Inv.env0 (I:Inv X pins σ H s):Env0 X.prog X.w X.K X.mg X.base X.A X.stack s H:=
 ⟨I.ok.frames,I.ok.mod,I.bs,xp I.ok.bsz I.sz,I.stack,I.stkFree,I.hok,I.bare⟩
theorem Inv.after {Q:VK}{u:Value}(I:Inv X pins σ H s)(h:CE X.stack X.prog X.w H s Q u s'):EP X pins σ Q u s':=by
 obtain⟨v,H',os,bare,un,hok,r,q⟩:=h;obtain⟨hh,g,d,t,os'⟩:=s';obtain rfl:os'=s.os:=os;exact⟨v,H',I.call (h':=hh) (g':=g) (d':=d) (t':=t) (ch:=[]) un hok bare (λ b z=>absurd z (by simp)),r,q⟩
end
def Binds (K:Av)(fd:FuncData)(ps:List Str)(ds:List Value):Prop:=
 ∀ (s:Shared) (us:List Value),K.In s.heap->(us++ds).length=ps.length->BindsTo s fd ⟨us,[]⟩ (ps.zip (us++ds))
theorem Binds.all {K:Av}{fd:FuncData}{ps:List Str}(h:∀ us:List Value,us.length=ps.length->bindArgs fd ⟨us,[]⟩=pure (ps.zip us)):Binds K fd ps []:=λ s us _ hl=>by
 rw[xn] at hl ⊢;exact .of_eq (h us hl)
structure FnScope (N P:List Str)(sc:Scope):Prop where
 kind:sc.kind=.function
 co:sc.isCoroutine=false
 gen:sc.isGenerator=false
 nd:N.Nodup
 pre:N.take P.length=P
 par:∀ x∈P,sc.names.lookup x=some .local\/sc.names.lookup x=some .cell
 nofree:∀ y∈sc.names,y.2≠.free
theorem gP {kindOf:Str->Option NameKind}{x:Str}:∀ {binds:List (Str×Value)} {m:Str->Option Value},(∀ v,(x,v)∉binds)->bindL kindOf binds m x=m x
 | [],_,_=>rfl
 | (n,v)::r,m,h=>by
  unfold bindL;rw[gP λ w hw=>h w (wd _ hw)]
  split
  ·have:x≠n:=by rintro rfl;exact h v we
   simp[this]
  ·rfl
theorem gD {kindOf:Str->Option NameKind}{x:Str}:∀ {binds:List (Str×Value)} {m:Str->Option Value},(∀ v,(x,v)∉binds)->bindC kindOf binds m x=m x
 | [],_,_=>rfl
 | (n,v)::r,m,h=>by
  unfold bindC;rw[gD λ w hw=>h w (wd _ hw)]
  split
  ·rfl
  ·have:x≠n:=by rintro rfl;exact h v we
   simp[this]
theorem gQ {kindOf:Str->Option NameKind}{x:Str}{v:Value}:∀ {P:List Str} {vs:List Value} {i:Nat} {m:Str->Option Value},P.Nodup->P[i]?=some x->vs[i]?=some v->kindOf x=some .local ->
  bindL kindOf (P.zip vs) m x=some v
 | [],_,_,_,_,h,_,_=>by simp at h
 | _::_,[],_,_,_,_,h,_=>by simp at h
 | p::P,w::vs,0,m,nd,h1,h2,hk=>by
  simp at h1 h2;subst h1;subst h2;show bindL kindOf ((p,w)::P.zip vs) m p=_
  unfold bindL;rw[gP λ v hv=>(List.nodup_cons.mp nd).1 (ze hv).1,if_pos hk];simp
 | p::P,w::vs,i+1,m,nd,h1,h2,hk=>by
  show bindL kindOf ((p,w)::P.zip vs) m x=_
  unfold bindL;exact gQ (i:=i) (List.nodup_cons.mp nd).2 (by simpa using h1) (by simpa using h2) hk
theorem gy {kindOf:Str->Option NameKind}{x:Str}{v:Value}:∀ {P:List Str} {vs:List Value} {i:Nat} {m:Str->Option Value},P.Nodup->P[i]?=some x->vs[i]?=some v->kindOf x≠some .local ->
  bindC kindOf (P.zip vs) m x=some v
 | [],_,_,_,_,h,_,_=>by simp at h
 | _::_,[],_,_,_,_,h,_=>by simp at h
 | p::P,w::vs,0,m,nd,h1,h2,hk=>by
  simp at h1 h2;subst h1;subst h2;show bindC kindOf ((p,w)::P.zip vs) m p=_
  unfold bindC;rw[gD λ v hv=>(List.nodup_cons.mp nd).1 (ze hv).1,if_neg hk];simp
 | p::P,w::vs,i+1,m,nd,h1,h2,hk=>by
  show bindC kindOf ((p,w)::P.zip vs) m x=_
  unfold bindC;exact gy (i:=i) (List.nodup_cons.mp nd).2 (by simpa using h1) (by simpa using h2) hk
def start (N:List Str)(vs:List V):St:=vs.map some++List.replicate (N.length-vs.length) none
def bW (CX:CXT)(P:Program)(w:World)(K:Av)(mg:Str->Option Value)(base:Heap)(N:List Str)(qual:Str)(scope:Scope)(f:Addr)(cd:Value)(A:Around)(outer:List Env)(s:Shared)(H:Hp)(E:XK):Cx where
 prog:=P
 w:=w
 K:=K
 mg:=mg
 base:=base
 A:=A.deeper (envOfC qual scope s.heap.objs.size f cd)
 N:=N
 s₀:=s
 H₀:=H
 env:=envOfC qual scope s.heap.objs.size f cd
 outer:=outer
 stack:=envOfC qual scope s.heap.objs.size f cd::outer
 ex:=[]
 calm:=true
 fn:=λ _=>true
 pn:=[]
 xe:=λ e s'=>wpAny (model P w) (A.deeper (envOfC qual scope s.heap.objs.size f cd)) (leaving (envOfC qual scope s.heap.objs.size f cd) e) (λ _ s''=>CX outer H s E e s'') (λ e' s''=>CX outer H s E e' s'') s'
theorem jX {sc:Scope}{n:Nat}{x:Str}(h:sc.names.lookup x=some .cell):∃ c,(cellsFrom n sc.names []).lookup x=some c:=by
 have q:=CM sc.names n [] (.inl h);exact Option.isSome_iff_exists.mp q
theorem mQ {CX:CXT}{P:Program}{w:World}{K:Av}{mg:Str->Option Value}{base:Heap}{N ps:List Str}{qual:Str}{scope:Scope}{f:Addr}{cd:Value}{A:Around}{outer:List Env}{s s1:Shared}{H:Hp}{E:XK}{us:List Value}{vs:List V}
  (S:FnScope N ps scope) (hd:A.handled=none) (e0:Env0 P w K mg base A outer s H) (hl:vs.length=ps.length) (r:Vals vs us)
  (x:InCallC s s.heap.objs.size (bindL (envOfC qual scope s.heap.objs.size f cd).kindOf (ps.zip us) λ _=>none) (cellsFrom (s.heap.objs.size+1) scope.names []) (bindC (envOfC qual scope s.heap.objs.size f cd).kindOf (ps.zip us) λ _=>none) s1):
  Inv (bW CX P w K mg base N qual scope f cd A outer s H E) [] (start N vs) H s1:=by
 have hpl:ps.length<=N.length:=by have:=congrArg List.length S.pre;rw[wX] at this;omega
 obtain⟨h1,tk,rfl,hk⟩:=x.done;have noA:∀ b:Addr,b∉(bW CX P w K mg base N qual scope f cd A outer s H E).ex:=λ b z=>absurd (show b∈([]:List Addr) from z) (by simp)
 refine⟨⟨e0.mod,S.kind,rfl,rfl,wu _,λ y z c h1 h2=>?_,λ y hy=>?_,λ y c _ h=>?_,λ _=>hd,Around.frames_deeper e0.frames,.inr ⟨rfl,rfl⟩,λ b z=>absurd z (noA b),e0.bs,e0.bsz,λ b _ _=>noA b,λ b z=>absurd z (noA b),e0.funs,e0.frf⟩,
  rfl,e0.bare,Un.kept hk,⟨_,x.toInCall.ns,λ i y v h1 h2 h3=>?_⟩,λ y c h=>⟨_,x.cell y c h⟩,e0.hok.fresh (wu _),λ y c h=>?_,λ p hp=>absurd (show p∈([]:List (Addr×Obj)) from hp) (by simp),e0.hok.kept hk,?_⟩
 ·exact name_of_addr x.apart (Bo h1) (Bo h2)
 ·have hy:scope.names.lookup y=some .cell\/scope.names.lookup y=some .free:=hy
  rcases hy with hy|hy
  ·exact jX hy
  ·exact absurd rfl (S.nofree _ (Bo hy))
 ·exact xR (x.above y c (Bo h))
 ·have hi:i<vs.length:=by
   unfold start at h2;by_cases hi:i<vs.length
   ·exact hi
   ·rw[wI (by simpa using hi)] at h2
    rw[xq] at h2
    split at h2 <;>cases h2
  have ha:vs[i]?=some v:=by
   unfold start at h2;rw[wG (by simpa using hi),wH] at h2;cases e:vs[i]? with
   | none=>rw[e] at h2;cases h2
   | some a=>rw[e] at h2;cases h2;rfl
  obtain⟨u,hu,rv⟩:=r.get ha;have hp:ps[i]?=some y:=by
   rw[<- S.pre,List.getElem?_take_of_lt ⋯];exact h1
  have ndP:ps.Nodup:=by rw[<- S.pre];exact S.nd.sublist (yL _ _)
  refine⟨u,rv,?_⟩
  rcases S.par y (xl hp) with k|k
  ·exact .inl ⟨k,gQ ndP hp hu k⟩
  ·obtain⟨c,e⟩:=jX (n:=s.heap.objs.size+1) k
   refine .inr ⟨.inl k,c,e,?_⟩;have q:=x.cell y c e;rw[gy ndP hp hu (by show scope.names.lookup y≠_;rw[k];decide)] at q;exact q
 ·exact e0.hok.fresh (xR (x.above y c (Bo h)))
 ·unfold start
  show _=N.length
  rw[wB,wj,xh];omega
theorem rA {CX:CXT}{P:Program}{w:World}{K:Av}{mg:Str->Option Value}{base:Heap}{k:Nat}{f:Addr}{name qual:Str}{params:Arguments}{body:List Stmt}{scope:Scope}{dV kV doc pm cdv ct oc:Value}{an od:Option Addr}
  {osl:Array (Option Value)} {N ps:List Str} {sp:Sp} (lk:K.lookup f=some ⟨oc,od,.func (A0 name qual params body scope dV kV doc pm an cdv ct),osl⟩) (hcd:Bl K cdv qual=true) (S:FnScope N ps scope)
  (len:∀ vs H Q E,sp vs H Q E->vs.length=ps.length)
  (hbody:∀ (A:Around) (outer:List Env) (s:Shared) (H:Hp) (vs:List V) (Q:VK) (E:XK),Room k (A.deeper (envOfC qual scope s.heap.objs.size f cdv))->sp vs H Q E ->
   ∃ t,PSs (bW CX P w K mg base N qual scope f cdv A outer s H E) body t/\t { nx:=λ _ H'=>Q .non H',rt:=Q } (start N vs) H):
  FnOk P w K mg base CX (k+1) f (A0 name qual params body scope dV kV doc pm an cdv ct) ps sp:=by
 refine⟨len,λ A outer s H args us vs Q E hr e0 hb r hsp=>?_⟩;have hl:=len _ _ _ _ hsp;have KX:K.In s.heap:=e0.mod.kin.keeps λ b o e=>(e0.bs b o e).1
 have lim:s.heap.NoLimit:=e0.mod.nolimit.keeps λ b o e=>(e0.bs b o e).1
 have hkind:∀ y∈ps.zip us,scope.names.lookup y.1=some .local\/(scope.names.lookup y.1=some .cell/\((cellsFrom (s.heap.objs.size+1) scope.names []).lookup y.1).isSome=true):=λ⟨n,v⟩ hy=>by
  rcases S.par n (ze hy).1 with q|q
  ·exact .inl q
  ·exact .inr ⟨q,CM _ _ _ (.inl q)⟩
 refine codeAny_call_function hr.depth (KX _ _ lk) rfl S.co S.gen rfl (PySem.W.codeRec_of KX hcd) (hb _ _ _ _ ?_);refine wpAny_newFunctionEnv_cells S.kind hkind λ env he s1 x=>?_
 subst he;refine⟨lim.keeps x.toInCall.keep,codeAny_func ?_⟩;obtain⟨t,ht,hq⟩:=hbody A outer s H vs Q E (hr.deeper _) hsp;have I:Inv (bW CX P w K mg base N qual scope f cdv A outer s H E) [] (start N vs) H s1:=mQ S hr.hd e0 hl r x;refine AI (ht [] s1 (start N vs) H _ I hq) (λ fl s' hs=>?_) λ e s' hs=>hs
 have fin:∀ {σ':St} {H':Hp} {v:V} {u:Value},Inv (bW CX P w K mg base N qual scope f cdv A outer s H E) [] σ' H' s'->RelV v u->Q v H'->CE outer P w H s Q u s':=
  λ {σ' H' v u} J rv q=>⟨v,H',J.os,J.bare,J.base,J.hok,rv,q⟩
 cases fl with
 | ret u=>
  obtain⟨v,σ',H',J,rv,q⟩:=hs;exact fin J rv q
 | next=>
  obtain⟨σ',H',J,q⟩:=hs;exact fin (v:=V.non) (u:=AE) J rfl q
 | brk=>
  obtain⟨_,_,_,q⟩:=hs;exact Bc q
 | cont=>
  obtain⟨_,_,_,q⟩:=hs;exact Bc q
section
variable {X:Cx}{x:Str}{p pos:Pos}{e:Expr}{es:List Expr}{t:TA}{id T:String}{r:List V->Hp->VK->Prop}
def tCB (r:List V->Hp->VK->Prop)(t:TA):TE:=λ σ H Q=>t σ H λ vs H1=>r vs H1 Q
theorem jZ (hc:de X (.builtin id) r)(hg:Gl X x)(hm:X.mg x=none)(hv:bootBuiltins x=some (.builtin id))(ha:PA X (e::es) t)(hn:autoParam (x≠"__name__") ZC._auto_1)(hdb:autoParam ((x == ("__debug__":Str))=false) ZC._auto_1)
  (he:autoParam (starEach (e::es) X.env=(false,eval e X.env)::starEach es X.env) ZE._auto_1) (hpl:autoParam ((backTo pos (starEach es X.env)).any (·.1)=false) ZE._auto_1):PE X (.Call (.Name x p) (e::es) [] pos) (tCB r t):=by
 intro pins s σ H Q I h;refine Bb (ck I hg hm hv ?_ hn hdb);exact BY (thn (ha pos pins s σ H _ I h) λ us s1 ⟨vs,H1,I1,r1,q1⟩=>hc pins s1 σ H1 vs us Q I1 r1 q1) he hpl
theorem gr (hc:de X (.type T) r)(hg:Gl X x)(hm:X.mg x=none)(hv:bootBuiltins x=some (.type T))(ha:PA X (e::es) t)(hn:autoParam (x≠"__name__") ZC._auto_1)(hdb:autoParam ((x == ("__debug__":Str))=false) ZC._auto_1)
  (he:autoParam (starEach (e::es) X.env=(false,eval e X.env)::starEach es X.env) ZE._auto_1) (hpl:autoParam ((backTo pos (starEach es X.env)).any (·.1)=false) ZE._auto_1):PE X (.Call (.Name x p) (e::es) [] pos) (tCB r t):=by
 intro pins s σ H Q I h;refine Bb (ck I hg hm hv ?_ hn hdb);exact AX (thn (ha pos pins s σ H _ I h) λ us s1 ⟨vs,H1,I1,r1,q1⟩=>hc pins s1 σ H1 vs us Q I1 r1 q1) he hpl
end
end L2
namespace HT
open PySem PyProof.Rows
section
open PySem.SeqAt
open PySem.AutoSeq1 (wpAny_loadPart')
open PySem.MeetsSeq PySem.MeetsSeq2 PySem.MeetsSeq3
end
section
variable {prog:Program}{w:World}{A:Around}{E:Value->Shared->Prop}{s:Shared}
def sIx (n d:Nat):Option Int->Nat
 | none=>d
 | some v=>if v<0 then (v+(n:Int)).toNat else min v.toNat n
end
end HT
namespace L2
open PySem PySem.Spec PyProof.Rows
abbrev TO:=St->Hp->(Option Int->Hp->Prop)->Prop
def PO (X:Cx)(e:Option Expr)(t:TO):Prop:=
 ∀ (pins:List (Addr×Obj)) (s:Shared) (σ:St) (H:Hp) (Q:Option Int->Hp->Prop),Inv X pins σ H s->t σ H Q ->
  wpAny (model X.prog X.w) X.A (evalPart e X.env) (λ u s'=>∃ o H',Inv X pins σ H' s'/\IsPart u o/\Q o H') X.xe s
def qQ:TO:=λ _ H Q=>Q none H
def vw (t:TE):TO:=λ σ H Q=>t σ H λ x H1=>∃ i,x=.int i/\Q (some i) H1
theorem intsAre_of {ns:List Int}:∀ {us:List Value},Vals (ns.map V.int) us->IntsAre us ns:=by
 induction ns with
 | nil=>intro us r;rw[wK] at r;cases r;exact .nil
 | cons n ns ih=>
  intro us r;rw[wm] at r;cases r with
  | cons r1 r2=>
   obtain⟨t,e⟩:=r1;subst e;exact .cons n t (ih r2)
section
variable {X:Cx}{e:Expr}{te:TE}{lo hi:Option Expr}{tl th:TO}{pos p2:Pos}
theorem qo:PO X none qQ:=by
 intro pins s σ H Q I h;rw[evalPart_none];exact Ax ⟨none,H,I,.none,h⟩
theorem q8 (h:PE X e te):PO X (some e) (vw te):=by
 intro pins s σ H Q I hw;rw[evalPart_some];refine thn (h pins s σ H _ I hw) λ u s1 ⟨x,H1,I1,r1,q1⟩=>?_
 obtain⟨i,rfl,q⟩:=q1;obtain⟨t,rfl⟩:=r1;exact⟨some i,H1,I1,.int i t,q⟩
def SlR (X:Cx)(r:V->Option Int->Option Int->Hp->VK->Prop):Prop:=
 ∀ (pins:List (Addr×Obj)) (s:Shared) (σ:St) (H:Hp) (x:V) (v vl vu:Value) (lo hi:Option Int) (sl:Addr) (Q:VK),Inv X pins σ H s->RelV x v->s.heap.IsSliceOf sl vl vu .none->IsPart vl lo->IsPart vu hi->r x lo hi H Q ->
  ∃ T id,typeLookup (.type T) "__getitem__"=pure (some (.builtin id))/\s.TypeIs v T/\wpAny (model X.prog X.w) X.A (getItem v (.ref sl)) (EP X pins σ Q) X.xe s
def tSl (r:V->Option Int->Option Int->Hp->VK->Prop)(te:TE)(tl th:TO):TE:=λ σ H Q=>te σ H λ x H1=>tl σ H1 λ l H2=>th σ H2 λ u H3=>r x l u H3 Q
theorem o8 {r:V->Option Int->Option Int->Hp->VK->Prop}(hr:SlR X r)(he:PE X e te)(hl:PO X lo tl)(hu:PO X hi th):PE X (.Subscript e (.Slice lo hi none p2) pos) (tSl r te tl th):=by
 intro pins s σ H Q I h;refine Subscript_ (thn (he pins s σ H _ I h) λ v s1 ⟨x,H1,I1,r1,q1⟩=>?_);refine wpAny_Slice (thn (hl pins s1 σ H1 _ I1 q1) λ vl s2 ⟨l,H2,I2,pl,q2⟩=>thn (hu pins s2 σ H2 _ I2 q2) λ vu s3 ⟨u,H3,I3,pu,q3⟩=>?_);rw[evalPart_none];refine Ax ?_
 have I4:Inv X pins σ H3 { s3 with heap:=s3.heap.push { cls:=.type "slice",data:=.fields #[vl,vu,.none] } }:=I3.kept (t':=s3.toks) λ b ob q=>AB _ q
 obtain⟨T,id,hT,ht,hg⟩:=hr pins { s3 with heap:=s3.heap.push { cls:=.type "slice",data:=.fields #[vl,vu,.none] } } σ H3 x v vl vu l u s3.heap.objs.size Q I4 r1 (DS ..) pl pu q3;show wpAny (model X.prog X.w) X.A (subscriptTail e (.Slice lo hi none p2) v (.ref s3.heap.objs.size)) (EP X pins σ Q) X.xe { s3 with heap:=s3.heap.push { cls:=.type "slice",data:=.fields #[vl,vu,.none] } }
 exact tail_any (ops:=[.ref s3.heap.objs.size,v]) ht hT hg (by with_unfolding_all rfl)
def mX (xs:List V)(lo hi:Option Int):List V:=(xs.drop (HT.sIx xs.length 0 lo)).take (HT.sIx xs.length xs.length hi-HT.sIx xs.length 0 lo)
theorem jB (xs:List V)(lo hi:Option Int):(mX xs lo hi).length<=xs.length:=by
 unfold mX;rw[wX,yr];omega
end
def ixN (n:Nat)(i:Int):Option Nat:=if 0<=i then (if i<n then some i.toNat else none) else if -(n:Int)<=i then some (i+n).toNat else none
def atI {α:Type}(xs:List α)(i:Int):Option α:=(ixN xs.length i).bind λ j=>xs[j]?
theorem ly {n:Nat}{i:Int}{j:Nat}(h:ixN n i=some j):seqIndex? i n=some j/\j<n/\-(n:Int)<=i/\i<n:=by
 unfold ixN at h;by_cases h0:0<=i
 ·rw[if_pos h0] at h
  by_cases h1:i<n
  ·rw[if_pos h1] at h
   have e:i.toNat=j:=Option.some.inj h;exact⟨by rw[Dt h0 h1,e],⋯,⋯,h1⟩
  ·rw[if_neg h1] at h;cases h
 ·rw[if_neg h0] at h
  by_cases h1:-(n:Int)<=i
  ·rw[if_pos h1] at h
   have e:(i+n).toNat=j:=Option.some.inj h;exact⟨by rw[Dh ⋯ h1,e],⋯,h1,⋯⟩
  ·rw[if_neg h1] at h;cases h
theorem lG {α:Type}{xs:List α}{i:Int}{v:α}(h:atI xs i=some v):∃ j,seqIndex? i xs.length=some j/\xs[j]?=some v/\j<xs.length/\-(xs.length:Int)<=i/\i<xs.length:=by
 unfold atI at h;cases e:ixN xs.length i with
 | none=>rw[e] at h;cases h
 | some j=>
  rw[e] at h;obtain⟨h1,h2,h3,h4⟩:=ly e;exact⟨j,h1,h,h2,h3,h4⟩
theorem qZ {α:Type}{xs:List α}{j:Nat}{v:α}(h:xs[j]?=some v):atI xs (j:Int)=some v:=by
 have hj:j<xs.length:=(List.getElem?_eq_some_iff.mp h).1;have e:ixN xs.length (j:Int)=some j:=by
  unfold ixN;rw[if_pos ⋯,if_pos ⋯];simp
 unfold atI;rw[e];exact h
def iM (b:Expr):Prop:=∀ o i,subscripted b false o i=operate [o,i] (getItem o i)
def IxR (X:Cx)(r:R2):Prop:=
 ∀ (value slice:Expr) (pins:List (Addr×Obj)) (s:Shared) (σ:St) (H:Hp) (x y:V) (v u:Value) (Q:VK),Inv X pins σ H s->RelV x v->RelV y u->r x y H Q ->
  subscripted slice false v u=operate [v,u] (getItem v u)->wpAny (model X.prog X.w) X.A (subscriptTail value slice v u) (EP X pins σ Q) X.xe s
def MtR (X:Cx)(id:String)(r:V->List V->Hp->VK->Prop):Prop:=
 ∀ (pins:List (Addr×Obj)) (s:Shared) (σ:St) (H:Hp) (x:V) (xs:List V) (v:Value) (us:List Value) (Q:VK),Inv X pins σ H s->RelV x v->Vals xs us->r x xs H Q ->
  wpAny (model X.prog X.w) X.A (call (.builtin id) (v::us)) (EP X pins σ Q) X.xe s
section
variable {X:Cx}{a b:Expr}{ta tb:TE}{pos:Pos}
theorem IxR.or {r r':R2}(h:IxR X r)(h':IxR X r'):IxR X (λ x y H Q=>r x y H Q\/r' x y H Q):=by
 intro value slice pins s σ H x y v u Q I rx ry q hs
 rcases q with q|q
 ·exact h value slice pins s σ H x y v u Q I rx ry q hs
 ·exact h' value slice pins s σ H x y v u Q I rx ry q hs
theorem rT {r:R2}(hr:IxR X r)(ha:PE X a ta)(hb:PE X b tb)(hs:iM b):PE X (.Subscript a b pos) (tOp r ta tb):=by
 intro pins s σ H Q I h;exact Subscript_ (sT ha hb I h λ v u s2 x y H2 I2 rx ry q=>hr a b pins s2 σ H2 x y v u Q I2 rx ry q (hs _ _))
def vS (K:Av):R2:=λ x y H Q=>∃ p xs i v,x=.ref p/\y=.int i/\SqL K H p xs/\atI xs i=some v/\Q v H
def vQ (K:Av):R2:=λ x y H Q=>∃ p xs i v,x=.ref p/\y=.int i/\SqT K H p xs/\atI xs i=some v/\Q v H
theorem ix_list:IxR X (vS X.K):=by
 intro value slice pins s σ H x y v u Q I rx ry h hs;obtain⟨p,xs,i,z,rfl,rfl,hq,he,q⟩:=h;cases rx;obtain⟨t,rfl⟩:=ry;obtain⟨its,r,pl,hz⟩:=I.list hq;obtain⟨j,h1,h2,h3,h4,h5⟩:=lG he;obtain⟨w,ew,rw'⟩:=r.get h2;have hl:=r.length;have hn:=iF;have fin:EP X pins σ Q w s:=⟨z,H,I,rw',q⟩;by_cases h0:0<=i
 ·have hj:i.toNat=j:=by
   rw[Dt h0 h5] at h1;exact Option.some.inj h1
  exact item_listR pl.isList h0 ⋯ (by rw[hj];simpa using ew) fin hs
 ·have hj:(i+(its.toArray.size:Int)).toNat=j:=by
   rw[Dh ⋯ h4] at h1;rw[wx,<- hl];exact Option.some.inj h1
  exact CN (x:=w) pl.isList.typeIs slot_list_getitem.lookup
   (wpAny_getItem_list_neg (Q:=λ r s'=>r=w/\EP X pins σ Q r s') pl.isList ⋯ (by rw[wx] <;>omega) ⋯ (by rw[hj];simpa using ew) ⟨rfl,fin⟩) hs
theorem oV:IxR X (vQ X.K):=by
 intro value slice pins s σ H x y v u Q I rx ry h hs;obtain⟨p,xs,i,z,rfl,rfl,hq,he,q⟩:=h;cases rx;obtain⟨t,rfl⟩:=ry;obtain⟨its,r,pl,hz⟩:=I.tuple hq;obtain⟨j,h1,h2,h3,h4,h5⟩:=lG he;obtain⟨w,ew,rw'⟩:=r.get h2;have hl:=r.length;have hn:=iF;have fin:EP X pins σ Q w s:=⟨z,H,I,rw',q⟩;exact CN (x:=w) pl.typeIs slot_tuple_getitem.lookup
  (getItem_tuple (j:=j) (Q:=λ r s'=>r=w/\EP X pins σ Q r s') pl ⋯ ⋯ (by rw[wx,<- hl];exact h1) (by simpa using ew) ⟨rfl,fin⟩) hs
theorem kW (its:List Value)(n j:Nat)(u:Value):A6 (·.setIfInBounds j u) { cls:=.type "list",data:=.seq its.toArray n }={ cls:=.type "list",data:=.seq (its.set j u).toArray n }:=by
 simp[A6]
theorem Inv.lst {pins:List (Addr×Obj)}{σ:St}{H:Hp}{s:Shared}{p:Addr}{xs:List V}(I:Inv X pins σ H s)(h:H p=some (.lst xs)):
  ∃ (its:List Value) (n:Nat),Vals xs its/\s.heap.get? p=some { cls:=.type "list",data:=.seq its.toArray n }/\xs.length<=sizeLine:=by
 obtain⟨z,its,n,r,e⟩:=I.hok p _ h;exact⟨its,n,r,e,z⟩
theorem Inv.lstUpd {pins:List (Addr×Obj)}{σ:St}{H:Hp}{s:Shared}{p:Addr}{xs ys:List V}{its its':List Value}{n n':Nat}{f:Obj->Obj}(I:Inv X pins σ H s)(h:H p=some (.lst xs))
  (ho:s.heap.get? p=some { cls:=.type "list",data:=.seq its.toArray n }) (hf:f { cls:=.type "list",data:=.seq its.toArray n }={ cls:=.type "list",data:=.seq its'.toArray n' }) (r:Vals ys its') (hz:ys.length<=sizeLine) (t:Nat):
  Inv X pins σ (upd H p (.lst ys)) { s with heap:=s.heap.update p f,toks:=t }:=by
 have e:(s.heap.update p f).get? p=some { cls:=.type "list",data:=.seq its'.toArray n' }:=by
  rw[Be f ho (by rw[hf] <;>rfl),hf]
 refine I.write (x:=p) (e:=p) (by rw[h];trivial) (.inl rfl) (λ b u hb q=>(AM _ _ (Ne.symm hb)).trans q) ⟨_,e⟩ ?_
 exact⟨hz,its',n',r,e⟩
def uM:V->V->V->Hp->(Hp->Prop)->Prop:=λ o i v H Q=>∃ p xs k j,o=.ref p/\i=.int k/\H p=some (.lst xs)/\ixN xs.length k=some j/\Q (upd H p (.lst (xs.set j v)))
theorem set_list:vm X uM:=by
 intro pins s σ H o i v ov iv u Q I ro ri rv h;obtain⟨p,xs,k,j,rfl,rfl,hp,hj,q⟩:=h;cases ro;obtain⟨t,rfl⟩:=ri;obtain⟨its,n,r,ho,hz⟩:=I.lst hp;obtain⟨h1,h2,h3,h4⟩:=ly hj;have hl:=r.length;have hn:=iF;have I':Inv X pins σ (upd H p (.lst (xs.set j v))) { s with heap:=s.heap.update p (A6 (·.setIfInBounds j u)) }:=
  I.lstUpd hp ho (kW its n j u) (r.set rv j) (by rw[w4];exact hz) s.toks
 by_cases h0:0<=k
 ·have hk:k.toNat=j:=by
   rw[Dt h0 h4] at h1;exact Option.some.inj h1
  exact PySem.W.ki_setAt ho h0 ⋯ (by rw[wx,<- hl];exact h4) (by rw[hk];exact⟨_,I',q⟩)
 ·have hk:(k+(its.toArray.size:Int)).toNat=j:=by
   rw[Dh ⋯ h3] at h1;rw[wx,<- hl];exact Option.some.inj h1
  exact PySem.W.ki_setBack ho ⋯ (by rw[wx,<- hl];exact h3) ⋯ (by rw[hk];exact⟨_,I',q⟩)
theorem ja (lo hi:Option Int)(n:Nat):(sliceBounds lo hi none n).1=((HT.sIx n 0 lo:Nat):Int)/\(sliceBounds lo hi none n).2.1=((HT.sIx n n hi:Nat):Int)/\(sliceBounds lo hi none n).2.2=1:=by
 refine⟨?_,?_,rfl⟩
 ·cases lo with
  | none=>simp[sliceBounds,HT.sIx]
  | some i=>
   simp only[sliceBounds,HT.sIx,yX,show (1:Int) > 0 by decide,if_true];by_cases h:i<0
   ·simp only[h,if_true] <;>omega
   ·simp only[h,if_false] <;>omega
 ·cases hi with
  | none=>simp[sliceBounds,HT.sIx]
  | some i=>
   simp only[sliceBounds,HT.sIx,yX,show (1:Int) > 0 by decide,if_true];by_cases h:i<0
   ·simp only[h,if_true] <;>omega
   ·simp only[h,if_false] <;>omega
theorem gq (its:List Value)(lo hi:Option Int):slicePick its.toArray lo hi none=((its.drop (HT.sIx its.length 0 lo)).take (HT.sIx its.length its.length hi-HT.sIx its.length 0 lo)).toArray:=by
 obtain⟨h1,h2,h3⟩:=ja lo hi its.toArray.size;unfold slicePick;rw[h1,h2,h3];simp only[sliceRange_one,pick_run,wx] <;>rfl
def vL (K:Av):V->Option Int->Option Int->Hp->VK->Prop:=λ x lo hi H Q=>∃ a xs,x=.ref a/\SqL K H a xs/\∀ p,H p=none->Q (.ref p) (upd H p (.lst (mX xs lo hi)))
theorem p0:SlR X (vL X.K):=by
 intro pins s σ H x v vl vu lo hi sl Q I rx hs pl pu h;obtain⟨a,xs,rfl,hx,q⟩:=h;cases rx;obtain⟨its,r,ht,hz⟩:=I.list hx;have hlen:=r.length;refine⟨"list",_,slot_list_getitem.lookup,ht.isList.typeIs,?_⟩;refine wpAny_getItem_list_slice ht.isList hs pl pu .none (by simp) ?_ (by rw[wx] <;>omega)
 rw[gq,<- hlen];refine⟨.ref s.heap.objs.size,_,I.laid (t':=s.toks) (o:=.lst (mX xs lo hi)) (λ b ob q=>AB _ q) (wu _) ?_,rfl,q _ (I.hok.fresh (wu _))⟩;exact⟨xp (jB xs lo hi) hz,_,0,(r.drop (HT.sIx xs.length 0 lo)).take (HT.sIx xs.length xs.length hi-HT.sIx xs.length 0 lo),AF _ rfl⟩
def da:V->Bool
 | .non=>true
 | .bl _=>true
 | .int _=>true
 | .str _=>true
 | _=>false
def eqV:V->V->Bool
 | .non,.non=>true
 | .bl a,.bl b=>a == b
 | .bl a,.int b=>(if a then 1 else 0) == b
 | .int a,.bl b=>a == (if b then 1 else 0)
 | .int a,.int b=>a == b
 | .str a,.str b=>a == b
 | _,_=>false
theorem ua {A:Around}{s:Shared}{y x:V}{u v:Value}(ry:RelV y u)(rx:RelV x v)(fy:da y=true)(fx:da x=true):SeqAt.EqAt A s u v (eqV y x):=by
 cases y with
 | non=>
  cases ry;cases x with
  | non=>cases rx;exact SeqAt.EqAt.same _
  | bl b=>cases rx;exact SeqAt.EqAt.none_bool b
  | int b=>obtain⟨t,rfl⟩:=rx;exact SeqAt.EqAt.none_int b t
  | str b=>obtain⟨t,rfl⟩:=rx;exact SeqAt.EqAt.none_str b t
  | _=>exact absurd (show false=true from fx) wU
 | bl a=>
  cases ry;cases x with
  | non=>cases rx;exact SeqAt.EqAt.bool_none a
  | bl b=>cases rx;exact SeqAt.EqAt.bool_bool a b
  | int b=>obtain⟨t,rfl⟩:=rx;exact SeqAt.EqAt.bool_int a b t
  | str b=>obtain⟨t,rfl⟩:=rx;exact SeqAt.EqAt.bool_str a b t
  | _=>exact absurd (show false=true from fx) wU
 | int a=>
  obtain⟨t',rfl⟩:=ry;cases x with
  | non=>cases rx;exact SeqAt.EqAt.int_none a t'
  | bl b=>cases rx;exact SeqAt.EqAt.int_bool a t' b
  | int b=>obtain⟨t,rfl⟩:=rx;exact SeqAt.EqAt.int_int a t' b t
  | str b=>obtain⟨t,rfl⟩:=rx;exact Dd a t' b t
  | _=>exact absurd (show false=true from fx) wU
 | str a=>
  obtain⟨t',rfl⟩:=ry;cases x with
  | non=>cases rx;exact SeqAt.EqAt.str_none a t'
  | bl b=>cases rx;exact SeqAt.EqAt.str_bool a t' b
  | int b=>obtain⟨t,rfl⟩:=rx;exact De a t' b t
  | str b=>obtain⟨t,rfl⟩:=rx;exact SeqAt.EqAt.str_str a t' b t
  | _=>exact absurd (show false=true from fx) wU
 | _=>exact absurd (show false=true from fy) wU
def eqU (x:V)(u:Value):Bool:=match u with
 | .none=>eqV .non x
 | .bool b=>eqV (.bl b) x
 | .int i _=>eqV (.int i) x
 | .str z _=>eqV (.str z) x
 | _=>false
theorem oQ {x y:V}{u:Value}(r:RelV y u)(f:da y=true):eqU x u=eqV y x:=by
 cases y with
 | non=>cases r;rfl
 | bl b=>cases r;rfl
 | int i=>obtain⟨t,rfl⟩:=r;rfl
 | str z=>obtain⟨t,rfl⟩:=r;rfl
 | _=>exact absurd (show false=true from f) wU
theorem dP {x:V}:∀ {xs:List V} {us:List Value},Vals xs us->xs.all da=true->us.any (eqU x)=xs.any λ y=>eqV y x
 | _,_,.nil,_=>rfl
 | y::xs,u::us,.cons r t,f=>by
  rw[Ab,wq] at f;rw[yt,yt,oQ r f.1,dP t f.2]
theorem cO {A:Around}{s:Shared}{x:V}{v:Value}(rx:RelV x v)(fx:da x=true):∀ {xs:List V} {us:List Value},Vals xs us->xs.all da=true->∀ u∈us,SeqAt.EqAt A s u v (eqU x u)
 | _,_,.nil,_=>λ u hu=>by cases hu
 | y::xs,u::us,.cons r t,f=>λ u' hu=>by
  rw[Ab,wq] at f
  rcases List.mem_cons.mp hu with rfl|hu
  ·rw[oQ r f.1];exact ua r rx f.1 fx
  ·exact cO rx fx t f.2 u' hu
def inV (x:V)(xs:List V):Bool:=xs.any λ y=>eqV y x
def rIn (K:Av)(neg:Bool):R2:=λ x y H Q=>∃ p xs,y=.ref p/\(SqL K H p xs\/SqT K H p xs)/\da x=true/\xs.all da=true/\Q (.bl (if neg then !inV x xs else inV x xs)) H
theorem m6:OpR X (compareOp .In) (rIn X.K false):=by
 intro pins s σ H x y v u Q I rx ry h;obtain⟨p,xs,rfl,hq,fx,fs,q⟩:=h;cases ry
 rcases hq with hq|hq
 ·obtain⟨its,r,pl,hz⟩:=I.list hq
  refine SeqAt.in_listAt (eqU x) pl.isList (λ w hw=>cO rx fx r fs w (by simpa using hw)) ⟨.bl _,H,I,rfl,?_⟩;rw[show its.toArray.any (eqU x)=its.any (eqU x) by simp,dP r fs];exact q
 ·obtain⟨its,r,pl,hz⟩:=I.tuple hq
  refine SeqAt.in_tupleAt (eqU x) pl (λ w hw=>cO rx fx r fs w (by simpa using hw)) ⟨.bl _,H,I,rfl,?_⟩;rw[show its.toArray.any (eqU x)=its.any (eqU x) by simp,dP r fs];exact q
theorem jd:OpR X (compareOp .NotIn) (rIn X.K true):=by
 intro pins s σ H x y v u Q I rx ry h;obtain⟨p,xs,rfl,hq,fx,fs,q⟩:=h;cases ry
 rcases hq with hq|hq
 ·obtain⟨its,r,pl,hz⟩:=I.list hq
  refine SeqAt.notIn_listAt (eqU x) pl.isList (λ w hw=>cO rx fx r fs w (by simpa using hw)) ⟨.bl _,H,I,rfl,?_⟩;rw[show its.toArray.any (eqU x)=its.any (eqU x) by simp,dP r fs];exact q
 ·obtain⟨its,r,pl,hz⟩:=I.tuple hq
  refine SeqAt.notIn_tupleAt (eqU x) pl (λ w hw=>cO rx fx r fs w (by simpa using hw)) ⟨.bl _,H,I,rfl,?_⟩;rw[show its.toArray.any (eqU x)=its.any (eqU x) by simp,dP r fs];exact q
theorem iH:de X (.builtin "len") (λ xs H Q=>∃ p ys,xs=[.ref p]/\(SqL X.K H p ys\/SqT X.K H p ys)/\Q (.int ys.length) H):=by
 intro pins s σ H xs us Q I r h;obtain⟨p,ys,rfl,hq,q⟩:=h;obtain⟨u,rfl,rx⟩:=vals1 r;cases rx;have hn:=iF
 rcases hq with hq|hq
 ·obtain⟨its,r',pl,hz⟩:=I.list hq
  have hlen:=r'.length;exact Calls.call_len_list pl.isList (by simp only[wx] <;>omega) ⟨.int ys.length,H,I.tok _,⟨s.toks+1,by rw[wx,hlen]⟩,q⟩
 ·obtain⟨its,r',pl,hz⟩:=I.tuple hq
  have hlen:=r'.length;exact len_tuple pl (by simp only[wx] <;>omega) ⟨.int ys.length,H,I.tok _,⟨s.toks+1,by rw[wx,hlen]⟩,q⟩
theorem dD:de X (.type "list") (λ xs H Q=>∃ p ys,xs=[.ref p]/\(SqL X.K H p ys\/SqT X.K H p ys)/\∀ l,H l=none->Q (.ref l) (upd H l (.lst ys))):=by
 intro pins s σ H xs us Q I r h;obtain⟨p,ys,rfl,hq,q⟩:=h;obtain⟨u,rfl,rx⟩:=vals1 r;cases rx;have fin:∀ (its:List Value),Vals ys its->ys.length<=sizeLine->∀ (h':Heap) (c':Nat),(∀ b o',s.heap.get? b=some o'->h'.get? b=some o') ->
   h'.get? s.heap.objs.size=some { cls:=.type "list",dict:=none,data:=.seq its.toArray c',slots:=#[] }->EP X pins σ Q (.ref s.heap.objs.size) { s with heap:=h' }:=λ its r' hz h' c' kp e=>
  ⟨.ref s.heap.objs.size,_,I.laid (t':=s.toks) kp (wu _) (show ObjOk X.prog X.w _ h' _ (.lst ys) from ⟨hz,its,c',r',e⟩),rfl,q _ (I.hok.fresh (wu _))⟩
 rcases hq with hq|hq
 ·obtain⟨its,r',pl,hz⟩:=I.list hq
  have hlen:=r'.length;obtain⟨o,ho,hc,n,hd⟩:=pl.isList;exact call_list_seq p (.inl rfl) ho hc hd (λ h' c' kp e=>fin its r' hz h' c' kp e) (by simp only[wx] <;>omega)
 ·obtain⟨its,r',pl,hz⟩:=I.tuple hq
  have hlen:=r'.length;obtain⟨o,ho,hc,n,hd⟩:=pl;exact call_list_seq p (.inr rfl) ho hc hd (λ h' c' kp e=>fin its r' hz h' c' kp e) (by simp only[wx] <;>omega)
def tyV (K:Av)(T:String)(x:V)(H:Hp):Prop:=match x with
 | .str _=>T="str"
 | .int _=>T="int"
 | .ref p=>(T="list"/\∃ xs,SqL K H p xs)\/(T="tuple"/\∃ o,K.lookup p=some o/\o.cls=.type "tuple"/\o.dict=none) \/
   (T="dict"/\((∃ kvs,H p=some (.dK kvs))\/∃ kvs,H p=some (.dT kvs)))\/(T="set"/\∃ S n,H p=some (.set S n))
 | _=>False
theorem tM {pins:List (Addr×Obj)}{σ:St}{H:Hp}{s:Shared}{T:String}{x:V}{v:Value}(I:Inv X pins σ H s)(r:RelV x v)(ty:tyV X.K T x H):
  s.TypeIs v T/\∀ a,v=.ref a->∃ ob,s.heap.get? a=some ob/\ob.dict=none:=by
 cases x with
 | str z=>
  obtain⟨t,rfl⟩:=r;cases (show T="str" from ty);exact⟨typeIs_str s z t,λ _ e=>nomatch e⟩
 | int i=>
  obtain⟨t,rfl⟩:=r;cases (show T="int" from ty);exact⟨typeIs_int s i t,λ _ e=>nomatch e⟩
 | ref p=>
  cases r
  rcases ty with ⟨rfl,xs,hq⟩|⟨rfl,o,hk,hc,hd⟩|⟨rfl,hk⟩|⟨rfl,S,n,hk⟩
  ·obtain⟨its,_,pl,_⟩:=I.list hq
   refine⟨pl.isList.typeIs,λ a e=>?_⟩;cases e;obtain⟨o,n,e,c,hd,_⟩:=pl;exact⟨o,e,hd⟩
  ·refine⟨⟨o,I.kIn p o hk,hc⟩,λ a e=>?_⟩
   cases e;exact⟨o,I.kIn _ o hk,hd⟩
  ·have z:∃ o,s.heap.get? p=some o/\o.ExactDict:=by
    rcases hk with ⟨kvs,hk⟩|⟨kvs,hk⟩
    ·obtain⟨_,_,_,_,o,_,_,e,ex,_⟩:=I.hok p _ hk
     exact⟨o,e,ex⟩
    ·obtain⟨_,_,_,_,o,_,_,e,ex,_⟩:=I.hok p _ hk
     exact⟨o,e,ex⟩
   obtain⟨o,e,ex⟩:=z;refine⟨⟨o,e,ex.1⟩,λ a e2=>?_⟩;cases e2;exact⟨o,e,ex.2.1⟩
  ·obtain⟨o,_,_,_,e,ex,_⟩:=I.hok p _ hk
   refine⟨⟨o,e,ex.1⟩,λ a e2=>?_⟩;cases e2;exact⟨o,e,ex.2.1⟩
 | _=>exact Bc ty
def tBM (K:Av)(T:String)(r:V->List V->Hp->VK->Prop)(to:TE)(t:TA):TE:=λ σ H Q=>to σ H λ x H1=>tyV K T x H1/\t σ H1 λ xs H2=>r x xs H2 Q
variable {o e:Expr}{es:List Expr}{to:TE}{t:TA}{name:Str}{apos cpos:Pos}{T id:String}{r:V->List V->Hp->VK->Prop}
theorem rB (pa:PlainAttrs T)(slot:Slot T name id)(hty:typeOf (.builtin id)=pure (.type "method_descriptor"))(hm:MtR X id r)(ho:PE X o to)(ha:PA X (e::es) t)
  (hbase:autoParam (attributeBase o name X.env (eval o X.env)=eval o X.env) ZE._auto_1)
  (hfew:autoParam (((backTo cpos (starEach (e::es) X.env)).all (λ x=>!x.1)&&(backToKw cpos (keywordEach [] X.env)).all (λ x=>x.1.isSome)
   && decide ((e::es).length+([]:List Keyword).length+(if ([]:List Keyword).isEmpty then 0 else 1)<30))=true) ZE._auto_1)
  (hline:autoParam ((apos.endLine == cpos.line)=true) ZE._auto_1) (hs:autoParam (starEach (e::es) X.env=(false,eval e X.env)::starEach es X.env) ZE._auto_1) (hplain:autoParam ((backTo cpos (starEach es X.env)).any (·.1)=false) ZE._auto_1):
  PE X (.Call (.Attribute o name apos) (e::es) [] cpos) (tBM X.K T r to t):=by
 intro pins s σ H Q I h;refine wpAny_Call_method_late hbase hfew hline rfl (thn (ho pins s σ H _ I h) λ v s1 ⟨x,H1,I1,r1,ty,q1⟩=>?_);obtain⟨h1,h2⟩:=tM I1 r1 ty;refine⟨T,id,pa,slot,hty,h1,h2,?_⟩;have hA:=ha cpos pins s1 σ H1 _ I1 q1;rw[hs] at hA ⊢;refine Calls.callWith_builtin (by show (false || (backTo cpos (starEach es X.env)).any (·.1))=false;rw[hplain] <;>rfl) (CU ?_);exact thn hA λ us s2 ⟨vs,H2,I2,r2,q2⟩=>hm pins s2 σ H2 x vs v us Q I2 r1 r2 q2
end
def MtM (X:Cx)(id:String)(r:V->List V->Hp->VK->Prop):Prop:=
 ∀ (pins:List (Addr×Obj)) (s:Shared) (σ:St) (H:Hp) (x:V) (xs:List V) (v:Value) (us:List Value) (Q:VK),Inv X pins σ H s->RelV x v->Vals xs us->r x xs H Q ->
  wpAny (model X.prog X.w) X.A (call (.builtin id) (v::us)) (EP X pins σ Q) X.xe s
theorem Vals.one {x:V}{us:List Value}(r:Vals [x] us):∃ u,us=[u]/\RelV x u:=by
 cases r with
 | cons r1 r2=>cases r2;exact⟨_,rfl,r1⟩
theorem Vals.rep {xs:List V}{us:List Value}(h:Vals xs us):∀ k:Nat,Vals (List.replicate k xs).flatten (List.replicate k us).flatten
 | 0=>.nil
 | k+1=>by
  rw[wO,wO,xo,xo];exact Vals.append h (Vals.rep h k)
theorem foldl_rep (its:List Value):∀ (k:Nat) (acc:List Value),
  List.foldl (λ x1 x2=>x1++x2) acc.toArray (List.replicate k its.toArray)=(acc++(List.replicate k its).flatten).toArray
 | 0,acc=>by simp
 | k+1,acc=>by
  have e:acc.toArray++its.toArray=(acc++its).toArray:=by simp
  have e2:(acc++its)++(List.replicate k its).flatten=acc++(List.replicate (k+1) its).flatten:=by
   rw[wO,xo,wR]
  rw[<- e2,<- foldl_rep its k (acc++its),<- e,wO,w6]
section
variable {X:Cx}{pins:List (Addr×Obj)}{σ:St}{H:Hp}{s:Shared}{l b:Addr}{xs ys zs:List V}
theorem Inv.lset {its its':List Value}{n:Nat}{f:Array Value->Array Value}{t':Nat}(I:Inv X pins σ H s)(hH:H l=some (.lst xs))
  (e:s.heap.get? l=some { cls:=.type "list",data:=.seq its.toArray n }) (hf:f its.toArray=its'.toArray) (hv:Vals ys its') (hz:ys.length<=sizeLine):
  Inv X pins σ (upd H l (.lst ys)) { s with heap:=s.heap.update l (A6 f),toks:=t' }:=by
 have q:=Dx e f;rw[hf] at q;refine I.write (x:=l) (e:=l) (by rw[hH];exact trivial) (.inl rfl) (λ b' u hb hu=>(AM s.heap (A6 f) (Ne.symm hb)).trans hu) ⟨_,q⟩ ?_
 exact⟨hz,its',_,hv,q⟩
theorem Inv.lnew {its:List Value}{t':Nat}(I:Inv X pins σ H s)(hv:Vals ys its)(hz:ys.length<=sizeLine):
  Inv X pins σ (upd H s.heap.objs.size (.lst ys)) { s with heap:=s.heap.push { cls:=.type "list",data:=.seq its.toArray },toks:=t' }:=
 I.laid (λ _ _ q=>AB _ q) (wu _) ⟨hz,its,0,hv,AF _ rfl⟩
theorem Inv.fresh (I:Inv X pins σ H s):H s.heap.objs.size=none:=I.hok.fresh (wu _)
theorem Inv.lstM (I:Inv X pins σ H s)(hH:H l=some (.lst xs)):xs.length<=sizeLine/\∃ (its:List Value) (n:Nat),Vals xs its/\xs.length=its.length/\s.heap.get? l=some { cls:=.type "list",data:=.seq its.toArray n }:=by
 obtain⟨z,its,n,r,e⟩:=I.hok l _ hH;exact⟨z,its,n,r,r.length,e⟩
theorem nO {n:Nat}(h:n<=sizeLine):BE n=false:=by
 unfold BE;exact decide_eq_false ⋯
end
section
variable {X:Cx}
def k6:V->List V->Hp->VK->Prop:=λ x vs H Q=>∃ l xs y,x=.ref l/\vs=[y]/\H l=some (.lst xs)/\xs.length<sizeLine/\Q .non (upd H l (.lst (xs++[y])))
theorem gR:MtM X "list.append" k6:=by
 intro pins s σ H x vs v us Q I rx rv h;obtain⟨l,xs,y,rfl,rfl,hH,hz,q⟩:=h;cases rx;obtain⟨u,rfl,ru⟩:=rv.one;obtain⟨z,its,n,r,hl,e⟩:=I.lstM hH;refine CV Di ⟨_,e,rfl⟩ C7 (CY _ _) (Do l its.toArray n u (by rw[wx];omega)) ⟨e,?_⟩;refine⟨.non,_,I.lset (its':=its++[u]) hH e (by simp) (r.append (.cons ru .nil)) ?_,rfl,q⟩;rw[wB,zk];omega
theorem len_rep {α:Type}(xs:List α)(k:Nat):(List.replicate k xs).flatten.length=k*xs.length:=by
 induction k with
 | zero=>simp
 | succ k ih=>rw[wO,xo,wB,ih,yz,zb]
end
end L2
namespace Att
open PySem PySem.W PySem.Calls PyProof.Rows
theorem eZ {P:Params}{h:Heap}:∀ (ns:List Int) (vs:List Value),WellAll P h vs (ns.map BF)->IntsAre vs ns:=by
 intro ns
 induction ns with
 | nil=>
  intro vs w;rw[wK] at w;cases w;exact .nil
 | cons n ns ih=>
  intro vs w;rw[wm] at w;cases w with
  | cons a b=>
   cases a;exact .cons _ _ (ih _ b)
theorem script_of {l:OpenLaw}{n:Nat}(hn:l.most=some n){P:Params}{h:Heap}{args:List WData}{vals:List Value}
  (hpre:l.row.toRowW.claim.pre args=true) (hwl:WellAll P h vals args):
  ∃ a vs ns,vals=[AK a]/\args=[DA (ns.map BF)]/\h.get? a=some { cls:=.type "list",data:=.seq vs.toArray }/\IntsAre vs ns/\ns.length<=n:=by
 have hsh:WShape.hasAll [] args [.list .int]=true:=(pre_splitW hpre).1;have hc:l.pre.holds [] { args:=args }=true:=(pre_splitW hpre).2;obtain⟨d,r,rfl,h1,h2⟩:=hasAllW_cons hsh;obtain rfl:=hasAllW_nil h2;obtain⟨xs,rfl,h3⟩:=hasW_list h1;obtain⟨ns,rfl⟩:=items_int h3;have hlen:ns.length<=n:=by
  unfold OpenLaw.pre at hc;have h4:(WTm.not (.lt (.lit (.int (n:Int))) (.len (.arg 0)))).holds [] { args:=[.list (ns.map .int)] }=true:=by
   have h4:=(holds_andW hc).1;rw[hn] at h4;exact h4
  have h5:=condW_of h4 (w_not (w_lt w_lit (w_len_list (w_arg rfl))));rw[wj] at h5;refine Nat.le_of_not_lt λ q=>?_
  have q':(n:Int)<((ns.length:Nat):Int):=⋯
  first
   | (rw[decide_eq_true q'] at h5;exact absurd h5 (by decide))
   | (simp at h5;omega)
 cases hwl with
 | cons w1 w2=>
  cases w2;cases w1 with
  | list ho hall=>exact⟨_,_,ns,rfl,rfl,ho,eZ ns _ hall,hlen⟩
theorem post_true (l:OpenLaw)(args:List WData):l.row.toRowW.claim.post args (.bool true) args=true:=
 postW_of (r:=l.row.toRowW) (X:=(true == true))
  (show WShape.has [] (.bool true) .bool=true by first|rfl|decide|simp[WShape.has,WShape.arms,WShape.armsAll])
  (show (WTm.eq .res (.lit (.bool true))).value [] { args:=args,res:=some (.bool true),after:=args }=some (.bool (true == true)) from w_eq_bool (w_res rfl) w_lit) rfl
section
variable {prog:Program}{w:World}{A:Around}{E:Value->Shared->Prop}{s:Shared}{K:Frag}
def ledger (h:Heap)(L d:Addr):List (Addr×Obj):=(List.range h.objs.size).filterMap λ a=>if a=L\/a=d then none else (h.get? a).map λ o=>(a,o)
end
end Att
namespace L2
open PySem PySem.Spec PyProof.Rows
theorem gI:∀ {vs:List Value} {ns:List Int},IntsAre vs ns->Vals (ns.map V.int) vs
 | _,_,.nil=>.nil
 | _,_,.cons n t h=>.cons ⟨t,rfl⟩ (gI h)
def uV (H:Hp):Prop:=∀ b,H b=none\/∃ o xs,H b=some (.frz o (.lst xs))
theorem law_call {P:Program}{w:World}{K:Av}{mg mb:Str->Option Value}{CX:CXT}{k:Nat}{fa a:Addr}{fd:FuncData}{x:Str}{sp:Sp}{s₁:Shared}{vs:List Value}{ns:List Int}
  (KX:K.In s₁.heap) (hns:s₁.heap.Ns mainGlobals mg) (hb:s₁.heap.Ns builtinsNs mb) (hbb:∀ x:Str,x≠"__name__"->mb x=bootBuiltins x) (hlim:s₁.heap.NoLimit) (hg:s₁.gens=#[])
  (ha:s₁.heap.get? a=some { cls:=.type "list",data:=.seq vs.toArray }) (hi:IntsAre vs ns) (hl:ns.length<=sizeLine) (hr:Room k callerA)
  (F:∀ base:Heap,K.In base->base.Ns mainGlobals mg->FnOk P w K mg base CX k fa fd [x] sp) (hbind:∀ (s:Shared) (u:Value),BindsTo s fd ⟨[u],[]⟩ [(x,u)])
  (hsp:∀ H:Hp,uV H->SqL K H a (ns.map V.int)->sp [.ref a] H (λ v _=>v=.bl true) λ _ _ _=>False)
  (hCX:∀ H e s',CX [] H s₁ (λ _ _ _=>False) e s'->False):
  codeAny (model P w) callerA (.call (.ref fa) ⟨[.ref a],[]⟩) (λ r s'=>r=.ok (.ret (.bool true))/\OldK s₁.heap s'.heap/\s'.os=s₁.os/\AllBare s'.gens) s₁:=by
 have rv:=gI hi;have lenV:=hi.length;have core:∀ H:Hp,uV H->SqL K H a (ns.map V.int)->HOk P w H s₁.heap->(∀ b,H b≠none->b=a)->(H a≠none->K.lookup a=none) ->
   codeAny (model P w) callerA (.call (.ref fa) ⟨[.ref a],[]⟩) (λ r s'=>r=.ok (.ret (.bool true))/\OldK s₁.heap s'.heap/\s'.os=s₁.os/\AllBare s'.gens) s₁:=by
  intro H hO hS hok hA hK;have base_of:∀ {b:Addr} {o:Obj},s₁.heap.get? b=some o->H b=none->(ig s₁.heap H).get? b=some o:=λ e n=>oo e n
  have noA:∀ {b:Addr} {o:Obj} {es:Array DictEntry} {ep:Nat},s₁.heap.get? b=some o->o.data=.dict es ep->H b=none:=λ {b o es ep} e d=>by
   cases q:H b with
   | none=>rfl
   | some u=>
    have e':b=a:=hA b (by rw[q];simp);subst e';rw[ha] at e;cases e;have d':Data.seq vs.toArray _=Data.dict es ep:=d;cases d'
  have nsK:∀ {b:Addr} {m:Str->Option Value},s₁.heap.Ns b m->(ig s₁.heap H).Ns b m:=λ {b m} ⟨o,es,ep,e,d,r⟩=>⟨o,es,ep,base_of e (noA e d),d,r⟩
  have hKb:K.In (ig s₁.heap H):=λ b o e=>base_of (KX b o e) (by
   cases q:H b with
   | none=>rfl
   | some u=>
    have e':b=a:=hA b (by rw[q];simp);subst e';rw[hK (by rw[q];simp)] at e;cases e)
  have hM:Mod K mg (ig s₁.heap H):=⟨hKb,nsK hns,⟨mb,nsK hb,hbb⟩,let ⟨mc,h1,h2⟩:=hlim;⟨mc,nsK h1,h2⟩⟩;have e0:Env0 P w K mg (ig s₁.heap H) callerA [] s₁ H:=⟨rfl,hM,λ b o e=>qq e,Ad (mL _ _),trivial,λ b hb=>absurd (show b∈([]:List Addr) from hb) (by simp),hok,.of_eq hg⟩;refine BZ ((F _ hKb (nsK hns)).run callerA [] s₁ H ⟨[.ref a],[]⟩ [.ref a] [.ref a] _ _ hr e0 (hbind s₁ (.ref a)) (.cons rfl .nil) (hsp H hO hS)) λ r s' h=>?_
  cases r with
  | error e=>exact(hCX H e s' h).elim
  | ok fl=>
   cases fl with
   | next=>exact Bc h
   | brk=>exact Bc h
   | cont=>exact Bc h
   | ret u=>
    obtain⟨v,H',os,bare,un,hok',r',q⟩:=h;have q':v=.bl true:=q;subst q';obtain rfl:u=Value.bool true:=r';refine⟨rfl,OldK.of_keep λ b o e=>?_,os,bare⟩;cases q:H b with
    | none=>exact un.keep b o e q (by intro z;exact absurd (show b∈([]:List Addr) from z) (by simp)) (by simp)
    | some u=>
     rcases hO b with z|⟨ob,xs,z⟩
     ·rw[q] at z;cases z
     ·have z2:=un.frzs b ob _ z
      obtain⟨e1,_⟩:=hok b _ z;obtain⟨e2,_⟩:=hok' b _ z2;rw[e] at e1;cases e1;exact e2
 cases hk:K.lookup a with
 | some o=>
  have e:=KX a o hk;rw[ha] at e;cases e;refine core (λ _=>none) (λ _=>.inl rfl) (.inr ⟨_,vs.toArray,_,hk,rfl,rfl,rfl,by rw[wx,lenV];exact hl,by simpa using rv⟩) (λ b u z=>by have z':(none:Option HO)=some u:=z;cases z') (λ b z=>absurd rfl z) λ z=>absurd rfl z
 | none=>
  refine core (λ b=>if b=a then some (.frz { cls:=.type "list",data:=.seq vs.toArray } (.lst (ns.map V.int))) else none) (λ b=>?_) (.inl (.inr ⟨{ cls:=.type "list",data:=.seq vs.toArray },if_pos rfl⟩)) (λ b u z=>?_) (λ b z=>?_) λ _=>hk
  ·by_cases hb:b=a
   ·exact .inr ⟨_,_,if_pos hb⟩
   ·exact .inl (if_neg hb)
  ·by_cases hb:b=a
   ·have z':=(if_pos hb).symm.trans z
    cases z';subst hb;exact⟨ha,by rw[wj];exact hl,vs,_,rv,ha⟩
   ·have z':=(if_neg hb).symm.trans z
    cases z'
  ·by_cases hb:b=a
   ·exact hb
   ·exact absurd (if_neg hb) z
def br (s:Stmt):Arguments:=match s with
 | .FunctionDef _ a _ _ _ _ _ _ _ _=>a
 | _=>{ posonlyargs:=[],args:=[],vararg:=none,kwonlyargs:=[],kw_defaults:=[],kwarg:=none,defaults:=[] }
def aQ (s:Stmt):List Stmt:=match s with
 | .FunctionDef _ _ b _ _ _ _ _ _ _=>b
 | _=>[]
def ah (s:Stmt):Scope:=match s with
 | .FunctionDef _ _ _ _ _ _ sc _ _ _=>sc
 | _=>{ kind:=.function,names:=[],isGenerator:=false,isCoroutine:=false }
abbrev CX0:CXT:=λ _ _ _ _ _ _=>False
structure Fun (K:Av)(x qual:Str)(st:Stmt)(f:Addr)(fd:FuncData):Prop where
 ex:∃ (oc:Value) (od:Option Addr) (kV doc pm:Value) (an:Option Addr) (cdv ct:Value) (osl:Array (Option Value)),
  fd=A0 x qual (br st) (aQ st) (ah st) .none kV doc pm an cdv ct/\K.lookup f=some ⟨oc,od,.func fd,osl⟩/\Bl K cdv qual=true
 kp:Bm K (.ref f)=true
section
variable {P:Program}{w:World}{K:Av}{mg:Str->Option Value}{base:Heap}
theorem Fun.ok {x qual:Str}{st:Stmt}{f:Addr}{fd:FuncData}{N ps:List Str}{k:Nat}{sp:Sp}(F:Fun K x qual st f fd)(S:FnScope N ps (ah st))(len:∀ vs H Q E,sp vs H Q E->vs.length=ps.length)
  (hbody:∀ (cdv:Value) (A:Around) (outer:List Env) (s:Shared) (H:Hp) (vs:List V) (Q:VK) (E:XK),Room k (A.deeper (envOfC qual (ah st) s.heap.objs.size f cdv))->sp vs H Q E ->
   ∃ t,PSs (bW CX0 P w K mg base N qual (ah st) f cdv A outer s H E).nox (aQ st) t/\t { nx:=λ _ H'=>Q .non H',rt:=Q } (start N vs) H):FnOk P w K mg base CX0 (k+1) f fd ps sp:=by
 obtain⟨oc,od,kV,doc,pm,an,cdv,ct,osl,rfl,lk,hcd⟩:=F.ex;refine rA lk hcd S len λ A outer s H vs Q E hr hsp=>?_
 obtain⟨t,h,q⟩:=hbody cdv A outer s H vs Q E hr hsp;exact⟨t,h.nox,q⟩
end
theorem qK {A B:Prop}(h:B):if false=true then A else B:=by
 rw[if_neg wU];exact h
theorem pU {A B:Prop}(h:A):if true=true then A else B:=by
 rw[if_pos rfl];exact h
def Same (H H':Hp):Prop:=∀ b o,H b=some o->H' b=some o
theorem Same.refl (H:Hp):Same H H:=λ _ _ h=>h
theorem Same.trans {H H1 H2:Hp}(a:Same H H1)(b:Same H1 H2):Same H H2:=λ c o h=>b c o (a c o h)
theorem Same.free {H H':Hp}(e:Same H H'){l:Addr}(h:H' l=Option.none):H l=Option.none:=by
 cases q:H l with
 | none=>rfl
 | some o=>
  rw[e l o q] at h;cases h
section
variable {κ:Type}[DecidableEq κ]
def jL (kvs:List (κ×V))(k:κ):Option V:=(kvs.find? λ kv=>decide (kv.1=k)).map (·.2)
def putK (kvs:List (κ×V))(k:κ)(v:V):List (κ×V):=
 if (kvs.any λ kv=>decide (kv.1=k))=true then kvs.map (λ kv=>if kv.1=k then (kv.1,v) else kv) else kvs++[(k,v)]
theorem gd {p:κ×V}{r:List (κ×V)}{k:κ}(e:p.1=k):jL (p::r) k=some p.2:=by simp[jL,xK,e]
theorem fA {p:κ×V}{r:List (κ×V)}{k:κ}(e:¬ p.1=k):jL (p::r) k=jL r k:=by simp[jL,xK,e]
theorem jH (k:κ):∀ kvs:List (κ×V),(kvs.any λ kv=>decide (kv.1=k))=(jL kvs k).isSome
 | []=>rfl
 | p::r=>by
  rw[yt];by_cases e:p.1=k
  ·simp only[gd e,decide_eq_true e,Ae,Option.isSome_some]
  ·rw[fA e,decide_eq_false e,Bool.false_or];exact jH k r
theorem RelO.isSome_eq {o:Option V}{u:Option Value}(r:RelO o u):o.isSome=u.isSome:=by
 cases o with
 | none=>cases u with
  | none=>rfl
  | some _=>exact Zf r
 | some _=>cases u with
  | none=>exact Zf r
  | some _=>rfl
theorem RelO.getD {o:Option V}{u:Option Value}{d:V}{d':Value}(r:RelO o u)(rd:RelV d d'):RelV (o.getD d) (u.getD d'):=by
 cases o with
 | none=>cases u with
  | none=>exact rd
  | some _=>exact Zf r
 | some _=>cases u with
  | none=>exact Zf r
  | some _=>exact r
theorem KV.val {kvs:List (κ×V)}{vs:List (κ×Value)}(r:KV kvs vs)(k:κ):RelO (jL kvs k) (valueAt vs k):=by
 unfold KV at r
 induction r with
 | nil=>exact BK
 | @cons p q ps qs h t ih=>
  obtain⟨h1,h2⟩:=h;by_cases e:p.1=k
  ·have e':q.1=k:=h1.symm.trans e
   have b:valueAt (q::qs) k=some q.2:=by simp[valueAt,xK,e']
   rw[gd e,b];exact h2
  ·have e':¬ q.1=k:=λ z=>e (h1.trans z)
   have b:valueAt (q::qs) k=valueAt qs k:=by simp[valueAt,xK,e']
   rw[fA e,b];exact ih
theorem KV.any {kvs:List (κ×V)}{vs:List (κ×Value)}(r:KV kvs vs)(k:κ):(kvs.any λ kv=>decide (kv.1=k))=vs.any λ kv=>decide (kv.1=k):=by
 unfold KV at r
 induction r with
 | nil=>rfl
 | cons h t ih=>rw[yt,yt,ih,h.1]
theorem KV.repl {kvs:List (κ×V)}{vs:List (κ×Value)}(r:KV kvs vs)(k:κ){y:V}{u:Value}(ry:RelV y u):
  KV (kvs.map λ kv=>if kv.1=k then (kv.1,y) else kv) (vs.map λ kv=>if kv.1=k then (kv.1,u) else kv):=by
 unfold KV at r ⊢
 induction r with
 | nil=>exact .nil
 | @cons p q ps qs h t ih=>
  rw[wm,wm];refine .cons ?_ ih
  obtain⟨h1,h2⟩:=h;by_cases e:p.1=k
  ·rw[if_pos e,if_pos (h1.symm.trans e)];exact⟨h1,ry⟩
  ·rw[if_neg e,if_neg (λ z=>e (h1.trans z))];exact⟨h1,h2⟩
theorem KV.put {kvs:List (κ×V)}{vs:List (κ×Value)}(r:KV kvs vs)(k:κ){y:V}{u:Value}(ry:RelV y u):KV (putK kvs k y) (stored vs k u):=by
 unfold putK stored;rw[r.any k];by_cases e:(vs.any λ kv=>decide (kv.1=k))=true
 ·rw[if_pos e,if_pos e];exact r.repl k ry
 ·rw[if_neg e,if_neg e];exact DQ r ⟨rfl,ry⟩
theorem KV.length {kvs:List (κ×V)}{vs:List (κ×Value)}(r:KV kvs vs):kvs.length=vs.length:=DH r
end
theorem vp {P:Program}{w:World}{k:Key}{u:Value}(r:RelV (kV k) u):(bE P w).is k u=true:=by
 cases k with
 | inl i=>obtain⟨t,e⟩:=(show ∃ t,u=AO i t from r);subst e;exact jz P w i t
 | inr x=>obtain⟨t,e⟩:=(show ∃ t,u=DF x t from r);subst e;exact js P w x t
theorem gv {P:Program}{w:World}:∀ {ks:List Key} {us:List Value},Vals (ks.map kV) us->ItemsAre (bE P w) ks us
 | [],_,r=>by rw[wK] at r;cases r;exact .nil
 | k::ks,_,r=>by
  rw[wm] at r;cases r with
  | cons h t=>exact .cons (vp h) (gv t)
abbrev KT (H:Hp):List (List Key×V)->List (List Key×Addr×Value)->Prop:=Paired λ p q=>p.1=q.1/\H q.2.1=some (.tup (p.1.map kV))/\RelV p.2 q.2.2
theorem KT.val {H:Hp}{kvs:List (List Key×V)}{xs:List (List Key×Addr×Value)}(r:KT H kvs xs)(k:List Key):RelO (jL kvs k) ((atKey xs k).map (·.2)):=by
 induction r with
 | nil=>exact BK
 | @cons p q ps qs h t ih=>
  obtain⟨h1,_,h2⟩:=h;by_cases e:p.1=k
  ·have e':q.1=k:=h1.symm.trans e
   have b:atKey (q::qs) k=some q.2:=by simp[atKey,xK,e']
   rw[gd e,b];exact h2
  ·have e':¬ q.1=k:=λ z=>e (h1.trans z)
   have b:atKey (q::qs) k=atKey qs k:=by simp[atKey,xK,e']
   rw[fA e,b];exact ih
theorem KT.repl {H:Hp}{kvs:List (List Key×V)}{xs:List (List Key×Addr×Value)}(r:KT H kvs xs)(k:List Key){y:V}{u:Value}(ry:RelV y u):
  KT H (kvs.map λ kv=>if kv.1=k then (kv.1,y) else kv) (xs.map (putAt k u)):=by
 induction r with
 | nil=>exact .nil
 | @cons p q ps qs h t ih=>
  rw[wm,wm];refine .cons ?_ ih
  obtain⟨h1,h2,h3⟩:=h;unfold putAt;by_cases e:p.1=k
  ·rw[if_pos e,if_pos (h1.symm.trans e)];exact⟨h1,h2,ry⟩
  ·rw[if_neg e,if_neg (λ z=>e (h1.trans z))];exact⟨h1,h2,h3⟩
theorem KT.put {H:Hp}{kvs:List (List Key×V)}{xs:List (List Key×Addr×Value)}(r:KT H kvs xs)(k:List Key){b:Addr}{y:V}{u:Value}(hb:H b=some (.tup (k.map kV)))(ry:RelV y u):
  KT H (putK kvs k y) (storedH xs k b u):=by
 have e:(kvs.any λ kv=>decide (kv.1=k))=(atKey xs k).isSome:=by
  rw[jH,(r.val k).isSome_eq,Option.isSome_map]
 unfold putK storedH;rw[e];by_cases q:(atKey xs k).isSome=true
 ·rw[if_pos q,if_pos q];exact r.repl k ry
 ·rw[if_neg q,if_neg q];exact DQ r ⟨rfl,hb,ry⟩
section
variable {P:Program}{w:World}{H:Hp}{h:Heap}{a:Addr}
theorem rE {u:HO}(ok:HOk P w H h)(e:Rd H a u):ObjOk P w H h a u:=e.ok ok
theorem uy {kvs:List (Key×V)}(ok:HOk P w H h)(e:Rd H a (.dK kvs)):kvs.length<=sizeLine/\(a == sysModules)=false/\∃ vs,KV kvs vs/\h.DictOf (bE P w) a vs:=
 show ObjOk P w H h a (.dK kvs) from rE ok e
theorem tV {ks:List Key}(ok:HOk P w H h)(e:H a=some (.tup (ks.map kV))):(tupleKind (bE P w)).is h ks a:=by
 obtain⟨_,its,r,o,h1,h2,n,h3⟩:=(show ObjOk P w H h a (.tup (ks.map kV)) from ok a _ e);exact⟨o,its.toArray,n,h1,h2,h3,by simpa using gv r⟩
theorem u7 {kvs:List (List Key×V)}(ok:HOk P w H h)(e:Rd H a (.dT kvs)):kvs.length<=sizeLine/\(a == sysModules)=false /\
  ∃ xs,KT H kvs xs/\h.DictOfH (tupleKind (bE P w)) a xs:=by
 obtain⟨z,y,xs,r,o,es,ep,h1,h2,h3,h4,h5⟩:=(show ObjOk P w H h a (.dT kvs) from rE ok e);refine⟨z,y,xs,r,o,es,ep,h1,h2,h3,h4,λ x hx=>?_,h5⟩;have all:∀ {l:List (List Key×V)} {m:List (List Key×Addr×Value)},KT H l m->∀ x∈m,(tupleKind (bE P w)).is h x.1 x.2.1:=by
  intro l m q
  induction q with
  | nil=>intro x hx;exact nomatch hx
  | @cons p q ps qs hq t ih=>
   intro x hx
   rcases List.mem_cons.mp hx with e|hx
   ·subst e
    exact tV ok (by rw[<- hq.1];exact hq.2.1)
   ·exact ih x hx
 exact all r x hx
end
structure M1 (X:Cx)(o:Expr)(m:Str)(apos:Pos)(e:Expr)(cpos:Pos):Prop where
 base:attributeBase o m X.env (eval o X.env)=eval o X.env
 few:((backTo cpos (starEach [e] X.env)).all (λ x=>!x.1)&&(backToKw cpos (keywordEach [] X.env)).all (λ x=>x.1.isSome)
  && decide (([e]:List Expr).length+([]:List Keyword).length+(if ([]:List Keyword).isEmpty then 0 else 1)<30))=true
 line:(apos.endLine == cpos.line)=true
 trees:backTo cpos (starEach [e] X.env)=[(false,eval e X.env)]
structure M2 (X:Cx)(o:Expr)(m:Str)(apos:Pos)(e f:Expr)(cpos:Pos):Prop where
 base:attributeBase o m X.env (eval o X.env)=eval o X.env
 few:((backTo cpos (starEach [e,f] X.env)).all (λ x=>!x.1)&&(backToKw cpos (keywordEach [] X.env)).all (λ x=>x.1.isSome)
  && decide (([e,f]:List Expr).length+([]:List Keyword).length+(if ([]:List Keyword).isEmpty then 0 else 1)<30))=true
 line:(apos.endLine == cpos.line)=true
 trees:backTo cpos (starEach [e,f] X.env)=[(false,eval e X.env),(false,eval f X.env)]
def IsD (H:Hp)(a:Addr):Prop:=(∃ kvs,Rd H a (.dK kvs))\/∃ kvs,Rd H a (.dT kvs)
theorem sS {X:Cx}{pins:List (Addr×Obj)}{σ:St}{H:Hp}{s:Shared}{a:Addr}(I:Inv X pins σ H s)(d:IsD H a):
  s.TypeIs (.ref a) "dict"/\(∀ b,AK a=.ref b->∃ ob,s.heap.get? b=some ob/\ob.dict=none)/\(a == sysModules)=false:=by
 rcases d with ⟨kvs,e⟩|⟨kvs,e⟩
 ·obtain⟨_,hd,vs,_,dd⟩:=uy I.hok e
  refine⟨dd.typeIs,λ b q=>?_,hd⟩;cases q;obtain⟨ob,_,_,h1,h2,_⟩:=dd;exact⟨ob,h1,h2.2.1⟩
 ·obtain⟨_,hd,xs,_,dd⟩:=u7 I.hok e
  refine⟨dd.typeIs,λ b q=>?_,hd⟩;cases q;obtain⟨ob,_,_,h1,h2,_⟩:=dd;exact⟨ob,h1,h2.2.1⟩
end L2
namespace Dv
inductive D where
 | non
 | bl (b:Bool)
 | int (i:Int)
  | str (x:List Nat)
 | lst (ds:List D)
 | tup (ds:List D)
  | exn (c:String)
  | raw (a:Nat)
  | tab (rows:List (List Int))
  | dct (ks:List Int) (ds:List D)
  | ins (ns:List String) (ds:List D)
def scal:D->Bool
 | .lst _=>false
 | .tup _=>false
 | .exn _=>false
 | .raw _=>false
 | .tab _=>false
 | .dct _ _=>false
 | .ins _ _=>false
 | _=>true
def noTy:D->Bool
 | .exn _=>true
 | .raw _=>true
 | .tab _=>true
 | .ins _ _=>true
 | _=>false
def flatL:List D->Bool
 | []=>true
 | d::r=>scal d&&flatL r
def clipS (x:List Nat):List Nat:=x.map (·%1114112)
mutual
def eqD:D->D->Option Bool
 | .non,.non=>some true
 | .bl a,.bl b=>some (a == b)
 | .int a,.int b=>some (decide (a=b))
 | .str a,.str b=>some (decide (clipS a=clipS b))
 | .lst a,.lst b=>eqDL a b
 | .tup a,.tup b=>eqDL a b
 | _,_=>none
def eqDL:List D->List D->Option Bool
 | [],[]=>some true
 | [],_::_=>some false
 | _::_,[]=>some false
 | a::x,b::y=>
  match eqD a b,eqDL x y with
  | some p,some q=>some (p&&q)
  | _,_=>none
end
mutual
def depthD:D->Nat
 | .lst ds=>depthL ds+1
 | .tup ds=>depthL ds+1
 | .exn _=>100
 | .raw _=>100
 | .tab _=>100
 | .dct _ _=>100
 | .ins _ _=>100
 | _=>0
def depthL:List D->Nat
 | []=>0
 | d::r=>max (depthD d) (depthL r)
end
def intsOf:List D->Option (List Int)
 | []=>some []
 | .int i::r=>(intsOf r).map (i::·)
 | _::_=>none
def bits (a:Int):Nat:=if a=0 then 0 else a.natAbs.log2+1
def mulOk (i j:Int):Bool:=decide (bits i<=64) || decide (bits j<=64) || (decide (bits i<=1048576)&&decide (bits j<=1048576))
def divOk (j:Int):Bool:=decide (0<j)&&decide (j.natAbs.log2<9000)
def ins (i:Int):List Int->List Int
 | []=>[i]
 | j::r=>if i<=j then i::j::r else j::ins i r
def isort:List Int->List Int
 | []=>[]
 | i::r=>ins i (isort r)
inductive R where
 | ok (d:D) (fr:Bool)
 | exc (c:String)
 | bad
inductive RL where
 | ok (ds:List D) (fr:Bool)
 | exc (c:String)
 | bad
abbrev R.bind (r:R)(k:D->Bool->R):R:=match r with
 | .ok d fr=>k d fr
 | .exc c=>.exc c
 | .bad=>.bad
abbrev RL.bind (r:RL)(k:List D->Bool->R):R:=match r with
 | .ok d fr=>k d fr
 | .exc c=>.exc c
 | .bad=>.bad
abbrev R.bindL (r:R)(k:D->Bool->RL):RL:=match r with
 | .ok d fr=>k d fr
 | .exc c=>.exc c
 | .bad=>.bad
abbrev RL.bindL (r:RL)(k:List D->Bool->RL):RL:=match r with
 | .ok d fr=>k d fr
 | .exc c=>.exc c
 | .bad=>.bad
abbrev Env:=List (Option D)
abbrev EE:=Env->R
abbrev EL:=Env->RL
inductive Op where
 | add|sub|mul|mod|fdiv|pow|shr|band
inductive Cm where
 | lt|le|gt|ge|eq|ne|isin|notin|isT|isNotT
def mx:Nat:=100000
def opD:Op->D->D->R
 | .add,.int i,.int j=>.ok (.int (i+j)) true
 | .add,.lst a,.lst b=>if a.length+b.length<=mx then .ok (.lst (a++b)) (flatL a&&flatL b) else .bad
 | .sub,.int i,.int j=>.ok (.int (i-j)) true
 | .mul,.int i,.int j=>if mulOk i j then .ok (.int (i*j)) true else .bad
 | .mul,.lst a,.int j=>if decide (-100000<=j)&&decide (j<=mx)&&decide (a.length*j.toNat<=mx) then .ok (.lst (List.replicate j.toNat a).flatten) (flatL a) else .bad
 | .mod,.int i,.int j=>if decide (0<j) then .ok (.int (i%j)) true else .bad
 | .fdiv,.int i,.int j=>if divOk j then .ok (.int (i/j)) true else .bad
 | .pow,.int i,.int j=>if decide (0<=j)&&decide (j<=1000)&&decide (i.natAbs<1000000) then .ok (.int (i ^ j.toNat)) true else .bad
 | .band,.int i,.int j=>if decide (j=1) then .ok (.int (i%2)) true else .bad
 | .shr,.int i,.int j=>if decide (0<=j) then .ok (.int (i/2 ^ j.toNat)) true else .bad
 | _,_,_=>.bad
theorem opD_ai (i j:Int):opD .add (.int i) (.int j)=.ok (.int (i+j)) true:=rfl
theorem opD_al (a b:List D):opD .add (.lst a) (.lst b)=if a.length+b.length<=mx then .ok (.lst (a++b)) (flatL a&&flatL b) else .bad:=rfl
theorem opD_su (i j:Int):opD .sub (.int i) (.int j)=.ok (.int (i-j)) true:=rfl
theorem opD_mi (i j:Int):opD .mul (.int i) (.int j)=if mulOk i j then .ok (.int (i*j)) true else .bad:=rfl
theorem opD_ml (a:List D)(j:Int):opD .mul (.lst a) (.int j)=if decide (-100000<=j)&&decide (j<=mx)&&decide (a.length*j.toNat<=mx) then .ok (.lst (List.replicate j.toNat a).flatten) (flatL a) else .bad:=rfl
theorem opD_mo (i j:Int):opD .mod (.int i) (.int j)=if decide (0<j) then .ok (.int (i%j)) true else .bad:=rfl
theorem opD_fd (i j:Int):opD .fdiv (.int i) (.int j)=if divOk j then .ok (.int (i/j)) true else .bad:=rfl
theorem opD_po (i j:Int):opD .pow (.int i) (.int j)=if decide (0<=j)&&decide (j<=1000)&&decide (i.natAbs<1000000) then .ok (.int (i ^ j.toNat)) true else .bad:=rfl
theorem opD_ba (i j:Int):opD .band (.int i) (.int j)=if decide (j=1) then .ok (.int (i%2)) true else .bad:=rfl
theorem opD_sh (i j:Int):opD .shr (.int i) (.int j)=if decide (0<=j) then .ok (.int (i/2 ^ j.toNat)) true else .bad:=rfl
def inD (i:Int):List D->Option Bool
 | []=>some false
 | .int j::r=>(inD i r).map (decide (j=i) || ·)
 | _::_=>none
def optB:Option Bool->R
 | some b=>.ok (.bl b) true
 | none=>.bad
def cmD:Cm->D->D->R
 | .eq,a,b=>if decide (depthD a<=9)&&decide (depthD b<=9) then optB (eqD a b) else .bad
 | .ne,a,b=>if decide (depthD a<=9)&&decide (depthD b<=9) then optB ((eqD a b).map (!·)) else .bad
 | .lt,.int i,.int j=>.ok (.bl (decide (i<j))) true
 | .le,.int i,.int j=>.ok (.bl (decide (i<=j))) true
 | .gt,.int i,.int j=>.ok (.bl (decide (j<i))) true
 | .ge,.int i,.int j=>.ok (.bl (decide (j<=i))) true
 | .isin,.int i,.lst b=>optB (inD i b)
 | .notin,.int i,.lst b=>optB ((inD i b).map (!·))
 | .isT,.bl a,.bl true=>.ok (.bl a) true
 | .isNotT,.bl a,.bl true=>.ok (.bl (!a)) true
 | _,_,_=>.bad
theorem cmD_eq (a b:D):cmD .eq a b=if decide (depthD a<=9)&&decide (depthD b<=9) then optB (eqD a b) else .bad:=rfl
theorem cmD_ne (a b:D):cmD .ne a b=if decide (depthD a<=9)&&decide (depthD b<=9) then optB ((eqD a b).map (!·)) else .bad:=rfl
theorem cmD_lt (i j:Int):cmD .lt (.int i) (.int j)=.ok (.bl (decide (i<j))) true:=rfl
theorem cmD_le (i j:Int):cmD .le (.int i) (.int j)=.ok (.bl (decide (i<=j))) true:=rfl
theorem cmD_gt (i j:Int):cmD .gt (.int i) (.int j)=.ok (.bl (decide (j<i))) true:=rfl
theorem cmD_ge (i j:Int):cmD .ge (.int i) (.int j)=.ok (.bl (decide (j<=i))) true:=rfl
theorem cmD_in (i:Int)(b:List D):cmD .isin (.int i) (.lst b)=optB (inD i b):=rfl
theorem cmD_ni (i:Int)(b:List D):cmD .notin (.int i) (.lst b)=optB ((inD i b).map (!·)):=rfl
theorem cmD_it (a:Bool):cmD .isT (.bl a) (.bl true)=.ok (.bl a) true:=rfl
theorem cmD_nt (a:Bool):cmD .isNotT (.bl a) (.bl true)=.ok (.bl (!a)) true:=rfl
def eVar (i:Nat):EE:=λ ρ=>match ρ[i]? with
 | some (some d)=>.ok d (scal d)
 | _=>.bad
def eInt (i:Int):EE:=λ _=>.ok (.int i) true
def eBl (b:Bool):EE:=λ _=>.ok (.bl b) true
def eStr (x:List Nat):EE:=λ _=>.ok (.str x) true
def eNon:EE:=λ _=>.ok .non true
def eOp (o:Op)(a b:EE):EE:=λ ρ=>(a ρ).bind λ x _=>(b ρ).bind λ y _=>opD o x y
def eCm (o:Cm)(a b:EE):EE:=λ ρ=>(a ρ).bind λ x _=>(b ρ).bind λ y _=>cmD o x y
def eNeg (a:EE):EE:=λ ρ=>(a ρ).bind λ x _=>match x with
 | .int i=>.ok (.int (-i)) true
 | _=>.bad
def eAnd (a b:EE):EE:=λ ρ=>(a ρ).bind λ x _=>match x with
 | .bl true=>b ρ
 | .bl false=>.ok (.bl false) true
 | _=>.bad
def eOr (a b:EE):EE:=λ ρ=>(a ρ).bind λ x _=>match x with
 | .bl true=>.ok (.bl true) true
 | .bl false=>b ρ
 | _=>.bad
def eNot (a:EE):EE:=λ ρ=>(a ρ).bind λ x _=>match x with
 | .bl b=>.ok (.bl (!b)) true
 | _=>.bad
def lNil:EL:=λ _=>.ok [] true
def lCons (a:EE)(r:EL):EL:=λ ρ=>(a ρ).bindL λ d f=>(r ρ).bindL λ ds g=>.ok (d::ds) (f&&g)
def eLst (a:EL):EE:=λ ρ=>(a ρ).bind λ ds f=>.ok (.lst ds) f
def eTup (a:EL):EE:=λ ρ=>(a ρ).bind λ ds f=>.ok (.tup ds) f
def at? (ds:List D)(i:Int):Option D:=if 0<=i then ds[i.toNat]? else if -(ds.length:Int)<=i then ds[(i+ds.length).toNat]? else none
def ixD (a i:D)(f:Bool):R:=match a,i with
 | .lst ds,.int k=>match at? ds k with
  | some d=>.ok d (f || scal d)
  | none=>.bad
 | .tup ds,.int k=>match at? ds k with
  | some d=>.ok d (f || scal d)
  | none=>.bad
 | _,_=>.bad
def eIx (a i:EE):EE:=λ ρ=>(a ρ).bind λ x f=>(i ρ).bind λ y _=>ixD x y f
def eCall (F:List D->R)(a:EL):EE:=λ ρ=>(a ρ).bind λ ds _=>F ds
def eB1 (F:D->Bool->R)(a:EE):EE:=λ ρ=>(a ρ).bind F
def lenD:D->Bool->R
 | .lst ds,_=>.ok (.int ds.length) true
 | .tup ds,_=>.ok (.int ds.length) true
 | _,_=>.bad
def sortedD:D->Bool->R
 | .lst ds,_=>match intsOf ds with
  | some ns=>if ns.length<64 then .ok (.lst ((isort ns).map .int)) true else .bad
  | none=>.bad
 | _,_=>.bad
def listD:D->Bool->R
 | .lst ds,f=>.ok (.lst ds) (f || flatL ds)
 | .tup ds,f=>.ok (.lst ds) (f || flatL ds)
 | _,_=>.bad
def cutI (n:Nat)(dflt:Nat):Option Int->Nat
 | none=>dflt
 | some i=>if i<0 then (i+(n:Int)).toNat else min i.toNat n
def cutL {α:Type}(ds:List α)(lo hi:Option Int):List α:=(ds.drop (cutI ds.length 0 lo)).take (cutI ds.length ds.length hi-cutI ds.length 0 lo)
def sliceD (a:D)(f:Bool)(lo hi:Option Int):R:=match a with
 | .lst ds=>.ok (.lst (cutL ds lo hi)) (f || flatL (cutL ds lo hi))
 | _=>.bad
def ePart (p:Option EE)(ρ:Env)(k:Option Int->R):R:=match p with
 | none=>k none
 | some e=>(e ρ).bind λ d _=>match d with
  | .int i=>k (some i)
  | _=>.bad
def eSlice (a:EE)(lo hi:Option EE):EE:=λ ρ=>(a ρ).bind λ x f=>ePart lo ρ λ i=>ePart hi ρ λ j=>sliceD x f i j
def eB2 (F:D->D->R)(a b:EE):EE:=λ ρ=>(a ρ).bind λ x _=>(b ρ).bind λ y _=>F x y
def intD:D->Bool->R
 | .int i,_=>.ok (.int i) true
 | .bl b,_=>.ok (.int (if b then 1 else 0)) true
 | _,_=>.bad
def isListD:D->Bool->R
 | .exn _,_=>.bad
 | .ins _ _,_=>.bad
 | .raw _,_=>.bad
 | .tab _,_=>.bad
 | .lst _,_=>.ok (.bl true) true
 | _,_=>.ok (.bl false) true
def isIntD:D->Bool->R
 | .exn _,_=>.bad
 | .ins _ _,_=>.bad
 | .raw _,_=>.bad
 | .tab _,_=>.bad
 | .int _,_=>.ok (.bl true) true
 | .bl _,_=>.ok (.bl true) true
 | _,_=>.ok (.bl false) true
def isBoolD:D->Bool->R
 | .exn _,_=>.bad
 | .ins _ _,_=>.bad
 | .raw _,_=>.bad
 | .tab _,_=>.bad
 | .bl _,_=>.ok (.bl true) true
 | _,_=>.ok (.bl false) true
def subX (c k:String):Bool:=c == k || k == "WheelError" || k == "ValueError"
inductive RI where
 | ok (ds:List D) (fr:Bool)
 | exc (c:String)
 | bad
abbrev EI:=Env->RI
def rangeL (lo:Int):Nat->List D
 | 0=>[]
 | n+1=>.int lo::rangeL (lo+1) n
def iSeq (a:EE):EI:=λ ρ=>match a ρ with
 | .ok (.lst ds) f=>.ok ds f
 | .exc c=>.exc c
 | _=>.bad
def rngOk (i:Int):Bool:=decide (-1000000<=i)&&decide (i<=1000000)
def iRange (a:EE):EI:=λ ρ=>match a ρ with
 | .ok (.int j) _=>if rngOk j then .ok (rangeL 0 j.toNat) true else .bad
 | .exc c=>.exc c
 | _=>.bad
def iRange2 (a b:EE):EI:=λ ρ=>match a ρ with
 | .ok (.int i) _=>match b ρ with
  | .ok (.int j) _=>if rngOk i&&rngOk j then .ok (rangeL i (j-i).toNat) true else .bad
  | .exc c=>.exc c
  | _=>.bad
 | .exc c=>.exc c
 | _=>.bad
def iZip (a b:EE):EI:=λ ρ=>match a ρ with
 | .ok (.lst xs) _=>match b ρ with
  | .ok (.lst ys) _=>.ok (List.zipWith (λ x y=>.tup [x,y]) xs ys) true
  | .exc c=>.exc c
  | _=>.bad
 | .exc c=>.exc c
 | _=>.bad
def cz (elt:EE)(cond:EE)(free:Env):List D->RL
 | []=>.ok [] true
 | d::r=>match cond (some d::free) with
  | .ok (.bl true) _=>match elt (some d::free) with
   | .ok x f=>match cz elt cond free r with
    | .ok xs g=>.ok (x::xs) (f&&g)
    | _=>.bad
   | _=>.bad
  | .ok (.bl false) _=>cz elt cond free r
  | _=>.bad
def pick (ρ:Env)(is:List Nat):Env:=is.map λ i=>(ρ[i]?).getD none
def eComp (elt cond:EE)(is:List Nat)(it:EI):EE:=λ ρ=>match it ρ with
 | .ok ds _=>if ds.length<=mx then match cz elt cond (pick ρ is) ds with
   | .ok xs f=>.ok (.lst xs) f
   | _=>.bad
  else .bad
 | .exc c=>.exc c
 | .bad=>.bad
inductive Sl where
 | no
 | sh (d:D)
 | ow (d:D)
  | dp (d:D)
  | jk (n m:Nat)
abbrev St:=List Sl
def Sl.get:Sl->Option D
 | .no=>none
 | .sh d=>some d
 | .ow d=>some d
 | .dp d=>some d
 | .jk _ _=>none
def Sl.shared:Sl->Option D
 | .sh d=>some d
 | _=>none
def Sl.give:Sl->Sl
 | .ow d=>.sh d
 | .dp d=>.sh d
 | s=>s
def all (st:St):Env:=st.map Sl.get
def open_ (st:St):Env:=st.map Sl.shared
def give (is:List Nat)(st:St):St:=is.foldl (λ st i=>st.set i ((st[i]?.getD .no).give)) st
inductive Out where
 | nx (st:St)
 | ret (d:D) (nw:Bool)
 | brk (st:St)
 | cont (st:St)
 | exc (c:String) (st:St)
 | bad
abbrev SS:=St->Out
abbrev Out.bind (o:Out)(k:St->Out):Out:=match o with
 | .nx st=>k st
 | o=>o
def sNil:SS:=λ st=>.nx st
def sCons (a r:SS):SS:=λ st=>(a st).bind r
def keepD (d:D)(f:Bool):Option Sl:=match d with
 | .lst ds=>if f&&flatL ds then some (.ow d) else none
 | .tup _=>none
 | .exn _=>none
 | .raw _=>none
 | .tab _=>none
 | .ins _ _=>none
 | .dct ks ds=>if f&&ks.isEmpty&&ds.isEmpty then some (.ow d) else none
 | _=>some (.sh d)
def sSet (i:Nat)(e:EE):SS:=λ st=>match e (all st) with
 | .ok d f=>match keepD d f with
  | some s=>.nx (st.set i s)
  | none=>.bad
 | .exc c=>.exc c st
 | .bad=>.bad
def sSetG (is:List Nat)(i:Nat)(e:EE):SS:=λ st=>match e (open_ (give is st)) with
 | .ok d _=>.nx ((give is st).set i (.sh d))
 | .exc c=>.exc c st
 | .bad=>.bad
def sExpr (e:EE):SS:=λ st=>match e (all st) with
 | .ok _ _=>.nx st
 | .exc c=>.exc c st
 | .bad=>.bad
def sRet (e:EE):SS:=λ st=>match e (all st) with
 | .ok d f=>.ret d f
 | .exc c=>.exc c st
 | .bad=>.bad
def sRetO (i:Nat):SS:=λ st=>match st[i]? with
 | some (.ow (.lst ds))=>.ret (.lst ds) (flatL ds)
 | some (.ow (.dct ks ds))=>.ret (.dct ks ds) false
 | some (.dp d)=>.ret d true
 | some (.sh d)=>.ret d (scal d)
 | _=>.bad
def sIf (c:EE)(a b:SS):SS:=λ st=>match c (all st) with
 | .ok (.bl true) _=>a st
 | .ok (.bl false) _=>b st
 | .exc c=>.exc c st
 | _=>.bad
def sRaise (c:String):SS:=λ st=>.exc c st
def noX:Out->Out
 | .exc _ _=>.bad
 | o=>o
def sTry (kn:List String)(k:String)(F G:SS):SS:=λ st=>match F st with
 | .exc c st'=>if kn.contains c&&subX c k then noX (G st') else .bad
 | o=>o
def sApp (i:Nat)(e:EE):SS:=λ st=>match st[i]? with
 | some (.ow (.lst ds))=>match e (all st) with
  | .ok d _=>if scal d&&decide (ds.length<mx) then .nx (st.set i (.ow (.lst (ds++[d])))) else .bad
  | .exc c=>.exc c st
  | .bad=>.bad
 | _=>.bad
def sPut (i:Nat)(k e:EE):SS:=λ st=>match st[i]? with
 | some (.ow (.lst ds))=>match e (all st) with
  | .ok d _=>match k (all st) with
   | .ok (.int j) _=>if scal d&&decide (0<=j)&&decide (j<ds.length) then .nx (st.set i (.ow (.lst (ds.set j.toNat d)))) else .bad
   | .exc c=>.exc c st
   | _=>.bad
  | .exc c=>.exc c st
  | .bad=>.bad
 | _=>.bad
def forGo (x:Nat)(body:SS):List D->SS
 | [],st=>.nx st
 | d::r,st=>match body (st.set x (.sh d)) with
  | .nx st'=>forGo x body r st'
  | .cont st'=>forGo x body r st'
  | .brk st'=>.nx st'
  | o=>o
def sFor (is:List Nat)(x:Nat)(it:EI)(body:SS):SS:=λ st=>match it (open_ (give is st)) with
 | .ok ds _=>forGo x body ds (give is st)
 | .exc c=>.exc c st
 | .bad=>.bad
def setAll:List Nat->List D->St->St
 | i::is,d::ds,st=>setAll is ds (st.set i (.sh d))
 | _,_,st=>st
def sUnpack (is:List Nat)(xs:List Nat)(e:EE):SS:=λ st=>match e (open_ (give is st)) with
 | .ok (.tup ds) _=>if ds.length=xs.length then .nx (setAll xs ds (give is st)) else .bad
 | .exc c=>.exc c st
 | _=>.bad
def sPar (is:List Nat)(x y:Nat)(a b:EE):SS:=λ st=>match a (open_ (give is st)) with
 | .ok d _=>match b (open_ (give is st)) with
  | .ok d' _=>.nx (((give is st).set x (.sh d)).set y (.sh d'))
  | .exc c=>.exc c st
  | .bad=>.bad
 | .exc c=>.exc c st
 | .bad=>.bad
def forGoT (tgt:D->St->Option St)(body:SS):List D->SS
 | [],st=>.nx st
 | d::r,st=>match tgt d st with
  | none=>.bad
  | some st1=>match body st1 with
   | .nx st'=>forGoT tgt body r st'
   | .cont st'=>forGoT tgt body r st'
   | .brk st'=>.nx st'
   | o=>o
def sForT (is:List Nat)(tgt:D->St->Option St)(it:EI)(body:SS):SS:=λ st=>match it (open_ (give is st)) with
 | .ok ds _=>forGoT tgt body ds (give is st)
 | .exc c=>.exc c st
 | .bad=>.bad
def tupTo (xs:List Nat)(d:D)(s:St):Option St:=match d with
 | .tup ds=>if ds.length=xs.length then some (setAll xs ds s) else none
 | _=>none
def fn (n:Nat)(body:SS)(ds:List D):R:=match body (ds.map .sh++List.replicate (n-ds.length) .no) with
 | .nx _=>.ok .non true
 | .ret d f=>.ok d f
 | .exc c _=>.exc c
 | _=>.bad
end Dv
namespace Sd
open PySem PySem.Spec PyProof.Rows L2
open Dv (D R RL EE EL EI RI)
abbrev St:=L2.St
def SqX (K:Av)(H:Hp)(a:Addr)(xs:List V):Prop:=
 Rd H a (.lst xs)\/∃ (its:List Value) (n:Nat),K.lookup a=some { cls:=.type "list",data:=.seq its.toArray n }/\xs.length<=sizeLine/\Vals xs its
theorem SqX.seq {K:Av}{H:Hp}{a:Addr}{xs:List V}(h:SqX K H a xs):SqL K H a xs:=by
 rcases h with h|⟨its,n,e,z,r⟩
 ·exact .inl h
 ·refine .inr ⟨_,its.toArray,n,e,rfl,rfl,rfl,?_,by simpa using r⟩
  rw[wx,<- r.length];exact z
theorem SqX.of {K:Av}{H:Hp}{a:Addr}{xs:List V}(h:H a=some (.lst xs)):SqX K H a xs:=.inl (.inl h)
theorem Rd.same {H H':Hp}{a:Addr}{o:HO}(e:Same H H')(h:Rd H a o):Rd H' a o:=by
 rcases h with h|⟨u,h⟩
 ·exact .inl (e _ _ h)
 ·exact .inr ⟨u,e _ _ h⟩
theorem SqX.same {K:Av}{H H':Hp}{a:Addr}{xs:List V}(e:Same H H')(h:SqX K H a xs):SqX K H' a xs:=by
 rcases h with h|h
 ·exact .inl (Rd.same e h)
 ·exact .inr h
theorem Inv.listX {X:Cx}{pins:List (Addr×Obj)}{σ:St}{H:Hp}{s:Shared}{a:Addr}{xs:List V}(I:Inv X pins σ H s)(h:SqX X.K H a xs):
  ∃ (its:List Value) (n:Nat),Vals xs its/\s.heap.get? a=some { cls:=.type "list",data:=.seq its.toArray n }/\xs.length<=sizeLine:=by
 rcases h with h|⟨its,n,e,z,r⟩
 ·obtain⟨z,its,n,r,e⟩:=h.ok I.hok
  exact⟨its,n,r,e,z⟩
 ·exact⟨its,n,r,I.kIn a _ e,z⟩
def uN (a C:Addr):Heap->Prop:=λ h=>∃ o vs,h.get? a=some o/\o.cls=.ref C/\o.data=.fields vs
def Tbr (H:Hp):List Addr->List (List Int)->Prop
 | [],[]=>True
 | b::bs,r::rs=>Rd H b (.lst (r.map V.int))/\Tbr H bs rs
 | _,_=>False
theorem Tbr.same {H H':Hp}(e:∀ {b:Addr} {o:HO},Rd H b o->Rd H' b o):∀ {bs:List Addr} {rows:List (List Int)},Tbr H bs rows->Tbr H' bs rows
 | [],[],_=>BK
 | b::bs,r::rs,h=>⟨e h.1,Tbr.same e h.2⟩
 | [],_::_,h=>h.elim
 | _::_,[],h=>h.elim
mutual
def Rp (K:Av)(H:Hp):D->V->Prop
 | .non,v=>v=.non
 | .bl b,v=>v=.bl b
 | .int i,v=>v=.int i
 | .str x,v=>v=.str ⟨(Dv.clipS x).toArray⟩
 | .lst ds,v=>∃ a vs,v=.ref a/\SqX K H a vs/\RpL K H ds vs
 | .tup ds,v=>∃ a vs,v=.ref a/\Rd H a (.tup vs)/\RpL K H ds vs
 | .exn c,v=>∃ a C,v=.ref a/\AG K mainGlobals (AJ c)=some (some (.ref C))/\H a=some (.ext (uN a C))
 | .raw a,v=>v=.ref a
 | .tab rows,v=>∃ t bs,v=.ref t/\Rd H t (.lst (bs.map V.ref))/\t∉bs/\bs.Nodup/\Tbr H bs rows
 | .dct ks ds,v=>∃ a vs,v=.ref a/\ks.length=ds.length/\Rd H a (.dK ((ks.map Sum.inl).zip vs))/\RpL K H ds vs
 | .ins ns ds,v=>∃ a C dx fs vs,v=.ref a/\H a=some (.ins C dx fs)/\Cls K C/\ns.length=ds.length/\(∀ n u,(n,u)∈ns.zip vs->r8 K C (AJ n)/\fs.lookup (AJ n)=some u)/\RpL K H ds vs
def RpL (K:Av)(H:Hp):List D->List V->Prop
 | [],vs=>vs=[]
 | d::r,vs=>∃ v ws,vs=v::ws/\Rp K H d v/\RpL K H r ws
end
mutual
theorem Rp.same {K:Av}{H H':Hp}(e:Same H H'):∀ {d:D} {v:V},Rp K H d v->Rp K H' d v
 | .non,_,h=>by unfold Rp at h ⊢;exact h
 | .bl _,_,h=>by unfold Rp at h ⊢;exact h
 | .int _,_,h=>by unfold Rp at h ⊢;exact h
 | .str _,_,h=>by unfold Rp at h ⊢;exact h
 | .raw _,_,h=>by unfold Rp at h ⊢;exact h
 | .tab _,v,h=>by
  unfold Rp at h ⊢;obtain⟨t,bs,h1,h2,h3,h4,h5⟩:=h;exact⟨t,bs,h1,Rd.same e h2,h3,h4,h5.same λ q=>Rd.same e q⟩
 | .lst ds,v,h=>by
  unfold Rp at h ⊢;obtain⟨a,vs,h1,h2,h3⟩:=h;exact⟨a,vs,h1,h2.same e,RpL.same e h3⟩
 | .tup ds,v,h=>by
  unfold Rp at h ⊢;obtain⟨a,vs,h1,h2,h3⟩:=h;exact⟨a,vs,h1,Rd.same e h2,RpL.same e h3⟩
 | .exn c,v,h=>by
  unfold Rp at h ⊢;obtain⟨a,C,h1,h2,h3⟩:=h;exact⟨a,C,h1,h2,e _ _ h3⟩
 | .dct ks ds,v,h=>by
  unfold Rp at h ⊢;obtain⟨a,vs,h1,h2,h3,h4⟩:=h;exact⟨a,vs,h1,h2,Rd.same e h3,RpL.same e h4⟩
 | .ins ns ds,v,h=>by
  unfold Rp at h ⊢;obtain⟨a,C,dx,fs,vs,h1,h2,h3,h4,h5,h6⟩:=h;exact⟨a,C,dx,fs,vs,h1,e _ _ h2,h3,h4,h5,RpL.same e h6⟩
theorem RpL.same {K:Av}{H H':Hp}(e:Same H H'):∀ {ds:List D} {vs:List V},RpL K H ds vs->RpL K H' ds vs
 | [],_,h=>by unfold RpL at h ⊢;exact h
 | d::r,vs,h=>by
  unfold RpL at h ⊢;obtain⟨v,ws,h1,h2,h3⟩:=h;exact⟨v,ws,h1,Rp.same e h2,RpL.same e h3⟩
end
theorem RpL.length {K:Av}{H:Hp}:∀ {ds:List D} {vs:List V},RpL K H ds vs->vs.length=ds.length
 | [],_,h=>by unfold RpL at h;subst h;rfl
 | d::r,vs,h=>by
  unfold RpL at h;obtain⟨v,ws,rfl,_,h3⟩:=h;rw[wA,wA,RpL.length h3]
theorem Rp.scal {K K':Av}{H H':Hp}{d:D}{v:V}(f:Dv.scal d=true)(h:Rp K H d v):Rp K' H' d v:=by
 cases d with
 | lst ds=>exact absurd f (by simp[Dv.scal])
 | tup ds=>exact absurd f (by simp[Dv.scal])
 | exn c=>exact absurd f (by simp[Dv.scal])
 | raw c=>exact absurd f (by simp[Dv.scal])
 | tab c=>exact absurd f (by simp[Dv.scal])
 | dct ks ds=>exact absurd f (by simp[Dv.scal])
 | ins ks ds=>exact absurd f (by simp[Dv.scal])
 | _=>unfold Rp at h ⊢;exact h
theorem RpL.flat {K K':Av}{H H':Hp}:∀ {ds:List D} {vs:List V},Dv.flatL ds=true->RpL K H ds vs->RpL K' H' ds vs
 | [],_,_,h=>by unfold RpL at h ⊢;exact h
 | d::r,vs,f,h=>by
  unfold Dv.flatL at f;rw[wq] at f;unfold RpL at h ⊢;obtain⟨v,ws,h1,h2,h3⟩:=h;exact⟨v,ws,h1,h2.scal f.1,RpL.flat f.2 h3⟩
theorem RpL.append {K:Av}{H:Hp}:∀ {ds es:List D} {vs ws:List V},RpL K H ds vs->RpL K H es ws->RpL K H (ds++es) (vs++ws)
 | [],_,_,_,h,g=>by unfold RpL at h;subst h;exact g
 | d::r,es,vs,ws,h,g=>by
  unfold RpL at h;obtain⟨v,vs',rfl,h2,h3⟩:=h;rw[xT,xT];unfold RpL;exact⟨v,_,rfl,h2,RpL.append h3 g⟩
theorem RpL.get {K:Av}{H:Hp}:∀ {ds:List D} {vs:List V} {i:Nat} {d:D},RpL K H ds vs->ds[i]?=some d->∃ v,vs[i]?=some v/\Rp K H d v
 | [],_,_,_,_,e=>by simp at e
 | x::r,vs,0,d,h,e=>by
  unfold RpL at h;obtain⟨v,ws,rfl,h2,_⟩:=h;simp at e;subst e;exact⟨v,rfl,h2⟩
 | x::r,vs,i+1,d,h,e=>by
  unfold RpL at h;obtain⟨v,ws,rfl,_,h3⟩:=h;obtain⟨u,h4,h5⟩:=RpL.get (i:=i) (d:=d) h3 (by simpa using e);exact⟨u,by simpa using h4,h5⟩
theorem RpL.cons {K:Av}{H:Hp}{d:D}{v:V}{ds:List D}{vs:List V}(h:Rp K H d v)(g:RpL K H ds vs):RpL K H (d::ds) (v::vs):=by
 unfold RpL;exact⟨v,vs,rfl,h,g⟩
theorem RpL.nil {K:Av}{H:Hp}:RpL K H [] []:=by unfold RpL;rfl
theorem RpL.set {K:Av}{H:Hp}{d:D}{v:V}(g:Rp K H d v):∀ {ds:List D} {vs:List V} (i:Nat),RpL K H ds vs->RpL K H (ds.set i d) (vs.set i v)
 | [],_,i,h=>by unfold RpL at h;subst h;exact .nil
 | x::r,vs,0,h=>by
  unfold RpL at h;obtain⟨u,ws,rfl,_,h3⟩:=h;exact .cons g h3
 | x::r,vs,i+1,h=>by
  unfold RpL at h;obtain⟨u,ws,rfl,h2,h3⟩:=h;exact .cons h2 (RpL.set g i h3)
theorem RpL.ints {K:Av}{H:Hp}:∀ {ds:List D} {vs:List V} {ns:List Int},Dv.intsOf ds=some ns->RpL K H ds vs->vs=ns.map V.int
 | [],vs,ns,e,h=>by
  simp[Dv.intsOf] at e;subst e;unfold RpL at h;exact h
 | d::r,vs,ns,e,h=>by
  unfold RpL at h;obtain⟨v,ws,rfl,h2,h3⟩:=h;cases d with
  | int i=>
   simp only[Dv.intsOf,xt] at e;obtain⟨ms,e1,rfl⟩:=e;unfold Rp at h2;subst h2;rw[RpL.ints e1 h3,wm]
  | _=>simp[Dv.intsOf] at e
theorem RpL.ofInts {K:Av}{H:Hp}:∀ (ns:List Int),RpL K H (ns.map .int) (ns.map V.int)
 | []=>.nil
 | n::r=>.cons (by unfold Rp;rfl) (RpL.ofInts r)
structure Ext (Hv H Hv' H':Hp):Prop where
 hh:Same H H'
 vv:Same Hv Hv'
 vh:Same Hv' H'
 new:∀ b o,Hv' b=some o->Hv b=none->H b=none
 all:∀ b,H b=none->Hv' b=H' b
 nf:∀ b o u,H b=none->H' b≠some (.frz o u)
theorem Ext.refl {Hv H:Hp}(e:Same Hv H):Ext Hv H Hv H:=⟨.refl _,.refl _,e,λ b o h n=>(by rw[n] at h;cases h),λ b h=>(by rw[h];exact e.free h),λ b o u h=>by rw[h];intro z;cases z⟩
theorem Ext.trans {Hv H Hv1 H1 Hv2 H2:Hp}(a:Ext Hv H Hv1 H1)(b:Ext Hv1 H1 Hv2 H2):Ext Hv H Hv2 H2:=
 ⟨a.hh.trans b.hh,a.vv.trans b.vv,b.vh,λ c o h n=>(by
  cases q:Hv1 c with
  | some u=>exact a.new c u q n
  | none=>exact a.hh.free (b.new c o h q)),λ c h=>by
  cases q:H1 c with
  | none=>exact b.all c q
  | some o=>rw[b.hh c o q];exact b.vv c o ((a.all c h).trans q),λ c o u h=>by
  cases q:H1 c with
  | none=>exact b.nf c o u q
  | some w=>rw[b.hh c w q,<- q];exact a.nf c o u h⟩
theorem fC {H:Hp}{p:Addr}(h:H p=none)(o:HO):Same H (upd H p o):=λ b u q=>by rw[aq (au q h)];exact q
theorem Ext.new1 {Hv H:Hp}(e:Same Hv H){p:Addr}(h:H p=none)(o:HO)(ho:autoParam (∀ a u,o≠.frz a u) ZF._auto_1):Ext Hv H (upd Hv p o) (upd H p o):=by
 refine⟨fC h o,fC (e.free h) o,λ b u q=>?_,λ b u q n=>?_,λ b q=>?_,λ b a u q=>?_⟩
 ·by_cases hb:b=p
  ·subst hb;rw[ax] at q ⊢;exact q
  ·rw[aq hb] at q ⊢;exact e _ _ q
 ·by_cases hb:b=p
  ·subst hb;exact h
  ·rw[aq hb,n] at q;cases q
 ·by_cases hb:b=p
  ·subst hb;rw[ax,ax]
  ·rw[aq hb,aq hb,q];exact e.free q
 ·by_cases hb:b=p
  ·subst hb;rw[ax];exact λ z=>ho a u (Option.some.inj z)
  ·rw[aq hb,q];intro z;cases z
def Hnew (H H':Hp):Hp:=λ b=>match H b with
 | none=>H' b
 | some _=>none
theorem Hnew.mono {H H1 H2 H3:Hp}(a:Same H H1)(c:Same H2 H3):Same (Hnew H1 H2) (Hnew H H3):=λ b o h=>by
 unfold Hnew at h ⊢;cases q:H b with
 | some u=>rw[a b u q] at h;cases h
 | none=>
  cases q1:H1 b with
  | some u=>rw[q1] at h;cases h
  | none=>rw[q1] at h;exact c b o h
theorem Ext.news {Hv H Hv' H':Hp}(x:Ext Hv H Hv' H'):Same (Hnew H H') Hv':=λ b o h=>by
 unfold Hnew at h;cases q:H b with
 | some u=>rw[q] at h;cases h
 | none=>rw[q] at h;rw[x.all b q];exact h
theorem Hnew.sub {H H':Hp}:Same (Hnew H H') H':=λ b o h=>by
 unfold Hnew at h;cases q:H b with
 | some u=>rw[q] at h;cases h
 | none=>rw[q] at h;exact h
mutual
theorem Rp.frag {K:Av}{H:Hp}:∀ {d:D} {v:V},Rp [] H d v->Rp K H d v
 | .non,_,h=>by unfold Rp at h ⊢;exact h
 | .bl _,_,h=>by unfold Rp at h ⊢;exact h
 | .int _,_,h=>by unfold Rp at h ⊢;exact h
 | .str _,_,h=>by unfold Rp at h ⊢;exact h
 | .raw _,_,h=>by unfold Rp at h ⊢;exact h
 | .tab _,_,h=>by unfold Rp at h ⊢;exact h
 | .lst ds,v,h=>by
  unfold Rp at h ⊢;obtain⟨a,vs,h1,h2,h3⟩:=h;refine⟨a,vs,h1,?_,RpL.frag h3⟩
  rcases h2 with h2|⟨its,n,e,_⟩
  ·exact .inl h2
  ·simp at e
 | .tup ds,v,h=>by
  unfold Rp at h ⊢;obtain⟨a,vs,h1,h2,h3⟩:=h;exact⟨a,vs,h1,h2,RpL.frag h3⟩
 | .exn c,v,h=>by
  unfold Rp at h;obtain⟨a,C,h1,h2,h3⟩:=h;simp[AG] at h2
 | .dct ks ds,v,h=>by
  unfold Rp at h ⊢;obtain⟨a,vs,h1,h2,h3,h4⟩:=h;exact⟨a,vs,h1,h2,h3,RpL.frag h4⟩
 | .ins ns ds,v,h=>by
  unfold Rp at h;obtain⟨a,C,dx,fs,vs,h1,h2,h3,h4,h5,h6⟩:=h;exact absurd h3.sa (by simp[By])
theorem RpL.frag {K:Av}{H:Hp}:∀ {ds:List D} {vs:List V},RpL [] H ds vs->RpL K H ds vs
 | [],_,h=>by unfold RpL at h ⊢;exact h
 | d::r,vs,h=>by
  unfold RpL at h ⊢;obtain⟨v,ws,h1,h2,h3⟩:=h;exact⟨v,ws,h1,Rp.frag h2,RpL.frag h3⟩
end
theorem Hnew.at {H:Hp}{p:Addr}(h:H p=none)(o:HO):Hnew H (upd H p o) p=some o:=by
 unfold Hnew;rw[h];exact ax
def Ok (K:Av)(Hv H:Hp)(W:XK)(cls:String->Value)(r:R)(Q:VK):Prop:=match r with
 | .ok d fr=>∀ v Hv' H',Ext Hv H Hv' H'->Rp K Hv' d v->(fr=true->Rp [] (Hnew H H') d v)->Q v H'
 | .exc c=>∀ Hv' H',Ext Hv H Hv' H'->W (cls c) none H'
 | .bad=>False
def OkL (K:Av)(Hv H:Hp)(W:XK)(cls:String->Value)(r:RL)(Q:List V->Hp->Prop):Prop:=match r with
 | .ok ds fr=>∀ vs Hv' H',Ext Hv H Hv' H'->RpL K Hv' ds vs->(fr=true->RpL [] (Hnew H H') ds vs)->Q vs H'
 | .exc c=>∀ Hv' H',Ext Hv H Hv' H'->W (cls c) none H'
 | .bad=>False
def EnvR (K:Av)(Hv:Hp)(ρ:Dv.Env)(σ:St):Prop:=∀ (i:Nat) (d:D),ρ[i]?=some (some d)->∃ v,σ[i]?=some (some v)/\Rp K Hv d v
theorem EnvR.same {K:Av}{Hv Hv':Hp}{ρ:Dv.Env}{σ:St}(e:Same Hv Hv')(h:EnvR K Hv ρ σ):EnvR K Hv' ρ σ:=λ i d q=>
 let ⟨v,h1,h2⟩:=h i d q;⟨v,h1,h2.same e⟩
structure Ctx where
 X:Cx
 W:St->XK
 cls:String->Value
 CX:CXT
 un:X.A.units+64<cLine
 own:PassesOwn (model X.prog X.w) X.A X.env X.xe
 pass:∀ (pins:List (Addr×Obj)) (σ:St) (H:Hp) (s:Shared) (e:Value) (s':Shared),Inv X pins σ H s->CX X.stack H s (W σ) e s'->X.xe e s'
 cxF:∀ (outer:List AY) (H:Hp) (s:Shared) (e:Value) (s':Shared),CX outer H s (λ _ _ _=>False) e s'->False
def Tak (C:Ctx)(t:TE)(f:EE):Prop:=∀ σ H Hv ρ Q,EnvR C.X.K Hv ρ σ->Same Hv H->Ok C.X.K Hv H (C.W σ) C.cls (f ρ) Q->t σ H Q
def TakL (C:Ctx)(t:TA)(f:EL):Prop:=∀ σ H Hv ρ Q,EnvR C.X.K Hv ρ σ->Same Hv H->OkL C.X.K Hv H (C.W σ) C.cls (f ρ) Q->t σ H Q
def SE (C:Ctx)(e:Expr)(f:EE):Prop:=∃ t:TE,PE C.X e t/\Tak C t f
def SL (C:Ctx)(es:List Expr)(f:EL):Prop:=∃ t:TA,PA C.X es t/\TakL C t f/\∀ ρ ds fr,f ρ=.ok ds fr->ds.length=es.length
def SC (C:Ctx)(e:Expr)(f:EE):Prop:=
 ∃ t:TT,PT C.X e t/\∀ σ H Hv ρ Q,EnvR C.X.K Hv ρ σ->Same Hv H->Ok C.X.K Hv H (C.W σ) C.cls (f ρ) (λ v H'=>∃ b,v=.bl b/\Q b H')->t σ H Q
theorem Ok.later {K:Av}{Hv H Hv1 H1:Hp}{W:XK}{cls:String->Value}{r:R}{Q:VK}(x:Ext Hv H Hv1 H1)(h:Ok K Hv H W cls r Q):Ok K Hv1 H1 W cls r Q:=by
 cases r with
 | ok d fr=>exact λ v Hv' H' y r n=>h v Hv' H' (x.trans y) r λ z=>(n z).same (Hnew.mono x.hh (.refl _))
 | exc c=>exact λ Hv' H' y=>h Hv' H' (x.trans y)
 | bad=>exact h
theorem Ok.now {K:Av}{Hv H:Hp}{W:XK}{cls:String->Value}{d:D}{fr:Bool}{Q:VK}{v:V}(h:Ok K Hv H W cls (.ok d fr) Q)(e:Same Hv H)(r:Rp K Hv d v)(z:Dv.scal d=true):Q v H:=
 h v Hv H (.refl e) r λ _=>r.scal z
theorem Ok.at {K:Av}{Hv H Hv1 H1:Hp}{W:XK}{cls:String->Value}{d:D}{fr:Bool}{Q:VK}{v:V}(h:Ok K Hv H W cls (.ok d fr) Q)(x:Ext Hv H Hv1 H1)(r:Rp K Hv1 d v)(z:Dv.scal d=true):Q v H1:=
 h v Hv1 H1 x r λ _=>r.scal z
theorem Ok.newL {K:Av}{Hv H Hv1 H1:Hp}{W:XK}{cls:String->Value}{ds:List D}{fr:Bool}{Q:VK}{vs:List V}(h:Ok K Hv H W cls (.ok (.lst ds) fr) Q)(x:Ext Hv H Hv1 H1)(r:RpL K Hv1 ds vs)
  (n:fr=true->RpL [] (Hnew H H1) ds vs) (p:Addr) (hp:H1 p=none):Q (.ref p) (upd H1 p (.lst vs)):=by
 have y:=Ext.new1 x.vh hp (.lst vs);refine h _ _ _ (x.trans y) ?_ λ z=>?_
 ·unfold Rp
  exact⟨p,vs,rfl,SqX.of ax,r.same y.vv⟩
 ·unfold Rp
  have hH:H p=none:=x.hh.free hp;refine⟨p,vs,rfl,SqX.of (by unfold Hnew;rw[hH];exact ax),(n z).same (Hnew.mono (.refl _) y.hh)⟩
theorem Ok.newT {K:Av}{Hv H Hv1 H1:Hp}{W:XK}{cls:String->Value}{ds:List D}{fr:Bool}{Q:VK}{vs:List V}(h:Ok K Hv H W cls (.ok (.tup ds) fr) Q)(x:Ext Hv H Hv1 H1)(r:RpL K Hv1 ds vs)
  (n:fr=true->RpL [] (Hnew H H1) ds vs) (p:Addr) (hp:H1 p=none):Q (.ref p) (upd H1 p (.tup vs)):=by
 have y:=Ext.new1 x.vh hp (.tup vs);refine h _ _ _ (x.trans y) ?_ λ z=>?_
 ·unfold Rp
  exact⟨p,vs,rfl,.inl ax,r.same y.vv⟩
 ·unfold Rp
  have hH:H p=none:=x.hh.free hp;refine⟨p,vs,rfl,.inl (by unfold Hnew;rw[hH];exact ax),(n z).same (Hnew.mono (.refl _) y.hh)⟩
section
variable {C:Ctx}{a b c:Expr}{es:List Expr}{f g h:EE}{fl:EL}{ta tb tc:TE}{tl:TA}{pos:Pos}
theorem Tak.step (qa:Tak C ta f){σ:St}{H Hv Hv1 H1:Hp}{ρ:Dv.Env}{Q T:VK}{k:D->Bool->R}(e:EnvR C.X.K Hv ρ σ)(x:Ext Hv H Hv1 H1)(q:Ok C.X.K Hv H (C.W σ) C.cls ((f ρ).bind k) Q)
  (next:∀ v d fr Hv2 H2,f ρ=.ok d fr->Ext Hv H Hv2 H2->Ext Hv1 H1 Hv2 H2->Rp C.X.K Hv2 d v->(fr=true->Rp [] (Hnew H H2) d v)->Ok C.X.K Hv H (C.W σ) C.cls (k d fr) Q->T v H2):ta σ H1 T:=by
 refine qa σ H1 Hv1 ρ _ (e.same x.vv) x.vh ?_
 cases hf:f ρ with
 | bad=>rw[hf] at q;exact q
 | exc c=>rw[hf] at q;exact λ Hv' H' y=>q Hv' H' (x.trans y)
 | ok d fr=>
  rw[hf] at q;exact λ v Hv2 H2 y r n=>next v d fr Hv2 H2 hf (x.trans y) y r (λ z=>(n z).same (Hnew.mono x.hh (.refl _))) q
theorem TakL.step (qa:TakL C tl fl){σ:St}{H Hv Hv1 H1:Hp}{ρ:Dv.Env}{Q:VK}{T:List V->Hp->Prop}{k:List D->Bool->R}(e:EnvR C.X.K Hv ρ σ)(x:Ext Hv H Hv1 H1)(q:Ok C.X.K Hv H (C.W σ) C.cls ((fl ρ).bind k) Q)
  (next:∀ vs ds fr Hv2 H2,fl ρ=.ok ds fr->Ext Hv H Hv2 H2->Ext Hv1 H1 Hv2 H2->RpL C.X.K Hv2 ds vs->(fr=true->RpL [] (Hnew H H2) ds vs)->Ok C.X.K Hv H (C.W σ) C.cls (k ds fr) Q->T vs H2):tl σ H1 T:=by
 refine qa σ H1 Hv1 ρ _ (e.same x.vv) x.vh ?_
 cases hf:fl ρ with
 | bad=>rw[hf] at q;exact q
 | exc c=>rw[hf] at q;exact λ Hv' H' y=>q Hv' H' (x.trans y)
 | ok d fr=>
  rw[hf] at q;exact λ v Hv2 H2 y r n=>next v d fr Hv2 H2 hf (x.trans y) y r (λ z=>(n z).same (Hnew.mono x.hh (.refl _))) q
theorem aa (i:Nat){x:Str}(hN:autoParam (C.X.N[i]?=some x) ZE._auto_1)(hv:autoParam (Vis C.X.env.scope x) ZG._auto_1)(hd:autoParam ((x == ("__debug__":Str))=false) ZC._auto_1)
  (hcd:autoParam ((x == ("__classdict__":Str))=false) ZC._auto_1):SE C (.Name x pos) (Dv.eVar i):=by
 refine⟨sD i,cW hN hv hd hcd,λ σ H Hv ρ Q e s q=>?_⟩;unfold Dv.eVar at q;cases r:ρ[i]? with
 | none=>rw[r] at q;exact q.elim
 | some o=>
  cases o with
  | none=>rw[r] at q;exact q.elim
  | some d=>
   rw[r] at q;obtain⟨v,h1,h2⟩:=e i d r;exact⟨v,h1,q v Hv H (.refl s) h2 λ z=>h2.scal z⟩
theorem af {i:Int}{j:Nat}:SE C (.Constant (.int i) j pos) (Dv.eInt i):=
 ⟨_,oM,λ _ _ _ _ _ _ s q=>q.now (v:=.int i) s (by unfold Rp;rfl) rfl⟩
theorem b8 {i:Bool}{j:Nat}:SE C (.Constant (.bool i) j pos) (Dv.eBl i):=
 ⟨_,vb,λ _ _ _ _ _ _ s q=>q.now (v:=.bl i) s (by unfold Rp;rfl) rfl⟩
theorem kK {x:Str}{l:List Nat}{j:Nat}(h:autoParam (x.cps.toList=Dv.clipS l) ZH._auto_1):SE C (.Constant (.str x) j pos) (Dv.eStr l):=
 ⟨_,kT,λ _ _ _ _ _ _ s q=>q.now (v:=.str x) s (by unfold Rp;rw[<- h]) rfl⟩
theorem iI {j:Nat}:SE C (.Constant .none j pos) Dv.eNon:=
 ⟨_,tY,λ _ _ _ _ _ _ s q=>q.now (v:=.non) s (by unfold Rp;rfl) rfl⟩
def OpS (C:Ctx)(op:Value->Value->Sem Value)(F:D->D->R):Prop:=
 ∃ r:R2,OpR C.X op r/\∀ x y d d' H Hv H1 Hv1 W Q,Ext Hv H Hv1 H1->Rp C.X.K Hv1 d x->Rp C.X.K Hv1 d' y->Ok C.X.K Hv H W C.cls (F d d') Q->r x y H1 Q
theorem iR {op:Value->Value->Sem Value}{F:D->D->R}{r:R2}(hr:∀ x y d d' H Hv H1 Hv1 W Q,Ext Hv H Hv1 H1->Rp C.X.K Hv1 d x->Rp C.X.K Hv1 d' y->Ok C.X.K Hv H W C.cls (F d d') Q->r x y H1 Q)
  (qa:Tak C ta f) (qb:Tak C tb g):Tak C (tOp r ta tb) (λ ρ=>(f ρ).bind λ x _=>(g ρ).bind λ y _=>F x y):=λ σ H Hv ρ Q e s q=>
 qa.step e (.refl s) q λ v d fr Hv1 H1 _ x1 _ rp1 _ q1=>qb.step e x1 q1 λ v2 d2 fr2 Hv2 H2 _ x2 y2 rp2 _ q2=>
  hr v v2 d d2 H Hv H2 Hv2 _ Q x2 (rp1.same y2.vv) rp2 q2
theorem cC {op:Operator}{F:D->D->R}(o:OpS C (binaryOp op) F)(ha:SE C a f)(hb:SE C b g):SE C (.BinOp a op b pos) (λ ρ=>(f ρ).bind λ x _=>(g ρ).bind λ y _=>F x y):=by
 obtain⟨r,ho,hr⟩:=o;obtain⟨ta,pa,qa⟩:=ha;obtain⟨tb,pb,qb⟩:=hb;exact⟨_,vo ho pa pb,iR (op:=binaryOp op) hr qa qb⟩
theorem kM {op:CmpOp}{F:D->D->R}(o:OpS C (compareOp op) F)(ha:SE C a f)(hb:SE C b g)(hm:behindInMarks op b=false):SE C (.Compare a [op] [b] pos) (λ ρ=>(f ρ).bind λ x _=>(g ρ).bind λ y _=>F x y):=by
 obtain⟨r,ho,hr⟩:=o;obtain⟨ta,pa,qa⟩:=ha;obtain⟨tb,pb,qb⟩:=hb;exact⟨_,qF ho pa pb hm,iR (op:=compareOp op) hr qa qb⟩
theorem cn {op:CmpOp}{F:D->D->R}(o:OpS C (compareOp op) F)(ha:SE C a f)(hb:SE C b g)(hm:behindInMarks op b=false):SC C (.Compare a [op] [b] pos) (λ ρ=>(f ρ).bind λ x _=>(g ρ).bind λ y _=>F x y):=by
 obtain⟨r,ho,hr⟩:=o;obtain⟨ta,pa,qa⟩:=ha;obtain⟨tb,pb,qb⟩:=hb;exact⟨_,qk ho pa pb hm,λ σ H Hv ρ Q e s q=>iR (op:=compareOp op) hr qa qb σ H Hv ρ _ e s q⟩
theorem cg (ha:SE C a f)(he:autoParam (∀ whole,isTrue a C.X.env whole=(do let v <- whole;standAt a.pos;holding [v] (truthy v))) ZD._auto_1):SC C a f:=by
 obtain⟨t,p,q⟩:=ha;exact⟨_,tD p he,λ σ H Hv ρ Q e s w=>q σ H Hv ρ _ e s w⟩
def SW (C:Ctx)(e:Expr)(f:EE):Prop:=
 ∃ t:TT,PW C.X e t/\∀ σ H Hv ρ Q,EnvR C.X.K Hv ρ σ->Same Hv H->Ok C.X.K Hv H (C.W σ) C.cls (f ρ) (λ v H'=>∃ b,v=.bl b/\Q b H')->t σ H Q
def TakC (C:Ctx)(t:TT)(f:EE):Prop:=∀ σ H Hv ρ Q,EnvR C.X.K Hv ρ σ->Same Hv H->Ok C.X.K Hv H (C.W σ) C.cls (f ρ) (λ v H'=>∃ b,v=.bl b/\Q b H')->t σ H Q
theorem TakC.step {tt:TT}(qa:TakC C tt f){σ:St}{H Hv Hv1 H1:Hp}{ρ:Dv.Env}{Q:VK}{T:Bool->Hp->Prop}{k:D->Bool->R}(e:EnvR C.X.K Hv ρ σ)(x:Ext Hv H Hv1 H1)(q:Ok C.X.K Hv H (C.W σ) C.cls ((f ρ).bind k) Q)
  (nb:∀ d fr,f ρ=.ok d fr->(∀ b,d≠.bl b)->k d fr=.bad)
  (next:∀ b fr Hv2 H2,f ρ=.ok (.bl b) fr->Ext Hv H Hv2 H2->Ext Hv1 H1 Hv2 H2->Ok C.X.K Hv H (C.W σ) C.cls (k (.bl b) fr) Q->T b H2):tt σ H1 T:=by
 refine qa σ H1 Hv1 ρ _ (e.same x.vv) x.vh ?_
 cases hf:f ρ with
 | bad=>rw[hf] at q;exact q
 | exc c=>rw[hf] at q;exact λ Hv' H' y=>q Hv' H' (x.trans y)
 | ok d fr=>
  intro v Hv2 H2 y r n;cases d with
  | bl b=>
   unfold Rp at r;rw[hf] at q;exact⟨b,r,next b fr Hv2 H2 hf (x.trans y) y q⟩
  | _=>
   have z:=nb _ _ hf (by intro b z;cases z);rw[hf] at q;have q':Ok C.X.K Hv H (C.W σ) C.cls (k _ fr) Q:=q;rw[z] at q';exact q'.elim
theorem bo (op:BoolOp)(ha:SC C a f):SW C (.BoolOp op [a] pos) f:=by
 obtain⟨t,p,q⟩:=ha;cases op with
 | And=>exact⟨t,qv p,q⟩
 | Or=>exact⟨t,tP p,q⟩
theorem kL {rest:List Expr}(ha:SC C a f)(hb:SW C (.BoolOp .And (b::rest) pos) g):SW C (.BoolOp .And (a::b::rest) pos) (Dv.eAnd f g):=by
 obtain⟨t,p,q⟩:=ha;obtain⟨u,p2,q2⟩:=hb;refine⟨_,tE p p2,λ σ H Hv ρ Q e s w=>?_⟩;refine TakC.step q e (.refl s) w (λ d fr _ nb=>by cases d <;>first|rfl|exact absurd rfl (nb _)) λ b fr Hv2 H2 hf x y w2=>?_
 cases b with
 | true=>exact pU (q2 σ H2 Hv2 ρ _ (e.same x.vv) x.vh (Ok.later x (show Ok _ _ _ _ _ (g ρ) _ from w2)))
 | false=>
  obtain⟨b,e1,q3⟩:=(show Ok C.X.K Hv H (C.W σ) C.cls (.ok (.bl false) true) (λ v H'=>∃ b,v=.bl b/\Q b H') from w2).at (v:=.bl false) x (by unfold Rp;rfl) rfl;cases e1;exact qK q3
theorem bZ {rest:List Expr}(ha:SC C a f)(hb:SW C (.BoolOp .Or (b::rest) pos) g):SW C (.BoolOp .Or (a::b::rest) pos) (Dv.eOr f g):=by
 obtain⟨t,p,q⟩:=ha;obtain⟨u,p2,q2⟩:=hb;refine⟨_,vk p p2,λ σ H Hv ρ Q e s w=>?_⟩;refine TakC.step q e (.refl s) w (λ d fr _ nb=>by cases d <;>first|rfl|exact absurd rfl (nb _)) λ b fr Hv2 H2 hf x y w2=>?_
 cases b with
 | false=>exact qK (q2 σ H2 Hv2 ρ _ (e.same x.vv) x.vh (Ok.later x (show Ok _ _ _ _ _ (g ρ) _ from w2)))
 | true=>
  obtain⟨b,e1,q3⟩:=(show Ok C.X.K Hv H (C.W σ) C.cls (.ok (.bl true) true) (λ v H'=>∃ b,v=.bl b/\Q b H') from w2).at (v:=.bl true) x (by unfold Rp;rfl) rfl;cases e1;exact pU q3
theorem dq (h:SW C a f):SC C a f:=let ⟨t,p,q⟩:=h;⟨t,p.pt,q⟩
theorem cK (ha:SC C a f):SC C (.UnaryOp .Not a pos) (Dv.eNot f):=by
 obtain⟨t,p,q⟩:=ha;refine⟨_,rW p,λ σ H Hv ρ Q e s w=>?_⟩;refine TakC.step q e (.refl s) w (λ d fr _ nb=>by cases d <;>first|rfl|exact absurd rfl (nb _)) λ b fr Hv2 H2 hf x y w2=>?_
 obtain⟨b',e1,q3⟩:=(show Ok C.X.K Hv H (C.W σ) C.cls (.ok (.bl (!b)) true) (λ v H'=>∃ b,v=.bl b/\Q b H') from w2).at (v:=.bl (!b)) x (by unfold Rp;rfl) rfl;cases e1;exact q3
theorem iN {op:BoolOp}(ha:SE C a f):SE C (.BoolOp op [a] pos) f:=let ⟨t,p,q⟩:=ha;⟨t,sO p,q⟩
theorem fP {rest:List Expr}(ha:SE C a f)(hb:SE C (.BoolOp .And (b::rest) pos) g):SE C (.BoolOp .And (a::b::rest) pos) (Dv.eAnd f g):=by
 obtain⟨t,p,q⟩:=ha;obtain⟨u,p2,q2⟩:=hb;refine⟨_,tS p p2,λ σ H Hv ρ Q e s w=>?_⟩;refine Tak.step q e (.refl s) w λ v d fr Hv2 H2 hf x y rp n w2=>?_
 cases d with
 | bl c=>
  unfold Rp at rp;refine⟨c,rp,?_⟩;cases c with
  | true=>exact pU (q2 σ H2 Hv2 ρ _ (e.same x.vv) x.vh (Ok.later x (show Ok _ _ _ _ _ (g ρ) _ from w2)))
  | false=>exact qK ((show Ok C.X.K Hv H (C.W σ) C.cls (.ok (.bl false) true) Q from w2).at (v:=.bl false) x (by unfold Rp;rfl) rfl)
 | _=>exact Zf w2
theorem tu (ha:SE C a f):SE C (.UnaryOp .Not a pos) (Dv.eNot f):=by
 obtain⟨t,p,q⟩:=ha;refine⟨_,sf p,λ σ H Hv ρ Q e s w=>?_⟩;refine Tak.step q e (.refl s) w λ v d fr Hv2 H2 hf x y rp n w2=>?_
 cases d with
 | bl c=>
  unfold Rp at rp;exact⟨c,rp,(show Ok C.X.K Hv H (C.W σ) C.cls (.ok (.bl (!c)) true) Q from w2).at (v:=.bl (!c)) x (by unfold Rp;rfl) rfl⟩
 | _=>exact Zf w2
theorem cN (ha:SE C a f):SE C (.UnaryOp .USub a pos) (Dv.eNeg f):=by
 obtain⟨t,p,q⟩:=ha;refine⟨_,uD sq p,λ σ H Hv ρ Q e s w=>?_⟩;refine Tak.step q e (.refl s) w λ v d fr Hv2 H2 hf x y rp n w2=>?_
 cases d with
 | int i=>
  unfold Rp at rp;exact⟨i,rp,(show Ok C.X.K Hv H (C.W σ) C.cls (.ok (.int (-i)) true) Q from w2).at (v:=.int (-i)) x (by unfold Rp;rfl) rfl⟩
 | _=>exact Zf w2
theorem ak:SL C [] Dv.lNil:=⟨_,bD,λ σ H Hv ρ Q e s q=>q [] Hv H (.refl s) .nil λ _=>.nil,λ ρ ds fr h=>by cases h;rfl⟩
theorem ae (ha:SE C a f)(hr:SL C es fl)(hs:autoParam (starEach (a::es) C.X.env=(false,eval a C.X.env)::starEach es C.X.env) ZE._auto_1):SL C (a::es) (Dv.lCons f fl):=by
 obtain⟨t,p,q⟩:=ha;obtain⟨u,p2,q2,l2⟩:=hr;refine⟨_,aH p p2 hs,λ σ H Hv ρ Q e s w=>?_,λ ρ ds fr h=>?_⟩
 rotate_left
 ·unfold Dv.lCons at h
  cases hf:f ρ with
  | bad=>rw[hf] at h;cases h
  | exc c=>rw[hf] at h;cases h
  | ok d f1=>
   cases hg:fl ρ with
   | bad=>rw[hf,hg] at h;cases h
   | exc c=>rw[hf,hg] at h;cases h
   | ok d2 f2=>
    rw[hf,hg] at h;cases h;rw[wA,wA,l2 ρ d2 f2 hg]
 unfold Dv.lCons at w;refine q σ H Hv ρ _ e s ?_
 cases hf:f ρ with
 | bad=>rw[hf] at w;exact w
 | exc c=>rw[hf] at w;exact w
 | ok d fr=>
  rw[hf] at w;intro v Hv1 H1 x1 r1 n1;refine q2 σ H1 Hv1 ρ _ (e.same x1.vv) x1.vh ?_
  cases hg:fl ρ with
  | bad=>rw[hg] at w;exact w
  | exc c=>rw[hg] at w;exact λ Hv' H' y=>w Hv' H' (x1.trans y)
  | ok ds fr2=>
   rw[hg] at w;intro vs Hv2 H2 x2 r2 n2;refine w (v::vs) Hv2 H2 (x1.trans x2) (.cons (r1.same x2.vv) r2) λ z=>?_
   have z':fr=true/\fr2=true:=by simpa using z
   exact .cons ((n1 z'.1).same (Hnew.mono (.refl _) x2.hh)) ((n2 z'.2).same (Hnew.mono x1.hh (.refl _)))
theorem cx {n:Nat}(h:n<=Dv.mx):n<=sizeLine:=by
 unfold Dv.mx at h;rw[A2];omega
theorem aT (h:SL C es fl)(hz:autoParam (es.length<=Dv.mx) ZC._auto_1):SE C (.List es pos) (Dv.eLst fl):=by
 obtain⟨t,p,q,hn⟩:=h;refine⟨_,rY p,λ σ H Hv ρ Q e s w=>?_⟩;refine TakL.step q e (.refl s) w λ vs ds fr Hv2 H2 hf x y rp n w2=>⟨?_,λ p hp=>?_⟩
 ·rw[rp.length,hn ρ ds fr hf];exact cx hz
 ·exact Ok.newL w2 x rp n p hp
theorem el {k}(h:SL C es fl)(hz:autoParam (es.length<=Dv.mx) ZC._auto_1):SE C (.Tuple es k pos) (Dv.eTup fl):=by
 obtain⟨t,p,q,hn⟩:=h;refine⟨_,pB p,λ σ H Hv ρ Q e s w=>?_⟩;refine TakL.step q e (.refl s) w λ vs ds fr Hv2 H2 hf x y rp n w2=>⟨?_,λ p hp=>?_⟩
 ·rw[rp.length,hn ρ ds fr hf];exact cx hz
 ·exact Ok.newT w2 x rp n p hp
end
section
variable {C:Ctx}{a b c:Expr}{es:List Expr}{f g h:EE}{fl:EL}{pos:Pos}
theorem gu {op:Value->Value->Sem Value}{K:Int->Int->Prop}{G:Int->Int->V}{F:D->D->R}(o:OpR C.X op (rI K G))
  (hF:∀ d d',(∃ i j x,d=.int i/\d'=.int j/\K i j/\F d d'=.ok x true/\Dv.scal x=true/\∀ K' H',Rp K' H' x (G i j))\/F d d'=.bad):OpS C op F:=by
 refine⟨_,o,λ x y d d' H Hv H1 Hv1 W Q e rx ry q=>?_⟩
 rcases hF d d' with ⟨i,j,z,rfl,rfl,hk,hz,hs,hr⟩|hb
 ·unfold Rp at rx ry
  rw[hz] at q;exact⟨i,j,rx,ry,hk,q.at e (hr _ _) hs⟩
 ·rw[hb] at q;exact q.elim
theorem fT {op:Value->Value->Sem Value}{G:Int->Int->V}{F:D->D->R}(o:OpR C.X op (rI0 G))
  (hF:∀ d d',(∃ i j x,d=.int i/\d'=.int j/\F d d'=.ok x true/\Dv.scal x=true/\∀ K' H',Rp K' H' x (G i j))\/F d d'=.bad):OpS C op F:=by
 refine⟨_,o,λ x y d d' H Hv H1 Hv1 W Q e rx ry q=>?_⟩
 rcases hF d d' with ⟨i,j,z,rfl,rfl,hz,hs,hr⟩|hb
 ·unfold Rp at rx ry
  rw[hz] at q;exact⟨i,j,rx,ry,q.at e (hr _ _) hs⟩
 ·rw[hb] at q;exact q.elim
theorem aV {K:Av}{H:Hp}{i:Int}:Rp K H (.int i) (.int i):=by unfold Rp;rfl
theorem aZ {K:Av}{H:Hp}{i:Bool}:Rp K H (.bl i) (.bl i):=by unfold Rp;rfl
theorem oA {K:Av}{H:Hp}:Rp K H .non .non:=by unfold Rp;rfl
theorem t7:OpS C (binaryOp .Sub) (Dv.opD .sub):=fT sC λ d d'=>by
 cases d <;>first
  | exact .inr rfl
  | (cases d' <;>first
   | exact .inr rfl
   | exact .inl ⟨_,_,_,rfl,rfl,rfl,rfl,λ _ _=>aV⟩)
theorem sQ:OpS C (binaryOp .Mod) (Dv.opD .mod):=gu sV λ d d'=>by
 cases d with
 | int i=>
  cases d' with
  | int j=>
   by_cases h:0<j
   ·exact .inl ⟨i,j,.int (i%j),rfl,rfl,h,by simp[Dv.opD_ai,Dv.opD_al,Dv.opD_su,Dv.opD_mi,Dv.opD_ml,Dv.opD_mo,Dv.opD_fd,Dv.opD_po,Dv.opD_ba,Dv.opD_sh,h],rfl,λ _ _=>aV⟩
   ·exact .inr (by simp[Dv.opD_ai,Dv.opD_al,Dv.opD_su,Dv.opD_mi,Dv.opD_ml,Dv.opD_mo,Dv.opD_fd,Dv.opD_po,Dv.opD_ba,Dv.opD_sh,h])
  | _=>exact .inr rfl
 | _=>exact .inr rfl
theorem ou:OpR C.X (binaryOp .FloorDiv) (rI (λ _ j=>0<j/\j.natAbs.log2<9000) λ i j=>.int (i/j)):=opI λ i j _ _ _ _ _ hc q=>by
 have h1:(0:Int)<j:=hc.1;exact floordiv_int ⋯ (by rw[Int.fdiv_eq_ediv_of_nonneg i ⋯];exact q) (.inl (PyProof.noPylong_of_log2 hc.2))
theorem p7:OpS C (binaryOp .FloorDiv) (Dv.opD .fdiv):=gu ou λ d d'=>by
 cases d with
 | int i=>
  cases d' with
  | int j=>
   by_cases h:Dv.divOk j=true
   ·refine .inl ⟨i,j,.int (i/j),rfl,rfl,?_,by simp[Dv.opD_ai,Dv.opD_al,Dv.opD_su,Dv.opD_mi,Dv.opD_ml,Dv.opD_mo,Dv.opD_fd,Dv.opD_po,Dv.opD_ba,Dv.opD_sh,h],rfl,λ _ _=>aV⟩
    unfold Dv.divOk at h;simpa using h
   ·exact .inr (by simp[Dv.opD_ai,Dv.opD_al,Dv.opD_su,Dv.opD_mi,Dv.opD_ml,Dv.opD_mo,Dv.opD_fd,Dv.opD_po,Dv.opD_ba,Dv.opD_sh,h])
  | _=>exact .inr rfl
 | _=>exact .inr rfl
theorem sH:OpS C (binaryOp .Pow) (Dv.opD .pow):=gu t6 λ d d'=>by
 cases d with
 | int i=>
  cases d' with
  | int j=>
   by_cases h:(decide (0<=j)&&decide (j<=1000)&&decide (i.natAbs<1000000))=true
   ·refine .inl ⟨i,j,.int (i ^ j.toNat),rfl,rfl,?_,by simp only[Dv.opD_ai,Dv.opD_al,Dv.opD_su,Dv.opD_mi,Dv.opD_ml,Dv.opD_mo,Dv.opD_fd,Dv.opD_po,Dv.opD_ba,Dv.opD_sh,h];rfl,rfl,λ _ _=>aV⟩
    simp only[wq,decide_eq_true_eq] at h;exact⟨h.1.1,⋯,⋯⟩
   ·exact .inr (by simp only[Dv.opD_ai,Dv.opD_al,Dv.opD_su,Dv.opD_mi,Dv.opD_ml,Dv.opD_mo,Dv.opD_fd,Dv.opD_po,Dv.opD_ba,Dv.opD_sh,h];rfl)
  | _=>exact .inr rfl
 | _=>exact .inr rfl
def uO (K:Av):R2:=λ x y H Q=>∃ l b xs zs,x=.ref l/\y=.ref b/\SqX K H l xs/\SqX K H b zs/\xs.length+zs.length<=sizeLine/\∀ p,H p=none->Q (.ref p) (upd H p (.lst (xs++zs)))
theorem pS {X:Cx}:OpR X (binaryOp .Add) (uO X.K):=by
 intro pins s σ H x y v u Q I rx ry h;obtain⟨l,b,xs,zs,rfl,rfl,hH,hB,hz,q⟩:=h;cases rx;cases ry;obtain⟨its,n,r,e,z⟩:=Inv.listX I hH;obtain⟨its2,n2,r2,e2,z2⟩:=Inv.listX I hB;have hl:=r.length;have hl2:=r2.length;refine PySem.P.add_list e e2 ?_ (by rw[wx,wx];omega)
 have ea:its.toArray++its2.toArray=(its++its2).toArray:=by simp
 rw[ea];exact⟨.ref _,_,I.lnew (t':=s.toks) (r.append r2) (by rw[wB];omega),rfl,q _ I.fresh⟩
theorem tz:OpS C (binaryOp .Add) (Dv.opD .add):=by
 refine⟨_,OpR.or t9 pS,λ x y d d' H Hv H1 Hv1 W Q e rx ry q=>?_⟩;cases d with
 | int i=>
  cases d' with
  | int j=>
   unfold Rp at rx ry;exact .inl ⟨i,j,rx,ry,(show Ok _ _ _ _ _ (.ok (.int (i+j)) true) Q from q).at e aV rfl⟩
  | _=>exact Zf q
 | lst xs=>
  cases d' with
  | lst ys=>
   unfold Rp at rx ry;obtain⟨l,vs,rfl,h1,h2⟩:=rx;obtain⟨m,ws,rfl,h3,h4⟩:=ry;by_cases hz:xs.length+ys.length<=Dv.mx
   ·have q':Ok C.X.K Hv H W C.cls (.ok (.lst (xs++ys)) (Dv.flatL xs&&Dv.flatL ys)) Q:=by simpa[Dv.opD_ai,Dv.opD_al,Dv.opD_su,Dv.opD_mi,Dv.opD_ml,Dv.opD_mo,Dv.opD_fd,Dv.opD_po,Dv.opD_ba,Dv.opD_sh,hz] using q
    refine .inr ⟨l,m,vs,ws,rfl,rfl,h1.same e.vh,h3.same e.vh,?_,λ p hp=>Ok.newL q' e (h2.append h4) (λ z=>?_) p hp⟩
    ·rw[h2.length,h4.length];exact cx hz
    ·rw[wq] at z
     exact(h2.flat z.1).append (h4.flat z.2)
   ·have q':False:=by simpa[Dv.opD_ai,Dv.opD_al,Dv.opD_su,Dv.opD_mi,Dv.opD_ml,Dv.opD_mo,Dv.opD_fd,Dv.opD_po,Dv.opD_ba,Dv.opD_sh,hz,Ok] using q
    exact q'.elim
  | _=>exact Zf q
 | _=>exact Zf q
theorem qC (i:Int):C8 i=Dv.bits i:=by
 unfold C8 Dv.bits;by_cases h:i=0
 ·simp[h]
 ·simp[h]
theorem qj:OpR C.X (binaryOp .Mult) (rI (λ i j=>Dv.mulOk i j=true) λ i j=>.int (i*j)):=opI λ i j _ _ _ _ _ hc q=>by
 refine mul_int q ?_
 unfold Dv.mulOk at hc;simp only[zf,wq,decide_eq_true_eq,<- qC] at hc
 rcases hc with (hc|hc)|hc
 ·exact .of_left hc
 ·exact .of_right hc
 ·exact .of_bits (by simpa using hc.1) (by simpa using hc.2)
def uP (K:Av):R2:=λ x y H Q=>∃ l k xs,x=.ref l/\y=.int k/\SqX K H l xs/\-(2 ^ 63)<=k/\k<2 ^ 63/\xs.length*k.toNat<=sizeLine /\
 ∀ p,H p=none->Q (.ref p) (upd H p (.lst (List.replicate k.toNat xs).flatten))
theorem qM {X:Cx}:OpR X (binaryOp .Mult) (uP X.K):=by
 intro pins s σ H x y v u Q I rx ry h;obtain⟨l,k,xs,rfl,rfl,hH,h1,h2,hz,q⟩:=h;cases rx;obtain⟨t,rfl⟩:=ry;obtain⟨its,n,r,e,z⟩:=Inv.listX I hH;have hl:=r.length;have hlen:its.toArray.size*k.toNat<=sizeLine:=by rw[wx,<- hl];exact hz
 have hcap:¬ its.toArray.size*k.toNat > (2 ^ 63-1)/8:=by
  have:(sizeLine:Nat)<=(2 ^ 63-1)/8:=by decide
  omega
 have hfit:¬ (!Builtin.List.listFitsIndex k)=true:=by
  rw[fitsIndex_both h1 h2];exact wU
 have hlong:¬ BE (its.toArray.size*k.toNat)=true:=by
  rw[nO hlen];exact wU
 have hnew:List.foldl (λ x1 x2=>x1++x2) #[] (List.replicate (if its.toArray.isEmpty=true then 0 else k.toNat) its.toArray)=(List.replicate k.toNat its).flatten.toArray:=by
  have f0:∀ m:Nat,List.foldl (λ x1 x2=>x1++x2) #[] (List.replicate m its.toArray)=(List.replicate m its).flatten.toArray:=λ m=>by
   have:=foldl_rep its m [];rw[xA] at this;exact this
  rw[f0];cases its with
  | nil=>simp
  | cons a r'=>rw[if_neg (by simp)]
 refine wpAny_binaryOp_repeat_ref (T:="list") (U:="int") (by decide) ⟨_,e,rfl⟩ (λ s'=>typeIs_int s' k t) noFill_list_mul F.fills_int_mul F.slot_int_rmul repeat_list F.slot_int_index.lookup
  (CV F.slot_int_rmul (typeIs_int s k t) F.entry_int_rmul (F.args_int_rmul_2 _ _) (int___rmul___int_list k t l its.toArray n)
   ⟨e,rfl,⟨_,e,rfl⟩,CV F.slot_list_mul ⟨_,e,rfl⟩ F.entry_list_mul (F.args_list_mul_2 _ _) (AutoListH.list___mul___list_int_3 l its.toArray n k t hfit hcap hlong) ⟨e,?_⟩⟩)
 rw[hnew];exact⟨.ref _,_,I.lnew (t':=s.toks) (r.rep k.toNat) (by rw[len_rep,ym];exact hz),rfl,q _ I.fresh⟩
theorem RpL.rep {K:Av}{H:Hp}{ds:List D}{vs:List V}(h:RpL K H ds vs):∀ k:Nat,RpL K H (List.replicate k ds).flatten (List.replicate k vs).flatten
 | 0=>.nil
 | k+1=>by
  rw[wO,wO,xo,xo];exact h.append (RpL.rep h k)
theorem sG:OpS C (binaryOp .Mult) (Dv.opD .mul):=by
 refine⟨_,OpR.or qj qM,λ x y d d' H Hv H1 Hv1 W Q e rx ry q=>?_⟩;cases d with
 | int i=>
  cases d' with
  | int j=>
   unfold Rp at rx ry;by_cases h:Dv.mulOk i j=true
   ·have q':Ok C.X.K Hv H W C.cls (.ok (.int (i*j)) true) Q:=by simpa[Dv.opD_ai,Dv.opD_al,Dv.opD_su,Dv.opD_mi,Dv.opD_ml,Dv.opD_mo,Dv.opD_fd,Dv.opD_po,Dv.opD_ba,Dv.opD_sh,h] using q
    exact .inl ⟨i,j,rx,ry,h,q'.at e aV rfl⟩
   ·have q':False:=by simpa[Dv.opD_ai,Dv.opD_al,Dv.opD_su,Dv.opD_mi,Dv.opD_ml,Dv.opD_mo,Dv.opD_fd,Dv.opD_po,Dv.opD_ba,Dv.opD_sh,h,Ok] using q
    exact q'.elim
  | _=>exact Zf q
 | lst xs=>
  cases d' with
  | int j=>
   unfold Rp at rx ry;obtain⟨l,vs,rfl,h1,h2⟩:=rx;subst ry;by_cases hz:(decide (-100000<=j)&&decide (j<=Dv.mx)&&decide (xs.length*j.toNat<=Dv.mx))=true
   ·have q':Ok C.X.K Hv H W C.cls (.ok (.lst (List.replicate j.toNat xs).flatten) (Dv.flatL xs)) Q:=by
     simp only[Dv.opD_ai,Dv.opD_al,Dv.opD_su,Dv.opD_mi,Dv.opD_ml,Dv.opD_mo,Dv.opD_fd,Dv.opD_po,Dv.opD_ba,Dv.opD_sh,hz,if_true] at q;exact q
    simp only[wq,decide_eq_true_eq] at hz;have hj:j<=100000:=hz.1.2;have hj0:-100000<=j:=hz.1.1;refine .inr ⟨l,j,vs,rfl,rfl,h1.same e.vh,⋯,⋯,?_,λ p hp=>Ok.newL q' e (h2.rep _) (λ z=>?_) p hp⟩
    ·rw[h2.length];exact cx hz.2
    ·exact(h2.flat z).rep _
   ·simp only[Dv.opD_ai,Dv.opD_al,Dv.opD_su,Dv.opD_mi,Dv.opD_ml,Dv.opD_mo,Dv.opD_fd,Dv.opD_po,Dv.opD_ba,Dv.opD_sh,hz] at q
    exact Zf q
  | _=>exact Zf q
 | _=>exact Zf q
theorem uE:OpS C (compareOp .Lt) (Dv.cmD .lt):=fT uf λ d d'=>by
 cases d <;>first
  | exact .inr rfl
  | (cases d' <;>first|exact .inr rfl|exact .inl ⟨_,_,_,rfl,rfl,rfl,rfl,λ _ _=>aZ⟩)
theorem uk:OpS C (compareOp .LtE) (Dv.cmD .le):=fT uF λ d d'=>by
 cases d <;>first
  | exact .inr rfl
  | (cases d' <;>first|exact .inr rfl|exact .inl ⟨_,_,_,rfl,rfl,rfl,rfl,λ _ _=>aZ⟩)
theorem rQ:OpS C (compareOp .Gt) (Dv.cmD .gt):=fT ur λ d d'=>by
 cases d <;>first
  | exact .inr rfl
  | (cases d' <;>first|exact .inr rfl|exact .inl ⟨_,_,_,rfl,rfl,rfl,rfl,λ _ _=>aZ⟩)
theorem u6:OpS C (compareOp .GtE) (Dv.cmD .ge):=fT uG λ d d'=>by
 cases d <;>first
  | exact .inr rfl
  | (cases d' <;>first|exact .inr rfl|exact .inl ⟨_,_,_,rfl,rfl,rfl,rfl,λ _ _=>aZ⟩)
mutual
def pd:D->PyData
 | .non=>.none
 | .bl b=>.bool b
 | .int i=>.int i
 | .str x=>.str ⟨(Dv.clipS x).toArray⟩
 | .lst ds=>.list (pdL ds)
 | .tup ds=>.tuple (pdL ds)
 | .exn _=>.none
 | .raw _=>.none
 | .tab _=>.none
 | .dct _ _=>.none
 | .ins _ _=>.none
def pdL:List D->List PyData
 | []=>[]
 | d::r=>pd d::pdL r
end
mutual
theorem fW:∀ d:D,(pd d).canLay0=true
 | .non=>by simp[pd,A3]
 | .bl _=>by simp[pd,A3]
 | .int _=>by simp[pd,A3]
 | .str x=>by
  have:∀ n:Nat,n%1114112<1114112:=λ n=>yd _ (by decide)
  simp[pd,A3,PyData.strOk,Dv.clipS,this]
 | .lst ds=>by simp[pd,A3,iX ds]
 | .tup ds=>by simp[pd,A3,iX ds]
 | .exn _=>by simp[pd,A3]
 | .raw _=>by simp[pd,A3]
 | .tab _=>by simp[pd,A3]
 | .dct _ _=>by simp[pd,A3]
 | .ins _ _=>by simp[pd,A3]
theorem iX:∀ ds:List D,Cr (pdL ds)=true
 | []=>by simp[pdL,Cr]
 | d::r=>by simp[pdL,Cr,fW d,iX r]
end
mutual
theorem cP:∀ d:D,(pd d).depth<=Dv.depthD d
 | .non=>by simp[pd,A9,Dv.depthD]
 | .bl _=>by simp[pd,A9,Dv.depthD]
 | .int _=>by simp[pd,A9,Dv.depthD]
 | .str _=>by simp[pd,A9,Dv.depthD]
 | .lst ds=>by have:=eH ds;simp[pd,A9,Dv.depthD];omega
 | .tup ds=>by have:=eH ds;simp[pd,A9,Dv.depthD];omega
 | .exn _=>by simp[pd,A9,Dv.depthD]
 | .raw _=>by simp[pd,A9,Dv.depthD]
 | .tab _=>by simp[pd,A9,Dv.depthD]
 | .dct _ _=>by simp[pd,A9,Dv.depthD]
 | .ins _ _=>by simp[pd,A9,Dv.depthD]
theorem eH:∀ ds:List D,CI (pdL ds)<=Dv.depthL ds
 | []=>by simp[pdL,CI,Dv.depthL]
 | d::r=>by have:=cP d;have:=eH r;simp[pdL,CI,Dv.depthL];omega
end
mutual
theorem kx:∀ (a b:D) (r:Bool),Dv.eqD a b=some r->BL (pd a) (pd b)=r
 | .non,b,r,h=>by
  cases b with
  | non=>cases (show some true=some r from h);simp[pd,BL]
  | _=>exact(nomatch (show (none:Option Bool)=some r from h))
 | .bl p,b,r,h=>by
  cases b with
  | bl q=>cases (show some (p == q)=some r from h);simp[pd,BL]
  | _=>exact(nomatch (show (none:Option Bool)=some r from h))
 | .int p,b,r,h=>by
  cases b with
  | int q=>cases (show some (decide (p=q))=some r from h);simp[pd,BL,yu]
  | _=>exact(nomatch (show (none:Option Bool)=some r from h))
 | .str p,b,r,h=>by
  cases b with
  | str q=>cases (show some (decide (Dv.clipS p=Dv.clipS q))=some r from h);simp[pd,BL,yu]
  | _=>exact(nomatch (show (none:Option Bool)=some r from h))
 | .lst xs,b,r,h=>by
  cases b with
  | lst ys=>
   have h:Dv.eqDL xs ys=some r:=h;simp only[pd,BL];exact iB _ _ _ h
  | _=>exact(nomatch (show (none:Option Bool)=some r from h))
 | .tup xs,b,r,h=>by
  cases b with
  | tup ys=>
   have h:Dv.eqDL xs ys=some r:=h;simp only[pd,BL];exact iB _ _ _ h
  | _=>exact(nomatch (show (none:Option Bool)=some r from h))
 | .exn _,b,r,h=>by cases b <;>exact(nomatch (show (none:Option Bool)=some r from h))
 | .raw _,b,r,h=>by cases b <;>exact(nomatch (show (none:Option Bool)=some r from h))
 | .tab _,b,r,h=>by cases b <;>exact(nomatch (show (none:Option Bool)=some r from h))
 | .dct _ _,b,r,h=>by cases b <;>exact(nomatch (show (none:Option Bool)=some r from h))
theorem iB:∀ (a b:List D) (r:Bool),Dv.eqDL a b=some r->BS (pdL a) (pdL b)=r
 | [],[],r,h=>by simp[Dv.eqDL] at h;subst h;simp[pdL,BS]
 | [],_::_,r,h=>by simp[Dv.eqDL] at h;subst h;simp[pdL,BS]
 | _::_,[],r,h=>by simp[Dv.eqDL] at h;subst h;simp[pdL,BS]
 | x::xs,y::ys,r,h=>by
  simp only[Dv.eqDL] at h;cases h1:Dv.eqD x y with
  | none=>rw[h1] at h;cases h
  | some p=>
   cases h2:Dv.eqDL xs ys with
   | none=>rw[h1,h2] at h;cases h
   | some q=>
    rw[h1,h2] at h;cases h;simp only[pdL,BS,kx x y p h1,iB xs ys q h2]
end
mutual
theorem cV {X:Cx}{pins:List (Addr×Obj)}{σ:St}{H:Hp}{s:Shared}(I:Inv X pins σ H s):∀ (d:D) (v:V) (u:Value),Rp X.K H d v->RelV v u->Dv.depthD d<=9->∃ as,Reads s.heap u (pd d) as
 | .non=>λ v u h r _=>by unfold Rp at h;subst h;cases r;unfold pd;exact⟨_,.none⟩
 | .bl b=>λ v u h r _=>by unfold Rp at h;subst h;cases r;unfold pd;exact⟨_,.bool b⟩
 | .int i=>λ v u h r _=>by unfold Rp at h;subst h;obtain⟨t,rfl⟩:=r;unfold pd;exact⟨_,.int i t⟩
 | .str x=>λ v u h r _=>by unfold Rp at h;subst h;obtain⟨t,rfl⟩:=r;unfold pd;exact⟨_,.str _ t⟩
 | .exn _=>λ v u h r hd=>by unfold Dv.depthD at hd;omega
 | .raw _=>λ v u h r hd=>by unfold Dv.depthD at hd;omega
 | .tab _=>λ v u h r hd=>by unfold Dv.depthD at hd;omega
 | .dct _ _=>λ v u h r hd=>by unfold Dv.depthD at hd;omega
 | .ins _ _=>λ v u h r hd=>by unfold Dv.depthD at hd;omega
 | .lst ds=>λ v u h r hd=>by
  unfold Rp at h;unfold Dv.depthD at hd;obtain⟨a,vs,rfl,h1,h2⟩:=h;cases r;obtain⟨its,n,rv,e,_⟩:=Inv.listX I h1;obtain⟨as,ra⟩:=eF I ds vs its h2 rv ⋯;unfold pd;exact⟨_,.list e rfl rfl (by simpa using ra)⟩
 | .tup ds=>λ v u h r hd'=>by
  unfold Rp at h;unfold Dv.depthD at hd';obtain⟨a,vs,rfl,h1,h2⟩:=h;cases r;obtain⟨_,its,rv,o,e,hc,n,hd⟩:=h1.ok I.hok;obtain⟨as,ra⟩:=eF I ds vs its h2 rv ⋯;unfold pd;exact⟨_,.tuple e hc hd (by simpa using ra)⟩
theorem eF {X:Cx}{pins:List (Addr×Obj)}{σ:St}{H:Hp}{s:Shared}(I:Inv X pins σ H s):∀ (ds:List D) (vs:List V) (us:List Value),RpL X.K H ds vs->Vals vs us->Dv.depthL ds<=9->∃ as,ReadsAll s.heap us (pdL ds) as
 | []=>λ vs us h r _=>by unfold RpL at h;subst h;cases r;unfold pdL;exact⟨_,.nil⟩
 | d::ds=>λ vs us h r hd=>by
  unfold RpL at h;unfold Dv.depthL at hd;obtain⟨v,ws,rfl,h1,h2⟩:=h;cases r with
  | cons r1 r2=>
   obtain⟨as,ra⟩:=cV I d v _ h1 r1 ⋯;obtain⟨bs,rb⟩:=eF I ds ws _ h2 r2 ⋯;unfold pdL;exact⟨_,.cons ra rb⟩
end
def uT (K:Av)(neg:Bool):R2:=λ x y H Q=>∃ d d' b,Rp K H d x/\Rp K H d' y/\Dv.depthD d<=9/\Dv.depthD d'<=9/\Dv.eqD d d'=some b/\Q (.bl (if neg then !b else b)) H
theorem sW (hu:C.X.A.units+64<cLine):OpR C.X (compareOp .Eq) (uT C.X.K false):=by
 intro pins s σ H x y v u Q I rx ry h;obtain⟨d,d',b,h1,h2,z1,z2,e,q⟩:=h;obtain⟨as,ra⟩:=cV I d x v h1 rx z1;obtain⟨bs,rb⟩:=cV I d' y u h2 ry z2;refine SeqAt.compareEq_reads ra rb (fW d) (fW d') ?_ ⟨.bl b,H,I,?_,q⟩
 ·have:=cP d
  have:=cP d';have:=zS (pd d).depth (pd d').depth;omega
 ·rw[kx _ _ _ e];rfl
theorem tq (hu:C.X.A.units+64<cLine):OpR C.X (compareOp .NotEq) (uT C.X.K true):=by
 intro pins s σ H x y v u Q I rx ry h;obtain⟨d,d',b,h1,h2,z1,z2,e,q⟩:=h;obtain⟨as,ra⟩:=cV I d x v h1 rx z1;obtain⟨bs,rb⟩:=cV I d' y u h2 ry z2;refine SeqAt.compareNe_reads ra rb (fW d) (fW d') ?_ ⟨.bl (!b),H,I,?_,q⟩
 ·have:=cP d
  have:=cP d';have:=zS (pd d).depth (pd d').depth;omega
 ·rw[kx _ _ _ e];rfl
theorem os_eq:OpS C (compareOp .Eq) (Dv.cmD .eq):=by
 refine⟨_,sW C.un,λ x y d d' H Hv H1 Hv1 W Q e rx ry q=>?_⟩;simp only[Dv.cmD_eq,Dv.cmD_ne,Dv.cmD_lt,Dv.cmD_le,Dv.cmD_gt,Dv.cmD_ge,Dv.cmD_in,Dv.cmD_ni,Dv.cmD_it,Dv.cmD_nt] at q;by_cases hz:(decide (Dv.depthD d<=9)&&decide (Dv.depthD d'<=9))=true
 ·rw[if_pos hz] at q
  simp only[wq,decide_eq_true_eq] at hz;cases he:Dv.eqD d d' with
  | none=>rw[he] at q;exact Zf q
  | some b=>
   rw[he] at q;exact⟨d,d',b,rx.same e.vh,ry.same e.vh,hz.1,hz.2,he,Ok.at (d:=.bl b) (fr:=true) q e aZ rfl⟩
 ·rw[if_neg hz] at q;exact Zf q
theorem uR:OpS C (compareOp .NotEq) (Dv.cmD .ne):=by
 refine⟨_,tq C.un,λ x y d d' H Hv H1 Hv1 W Q e rx ry q=>?_⟩;simp only[Dv.cmD_eq,Dv.cmD_ne,Dv.cmD_lt,Dv.cmD_le,Dv.cmD_gt,Dv.cmD_ge,Dv.cmD_in,Dv.cmD_ni,Dv.cmD_it,Dv.cmD_nt] at q;by_cases hz:(decide (Dv.depthD d<=9)&&decide (Dv.depthD d'<=9))=true
 ·rw[if_pos hz] at q
  simp only[wq,decide_eq_true_eq] at hz;cases he:Dv.eqD d d' with
  | none=>rw[he] at q;exact Zf q
  | some b=>
   rw[he] at q;exact⟨d,d',b,rx.same e.vh,ry.same e.vh,hz.1,hz.2,he,Ok.at (d:=.bl (!b)) (fr:=true) q e aZ rfl⟩
 ·rw[if_neg hz] at q;exact Zf q
theorem iz:∀ (i:Int) (ds:List D) (vs:List V) (b:Bool) {K:Av} {H:Hp},Dv.inD i ds=some b->RpL K H ds vs->vs.all da=true/\inV (.int i) vs=b
 | i,[],vs,b,K,H,h,r=>by
  unfold RpL at r;subst r;simp[Dv.inD] at h;subst h;exact⟨rfl,rfl⟩
 | i,d::ds,vs,b,K,H,h,r=>by
  unfold RpL at r;obtain⟨v,ws,rfl,h1,h2⟩:=r;cases d with
  | int j=>
   simp only[Dv.inD,xt] at h;obtain⟨c,hc,rfl⟩:=h;obtain⟨z1,z2⟩:=iz i ds ws c hc h2;unfold Rp at h1;subst h1;refine⟨by simp[da,z1],?_⟩;have:inV (.int i) (.int j::ws)=(eqV (.int j) (.int i) || inV (.int i) ws):=rfl;rw[this,z2];show ((j == i) || c)=(decide (j=i) || c)
   rw[yu]
  | _=>simp[Dv.inD] at h
theorem vz:OpS C (compareOp .In) (Dv.cmD .isin):=by
 refine⟨_,m6,λ x y d d' H Hv H1 Hv1 W Q e rx ry q=>?_⟩;cases d with
 | int i=>
  cases d' with
  | lst ds=>
   simp only[Dv.cmD_eq,Dv.cmD_ne,Dv.cmD_lt,Dv.cmD_le,Dv.cmD_gt,Dv.cmD_ge,Dv.cmD_in,Dv.cmD_ni,Dv.cmD_it,Dv.cmD_nt] at q;cases hi:Dv.inD i ds with
   | none=>rw[hi] at q;exact Zf q
   | some b=>
    rw[hi] at q;unfold Rp at rx ry;subst rx;obtain⟨l,vs,rfl,h1,h2⟩:=ry;obtain⟨z1,z2⟩:=iz i ds vs b hi h2;refine⟨l,vs,rfl,.inl (h1.same e.vh).seq,rfl,z1,?_⟩;rw[z2];exact Ok.at (d:=.bl b) (fr:=true) q e aZ rfl
  | _=>exact Zf q
 | _=>exact Zf q
theorem ip {ds:List D}{vs:List V}{K:Av}{H:Hp}{i:Int}{d:D}(r:RpL K H ds vs)(h:Dv.at? ds i=some d):∃ v,atI vs i=some v/\Rp K H d v:=by
 unfold Dv.at? at h;unfold atI ixN;have hl:=r.length;by_cases h0:0<=i
 ·rw[if_pos h0] at h
  obtain⟨v,h1,h2⟩:=r.get h;have hlt:i.toNat<vs.length:=(List.getElem?_eq_some_iff.mp h1).1;refine⟨v,?_,h2⟩;rw[if_pos h0,if_pos ⋯];exact h1
 ·rw[if_neg h0] at h
  by_cases h1:-(ds.length:Int)<=i
  ·rw[if_pos h1] at h
   obtain⟨v,h2,h3⟩:=r.get h;refine⟨v,?_,h3⟩;rw[if_neg h0,if_pos ⋯];rw[hl];exact h2
  ·rw[if_neg h1] at h;cases h
theorem lh {K:Av}{H Hv H2 Hv2:Hp}{ds:List D}{v:V}{fr:Bool}{k:Int}{d:D}(x:Ext Hv H Hv2 H2)(hk:Dv.at? ds k=some d):
  (Rp K Hv2 (.lst ds) v->(fr=true->Rp [] (Hnew H H2) (.lst ds) v)->∃ l vs u,v=.ref l/\SqX K H2 l vs/\atI vs k=some u/\Rp K Hv2 d u/\((fr || Dv.scal d)=true->Rp [] (Hnew H H2) d u)) /\
  (Rp K Hv2 (.tup ds) v->(fr=true->Rp [] (Hnew H H2) (.tup ds) v)->∃ l vs u,v=.ref l/\Rd H2 l (.tup vs)/\atI vs k=some u/\Rp K Hv2 d u/\((fr || Dv.scal d)=true->Rp [] (Hnew H H2) d u)):=by
 constructor
 ·intro rp n
  cases fr with
  | true=>
   have rn:=n rfl;unfold Rp at rn;obtain⟨l,vs,rfl,h1,h2⟩:=rn;obtain⟨u,h3,h4⟩:=ip h2 hk;refine⟨l,vs,u,rfl,?_,h3,(Rp.frag h4).same x.news,λ _=>h4⟩
   rcases h1 with h1|⟨its,n,e,_⟩
   ·exact .inl (Rd.same Hnew.sub h1)
   ·simp at e
  | false=>
   unfold Rp at rp;obtain⟨l,vs,rfl,h1,h2⟩:=rp;obtain⟨u,h3,h4⟩:=ip h2 hk;exact⟨l,vs,u,rfl,h1.same x.vh,h3,h4,λ z=>h4.scal (by simpa using z)⟩
 ·intro rp n
  cases fr with
  | true=>
   have rn:=n rfl;unfold Rp at rn;obtain⟨l,vs,rfl,h1,h2⟩:=rn;obtain⟨u,h3,h4⟩:=ip h2 hk;exact⟨l,vs,u,rfl,Rd.same Hnew.sub h1,h3,(Rp.frag h4).same x.news,λ _=>h4⟩
  | false=>
   unfold Rp at rp;obtain⟨l,vs,rfl,h1,h2⟩:=rp;obtain⟨u,h3,h4⟩:=ip h2 hk;exact⟨l,vs,u,rfl,Rd.same x.vh h1,h3,h4,λ z=>h4.scal (by simpa using z)⟩
theorem aL (ha:SE C a f)(hb:SE C b g)(hs:autoParam (iM b) ZI._auto_1):SE C (.Subscript a b pos) (Dv.eIx f g):=by
 obtain⟨ta,pa,qa⟩:=ha;obtain⟨tb,pb,qb⟩:=hb;refine⟨_,rT (ix_list.or oV) pa pb hs,λ σ H Hv ρ Q e s w=>?_⟩;refine qa.step e (.refl s) w λ v d fr Hv1 H1 _ x1 _ rp1 n1 q1=>qb.step e x1 q1 λ v2 d2 fr2 Hv2 H2 _ x2 y2 rp2 _ q2=>?_
 have rp:=rp1.same y2.vv;have rn:fr=true->Rp [] (Hnew H H2) d v:=λ z=>(n1 z).same (Hnew.mono (.refl _) y2.hh)
 cases d2 with
 | int k=>
  unfold Rp at rp2;cases d with
  | lst ds=>
   have q3:Ok C.X.K Hv H (C.W σ) C.cls (match Dv.at? ds k with|some d=>.ok d (fr || Dv.scal d)|none=>.bad) Q:=q2;cases hk:Dv.at? ds k with
   | none=>rw[hk] at q3;exact Zf q3
   | some d=>
    rw[hk] at q3;obtain⟨l,vs,u,e1,h1,h2,h3,h4⟩:=(lh (fr:=fr) x2 hk).1 rp rn;exact .inl ⟨l,vs,k,u,e1,rp2,h1.seq,h2,q3 u Hv2 H2 x2 h3 h4⟩
  | tup ds=>
   have q3:Ok C.X.K Hv H (C.W σ) C.cls (match Dv.at? ds k with|some d=>.ok d (fr || Dv.scal d)|none=>.bad) Q:=q2;cases hk:Dv.at? ds k with
   | none=>rw[hk] at q3;exact Zf q3
   | some d=>
    rw[hk] at q3;obtain⟨l,vs,u,e1,h1,h2,h3,h4⟩:=(lh (fr:=fr) x2 hk).2 rp rn;exact .inr ⟨l,vs,k,u,e1,rp2,.inl h1,h2,q3 u Hv2 H2 x2 h3 h4⟩
  | _=>exact Zf q2
 | _=>cases d <;>exact Zf q2
def C1S (C:Ctx)(fv:Value)(F:D->Bool->R):Prop:=
 ∃ r,de C.X fv r/\∀ x d fr H Hv H1 Hv1 W Q,Ext Hv H Hv1 H1->Rp C.X.K Hv1 d x->(fr=true->Rp [] (Hnew H H1) d x)->Ok C.X.K Hv H W C.cls (F d fr) Q->r [x] H1 Q
theorem lr {x:Str}{p:Pos}{id:String}{F:D->Bool->R}(o:C1S C (.builtin id) F)(hg:Gl C.X x)(hm:C.X.mg x=none)(hv:bootBuiltins x=some (.builtin id))(ha:SE C a f)
  (hn:autoParam (x≠"__name__") ZC._auto_1) (hdb:autoParam ((x == ("__debug__":Str))=false) ZC._auto_1) (he:autoParam (starEach [a] C.X.env=[(false,eval a C.X.env)]) ZE._auto_1):SE C (.Call (.Name x p) [a] [] pos) (Dv.eB1 F f):=by
 obtain⟨r,ho,hr⟩:=o;obtain⟨t,pa,qa⟩:=ha;refine⟨_,jZ ho hg hm hv (aH pa bD he) hn hdb he rfl,λ σ H Hv ρ Q e s w=>?_⟩;exact qa.step e (.refl s) w λ v d fr Hv1 H1 _ x1 _ rp1 n1 q1=>hr v d fr H Hv H1 Hv1 _ Q x1 rp1 n1 q1
theorem rL {x:Str}{p:Pos}{id:String}{F:D->Bool->R}(o:C1S C (.type id) F)(hg:Gl C.X x)(hm:C.X.mg x=none)(hv:bootBuiltins x=some (.type id))(ha:SE C a f)
  (hn:autoParam (x≠"__name__") ZC._auto_1) (hdb:autoParam ((x == ("__debug__":Str))=false) ZC._auto_1) (he:autoParam (starEach [a] C.X.env=[(false,eval a C.X.env)]) ZE._auto_1):SE C (.Call (.Name x p) [a] [] pos) (Dv.eB1 F f):=by
 obtain⟨r,ho,hr⟩:=o;obtain⟨t,pa,qa⟩:=ha;refine⟨_,gr ho hg hm hv (aH pa bD he) hn hdb he rfl,λ σ H Hv ρ Q e s w=>?_⟩;exact qa.step e (.refl s) w λ v d fr Hv1 H1 _ x1 _ rp1 n1 q1=>hr v d fr H Hv H1 Hv1 _ Q x1 rp1 n1 q1
theorem t8:C1S C (.builtin "len") Dv.lenD:=by
 refine⟨_,iH,λ x d fr H Hv H1 Hv1 W Q e rx n q=>?_⟩;cases d with
 | lst ds=>
  unfold Rp at rx;obtain⟨l,vs,rfl,h1,h2⟩:=rx;refine⟨l,vs,rfl,.inl (h1.same e.vh).seq,?_⟩;rw[h2.length];exact Ok.at (d:=.int ds.length) (fr:=true) q e aV rfl
 | tup ds=>
  unfold Rp at rx;obtain⟨l,vs,rfl,h1,h2⟩:=rx;refine⟨l,vs,rfl,.inr (.inl (Rd.same e.vh h1)),?_⟩;rw[h2.length];exact Ok.at (d:=.int ds.length) (fr:=true) q e aV rfl
 | _=>exact Zf q
theorem pQ:C1S C (.type "list") Dv.listD:=by
 refine⟨_,dD,λ x d fr H Hv H1 Hv1 W Q e rx n q=>?_⟩;cases d with
 | lst ds=>
  cases fr with
  | true=>
   have rn:=n rfl;unfold Rp at rn;obtain⟨l,vs,rfl,h1,h2⟩:=rn;have h1':SqX C.X.K H1 l vs:=by
    rcases h1 with h1|⟨its,n,e,_⟩
    ·exact .inl (Rd.same Hnew.sub h1)
    ·simp at e
   exact⟨l,vs,rfl,.inl h1'.seq,λ p hp=>Ok.newL q e ((RpL.frag h2).same e.news) (λ _=>h2) p hp⟩
  | false=>
   unfold Rp at rx;obtain⟨l,vs,rfl,h1,h2⟩:=rx;exact⟨l,vs,rfl,.inl (h1.same e.vh).seq,λ p hp=>Ok.newL q e h2 (λ z=>h2.flat (by simpa using z)) p hp⟩
 | tup ds=>
  cases fr with
  | true=>
   have rn:=n rfl;unfold Rp at rn;obtain⟨l,vs,rfl,h1,h2⟩:=rn;exact⟨l,vs,rfl,.inr (.inl (Rd.same Hnew.sub h1)),λ p hp=>Ok.newL q e ((RpL.frag h2).same e.news) (λ _=>h2) p hp⟩
  | false=>
   unfold Rp at rx;obtain⟨l,vs,rfl,h1,h2⟩:=rx;exact⟨l,vs,rfl,.inr (.inl (Rd.same e.vh h1)),λ p hp=>Ok.newL q e h2 (λ z=>h2.flat (by simpa using z)) p hp⟩
 | _=>exact Zf q
theorem bU (i:Int):∀ l:List Int,(Dv.ins i l).Perm (i::l)
 | []=>.refl _
 | j::r=>by
  unfold Dv.ins
  split
  ·exact .refl _
  ·exact((bU i r).cons j).trans (.swap i j r)
theorem ao:∀ l:List Int,(Dv.isort l).Perm l
 | []=>.refl _
 | i::r=>(bU i _).trans ((ao r).cons i)
theorem bV (i:Int):∀ l:List Int,l.Pairwise (·<=·)->(Dv.ins i l).Pairwise (·<=·)
 | [],_=>by simp[Dv.ins]
 | j::r,h=>by
  unfold Dv.ins
  split
  ·rename_i hij
   refine List.pairwise_cons.mpr ⟨λ x hx=>?_,h⟩
   rcases List.mem_cons.mp hx with rfl|hx
   ·exact hij
   ·exact wY hij ((List.pairwise_cons.mp h).1 x hx)
  ·rename_i hij
   refine List.pairwise_cons.mpr ⟨λ x hx=>?_,bV i r (List.pairwise_cons.mp h).2⟩
   rcases List.mem_cons.mp ((bU i r).mem_iff.mp hx) with rfl|hx
   ·omega
   ·exact(List.pairwise_cons.mp h).1 x hx
theorem aE:∀ l:List Int,(Dv.isort l).Pairwise (·<=·)
 | []=>.nil
 | i::r=>bV i _ (aE r)
theorem aO:∀ {a b:List Int},a.Perm b->a.Pairwise (·<=·)->b.Pairwise (·<=·)->a=b
 | [],b,p,_,_=>by simpa using p.symm.eq_nil
 | x::a,[],p,_,_=>absurd p.eq_nil (by simp)
 | x::a,y::b,p,ha,hb=>by
  have h1:=List.pairwise_cons.mp ha;have h2:=List.pairwise_cons.mp hb;have e:x=y:=by
   have hx:x∈y::b:=p.mem_iff.mp we;have hy:y∈x::a:=p.mem_iff.mpr we
   rcases List.mem_cons.mp hx with e|hx
   ·exact e
   rcases List.mem_cons.mp hy with e|hy
   ·exact e.symm
   exact Int.le_antisymm (h1.1 y hy) (h2.1 x hx)
  subst e;rw[aO ((List.perm_cons x).mp p) h1.2 h2.2]
theorem cE {vs:List Value}{ns:List Int}(h:IntsAre vs ns):Vals (ns.map V.int) vs:=by
 induction h with
 | nil=>exact .nil
 | cons n t _ ih=>exact .cons ⟨t,rfl⟩ ih
theorem jW {X:Cx}:de X (.builtin "sorted") (λ xs H Q=>∃ p ns,xs=[.ref p]/\SqX X.K H p (ns.map V.int)/\ns.length<64/\∀ l,H l=none->Q (.ref l) (upd H l (.lst ((Dv.isort ns).map V.int)))):=by
 intro pins s σ H xs us Q I r h;obtain⟨p,ns,rfl,hq,h64,q⟩:=h;obtain⟨u,rfl,rx⟩:=vals1 r;cases rx;obtain⟨its,n,rv,e,z⟩:=Inv.listX I hq;have hi:=intsAre_of rv;have hl:=rv.length;rw[wj] at hl;refine sorted_ints (ns:=ns) ⟨_,e,rfl,n,rfl⟩ hi ⋯ λ out ns' a1 a2 a3=>?_
 have e1:ns'=Dv.isort ns:=aO (a2.trans (ao ns).symm) a3 (aE ns);subst e1;obtain⟨ep,hat⟩:=sortedAll_at s.heap its out;have hf:H (s.heap.objs.size+1)=none:=I.hok.fresh (yG _);refine⟨.ref (s.heap.objs.size+1),_,I.laid (t':=s.toks) (o:=.lst ((Dv.isort ns).map V.int)) (λ b u q=>sortedAll_old q) (yG _) ?_,rfl,q _ hf⟩;refine⟨?_,out.toList,ep,cE a1,by simpa[seqObj] using hat⟩;rw[wj,(ao ns).length_eq];rw[A2];omega
theorem nk:C1S C (.builtin "sorted") Dv.sortedD:=by
 refine⟨_,jW,λ x d fr H Hv H1 Hv1 W Q e rx n q=>?_⟩;cases d with
 | lst ds=>
  simp only[Dv.sortedD] at q;cases hi:Dv.intsOf ds with
  | none=>rw[hi] at q;exact Zf q
  | some ns=>
   rw[hi] at q;by_cases h64:ns.length<64
   ·simp only[h64,if_true] at q
    unfold Rp at rx;obtain⟨l,vs,rfl,h1,h2⟩:=rx;have e1:=RpL.ints hi h2;subst e1;exact⟨l,ns,rfl,h1.same e.vh,h64,λ p hp=>Ok.newL q e (RpL.ofInts _) (λ _=>RpL.ofInts _) p hp⟩
   ·simp only[h64,if_false] at q
    exact Zf q
 | _=>exact Zf q
end
open Dv (D R RL EE EL EI RI Sl Out SS)
def Nd (K:Av)(Hc:Hp):D->HO->Prop
 | .lst ds,o=>∃ vs,o=.lst vs/\RpL K Hc ds vs
 | .dct ks ds,o=>∃ vs,o=.dK ((ks.map Sum.inl).zip vs)/\ks.length=ds.length/\RpL K Hc ds vs
 | _,_=>False
theorem Nd.same {K:Av}{H H':Hp}{d:D}{o:HO}(e:Same H H')(h:Nd K H d o):Nd K H' d o:=by
 cases d with
 | lst ds=>obtain⟨vs,h1,h2⟩:=h;exact⟨vs,h1,h2.same e⟩
 | dct ks ds=>obtain⟨vs,h1,h2,h3⟩:=h;exact⟨vs,h1,h2,h3.same e⟩
 | _=>exact Zf h
theorem Nd.rp {K:Av}{H:Hp}{d:D}{o:HO}{a:Addr}(h:Nd K H d o)(ha:H a=some o):Rp K H d (.ref a):=by
 cases d with
 | lst ds=>obtain⟨vs,rfl,h2⟩:=h;unfold Rp;exact⟨a,vs,rfl,SqX.of ha,h2⟩
 | dct ks ds=>obtain⟨vs,rfl,h2,h3⟩:=h;unfold Rp;exact⟨a,vs,rfl,h2,.inl ha,h3⟩
 | _=>exact Zf h
theorem Nd.nf {K:Av}{H:Hp}{d:D}{o:HO}(h:Nd K H d o)(q:Obj)(u:HO):o≠.frz q u:=by
 cases d with
 | lst ds=>obtain⟨vs,rfl,h2⟩:=h;intro z;cases z
 | dct ks ds=>obtain⟨vs,rfl,h2,h3⟩:=h;intro z;cases z
 | _=>exact Zf h
def Jk (R:Hp)(n m:Nat)(v:V):Prop:=∃ t vs,v=.ref t/\(R t=some (.lst vs)\/R t=some (.tup vs))/\vs.length=n/\∀ x∈vs,∃ b ws,x=.ref b/\b≠t/\R b=some (.lst ws)/\ws.length<=m
structure RelC (K:Av)(Hv₀ H₀ Hc:Hp)(O:Nat->Hp)(st:Dv.St)(σ:St)(H:Hp):Prop where
 h0:Same H₀ H
 vc:Same Hv₀ Hc
 ch:Same Hc H
 new:∀ b o,Hc b=some o->Hv₀ b=none->H₀ b=none
 nf:∀ b o u,H₀ b=none->H b≠some (.frz o u)
 len:st.length=σ.length
 sh:∀ (i:Nat) (d:D),st[i]?=some (Sl.sh d)->∃ v,σ[i]?=some (some v)/\Rp K Hc d v
 ow:∀ (i:Nat) (d:D),st[i]?=some (Sl.ow d)->∃ (a:Addr) (o:HO),σ[i]?=some (some (V.ref a))/\O i a=some o/\Nd K Hc d o
 dp:∀ (i:Nat) (d:D),st[i]?=some (Sl.dp d)->∃ v,σ[i]?=some (some v)/\Rp [] (O i) d v
 jk:∀ (i n m:Nat),st[i]?=some (Sl.jk n m)->∃ v,σ[i]?=some (some v)/\Jk (O i) n m v
 oh:∀ (i:Nat) (b:Addr) (o:HO),O i b=some o->H b=some o/\Hc b=none/\H₀ b=none
 one:∀ (i j:Nat) (b:Addr) (o o':HO),O i b=some o->O j b=some o'->i=j
def Rel (K:Av)(Hv₀ H₀:Hp)(st:Dv.St)(σ:St)(H:Hp):Prop:=∃ Hc O,RelC K Hv₀ H₀ Hc O st σ H
section
variable {K:Av}{Hv₀ H₀ Hc:Hp}{O:Nat->Hp}{st:Dv.St}{σ:St}{H:Hp}
theorem RelC.less {Hv1:Hp}(r:RelC K Hc H₀ Hv1 O st σ H)(vc:Same Hv₀ Hc)(new:∀ b o,Hc b=some o->Hv₀ b=none->H₀ b=none):RelC K Hv₀ H₀ Hv1 O st σ H:=
 ⟨r.h0,vc.trans r.vc,r.ch,λ b o h n=>(by
  cases q:Hc b with
  | some u=>exact new b u q n
  | none=>exact r.new b o h q),r.nf,r.len,r.sh,r.ow,r.dp,r.jk,r.oh,r.one⟩
def pR (O:Nat->Hp)(b:Addr):Prop:=∃ (i:Nat) (o:HO),O i b=some o
open Classical in
def dv (Hc:Hp)(O:Nat->Hp)(H:Hp):Hp:=λ b=>if pR O b then H b else Hc b
theorem RelC.cAll (r:RelC K Hv₀ H₀ Hc O st σ H):Same Hc (dv Hc O H):=λ b o h=>by
 unfold dv;by_cases q:pR O b
 ·obtain⟨i,u,h1⟩:=q
  rw[(r.oh i b u h1).2.1] at h;cases h
 ·rw[if_neg q];exact h
theorem RelC.oAll (r:RelC K Hv₀ H₀ Hc O st σ H)(i:Nat):Same (O i) (dv Hc O H):=λ b o h=>by
 unfold dv;rw[if_pos ⟨i,o,h⟩];exact(r.oh i b o h).1
theorem RelC.allH (r:RelC K Hv₀ H₀ Hc O st σ H):Same (dv Hc O H) H:=λ b o h=>by
 unfold dv at h;by_cases q:pR O b
 ·rw[if_pos q] at h;exact h
 ·rw[if_neg q] at h;exact r.ch b o h
theorem RelC.allNew (r:RelC K Hv₀ H₀ Hc O st σ H):∀ b o,dv Hc O H b=some o->Hv₀ b=none->H₀ b=none:=λ b o h n=>by
 unfold dv at h;by_cases q:pR O b
 ·obtain⟨i,u,h1⟩:=q
  exact(r.oh i b u h1).2.2
 ·rw[if_neg q] at h;exact r.new b o h n
theorem pZ {i:Nat}{d:D}(h:(Dv.all st)[i]?=some (some d)):st[i]?=some (.sh d)\/st[i]?=some (.ow d)\/st[i]?=some (.dp d):=by
 unfold Dv.all at h;rw[wH] at h;cases q:st[i]? with
 | none=>rw[q] at h;cases h
 | some s=>
  rw[q] at h;cases s with
  | no=>cases h
  | sh x=>cases h;exact .inl rfl
  | ow x=>cases h;exact .inr (.inl rfl)
  | dp x=>cases h;exact .inr (.inr rfl)
  | jk n m=>cases h
theorem get_open {i:Nat}{d:D}(h:(Dv.open_ st)[i]?=some (some d)):st[i]?=some (.sh d):=by
 unfold Dv.open_ at h;rw[wH] at h;cases q:st[i]? with
 | none=>rw[q] at h;cases h
 | some s=>
  rw[q] at h;cases s with
  | sh x=>cases h;rfl
  | _=>cases h
theorem RelC.envAll (r:RelC K Hv₀ H₀ Hc O st σ H):EnvR K (dv Hc O H) (Dv.all st) σ:=λ i d h=>by
 rcases pZ h with h|h|h
 ·obtain⟨v,h1,h2⟩:=r.sh i d h
  exact⟨v,h1,h2.same r.cAll⟩
 ·obtain⟨a,o,h1,h2,h3⟩:=r.ow i d h
  exact⟨_,h1,(h3.same r.cAll).rp (r.oAll i a o h2)⟩
 ·obtain⟨v,h1,h2⟩:=r.dp i d h
  exact⟨v,h1,Rp.frag (h2.same (r.oAll i))⟩
theorem RelC.envOpen (r:RelC K Hv₀ H₀ Hc O st σ H):EnvR K Hc (Dv.open_ st) σ:=λ i d h=>r.sh i d (get_open h)
theorem RelC.grow {H':Hp}(r:RelC K Hv₀ H₀ Hc O st σ H)(hh:Same H H')(nf:∀ b o u,H b=none->H' b≠some (.frz o u)):RelC K Hv₀ H₀ Hc O st σ H':=
 ⟨r.h0.trans hh,r.vc,r.ch.trans hh,r.new,λ b o u h=>(by
  cases q:H b with
  | none=>exact nf b o u q
  | some w=>rw[hh b w q,<- q];exact r.nf b o u h),r.len,r.sh,r.ow,r.dp,r.jk,λ i b o h=>⟨hh _ _ (r.oh i b o h).1,(r.oh i b o h).2⟩,r.one⟩
theorem RelC.growC {Hc' H':Hp}(r:RelC K Hv₀ H₀ Hc O st σ H)(x:Ext Hc H Hc' H'):RelC K Hv₀ H₀ Hc' O st σ H':=by
 have g:=r.grow x.hh x.nf;refine⟨g.h0,r.vc.trans x.vv,x.vh,λ b o h n=>?_,g.nf,g.len,λ i d h=>?_,λ i d h=>?_,r.dp,r.jk,λ i b o h=>?_,g.one⟩
 ·cases q:Hc b with
  | some u=>exact r.new b u q n
  | none=>exact r.h0.free (x.new b o h q)
 ·obtain⟨v,h1,h2⟩:=r.sh i d h
  exact⟨v,h1,h2.same x.vv⟩
 ·obtain⟨a,o,h1,h2,h3⟩:=r.ow i d h
  exact⟨a,o,h1,h2,h3.same x.vv⟩
 ·obtain⟨h1,h2,h3⟩:=r.oh i b o h
  refine⟨x.hh _ _ h1,?_,h3⟩;cases q:Hc' b with
  | none=>rfl
  | some u=>
   have:=x.new b u q h2;rw[this] at h1;cases h1
theorem b9 {α:Type}{l:List α}{i j:Nat}{x y:α}(h:(l.set i x)[j]?=some y):(j=i/\y=x/\i<l.length)\/(j≠i/\l[j]?=some y):=by
 by_cases e:j=i
 ·subst e
  by_cases hl:j<l.length
  ·rw[wV hl] at h
   exact .inl ⟨rfl,(Option.some.inj h).symm,hl⟩
  ·rw[xQ (by rw[w4];omega)] at h
   cases h
 ·rw[wF (Ne.symm e)] at h
  exact .inr ⟨e,h⟩
theorem RelC.setAny {i:Nat}{s:Sl}{v:Option V}{H':Hp}{O':Nat->Hp}(r:RelC K Hv₀ H₀ Hc O st σ H)(h0:Same H₀ H')(ch:Same Hc H')(nf:∀ b o u,H₀ b=none->H' b≠some (.frz o u))(hO:∀ j,j≠i->O' j=O j)
  (sh:∀ d,s=.sh d->∃ w,v=some w/\Rp K Hc d w) (ow:∀ d,s=.ow d->∃ a o,v=some (.ref a)/\O' i a=some o/\Nd K Hc d o) (dp:∀ d,s=.dp d->∃ w,v=some w/\Rp [] (O' i) d w) (jk:∀ n m,s=.jk n m->∃ w,v=some w/\Jk (O' i) n m w)
  (oh:∀ j b o,O' j b=some o->H' b=some o/\Hc b=none/\H₀ b=none) (one:∀ j b o o',O' i b=some o->j≠i->O j b≠some o'):RelC K Hv₀ H₀ Hc O' (st.set i s) (σ.set i v) H':=by
 have at_:∀ {j:Nat},j=i->i<st.length->(σ.set i v)[j]?=some v:=λ {j} e hl=>by subst e;exact wV (by rw[<- r.len];exact hl)
 have no:∀ {j:Nat},j≠i->(σ.set i v)[j]?=σ[j]?:=λ hj=>wF (Ne.symm hj)
 refine⟨h0,r.vc,ch,r.new,nf,by rw[w4,w4];exact r.len,λ j x h=>?_,λ j x h=>?_,λ j x h=>?_,λ j n m h=>?_,oh,λ j k b o o' h1 h2=>?_⟩
 ·rcases b9 h with ⟨e,e2,hl⟩|⟨hj,h⟩
  ·obtain⟨w,e3,rp⟩:=sh x e2.symm
   exact⟨w,by rw[at_ e hl,e3],rp⟩
  ·obtain⟨u,h1,h2⟩:=r.sh j x h
   exact⟨u,by rw[no hj];exact h1,h2⟩
 ·rcases b9 h with ⟨e,e2,hl⟩|⟨hj,h⟩
  ·obtain⟨a,o,e3,e4,rp⟩:=ow x e2.symm
   exact⟨a,o,by rw[at_ e hl,e3],by rw[e];exact e4,rp⟩
  ·obtain⟨a,o,h1,h2,h3⟩:=r.ow j x h
   exact⟨a,o,by rw[no hj];exact h1,by rw[hO j hj];exact h2,h3⟩
 ·rcases b9 h with ⟨e,e2,hl⟩|⟨hj,h⟩
  ·obtain⟨w,e3,rp⟩:=dp x e2.symm
   exact⟨w,by rw[at_ e hl,e3],by rw[e];exact rp⟩
  ·obtain⟨u,h1,h2⟩:=r.dp j x h
   exact⟨u,by rw[no hj];exact h1,by rw[hO j hj];exact h2⟩
 ·rcases b9 h with ⟨e,e2,hl⟩|⟨hj,h⟩
  ·obtain⟨w,e3,rp⟩:=jk n m e2.symm
   exact⟨w,by rw[at_ e hl,e3],by rw[e];exact rp⟩
  ·obtain⟨u,h1,h2⟩:=r.jk j n m h
   exact⟨u,by rw[no hj];exact h1,by rw[hO j hj];exact h2⟩
 ·by_cases e1:j=i
  ·by_cases e2:k=i
   ·rw[e1,e2]
   ·rw[e1] at h1;rw[hO k e2] at h2;exact absurd h2 (one k b o o' h1 e2)
  ·by_cases e2:k=i
   ·rw[e2] at h2;rw[hO j e1] at h1;exact absurd h1 (one j b o' o h2 e1)
   ·rw[hO j e1] at h1;rw[hO k e2] at h2;exact r.one j k b o o' h1 h2
theorem RelC.setSh {i:Nat}{d:D}{v:V}(r:RelC K Hv₀ H₀ Hc O st σ H)(rp:Rp K Hc d v):RelC K Hv₀ H₀ Hc O (st.set i (.sh d)) (σ.set i (some v)) H:=
 r.setAny r.h0 r.ch r.nf (λ _ _=>rfl) (λ x e=>by cases e;exact⟨v,rfl,rp⟩) (λ x e=>nomatch e) (λ x e=>nomatch e) (λ n m e=>nomatch e) r.oh λ j b o o' h hj h2=>hj (r.one j i b o' o h2 h)
def km (O:Nat->Hp)(i:Nat)(R:Hp):Nat->Hp:=λ j=>if j=i then R else O j
theorem aI {R:Hp}{i:Nat}:km O i R i=R:=if_pos rfl
theorem bh {R:Hp}{i j:Nat}(h:j≠i):km O i R j=O j:=if_neg h
def only (a:Addr)(o:HO):Hp:=λ b=>if b=a then some o else none
theorem mI {a:Addr}{o:HO}:only a o a=some o:=if_pos rfl
theorem lH {a b:Addr}{o u:HO}(h:only a o b=some u):b=a/\u=o:=by
 unfold only at h;by_cases e:b=a
 ·rw[if_pos e] at h;exact⟨e,(Option.some.inj h).symm⟩
 ·rw[if_neg e] at h;cases h
theorem RelC.setOw {i:Nat}{d:D}{o:HO}{a:Addr}(r:RelC K Hv₀ H₀ Hc O st σ H)(ha:H a=some o)(hc:Hc a=none)(h0:H₀ a=none)(no:∀ j,j≠i->O j a=none)
  (nd:Nd K Hc d o):RelC K Hv₀ H₀ Hc (km O i (only a o)) (st.set i (.ow d)) (σ.set i (some (.ref a))) H:=
 r.setAny r.h0 r.ch r.nf (λ j hj=>bh hj) (λ x e=>nomatch e) (λ x e=>by cases e;exact⟨a,o,rfl,by rw[aI];exact mI,nd⟩) (λ x e=>nomatch e) (λ n m e=>nomatch e)
  (λ j b u h=>by
   by_cases hj:j=i
   ·rw[hj,aI] at h
    obtain⟨rfl,rfl⟩:=lH h;exact⟨ha,hc,h0⟩
   ·rw[bh hj] at h;exact r.oh j b u h)
  λ j b u u' h hj h2=>by
   rw[aI] at h;obtain⟨rfl,rfl⟩:=lH h;rw[no j hj] at h2;cases h2
theorem RelC.setDp {i:Nat}{d:D}{v:V}{R:Hp}(r:RelC K Hv₀ H₀ Hc O st σ H)(hR:∀ b o,R b=some o->H b=some o/\Hc b=none/\H₀ b=none/\∀ j,j≠i->O j b=none)
  (rp:Rp [] R d v):RelC K Hv₀ H₀ Hc (km O i R) (st.set i (.dp d)) (σ.set i (some v)) H:=
 r.setAny r.h0 r.ch r.nf (λ j hj=>bh hj) (λ x e=>nomatch e) (λ x e=>nomatch e) (λ x e=>by cases e;exact⟨v,rfl,by rw[aI];exact rp⟩) (λ n m e=>nomatch e)
  (λ j b u h=>by
   by_cases hj:j=i
   ·rw[hj,aI] at h
    exact⟨(hR b u h).1,(hR b u h).2.1,(hR b u h).2.2.1⟩
   ·rw[bh hj] at h;exact r.oh j b u h)
  λ j b u u' h hj h2=>by
   rw[aI] at h;rw[(hR b u h).2.2.2 j hj] at h2;cases h2
theorem kQ {α:Type}{l:List α}{i:Nat}{x:α}(h:l[i]?=some x):l.set i x=l:=by
 refine yp λ j=>?_
 by_cases hj:j=i
 ·subst hj;rw[wV (List.getElem?_eq_some_iff.mp h).1,h]
 ·rw[wF (Ne.symm hj)]
theorem RelC.putAny {i:Nat}{s:Sl}{v:V}{a:Addr}{u o:HO}(r:RelC K Hv₀ H₀ Hc O st σ H)(hσ:σ[i]?=some (some v))(ha:O i a=some u)(ho:∀ q w,o≠.frz q w)
  (ow:∀ d,s=.ow d->v=.ref a/\Nd K Hc d o) (jk:∀ n m,s=.jk n m->Jk (upd (O i) a o) n m v) (hs:∀ d,s≠.sh d/\s≠.dp d):
  RelC K Hv₀ H₀ Hc (km O i (upd (O i) a o)) (st.set i s) σ (upd H a o):=by
 obtain⟨h1,h2,h3⟩:=r.oh i a u ha;have hset:σ.set i (some v)=σ:=kQ hσ;have key:=r.setAny (i:=i) (s:=s) (v:=some v) (H':=upd H a o) (O':=km O i (upd (O i) a o)) (λ b w h=>by rw[aq (au h h3)];exact r.h0 b w h) (λ b w h=>by rw[aq (au h h2)];exact r.ch b w h)
  (λ b q w h=>by
   by_cases hb:b=a
   ·subst hb;rw[ax];exact λ z=>ho q w (Option.some.inj z)
   ·rw[aq hb];exact r.nf b q w h)
  (λ j hj=>bh hj) (λ d e=>absurd e (hs d).1) (λ d e=>⟨a,o,by rw[(ow d e).1],by rw[aI,ax],(ow d e).2⟩) (λ d e=>absurd e (hs d).2) (λ n m e=>⟨v,rfl,by rw[aI];exact jk n m e⟩)
  (λ j b w h=>by
   by_cases hj:j=i
   ·rw[hj,aI] at h
    by_cases hb:b=a
    ·subst hb;rw[ax] at h ⊢;exact⟨h,h2,h3⟩
    ·rw[aq hb] at h ⊢;exact r.oh i b w h
   ·rw[bh hj] at h
    have hb:b≠a:=λ z=>hj (r.one j i b w u h (by rw[z];exact ha))
    rw[aq hb];exact r.oh j b w h)
  λ j b w w' h hj h4=>by
   rw[aI] at h;by_cases hb:b=a
   ·exact hj (r.one j i b w' u h4 (by rw[hb];exact ha))
   ·rw[aq hb] at h;exact hj (r.one j i b w' w h4 h)
 rw[hset] at key;exact key
theorem RelC.put {i:Nat}{d:D}{ds:List D}{ws:List V}{a:Addr}(r:RelC K Hv₀ H₀ Hc O st σ H)(hi:st[i]?=some (.ow d))(hσ:σ[i]?=some (some (.ref a)))(rp:RpL K Hc ds ws):
  ∃ O',RelC K Hv₀ H₀ Hc O' (st.set i (.ow (.lst ds))) σ (upd H a (.lst ws)):=by
 obtain⟨a',o,h1,h2,h3⟩:=r.ow i d hi;rw[hσ] at h1;cases h1;exact⟨_,r.putAny hσ h2 (by intro _ _ z;cases z) (λ x e=>by cases e;exact⟨rfl,ws,rfl,rp⟩) (λ n m e=>nomatch e) λ x=>⟨nofun,nofun⟩⟩
def cI (A B:Hp):Hp:=λ b=>match A b with
 | some o=>some o
 | none=>B b
theorem fq {A B:Hp}:Same A (cI A B):=λ b o h=>by unfold cI;rw[h]
theorem iQ {A B:Hp}(d:∀ b o,B b=some o->A b=none):Same B (cI A B):=λ b o h=>by unfold cI;rw[d b o h];exact h
theorem cL {A B:Hp}{b:Addr}{o:HO}(h:cI A B b=some o):A b=some o\/(A b=none/\B b=some o):=by
 unfold cI at h;cases q:A b with
 | some u=>rw[q] at h;exact .inl h
 | none=>rw[q] at h;exact .inr ⟨rfl,h⟩
theorem RelC.give1 {i:Nat}(r:RelC K Hv₀ H₀ Hc O st σ H):∃ Hc' O',Same Hc Hc'/\RelC K Hv₀ H₀ Hc' O' (st.set i ((st[i]?.getD .no).give)) σ H:=by
 cases hi:st[i]? with
 | none=>
  refine⟨Hc,O,.refl _,?_⟩;rw[List.set_eq_of_length_le (by have:=List.getElem?_eq_none_iff.mp hi;omega)];exact r
 | some s=>
  have hs:st.set i s=st:=kQ hi;have key:∀ (d:D) (v:V),σ[i]?=some (some v)->Rp K (cI Hc (O i)) d v->∃ Hc' O',Same Hc Hc'/\RelC K Hv₀ H₀ Hc' O' (st.set i (.sh d)) σ H:=λ d v hσ rp=>by
   have sm:Same Hc (cI Hc (O i)):=fq;have hset:σ.set i (some v)=σ:=kQ hσ;have r1:RelC K Hv₀ H₀ (cI Hc (O i)) (km O i λ _=>none) (st.set i .no) σ H:=by
    refine⟨r.h0,r.vc.trans sm,λ b o h=>?_,λ b o h n=>?_,r.nf,by rw[w4];exact r.len,λ j x h=>?_,λ j x h=>?_,λ j x h=>?_,λ j n m h=>?_,λ j b o h=>?_,λ j k b o o' h1 h2=>?_⟩
    ·rcases cL h with h|⟨_,h⟩
     ·exact r.ch b o h
     ·exact(r.oh i b o h).1
    ·rcases cL h with h|⟨_,h⟩
     ·exact r.new b o h n
     ·exact(r.oh i b o h).2.2
    ·rcases b9 h with ⟨_,e,_⟩|⟨hj,h⟩
     ·cases e
     ·obtain⟨u,h1,h2⟩:=r.sh j x h
      exact⟨u,h1,h2.same sm⟩
    ·rcases b9 h with ⟨_,e,_⟩|⟨hj,h⟩
     ·cases e
     ·obtain⟨a,o,h1,h2,h3⟩:=r.ow j x h
      exact⟨a,o,h1,by rw[bh hj];exact h2,h3.same sm⟩
    ·rcases b9 h with ⟨_,e,_⟩|⟨hj,h⟩
     ·cases e
     ·obtain⟨u,h1,h2⟩:=r.dp j x h
      exact⟨u,h1,by rw[bh hj];exact h2⟩
    ·rcases b9 h with ⟨_,e,_⟩|⟨hj,h⟩
     ·cases e
     ·obtain⟨u,h1,h2⟩:=r.jk j n m h
      exact⟨u,h1,by rw[bh hj];exact h2⟩
    ·by_cases hj:j=i
     ·rw[hj,aI] at h;cases h
     ·rw[bh hj] at h
      obtain⟨h1,h2,h3⟩:=r.oh j b o h;refine⟨h1,?_,h3⟩;cases q:cI Hc (O i) b with
      | none=>rfl
      | some u=>
       rcases cL q with q|⟨_,q⟩
       ·rw[h2] at q;cases q
       ·exact absurd (r.one j i b o u h q) hj
    ·by_cases hj:j=i
     ·rw[hj,aI] at h1;cases h1
     ·by_cases hk:k=i
      ·rw[hk,aI] at h2;cases h2
      ·rw[bh hj] at h1;rw[bh hk] at h2;exact r.one j k b o o' h1 h2
   have r2:=r1.setSh (i:=i) rp;rw[hset,Af] at r2;exact⟨_,_,sm,r2⟩
  cases s with
  | no=>exact⟨Hc,O,.refl _,by show RelC K Hv₀ H₀ Hc O (st.set i .no) σ H;rw[hs];exact r⟩
  | sh d=>exact⟨Hc,O,.refl _,by show RelC K Hv₀ H₀ Hc O (st.set i (.sh d)) σ H;rw[hs];exact r⟩
  | jk n m=>exact⟨Hc,O,.refl _,by show RelC K Hv₀ H₀ Hc O (st.set i (.jk n m)) σ H;rw[hs];exact r⟩
  | ow d=>
   obtain⟨a,o,h1,h2,h3⟩:=r.ow i d hi;exact key d _ h1 ((h3.same fq).rp (iQ (λ b o h=>(r.oh i b o h).2.1) a o h2))
  | dp d=>
   obtain⟨v,h1,h2⟩:=r.dp i d hi;exact key d v h1 (Rp.frag (h2.same (iQ λ b o h=>(r.oh i b o h).2.1)))
theorem RelC.give:∀ (is:List Nat) {st:Dv.St} {Hc:Hp} {O:Nat->Hp},RelC K Hv₀ H₀ Hc O st σ H->∃ Hc' O',Same Hc Hc'/\RelC K Hv₀ H₀ Hc' O' (Dv.give is st) σ H
 | [],st,Hc,O,r=>⟨Hc,O,.refl _,r⟩
 | i::is,st,Hc,O,r=>by
  obtain⟨Hc1,O1,s1,r1⟩:=r.give1 (i:=i);obtain⟨Hc2,O2,s2,r2⟩:=RelC.give is r1;exact⟨Hc2,O2,s1.trans s2,r2⟩
end
def OkS (C:Ctx)(Hv₀ H₀:Hp)(E:Ends)(o:Out):Prop:=match o with
 | .nx st=>∀ σ' H',Rel C.X.K Hv₀ H₀ st σ' H'->E.nx σ' H'
 | .ret d nw=>∀ v Hv' H',Ext Hv₀ H₀ Hv' H'->Rp C.X.K Hv' d v->(nw=true->Rp [] (Hnew H₀ H') d v)->E.rt v H'
 | .brk st=>∀ σ' H',Rel C.X.K Hv₀ H₀ st σ' H'->E.bk σ' H'
 | .cont st=>∀ σ' H',Rel C.X.K Hv₀ H₀ st σ' H'->E.ct σ' H'
 | .exc c st=>∀ σ' H',Rel C.X.K Hv₀ H₀ st σ' H'->C.W σ' (C.cls c) none H'
 | .bad=>False
def sx (C:Ctx)(t:TS)(f:SS):Prop:=∀ Hv₀ H₀ E σ H st,Rel C.X.K Hv₀ H₀ st σ H->OkS C Hv₀ H₀ E (f st)->t E σ H
def SSt (C:Ctx)(s:Stmt)(f:SS):Prop:=∃ t:TS,PS C.X s t/\sx C t f
def SSs (C:Ctx)(ss:List Stmt)(f:SS):Prop:=∃ t:TS,PSs C.X ss t/\sx C t f
section
variable {C:Ctx}{a b c:Expr}{e:Expr}{f g h:EE}{F G:SS}{s:Stmt}{ss:List Stmt}{pos pos':Pos}{E:Ends}
theorem ay:SSs C [] Dv.sNil:=⟨_,qL,λ Hv₀ H₀ E σ H st r q=>q σ H r⟩
theorem ag (h1:SSt C s F)(h2:SSs C ss G):SSs C (s::ss) (Dv.sCons F G):=by
 obtain⟨t,p,q⟩:=h1;obtain⟨u,p2,q2⟩:=h2;refine⟨_,fB p p2,λ Hv₀ H₀ E σ H st r w=>?_⟩;refine q Hv₀ H₀ { E with nx:=u E } σ H st r ?_
 have w':OkS C Hv₀ H₀ E ((F st).bind G):=w;cases hf:F st with
 | nx st'=>rw[hf] at w';exact λ σ' H' r'=>q2 Hv₀ H₀ E σ' H' st' r' w'
 | ret d nw=>rw[hf] at w';exact w'
 | brk st=>rw[hf] at w';exact w'
 | cont st=>rw[hf] at w';exact w'
 | exc c st=>rw[hf] at w';exact w'
 | bad=>rw[hf] at w';exact w'
theorem aj (h1:SSt C s F):SSs C [s] F:=by
 obtain⟨t,p,q⟩:=h1;exact⟨t,lY p,q⟩
theorem Tak.all {t:TE}(q:Tak C t f){Hv₀ H₀ Hc H:Hp}{O:Nat->Hp}{σ:St}{st:Dv.St}(r:RelC C.X.K Hv₀ H₀ Hc O st σ H){T:VK}
  (hx:∀ c,f (Dv.all st)=.exc c->∀ H',RelC C.X.K Hv₀ H₀ Hc O st σ H'->C.W σ (C.cls c) none H') (hb:f (Dv.all st)≠.bad)
  (ok:∀ d fr v Hv' H',f (Dv.all st)=.ok d fr->Ext (dv Hc O H) H Hv' H'->RelC C.X.K Hv₀ H₀ Hc O st σ H'->Rp C.X.K Hv' d v->(fr=true->Rp [] (Hnew H H') d v)->T v H'):t σ H T:=by
 refine q σ H (dv Hc O H) (Dv.all st) T r.envAll r.allH ?_
 cases hf:f (Dv.all st) with
 | bad=>exact absurd hf hb
 | exc c=>exact λ Hv' H' x=>hx c hf H' (r.grow x.hh x.nf)
 | ok d fr=>exact λ v Hv' H' x rp n=>ok d fr v Hv' H' hf x (r.grow x.hh x.nf) rp n
theorem Tak.open {t:TE}(q:Tak C t f){Hv₀ H₀ Hc H:Hp}{O:Nat->Hp}{σ:St}{st:Dv.St}(r:RelC C.X.K Hv₀ H₀ Hc O st σ H){T:VK}
  (hx:∀ c,f (Dv.open_ st)=.exc c->∀ Hc' H',Ext Hc H Hc' H'->C.W σ (C.cls c) none H') (hb:f (Dv.open_ st)≠.bad)
  (ok:∀ d fr v Hc' H',f (Dv.open_ st)=.ok d fr->Ext Hc H Hc' H'->RelC C.X.K Hv₀ H₀ Hc' O st σ H'->Rp C.X.K Hc' d v->T v H'):t σ H T:=by
 refine q σ H Hc (Dv.open_ st) T r.envOpen r.ch ?_
 cases hf:f (Dv.open_ st) with
 | bad=>exact absurd hf hb
 | exc c=>exact λ Hv' H' x=>hx c hf Hv' H' x
 | ok d fr=>exact λ v Hv' H' x rp n=>ok d fr v Hv' H' hf x (r.growC x) rp
theorem iY (he:SE C e f)(hs:autoParam (swapsWith e none pos.line C.X.env=pure false) ZE._auto_1):SSt C (.Expr e pos) (Dv.sExpr f):=by
 obtain⟨t,p,q⟩:=he;refine⟨_,iK p hs,λ Hv₀ H₀ E σ H st ⟨Hc,O,r⟩ w=>?_⟩;unfold Dv.sExpr at w;refine q.all r (λ c hf H' r'=>?_) (λ hf=>?_) λ d fr v Hv' H' hf x r' rp n=>?_
 ·rw[hf] at w;exact w σ H' ⟨Hc,O,r'⟩
 ·rw[hf] at w;exact w
 ·rw[hf] at w;exact w σ H' ⟨Hc,O,r'⟩
theorem RelC.ret {Hv₀ H₀ Hc H Hv' H':Hp}{O:Nat->Hp}{σ:St}{st:Dv.St}{K:Av}(r:RelC K Hv₀ H₀ Hc O st σ H)(x:Ext (dv Hc O H) H Hv' H'):∃ Hv2,Ext Hv₀ H₀ Hv2 H'/\Same Hv' Hv2:=by
 have key:∀ b o,Hv' b=some o->Hv₀ b=none->H₀ b=none:=λ b o h n=>by
  cases q:dv Hc O H b with
  | some u=>exact r.allNew b u q n
  | none=>exact r.h0.free (x.new b o h q)
 refine⟨λ b=>match H₀ b with|none=>H' b|some _=>Hv' b,⟨r.h0.trans x.hh,λ b o h=>?_,λ b o h=>?_,λ b o h n=>?_,λ b h=>?_,λ b o u h=>?_⟩,λ b o h=>?_⟩
 ·have h2:Hv' b=some o:=x.vv _ _ (r.cAll _ _ (r.vc b o h))
  show (match H₀ b with|none=>H' b|some _=>Hv' b)=some o
  cases H₀ b with
  | none=>exact x.vh b o h2
  | some _=>exact h2
 ·have h':(match H₀ b with|none=>H' b|some _=>Hv' b)=some o:=h
  cases q:H₀ b with
  | none=>rw[q] at h';exact h'
  | some _=>rw[q] at h';exact x.vh b o h'
 ·have h':(match H₀ b with|none=>H' b|some _=>Hv' b)=some o:=h
  cases q:H₀ b with
  | none=>rfl
  | some u=>
   rw[q] at h';have:=key b o h' n;rw[q] at this;cases this
 ·show (match H₀ b with|none=>H' b|some _=>Hv' b)=H' b
  rw[h]
 ·exact(r.grow x.hh x.nf).nf b o u h
 ·show (match H₀ b with|none=>H' b|some _=>Hv' b)=some o
  cases H₀ b with
  | none=>exact x.vh b o h
  | some _=>exact h
theorem aA (he:SE C e f):SSt C (.Return (some e) pos) (Dv.sRet f):=by
 obtain⟨t,p,q⟩:=he;refine⟨_,kI p,λ Hv₀ H₀ E σ H st ⟨Hc,O,r⟩ w=>?_⟩;unfold Dv.sRet at w;refine q.all r (λ c hf H' r'=>?_) (λ hf=>?_) λ d fr v Hv' H' hf x r' rp n=>?_
 ·rw[hf] at w;exact w σ H' ⟨Hc,O,r'⟩
 ·rw[hf] at w;exact w
 ·rw[hf] at w
  obtain⟨Hv2,x2,s2⟩:=r.ret x;exact w v Hv2 H' x2 (rp.same s2) λ z=>(n z).same (Hnew.mono r.h0 (.refl _))
theorem dZ (i:Nat){x:Str}(hN:autoParam (C.X.N[i]?=some x) ZE._auto_1)(hv:autoParam (Vis C.X.env.scope x) ZG._auto_1)(hd:autoParam ((x == ("__debug__":Str))=false) ZC._auto_1)
  (hcd:autoParam ((x == ("__classdict__":Str))=false) ZC._auto_1):SSt C (.Return (some (.Name x pos')) pos) (Dv.sRetO i):=by
 refine⟨_,kI (cW hN hv hd hcd),λ Hv₀ H₀ E σ H st ⟨Hc,O,r⟩ w=>?_⟩;unfold Dv.sRetO at w;obtain⟨Hv2,x2,s2⟩:=r.ret (.refl r.allH);cases hi:st[i]? with
 | none=>rw[hi] at w;exact Zf w
 | some s=>
  rw[hi] at w;cases s with
  | no=>exact Zf w
  | sh d=>
   obtain⟨v,h1,h2⟩:=r.sh i d hi;exact⟨v,h1,w v Hv2 H x2 ((h2.same r.cAll).same s2) λ z=>h2.scal z⟩
  | jk n m=>exact Zf w
  | dp d=>
   obtain⟨v,h1,h2⟩:=r.dp i d hi;exact⟨v,h1,w v Hv2 H x2 ((Rp.frag (h2.same (r.oAll i))).same s2) λ _=>h2.same λ b o h=>by
    unfold Hnew;rw[(r.oh i b o h).2.2];exact(r.oh i b o h).1⟩
  | ow d=>
   obtain⟨a,o,h1,h2,h3⟩:=r.ow i d hi;have rp:Rp C.X.K Hv2 d (.ref a):=by
    obtain⟨v,h6,h7⟩:=r.envAll i d (by unfold Dv.all;rw[wH,hi];rfl);rw[h1] at h6;cases h6;exact h7.same s2
   cases d with
   | lst ds=>
    refine⟨_,h1,w (.ref a) Hv2 H x2 rp λ z=>?_⟩;obtain⟨vs,rfl,h5⟩:=h3;unfold Rp;refine⟨a,vs,rfl,SqX.of ?_,h5.flat z⟩;unfold Hnew;rw[(r.oh i a _ h2).2.2];exact(r.oh i a _ h2).1
   | dct ks ds=>exact⟨_,h1,w (.ref a) Hv2 H x2 rp λ z=>nomatch z⟩
   | _=>exact Zf h3
theorem aF {pa pb:List Stmt}(hc:SC C c f)(ha:SSs C pa F)(hb:SSs C pb G):SSt C (.If c pa pb pos) (Dv.sIf f F G):=by
 obtain⟨tc,pc,qc⟩:=hc;obtain⟨t,p,q⟩:=ha;obtain⟨u,p2,q2⟩:=hb;refine⟨_,ug pc p p2,λ Hv₀ H₀ E σ H st ⟨Hc,O,r⟩ w=>?_⟩;unfold Dv.sIf at w;refine qc σ H (dv Hc O H) (Dv.all st) _ r.envAll r.allH ?_
 cases hf:f (Dv.all st) with
 | bad=>rw[hf] at w;exact w
 | exc c=>rw[hf] at w;exact λ Hv' H' x=>w σ H' ⟨Hc,O,r.grow x.hh x.nf⟩
 | ok d fr=>
  rw[hf] at w;intro v Hv' H' x rp n;cases d with
  | bl b=>
   unfold Rp at rp;refine⟨b,rp,?_⟩;cases b with
   | true=>exact pU (q Hv₀ H₀ E σ H' st ⟨Hc,O,r.grow x.hh x.nf⟩ w)
   | false=>exact qK (q2 Hv₀ H₀ E σ H' st ⟨Hc,O,r.grow x.hh x.nf⟩ w)
  | _=>exact Zf w
theorem lO {t:TE}(q:Tak C t f)(i:Nat){Hv₀ H₀ H:Hp}{σ:St}{st:Dv.St}(r:Rel C.X.K Hv₀ H₀ st σ H)(w:OkS C Hv₀ H₀ E (Dv.sSet i f st)):t σ H λ v H'=>E.nx (σ.set i (some v)) H':=by
 obtain⟨Hc,O,r⟩:=r;unfold Dv.sSet at w;refine q.all r (λ c hf H' r'=>?_) (λ hf=>?_) λ d fr v Hv' H' hf x r' rp n=>?_
 ·rw[hf] at w;exact w σ H' ⟨Hc,O,r'⟩
 ·rw[hf] at w;exact w
 ·rw[hf] at w
  cases d with
  | lst ds=>
   simp only[Dv.keepD] at w;by_cases z:(fr&&Dv.flatL ds)=true
   ·simp only[z,if_true] at w
    rw[wq] at z;have rn:=n z.1;unfold Rp at rn;obtain⟨a,vs,rfl,h1,h2⟩:=rn;have h1':Hnew H H' a=some (.lst vs):=by
     rcases h1 with (h1|⟨o,h1⟩)|⟨its,m,e,_⟩
     ·exact h1
     ·exfalso
      have hn:H a=none:=by
       unfold Hnew at h1;cases q:H a with
       | none=>rfl
       | some u=>rw[q] at h1;cases h1
      exact x.nf a o _ hn (Hnew.sub a _ h1)
     ·simp at e
    have hn:H a=none:=by
     unfold Hnew at h1';cases q:H a with
     | none=>rfl
     | some u=>rw[q] at h1';cases h1'
    refine w _ H' ⟨Hc,_,r'.setOw (Hnew.sub a _ h1') (r.ch.free hn) (r.h0.free hn) (λ j _=>?_) ⟨vs,rfl,h2.flat z.2⟩⟩;cases q:O j a with
    | none=>rfl
    | some u=>have:=(r.oh j a u q).1;rw[hn] at this;cases this
   ·simp only[z] at w
    exact Zf w
  | tup ds=>exact Zf w
  | exn c=>exact Zf w
  | raw _=>exact Zf w
  | ins _ _=>exact Zf w
  | tab _=>exact Zf w
  | dct ks ds=>
   simp only[Dv.keepD] at w;by_cases z:(fr&&ks.isEmpty&&ds.isEmpty)=true
   ·simp only[z,if_true] at w
    simp only[wq,List.isEmpty_iff] at z;obtain⟨⟨z1,z2⟩,z3⟩:=z;subst z2 z3;have rn:=n z1;unfold Rp at rn;obtain⟨a,vs,rfl,_,h1,h2⟩:=rn;unfold RpL at h2;subst h2;have h1':Hnew H H' a=some (.dK []):=by
     rcases h1 with h1|⟨o,h1⟩
     ·exact h1
     ·exfalso
      have hn:H a=none:=by
       unfold Hnew at h1;cases q:H a with
       | none=>rfl
       | some u=>rw[q] at h1;cases h1
      exact x.nf a o _ hn (Hnew.sub a _ h1)
    have hn:H a=none:=by
     unfold Hnew at h1';cases q:H a with
     | none=>rfl
     | some u=>rw[q] at h1';cases h1'
    refine w _ H' ⟨Hc,_,r'.setOw (Hnew.sub a _ h1') (r.ch.free hn) (r.h0.free hn) (λ j _=>?_) ⟨[],rfl,rfl,.nil⟩⟩;cases q:O j a with
    | none=>rfl
    | some u=>have:=(r.oh j a u q).1;rw[hn] at this;cases this
   ·simp only[z] at w
    exact Zf w
  | _=>exact w _ H' ⟨Hc,O,r'.setSh (Rp.scal rfl rp)⟩
theorem ar {i:Nat}{x:Str}(he:SE C e f)(hN:C.X.N.Nodup)(hi:C.X.N[i]?=some x)(hx:Loc C.X.env.scope x)(hs:autoParam (swapsWith e (some (.Name x pos')) pos.line C.X.env=pure false) ZE._auto_1)
  (hf:autoParam (C.X.fn x=true\/C.X.env.scope.names.lookup x=some .local) ZB._auto_1):SSt C (.Assign [.Name x pos'] e pos) (Dv.sSet i f):=by
 obtain⟨t,p,q⟩:=he;exact⟨_,iP hN hi hx p hs hf,λ Hv₀ H₀ E σ H st r w=>lO q i r w⟩
theorem oi {t:TE}(q:Tak C t f)(is:List Nat)(i:Nat){Hv₀ H₀ H:Hp}{σ:St}{st:Dv.St}(r:Rel C.X.K Hv₀ H₀ st σ H)(w:OkS C Hv₀ H₀ E (Dv.sSetG is i f st)):t σ H λ v H'=>E.nx (σ.set i (some v)) H':=by
 obtain⟨Hc0,O0,r0⟩:=r;obtain⟨Hc,O,_,r⟩:=r0.give is;unfold Dv.sSetG at w;refine q.open r (λ c hf Hc' H' x=>?_) (λ hf=>?_) λ d fr v Hc' H' hf x r' rp=>?_
 ·rw[hf] at w;exact w σ H' ⟨Hc0,O0,r0.grow x.hh x.nf⟩
 ·rw[hf] at w;exact w
 ·rw[hf] at w
  exact w _ H' ⟨Hc',O,r'.setSh rp⟩
theorem fk (is:List Nat){i:Nat}{x:Str}(he:SE C e f)(hN:C.X.N.Nodup)(hi:C.X.N[i]?=some x)(hx:Loc C.X.env.scope x)(hs:autoParam (swapsWith e (some (.Name x pos')) pos.line C.X.env=pure false) ZE._auto_1)
  (hf:autoParam (C.X.fn x=true\/C.X.env.scope.names.lookup x=some .local) ZB._auto_1):SSt C (.Assign [.Name x pos'] e pos) (Dv.sSetG is i f):=by
 obtain⟨t,p,q⟩:=he;exact⟨_,iP hN hi hx p hs hf,λ Hv₀ H₀ E σ H st r w=>oi q is i r w⟩
theorem RelC.own {Hv₀ H₀ Hc H:Hp}{O:Nat->Hp}{σ:St}{st:Dv.St}{K:Av}{i:Nat}{ds:List D}(r:RelC K Hv₀ H₀ Hc O st σ H)(hi:st[i]?=some (.ow (.lst ds))):
  ∃ a vs,σ[i]?=some (some (.ref a))/\H a=some (.lst vs)/\RpL K Hc ds vs:=by
 obtain⟨a,o,h1,h2,vs,rfl,h3⟩:=r.ow i _ hi;exact⟨a,vs,h1,(r.oh i a _ h2).1,h3⟩
theorem i4 {i:Nat}{x:Str}{apos cpos:Pos}{px:Pos}(he:SE C e f)(hN:autoParam (C.X.N[i]?=some x) ZE._auto_1)(hv:autoParam (Vis C.X.env.scope x) ZG._auto_1)
    (hd:autoParam ((x == ("__debug__":Str))=false) ZC._auto_1) (hcd:autoParam ((x == ("__classdict__":Str))=false) ZC._auto_1) (hst:autoParam (starEach [e] C.X.env=[(false,eval e C.X.env)]) ZE._auto_1)
    (hbase:autoParam (attributeBase (.Name x px) "append" C.X.env (eval (.Name x px) C.X.env)=eval (.Name x px) C.X.env) ZE._auto_1)
    (hfew:autoParam (((backTo cpos (starEach [e] C.X.env)).all (λ x=>!x.1)&&(backToKw cpos (keywordEach [] C.X.env)).all (λ x=>x.1.isSome)
      && decide ([e].length+([]:List Keyword).length+(if ([]:List Keyword).isEmpty then 0 else 1)<30))=true) ZE._auto_1)
    (hline:autoParam ((apos.endLine == cpos.line)=true) ZE._auto_1)
    (hs:autoParam (swapsWith (.Call (.Attribute (.Name x px) "append" apos) [e] [] cpos) none pos.line C.X.env=pure false) ZE._auto_1):
    SSt C (.Expr (.Call (.Attribute (.Name x px) "append" apos) [e] [] cpos) pos) (Dv.sApp i f):=by
  obtain⟨t,p,q⟩:=he;refine⟨_,iK (rB CD Cu Cv gR (cW hN hv hd hcd) (aH p bD hst) hbase hfew hline hst rfl) hs,λ Hv₀ H₀ E σ H st ⟨Hc,O,r⟩ w=>?_⟩;unfold Dv.sApp at w;cases hi:st[i]? with
  | none=>rw[hi] at w;exact Zf w
  | some s=>
    rw[hi] at w;cases s with
    | no=>exact Zf w
    | sh d=>exact Zf w
    | dp d=>exact Zf w
    | jk n m=>exact Zf w
    | ow d0=>
     cases d0 with
     | lst ds=>
      obtain⟨a,vs,h1,h2,h5⟩:=r.own hi;refine⟨_,h1,.inl ⟨rfl,vs,SqL.of h2⟩,?_⟩;refine q.all r (λ c hf H' r'=>?_) (λ hf=>?_) λ d fr v Hv' H' hf x r' rp n=>?_
      · simp only[hf] at w;exact w σ H' ⟨Hc,O,r'⟩
      · simp only[hf] at w;exact w
      · simp only[hf] at w
        by_cases z:(Dv.scal d&&decide (ds.length<Dv.mx))=true
        · simp only[z,if_true] at w
          rw[wq,decide_eq_true_eq] at z;obtain⟨O',r2⟩:=r'.put hi h1 (h5.append (.cons (rp.scal z.1) .nil));refine⟨a,vs,v,rfl,rfl,x.hh _ _ h2,?_,w σ _ ⟨Hc,O',r2⟩⟩;have:=h5.length;have:=cx (xR z.2);have e1:(100000:Nat)<sizeLine:=by rw[A2];decide
          have e2:ds.length<100000:=z.2;omega
        · simp only[z] at w
          exact Zf w
     | _=>exact Zf w
end
section
variable {C:Ctx}{a b c e o k:Expr}{f g h:EE}{fl:EL}{F G:SS}{s:Stmt}{ss:List Stmt}{pos pos':Pos}{E:Ends}
def Wlk (K:Av)(J:It)(Hv:Hp)(ds:List D):Prop:=
 ∀ (i:Nat) (H:Hp),Same Hv H->(∀ d,ds[i]?=some d->J.go i H/\∀ x H',J.yld i H x H'->∃ Hv',Ext Hv H Hv' H'/\Rp K Hv' d x)/\(i=ds.length->J.stop i H)
def OkI (K:Av)(Hv H:Hp)(W:XK)(cls:String->Value)(r:RI)(T:It->Hp->Prop):Prop:=match r with
 | .ok ds _=>∀ J Hv' H',Ext Hv H Hv' H'->Wlk K J Hv' ds->T J H'
 | .exc c=>∀ Hv' H',Ext Hv H Hv' H'->W (cls c) none H'
 | .bad=>False
def SI (C:Ctx)(tg it:Expr)(f:EI):Prop:=
 ∃ wi:TI,PI C.X tg it wi/\∀ σ H Hv ρ T,EnvR C.X.K Hv ρ σ->Same Hv H->OkI C.X.K Hv H (C.W σ) C.cls (f ρ) T->wi σ H T
theorem aM {tg:Expr}(he:SE C e f):SI C tg e (Dv.iSeq f):=by
 obtain⟨t,p,q⟩:=he;refine⟨_,qm p,λ σ H Hv ρ T er s w=>?_⟩;refine q σ H Hv ρ _ er s ?_
 unfold Dv.iSeq at w;cases hf:f ρ with
 | bad=>rw[hf] at w;exact w
 | exc c=>rw[hf] at w;exact w
 | ok d fr=>
  rw[hf] at w;intro v Hv' H' x rp n;cases d with
  | lst ds=>
   unfold Rp at rp;obtain⟨l,vs,rfl,h1,h2⟩:=rp;refine⟨l,rfl,⟨vs,(h1.same x.vh).seq⟩,w _ Hv' H' x λ i H2 s2=>⟨λ d hd=>?_,λ hi=>?_⟩⟩
   ·obtain⟨u,h3,h4⟩:=h2.get hd
    refine⟨⟨vs,u,(h1.same s2).seq,h3⟩,λ x H3 ⟨e1,hy⟩=>?_⟩;subst e1;have:=hy vs (h1.same s2).seq;rw[h3] at this;cases this;exact⟨Hv',.refl s2,h4⟩
   ·exact⟨vs,(h1.same s2).seq,by rw[h2.length,hi];exact wu _⟩
  | _=>exact Zf w
theorem mH (lo:Int):∀ (n i:Nat) (d:D),(Dv.rangeL lo n)[i]?=some d->i<n/\d=.int (lo+i):=by
 intro n
 induction n generalizing lo with
 | zero=>intro i d h;simp[Dv.rangeL] at h
 | succ n ih=>
  intro i d h;cases i with
  | zero=>simp[Dv.rangeL] at h;subst h;exact⟨⋯,by simp⟩
  | succ i=>
   simp only[Dv.rangeL,xJ] at h;obtain⟨h1,h2⟩:=ih (lo+1) i d h;exact⟨⋯,by rw[h2];congr 1;omega⟩
theorem ma (lo:Int):∀ n:Nat,(Dv.rangeL lo n).length=n:=by
 intro n
 induction n generalizing lo with
 | zero=>rfl
 | succ n ih=>simp[Dv.rangeL,ih]
theorem gX {K:Av}{Hv:Hp}(lo:Int)(n:Nat):Wlk K (Itr lo n) Hv (Dv.rangeL lo n):=λ i H s=>⟨λ d hd=>by
  obtain⟨h1,rfl⟩:=mH lo n i d hd;refine⟨h1,λ x H' ⟨e1,e2⟩=>?_⟩;subst e1 e2;exact⟨Hv,.refl s,aV⟩,λ hi=>by rw[ma] at hi;subst hi;exact wu _⟩
theorem oD {j:Int}(h:Dv.rngOk j=true):-(2 ^ 62)<=j/\j<2 ^ 62:=by
 unfold Dv.rngOk at h;simp only[wq,decide_eq_true_eq] at h;omega
theorem bI {tg:Expr}{p:Pos}(hg:Gl C.X "range")(hm:C.X.mg "range"=none)(he:SE C e f)(hs:autoParam (starEach [e] C.X.env=[(false,eval e C.X.env)]) ZE._auto_1):
  SI C tg (.Call (.Name "range" p) [e] [] pos) (Dv.iRange f):=by
 obtain⟨t,pe,q⟩:=he;refine⟨_,l7 hg hm (aH pe bD hs) hs,λ σ H Hv ρ T er s w=>?_⟩;refine q σ H Hv ρ _ er s ?_
 unfold Dv.iRange at w;cases hf:f ρ with
 | bad=>rw[hf] at w;exact w
 | exc c=>rw[hf] at w;exact w
 | ok d fr=>
  rw[hf] at w;intro v Hv' H' x rp n;cases d with
  | int j=>
   unfold Rp at rp;subst rp;by_cases hr:Dv.rngOk j=true
   ·simp only[hr,if_true] at w
    obtain⟨h1,h2⟩:=oD hr;exact⟨j,rfl,h1,h2,w _ Hv' H' x (gX 0 j.toNat)⟩
   ·simp only[hr] at w
    exact Zf w
  | _=>exact Zf w
theorem mR {tg:Expr}{p:Pos}(hg:Gl C.X "range")(hm:C.X.mg "range"=none)(he:SE C e f)(hb:SE C b g)(hs:autoParam (starEach [e,b] C.X.env=[(false,eval e C.X.env),(false,eval b C.X.env)]) ZE._auto_1)
  (hs2:autoParam (starEach [b] C.X.env=[(false,eval b C.X.env)]) ZE._auto_1):SI C tg (.Call (.Name "range" p) [e,b] [] pos) (Dv.iRange2 f g):=by
 obtain⟨t,pe,q⟩:=he;obtain⟨t2,pe2,q2⟩:=hb;refine⟨_,mE hg hm (aH pe (aH pe2 bD hs2) (by rw[hs,hs2])) hs hs2,λ σ H Hv ρ T er s w=>?_⟩;refine q σ H Hv ρ _ er s ?_
 unfold Dv.iRange2 at w;cases hf:f ρ with
 | bad=>rw[hf] at w;exact w
 | exc c=>rw[hf] at w;exact w
 | ok d fr=>
  rw[hf] at w;intro v Hv' H' x rp n;cases d with
  | int i=>
   unfold Rp at rp;subst rp;refine q2 σ H' Hv' ρ _ (er.same x.vv) x.vh ?_
   cases hg':g ρ with
   | bad=>simp only[hg'] at w;exact w
   | exc c=>simp only[hg'] at w;exact λ Hv2 H2 y=>w Hv2 H2 (x.trans y)
   | ok d2 fr2=>
    simp only[hg'] at w;intro v2 Hv2 H2 y rp2 n2;cases d2 with
    | int j=>
     unfold Rp at rp2;subst rp2;by_cases hr:(Dv.rngOk i&&Dv.rngOk j)=true
     ·simp only[hr,if_true] at w
      rw[wq] at hr;obtain⟨h1,h2⟩:=oD hr.1;obtain⟨h3,h4⟩:=oD hr.2;exact⟨i,j,rfl,⟨h1,h2,h3,h4⟩,w _ Hv2 H2 (x.trans y) (gX i _)⟩
     ·simp only[hr] at w
      exact Zf w
    | _=>exact Zf w
  | _=>exact Zf w
def SG (C:Ctx)(tg:Expr)(st:D->Dv.St->Option Dv.St):Prop:=
 ∃ g:TG,PG C.X tg g/\∀ Hv₀ H₀ Hc O H σ s s' d v T,RelC C.X.K Hv₀ H₀ Hc O s σ H->Rp C.X.K Hc d v->st d s=some s'->(∀ σ' ,RelC C.X.K Hv₀ H₀ Hc O s' σ' H->T σ' H)->g v σ H T
theorem pY {i:Nat}{x:Str}(hN:C.X.N.Nodup)(hi:C.X.N[i]?=some x)(hx:Loc C.X.env.scope x)(hf:autoParam (C.X.fn x=true\/C.X.env.scope.names.lookup x=some .local) ZB._auto_1):
  SG C (.Name x pos) (λ d s=>some (s.set i (.sh d))):=by
 refine⟨_,iJ hN hi hx hf,λ Hv₀ H₀ Hc O H σ s s' d v T r rp e h=>?_⟩;cases e;exact h _ (r.setSh rp)
theorem RelC.self {K:Av}{Hv₀ H₀ Hc H:Hp}{O:Nat->Hp}{st:Dv.St}{σ:St}(r:RelC K Hv₀ H₀ Hc O st σ H):RelC K Hc H₀ Hc O st σ H:=
 ⟨r.h0,.refl _,r.ch,λ b o h n=>(by rw[n] at h;cases h),r.nf,r.len,r.sh,r.ow,r.dp,r.jk,r.oh,r.one⟩
theorem OkS.less {Hv₀ Hc H₀:Hp}{o:Out}(h:OkS C Hv₀ H₀ E o)(vc:Same Hv₀ Hc)(new:∀ b o,Hc b=some o->Hv₀ b=none->H₀ b=none):OkS C Hc H₀ E o:=by
 have rl:∀ {st σ H},Rel C.X.K Hc H₀ st σ H->Rel C.X.K Hv₀ H₀ st σ H:=λ⟨Hd,O,r⟩=>⟨Hd,O,r.less vc new⟩
 cases o with
 | nx st=>exact λ σ H r=>h σ H (rl r)
 | ret d nw=>
  refine λ v Hv' H' x rp n=>h v Hv' H' ⟨x.hh,vc.trans x.vv,x.vh,λ b o q m=>?_,x.all,x.nf⟩ rp n
  cases z:Hc b with
  | some u=>exact new b u z m
  | none=>exact x.new b o q z
 | brk st=>exact λ σ H r=>h σ H (rl r)
 | cont st=>exact λ σ H r=>h σ H (rl r)
 | exc c st=>exact λ σ H r=>h σ H (rl r)
 | bad=>exact h
theorem tI {tgt:D->Dv.St->Option Dv.St}{g:TG}{tb:TS}{J:It}{ds:List D}{Hc H₀ H:Hp}{σ:St}{st:Dv.St}
  (qg:∀ Hv₀ H₀ Hc O H σ s s' d v T,RelC C.X.K Hv₀ H₀ Hc O s σ H->Rp C.X.K Hc d v->tgt d s=some s'->(∀ σ' ,RelC C.X.K Hv₀ H₀ Hc O s' σ' H->T σ' H)->g v σ H T)
  (qb:sx C tb F) (wl:Wlk C.X.K J Hc ds) (r:Rel C.X.K Hc H₀ st σ H) (w:OkS C Hc H₀ E (Dv.forGoT tgt F ds st)):
  ∃ W:Nat->Nat->St->Hp->Prop,(∃ m,W 0 m σ H)/\∀ i m σ H,W i m σ H ->
   (J.stop i H/\E.nx σ H)\/(J.go i H/\∃ N:St->Hp->Prop,(∀ σ' H',N σ' H'->∃ m',m'<m/\W (i+1) m' σ' H')/\∀ x H',J.yld i H x H'->g x σ H' λ σ2 H2=>tb { E with nx:=N,ct:=N,bk:=E.nx } σ2 H2):=by
 refine⟨λ i m σ H=>m=ds.length-i/\i<=ds.length/\∃ st,Rel C.X.K Hc H₀ st σ H/\OkS C Hc H₀ E (Dv.forGoT tgt F (ds.drop i) st),⟨_,rfl,xw _,st,r,w⟩,?_⟩
 rintro i m σ H ⟨rfl,hi,st,⟨Hd,O,r⟩,w⟩
 obtain⟨w1,w2⟩:=wl i H (r.vc.trans r.ch);by_cases hlt:i<ds.length
 ·have hd:ds[i]?=some ds[i]:=by simp[hlt]
  have e1:ds.drop i=ds[i]::ds.drop (i+1):=xi hlt;rw[e1] at w;generalize ds[i]=d at hd e1 w;obtain⟨go,yl⟩:=w1 d hd;refine .inr ⟨go,λ σ' H'=>∃ st,Rel C.X.K Hc H₀ st σ' H'/\OkS C Hc H₀ E (Dv.forGoT tgt F (ds.drop (i+1)) st),λ σ' H' h=>⟨ds.length-(i+1),⋯,rfl,hlt,h⟩,λ x H' hy=>?_⟩;obtain⟨Hv',x1,rp⟩:=yl x H' hy;unfold Dv.forGoT at w;cases ht:tgt d st with
  | none=>simp only[ht] at w;exact Zf w
  | some st1=>
   simp only[ht] at w;have x2:Ext Hd H (λ b=>match H b with|none=>H' b|some _=>Hd b) H':=by
    refine⟨x1.hh,λ b o q=>?_,λ b o q=>?_,λ b o q n=>?_,λ b q=>?_,x1.nf⟩
    ·show (match H b with|none=>H' b|some _=>Hd b)=some o
     cases z:H b with
     | none=>rw[r.ch b o q] at z;cases z
     | some _=>exact q
    ·have q':(match H b with|none=>H' b|some _=>Hd b)=some o:=q
     cases z:H b with
     | none=>rw[z] at q';exact q'
     | some u=>rw[z] at q';exact x1.hh _ _ (r.ch b o q')
    ·have q':(match H b with|none=>H' b|some _=>Hd b)=some o:=q
     cases z:H b with
     | none=>rfl
     | some u=>rw[z] at q';rw[n] at q';cases q'
    ·show (match H b with|none=>H' b|some _=>Hd b)=H' b
     rw[q]
   have r2:=r.growC x2;have sub:Same Hv' (λ b=>match H b with|none=>H' b|some _=>Hd b):=λ b o q=>by
    show (match H b with|none=>H' b|some _=>Hd b)=some o
    cases z:H b with
    | none=>exact x1.vh b o q
    | some u=>
     cases z2:Hc b with
     | none=>have:=x1.new b o q z2;rw[z] at this;cases this
     | some u'=>
      have h1:=x1.vv b u' z2;rw[q] at h1;cases h1;exact r.vc b o z2
   refine qg Hc H₀ _ _ H' σ st st1 d x _ r2 (rp.same sub) ht λ σ2 r3=>?_
   refine qb Hc H₀ _ σ2 H' st1 ⟨_,_,r3⟩ ?_
   cases hb:F st1 with
   | nx st'=>simp only[hb] at w;exact λ σ' H' r'=>⟨st',r',w⟩
   | cont st'=>simp only[hb] at w;exact λ σ' H' r'=>⟨st',r',w⟩
   | brk st'=>simp only[hb] at w;exact w
   | ret d nw=>simp only[hb] at w;exact w
   | exc c st'=>simp only[hb] at w;exact w
   | bad=>simp only[hb] at w;exact w
 ·have e:i=ds.length:=⋯
  refine .inl ⟨w2 e,?_⟩;rw[e,zL] at w;exact w σ H ⟨Hd,O,r⟩
theorem lz (is:List Nat){tg it:Expr}{body:List Stmt}{tgt:D->Dv.St->Option Dv.St}{fi:EI}(hi:SI C tg it fi)(hg:SG C tg tgt)(hb:SSs C body F)(hcalm:autoParam (C.X.calm=true) ZE._auto_1)
  (hs:autoParam (∀ x,foldedSetIterable it C.X.env x=pure x) ZD._auto_1):SSt C (.For tg it body [] pos) (Dv.sForT is tgt fi F):=by
 obtain⟨wi,pi,qi⟩:=hi;obtain⟨g,pg,qg⟩:=hg;obtain⟨tb,pb,qb⟩:=hb;refine⟨_,sF C.own hcalm pi pg pb hs,λ Hv₀ H₀ E σ H st ⟨Hc0,O0,r0⟩ w=>?_⟩;obtain⟨Hc,O,_,r⟩:=r0.give is;unfold Dv.sForT at w;refine qi σ H Hc (Dv.open_ (Dv.give is st)) _ r.envOpen r.ch ?_
 cases hf:fi (Dv.open_ (Dv.give is st)) with
 | bad=>simp only[hf] at w;exact w
 | exc c=>simp only[hf] at w;exact λ Hv' H' x=>w σ H' ⟨Hc0,O0,r0.grow x.hh x.nf⟩
 | ok ds fr=>
  simp only[hf] at w;intro J Hc' H' x wl;have r1:=r.growC x;exact tI qg qb wl ⟨Hc',O,r1.self⟩ (w.less r1.vc r1.new)
theorem iU (x:Nat)(body:SS):∀ (ds:List D) (st:Dv.St),Dv.forGoT (λ d s=>some (s.set x (.sh d))) body ds st=Dv.forGo x body ds st
 | [],st=>rfl
 | d::r,st=>by
  unfold Dv.forGoT Dv.forGo;cases h:body (st.set x (.sh d)) with
  | nx st'=>simp only[h];exact iU x body r st'
  | cont st'=>simp only[h];exact iU x body r st'
  | _=>simp only[h]
theorem bJ (is:List Nat){i:Nat}{x:Str}{it:Expr}{body:List Stmt}{fi:EI}(hi:SI C (.Name x pos') it fi)(hb:SSs C body F)(hN:C.X.N.Nodup)(hn:C.X.N[i]?=some x)(hx:Loc C.X.env.scope x)
  (hf:autoParam (C.X.fn x=true\/C.X.env.scope.names.lookup x=some .local) ZB._auto_1) (hs:autoParam (∀ x,foldedSetIterable it C.X.env x=pure x) ZD._auto_1) (hcalm:autoParam (C.X.calm=true) ZE._auto_1):
  SSt C (.For (.Name x pos') it body [] pos) (Dv.sFor is i fi F):=by
 obtain⟨t,p,q⟩:=lz (pos:=pos) is hi (pY (pos:=pos') hN hn hx hf) hb hcalm hs;refine⟨t,p,λ Hv₀ H₀ E σ H st r w=>q Hv₀ H₀ E σ H st r ?_⟩;unfold Dv.sForT;unfold Dv.sFor at w;cases hf:fi (Dv.open_ (Dv.give is st)) with
 | bad=>simp only[hf] at w ⊢;exact w
 | exc c=>simp only[hf] at w ⊢;exact w
 | ok ds fr=>simp only[hf] at w ⊢;rw[iU];exact w
def spD (K:Av)(cls:String->Value)(F:List D->R)(n:Nat):Sp:=λ vs H Q E=>∃ ds Hv,ds.length=n/\Same Hv H/\RpL K Hv ds vs/\Ok K Hv H E cls (F ds) Q
theorem qA {K:Av}{cls:String->Value}{F:List D->R}{n:Nat}{vs:List V}{H:Hp}{Q:VK}{E:XK}(h:spD K cls F n vs H Q E):vs.length=n:=by
 obtain⟨ds,Hv,h1,_,h2,_⟩:=h;rw[h2.length,h1]
theorem mD {N:List Str}{vs:List V}{i:Nat}{v:V}(h:vs[i]?=some v):(L2.start N vs)[i]?=some (some v):=by
 have hl:i<vs.length:=(List.getElem?_eq_some_iff.mp h).1;unfold L2.start;rw[wG (by simpa using hl),wH,h];rfl
theorem mf {K:Av}{Hv H:Hp}{ds:List D}{vs:List V}{N:List Str}(s:Same Hv H)(rp:RpL K Hv ds vs)(hN:ds.length<=N.length):
  RelC K Hv H Hv (λ _ _=>none) (ds.map Sl.sh++List.replicate (N.length-ds.length) Sl.no) (L2.start N vs) H:=by
 have hl:=rp.length;have get:∀ {i:Nat} {x:Sl},(ds.map Sl.sh++List.replicate (N.length-ds.length) Sl.no)[i]?=some x->(∃ d,x=.sh d/\ds[i]?=some d)\/x=.no:=λ {i x} h=>by
  by_cases hi:i<ds.length
  ·rw[wG (by simpa using hi),wH] at h
   cases q:ds[i]? with
   | none=>rw[q] at h;cases h
   | some d=>rw[q] at h;cases h;exact .inl ⟨d,rfl,rfl⟩
  ·rw[wI (by simpa using hi),xq] at h
   split at h
   ·cases h;exact .inr rfl
   ·cases h
 refine⟨.refl _,.refl _,s,λ b o h n=>(by rw[n] at h;cases h),λ b o u h=>(by rw[h];intro z;cases z),?_,λ i d h=>?_,λ i d h=>?_,λ i d h=>?_,λ i n m h=>?_,(λ i b o h=>nomatch h),(λ i j b o o' h=>nomatch h)⟩
 ·unfold L2.start
  simp only[wB,wj,xh];omega
 ·rcases get h with ⟨d',e,h2⟩|e
  ·cases e
   obtain⟨v,h3,h4⟩:=rp.get h2;exact⟨v,mD h3,h4⟩
  ·cases e
 ·rcases get h with ⟨d',e,_⟩|e <;>cases e
 ·rcases get h with ⟨d',e,_⟩|e <;>cases e
 ·rcases get h with ⟨d',e,_⟩|e <;>cases e
theorem sr {Hv H:Hp}{ds:List D}{Q:VK}{W:XK}{n:Nat}{body:SS}(hW:C.W=λ _=>W)(h:Ok C.X.K Hv H W C.cls (Dv.fn n body ds) Q):
  OkS C Hv H { nx:=λ _ H'=>Q .non H',rt:=Q } (body (ds.map Sl.sh++List.replicate (n-ds.length) Sl.no)):=by
 unfold Dv.fn at h;have ext:∀ {st σ' H'},Rel C.X.K Hv H st σ' H'->∃ Hv2,Ext Hv H Hv2 H':=λ {st σ' H'} ⟨Hc,O,r⟩=>by
  obtain⟨Hv2,x,_⟩:=r.ret (.refl r.allH);exact⟨Hv2,x⟩
 cases hb:body (ds.map Sl.sh++List.replicate (n-ds.length) Sl.no) with
 | nx st=>
  simp only[hb] at h;intro σ' H' r;obtain⟨Hv2,x⟩:=ext r;exact h .non Hv2 H' x oA λ _=>oA
 | ret d nw=>simp only[hb] at h;exact λ v Hv' H' x rp nn=>h v Hv' H' x rp nn
 | brk st=>simp only[hb] at h;exact Zf h
 | cont st=>simp only[hb] at h;exact Zf h
 | exc c st=>
  simp only[hb] at h;intro σ' H' r;obtain⟨Hv2,x⟩:=ext r;rw[hW];exact h Hv2 H' x
 | bad=>simp only[hb] at h;exact Zf h
end
structure CXok (P:Program)(w:World)(CX:CXT):Prop where
 no:∀ (outer:List AY) (H:Hp) (s:Shared) (e:Value) (s':Shared),CX outer H s (λ _ _ _=>False) e s'->False
 leave:∀ (K:Av) (mg:Str->Option Value) (base:Heap) (N:List Str) (qual:Str) (scope:Scope) (f:Addr) (cd:Value) (A:Around) (outer:List AY) (s:Shared) (H:Hp) (E:XK)
  (pins:List (Addr×Obj)) (σ:St) (H1:Hp) (s1:Shared) (e:Value) (s':Shared),Inv (bW CX P w K mg base N qual scope f cd A outer s H E) pins σ H1 s1 ->
  CX (bW CX P w K mg base N qual scope f cd A outer s H E).stack H1 s1 E e s'->(bW CX P w K mg base N qual scope f cd A outer s H E).xe e s'
section
variable {P:Program}{w:World}{K:Av}{mg:Str->Option Value}{base:Heap}{CX:CXT}
def j4 {P:Program}{w:World}(hC:CXok P w CX)(cls:String->Value)(K:Av)(mg:Str->Option Value)(base:Heap)(N:List Str)(qual:Str)(scope:Scope)(f:Addr)(cd:Value)(A:Around)(outer:List AY)(s:Shared)(H:Hp)(E:XK)
  {k:Nat} (hr:Room k (A.deeper (envOfC qual scope s.heap.objs.size f cd))):Ctx where
 X:=bW CX P w K mg base N qual scope f cd A outer s H E
 W:=λ _=>E
 cls:=cls
 CX:=CX
 un:=hr.units
 own:=PassesOwn.leaving
 pass:=λ pins σ H1 s1 e s' I h=>hC.leave K mg base N qual scope f cd A outer s H E pins σ H1 s1 e s' I h
 cxF:=hC.no
theorem va (hC:CXok P w CX)(cls:String->Value){x qual:Str}{st:Stmt}{f:Addr}{N ps:List Str}{k:Nat}{body:SS}(oc:Value)(od:Option Addr)(dV kV doc pm:Value)(an:Option Addr)(cdv ct:Value)(osl:Array (Option Value))
  (lk:K.lookup f=some ⟨oc,od,.func (A0 x qual (br st) (aQ st) (ah st) dV kV doc pm an cdv ct),osl⟩) (hcd:Bl K cdv qual=true) (S:FnScope N ps (ah st))
  (hbody:∀ (A:Around) (outer:List AY) (s:Shared) (H:Hp) (E:XK) (hr:Room k (A.deeper (envOfC qual (ah st) s.heap.objs.size f cdv))),
   SSs (j4 hC cls K mg base N qual (ah st) f cdv A outer s H E hr) (aQ st) body):
  FnOk P w K mg base CX (k+1) f (A0 x qual (br st) (aQ st) (ah st) dV kV doc pm an cdv ct) ps (spD K cls (Dv.fn N.length body) ps.length):=by
 refine rA lk hcd S (λ vs H Q E h=>qA h) λ A outer s H vs Q E hr h=>?_
 obtain⟨ds,Hv,hl,sv,rp,ok⟩:=h;obtain⟨t,p,q⟩:=hbody A outer s H E hr;have hpl:ps.length<=N.length:=by
  have:=congrArg List.length S.pre;rw[wX] at this;omega
 exact⟨t,p,q Hv H _ (L2.start N vs) H _ ⟨Hv,_,mf sv rp ⋯⟩ (sr (C:=j4 hC cls K mg base N qual (ah st) f cdv A outer s H E hr) rfl ok)⟩
end
section
variable {C:Ctx}{a b c e o:Expr}{es:List Expr}{f g h:EE}{fl:EL}{F G:SS}{pos pos':Pos}{E:Ends}
theorem nE {X:Cx}{CX:CXT}{W:St->XK}{k:Nat}{fa:Addr}{fd:FuncData}{ps:List Str}{sp:Sp}{dvs:List V}{ds:List Value}{x:Str}{p:Pos}{t:TA}(Fn:FnOk X.prog X.w X.K X.mg X.base CX k fa fd ps sp)(hr:Room k X.A)(hg:Gl X x)(hm:X.mg x=some (.ref fa))(hk:Bm X.K (.ref fa)=true)
  (hb:Binds X.K fd ps ds) (hd:Vals dvs ds) (hx:∀ (pins:List (Addr×Obj)) (σ:St) (H:Hp) (s:Shared) (e:Value) (s':Shared),Inv X pins σ H s->CX X.stack H s (W σ) e s'->X.xe e s')
  (ha:PA X (e::es) t) (hdb:(x == ("__debug__":Str))=false) (he:starEach (e::es) X.env=(false,eval e X.env)::starEach es X.env) (hpl:(backTo pos (starEach es X.env)).any (·.1)=false):
  PE X (.Call (.Name x p) (e::es) [] pos) (λ σ H Q=>t σ H λ vs H1=>sp (vs++dvs) H1 Q (W σ)):=by
 intro pins s σ H Q I h;refine Bb (ie I hg hm ?_ hdb);refine PySem.W.callWith_K (h₀:=X.base) I.ok.mod.kin hk (thn (ha pos pins s σ H _ I h) λ us s1 ⟨vs,H1,I1,r,q⟩=>⟨I1.kIn,?_⟩) he hpl;have r2:Vals (vs++dvs) (us++ds):=r.append hd;have hl:(us++ds).length=ps.length:=by rw[<- r2.length];exact Fn.len _ _ _ _ q
 refine wpAny_call (BZ (Fn.run X.A X.stack s1 H1 ⟨us,[]⟩ (us++ds) (vs++dvs) Q (W σ) hr I1.env0 (hb s1 us I1.kIn hl) r2 q) λ rr s' hq=>?_);cases rr with
 | error e=>exact hx pins σ H1 s1 e s' I1 hq
 | ok fl=>
  cases fl with
  | ret u=>exact I1.after hq
  | next=>exact Bc hq
  | brk=>exact Bc hq
  | cont=>exact Bc hq
theorem qN {k j:Nat}{fa:Addr}{fd:FuncData}{ps:List Str}{Fm:List D->R}{dds:List D}{dvs:List V}{dus:List Value}{x:Str}{p:Pos}(Fn:FnOk C.X.prog C.X.w C.X.K C.X.mg C.X.base C.CX j fa fd ps (spD C.X.K C.cls Fm ps.length))(hr:Room k C.X.A)(hj:j<=k)
  (hg:Gl C.X x) (hm:C.X.mg x=some (.ref fa)) (hk:Bm C.X.K (.ref fa)=true) (hb:Binds C.X.K fd ps dus) (hd:Vals dvs dus) (hdd:∀ K H,RpL K H dds dvs) (ha:SL C (e::es) fl) (hlen:autoParam ((e::es).length+dds.length=ps.length) ZE._auto_1)
  (hdb:autoParam ((x == ("__debug__":Str))=false) ZC._auto_1) (he:autoParam (starEach (e::es) C.X.env=(false,eval e C.X.env)::starEach es C.X.env) ZE._auto_1) (hpl:autoParam ((backTo pos (starEach es C.X.env)).any (·.1)=false) ZE._auto_1):
  SE C (.Call (.Name x p) (e::es) [] pos) (Dv.eCall (λ ds=>Fm (ds++dds)) fl):=by
 obtain⟨t,pa,qa,hl⟩:=ha;refine⟨_,nE (W:=C.W) (Fn.mono hj) hr hg hm hk hb hd C.pass pa hdb he hpl,λ σ H Hv ρ Q er s w=>?_⟩;refine qa.step er (.refl s) w λ vs ds fr Hv1 H1 hf x1 _ rp _ w1=>?_
 refine⟨ds++dds,Hv1,?_,x1.vh,rp.append (hdd _ _),Ok.later x1 w1⟩;rw[wB,hl ρ ds fr hf];exact hlen
def bz (X:Cx)(N:List Str)(scope:Scope)(cl:List (Str×Addr))(L:Addr)(s₀:Shared)(H₀:Hp)(ex:List Addr):Cx:=
 { X with N:=N,s₀:=s₀,H₀:=H₀,env:=compEnvC scope cl L X.env,outer:=X.stack,ex:=ex,fn:=λ _=>false,pn:=[],xe:=λ _ _=>False }
def bg (C:Ctx)(N:List Str)(scope:Scope)(cl:List (Str×Addr))(L:Addr)(s₀:Shared)(H₀:Hp)(ex:List Addr):Ctx where
 X:=bz C.X N scope cl L s₀ H₀ ex
 W:=λ _ _ _ _=>False
 cls:=C.cls
 CX:=C.CX
 un:=C.un
 own:=DB
 pass:=λ _ _ _ _ _ _ _ h=>C.cxF _ _ _ _ _ h
 cxF:=C.cxF
theorem dt {env:AY}:∀ (names:List (Str×NameKind)) (acc:List (Str×Addr)),(∀ y∈names,y.2=.free->∃ c,env.cells.lookup y.1=some c) ->
  ∃ cl,(forIn names acc λ (x:Str×NameKind) (cs:List (Str×Addr))=>(if (x.2 == .free)=true then do let a <- cellOf env x.1;pure (Bv ((x.1,a)::cs)) else pure (Bv cs):Sem (ForInStep (List (Str×Addr)))))=pure cl /\
   (∀ x c,cl.lookup x=some c->acc.lookup x=some c\/env.cells.lookup x=some c)/\(∀ y∈names,y.2=.free->∃ c,cl.lookup y.1=some c)/\(∀ x c,acc.lookup x=some c->∃ c',cl.lookup x=some c')
 | [],acc,_=>⟨acc,rfl,λ _ _ h=>.inl h,(λ _ h=>nomatch h),λ x c h=>⟨c,h⟩⟩
 | (n,k)::r,acc,h=>by
  simp only[List.forIn_cons];by_cases hk:(k == A7)=true
  ·obtain⟨c,hc⟩:=h (n,k) we (by simpa using hk)
   obtain⟨cl,e,h1,h2,h3⟩:=dt r ((n,c)::acc) λ y hy=>h y (wd _ hy)
   refine⟨cl,?_,λ x d hx=>?_,λ y hy hf=>?_,λ x d hx=>?_⟩
   ·simp only[hk,if_true]
    have e2:cellOf env n=pure c:=by unfold cellOf;rw[hc]
    rw[e2];exact e
   ·rcases h1 x d hx with q|q
    ·rw[wJ] at q
     cases z:x == n with
     | true=>
      rw[z] at q;have:x=n:=by simpa using z
      subst this;cases q;exact .inr hc
     | false=>rw[z] at q;exact .inl q
    ·exact .inr q
   ·rcases List.mem_cons.mp hy with rfl|hy
    ·exact h3 n c (by simp[wJ])
    ·exact h2 y hy hf
   ·by_cases z:(x == n)=true
    ·exact h3 x c (by simp[wJ,z])
    ·exact h3 x d (by rw[wJ];simp only[Bool.not_eq_true] at z;rw[z];exact hx)
  ·obtain⟨cl,e,h1,h2,h3⟩:=dt r acc λ y hy=>h y (wd _ hy)
   refine⟨cl,?_,h1,λ y hy hf=>?_,h3⟩
   ·simp only[hk]
    exact e
   ·rcases List.mem_cons.mp hy with rfl|hy
    ·exact absurd (by simpa using hf) hk
    ·exact h2 y hy hf
theorem ko {env:AY}{scope:Scope}(h:∀ y∈scope.names,y.2=.free->∃ c,env.cells.lookup y.1=some c):
  ∃ cl,closureFor scope env=pure cl/\(∀ x c,cl.lookup x=some c->env.cells.lookup x=some c)/\∀ y∈scope.names,y.2=.free->∃ c,cl.lookup y.1=some c:=by
 obtain⟨cl,e,h1,h2,_⟩:=dt scope.names [] h;refine⟨cl,?_,λ x c hx=>?_,h2⟩
 ·unfold closureFor
  exact(congrArg (λ m:Sem (List (Str×Addr))=>m >>= λ s=>pure s) e).trans rfl
 ·rcases h1 x c hx with q|q
  ·simp at q
  ·exact q
end
theorem kE {prog:Program}{w:World}{A:Around}{T:Result->Shared->Prop}{s:Shared}{elt target iter:Expr}{ifs:List Expr}{scope:Scope}{pos:Pos}{it acc:Value}{env:AY}(J:Nat->Shared->Prop)
  (turn:∀ n s,J n s->wpAny (model prog w) A (pyNext it) (λ r s1=>match r with
   | none=>T (.ok .next) s1
   | some v=>wpAny (model prog w) A (letOwnedTupleGo target it v) (λ _ s2=>wpAny (model prog w) A (assign target env v) (λ _ s3=>
     wpAny (model prog w) A (forIn ifs true λ c r=>if r=true then do let ok <- isTrue c env (eval c env);pure (Bv ok) else pure (Bv r)) (λ ok s4=>
      if ok=true then wpAny (model prog w) A (eval elt env) (λ x s5=>wpAny (model prog w) A (call (.builtin "list.append") [acc,x]) (λ _ s6=>∃ m,m<n/\J m s6) (λ _ _=>False) s5) (λ _ _=>False) s4
      else ∃ m,m<n/\J m s4) (λ _ _=>False) s3) (λ _ _=>False) s2) (λ _ _=>False) s1) (λ _ _=>False) s)
  (n:Nat) (h:J n s):codeAny (model prog w) A (.compLoop (.ListComp elt [⟨target,iter,ifs,0⟩] scope pos) 0 it acc env) T s:=by
 refine codeAny_loop rfl J (λ n s hJ=>?_) n h;show wpAny _ A ((compTurn (.ListComp elt [⟨target,iter,ifs,0⟩] scope pos) 0 it acc env).onRaise (λ x=>do noteFrame x env;theTreesLotGoes x)) _ _ s
 refine wpAny_noted ?_
 rw[compTurn_list];refine Aw (BR (Aw (AI (turn n s hJ) (λ r s1 h1=>?_) λ _ _ z=>z.elim)));cases r with
 | none=>exact Ax h1
 | some v=>
  refine Aw (AI h1 (λ _ s2 h2=>Aw (AI h2 (λ _ s3 h3=>Aw (AI h3 (λ ok s4 h4=>?_) λ _ _ z=>z.elim)) λ _ _ z=>z.elim)) λ _ _ z=>z.elim);cases ok with
  | false=>exact Ax ⟨rfl,h4⟩
  | true=>
   refine Aw (Aw (AI h4 (λ x s5 h5=>Aw (AI h5 (λ _ s6 h6=>?_) λ _ _ z=>z.elim)) λ _ _ z=>z.elim));exact Ax (Ax ⟨rfl,h6⟩)
theorem dA {env:AY}:∀ {names:List (Str×NameKind)} {x:Str},names.lookup x=some .free ->
  (names.map λ (n,k)=>if (k == A7&&env.scope.kind == .function&&env.kindOf n == some .cell) then (n,C2) else (n,k)).lookup x=some .cell \/
  (names.map λ (n,k)=>if (k == A7&&env.scope.kind == .function&&env.kindOf n == some .cell) then (n,C2) else (n,k)).lookup x=some .free
 | [],_,h=>by simp at h
 | (n,k)::r,x,h=>by
  have ih:=@dA env r x;simp only[wm];cases hx:x == n with
  | true=>
   simp only[wJ,hx] at h;cases h;by_cases hc:(A7 == A7&&env.scope.kind == .function&&env.kindOf n == some .cell)=true
   ·rw[if_pos hc];left;simp[wJ,hx]
   ·rw[if_neg hc];right;simp[wJ,hx]
  | false=>
   simp only[wJ,hx] at h;by_cases hc:(k == A7&&env.scope.kind == .function&&env.kindOf n == some .cell)=true
   ·rw[if_pos hc];simp only[wJ,hx];exact ih h
   ·rw[if_neg hc];simp only[wJ,hx];exact ih h
theorem du {env:AY}:∀ {names:List (Str×NameKind)} {x:Str} {kd:NameKind},(∀ y∈names,y.2≠.cell)->kd=.cell\/kd=.free ->
  (names.map λ (n,k)=>if (k == A7&&env.scope.kind == .function&&env.kindOf n == some .cell) then (n,C2) else (n,k)).lookup x=some kd->(x,A7)∈names
 | [],_,_,_,_,h=>by simp at h
 | (n,k)::r,x,kd,nc,hk,h=>by
  have ih:=@du env r x kd (λ y hy=>nc y (wd _ hy)) hk;simp only[wm] at h;cases hx:x == n with
  | true=>
   have e:x=n:=by simpa using hx
   subst e;by_cases hc:(k == A7&&env.scope.kind == .function&&env.kindOf x == some .cell)=true
   ·have:k=.free:=by
     simp only[wq,beq_iff_eq] at hc;exact hc.1.1
    subst this;exact we
   ·rw[if_neg hc] at h
    simp only[wJ,hx] at h;have e2:k=kd:=by simpa using h
    subst e2
    rcases hk with rfl|rfl
    ·exact absurd rfl (nc (x,.cell) we)
    ·exact we
  | false=>
   refine wd _ (ih ?_);by_cases hc:(k == A7&&env.scope.kind == .function&&env.kindOf n == some .cell)=true
   ·rw[if_pos hc] at h;simp only[wJ,hx] at h;exact h
   ·rw[if_neg hc] at h;simp only[wJ,hx] at h;exact h
theorem mem_lookup {α β:Type}[BEq α][LawfulBEq α]:∀ {l:List (α×β)} {x:α} {y:β},l.lookup x=some y->(x,y)∈l
 | [],_,_,h=>by simp at h
 | (a,b)::r,x,y,h=>by
  rw[wJ] at h;cases hx:x == a with
  | true=>
   rw[hx] at h;have e:x=a:=by simpa using hx
   subst e;cases h;exact we
  | false=>rw[hx] at h;exact wd _ (mem_lookup h)
def STs (C:Ctx)(ifs:List Expr)(f:EE):Prop:=
 ∃ t:TT,(∀ (pins:List (Addr×Obj)) (s:Shared) (σ:St) (H:Hp) (Q:Bool->Hp->Prop),Inv C.X pins σ H s->t σ H Q ->
  wpAny (model C.X.prog C.X.w) C.X.A (forIn ifs true λ c r=>if r=true then do let ok <- isTrue c C.X.env (eval c C.X.env);pure (Bv ok) else pure (Bv r)) (TP C.X pins σ Q) C.X.xe s)/\TakC C t f
theorem bK {C:Ctx}:STs C [] (Dv.eBl true):=
 ⟨λ _ H Q=>Q true H,λ pins s σ H Q I h=>wpAny_tests_nil ⟨H,I,h⟩,λ σ H Hv ρ Q e s q=>by
  obtain⟨b,e1,q⟩:=q.now (v:=.bl true) s aZ rfl;cases e1;exact q⟩
theorem sM {C:Ctx}{c:Expr}{f:EE}(h:SC C c f):STs C [c] f:=by
 obtain⟨t,p,q⟩:=h;exact⟨t,λ pins s σ H Q I h=>wpAny_tests_one (p pins s σ H Q I h),q⟩
theorem gL {P:Program}{w:World}{H:Hp}{h:Heap}{a:Addr}{o:HO}(x:HOk P w H h)(hn:H a=none)(new:ObjOk P w (upd H a o) h a o):HOk P w (upd H a o) h:=λ b u e=>by
 by_cases hb:b=a
 ·subst hb;rw[ax] at e;cases e;exact new
 ·rw[aq hb] at e
  exact(x b u e).stay (λ c v _ q=>q) (λ c q=>by rw[aq (au q hn)];exact q) λ c xs q=>by rw[aq (au q hn)];exact q
theorem qE {P:Program}{w:World}{H:Hp}{h h':Heap}{a:Addr}(x:HOk P w H h)(hn:H a=none)(k:∀ b o,b≠a->h.get? b=some o->h'.get? b=some o):HOk P w H h':=λ b u e=>by
 refine(x b u e).stay (λ c v hc q=>k c v ?_ q) (λ c q=>q) λ c xs q=>q
 rcases hc with rfl|hc
 ·exact au e hn
 ·exact au hc hn
section
variable {C:Ctx}
theorem oq {ρ:Dv.Env}{is:List Nat}{j:Nat}{d:D}(h:(Dv.pick ρ is)[j]?=some (some d)):∃ i,is[j]?=some i/\ρ[i]?=some (some d):=by
 unfold Dv.pick at h;rw[wH] at h;cases q:is[j]? with
 | none=>rw[q] at h;cases h
 | some i=>
  rw[q] at h;have h':(ρ[i]?).getD none=some d:=Option.some.inj h;refine⟨i,rfl,?_⟩;cases z:ρ[i]? with
  | none=>rw[z] at h';cases h'
  | some o=>rw[z] at h';exact congrArg some h'
def bO (σ:St)(is:List Nat):St:=is.map λ i=>(σ[i]?).getD none
theorem l9 {σ:St}{is:List Nat}{j i:Nat}{v:V}(hi:is[j]?=some i)(h:σ[i]?=some (some v)):(bO σ is)[j]?=some (some v):=by
 unfold bO;rw[wH,hi];show some ((σ[i]?).getD none)=_
 rw[h];rfl
theorem oO {σ:St}{is:List Nat}{j:Nat}{v:V}(h:(bO σ is)[j]?=some (some v)):∃ i,is[j]?=some i/\σ[i]?=some (some v):=by
 unfold bO at h;rw[wH] at h;cases q:is[j]? with
 | none=>rw[q] at h;cases h
 | some i=>
  rw[q] at h;have h':(σ[i]?).getD none=some v:=Option.some.inj h;refine⟨i,rfl,?_⟩;cases z:σ[i]? with
  | none=>rw[z] at h';cases h'
  | some o=>rw[z] at h';exact congrArg some h'
end
theorem nh {Hv1 H1 Hvn Hn Hv' H':Hp}(x:Ext Hv1 H1 Hvn Hn)(y:Ext Hv1 Hn Hv' H'):∃ Hvm,Ext Hvn Hn Hvm H'/\Same Hv' Hvm:=by
 refine⟨λ b=>match Hn b with|none=>H' b|some _=>Hvn b,⟨y.hh,λ b o q=>?_,λ b o q=>?_,λ b o q n=>?_,λ b q=>?_,y.nf⟩,λ b o q=>?_⟩
 ·show (match Hn b with|none=>H' b|some _=>Hvn b)=some o
  cases z:Hn b with
  | none=>rw[x.vh b o q] at z;cases z
  | some _=>exact q
 ·have q':(match Hn b with|none=>H' b|some _=>Hvn b)=some o:=q
  cases z:Hn b with
  | none=>rw[z] at q';exact q'
  | some u=>rw[z] at q';exact y.hh _ _ (x.vh b o q')
 ·have q':(match Hn b with|none=>H' b|some _=>Hvn b)=some o:=q
  cases z:Hn b with
  | none=>rfl
  | some u=>rw[z] at q';rw[n] at q';cases q'
 ·show (match Hn b with|none=>H' b|some _=>Hvn b)=H' b
  rw[q]
 ·show (match Hn b with|none=>H' b|some _=>Hvn b)=some o
  cases z:Hn b with
  | none=>exact y.vh b o q
  | some u=>
   cases z2:Hv1 b with
   | none=>have:=y.new b o q z2;rw[z] at this;cases this
   | some u'=>
    have h1:=y.vv b u' z2;rw[q] at h1;cases h1;exact x.vv b o z2
section
variable {C:Ctx}{elt iter:Expr}{x:Str}{px pos:Pos}{ifs:List Expr}{scope:Scope}{fs:List Str}{is:List Nat}{fi:EI}{fe fc:EE}
def lT (C:Ctx)(pins:List (Addr×Obj))(σ:St)(Q:VK)(Da L:Addr)(s5:Shared):Prop:=
 (∃ m,s5.heap.Ns L m)/\L≠C.X.env.locals/\(∀ x c,C.X.env.cells.lookup x=some c->c≠L)/\C.X.s₀.heap.objs.size<=L/\(∀ p∈C.X.pn++pins,p.1≠L) /\
  ∃ H',H' L=none/\Q (.ref Da) H'/\∀ h',(∀ b,b≠L->h'.get? b=s5.heap.get? b)->Inv C.X pins σ H' { s5 with heap:=h' }
end
section
variable {C:Ctx}{a b c e o k:Expr}{es:List Expr}{f g h:EE}{fl:EL}{F G:SS}{pos pos':Pos}{E:Ends}
theorem kY (n d:Nat)(o:Option Int):Dv.cutI n d o=HT.sIx n d o:=by cases o <;>rfl
theorem RpL.drop {K:Av}{H:Hp}:∀ {ds:List D} {vs:List V} (n:Nat),RpL K H ds vs->RpL K H (ds.drop n) (vs.drop n)
 | _,_,0,h=>h
 | [],_,n+1,h=>by unfold RpL at h;subst h;exact .nil
 | d::r,vs,n+1,h=>by
  unfold RpL at h;obtain⟨v,ws,rfl,_,h3⟩:=h;exact RpL.drop n h3
theorem RpL.take {K:Av}{H:Hp}:∀ {ds:List D} {vs:List V} (n:Nat),RpL K H ds vs->RpL K H (ds.take n) (vs.take n)
 | _,_,0,_=>.nil
 | [],_,n+1,h=>by unfold RpL at h;subst h;exact .nil
 | d::r,vs,n+1,h=>by
  unfold RpL at h;obtain⟨v,ws,rfl,h2,h3⟩:=h;exact .cons h2 (RpL.take n h3)
theorem RpL.cut {K:Av}{H:Hp}{ds:List D}{vs:List V}(h:RpL K H ds vs)(lo hi:Option Int):RpL K H (Dv.cutL ds lo hi) (mX vs lo hi):=by
 unfold Dv.cutL mX;rw[h.length,kY,kY];exact(h.drop _).take _
def SO (C:Ctx)(e:Option Expr)(f:Option EE):Prop:=
 ∃ t:TO,PO C.X e t/\∀ σ H Hv ρ (Q:VK) (T:Option Int->Hp->Prop) (k:Option Int->R) Hv1 H1,EnvR C.X.K Hv ρ σ->Ext Hv H Hv1 H1->Ok C.X.K Hv H (C.W σ) C.cls (Dv.ePart f ρ k) Q ->
  (∀ i Hv2 H2,Ext Hv H Hv2 H2->Ext Hv1 H1 Hv2 H2->Ok C.X.K Hv H (C.W σ) C.cls (k i) Q->T i H2)->t σ H1 T
theorem lx:SO C none none:=⟨_,qo,λ σ H Hv ρ Q T k Hv1 H1 e x q n=>n none Hv1 H1 x (.refl x.vh) q⟩
theorem lC (he:SE C e f):SO C (some e) (some f):=by
 obtain⟨t,p,q⟩:=he;refine⟨_,q8 p,λ σ H Hv ρ Q T k Hv1 H1 er x w n=>?_⟩;refine Tak.step q er x w λ v d fr Hv2 H2 hf x2 y2 rp _ w2=>?_
 cases d with
 | int i=>
  unfold Rp at rp;exact⟨i,rp,n (some i) Hv2 H2 x2 y2 w2⟩
 | _=>exact Zf w2
theorem jC {lo hi:Option Expr}{fl fh:Option EE}{p2:Pos}(he:SE C e f)(hl:SO C lo fl)(hh:SO C hi fh):SE C (.Subscript e (.Slice lo hi none p2) pos) (Dv.eSlice f fl fh):=by
 obtain⟨t,p,q⟩:=he;obtain⟨tl,pl,ql⟩:=hl;obtain⟨th,ph,qh⟩:=hh;refine⟨_,o8 p0 p pl ph,λ σ H Hv ρ Q er s w=>?_⟩;refine Tak.step q er (.refl s) w λ v d fr Hv1 H1 _ x1 _ rp1 n1 w1=>?_
 refine ql σ H Hv ρ Q _ _ Hv1 H1 er x1 w1 λ i Hv2 H2 x2 y2 w2=>?_
 refine qh σ H Hv ρ Q _ _ Hv2 H2 er x2 w2 λ j Hv3 H3 x3 y3 w3=>?_
 have y13:=y2.trans y3;cases d with
 | lst ds=>
  cases fr with
  | true=>
   have rn:=(n1 rfl).same (Hnew.mono (.refl _) y13.hh);unfold Rp at rn;obtain⟨l,vs,rfl,h1,h2⟩:=rn;have h1':SqX C.X.K H3 l vs:=by
    rcases h1 with h1|⟨its,n,e,_⟩
    ·exact .inl (Rd.same Hnew.sub h1)
    ·simp at e
   exact⟨l,vs,rfl,h1'.seq,λ p hp=>Ok.newL (fr:=true || Dv.flatL (Dv.cutL ds i j)) w3 x3 (((RpL.frag h2).same x3.news).cut i j) (λ _=>h2.cut i j) p hp⟩
  | false=>
   have rp:=rp1.same y13.vv;unfold Rp at rp;obtain⟨l,vs,rfl,h1,h2⟩:=rp;exact⟨l,vs,rfl,(h1.same x3.vh).seq,λ p hp=>Ok.newL (fr:=false || Dv.flatL (Dv.cutL ds i j)) w3 x3 (h2.cut i j) (λ z=>(h2.cut i j).flat (by simpa using z)) p hp⟩
 | _=>exact Zf w3
theorem tX:C1S C (.type "int") Dv.intD:=by
 refine⟨_,ml,λ x d fr H Hv H1 Hv1 W Q e rx n q=>?_⟩;cases d with
 | int i=>
  unfold Rp at rx;subst rx;exact .inl ⟨i,rfl,Ok.at (d:=.int i) (fr:=true) q e aV rfl⟩
 | bl i=>
  unfold Rp at rx;subst rx;exact .inr ⟨i,rfl,Ok.at (d:=.int (if i then 1 else 0)) (fr:=true) q e aV rfl⟩
 | _=>exact Zf q
def tyD:D->String
 | .non=>"NoneType"
 | .bl _=>"bool"
 | .int _=>"int"
 | .str _=>"str"
 | .lst _=>"list"
 | .tup _=>"tuple"
 | .exn _=>"BaseException"
 | .raw _=>"BaseException"
 | .tab _=>"BaseException"
 | .ins _ _=>"BaseException"
 | .dct _ _=>"dict"
theorem pL {X:Cx}:de X (.builtin "isinstance") (λ xs H Q=>∃ x d T b,xs=[x,.ty T]/\Rp X.K H d x/\Dv.noTy d=false/\AV X.K (.type (tyD d)) (.type T)=some b/\Q (.bl b) H):=by
 intro pins s σ H xs us Q I r h;obtain⟨x,d,T,b,rfl,rp,hnx,hk,q⟩:=h;obtain⟨u,w',rfl,ru,rw'⟩:=vals2 r;have rw2:w'=Br T:=rw';subst rw2;have fin:∀ tk,EP X pins σ Q (.bool b) { s with toks:=tk }:=λ tk=>⟨.bl b,H,I.tok tk,rfl,q⟩
 cases d with
 | non=>unfold Rp at rp;subst rp;cases ru;exact Bf PySem.W.kitx_none I.kIn BK hk (λ z=>nomatch z) fin
 | bl y=>unfold Rp at rp;subst rp;cases ru;exact Bf PySem.W.kitx_bool I.kIn BK hk (λ z=>nomatch z) fin
 | int i=>unfold Rp at rp;subst rp;obtain⟨t,rfl⟩:=ru;exact Bf PySem.W.kitx_int I.kIn BK hk (λ z=>nomatch z) fin
 | str y=>unfold Rp at rp;subst rp;obtain⟨t,rfl⟩:=ru;exact Bf PySem.W.kitx_str I.kIn BK hk (λ z=>nomatch z) fin
 | lst ds=>
  unfold Rp at rp;obtain⟨l,vs,rfl,h1,h2⟩:=rp;cases ru;obtain⟨its,n,rv,e,_⟩:=Inv.listX I h1;exact Bf PySem.W.kitx_list I.kIn ⟨_,e,rfl⟩ hk (λ z=>nomatch z) fin
 | tup ds=>
  unfold Rp at rp;obtain⟨l,vs,rfl,h1,h2⟩:=rp;cases ru;obtain⟨_,its,rv,ob,e,hc,n,hd⟩:=h1.ok I.hok;exact Bf PySem.W.kitx_tuple I.kIn ⟨ob,e,hc⟩ hk (λ z=>nomatch z) fin
 | exn c=>exact absurd hnx (by simp[Dv.noTy])
 | raw c=>exact absurd hnx (by simp[Dv.noTy])
 | ins c d=>exact absurd hnx (by simp[Dv.noTy])
 | tab c=>exact absurd hnx (by simp[Dv.noTy])
 | dct ks ds=>
  unfold Rp at rp;obtain⟨l,vs,rfl,h0,h1,h2⟩:=rp;cases ru;exact Bf PySem.W.kitx_dict I.kIn (sS I (.inl ⟨_,h1⟩)).1 hk (λ z=>nomatch z) fin
theorem iC {x:Str}{T:String}{p p2:Pos}{F:D->Bool->R}(β:D->Bool)(hF:∀ d fr,Dv.noTy d=false->F d fr=.ok (.bl (β d)) true)(hX:∀ d fr,Dv.noTy d=true->F d fr=.bad)(hβ:∀ K d,AV K (.type (tyD d)) (.type T)=some (β d))(hg:Gl C.X "isinstance")(hm:C.X.mg "isinstance"=none)(hgx:Gl C.X x)(hmx:C.X.mg x=none)
  (hvx:bootBuiltins x=some (.type T)) (ha:SE C a f) (hn:autoParam (x≠"__name__") ZC._auto_1) (hdb:autoParam ((x == ("__debug__":Str))=false) ZC._auto_1) (he:autoParam (starEach [a,.Name x p2] C.X.env=(false,eval a C.X.env)::starEach [.Name x p2] C.X.env) ZE._auto_1)
  (he2:autoParam (starEach [.Name x p2] C.X.env=[(false,eval (.Name x p2) C.X.env)]) ZE._auto_1):SE C (.Call (.Name "isinstance" p) [a,.Name x p2] [] pos) (Dv.eB1 F f):=by
 obtain⟨t,pa,qa⟩:=ha;refine⟨_,jZ pL hg hm (by decide +kernel) (aH pa (aH (qd (v:=.ty T) hgx hmx hvx rfl hn hdb) bD he2) he) (by decide) (by decide) he (by rw[he2];rfl),λ σ H Hv ρ Q e s w=>?_⟩;refine qa.step e (.refl s) w λ v d fr Hv1 H1 _ x1 _ rp1 _ q1=>?_
 by_cases hd:Dv.noTy d=true
 ·rw[hX d fr hd] at q1
  exact q1.elim
 ·have hd':Dv.noTy d=false:=by simpa using hd
  rw[hF d fr hd'] at q1;exact⟨v,d,T,β d,rfl,rp1.same x1.vh,hd',hβ _ d,q1.at x1 aZ rfl⟩
def u5:D->Bool
 | .int _=>true
 | .bl _=>true
 | _=>false
def rR:D->Bool
 | .bl _=>true
 | _=>false
def rG:D->Bool
 | .lst _=>true
 | _=>false
theorem qW (K:Av)(d:D):AV K (.type (tyD d)) (.type "int")=some (u5 d):=by cases d <;>rfl
theorem oZ (K:Av)(d:D):AV K (.type (tyD d)) (.type "bool")=some (rR d):=by cases d <;>rfl
theorem oN (K:Av)(d:D):AV K (.type (tyD d)) (.type "list")=some (rG d):=by cases d <;>rfl
theorem mU (d:D)(fr:Bool)(h:Dv.noTy d=false):Dv.isIntD d fr=.ok (.bl (u5 d)) true:=by cases d <;>first|rfl|exact absurd h (by simp[Dv.noTy])
theorem kq (d:D)(fr:Bool)(h:Dv.noTy d=false):Dv.isBoolD d fr=.ok (.bl (rR d)) true:=by cases d <;>first|rfl|exact absurd h (by simp[Dv.noTy])
theorem kj (d:D)(fr:Bool)(h:Dv.noTy d=false):Dv.isListD d fr=.ok (.bl (rG d)) true:=by cases d <;>first|rfl|exact absurd h (by simp[Dv.noTy])
theorem rZ {i:Nat}{x:Str}{px kpos:Pos}(he:SE C e f)(hk:SE C k g)(hN:autoParam (C.X.N[i]?=some x) ZE._auto_1)(hv:autoParam (Vis C.X.env.scope x) ZG._auto_1)
    (hd:autoParam ((x == ("__debug__":Str))=false) ZC._auto_1) (hcd:autoParam ((x == ("__classdict__":Str))=false) ZC._auto_1)
    (ha:autoParam (∀ v,assign (.Subscript (.Name x px) k kpos) C.X.env v=(do
      let ov <- holding [v] (eval (.Name x px) C.X.env)
      let iv <- holding [v,ov] (eval k C.X.env)
      standAt kpos
      holding [v,ov,iv] (setItem ov iv v)
      release [v,ov,iv] [])) ZD._auto_1)
    (hs:autoParam (swapsWithSole [.Subscript (.Name x px) k kpos] e pos.line C.X.env=pure false) ZE._auto_1) (hw:autoParam (swappedStores [.Subscript (.Name x px) k kpos] e C.X.env=pure none) ZE._auto_1)
    (h1:autoParam ((assignEach [.Subscript (.Name x px) k kpos] C.X.env).map (·.2)=[assign (.Subscript (.Name x px) k kpos) C.X.env]) ZE._auto_1):SSt C (.Assign [.Subscript (.Name x px) k kpos] e pos) (Dv.sPut i g f):=by
  obtain⟨t,p,q⟩:=he;obtain⟨t2,p2,q2⟩:=hk;refine⟨_,iy p (nL (cW hN hv hd hcd) p2 set_list ha) hs hw h1,λ Hv₀ H₀ E σ H st ⟨Hc,O,r⟩ w=>?_⟩;unfold Dv.sPut at w;cases hi:st[i]? with
  | none=>rw[hi] at w;exact Zf w
  | some s=>
    rw[hi] at w;cases s with
    | no=>exact Zf w
    | sh d=>exact Zf w
    | dp d=>exact Zf w
    | jk n m=>exact Zf w
    | ow d0=>
     cases d0 with
     | non=>exact Zf w
     | bl _=>exact Zf w
     | int _=>exact Zf w
     | str _=>exact Zf w
     | tup _=>exact Zf w
     | exn _=>exact Zf w
     | raw _=>exact Zf w
     | ins _ _=>exact Zf w
     | tab _=>exact Zf w
     | dct _ _=>exact Zf w
     | lst ds=>
      obtain⟨a,vs,h1,h2,h5⟩:=r.own hi;refine q.all r (λ c hf H' r'=>?_) (λ hf=>?_) λ d fr v Hv' H' hf x r' rp n=>?_
      · simp only[hf] at w;exact w σ H' ⟨Hc,O,r'⟩
      · simp only[hf] at w;exact w
      · simp only[hf] at w
        refine⟨_,h1,?_⟩;refine q2.all r' (λ c hg H2 r2=>?_) (λ hg=>?_) λ d2 fr2 v2 Hv2 H2 hg x2 r2 rp2 n2=>?_
        · simp only[hg] at w;exact w σ H2 ⟨Hc,O,r2⟩
        · simp only[hg] at w;exact w
        · simp only[hg] at w
          cases d2 with
          | int j=>
            unfold Rp at rp2;by_cases z:(Dv.scal d&&decide (0<=j)&&decide (j<ds.length))=true
            · simp only[z,if_true] at w
              simp only[wq,decide_eq_true_eq] at z;have hl:=h5.length;obtain⟨O',r3⟩:=r2.put hi h1 (h5.set (rp.scal z.1.1) j.toNat);refine⟨a,vs,j,j.toNat,rfl,rp2,x2.hh _ _ (x.hh _ _ h2),?_,w σ _ ⟨Hc,O',r3⟩⟩;unfold ixN;rw[if_pos z.1.2,if_pos (by rw[hl];exact z.2)]
            · simp only[z] at w
              exact Zf w
          | _=>exact Zf w
def SGs (C:Ctx)(ts:List Expr)(xs:List Nat):Prop:=
 ∃ t:TGs,PGs C.X ts t/\∀ Hv₀ H₀ Hc O H σ s ds vs T,RelC C.X.K Hv₀ H₀ Hc O s σ H->RpL C.X.K Hc ds vs->ds.length=xs.length->(∀ σ',RelC C.X.K Hv₀ H₀ Hc O (Dv.setAll xs ds s) σ' H->T σ' H)->t vs σ H T
theorem fZ:SGs C [] []:=⟨_,qp,λ Hv₀ H₀ Hc O H σ s ds vs T r rp hl h=>by
 cases ds with
 | nil=>unfold RpL at rp;exact⟨rp,h σ r⟩
 | cons d ds=>cases hl⟩
theorem bf {i:Nat}{x:Str}{ts:List Expr}{xs:List Nat}(hs:SGs C ts xs)(hN:C.X.N.Nodup)(hi:C.X.N[i]?=some x)(hx:Loc C.X.env.scope x)(hf:autoParam (C.X.fn x=true\/C.X.env.scope.names.lookup x=some .local) ZB._auto_1)
  (ha:autoParam ((assignEach (.Name x pos::ts) C.X.env).map (·.2)=assign (.Name x pos) C.X.env::(assignEach ts C.X.env).map (·.2)) ZE._auto_1):SGs C (.Name x pos::ts) (i::xs):=by
 obtain⟨t,p,q⟩:=hs;refine⟨_,pD (iJ hN hi hx hf) p ha,λ Hv₀ H₀ Hc O H σ s ds vs T r rp hl h=>?_⟩;cases ds with
 | nil=>cases hl
 | cons d ds=>
  unfold RpL at rp;obtain⟨v,ws,rfl,h1,h2⟩:=rp;exact⟨v,ws,rfl,q Hv₀ H₀ Hc O H _ _ ds ws T (r.setSh h1) h2 (by simpa using hl) h⟩
theorem eE (is:List Nat){ts:List Expr}{xs:List Nat}{kt:Nat}{tpos:Pos}(he:SE C e f)(hg:SGs C ts xs)(hl:ts.length=xs.length)(hn:autoParam ((assignEach ts C.X.env).length=ts.length) ZE._auto_1)(hst:autoParam ((assignEach ts C.X.env).findIdx? (·.1)=none) ZE._auto_1)
  (hs:autoParam (swapsWithSole [.Tuple ts kt tpos] e pos.line C.X.env=pure false) ZE._auto_1) (hw:autoParam (swappedStores [.Tuple ts kt tpos] e C.X.env=pure none) ZE._auto_1) (h1:autoParam ((assignEach [.Tuple ts kt tpos] C.X.env).map (·.2)=[assign (.Tuple ts kt tpos) C.X.env]) ZE._auto_1) (hcl:autoParam (C.X.calm=true) ZE._auto_1):
  SSt C (.Assign [.Tuple ts kt tpos] e pos) (Dv.sUnpack is xs f):=by
 obtain⟨t,p,q⟩:=he;obtain⟨g,pg,qg⟩:=hg;refine⟨_,iy p (pH hcl pg hn hst) hs hw h1,λ Hv₀ H₀ E σ H st ⟨Hc0,O0,r0⟩ w=>?_⟩;obtain⟨Hc,O,_,r⟩:=r0.give is;unfold Dv.sUnpack at w;refine q.open r (λ c hf Hc' H' x=>?_) (λ hf=>?_) λ d fr v Hc' H' hf x r' rp=>?_
 ·simp only[hf] at w;exact w σ H' ⟨Hc0,O0,r0.grow x.hh x.nf⟩
 ·simp only[hf] at w;exact w
 ·simp only[hf] at w
  cases d with
  | tup ds=>
   by_cases hz:ds.length=xs.length
   ·simp only[hz,if_true] at w
    unfold Rp at rp;obtain⟨a,vs,rfl,h2,h3⟩:=rp;exact⟨a,vs,rfl,.inl (Rd.same x.vh h2),by rw[h3.length,hz,hl],qg Hv₀ H₀ Hc' O H' σ _ ds vs _ r' h3 hz λ σ' r2=>w σ' H' ⟨Hc',O,r2⟩⟩
   ·simp only[hz,if_false] at w;exact Zf w
  | _=>exact Zf w
theorem tZ (is:List Nat){i j:Nat}{x y:Str}{px py pt:Pos}{kt k2:Nat}{pt2:Pos}(ha:SE C a f)(hb:SE C b g)(hN:C.X.N.Nodup)(hi:C.X.N[i]?=some x)(hj:C.X.N[j]?=some y)(hij:i≠j)
  (hx:C.X.env.scope.names.lookup x=some .local) (hy:C.X.env.scope.names.lookup y=some .local) (hw:autoParam (swappedStores [.Tuple [.Name x px,.Name y py] kt pt] (.Tuple [a,b] k2 pt2) C.X.env=pure (some [x,y])) ZE._auto_1)
  (hs:autoParam (swapsWithSole [.Tuple [.Name x px,.Name y py] kt pt] (.Tuple [a,b] k2 pt2) pos.line C.X.env=pure false) ZE._auto_1) (he:autoParam (starEach [a,b] C.X.env=(false,eval a C.X.env)::starEach [b] C.X.env) ZE._auto_1) (he2:autoParam (starEach [b] C.X.env=[(false,eval b C.X.env)]) ZE._auto_1) (hcl:autoParam (C.X.calm=true) ZE._auto_1):
  SSt C (.Assign [.Tuple [.Name x px,.Name y py] kt pt] (.Tuple [a,b] k2 pt2) pos) (Dv.sPar is i j f g):=by
 obtain⟨t,p,q⟩:=ha;obtain⟨u,p2,q2⟩:=hb;refine⟨_,sj hcl hN hi hj hij hx hy (aH p (aH p2 bD he2) he) hw hs,λ Hv₀ H₀ E σ H st ⟨Hc0,O0,r0⟩ w=>?_⟩;obtain⟨Hc,O,_,r⟩:=r0.give is;unfold Dv.sPar at w;refine q.open r (λ c hf Hc' H' x=>?_) (λ hf=>?_) λ d fr v Hc' H' hf x r' rp=>?_
 ·simp only[hf] at w;exact w σ H' ⟨Hc0,O0,r0.grow x.hh x.nf⟩
 ·simp only[hf] at w;exact w
 ·simp only[hf] at w
  refine q2.open r' (λ c hg Hc2 H2 x2=>?_) (λ hg=>?_) λ d2 fr2 v2 Hc2 H2 hg x2 r2 rp2=>?_
  ·simp only[hg] at w
   have xx:=x.trans x2;exact w σ H2 ⟨Hc0,O0,r0.grow xx.hh xx.nf⟩
  ·simp only[hg] at w;exact w
  ·simp only[hg] at w
   exact⟨v,v2,rfl,w _ H2 ⟨Hc2,O,(r2.setSh (rp.same x2.vv)).setSh rp2⟩⟩
end
def ItZ (K:Av)(l1 l2:Addr):It:=
  ⟨λ i H=>∃ (xs ys:List V) (x y:V),SqL K H l1 xs/\SqL K H l2 ys/\xs[i]?=some x/\ys[i]?=some y,
   λ i H v H'=>∃ p,H p=none/\v=.ref p/\∀ xs ys,SqL K H l1 xs->SqL K H l2 ys->∃ x y,xs[i]?=some x/\ys[i]?=some y/\H'=upd H p (.tup [x,y]),
   λ i H=>∃ xs ys,SqL K H l1 xs/\SqL K H l2 ys/\(xs.length<=i\/ys.length<=i)⟩
theorem Inv.but {X:Cx}{pins:List (Addr×Obj)}{σ:St}{H:Hp}{s:Shared}{ch:List Addr}{h':Heap}(I:Inv X pins σ H s)(hf:∀ b∈ch,fH X pins H b)(k:∀ b o,b∉ch->s.heap.get? b=some o->h'.get? b=some o):Inv X pins σ H { s with heap:=h' }:=by
 have nch:∀ b u,H b=some u->b∉ch:=λ b u e hb=>by rw[(hf b hb).1] at e;cases e
 refine I.step (g':=s.gens) (d':=s.drawn) (t':=s.toks) (ch:=ch) (λ b hb=>⟨(hf b hb).2.2.2.1,(hf b hb).2.1,(hf b hb).2.2.2.2.1,(hf b hb).2.2.2.2.2⟩) (λ b o _ _ hc e _=>k b o hc e) (λ b o _ _ hc e _=>⟨o.slots,k b o hc e⟩) (λ _ _ _ _ n=>n)
  (λ b o hc e=>⟨o,k b o hc e⟩) (λ _ _ e=>e) (λ _ _ _ e=>e) (λ b ps e=>⟨#[],by rw[e];simp⟩) (λ m hm=>?_) (λ b u e=>?_) I.bare
 ·obtain⟨o,es,ep,ho,r⟩:=hm
  exact⟨o,es,ep,k _ _ (λ hb=>(hf _ hb).2.1 rfl) ho,r⟩
 ·refine(I.hok b u e).stay (λ c v hc q=>k c v ?_ q) (λ c q=>q) λ c xs q=>q
  rcases hc with rfl|hc
  ·exact nch _ u e
  ·exact nch _ _ hc
theorem nX {P:Program}{w:World}{K:Av}{es:List Expr}{kt:Nat}{tpos:Pos}{z TI TO i1 i2 l1 l2:Addr}(Dz:ZipApart z TI TO i1 i2 l1 l2):
  Turn P w K (.Tuple es kt tpos) (ItZ K l1 l2) [z,TI,TO,i1,i2] z (λ i h=>IsZip h z TI TO .none/\IsPair h TI (.ref i1) (.ref i2)/\(∃ a b,IsPair h TO a b)/\h.IsListIter i1 l1 i/\h.IsListIter i2 l2 i) where
 mem:=by simp
 obj:=λ i h ⟨a1,a2,⟨_,_,a3⟩,⟨o4,e4,_,d4⟩,⟨o5,e5,_,d5⟩⟩ b hb=>by
  simp only[xr,xU,or_false] at hb
  rcases hb with rfl|rfl|rfl|rfl|rfl
  ·exact⟨_,a1,λ v q=>by cases q⟩
  ·exact⟨_,a2,λ v q=>by cases q⟩
  ·exact⟨_,a3,λ v q=>by cases q⟩
  ·exact⟨_,e4,λ v q=>by rw[d4] at q;cases q⟩
  ·exact⟨_,e5,λ v q=>by rw[d5] at q;cases q⟩
 keep:=λ i h h' ⟨a1,a2,⟨x,y,a3⟩,a4,a5⟩ k=>⟨k z (by simp) _ a1,k TI (by simp) _ a2,⟨x,y,k TO (by simp) _ a3⟩,a4.at λ o e=>k i1 (by simp) o e,a5.at λ o e=>k i2 (by simp) o e⟩
 item:=by
  intro X hP hw hK hc i pins s σ H E I hf ⟨a1,a2,⟨xa,xb,a3⟩,a4,a5⟩ hg;subst hP hw hK;obtain⟨xs,ys,x,y,hq1,hq2,hx,hy⟩:=hg;obtain⟨its1,r1,p1,z1⟩:=I.list hq1;obtain⟨its2,r2,p2,z2⟩:=I.list hq2;obtain⟨u1,e1,ru1⟩:=r1.get hx;obtain⟨u2,e2,ru2⟩:=r2.get hy;refine wpAny_pyNext_zip_item Dz a1 a2 a3 a4 a5 p1.isList p2.isList (x:=u1) (y:=u2) (by simpa using e1) (by simpa using e2) λ h' b1 b2 b3 b4 b5 b6 kk=>?_
  refine⟨_,rfl,wpAny_letOwnedTupleGo_zip b1 λ h2 hz sb=>?_⟩;have hf0:H s.heap.objs.size=none:=I.hok.fresh (wu _);have ltz:s.heap.objs.size≠z:=yy (Az a1);have kept:∀ b o,b∉[z,TI,TO,i1,i2]->s.heap.get? b=some o->h2.get? b=some o:=λ b o hb e=>by
   simp only[xr,xU,or_false,not_or] at hb;exact(sb.2 b hb.1).trans (kk b o hb.1 hb.2.2.1 hb.2.2.2.1 hb.2.2.2.2 e)
  have I2:Inv X pins σ H { s with heap:=h2 }:=Inv.but I hf kept;have tp:IsTup h2 s.heap.objs.size #[u1,u2]:=⟨_,(sb.2 _ ltz).trans b5,rfl,_,rfl⟩;have I3:Inv X pins σ (upd H s.heap.objs.size (.tup [x,y])) { s with heap:=h2 }:=by
   have hk2:HOk X.prog X.w (upd H s.heap.objs.size (.tup [x,y])) h2:=gL I2.hok hf0 ⟨by show 2<=sizeLine;decide,[u1,u2],.cons ru1 (.cons ru2 .nil),tp⟩;have nsz:∀ b o,s.heap.get? b=some o->b≠s.heap.objs.size:=λ b o e=>wz (Az e)
   refine I.step (g':=s.gens) (d':=s.drawn) (t':=s.toks) (ch:=[z,TI,TO,i1,i2]) (λ b hb=>⟨(hf b hb).2.2.2.1,(hf b hb).2.1,(hf b hb).2.2.2.2.1,(hf b hb).2.2.2.2.2⟩) (λ b o _ _ hc e _=>kept b o hc e) (λ b o _ _ hc e _=>⟨o.slots,kept b o hc e⟩) (λ b o _ e n=>by rw[aq (nsz b o e)];exact n)
    (λ b o hc e=>⟨o,kept b o hc e⟩) (λ b us e=>by rw[aq (au e hf0)];exact e) (λ b ob us e=>by rw[aq (au e hf0)];exact e) (λ b ps e=>⟨#[],by rw[aq (au e hf0),e];simp⟩) (λ m hm=>?_) hk2 I.bare
   obtain⟨o,es,ep,ho,r⟩:=hm;exact⟨o,es,ep,kept _ _ (λ hb=>(hf _ hb).2.1 rfl) ho,r⟩
  have c4:h2.IsListIter i1 l1 (i+1):=b3.extBut sb.extBut Dz.i1z;have c5:h2.IsListIter i2 l2 (i+1):=b4.extBut sb.extBut Dz.i2z;refine⟨.ref s.heap.objs.size,_,I3,rfl,⟨s.heap.objs.size,hf0,rfl,λ as bs h1 h2'=>?_⟩,⟨hz,?_,⟨u1,u2,(sb.2 TO Dz.TOz).trans b2⟩,c4,c5⟩,λ b hb=>?_⟩
  ·exact⟨x,y,by rw[I.list_inj h1 hq1];exact hx,by rw[I.list_inj h2' hq2];exact hy,rfl⟩
  ·exact(sb.2 TI Dz.TIz).trans (kk TI _ Dz.TIz Dz.TITO Dz.TIi1 Dz.TIi2 a2)
  ·have hbs:b≠s.heap.objs.size:=by
    simp only[xr,xU,or_false] at hb
    rcases hb with rfl|rfl|rfl|rfl|rfl
    ·exact wz (Az a1)
    ·exact wz (Az a2)
    ·exact wz (Az a3)
    ·obtain⟨o,e,_⟩:=a4;exact wz (Az e)
    ·obtain⟨o,e,_⟩:=a5;exact wz (Az e)
   rw[aq hbs];exact(hf b hb).1
 done:=by
  intro X hP hw hK hc i pins s σ H E I hf ⟨a1,a2,⟨xa,xb,a3⟩,a4,a5⟩ hg;subst hP hw hK;obtain⟨xs,ys,hq1,hq2,hx⟩:=hg;obtain⟨its1,r1,p1,z1⟩:=I.list hq1;obtain⟨its2,r2,p2,z2⟩:=I.list hq2;have n1:=r1.length;have n2:=r2.length;refine wpAny_pyNext_zip_end (I.ok.hd hc) Dz a1 a2 a3 a4 a5 p1.isList p2.isList (by
   rcases hx with hx|hx
   ·left;simp;omega
   ·right;simp;omega) λ h' kk=>⟨rfl,Inv.but I hf λ b o hb e=>?_⟩
  simp only[xr,xU,or_false,not_or] at hb;exact kk b o hb.1 hb.2.2.1 hb.2.2.2.1 hb.2.2.2.2 e
 self:=λ _ _ _ _ _ st h=>wpAny_pyIter_zip st.1 h
def uw (K:Av)(ta:TA):TI:=λ σ H T=>ta σ H λ vs H1=>∃ l1 l2 xs ys,vs=[.ref l1,.ref l2]/\SqL K H1 l1 xs/\SqL K H1 l2 ys/\T (ItZ K l1 l2) H1
theorem sd {X:Cx}{a b:Expr}{ta:TA}{es:List Expr}{kt:Nat}{tpos p pos:Pos}(hg:Gl X "zip")(hm:X.mg "zip"=none)(ha:PA X [a,b] ta)(hs:starEach [a,b] X.env=[(false,eval a X.env),(false,eval b X.env)])(hs2:starEach [b] X.env=[(false,eval b X.env)]):
  PI X (.Tuple es kt tpos) (.Call (.Name "zip" p) [a,b] [] pos) (uw X.K ta):=by
 intro pins s σ H R I h;refine Call_ (ck I hg hm (by decide +kernel:bootBuiltins "zip"=some (.type "zip")) (AX (thn (ha pos pins s σ H _ I h) λ us s1 ⟨vs,H1,I1,r1,q1⟩=>?_) (by rw[hs,hs2]) (by rw[hs2];rfl)));obtain⟨l1,l2,xs,ys,rfl,hq1,hq2,q⟩:=q1;obtain⟨u1,u2,rfl,e1,e2⟩:=vals2 r1;cases e1;cases e2;obtain⟨its1,rr1,p1,z1⟩:=I1.list hq1;obtain⟨its2,rr2,p2,z2⟩:=I1.list hq2;refine call_zip_2 p1.isList p2.isList λ h' c1 c2 c3 c4 c5 c6 kk=>?_
 have lt1:l1<s1.heap.objs.size:=by obtain⟨o,e,_⟩:=p1.isList;exact Az e
 have lt2:l2<s1.heap.objs.size:=by obtain⟨o,e,_⟩:=p2.isList;exact Az e
 have I2:Inv X pins σ H1 { s1 with heap:=h' }:=I1.kept (t':=s1.toks) kk;generalize hN:s1.heap.objs.size=N at c1 c2 c3 c4 c5 c6 lt1 lt2 ⊢;have Dz:ZipApart (N+4) (N+2) (N+3) N (N+1) l1 l2:=by
  have far:∀ {l:Addr},l<N->∀ k:Nat,l≠N+k:=λ h k=>wz (wD h (xV _ _))
  have ne:∀ {a b:Nat},a<b->a≠b:=λ h=>wz h
  have ne':∀ {a b:Nat},b<a->a≠b:=λ h=>yy h
  exact⟨ne ⋯,ne ⋯,ne ⋯,ne ⋯,ne ⋯,ne' ⋯,ne' ⋯,ne' ⋯,ne' ⋯,ne ⋯,far lt1 4,far lt1 3,wz lt1,far lt1 1,far lt2 4,far lt2 3,wz lt2,far lt2 1⟩
 refine wpAny_pyIter_zip c1 ⟨N+4,[N+4,N+2,N+3,N,N+1],_,_,H1,rfl,I2,nX Dz,⟨c1,c2,⟨_,_,c3⟩,c4,c5⟩,λ b hb=>?_,q⟩;have hb':s1.heap.objs.size<=b:=by
  rw[hN];simp only[xr,xU,or_false] at hb
  rcases hb with rfl|rfl|rfl|rfl|rfl
  ·exact xV _ _
  ·exact xV _ _
  ·exact xV _ _
  ·exact wu _
  ·exact xV _ _
 exact I1.fpOk hb' (I1.hok.fresh hb')
theorem zip_get {xs ys:List D}{i:Nat}{d:D}(h:(List.zipWith (λ x y=>D.tup [x,y]) xs ys)[i]?=some d):∃ x y,xs[i]?=some x/\ys[i]?=some y/\d=.tup [x,y]:=by
 rw[List.getElem?_zipWith] at h;cases h1:xs[i]? with
 | none=>rw[h1] at h;cases h
 | some x=>
  cases h2:ys[i]? with
  | none=>rw[h1,h2] at h;cases h
  | some y=>rw[h1,h2] at h;cases h;exact⟨x,y,rfl,rfl,rfl⟩
theorem tm {C:Ctx}{a b:Expr}{f g:EE}{es:List Expr}{kt:Nat}{tpos p pos:Pos}(hg:Gl C.X "zip")(hm:C.X.mg "zip"=none)(ha:SE C a f)(hb:SE C b g)(hs:autoParam (starEach [a,b] C.X.env=[(false,eval a C.X.env),(false,eval b C.X.env)]) ZE._auto_1)(hs2:autoParam (starEach [b] C.X.env=[(false,eval b C.X.env)]) ZE._auto_1):
  SI C (.Tuple es kt tpos) (.Call (.Name "zip" p) [a,b] [] pos) (Dv.iZip f g):=by
 obtain⟨t,pe,q⟩:=ha;obtain⟨t2,pe2,q2⟩:=hb;refine⟨_,sd hg hm (aH pe (aH pe2 bD hs2) (by rw[hs,hs2])) hs hs2,λ σ H Hv ρ T er s w=>?_⟩;refine q σ H Hv ρ _ er s ?_
 unfold Dv.iZip at w;cases hf:f ρ with
 | bad=>rw[hf] at w;exact w
 | exc c=>rw[hf] at w;exact w
 | ok d fr=>
  rw[hf] at w;intro v Hv' H' x rp n;cases d with
  | lst xs=>
   refine q2 σ H' Hv' ρ _ (er.same x.vv) x.vh ?_
   cases hg':g ρ with
   | bad=>simp only[hg'] at w;exact w
   | exc c=>simp only[hg'] at w;exact λ Hv2 H2 y=>w Hv2 H2 (x.trans y)
   | ok d2 fr2=>
    simp only[hg'] at w;intro v2 Hv2 H2 y rp2 n2;cases d2 with
    | lst ys=>
     have rp1:=rp.same y.vv;unfold Rp at rp1 rp2;obtain⟨l1,vs,rfl,h1,h2⟩:=rp1;obtain⟨l2,ws,rfl,h3,h4⟩:=rp2;refine⟨l1,l2,vs,ws,rfl,(h1.same y.vh).seq,(h3.same y.vh).seq,w _ Hv2 H2 (x.trans y) λ i H3 s3=>⟨λ d hd=>?_,λ hi=>?_⟩⟩
     ·obtain⟨dx,dy,g1,g2,rfl⟩:=zip_get hd
      obtain⟨vx,k1,k2⟩:=h2.get g1;obtain⟨vy,k3,k4⟩:=h4.get g2;refine⟨⟨vs,ws,vx,vy,(h1.same s3).seq,(h3.same s3).seq,k1,k3⟩,λ u H4 ⟨p,hp,e1,hh⟩=>?_⟩;obtain⟨x',y',m1,m2,rfl⟩:=hh vs ws (h1.same s3).seq (h3.same s3).seq;rw[k1] at m1;rw[k3] at m2;cases m1;cases m2;subst e1;have nx:=Ext.new1 s3 hp (.tup [vx,vy]);refine⟨_,nx,?_⟩;unfold Rp;exact⟨p,_,rfl,.inl ax,.cons (k2.same nx.vv) (.cons (k4.same nx.vv) .nil)⟩
     ·refine⟨vs,ws,(h1.same s3).seq,(h3.same s3).seq,?_⟩
      rw[h2.length,h4.length];rw[List.length_zipWith] at hi;omega
    | _=>exact Zf w
  | _=>exact Zf w
theorem tU {C:Ctx}{ts:List Expr}{xs:List Nat}{kt:Nat}{tpos:Pos}(hg:SGs C ts xs)(hl:ts.length=xs.length)(hn:autoParam ((assignEach ts C.X.env).length=ts.length) ZE._auto_1)(hst:autoParam ((assignEach ts C.X.env).findIdx? (·.1)=none) ZE._auto_1)(hcl:autoParam (C.X.calm=true) ZE._auto_1):
  SG C (.Tuple ts kt tpos) (Dv.tupTo xs):=by
 obtain⟨g,pg,qg⟩:=hg;refine⟨_,pH hcl pg hn hst,λ Hv₀ H₀ Hc O H σ s s' d v T r rp e h=>?_⟩;unfold Dv.tupTo at e;cases d with
 | tup ds=>
  by_cases hz:ds.length=xs.length
  ·simp only[hz,if_true] at e
   cases e;unfold Rp at rp;obtain⟨a,vs,rfl,h2,h3⟩:=rp;exact⟨a,vs,rfl,.inl (Rd.same r.ch h2),by rw[h3.length,hz,hl],qg Hv₀ H₀ Hc O H σ s ds vs _ r h3 hz h⟩
  ·simp only[hz,if_false] at e
   cases e
 | _=>cases e
section
variable {C:Ctx}{a b c e:Expr}{f g h:EE}{pos:Pos}
theorem aB (ha:SE C a f)(hb:SE C b g):SE C (.BinOp a .Add b pos) (Dv.eOp .add f g):=cC tz ha hb
theorem fw (ha:SE C a f)(hb:SE C b g):SE C (.BinOp a .Sub b pos) (Dv.eOp .sub f g):=cC t7 ha hb
theorem aW (ha:SE C a f)(hb:SE C b g):SE C (.BinOp a .Mult b pos) (Dv.eOp .mul f g):=cC sG ha hb
theorem aG (ha:SE C a f)(hb:SE C b g):SE C (.BinOp a .Mod b pos) (Dv.eOp .mod f g):=cC sQ ha hb
theorem b7 (ha:SE C a f)(hb:SE C b g):SE C (.BinOp a .FloorDiv b pos) (Dv.eOp .fdiv f g):=cC p7 ha hb
theorem i9 (ha:SE C a f)(hb:SE C b g):SE C (.BinOp a .Pow b pos) (Dv.eOp .pow f g):=cC sH ha hb
theorem uz (ha:SE C a f)(hb:SE C b g):SE C (.Compare a [.Gt] [b] pos) (Dv.eCm .gt f g):=kM rQ ha hb (nomark _)
theorem fJ (ha:SE C a f)(hb:SE C b g):SE C (.Compare a [.Eq] [b] pos) (Dv.eCm .eq f g):=kM os_eq ha hb (nomark _)
theorem jj (ha:SE C a f)(hb:SE C b g):SC C (.Compare a [.Lt] [b] pos) (Dv.eCm .lt f g):=cn uE ha hb (nomark _)
theorem nJ (ha:SE C a f)(hb:SE C b g):SC C (.Compare a [.LtE] [b] pos) (Dv.eCm .le f g):=cn uk ha hb (nomark _)
theorem hU (ha:SE C a f)(hb:SE C b g):SC C (.Compare a [.Gt] [b] pos) (Dv.eCm .gt f g):=cn rQ ha hb (nomark _)
theorem lK (ha:SE C a f)(hb:SE C b g):SC C (.Compare a [.GtE] [b] pos) (Dv.eCm .ge f g):=cn u6 ha hb (nomark _)
theorem bT (ha:SE C a f)(hb:SE C b g):SC C (.Compare a [.Eq] [b] pos) (Dv.eCm .eq f g):=cn os_eq ha hb (nomark _)
theorem fG (ha:SE C a f)(hb:SE C b g):SC C (.Compare a [.NotEq] [b] pos) (Dv.eCm .ne f g):=cn uR ha hb (nomark _)
theorem uW (ha:SE C a f)(hb:SE C b g)(hm:autoParam (behindInMarks .In b=false) ZJ._auto_1):SC C (.Compare a [.In] [b] pos) (Dv.eCm .isin f g):=cn vz ha hb hm
theorem ki {x:Str}{i:Int}{t:Tok}(hg:Gl C.X x)(hm:C.X.mg x=some (.int i t))(hd:autoParam ((x == ("__debug__":Str))=false) ZC._auto_1):SE C (.Name x pos) (Dv.eInt i):=
 ⟨_,ls (v:=.int i) hg hm ⟨t,rfl⟩ hd,λ _ _ _ _ _ _ s q=>q.now (v:=.int i) s aV rfl⟩
theorem cj {p:Pos}(hm:C.X.mg "len"=none)(hg:Gl C.X "len")(ha:SE C a f)(he:autoParam (starEach [a] C.X.env=[(false,eval a C.X.env)]) ZE._auto_1):SE C (.Call (.Name "len" p) [a] [] pos) (Dv.eB1 Dv.lenD f):=lr t8 hg hm PySem.boot_len ha (by decide) (by decide) he
theorem gY {p:Pos}(hm:C.X.mg "sorted"=none)(hg:Gl C.X "sorted")(ha:SE C a f)(he:autoParam (starEach [a] C.X.env=[(false,eval a C.X.env)]) ZE._auto_1):SE C (.Call (.Name "sorted" p) [a] [] pos) (Dv.eB1 Dv.sortedD f):=lr nk hg hm BG ha (by decide) (by decide) he
theorem ib {p:Pos}(hm:C.X.mg "list"=none)(hg:Gl C.X "list")(ha:SE C a f)(he:autoParam (starEach [a] C.X.env=[(false,eval a C.X.env)]) ZE._auto_1):SE C (.Call (.Name "list" p) [a] [] pos) (Dv.eB1 Dv.listD f):=rL pQ hg hm (by decide +kernel) ha (by decide) (by decide) he
theorem k9 {p:Pos}(hm:C.X.mg "int"=none)(hg:Gl C.X "int")(ha:SE C a f)(he:autoParam (starEach [a] C.X.env=[(false,eval a C.X.env)]) ZE._auto_1):SE C (.Call (.Name "int" p) [a] [] pos) (Dv.eB1 Dv.intD f):=rL tX hg hm (by decide +kernel) ha (by decide) (by decide) he
theorem n4 {p p2:Pos}(hm:C.X.mg "isinstance"=none)(hmx:C.X.mg "int"=none)(hg:Gl C.X "isinstance")(hgx:Gl C.X "int")(ha:SE C a f)(he:autoParam (starEach [a,.Name "int" p2] C.X.env=(false,eval a C.X.env)::starEach [.Name "int" p2] C.X.env) ZE._auto_1)
  (he2:autoParam (starEach [.Name "int" p2] C.X.env=[(false,eval (.Name "int" p2) C.X.env)]) ZE._auto_1):SE C (.Call (.Name "isinstance" p) [a,.Name "int" p2] [] pos) (Dv.eB1 Dv.isIntD f):=iC _ mU (λ d fr h=>by cases d <;>first|rfl|exact absurd h (by simp[Dv.noTy])) qW hg hm hgx hmx (by decide +kernel) ha (by decide) (by decide) he he2
theorem mY {p p2:Pos}(hm:C.X.mg "isinstance"=none)(hmx:C.X.mg "bool"=none)(hg:Gl C.X "isinstance")(hgx:Gl C.X "bool")(ha:SE C a f)(he:autoParam (starEach [a,.Name "bool" p2] C.X.env=(false,eval a C.X.env)::starEach [.Name "bool" p2] C.X.env) ZE._auto_1)
  (he2:autoParam (starEach [.Name "bool" p2] C.X.env=[(false,eval (.Name "bool" p2) C.X.env)]) ZE._auto_1):SE C (.Call (.Name "isinstance" p) [a,.Name "bool" p2] [] pos) (Dv.eB1 Dv.isBoolD f):=iC _ kq (λ d fr h=>by cases d <;>first|rfl|exact absurd h (by simp[Dv.noTy])) oZ hg hm hgx hmx (by decide +kernel) ha (by decide) (by decide) he he2
theorem gG {p p2:Pos}(hm:C.X.mg "isinstance"=none)(hmx:C.X.mg "list"=none)(hg:Gl C.X "isinstance")(hgx:Gl C.X "list")(ha:SE C a f)(he:autoParam (starEach [a,.Name "list" p2] C.X.env=(false,eval a C.X.env)::starEach [.Name "list" p2] C.X.env) ZE._auto_1)
  (he2:autoParam (starEach [.Name "list" p2] C.X.env=[(false,eval (.Name "list" p2) C.X.env)]) ZE._auto_1):SE C (.Call (.Name "isinstance" p) [a,.Name "list" p2] [] pos) (Dv.eB1 Dv.isListD f):=iC _ kj (λ d fr h=>by cases d <;>first|rfl|exact absurd h (by simp[Dv.noTy])) oN hg hm hgx hmx (by decide +kernel) ha (by decide) (by decide) he he2
end
structure Df (K:Av)(mg:Str->Option Value)(x:Str)(st:Stmt)(ps:List Str)(f:Addr)(fd:FuncData):Prop where
 m:mg x=some (.ref f)
 kp:Bm K (.ref f)=true
 ex:∃ (oc:Value) (od:Option Addr) (dV kV doc pm:Value) (an:Option Addr) (cdv ct:Value) (osl:Array (Option Value)),
  fd=A0 x x (br st) (aQ st) (ah st) dV kV doc pm an cdv ct/\K.lookup f=some ⟨oc,od,.func fd,osl⟩/\Bl K cdv x=true
 bd:Binds K fd ps []
section
variable {P:Program}{w:World}{K:Av}{mg:Str->Option Value}{base:Heap}{CX:CXT}{cls:String->Value}
theorem Df.ok (hC:CXok P w CX){x:Str}{st:Stmt}{f:Addr}{fd:FuncData}{N ps:List Str}{k:Nat}{body:SS}(d:Df K mg x st ps f fd)(S:FnScope N ps (ah st))
  (hbody:∀ (cdv:Value) (A:Around) (outer:List AY) (s:Shared) (H:Hp) (E:XK) (hr:Room k (A.deeper (envOfC x (ah st) s.heap.objs.size f cdv))),SSs (j4 hC cls K mg base N x (ah st) f cdv A outer s H E hr) (aQ st) body):
  FnOk P w K mg base CX (k+1) f fd ps (spD K cls (Dv.fn N.length body) ps.length):=by
 obtain⟨oc,od,dV,kV,doc,pm,an,cdv,ct,osl,rfl,lk,hcd⟩:=d.ex;exact va hC cls oc od dV kV doc pm an cdv ct osl lk hcd S (hbody cdv)
theorem rP {x:Str}{st:Stmt}{ps:List Str}{f:Addr}{oc:Value}{od an:Option Addr}{osl:Array (Option Value)}{dV kV doc pm cdv ct:Value}(m:mg x=some (.ref f))(l:K.lookup f=some ⟨oc,od,.func (A0 x x (br st) (aQ st) (ah st) dV kV doc pm an cdv ct),osl⟩)
  (c:Bl K cdv x=true) (k:Bm K (.ref f)=true)
  (h:∀ (kV doc pm:Value) (an:Option Addr) (cdv ct:Value) (us:List Value),us.length=ps.length->bindArgs (A0 x x (br st) (aQ st) (ah st) dV kV doc pm an cdv ct) ⟨us,[]⟩=pure (ps.zip us)):
  Df K mg x st ps f (A0 x x (br st) (aQ st) (ah st) dV kV doc pm an cdv ct):=⟨m,k,⟨oc,od,dV,kV,doc,pm,an,cdv,ct,osl,rfl,l,c⟩,.all (h kV doc pm an cdv ct)⟩
end
theorem aC {C:Ctx}{e:Expr}{es:List Expr}{fl:EL}{k j:Nat}{fa:Addr}{fd:FuncData}{st:Stmt}{ps:List Str}{Fm:List D->R}{x:Str}{p pos:Pos}(d:Df C.X.K C.X.mg x st ps fa fd)(Fn:FnOk C.X.prog C.X.w C.X.K C.X.mg C.X.base C.CX j fa fd ps (spD C.X.K C.cls Fm ps.length))(hr:Room k C.X.A)(hj:j<=k)
  (hg:Gl C.X x) (ha:SL C (e::es) fl) (hlen:autoParam ((e::es).length=ps.length) ZE._auto_1) (hdb:autoParam ((x == ("__debug__":Str))=false) ZC._auto_1) (he:autoParam (starEach (e::es) C.X.env=(false,eval e C.X.env)::starEach es C.X.env) ZE._auto_1) (hpl:autoParam ((backTo pos (starEach es C.X.env)).any (·.1)=false) ZE._auto_1):
  SE C (.Call (.Name x p) (e::es) [] pos) (Dv.eCall Fm fl):=by
 have q:=qN (pos:=pos) (p:=p) (dds:=[]) (dvs:=[]) (dus:=[]) Fn hr hj hg d.m d.kp d.bd .nil (λ _ _=>.nil) ha (by simpa using hlen) hdb he hpl;have e1:(λ ds=>Fm (ds++[]))=Fm:=by funext ds;rw[xn]
 rw[e1] at q;exact q
theorem Df.is {P:Program}{w:World}{K:Av}{mg:Str->Option Value}{base:Heap}{CX:CXT}{cls:String->Value}(hC:CXok P w CX){x:Str}{st:Stmt}{f:Addr}{fd:FuncData}{ps:List Str}{F:List D->R}{m j:Nat}(N:List Str)(k:Nat)(body:SS)(d:Df K mg x st ps f fd)(S:FnScope N ps (ah st))
  (hj:j=k+1) (hm:m=ps.length) (hF:F=Dv.fn N.length body)
  (hbody:∀ (cdv:Value) (A:Around) (outer:List AY) (s:Shared) (H:Hp) (E:XK) (hr:Room k (A.deeper (envOfC x (ah st) s.heap.objs.size f cdv))),SSs (j4 hC cls K mg base N x (ah st) f cdv A outer s H E hr) (aQ st) body):
  FnOk P w K mg base CX j f fd ps (spD K cls F m):=by
 subst hj hm hF;exact d.ok hC S hbody
structure Fly (P:Program)(w:World)(outer:List AY)(H:Hp)(s:Shared)(a:Addr)(cls:Value)(H':Hp)(B:Heap)(t:Addr)(s':Shared):Prop where
 os:s'.os=s.os
 bare:AllBare s'.gens
 fl:Heap.FlyingW B outer a cls (.ref t) s'.heap
 keepB:∀ b o,s.heap.get? b=some o->H b=none->b∉frs outer->B.get? b=some o
 thereB:∀ b o,s.heap.get? b=some o->b∉frs outer->∃ o',B.get? b=some o'
 slot:∀ b o,s.heap.get? b=some o->H b=none->b∈frs outer->∃ sl,s'.heap.get? b=some { o with slots:=sl }
 free:∀ b o,s.heap.get? b=some o->H b=none->H' b=none
 tups:∀ b xs,H b=some (.tup xs)->H' b=some (.tup xs)
 frzs:∀ b o u,H b=some (.frz o u)->H' b=some (.frz o u)
 tbls:∀ b ps,H b=some (.tbl ps)->∃ more,H' b=some (.tbl (ps++more))
 hokB:HOk P w H' B
def CXe (P:Program)(w:World):CXT:=λ outer H s E e s'=>∃ a cls H' B t,e=.ref a/\Fly P w outer H s a cls H' B t s'/\E cls none H'
theorem pV {P:Program}{w:World}{H:Hp}{h h':Heap}(x:HOk P w H h)(k:∀ b u,H b≠none->h.get? b=some u->h'.get? b=some u):HOk P w H h':=λ a o e=>
 (x a o e).stay (λ b u hb q=>k b u (by
  rcases hb with rfl|hb
  ·rw[e];exact λ z=>nomatch z
  ·rw[hb];exact λ z=>nomatch z) q) (λ _ q=>q) λ _ _ q=>q
theorem cD {B h:Heap}{l:List AY}{b:Addr}{o:Obj}(f:h.FunFrames B l)(hb:b∈frs l)(e:h.get? b=some o):∀ vs,o.data≠.fields vs:=by
 obtain⟨_,o',e',n⟩:=f.mem hb;rw[e] at e';cases e';exact n
section
variable {P:Program}{w:World}{K:Av}{mg:Str->Option Value}{base:Heap}{N:List Str}{qual:Str}{scope:Scope}{f:Addr}{cd:Value}{A:Around}{outer:List AY}{s:Shared}{H:Hp}{E:XK}
theorem bP {b:Addr}{o:Obj}(e:s.heap.get? b=some o)(hb:b∉frs outer):b∉frs (envOfC qual scope s.heap.objs.size f cd::outer):=λ m=>by
 have m':b∈s.heap.objs.size::frs outer:=m
 rcases List.mem_cons.mp m' with rfl|m'
 ·exact absurd (Az e) (xB _)
 ·exact hb m'
theorem fF {b:Addr}(hb:b∈frs outer):b∈frs (envOfC qual scope s.heap.objs.size f cd::outer):=wd (s.heap.objs.size) hb
theorem mM (pins:List (Addr×Obj))(σ:St)(H1:Hp)(s1:Shared)(e:Value)(s':Shared)(I:Inv (bW (CXe P w) P w K mg base N qual scope f cd A outer s H E) pins σ H1 s1)
  (h:CXe P w (bW (CXe P w) P w K mg base N qual scope f cd A outer s H E).stack H1 s1 E e s'):(bW (CXe P w) P w K mg base N qual scope f cd A outer s H E).xe e s':=by
 obtain⟨a,cls,H',B,t,rfl,F,q⟩:=h;have noex:∀ b:Addr,b∉(bW (CXe P w) P w K mg base N qual scope f cd A outer s H E).ex:=λ b z=>absurd (show b∈([]:List Addr) from z) (by simp)
 refine wpAny_leaves_onW (L:=s.heap.objs.size) I.ok.frames rfl F.fl λ h' x1 x2=>?_
 refine⟨a,cls,H',B,t,rfl,⟨F.os.trans I.os,F.bare,x1,λ b o e n hb=>?_,λ b o e hb=>?_,λ b o e n hb=>?_,λ b o e n=>?_,λ b xs e=>?_,λ b o u e=>?_,λ b ps e=>?_,F.hokB⟩,q⟩
 ·exact F.keepB b o (I.base.keep b o e n hb (noex b)) (I.base.free b o e n (noex b)) (bP e hb)
 ·obtain⟨o1,e1⟩:=I.base.there b o e (noex b)
  exact F.thereB b o1 e1 (bP e hb)
 ·obtain⟨sl,e1⟩:=I.base.slot b o e n hb (noex b)
  obtain⟨sl2,e2⟩:=F.slot b _ e1 (I.base.free b o e n (noex b)) (fF hb);obtain⟨sl3,e3⟩:=x2 b _ e2 (cD F.fl.2.2.1 (fF hb) e2);exact⟨sl3,e3⟩
 ·obtain⟨o1,e1⟩:=I.base.there b o e (noex b)
  exact F.free b o1 e1 (I.base.free b o e n (noex b))
 ·exact F.tups b xs (I.base.tups b xs e)
 ·exact F.frzs b o u (I.base.frzs b o u e)
 ·obtain⟨m1,e1⟩:=I.base.tbls b ps e
  obtain⟨m2,e2⟩:=F.tbls b _ e1;exact⟨m1++m2,by rw[e2,Cb]⟩
theorem cxe_ok {P:Program}{w:World}:CXok P w (CXe P w):=⟨λ _ _ _ _ _ ⟨_,_,_,_,_,_,_,q⟩=>q,λ _ _ _ _ _ _ _ _ _ _ _ _ _ pins σ H1 s1 e s' I h=>mM pins σ H1 s1 e s' I h⟩
theorem jf {pins:List (Addr×Obj)}{σ:St}{H1:Hp}{s1:Shared}{h':Heap}{e:Addr}{cls:Value}{vs:List Value}(I:Inv (bW (CXe P w) P w K mg base N qual scope f cd A outer s H E) pins σ H1 s1)
  (hx:Heap.MadeExcOf s1.heap h' e cls vs) (hE:E cls none H1):(bW (CXe P w) P w K mg base N qual scope f cd A outer s H E).xe (.ref e) { s1 with heap:=h' }:=by
 have noex:∀ b:Addr,b∉(bW (CXe P w) P w K mg base N qual scope f cd A outer s H E).ex:=λ b z=>absurd (show b∈([]:List Addr) from z) (by simp)
 have hfr:s1.heap.FunFrames (CH s1.heap (frs (envOfC qual scope s.heap.objs.size f cd::outer))) (envOfC qual scope s.heap.objs.size f cd::outer):=
  PySem.W.funFrames_hide I.stack λ env he b hb=>List.mem_filterMap.mpr ⟨env,he,hb⟩
 refine wpAny_leaves_madeW (L:=s.heap.objs.size) (base:=CH s1.heap (frs (envOfC qual scope s.heap.objs.size f cd::outer))) I.ok.frames rfl (λ b o q=>Dg _ q) hfr hx λ h2 t x1 x2 x3 x4=>?_
 refine⟨e,cls,H1,_,t,rfl,⟨I.os,I.bare,x1,λ b o q n hb=>?_,λ b o q hb=>?_,λ b o q n hb=>?_,λ b o q n=>I.base.free b o q n (noex b),λ b xs q=>I.base.tups b xs q,λ b o u q=>I.base.frzs b o u q,λ b ps q=>I.base.tbls b ps q,?_⟩,hE⟩
 ·exact BB _ (I.base.keep b o q n hb (noex b)) (bP q hb)
 ·obtain⟨o1,e1⟩:=I.base.there b o q (noex b)
  exact⟨o1,BB _ e1 (bP q hb)⟩
 ·obtain⟨sl,e1⟩:=I.base.slot b o q n hb (noex b)
  obtain⟨sl2,e2⟩:=x4 b _ (hx.keeps _ _ e1) (cD hfr (fF hb) e1);exact⟨sl2,e2⟩
 ·refine pV I.hok λ b u hb q=>BB _ q λ m=>hb ?_
  exact I.stkFree b m
end
structure XCls (K:Av)(mg:Str->Option Value)(c:String)(C:Addr):Prop where
 m:mg (AJ c)=some (.ref C)
 ns:AG K mainGlobals (AJ c)=some (some (.ref C))
 ex:Ci K C [.type "ValueError",.type "Exception",.type "BaseException",.type "object"] "ValueError.__new__"=true
 lk:∃ bm N nm qn bs hd sn sub ab col dd k0 k1 k2 k3 k5,K.lookup C=some (excClassObj nm qn C N bs bm hd sn sub ab col dd k0 k1 k2 k3 k5 "ValueError.__new__")
theorem eI {K:Av}{C:Addr}{bm0:List Value}{newId:String}(q:Ci K C bm0 newId=true)(l:∃ bm N nm qn bs hd sn sub ab col dd k0 k1 k2 k3 k5,K.lookup C=some (excClassObj nm qn C N bs bm hd sn sub ab col dd k0 k1 k2 k3 k5 newId)):
  ∃ bm N nm qn bs hd sn sub ab col dd k0 k1 k2 k3 k5,K.lookup C=some (excClassObj nm qn C N bs bm hd sn sub ab col dd k0 k1 k2 k3 k5 newId)/\B8 K N=true/\AG K N "__init__"=some none/\DD K bm0 bm=true:=by
 obtain⟨bm,N,nm,qn,bs,hd,sn,sub,ab,col,dd,k0,k1,k2,k3,k5,l⟩:=l;unfold Ci at q;rw[l] at q;have q:(C == C&&newId == newId&&!false&&DD K bm0 bm&&B8 K N&&AG K N "__init__" == some none)=true:=q;simp only[wq,beq_iff_eq] at q;exact⟨bm,N,nm,qn,bs,hd,sn,sub,ab,col,dd,k0,k1,k2,k3,k5,l,q.1.2,q.2,q.1.1.2⟩
theorem qX {K:Av}{h h':Heap}{N:Addr}{m:Str->Option Value}(X:K.In h)(X':K.In h')(e:B8 K N=true)(n:h.Ns N m):h'.Ns N m:=by
 obtain⟨o,es,ep,ho,hd,r⟩:=n;unfold B8 at e
 split at e
 ·rename_i a b c d q
  have:=X _ _ q;rw[ho] at this;cases this;exact⟨_,es,ep,X' _ _ q,hd,r⟩
 ·cases e
theorem nP {P:Program}{w:World}{K:Av}{mg:Str->Option Value}{base:Heap}{N:List Str}{qual:Str}{scope:Scope}{f:Addr}{cd:Value}{A:Around}{outer:List AY}{s:Shared}{H:Hp}{E:XK}{c:String}{Ca:Addr}{tx:Str}{j:Nat}{np p2 cpos pos:Pos}
  (x:XCls K mg c Ca) (hg:Gl (bW (CXe P w) P w K mg base N qual scope f cd A outer s H E) (AJ c)) (hd:(AJ c == ("__debug__":Str))=false) (hh:(A.deeper (envOfC qual scope s.heap.objs.size f cd)).handled=none):
  PS (bW (CXe P w) P w K mg base N qual scope f cd A outer s H E) (.Raise (some (.Call (.Name (AJ c) np) [.Constant (.str tx) j p2] [] cpos)) none pos) (λ _ _ H1=>E (.ref Ca) none H1):=by
 intro pins s1 σ H1 D I hE;obtain⟨bm,Na,nm,qn,bs,hdd,sn,sub,ab,col,dd,k0,k1,k2,k3,k5,hC,hN,hni,hT⟩:=eI x.ex x.lk;have T:=Cd I.kIn hT;refine wpAny_Raise_call_subT (C:=Ca) (nm:=nm) (q:=qn) (N:=Na) (bs:=bs) (bm:=bm) (hdct:=hdd) (sn:=sn) (sub:=sub) (ab:=ab) (col:=col) (dd:=dd) (k0:=k0) (k1:=k1) (k2:=k2) (k3:=k3) (k5:=k5) PySem.F.excBase_ValueError (mN:=s1.heap.nsMap Na) (T.hasType (by decide)) hh rfl (PySem.W.nsMap_none_of_in I.kIn hN hni) ?_
 have pn:=ls (X:=bW (CXe P w) P w K mg base N qual scope f cd A outer s H E) (v:=.ref Ca) (pos:=np) hg x.m rfl hd;refine thn (pn pins s1 σ H1 (λ v H2=>v=.ref Ca/\H2=H1) I ⟨rfl,rfl⟩) ?_
 rintro u s2 ⟨v,H2,I2,r2,rfl,rfl⟩
 obtain rfl:u=AK Ca:=r2;refine⟨rfl,CU ?_⟩;have pa:=aH (X:=bW (CXe P w) P w K mg base N qual scope f cd A outer s H E) (e:=.Constant (.str tx) j p2) kT bD;refine thn (pa cpos pins s2 σ H2 (λ vs H3=>vs=[.str tx]/\H3=H2) I2 ⟨rfl,rfl⟩) ?_
 rintro us s3 ⟨vs,H3,I3,r3,rfl,rfl⟩
 have hl:us.length=1:=r3.length.symm;refine⟨rfl,by rw[hl];decide,I3.kIn _ _ hC,qX I.kIn I3.kIn hN (.of_isNs (PySem.W.isNs_of_in I.kIn hN)),Cd I3.kIn hT,λ h' e hx=>?_⟩;exact jf I3 hx hE
theorem cX {P:Program}{w:World}{K:Av}{mg:Str->Option Value}{base:Heap}{cls:String->Value}{N:List Str}{qual:Str}{scope:Scope}{f:Addr}{cd:Value}{A:Around}{outer:List AY}{s:Shared}{H:Hp}{E:XK}{k:Nat}{hr:Room k (A.deeper (envOfC qual scope s.heap.objs.size f cd))}{c:String}{Ca:Addr}{tx:Str}{j:Nat}{np p2 cpos pos:Pos}
  (x:XCls K mg c Ca) (hcls:cls c=.ref Ca) (hg:Gl (bW (CXe P w) P w K mg base N qual scope f cd A outer s H E) (AJ c)) (hd:autoParam ((AJ c == ("__debug__":Str))=false) ZC._auto_1):
  SSs (j4 (cxe_ok (P:=P) (w:=w)) cls K mg base N qual scope f cd A outer s H E hr) [.Raise (some (.Call (.Name (AJ c) np) [.Constant (.str tx) j p2] [] cpos)) none pos] (Dv.sRaise c):=by
 refine⟨_,lY (nP x hg hd hr.hd),λ Hv₀ H₀ E' σ H' st r q=>?_⟩;have q':E (cls c) none H':=q σ H' r;rw[hcls] at q';exact q'
structure XLook (K:Av)(C:Addr):Prop where
 ex:Ci K C [.type "ValueError",.type "Exception",.type "BaseException",.type "object"] "ValueError.__new__"=true
 lk:∃ bm N nm qn bs hd sn sub ab col dd k0 k1 k2 k3 k5,K.lookup C=some (excClassObj nm qn C N bs bm hd sn sub ab col dd k0 k1 k2 k3 k5 "ValueError.__new__")
 ga:By K (.ref C) "__getattribute__"=some (some (.builtin "BaseException.__getattribute__"))
 gn:By K (.ref C) "__getattr__"=some none
 kc:By K (.ref C) "__class__"=some (some (.builtin "object.__class__"))
structure XAll (K:Av)(mg:Str->Option Value)(ad:String->Option Addr):Prop where
 cl:∀ c C,ad c=some C->XCls K mg c C/\XLook K C
 sub:∀ c C k C',ad c=some C->ad k=some C'->AV K (.ref C) (.ref C')=some (Dv.subX c k)
 val:∀ c C,ad c=some C->AV K (.ref C) (.type "ValueError")=some true
theorem Fly.un {P:Program}{w:World}{outer:List AY}{H H':Hp}{s s':Shared}{a t:Addr}{cls:Value}{B h:Heap}(F:Fly P w outer H s a cls H' B t s')(sb:B.StaysIn h)(sm:s'.heap.UpToSlots h)(hf:∀ b∈frs outer,H b=none):
  Un (frs outer) [] H H' s.heap h where
 keep:=λ b o e n hb _=>sb b o (F.keepB b o e n hb)
 slot:=λ b o e n hb _=>by
  obtain⟨sl,e1⟩:=F.slot b o e n hb;obtain⟨sl2,e2⟩:=sm b _ e1 (cD F.fl.2.2.1 hb e1);exact⟨sl2,e2⟩
 free:=λ b o e n _=>F.free b o e n
 there:=λ b o e _=>by
  by_cases hb:b∈frs outer
  ·obtain⟨sl,e1⟩:=F.slot b o e (hf b hb) hb
   obtain⟨sl2,e2⟩:=sm b _ e1 (cD F.fl.2.2.1 hb e1);exact⟨_,e2⟩
  ·obtain⟨o1,e1⟩:=F.thereB b o e hb
   exact⟨o1,sb b o1 e1⟩
 tups:=F.tups
 frzs:=F.frzs
 tbls:=F.tbls
theorem Fly.none {P:Program}{w:World}{outer:List AY}{H H':Hp}{s s':Shared}{a t:Addr}{cls:Value}{B:Heap}(F:Fly P w outer H s a cls H' B t s'):H' a=Option.none:=by
 cases q:H' a with
 | none=>rfl
 | some o=>
  have e:=F.fl.2.1;obtain⟨o',h1⟩:∃ o',B.get? a=some o':=by
   have:=(F.hokB a o q).lt;have k:=F.hokB a o q;cases o with
   | lst xs=>obtain⟨_,_,_,_,z⟩:=k;exact⟨_,z⟩
   | tup xs=>obtain⟨_,_,_,_,z,_⟩:=k;exact⟨_,z⟩
   | dK kvs=>obtain⟨_,_,_,_,o,_,_,z,_⟩:=k;exact⟨_,z⟩
   | dT kvs=>obtain⟨_,_,_,_,o,_,_,z,_⟩:=k;exact⟨_,z⟩
   | set S n=>obtain⟨o,_,_,_,z,_⟩:=k;exact⟨_,z⟩
   | ins C dx fs=>obtain⟨_,_,_,z,_⟩:=k;exact⟨_,z⟩
   | own y=>obtain⟨_,z⟩:=k;exact⟨_,z⟩
   | xd fs=>obtain⟨_,⟨_,_,_,z,_⟩,_⟩:=k;exact⟨_,z⟩
   | rng lo hi=>obtain⟨_,_,_,z⟩:=k;exact⟨_,z⟩
   | frz ob u=>obtain⟨z,_⟩:=k;exact⟨_,z⟩
   | tbl ps=>exact⟨_,(show B.get? a=some _ from k)⟩
   | met f y=>exact⟨_,(show B.get? a=some _ from k)⟩
   | ext φ=>obtain⟨_,⟨_,z⟩,_⟩:=k;exact⟨_,z⟩
  rw[e] at h1;cases h1
def oC (X:Cx)(pins:List (Addr×Obj))(xe:Value->Shared->Prop):Cx:={ X with pn:=X.pn++pins,xe:=xe }
def hdX (X:Cx)(pins:List (Addr×Obj))(e:Addr):Cx:={ X with A:=X.A.mark (some (.ref e)),calm:=false,pn:=X.pn++pins,xe:=λ _ _=>False }
section
variable {X:Cx}{pins pins':List (Addr×Obj)}{σ:St}{H:Hp}{s:Shared}{xe:Value->Shared->Prop}{e:Addr}
theorem Inv.toTry (I:Inv X pins σ H s):Inv (oC X pins xe) [] σ H s:=
 ⟨⟨I.ok.mod,I.ok.kind,I.ok.glob,I.ok.blt,I.ok.above,I.ok.inj,I.ok.has,I.ok.cab,I.ok.hd,I.ok.frames,I.ok.stk,I.ok.exf,I.ok.bs,I.ok.bsz,I.ok.noex,I.ok.exfs,I.ok.funs,I.ok.frf⟩,I.os,I.bare,I.base,I.loc,I.cell,I.free,I.freeC,λ p hp=>I.pin p (by
  have hp':p∈(X.pn++pins)++[]:=hp
  rwa [xn] at hp'),I.hok,I.len⟩
theorem Inv.ofTry (I:Inv (oC X pins xe) pins' σ H s):Inv X pins σ H s:=
 ⟨⟨I.ok.mod,I.ok.kind,I.ok.glob,I.ok.blt,I.ok.above,I.ok.inj,I.ok.has,I.ok.cab,I.ok.hd,I.ok.frames,I.ok.stk,I.ok.exf,I.ok.bs,I.ok.bsz,I.ok.noex,I.ok.exfs,I.ok.funs,I.ok.frf⟩,I.os,I.bare,I.base,I.loc,I.cell,I.free,I.freeC,λ p hp=>I.pin p (w5 _ hp),I.hok,I.len⟩
theorem Inv.toHd (I:Inv X pins σ H s):Inv (hdX X pins e) [] σ H s:=
 ⟨⟨I.ok.mod,I.ok.kind,I.ok.glob,I.ok.blt,I.ok.above,I.ok.inj,I.ok.has,I.ok.cab,(λ z=>nomatch z),I.ok.frames,I.ok.stk,I.ok.exf,I.ok.bs,I.ok.bsz,I.ok.noex,I.ok.exfs,I.ok.funs,I.ok.frf⟩,I.os,I.bare,I.base,I.loc,I.cell,I.free,I.freeC,λ p hp=>I.pin p (by
  have hp':p∈(X.pn++pins)++[]:=hp
  rwa [xn] at hp'),I.hok,I.len⟩
theorem Inv.ofHd (hd:X.calm=true->X.A.handled=none)(I:Inv (hdX X pins e) pins' σ H s):Inv X pins σ H s:=
 ⟨⟨I.ok.mod,I.ok.kind,I.ok.glob,I.ok.blt,I.ok.above,I.ok.inj,I.ok.has,I.ok.cab,hd,I.ok.frames,I.ok.stk,I.ok.exf,I.ok.bs,I.ok.bsz,I.ok.noex,I.ok.exfs,I.ok.funs,I.ok.frf⟩,I.os,I.bare,I.base,I.loc,I.cell,I.free,I.freeC,λ p hp=>I.pin p (w5 _ hp),I.hok,I.len⟩
theorem SP.ofTry {D:Ends}{f:Flow}(h:SP (oC X pins xe) pins' D f s):SP X pins D f s:=by
 cases f with
 | next=>obtain⟨σ',H',I,q⟩:=h;exact⟨σ',H',Inv.ofTry I,q⟩
 | brk=>obtain⟨σ',H',I,q⟩:=h;exact⟨σ',H',Inv.ofTry I,q⟩
 | cont=>obtain⟨σ',H',I,q⟩:=h;exact⟨σ',H',Inv.ofTry I,q⟩
 | ret u=>obtain⟨v,σ',H',I,r,q⟩:=h;exact⟨v,σ',H',Inv.ofTry I,r,q⟩
theorem SP.ofHd {D:Ends}{f:Flow}(hd:X.calm=true->X.A.handled=none)(h:SP (hdX X pins e) pins' D f s):SP X pins D f s:=by
 cases f with
 | next=>obtain⟨σ',H',I,q⟩:=h;exact⟨σ',H',Inv.ofHd hd I,q⟩
 | brk=>obtain⟨σ',H',I,q⟩:=h;exact⟨σ',H',Inv.ofHd hd I,q⟩
 | cont=>obtain⟨σ',H',I,q⟩:=h;exact⟨σ',H',Inv.ofHd hd I,q⟩
 | ret u=>obtain⟨v,σ',H',I,r,q⟩:=h;exact⟨v,σ',H',Inv.ofHd hd I,r,q⟩
end
def nU (C:Ctx)(pins:List (Addr×Obj))(xe:Value->Shared->Prop)(W:St->XK)(own:PassesOwn (model C.X.prog C.X.w) C.X.A C.X.env xe)
  (pass:∀ (pins':List (Addr×Obj)) (σ:St) (H:Hp) (s:Shared) (e:Value) (s':Shared),Inv (oC C.X pins xe) pins' σ H s->C.CX C.X.stack H s (W σ) e s'->xe e s'):Ctx where
 X:=oC C.X pins xe
 W:=W
 cls:=C.cls
 CX:=C.CX
 un:=C.un
 own:=own
 pass:=pass
 cxF:=C.cxF
def rH (C:Ctx)(pins:List (Addr×Obj))(e:Addr):Ctx where
 X:=hdX C.X pins e
 W:=λ _ _ _ _=>False
 cls:=C.cls
 CX:=C.CX
 un:=C.un
 own:=DB
 pass:=λ _ _ _ _ _ _ _ h=>C.cxF _ _ _ _ _ h
 cxF:=C.cxF
theorem oY {M:Model}{A:Around}{E:Value->Shared->Prop}{K:Av}{h:Heap}{g:Array GenState}{d:Drawn}{t:Nat}{os:OsState}{a C Ck:Addr}{o:Obj}{Q:Bool->Shared->Prop}(X:K.In h)(xk:XLook K Ck)(hx:h.get? a=some o)(hc:o.cls=.ref C)
  (sub:DI M h (isSubtype (.ref C) (.ref Ck)) true) (hq:Q true ⟨h,g,d,t,os⟩):wpAny M A (excMatches (.ref a) (.ref Ck)) Q E ⟨h,g,d,t,os⟩:=by
 obtain⟨bm,Na,nm,qn,bs,hdd,sn,su,ab,col,dd,k0,k1,k2,k3,k5,kC,_,_,hT⟩:=eI xk.ex xk.lk;have hC:=X _ _ kC;have TL:=Cd X hT;have own:(AK Ck::bm).contains (.type "BaseException")=true:=by
  rw[List.contains_cons,TL.hasType (show List.contains [Br "ValueError",Br "Exception",Br "BaseException",Br "object"] (Br "BaseException")=true by decide)];rfl
 have nt:=tc_notTuple;unfold excMatches
 repeat (first
  | (with_reducible refine wpAny_loadPart_at hx ?_;rw[hc])
  | with_reducible refine wpAny_loadPart_at hC ?_
  | with_reducible refine sub.at ?_
  | (with_reducible refine C9 hC ?_;rw[own])
  | wp_step)
 exact hq
theorem md {M:Model}{K:Av}{h:Heap}{C Ck:Addr}(X:K.In h)(x:XLook K C)(e:AV K (.ref C) (.ref Ck)=some true):DI M h (isSubtype (.ref C) (.ref Ck)) true:=by
 unfold AV at e
 split at e
 ·rename_i q
  have z:AK C=AK Ck:=beq_iff_eq.mp q;rw[<- z];obtain⟨bm,Na,nm,qn,bs,hdd,sn,su,ab,col,dd,k0,k1,k2,k3,k5,kC,_,_,hT⟩:=eI x.ex x.lk;intro A Q E s k hq;have hC:=k _ _ (X _ _ kC);obtain⟨hh,g,d,t,os⟩:=s;refine C9 hC ?_
  have own:(AK C::bm).contains (AK C)=true:=by simp
  rw[own];exact hq
 ·exact(PySem.W.kit_cls X e).2.2
theorem pT {C C':Ctx}{Hv₀ H₀:Hp}{D:Ends}{o o':Out}(hK:C'.X.K=C.X.K)(w:OkS C Hv₀ H₀ D o')(hx:∀ c st2,o=.exc c st2->∀ σ H,Rel C.X.K Hv₀ H₀ st2 σ H->C'.W σ (C'.cls c) none H)(ho:(∀ c st2,o≠.exc c st2)->o'=o):OkS C' Hv₀ H₀ D o:=by
 have nx:∀ {st:Dv.St} {σ:St} {H:Hp},Rel C'.X.K Hv₀ H₀ st σ H->Rel C.X.K Hv₀ H₀ st σ H:=λ {st σ H} r=>by rw[<- hK];exact r
 cases o with
 | exc c st2=>exact λ σ H r=>hx c st2 rfl σ H (nx r)
 | nx st2=>rw[ho (λ _ _ z=>nomatch z)] at w;exact λ σ H r=>w σ H (nx r)
 | brk st2=>rw[ho (λ _ _ z=>nomatch z)] at w;exact λ σ H r=>w σ H (nx r)
 | cont st2=>rw[ho (λ _ _ z=>nomatch z)] at w;exact λ σ H r=>w σ H (nx r)
 | ret d nw=>
  rw[ho (λ _ _ z=>nomatch z)] at w;have e:C'.X.K=C.X.K:=hK;unfold OkS at w ⊢;rw[e];exact w
 | bad=>rw[ho (λ _ _ z=>nomatch z)] at w;exact w
section
variable {C:Ctx}{ad:String->Option Addr}{kn:List String}{k:String}{Ck:Addr}{body suite:List Stmt}{b₀:Stmt}{F G:SS}{np hpos pos:Pos}
theorem sZ (xa:XAll C.X.K C.X.mg ad)(hkn:∀ c∈kn,∃ Ca,ad c=some Ca/\C.cls c=.ref Ca)(hk:ad k=some Ck)(hg:Gl C.X (AJ k))
  (hb:∀ pins xe W own pass,SSs (nU C pins xe W own pass) body F) (hh:∀ pins e,SSs (rH C pins e) (b₀::suite) G)
  (hd:autoParam ((AJ k == ("__debug__":Str))=false) ZC._auto_1) (hCX:autoParam (C.CX=CXe C.X.prog C.X.w) ZE._auto_1) (hstk:autoParam (C.X.stack=C.X.env::C.X.outer) ZE._auto_1) (hfr:autoParam (C.X.env.frame=some C.X.env.locals) ZE._auto_1):
  SSt C (.Try body [.ExceptHandler (some (.Name (AJ k) np)) none (b₀::suite) hpos] [] [] pos) (Dv.sTry kn k F G):=by
 refine⟨λ D σ H=>∃ Hv₀ H₀ st,Rel C.X.K Hv₀ H₀ st σ H/\OkS C Hv₀ H₀ D (Dv.sTry kn k F G st),?_,λ Hv₀ H₀ E σ H st r w=>⟨Hv₀,H₀,st,r,w⟩⟩
 rintro pins s σ H D I ⟨Hv₀,H₀,st,r,w⟩
 refine wpAny_Try_except ?_
 have hhd:=I.ok.hd;unfold Dv.sTry at w;have key:∀ (pins':List (Addr×Obj)) (σ':St) (H':Hp) (s':Shared) (e:Value) (s'':Shared),Inv C.X pins σ' H' s' ->
   C.CX C.X.stack H' s' (λ cv _ H2=>∃ c st',F st=.exc c st'/\cv=C.cls c/\Rel C.X.K Hv₀ H₀ st' σ' H2) e s'' ->
   wpAny (model C.X.prog C.X.w) C.X.A (noteFrame e C.X.env) (λ _ s₂=>wpAny (model C.X.prog C.X.w) C.X.A (setFlight e none) (λ _ s₃=>wpAny (model C.X.prog C.X.w) C.X.A (handleBy e C.X.env [.ExceptHandler (some (.Name (AJ k) np)) none (b₀::suite) hpos]) (SP C.X pins D) C.X.xe s₃) C.X.xe s₂) C.X.xe s'':=by
  rintro pins' σ' H' s' e s'' I0 hx
  rw[hCX] at hx;obtain⟨a,cv,H2,B,t,rfl,Fl,c,st',hF,rfl,Hc,O,rel⟩:=hx;rw[hF] at w;by_cases hs:(kn.contains c&&Dv.subX c k)=true
  case neg=>simp only[hs] at w;exact Zf w
  simp only[hs,if_true] at w;rw[wq] at hs;obtain⟨Ca,hca,hcv⟩:=hkn c (List.contains_iff_mem.mp hs.1);obtain⟨x1,x2⟩:=xa.cl c Ca hca;obtain⟨y1,y2⟩:=xa.cl k Ck hk;have hsub:=xa.sub c Ca k Ck hca hk;rw[hs.2] at hsub;have hfl:=Fl.fl;rw[hcv,hstk] at hfl;have frames:C.X.A.frames=some (C.X.env::C.X.outer):=by rw[<- hstk];exact I0.ok.frames
  refine wpAny_looks_onW frames hfr hfl λ h4 held4 sm4=>?_
  refine wpAny_landsW held4 λ h5 fl5 sm5=>?_
  have ff:∀ b∈frs C.X.stack,H' b=none:=λ b hb=>I0.stkFree b hb
  have inv:∀ h,B.StaysIn h->s''.heap.UpToSlots h->Inv C.X pins σ' H2 { s'' with heap:=h }:=λ h sb sm=>
   I0.call' (s':={ s'' with heap:=h }) (ch:=[]) Fl.os (Fl.un sb sm ff) (Fl.hokB.kept λ b u q=>sb b u q) Fl.bare λ b hb=>absurd hb (by simp)
  have I5:=inv h5 fl5.1 (sm4.trans sm5);refine wpAny_handleBy_cons (codeAny_handlers_test ?_) (by intro q;cases q);refine ie (X:=hdX C.X pins a) (Inv.toHd I5) hg y1.m ?_ hd
  obtain⟨oe,vs,T,oT,ts,e1,e2,e3,_⟩:=fl5.2.2.2;refine oY (h:=h5) I5.kIn y2 e1 e2.1 (md I5.kIn x2 hsub) ?_
  refine codeAny_handlers_suite (lands_againW fl5 λ h6 fl6 sm6=>?_);have I6:=inv h6 fl6.1 ((sm4.trans sm5).trans sm6);obtain⟨tg,pg,qg⟩:=hh pins a;have ok8:OkS (rH C pins a) Hv₀ H₀ D (G st'):=by
   cases hG:G st' with
   | nx st2=>rw[hG] at w;exact w
   | brk st2=>rw[hG] at w;exact w
   | cont st2=>rw[hG] at w;exact w
   | ret d nw=>rw[hG] at w;exact w
   | exc c2 st2=>rw[hG] at w;exact Zf w
   | bad=>rw[hG] at w;exact w
  refine AI (pg [] { s'' with heap:=h6 } σ' H2 D (Inv.toHd I6) (qg Hv₀ H₀ D σ' H2 st' ⟨Hc,O,rel⟩ ok8)) (λ fl s9 h9=>?_) λ _ _ z=>z.elim
  exact SP.ofHd hhd h9
 obtain⟨tb,pb,qb⟩:=hb pins _ (λ σ' cv _ H2=>∃ c st',F st=.exc c st'/\cv=C.cls c/\Rel C.X.K Hv₀ H₀ st' σ' H2) (Dp (K:=λ e s₂=>wpAny (model C.X.prog C.X.w) C.X.A (setFlight e none) (λ _ s₃=>wpAny (model C.X.prog C.X.w) C.X.A (handleBy e C.X.env [.ExceptHandler (some (.Name (AJ k) np)) none (b₀::suite) hpos]) (SP C.X pins D) C.X.xe s₃) C.X.xe s₂) (E₁:=C.X.xe))
  λ pins' σ' H' s' e s'' I' h'=>key pins' σ' H' s' e s'' (Inv.ofTry I') h'
 have okb:OkS (nU C pins _ (λ σ' cv _ H2=>∃ c st',F st=.exc c st'/\cv=C.cls c/\Rel C.X.K Hv₀ H₀ st' σ' H2) (Dp (K:=λ e s₂=>wpAny (model C.X.prog C.X.w) C.X.A (setFlight e none) (λ _ s₃=>wpAny (model C.X.prog C.X.w) C.X.A (handleBy e C.X.env [.ExceptHandler (some (.Name (AJ k) np)) none (b₀::suite) hpos]) (SP C.X pins D) C.X.xe s₃) C.X.xe s₂) (E₁:=C.X.xe))
  λ pins' σ' H' s' e s'' I' h'=>key pins' σ' H' s' e s'' (Inv.ofTry I') h') Hv₀ H₀ D (F st):=by
  refine pT (C:=C) rfl w (λ c st2 h σ2 H2 r2=>⟨c,st2,h,rfl,r2⟩) λ h=>?_
  generalize F st=o at h;cases o with
  | exc c st2=>exact absurd rfl (h c st2)
  | _=>rfl
 refine AI (pb [] s σ H D (Inv.toTry I) (qb Hv₀ H₀ D σ H st r okb)) (λ fl s1 h1=>?_) λ e s1 h1=>h1
 have h2:=SP.ofTry h1;cases fl with
 | next=>obtain⟨σ2,H2,I2,q2⟩:=h2;exact BX ⟨σ2,H2,I2,q2⟩
 | brk=>exact h2
 | cont=>exact h2
 | ret u=>exact h2
end
open PySem PySem.W PySem.Calls PyProof.Rows
theorem fV:∀ {ns:List Int} {x:Int},x∈ns->(BF x).weight<=CJ (ns.map BF)
 | [],_,h=>by simp at h
 | n::r,x,h=>by
  rw[wm];unfold CJ
  rcases List.mem_cons.mp h with rfl|h
  ·omega
  ·have:=fV h
   omega
theorem qS {ns:List Int}(h:WData.layableAll [DA (ns.map BF)]=true):∀ x∈ns,Dv.bits x<=1048576:=λ x hx=>by
 have h1:=layableW_arg h _ (we ..);obtain⟨_,_,h2⟩:=layableW_iff.mp h1;have h3:Dj (DA (ns.map BF))=CJ (ns.map BF):=by unfold Dj;rfl
 have h4:=fV hx;have h5:(BF x).weight=Dv.bits x:=by
  unfold Dj Dv.bits;by_cases e:x=0
  ·simp[e]
  ·simp[e]
 rw[h3] at h2;omega
theorem p5 {l:OpenLaw}{n:Nat}{q:Program}{loose:List Str}{XP:(Str->Option Value)->Heap->Prop}{YP:World->Heap->Prop}{d:DefRec}(hn:l.most=some n)(hdf:d.params.defaults=[])
  (run:∀ (w:World) (s₀ s₁:Shared) (mg mb:Str->Option Value) (fa:Addr) (a:Addr) (vs:List Value) (ns:List Int),Ground q loose [] XP w s₀ mg mb s₁.heap->YP w s₁.heap->mg d.name=some (.ref fa) ->
   s₁.heap.get? a=some { cls:=.type "list",data:=.seq vs.toArray }->IntsAre vs ns->ns.length<=n->(∀ x∈ns,Dv.bits x<=1048576)->s₁.gens=#[] ->
   codeAny (model l.prog w) callerA (.call (.ref fa) ⟨[.ref a],[]⟩) (λ r s'=>r=.ok (.ret (.bool true))/\OldK s₁.heap s'.heap/\s'.os=s₁.os/\AllBare s'.gens) s₁):
  WalkO q loose XP YP l.row.toRowW d [] (λ f vs=>PySem.call f vs):=by
 intro w s₀ s₁ mg mb G Y fa o pm cd doc dV kV ho hd hcd hD hmg hg args vals as hpre hlay hrd hwl hlo;obtain⟨a,vs,ns,rfl,rfl,hobj,hints,hlen⟩:=Att.script_of hn hpre hwl;have hbits:=qS hlay;refine enter_call (BZ (run w s₀ s₁ mg mb fa a vs ns G Y hmg hobj hints hlen hbits hg) ?_)
 rintro r s' ⟨rfl,h2,h3,h4⟩
 exact⟨.inl ⟨.bool true,.bool true,[],rfl,λ _=>rfl,.bool true,Att.post_true l _,λ _=>⟨List.Pairwise.nil,λ _ hm=>(nomatch hm)⟩⟩,h2,h3,h4⟩
theorem walkD {l:OpenLaw}{k:Nat}{q:Program}{loose:List Str}{XP:(Str->Option Value)->Heap->Prop}{YP:World->Heap->Prop}{d:DefRec}{K:Params->Frag}{CX:World->L2.CXT}{x:Str}{Fl:List Dv.D->Dv.R}
  (hn:l.most=some 63) (hdf:d.params.defaults=[]) (hr:L2.Room k callerA) (hY:∀ (w:World) (h:Heap),YP w h->(K w.params).In h) (hC:∀ w,CXok l.prog w (CX w))
  (F:∀ (w:World) (mg:Str->Option Value) (fa:Addr) (h:Heap),(K w.params).In h->h.Ns mainGlobals mg->mg d.name=some (.ref fa) ->
   ∃ (fd:FuncData) (cls:String->Value),(∀ (s:Shared) (u:Value),BindsTo s fd ⟨[u],[]⟩ [(x,u)])/\∀ base:Heap,(K w.params).In base->base.Ns mainGlobals mg->L2.FnOk l.prog w (K w.params) mg base (CX w) k fa fd [x] (spD (K w.params) cls Fl 1))
  (hF:∀ ns:List Int,ns.length<=63->(∀ x∈ns,Dv.bits x<=1048576)->Fl [.lst (ns.map .int)]=.ok (.bl true) true):
  WalkO q loose XP YP l.row.toRowW d [] (λ f vs=>PySem.call f vs):=by
 refine p5 hn hdf λ w s₀ s₁ mg mb fa a vs ns G Y hmg hobj hints hlen hbits hg=>?_
 have KX:=hY w _ Y;obtain⟨fd,cls,hb,hFn⟩:=F w mg fa _ KX G.T.g hmg;have hK:∀ o,(K w.params).lookup a=some o->o={ cls:=.type "list",data:=.seq vs.toArray }:=λ o e=>by
  have:=KX a o e;rw[hobj] at this;exact(Option.some.inj this).symm
 have hl:ns.length<=sizeLine:=xp hlen (by decide);refine L2.law_call KX G.T.g G.T.b G.T.builtins G.T.nolimit hg hobj hints hl hr hFn hb (λ H hO hS=>?_) λ H e s'=>(hC w).no [] H s₁ e s'
 refine⟨[.lst (ns.map .int)],H,rfl,.refl _,?_,?_⟩
 ·refine .cons ?_ .nil
  unfold Rp;refine⟨a,ns.map L2.V.int,rfl,?_,RpL.ofInts ns⟩
  rcases hS with hS|⟨o,its,m,e,_,_,e2,z,v⟩
  ·exact .inl hS
  ·have e3:=hK o e
   subst e3;cases e2;exact .inr ⟨vs,_,e,by rw[wj];exact hl,by simpa using v⟩
 ·rw[hF ns hlen hbits]
  intro v Hv' H' _ rp _;unfold Rp at rp;exact rp
open Dv in
def aP (ad:String->Option Addr)(c:String):Value:=match ad c with
 | some C=>.ref C
 | none=>.none
theorem cm {ad:String->Option Addr}{c:String}{C:Addr}(h:ad c=some C):aP ad c=.ref C:=by unfold aP;rw[h]
theorem kn2 {ad:String->Option Addr}{kn:List String}(h:∀ c∈kn,∃ Ca,ad c=some Ca):∀ c∈kn,∃ Ca,ad c=some Ca/\aP ad c=.ref Ca:=λ c hc=>let ⟨Ca,e⟩:=h c hc;⟨Ca,e,cm e⟩
def mO (l:List (String×Addr))(c:String):Option Addr:=l.lookup c
theorem cQ:∀ {l:List (String×Addr)} {c:String} {C:Addr},mO l c=some C->(c,C)∈l
 | [],c,C,h=>by simp[mO] at h
 | (k,v)::r,c,C,h=>by
  unfold mO at h;rw[wJ] at h
  split at h
  ·rename_i q
   cases h;rw[beq_iff_eq.mp q];exact we ..
  ·exact wd _ (cQ (l:=r) h)
theorem qB {K:Frag}{mg:Str->Option Value}(l:List (String×Addr))(h1:∀ p∈l,XCls K mg p.1 p.2/\XLook K p.2/\kitOne K (.ref p.2) (.type "ValueError")=some true)(h2:∀ p∈l,∀ q∈l,kitOne K (.ref p.2) (.ref q.2)=some (Dv.subX p.1 q.1)):XAll K mg (mO l) where
 cl:=λ c C h=>let z:=h1 _ (cQ h);⟨z.1,z.2.1⟩
 sub:=λ c C k C' h h'=>h2 _ (cQ h) _ (cQ h')
 val:=λ c C h=>(h1 _ (cQ h)).2.2
theorem fm_nil {α:Type}{p:α->Prop}:∀ x∈([]:List α),p x:=λ x h=>absurd h (by simp)
theorem cq {α:Type}{p:α->Prop}{a:α}{l:List α}(h:p a)(r:∀ x∈l,p x):∀ x∈a::l,p x:=λ x m=>by
 rcases List.mem_cons.mp m with rfl|m
 ·exact h
 ·exact r x m
end Sd
namespace Dv
def oncesStep (σ:List Int)(k:Int):List Int:=if σ.any (· == k) then σ else σ++[k]
def onces (ns:List Int):List Int:=ns.foldl oncesStep []
def upL (lo:Int):Nat->List Int
 | 0=>[]
 | n+1=>lo::upL (lo+1) n
def listRangeD:D->Bool->R
 | .int j,_=>if decide (0<=j)&&decide (j<=100000) then .ok (.lst ((upL 0 j.toNat).map .int)) true else .bad
 | _,_=>.bad
end Dv
namespace Sd
open PySem PySem.Spec PyProof.Rows L2 HT
open Dv (D R RL EE EL EI RI Sl Out SS)
section
variable {C:Ctx}{a:Expr}{f:EE}{pos:Pos}
theorem lW:∀ (n:Nat) (lo:Int),(Dv.upL lo n).length=n
 | 0,lo=>rfl
 | n+1,lo=>by unfold Dv.upL;rw[wA,lW n]
theorem lU:∀ (n:Nat) (lo:Int) (us:List Value),us.length=n->(∀ (j:Nat) (v:Value),us[j]?=some v->∃ t,v=AO (lo+(j:Int)*1) t)->Vals ((Dv.upL lo n).map V.int) us
 | 0,lo,us,h,_=>by
  have:us=[]:=List.length_eq_zero_iff.mp h;subst this;exact .nil
 | n+1,lo,[],h,_=>by simp at h
 | n+1,lo,u::us,h,k=>by
  obtain⟨t,e⟩:=k 0 u rfl;unfold Dv.upL;rw[wm];refine .cons ⟨t,by rw[e];simp⟩ (lU n (lo+1) us (by simpa using h) λ j v hj=>?_);obtain⟨t',e'⟩:=k (j+1) v (by simpa using hj);refine⟨t',by rw[e'];congr 1;omega⟩
theorem ir {X:Cx}{t:TE}{p p2 pos2:Pos}(hcl:X.calm=true)(hm:X.mg "list"=none)(hg:Gl X "list")(hm2:X.mg "range"=none)(hg2:Gl X "range")(ha:PE X a t)
  (he:starEach [.Call (.Name "range" p2) [a] [] pos2] X.env=[(false,eval (.Call (.Name "range" p2) [a] [] pos2) X.env)]) (he2:starEach [a] X.env=[(false,eval a X.env)]):
  PE X (.Call (.Name "list" p) [.Call (.Name "range" p2) [a] [] pos2] [] pos) (λ σ H Q=>t σ H λ x H1=>∃ j:Int,x=.int j/\0<=j/\j<=100000/\∀ l,H1 l=none->Q (.ref l) (upd H1 l (.lst ((Dv.upL 0 j.toNat).map V.int)))):=by
 intro pins s σ H Q I h;refine Bb (ck I hg hm (u:=.type "list") (by decide +kernel) ?_ (by decide) (by decide));refine AX ?_ he rfl
 rw[he];show wpAny _ _ (spliced ((false,eval (.Call (.Name "range" p2) [a] [] pos2) X.env)::backTo pos [])) _ _ s
 refine Bu ?_
 refine Bb (ck I hg2 hm2 boot_range ?_ (by decide) (by decide));refine AX ?_ he2 rfl
 rw[he2];show wpAny _ _ (spliced ((false,eval a X.env)::backTo pos2 [])) _ _ s
 refine Bu (thn (ha pins s σ H _ I h) λ u s1 ⟨x,H1,I1,r1,j,e1,j0,j1,go⟩=>?_);subst e1;obtain⟨t,rfl⟩:=r1;refine Bx ?_
 refine call_range_1 ?_
 refine Bx ?_
 have hsz:CB 0 j 1=(j.toNat:Nat):=by rw[rangeSize_one];split <;>omega
 refine PySem.call_list_range (I1.ok.hd hcl) (DP ..) (small_one ⋯ ⋯ ⋯ ⋯) hsz ⋯ λ h' tk acc' c' hk hS hacc=>?_
 have hk2:∀ b u,s1.heap.get? b=some u->h'.get? b=some u:=λ b u q=>hk b u (AB _ q)
 have hle:s1.heap.objs.size<=(s1.heap.push { cls:=.type "range",data:=.fields #[.int 0 s1.toks,.int j t,.int 1 (s1.toks+1)] }).objs.size:=by rw[CO];omega
 refine⟨.ref _,_,I1.laid (t':=tk) (o:=.lst ((Dv.upL 0 j.toNat).map V.int)) hk2 hle ?_,rfl,go _ (I1.hok.fresh hle)⟩;refine⟨?_,acc'.toList,c',lU j.toNat 0 _ (by rw[AD];exact hacc.1) (λ i v hi=>hacc.2 i v (by rw[<- AH];exact hi)),by simpa using hS⟩;rw[wj,lW,A2];omega
theorem iW {p p2 pos2:Pos}(hm:C.X.mg "list"=none)(hg:Gl C.X "list")(hm2:C.X.mg "range"=none)(hg2:Gl C.X "range")(ha:SE C a f)
  (he:autoParam (starEach [.Call (.Name "range" p2) [a] [] pos2] C.X.env=[(false,eval (.Call (.Name "range" p2) [a] [] pos2) C.X.env)]) ZE._auto_1) (he2:autoParam (starEach [a] C.X.env=[(false,eval a C.X.env)]) ZE._auto_1) (hcl:autoParam (C.X.calm=true) ZE._auto_1):
  SE C (.Call (.Name "list" p) [.Call (.Name "range" p2) [a] [] pos2] [] pos) (Dv.eB1 Dv.listRangeD f):=by
 obtain⟨t,pa,qa⟩:=ha;refine⟨_,ir hcl hm hg hm2 hg2 pa he he2,λ σ H Hv ρ Q e s w=>?_⟩;refine qa.step e (.refl s) w λ v d fr Hv1 H1 _ x1 _ rx n1 q=>?_
 cases d with
 | int j=>
  simp only[Dv.listRangeD] at q;unfold Rp at rx;subst rx;by_cases hj:(decide (0<=j)&&decide (j<=100000))=true
  ·simp only[hj,if_true] at q
   have h2:=hj;rw[wq,decide_eq_true_eq,decide_eq_true_eq] at h2;exact⟨j,rfl,h2.1,h2.2,λ p hp=>Ok.newL q x1 (RpL.ofInts _) (λ _=>RpL.ofInts _) p hp⟩
  ·simp only[hj] at q
   exact Zf q
 | _=>exact Zf q
end
end Sd
namespace Dv
def lexLt:List Int->List Int->Bool
 | [],[]=>false
 | [],_::_=>true
 | _::_,[]=>false
 | x::xs,y::ys=>if x=y then lexLt xs ys else decide (x<y)
def kP (bt:Nat->Nat->Bool):Nat->Nat
 | 0=>0
 | k+1=>if bt (k+1) (kP bt k) then k+1 else kP bt k
def qH (nss:List (List Int)):Nat:=kP (λ i j=>lexLt (nss.getD i []) (nss.getD j [])) (nss.length-1)
def least (nss:List (List Int)):List Int:=nss.getD (qH nss) []
end Dv
namespace Sd
open PySem PySem.Spec PyProof.Rows L2 HT
open Dv (D R RL EE EL EI RI Sl Out SS)
section
open PySem.SeqAt
open PySem.AutoSeq1 (wpAny_loadPart')
open PySem.MeetsSeq PySem.MeetsSeq2 PySem.MeetsSeq3
end
end Sd
namespace Dv
def look:List Int->List D->Int->Option D
 | k::ks,d::ds,j=>if k=j then some d else look ks ds j
 | _,_,_=>none
def pM:List D->Bool
 | []=>true
 | .lst es::r=>flatL es&&pM r
 | _::_=>false
def sumD:D->Bool->R
 | .lst ds,_=>match intsOf ds with
  | some ns=>.ok (.int ns.sum) true
  | none=>.bad
 | _,_=>.bad
def isTupD:D->Bool->R
 | .exn _,_=>.bad
 | .ins _ _,_=>.bad
 | .raw _,_=>.bad
 | .tab _,_=>.bad
 | .tup _,_=>.ok (.bl true) true
 | _,_=>.ok (.bl false) true
def isNonD:D->Bool->R
 | .non,_=>.ok (.bl true) true
 | _,_=>.ok (.bl false) true
def sSetD (i:Nat)(e:EE):SS:=λ st=>match e (all st) with
 | .ok d true=>.nx (st.set i (.dp d))
 | .ok _ false=>.bad
 | .exc c=>.exc c st
 | .bad=>.bad
end Dv
namespace Sd
open PySem PySem.Spec PyProof.Rows L2
open Dv (D R RL EE EL EI RI Sl Out SS)
section
variable {C:Ctx}{a b c e k:Expr}{f g h:EE}{F G:SS}{pos pos':Pos}{E:Ends}
theorem mK {X:Cx}(hc:X.calm=true):de X (.builtin "sum") (λ xs H Q=>∃ p,∃ ns:List Int,xs=[.ref p]/\SqX X.K H p (ns.map V.int)/\Q (.int ns.sum) H):=by
 intro pins s σ H xs us Q I r h;obtain⟨p,ns,rfl,hq,q⟩:=h;obtain⟨u,rfl,rx⟩:=vals1 r;cases rx;obtain⟨its,n,rv,e,z⟩:=Inv.listX I hq;have hi:=intsAre_of rv;obtain⟨xs,hx⟩:=hi.allInts.items;have hl':s.heap.IsList p (intItems xs):=hx▸⟨_,e,rfl,n,rfl⟩;refine sum_intListG (I.ok.hd hc) hl' λ h' tk t' hk=>?_
 have e1:ns=xs.toList.map (·.1):=by
  rw[<- nums_intItems,<- hx];exact(show numsOf its.toArray.toList=ns from hi.numsOf).symm
 have e2:preSum (numAt xs) xs.size=ns.sum:=by
  rw[preSum_eq,wW (by simp),e1]
 rw[e2];exact⟨.int _,H,I.kept hk,⟨t',rfl⟩,q⟩
theorem tH (hc:C.X.calm=true):C1S C (.builtin "sum") Dv.sumD:=by
 refine⟨_,mK hc,λ x d fr H Hv H1 Hv1 W Q e rx n q=>?_⟩;cases d with
 | lst ds=>
  simp only[Dv.sumD] at q;cases hi:Dv.intsOf ds with
  | none=>rw[hi] at q;exact Zf q
  | some ns=>
   rw[hi] at q;unfold Rp at rx;obtain⟨l,vs,rfl,h1,h2⟩:=rx;have e1:=RpL.ints hi h2;subst e1;exact⟨l,ns,rfl,h1.same e.vh,Ok.at (d:=.int ns.sum) (fr:=true) q e aV rfl⟩
 | _=>exact Zf q
theorem nY {p:Pos}(hm:C.X.mg "sum"=none)(hg:Gl C.X "sum")(ha:SE C a f)(he:autoParam (starEach [a] C.X.env=[(false,eval a C.X.env)]) ZE._auto_1)(hcl:autoParam (C.X.calm=true) ZE._auto_1):SE C (.Call (.Name "sum" p) [a] [] pos) (Dv.eB1 Dv.sumD f):=
 lr (tH hcl) hg hm (by decide +kernel) ha (by decide) (by decide) he
def uB:D->Bool
 | .tup _=>true
 | _=>false
theorem qG (K:Av)(d:D):AV K (.type (tyD d)) (.type "tuple")=some (uB d):=by cases d <;>rfl
theorem nz (d:D)(fr:Bool)(h:Dv.noTy d=false):Dv.isTupD d fr=.ok (.bl (uB d)) true:=by cases d <;>first|rfl|exact absurd h (by simp[Dv.noTy])
theorem oI {p p2:Pos}(hm:C.X.mg "isinstance"=none)(hmx:C.X.mg "tuple"=none)(hg:Gl C.X "isinstance")(hgx:Gl C.X "tuple")(ha:SE C a f)(he:autoParam (starEach [a,.Name "tuple" p2] C.X.env=(false,eval a C.X.env)::starEach [.Name "tuple" p2] C.X.env) ZE._auto_1)
  (he2:autoParam (starEach [.Name "tuple" p2] C.X.env=[(false,eval (.Name "tuple" p2) C.X.env)]) ZE._auto_1):SE C (.Call (.Name "isinstance" p) [a,.Name "tuple" p2] [] pos) (Dv.eB1 Dv.isTupD f):=iC _ nz (λ d fr h=>by cases d <;>first|rfl|exact absurd h (by simp[Dv.noTy])) qG hg hm hgx hmx (by decide +kernel) ha (by decide) (by decide) he he2
end
section
variable {C:Ctx}{a b c e k:Expr}{f g h:EE}{F G:SS}{pos pos':Pos}{E:Ends}
theorem cw {H H':Hp}{b:Addr}{o:HO}(h:Hnew H H' b=some o):H b=none:=by
 unfold Hnew at h;cases q:H b with
 | none=>rfl
 | some u=>rw[q] at h;cases h
theorem lR {i:Nat}{x:Str}(he:SE C e f)(hN:C.X.N.Nodup)(hi:C.X.N[i]?=some x)(hx:Loc C.X.env.scope x)(hs:autoParam (swapsWith e (some (.Name x pos')) pos.line C.X.env=pure false) ZE._auto_1)
  (hf:autoParam (C.X.fn x=true\/C.X.env.scope.names.lookup x=some .local) ZB._auto_1):SSt C (.Assign [.Name x pos'] e pos) (Dv.sSetD i f):=by
 obtain⟨t,p,q⟩:=he;refine⟨_,iP hN hi hx p hs hf,λ Hv₀ H₀ E σ H st ⟨Hc,O,r⟩ w=>?_⟩;unfold Dv.sSetD at w;refine q.all r (λ c hf H' r'=>?_) (λ hf=>?_) λ d fr v Hv' H' hf x r' rp n=>?_
 ·rw[hf] at w;exact w σ H' ⟨Hc,O,r'⟩
 ·rw[hf] at w;exact w
 ·rw[hf] at w
  cases fr with
  | false=>exact Zf w
  | true=>
   refine w _ H' ⟨Hc,_,r'.setDp (R:=Hnew H H') (λ b o h=>⟨Hnew.sub b o h,r.ch.free (cw h),r.h0.free (cw h),λ j _=>?_⟩) (n rfl)⟩;cases z:O j b with
   | none=>rfl
   | some u=>have:=(r.oh j b u z).1;rw[cw h] at this;cases this
end
structure RoomH (k:Nat)(A:Around):Prop where
 dp:A.depth+3*k+5<recursionLimit
 un:A.units+16*k+200<cLine
theorem RoomH.deeper {k:Nat}{A:Around}(r:RoomH (k+1) A)(env:AY):RoomH k (A.deeper env):=
 ⟨by have:=r.dp;show A.depth+1+3*k+5<_;omega,by have:=r.un;show A.units+3+16*k+200<_;omega⟩
theorem RoomH.depth {k:Nat}{A:Around}(r:RoomH k A):A.depth<recursionLimit:=by have:=r.dp;omega
theorem RoomH.units {k:Nat}{A:Around}(r:RoomH k A):A.units+64<cLine:=by have:=r.un;omega
end Sd
namespace Sd
open PySem PySem.Spec PyProof.Rows L2
open Dv (D R RL EE EL EI RI Sl Out SS)
inductive NamesAre:List Expr->List Str->Prop
 | nil:NamesAre [] []
 | cons {x:Str} {p:Pos} {es:List Expr} {ts:List Str}:NamesAre es ts->NamesAre (.Name x p::es) (x::ts)
theorem NamesAre.length {es:List Expr}{ts:List Str}(h:NamesAre es ts):es.length=ts.length:=by
 induction h with
 | nil=>rfl
 | cons _ ih=>rw[wA,wA,ih]
structure CompNamesT (X:Cx)(scope:Scope)(ts:List Str)(fs:List Str)(is:List Nat):Prop where
 kind:scope.kind=.function
 cell:∀ y∈scope.names,y.2≠.cell
 names:∀ y∈scope.names,y.2=.local->scope.names.lookup y.1=some .local
 tgt:∀ t∈ts,scope.names.lookup t=some .local
 nd:(ts++fs).Nodup
 free:∀ y∈scope.names,y.2=.free->X.env.kindOf y.1=some .cell\/X.env.kindOf y.1=some .free
 fsf:∀ y∈fs,scope.names.lookup y=some .free
 len:is.length=fs.length
 at':∀ (j:Nat) (y:Str),fs[j]?=some y->∃ i,is[j]?=some i/\X.N[i]?=some y
theorem mG {K:Av}{Hv:Hp}{ρ:Dv.Env}{σ:St}{is:List Nat}{ds:List D}{vs:List V}(e:EnvR K Hv ρ σ)(r:RpL K Hv ds vs):EnvR K Hv (ds.map some++Dv.pick ρ is) (vs.map some++bO σ is):=λ j x h=>by
 have hl:=r.length;by_cases hj:j<ds.length
 ·rw[wG (by simpa using hj),wH] at h
  cases q:ds[j]? with
  | none=>rw[q] at h;cases h
  | some d=>
   rw[q] at h;cases h;obtain⟨v,h1,h2⟩:=r.get q;exact⟨v,by rw[wG (by simp;omega),wH,h1];rfl,h2⟩
 ·rw[wI (by simp;omega),wj] at h
  obtain⟨i,h1,h2⟩:=oq h;obtain⟨u,h3,h4⟩:=e i x h2;exact⟨u,by rw[wI (by simp;omega),wj,hl];exact l9 h1 h3,h4⟩
theorem kJ {X:Cx}{pins:List (Addr×Obj)}{σ:St}{H1:Hp}{s2:Shared}{scope:Scope}{ts:List Str}{fs:List Str}{is:List Nat}{cl:List (Str×Addr)}{fp:List Addr}{L:Addr}(I:Inv X pins σ H1 s2)(S:CompNamesT X scope ts fs is)
  (clsub:∀ x c,cl.lookup x=some c->X.env.cells.lookup x=some c) (clhas:∀ y∈scope.names,y.2=.free->∃ c,cl.lookup y.1=some c) (f2:∀ b∈fp,fH X pins H1 b) (fin:∀ b∈fp,b<s2.heap.objs.size) (hL:s2.heap.objs.size<=L):
  (bz X (ts++fs) scope cl L s2 H1 fp).Ok:=by
 refine⟨I.ok.mod,S.kind,I.ok.glob,I.ok.blt,hL,λ y z c h1 h2=>I.ok.inj y z c (clsub y c h1) (clsub z c h2),λ y hy=>?_,λ y c h=>(by cases h),I.ok.hd,I.ok.frames,.inl rfl,λ b hb=>⟨?_,λ y c h=>?_⟩,I.bs,xp I.ok.bsz I.sz,λ b o e hb=>?_,λ b hb hf=>?_,I.stack,I.stkFree⟩
 ·have:(y,A7)∈scope.names:=by
   rcases hy with hy|hy
   ·exact du (env:=X.env) S.cell (.inl rfl) hy
   ·exact du (env:=X.env) S.cell (.inr rfl) hy
  exact clhas _ this rfl
 ·exact wz (wD (fin b hb) hL)
 ·exact(f2 b hb).2.2.2.2.1 y c (clsub y c h)
 ·obtain⟨_,_,_,h4,_⟩:=f2 b hb
  rcases h4 with h4|h4
  ·exact I.ok.noex b o e h4
  ·exact absurd (Az (I.ok.bs b o e).1) (Nat.not_lt.mpr h4)
 ·obtain⟨_,h2,h3,_⟩:=f2 b hb
  rcases List.mem_cons.mp (I.stkSub b hf) with e|e
  ·exact h2 e
  ·exact h3 e
theorem nA {X:Cx}{pins:List (Addr×Obj)}{σ:St}{H1:Hp}{s2:Shared}{scope:Scope}{ts:List Str}{fs:List Str}{is:List Nat}{cl:List (Str×Addr)}{fp:List Addr}{L:Addr}{h1:Heap}{t1:Nat}{m:Str->Option Value}(I:Inv X pins σ H1 s2)(S:CompNamesT X scope ts fs is)
  (clsub:∀ x c,cl.lookup x=some c->X.env.cells.lookup x=some c) (clhas:∀ y∈scope.names,y.2=.free->∃ c,cl.lookup y.1=some c) (f2:∀ b∈fp,fH X pins H1 b) (fin:∀ b∈fp,b<s2.heap.objs.size) (hL:s2.heap.objs.size<=L)
  (old:∀ b o,s2.heap.get? b=some o->h1.get? b=some o) (hn:h1.Ns L m):Inv (bz X (ts++fs) scope cl L s2 H1 fp) [] (List.replicate ts.length none++bO σ is) H1 { s2 with heap:=h1,toks:=t1 }:=by
 refine⟨kJ I S clsub clhas f2 fin hL,rfl,I.bare,Un.kept old,⟨m,hn,λ i y v e1 e2 e3=>?_⟩,λ y c e=>?_,I.hok.fresh hL,λ y c e=>I.freeC y c (clsub y c e),λ p hp=>absurd (show p∈([]:List (Addr×Obj)) from hp) (by simp),I.hok.kept old,?_⟩
 ·by_cases hi:i<ts.length
  ·have e2':(List.replicate ts.length none++bO σ is)[i]?=some (some v):=e2
   rw[wG (by simpa using hi),xq,if_pos hi] at e2';cases e2'
  ·have e1':fs[i-ts.length]?=some y:=by
    have e1'':(ts++fs)[i]?=some y:=e1
    rw[wI ⋯] at e1'';exact e1''
   have e2':(List.replicate ts.length none++bO σ is)[i]?=some (some v):=e2
   rw[wI (by simp;omega),xh] at e2';generalize i-ts.length=j at e1' e2';obtain⟨i,h1',h2'⟩:=oO e2';obtain⟨i',h3,h4⟩:=S.at' j y e1';rw[h1'] at h3;cases h3;have hfr:=S.fsf y (xl e1');have hk:=S.free (y,.free) (mem_lookup hfr) rfl;obtain⟨mm,hm,hl⟩:=I.loc;have vis:Vis X.env.scope y:=by
    rcases hk with k|k
    ·exact .inr (.inl k)
    ·exact .inr (.inr k)
   obtain⟨u,r,l⟩:=hl i y v h4 h2' vis;refine⟨u,r,?_⟩
   rcases l with ⟨k,_⟩|⟨_,c,hc,hcell⟩
   ·have k:X.env.kindOf y=some .local:=k
    rcases hk with k' | k' <;>rw[k] at k' <;>cases k'
   ·obtain⟨c',hc'⟩:=clhas (y,.free) (mem_lookup hfr) rfl
    have:=clsub y c' hc';rw[hc] at this;cases this;obtain⟨oc,hoc,hod⟩:=hcell;refine .inr ⟨?_,c,hc',oc,old c oc hoc,hod⟩;exact dA (env:=X.env) hfr
 ·obtain⟨v,oc,hoc,hod⟩:=I.cell y c (clsub y c e)
  exact⟨v,oc,old c oc hoc,hod⟩
 ·show (List.replicate ts.length none++bO σ is).length=(ts++fs).length
  rw[wB,wB,xh];unfold bO;rw[wj,S.len]
def lA (fsc:Scope)(N:List Str)(scope:Scope)(ts:List Str)(fs:List Str)(is:List Nat):Bool:=
 scope.kind == .function&&scope.names.all (λ y=>!(y.2 == .cell))&&scope.names.all (λ y=>!(y.2 == .local) || scope.names.lookup y.1 == some .local)&&ts.all (λ x=>scope.names.lookup x == some .local)&&decide (ts++fs).Nodup &&
 scope.names.all (λ y=>!(y.2 == .free) || (fsc.names.lookup y.1 == some .cell || fsc.names.lookup y.1 == some .free))&&fs.all (λ y=>scope.names.lookup y == some .free)&&is.length == fs.length&&(fs.zip is).all (λ p=>N[p.2]? == some p.1)
theorem az {X:Cx}{fsc:Scope}{N:List Str}{scope:Scope}{ts:List Str}{fs:List Str}{is:List Nat}(h1:X.env.scope=fsc)(h2:X.N=N)(h:lA fsc N scope ts fs is=true):CompNamesT X scope ts fs is:=by
 subst h1 h2;unfold lA at h;simp only[wq] at h;obtain⟨⟨⟨⟨⟨⟨⟨⟨a1,a2⟩,a3⟩,a4⟩,a5⟩,a6⟩,a7⟩,a8⟩,a9⟩:=h;refine⟨by simpa using a1,λ y hy=>?_,λ y hy hl=>?_,λ t ht=>(by simpa using List.all_eq_true.mp a4 t ht),by simpa using a5,λ y hy hf=>?_,λ y hy=>?_,by simpa using a8,λ j y hj=>?_⟩
 ·have:=List.all_eq_true.mp a2 y hy
  simpa using this
 ·have:=List.all_eq_true.mp a3 y hy
  simpa[hl] using this
 ·have:=List.all_eq_true.mp a6 y hy
  show X.env.scope.names.lookup y.1=some .cell\/X.env.scope.names.lookup y.1=some .free
  simpa[hf] using this
 ·have:=List.all_eq_true.mp a7 y hy
  simpa using this
 ·have hl:is.length=fs.length:=by simpa using a8
  have hjl:j<fs.length:=(List.getElem?_eq_some_iff.mp hj).1;refine⟨is[j]'⋯,by simp,?_⟩;have hm:(y,is[j]'⋯)∈fs.zip is:=by
   have e1:fs[j]=y:=(List.getElem?_eq_some_iff.mp hj).2;have:(fs.zip is)[j]'(by rw[List.length_zip];omega)=(y,is[j]'⋯):=by rw[List.getElem_zip,e1]
   rw[<- this];exact xH _
  have:=List.all_eq_true.mp a9 _ hm;simpa using this
section
variable {C:Ctx}{a b c e k:Expr}{f g h:EE}{F G:SS}{pos pos':Pos}{E:Ends}
theorem oX:OpS C (compareOp .Is) (λ x y=>match y with | .non=>Dv.isNonD x true|_=>.bad):=by
 refine⟨_,tG,λ x y d d' H Hv H1 Hv1 W Q e rx ry q=>?_⟩;cases d' with
 | non=>
  unfold Rp at ry;refine⟨ry,?_⟩;cases d with
  | non=>unfold Rp at rx;subst rx;exact Ok.at (d:=.bl true) (fr:=true) q e aZ rfl
  | bl _=>unfold Rp at rx;subst rx;exact Ok.at (d:=.bl false) (fr:=true) q e aZ rfl
  | int _=>unfold Rp at rx;subst rx;exact Ok.at (d:=.bl false) (fr:=true) q e aZ rfl
  | str _=>unfold Rp at rx;subst rx;exact Ok.at (d:=.bl false) (fr:=true) q e aZ rfl
  | lst _=>unfold Rp at rx;obtain⟨a,vs,rfl,_⟩:=rx;exact Ok.at (d:=.bl false) (fr:=true) q e aZ rfl
  | tup _=>unfold Rp at rx;obtain⟨a,vs,rfl,_⟩:=rx;exact Ok.at (d:=.bl false) (fr:=true) q e aZ rfl
  | exn _=>unfold Rp at rx;obtain⟨a,vs,rfl,_⟩:=rx;exact Ok.at (d:=.bl false) (fr:=true) q e aZ rfl
  | raw _=>unfold Rp at rx;subst rx;exact Ok.at (d:=.bl false) (fr:=true) q e aZ rfl
  | tab _=>unfold Rp at rx;obtain⟨a,vs,rfl,_⟩:=rx;exact Ok.at (d:=.bl false) (fr:=true) q e aZ rfl
  | dct _ _=>unfold Rp at rx;obtain⟨a,vs,rfl,_⟩:=rx;exact Ok.at (d:=.bl false) (fr:=true) q e aZ rfl
  | ins _ _=>unfold Rp at rx;obtain⟨a,C0,dx,fs,vs,rfl,_⟩:=rx;exact Ok.at (d:=.bl false) (fr:=true) q e aZ rfl
 | _=>exact Zf q
theorem sP {j:Nat}{p2:Pos}(ha:SE C a f):SC C (.Compare a [.Is] [.Constant .none j p2] pos) (Dv.eB1 (λ d _=>Dv.isNonD d true) f):=cn oX ha iI (nomark _)
end
end Sd
namespace Dv
def shlD:D->D->R
 | .int i,.int j=>if decide (0<=j)&&decide (j<=1000)&&decide (i.natAbs<1000000) then .ok (.int (i*2 ^ j.toNat)) true else .bad
 | _,_=>.bad
def bandD:D->D->R
 | .int i,.int j=>if decide (0<=i)&&decide (0<=j) then .ok (.int ((i.toNat &&& j.toNat:Nat):Int)) true else .bad
 | _,_=>.bad
def iRev (a:EE):EI:=λ ρ=>match a ρ with
 | .ok (.lst xs) _=>.ok xs.reverse true
 | .exc c=>.exc c
 | _=>.bad
def sUnpackL (is:List Nat)(xs:List Nat)(e:EE):SS:=λ st=>match e (open_ (give is st)) with
 | .ok (.lst ds) _=>if ds.length=xs.length then .nx (setAll xs ds (give is st)) else .bad
 | .exc c=>.exc c st
 | _=>.bad
end Dv
namespace Sd
open PySem PySem.Spec PyProof.Rows L2
open Dv (D R RL EE EL EI RI Sl Out SS)
section
variable {C:Ctx}{a b c e:Expr}{f g h:EE}{pos:Pos}
theorem oE:OpR C.X (binaryOp .LShift) (rI (λ i j=>0<=j/\j<=1000/\i.natAbs<1000000) λ i j=>.int (i*2 ^ j.toNat)):=opI λ i j _ _ _ _ _ hc q=>
 lshift_int_small hc.1 ⋯ (zc hc.2.2 (by decide)) q
theorem tw:OpS C (binaryOp .LShift) Dv.shlD:=gu oE λ d d'=>by
 cases d with
 | int i=>
  cases d' with
  | int j=>
   by_cases h:0<=j/\j<=1000/\i.natAbs<1000000
   ·exact .inl ⟨i,j,.int (i*2 ^ j.toNat),rfl,rfl,h,by simp[Dv.shlD,h.1,h.2.1,h.2.2],rfl,λ _ _=>aV⟩
   ·refine .inr ?_
    simp only[Dv.shlD];rw[if_neg];simp only[wq,decide_eq_true_eq];exact λ q=>h ⟨q.1.1,q.1.2,q.2⟩
  | _=>exact .inr rfl
 | _=>exact .inr rfl
theorem iZ (ha:SE C a f)(hb:SE C b g):SE C (.BinOp a .LShift b pos) (Dv.eB2 Dv.shlD f g):=cC tw ha hb
theorem n6:OpR C.X (binaryOp .BitAnd) (rI (λ i j=>0<=i/\0<=j) λ i j=>.int ((i.toNat &&& j.toNat:Nat):Int)):=opI λ i j _ _ _ _ _ hc q=>
 and_int (by rw[bitAnd_pp hc.1 hc.2];exact q)
theorem nQ:OpS C (binaryOp .BitAnd) Dv.bandD:=gu n6 λ d d'=>by
 cases d with
 | int i=>
  cases d' with
  | int j=>
   by_cases h:0<=i/\0<=j
   ·exact .inl ⟨i,j,.int ((i.toNat &&& j.toNat:Nat):Int),rfl,rfl,h,by simp[Dv.bandD,h.1,h.2],rfl,λ _ _=>aV⟩
   ·refine .inr ?_
    simp only[Dv.bandD];rw[if_neg];simp only[wq,decide_eq_true_eq];exact h
  | _=>exact .inr rfl
 | _=>exact .inr rfl
theorem j8 (ha:SE C a f)(hb:SE C b g):SE C (.BinOp a .BitAnd b pos) (Dv.eB2 Dv.bandD f g):=cC nQ ha hb
theorem tR {j:Nat}{p2:Pos}(ha:SE C a f):SE C (.Compare a [.Is] [.Constant .none j p2] pos) (Dv.eB1 (λ d _=>Dv.isNonD d true) f):=kM oX ha iI (nomark _)
end
section
variable {prog:Program}{w:World}{A:Around}{E:Value->Shared->Prop}
theorem gZ {it t:Addr}{items:Array Value}(hne:t≠it):∀ (n i:Nat) (s:Shared) (Q:List Value->Shared->Prop),s.heap.IsListIter it t i->s.heap.IsList t items->i+n<=items.size ->
  (∀ h',h'.IsListIter it t (i+n)->BW it s.heap h'->Q ((items.toList.drop i).take n) { s with heap:=h' })->wpAny (model prog w) A (draw (.ref it) n) Q E s
 | 0,i,s,Q,hit,_,_,hQ=>by
  show wpAny _ _ (pure []) Q E s
  exact Ax (by simpa using hQ s.heap hit (Heap.SameBut.refl ..))
 | n+1,i,s,Q,hit,ht,hle,hQ=>by
  have hlt:i<items.size:=⋯
  show wpAny _ _ (pyNext (.ref it) >>= _) Q E s
  refine Aw (BQ hit ht (x:=items[i]) (by simp[hlt]) λ h₁ hit₁ hs₁=>?_);refine Aw (AL (gZ hne n (i+1) _ _ hit₁ (ht.at λ o e=>(hs₁.2 t hne).trans e) ⋯ λ h₂ hit₂ hs₂=>Ax ?_));have hd:items.toList.drop i=items[i]::items.toList.drop (i+1):=by simp[xi,hlt]
  have:=hQ h₂ (by rw[show i+(n+1)=i+1+n by omega];exact hit₂) (hs₁.trans hs₂);rw[hd,List.take_succ_cons] at this;exact this
theorem eC {s:Shared}{t:Addr}{items:Array Value}{Q:List Value->Shared->Prop}(hh:A.handled=none)(ht:s.heap.IsList t items)
  (hQ:∀ h',Heap.ExtBut s.heap.objs.size s.heap h'->Q items.toList { s with heap:=h' }):wpAny (model prog w) A (unpackItems (.ref t) items.size none) Q E s:=by
 have hlt:t≠s.heap.objs.size:=by obtain⟨o,ho,_⟩:=ht;exact wz (Az ho)
 unfold unpackItems;refine Aw ?_
 ·unfold notIterableAtAll
  refine Aw (CK ht.typeIs slot_list_iter.lookup ?_);refine Ax ?_
  simp only[wg,if_false];refine Aw (AL (Cq ht ?_));refine Aw (AL (gZ hlt items.size 0 _ _ ⟨_,AF _ rfl,rfl,rfl⟩ (ht.at λ o e=>AB _ e) ⋯ λ h₁ hit₁ hs₁=>?_));have hall:List.take items.size (List.drop 0 items.toList)=items.toList:=by
   rw[yC];exact wW (by simp)
  rw[hall];rw[if_neg (by simp)];have ht₁:h₁.IsList t items:=ht.at λ o e=>(hs₁.2 t hlt).trans (AB _ e)
  refine Aw (AL (BU hh hit₁ ht₁ (by simp) λ h₂ he₂=>?_));simp only[Option.isSome_none,wg,if_false];refine Ax (hQ h₂ λ b o hb e=>he₂ b o hb (hs₁.extBut b o hb (AB _ e)))
theorem dB {s:Shared}{env:AY}{elts:List Expr}{x1}{pos:Pos}{t:Addr}{items:Array Value}{Q:Unit->Shared->Prop}(hh:A.handled=none)(ht:s.heap.IsList t items)
  (hn:(assignEach elts env).length=items.size) (hstar:(assignEach elts env).findIdx? (·.1)=none)
  (h:∀ h',Heap.ExtBut s.heap.objs.size s.heap h'->wpAny (model prog w) A (assignInOrder ((assignEach elts env).map (·.2)) items.toList) Q E { s with heap:=h' }):
  wpAny (model prog w) A (assign (.Tuple elts x1 pos) env (.ref t)) Q E s:=by
 rw[assign_Tuple];refine Aw (BR ?_);unfold unpack;rw[hn,hstar];exact Aw (AL (eC hh ht h))
end
def vG (K:Av)(n:Nat)(t:TGs):TG:=λ v σ H Q=>∃ a xs,v=.ref a/\SqL K H a xs/\xs.length=n/\t xs σ H Q
theorem si {X:Cx}{es:List Expr}{k:Nat}{t:TGs}{n:Nat}{pos:Pos}(hc:X.calm=true)(h:PGs X es t)
  (hn:autoParam ((assignEach es X.env).length=n) ZE._auto_1) (hst:autoParam ((assignEach es X.env).findIdx? (·.1)=none) ZE._auto_1):PG X (.Tuple es k pos) (vG X.K n t):=by
 intro pins s σ H v u Q I r hw;obtain⟨a,xs,e1,hq,hl,hw⟩:=hw;subst e1;cases r;obtain⟨its,rv,ht,hz⟩:=I.list hq;refine dB (I.ok.hd hc) ht.isList (by simp[hn,<- hl,rv.length]) hst λ h' hx=>?_
 have I1:Inv X pins σ H { s with heap:=h' }:=I.kept (t':=s.toks) λ b o e=>hx b o (wz (Az e)) e
 exact h pins _ σ H xs _ Q I1 (by simpa using rv) hw
section
variable {C:Ctx}{e:Expr}{f:EE}{pos:Pos}
theorem kA (is:List Nat){ts:List Expr}{xs:List Nat}{kt:Nat}{tpos:Pos}(he:SE C e f)(hg:SGs C ts xs)(hl:ts.length=xs.length)(hn:autoParam ((assignEach ts C.X.env).length=ts.length) ZE._auto_1)(hst:autoParam ((assignEach ts C.X.env).findIdx? (·.1)=none) ZE._auto_1)
  (hs:autoParam (swapsWithSole [.Tuple ts kt tpos] e pos.line C.X.env=pure false) ZE._auto_1) (hw:autoParam (swappedStores [.Tuple ts kt tpos] e C.X.env=pure none) ZE._auto_1) (h1:autoParam ((assignEach [.Tuple ts kt tpos] C.X.env).map (·.2)=[assign (.Tuple ts kt tpos) C.X.env]) ZE._auto_1) (hcl:autoParam (C.X.calm=true) ZE._auto_1):
  SSt C (.Assign [.Tuple ts kt tpos] e pos) (Dv.sUnpackL is xs f):=by
 obtain⟨t,p,q⟩:=he;obtain⟨g,pg,qg⟩:=hg;refine⟨_,iy p (si hcl pg hn hst) hs hw h1,λ Hv₀ H₀ E σ H st ⟨Hc0,O0,r0⟩ w=>?_⟩;obtain⟨Hc,O,_,r⟩:=r0.give is;unfold Dv.sUnpackL at w;refine q.open r (λ c hf Hc' H' x=>?_) (λ hf=>?_) λ d fr v Hc' H' hf x r' rp=>?_
 ·simp only[hf] at w;exact w σ H' ⟨Hc0,O0,r0.grow x.hh x.nf⟩
 ·simp only[hf] at w;exact w
 ·simp only[hf] at w
  cases d with
  | lst ds=>
   by_cases hz:ds.length=xs.length
   ·simp only[hz,if_true] at w
    unfold Rp at rp;obtain⟨a,vs,rfl,h2,h3⟩:=rp;exact⟨a,vs,rfl,(h2.same x.vh).seq,by rw[h3.length,hz,hl],qg Hv₀ H₀ Hc' O H' σ _ ds vs _ r' h3 hz λ σ' r2=>w σ' H' ⟨Hc',O,r2⟩⟩
   ·simp only[hz,if_false] at w;exact Zf w
  | _=>exact Zf w
end
inductive RawL (K:Av)(Hc:Hp):List D->List D->Prop
 | nil:RawL K Hc [] []
 | scal {d:D} {r r':List D}:Dv.scal d=true->RawL K Hc r r'->RawL K Hc (d::r) (d::r')
 | tup {es:List D} {a:Addr} {us:List V} {r r':List D}:Dv.flatL es=true->Hc a=some (.tup us)->RpL K Hc es us->RawL K Hc r r'->RawL K Hc (.tup es::r) (.raw a::r')
inductive RawLL (K:Av)(Hc:Hp):List D->List D->Prop
 | nil:RawLL K Hc [] []
 | cons {es es' r r':List D}:RawL K Hc es es'->RawLL K Hc r r'->RawLL K Hc (.lst es::r) (.lst es'::r')
theorem RawL.same {K:Av}{H H':Hp}(e:Same H H'):∀ {ds ds':List D},RawL K H ds ds'->RawL K H' ds ds'
 | _,_,.nil=>.nil
 | _,_,.scal h t=>.scal h (RawL.same e t)
 | _,_,.tup f h g t=>.tup f (e _ _ h) (g.same e) (RawL.same e t)
theorem RawLL.same {K:Av}{H H':Hp}(e:Same H H'):∀ {ds ds':List D},RawLL K H ds ds'->RawLL K H' ds ds'
 | _,_,.nil=>.nil
 | _,_,.cons h t=>.cons (h.same e) (RawLL.same e t)
def rM (xs:List D):Prop:=∀ x∈xs,∃ r:List Int,x=.lst (r.map .int)
end Sd
namespace Dv
structure Wy where
 st:D
 pl:List Int
def Wy.d (w:Wy):D:=.tup [w.st,.lst (w.pl.map .int)]
def wyL (ws:List Wy):D:=.lst (ws.map Wy.d)
def wysD (ws:List (List Wy)):D:=.lst (ws.map wyL)
inductive An where
 | non
 | twi (p:Int)
 | row (k:Nat)
def vM:List Nat:=[116,119,105,99,101]
def vX:List Nat:=[114,111,119]
def An.d:An->D
 | .non=>.non
 | .twi p=>.tup [.str vM,.int p]
 | .row k=>.tup [.str vX,.int k]
structure Cs where
 laid:List Wy
 ix:Nat
 at_:Nat
structure Ws where
 wys:List (List Wy)
 wait:List Cs
 rows:List (Int×Nat)
 sto:List (List An)
 gone:Nat
inductive WR where
 | many
 | bad
 | full (w:Ws) (d:D) (fr:Bool)
 | row (w:Ws)
structure Wk where
 fp:List D->R
 fs:EE
 fl:EE
 ft:EE
def w0 (wys:List (List Wy))(laid:List Wy):Ws:=⟨wys,[⟨laid,0,0⟩],[],[[.non]],0⟩
inductive PR where
 | ok (wys:List (List Wy)) (laid:List Wy)
 | exc (c:String)
 | bad
end Dv
namespace Sd
open PySem PySem.Spec PyProof.Rows L2
open Dv (D R RL EE EL EI RI Sl Out SS Wy An Cs Ws WR Wk)
def wf (wa wl rl:Addr)(g:Int):List (Str×V):=[("ways",.ref wa),("waiting",.ref wl),("rows",.ref rl),("gone",.int g)]
def cf (lb b:Addr)(t:Int):List (Str×V):=[("laid",.ref lb),("answers",.ref b),("at",.int t)]
def vY:Str:="twice"
def vE:Str:="row"
def AnAt (Hs H₀:Hp):An->V->Prop
 | .non,v=>v=.non
 | .twi p,v=>∃ q,v=.ref q/\Hs q=some (.tup [.str vY,.int p])/\H₀ q=none
 | .row k,v=>∃ q,v=.ref q/\Hs q=some (.tup [.str vE,.int k])/\H₀ q=none
def RowAt (Hs H₀:Hp)(an:List Addr)(p:Int×Nat)(v:V):Prop:=∃ r b,v=.ref r/\Hs r=some (.tup [.int p.1,.ref b])/\H₀ r=none/\an[p.2]?=some b
def CsAt (K:Av)(CC:Addr)(Hs:Hp)(an:List Addr)(c:Cs)(v:V):Prop:=∃ x dc lb b,v=.ref x/\Hs x=some (.ins CC dc (cf lb b c.at_))/\Rp K Hs (Dv.wyL c.laid) (.ref lb)/\an[c.ix]?=some b
def vW (Hs H₀ H:Hp)(l:List An)(b:Addr):Prop:=∃ vs,H b=some (.lst vs)/\Paired (AnAt Hs H₀) l vs
structure WkAt (K:Av)(CW CC:Addr)(Hs H H₀:Hp)(a wl rl:Addr)(an:List Addr)(w:Ws):Prop where
 sv:Same Hs H
 oh:Same H₀ H
 nd:(a::wl::rl::an).Nodup
 no:∀ b∈a::wl::rl::an,Hs b=none/\H₀ b=none
 slf:∃ dx wa,H a=some (.ins CW dx (wf wa wl rl w.gone))/\Rp K Hs (Dv.wysD w.wys) (.ref wa)
 wai:∃ vs,H wl=some (.lst vs)/\Paired (CsAt K CC Hs an) w.wait vs
 row:∃ vs,H rl=some (.lst vs)/\Paired (RowAt Hs H₀ an) w.rows vs
 sto:Paired (vW Hs H₀ H) w.sto an
theorem AnAt.same {Hs Hs' H₀:Hp}(e:Same Hs Hs'){x:An}{v:V}(h:AnAt Hs H₀ x v):AnAt Hs' H₀ x v:=by
 cases x with
 | non=>exact h
 | twi p=>obtain⟨q,h1,h2,h3⟩:=h;exact⟨q,h1,e _ _ h2,h3⟩
 | row p=>obtain⟨q,h1,h2,h3⟩:=h;exact⟨q,h1,e _ _ h2,h3⟩
theorem RowAt.same {Hs Hs' H₀:Hp}{an an':List Addr}(e:Same Hs Hs')(ea:∀ (i:Nat) b,an[i]?=some b->an'[i]?=some b){x:Int×Nat}{v:V}(h:RowAt Hs H₀ an x v):RowAt Hs' H₀ an' x v:=by
 obtain⟨r,b,h1,h2,h3,h4⟩:=h;exact⟨r,b,h1,e _ _ h2,h3,ea _ _ h4⟩
theorem CsAt.same {K:Av}{CC:Addr}{Hs Hs':Hp}{an an':List Addr}(e:Same Hs Hs')(ea:∀ (i:Nat) b,an[i]?=some b->an'[i]?=some b){x:Cs}{v:V}(h:CsAt K CC Hs an x v):CsAt K CC Hs' an' x v:=by
 obtain⟨x,dc,lb,b,h1,h2,h3,h4⟩:=h;exact⟨x,dc,lb,b,h1,e _ _ h2,h3.same e,ea _ _ h4⟩
theorem Paired.memR {α β:Type}{F:α->β->Prop}{l:List α}{r:List β}(h:Paired F l r):∀ b∈r,∃ a∈l,F a b:=by
 induction h with
 | nil=>intro b hb;cases hb
 | cons x _ ih=>
  intro b hb
  rcases List.mem_cons.mp hb with rfl|hb
  ·exact⟨_,we,x⟩
  ·obtain⟨a,h1,h2⟩:=ih b hb
   exact⟨a,wd _ h1,h2⟩
section
variable {K:Av}{CW CC:Addr}{Hs Hs' H H' H₀:Hp}{a wl rl:Addr}{an:List Addr}{w:Ws}
theorem Paired.mapM {α β:Type}{F G:α->β->Prop}{l:List α}{r:List β}(h:Paired F l r)(f:∀ a b,b∈r->F a b->G a b):Paired G l r:=by
 induction h with
 | nil=>exact .nil
 | cons x _ ih=>exact .cons (f _ _ we x) (ih λ a b hb q=>f a b (wd _ hb) q)
theorem WkAt.grow (x:WkAt K CW CC Hs H H₀ a wl rl an w)(s:Same Hs Hs')(sv:Same Hs' H')(oh:Same H₀ H')(hh:∀ b∈a::wl::rl::an,∀ o,H b=some o->H' b=some o)(no:∀ b∈a::wl::rl::an,Hs' b=none):WkAt K CW CC Hs' H' H₀ a wl rl an w:=by
 refine⟨sv,oh,x.nd,λ b hb=>⟨no b hb,(x.no b hb).2⟩,?_,?_,?_,?_⟩
 ·obtain⟨dx,wa,h1,h2⟩:=x.slf
  exact⟨dx,wa,hh _ (by simp) _ h1,h2.same s⟩
 ·obtain⟨vs,h1,h2⟩:=x.wai
  exact⟨vs,hh _ (by simp) _ h1,Paired.mapM h2 λ _ _ _ q=>q.same s λ _ _ e=>e⟩
 ·obtain⟨vs,h1,h2⟩:=x.row
  exact⟨vs,hh _ (by simp) _ h1,Paired.mapM h2 λ _ _ _ q=>q.same s λ _ _ e=>e⟩
 ·exact Paired.mapM x.sto λ l b hb ⟨vs,h1,h2⟩=>⟨vs,hh _ (by simp[hb]) _ h1,Paired.mapM h2 λ _ _ _ q=>q.same s⟩
theorem WkAt.has (x:WkAt K CW CC Hs H H₀ a wl rl an w):∀ b∈a::wl::rl::an,∃ o,H b=some o:=by
 intro b hb
 rcases List.mem_cons.mp hb with rfl|hb
 ·obtain⟨_,_,h,_⟩:=x.slf;exact⟨_,h⟩
 rcases List.mem_cons.mp hb with rfl|hb
 ·obtain⟨_,h,_⟩:=x.wai;exact⟨_,h⟩
 rcases List.mem_cons.mp hb with rfl|hb
 ·obtain⟨_,h,_⟩:=x.row;exact⟨_,h⟩
 ·obtain⟨_,_,_,h,_⟩:=Paired.memR x.sto b hb;exact⟨_,h⟩
end
structure Stp (Hs H:Hp)(M:List Addr)(Hs' H':Hp)(M':List Addr):Prop where
 ss:Same Hs Hs'
 nw:∀ b o,Hs' b=some o->Hs b=none->H b=none
 kp:∀ b o,H b=some o->b∉M->H' b=some o
 dm:∀ b o,H b=some o->∃ o',H' b=some o'
 fz:∀ b o u,H' b=some (.frz o u)->H b=some (.frz o u)
 mm:∀ b∈M',b∈M\/H b=none
section
variable {Hs H Hs1 H1 Hs2 H2:Hp}{M M1 M2:List Addr}
theorem Stp.trans (x:Stp Hs H M Hs1 H1 M1)(y:Stp Hs1 H1 M1 Hs2 H2 M2):Stp Hs H M Hs2 H2 M2:=by
 refine⟨x.ss.trans y.ss,λ b o h n=>?_,λ b o h n=>?_,λ b o h=>?_,λ b o u h=>x.fz b o u (y.fz b o u h),λ b h=>?_⟩
 ·cases q:Hs1 b with
  | some u=>exact x.nw b u q n
  | none=>
   have h1:=y.nw b o h q;cases z:H b with
   | none=>rfl
   | some u=>obtain⟨u',hu⟩:=x.dm b u z;rw[h1] at hu;cases hu
 ·refine y.kp b o (x.kp b o h n) λ z=>?_
  rcases x.mm b z with z|z
  ·exact n z
  ·rw[z] at h;cases h
 ·obtain⟨u,hu⟩:=x.dm b o h
  exact y.dm b u hu
 ·rcases y.mm b h with h|h
  ·exact x.mm b h
  ·refine .inr ?_
   cases z:H b with
   | none=>rfl
   | some u=>obtain⟨u',hu⟩:=x.dm b u z;rw[h] at hu;cases hu
end
theorem Paired.set {α β:Type}{F:α->β->Prop}{l:List α}{r:List β}{x:α}{y:β}(q:F x y)(h:Paired F l r):∀ i:Nat,Paired F (l.set i x) (r.set i y):=by
 induction h with
 | nil=>intro i;exact .nil
 | cons z t ih=>
  intro i;cases i with
  | zero=>exact .cons q t
  | succ i=>exact .cons z (ih i)
def FdAt (K:Av)(CC:Addr)(Hs:Hp)(ab:Addr)(p:List Wy×Nat)(v:V):Prop:=∃ x dc lb,v=.ref x/\Hs x=some (.ins CC dc (cf lb ab p.2))/\Rp K Hs (Dv.wyL p.1) (.ref lb)
section
variable {K:Av}{CW CC:Addr}{Hs Hs' H H' H₀:Hp}{a wl rl ab fb:Addr}{an:List Addr}{w:Ws}{as:List An}{fnd:List (List Wy×Nat)}
theorem FdAt.same (e:Same Hs Hs'){x:List Wy×Nat}{v:V}(h:FdAt K CC Hs ab x v):FdAt K CC Hs' ab x v:=by
 obtain⟨x,dc,lb,h1,h2,h3⟩:=h;exact⟨x,dc,lb,h1,e _ _ h2,h3.same e⟩
end
section
variable {K:Av}{CW CC:Addr}{Hs Hs' H H' H₀:Hp}{a wl rl ab fb:Addr}{an:List Addr}{w:Ws}{as:List An}{fnd:List (List Wy×Nat)}
theorem WkAt.ne (x:WkAt K CW CC Hs H H₀ a wl rl an w):a≠wl/\a≠rl/\wl≠rl/\a∉an/\wl∉an/\rl∉an/\an.Nodup:=by
 have h:=x.nd;simp only[zT,xr,not_or] at h;exact⟨h.1.1,h.1.2.1,h.2.1.1,h.1.2.2,h.2.1.2,h.2.2.1,h.2.2.2⟩
end
open Dv (D R RL EE EL EI RI Sl Out SS Wy An Cs Ws WR Wk PR)
open PySem PySem.W PyProof.Rows
section
variable {key:Nat->Int}{n:Nat}
def Pm (n:Nat)(p:Array Nat):Prop:=p.size=n/\p.toList.Perm (List.range n)
theorem Pm.lt {p:Array Nat}(h:Pm n p){k:Nat}(hk:k<n):p.getD k 0<n:=by
 have hs:k<p.size:=by rw[h.1];exact hk
 have e:p.getD k 0=p[k]:=by simp[AR,hs]
 rw[e];have:p[k]∈p.toList:=by simp
 exact List.mem_range.mp (h.2.mem_iff.mp this)
end
open PySem PySem.W PySem.Calls PyProof.Rows
end Sd
namespace Sd
open PySem PySem.Spec PySem.W PySem.Calls PyProof.Rows L2
open Dv (D R RL EE EL EI RI Sl Out SS)
def ItL (K:Frag)(H:Hp)(v:V)(ns:List Int):Prop:=∃ b,v=.ref b/\SqX K H b (ns.map V.int)
def ItT (H:Hp)(v:V)(ns:List Int):Prop:=∃ b,v=.ref b/\Rd H b (.tup (ns.map V.int))/\ns≠[]
theorem ItL.same {K:Frag}{H H':Hp}(e:Same H H'){v:V}{ns:List Int}(h:ItL K H v ns):ItL K H' v ns:=let ⟨b,h1,h2⟩:=h;⟨b,h1,h2.same e⟩
theorem ItT.same {H H':Hp}(e:Same H H'){v:V}{ns:List Int}(h:ItT H v ns):ItT H' v ns:=let ⟨b,h1,h2,h3⟩:=h;⟨b,h1,Rd.same e h2,h3⟩
open PySem PySem.Spec PyProof.Rows L2
open Dv (D R RL EE EL EI RI Sl Out SS Wy An Cs Ws WR Wk PR)
end Sd
namespace Sts
open PySem PySem.SetTable
def Ris (xs:Array Nat):Prop:=xs.toList.Pairwise (·<·)
theorem Ris.at {xs:Array Nat}(r:Ris xs){i j:Nat}(hj:j<xs.size)(hij:i<j):xs.getD i 0<xs.getD j 0:=by
 have hi:i<xs.size:=⋯
 have:=List.pairwise_iff_getElem.mp r i j (by simpa using hi) (by simpa using hj) hij;simpa[AR,hi,hj] using this
theorem oF {xs:Array Nat}(r:Ris xs)(j:Nat):∀ (fuel lo hi:Nat),hi<=xs.size->lo<=hi->hi-lo<=fuel->(∀ i,i<lo->xs.getD i 0<j)->(∀ i,hi<=i->i<xs.size->j<=xs.getD i 0) ->
  below.go xs j fuel lo hi<=xs.size/\(∀ i,i<below.go xs j fuel lo hi->xs.getD i 0<j)/\∀ i,below.go xs j fuel lo hi<=i->i<xs.size->j<=xs.getD i 0
 | 0,lo,hi,h1,h2,h3,h4,h5=>by
  have:lo=hi:=⋯
  subst this;exact⟨h1,h4,h5⟩
 | fuel+1,lo,hi,h1,h2,h3,h4,h5=>by
  unfold below.go;by_cases hl:lo<hi
  ·rw[if_pos hl]
   have hm:(lo+hi)/2<xs.size:=⋯
   have eg:xs.getD ((lo+hi)/2) j=xs.getD ((lo+hi)/2) 0:=by simp[AR,hm]
   simp only[eg];by_cases hc:xs.getD ((lo+hi)/2) 0<j
   ·rw[if_pos hc]
    refine oF r j fuel _ _ h1 ⋯ ⋯ (λ i hi'=>?_) h5;by_cases e:i=(lo+hi)/2
    ·subst e;exact hc
    ·exact zc (r.at hm ⋯) hc
   ·rw[if_neg hc]
    refine oF r j fuel _ _ ⋯ ⋯ ⋯ h4 λ i h6 h7=>?_
    by_cases e:i=(lo+hi)/2
    ·subst e;omega
    ·have:=r.at (i:=(lo+hi)/2) h7 ⋯;omega
  ·rw[if_neg hl]
   have:lo=hi:=⋯
   subst this;exact⟨h1,h4,h5⟩
theorem d9 {xs:Array Nat}(r:Ris xs)(j:Nat):below xs j<=xs.size/\(∀ i,i<below xs j->xs.getD i 0<j)/\∀ i,below xs j<=i->i<xs.size->j<=xs.getD i 0:=
 oF r j xs.size 0 xs.size (wu _) (xw _) ⋯ (λ i h=>⋯) λ i h1 h2=>⋯
theorem below_at {xs:Array Nat}(r:Ris xs){i:Nat}(hi:i<xs.size):below xs (xs.getD i 0)=i:=by
 obtain⟨h1,h2,h3⟩:=d9 r (xs.getD i 0)
 rcases yM (below xs (xs.getD i 0)) i with h|h|h
 ·have a:=h3 _ (wu _) ⋯
  have b:=r.at hi h;omega
 ·exact h
 ·have:=h2 i h;omega
def Occ (t:SetTable)(j:Nat):Prop:=j∈t.place.toList
theorem lg (j:Nat):has #[] j=false:=by
 simp[has,below,below.go]
theorem eM {t:SetTable}(r:Ris t.place){i:Nat}(hi:i<t.place.size):t.slot (t.place.getD i 0)=.live i:=by
 unfold slot;simp only[below_at r hi];have:t.place[i]?=some (t.place.getD i 0):=by simp[AR,hi]
 rw[this];simp
theorem kU {t:SetTable}(hd:t.dummies=#[]){j:Nat}(h:¬ Occ t j):t.slot j=.empty:=by
 unfold slot;have:¬ (t.place[below t.place j]? == some j)=true:=λ e=>by
  have e:=beq_iff_eq.mp e;exact h (by rw[<- AH] at e;exact xl e)
 rw[if_neg this,hd,lg];rfl
theorem o7 {t:SetTable}{j:Nat}(h:Occ t j):∃ i,i<t.place.size/\t.place.getD i 0=j:=by
 obtain⟨i,hi,e⟩:=wQ h;have hi':i<t.place.size:=by simpa using hi
 exact⟨i,hi',by simpa[AR,hi'] using e⟩
def adv (mask:Nat)(p:Probe):Probe:=
 if p.more > 0 then { p with j:=p.j+1,more:=p.more-1 } else
 { p with j:=(leap mask p.i p.perturb).1,more:=runEnd mask (leap mask p.i p.perturb).1-(leap mask p.i p.perturb).1,i:=(leap mask p.i p.perturb).1,perturb:=(leap mask p.i p.perturb).2 }
def adN (mask:Nat):Nat->Probe->Probe
 | 0,p=>p
 | k+1,p=>adN mask k (adv mask p)
theorem bx (mask:Nat):∀ (a b:Nat) (p:Probe),adN mask (a+b) p=adN mask b (adN mask a p)
 | 0,b,p=>by rw[xy];rfl
 | a+1,b,p=>by rw[Ag];exact bx mask a b (adv mask p)
theorem j2 (mask k:Nat)(p:Probe):adN mask (k+1) p=adv mask (adN mask k p):=bx mask k 1 p
theorem gU (mask:Nat)(p:Probe):(adv mask p).dummy=p.dummy:=by unfold adv;split <;>rfl
theorem gN (mask:Nat):∀ (k:Nat) (p:Probe),(adN mask k p).dummy=p.dummy
 | 0,_=>rfl
 | k+1,p=>by rw[adN,gN mask k,gU]
def at0 (mask i pt:Nat)(d:Option Nat):Probe:={ j:=i,more:=runEnd mask i-i,i:=i,perturb:=pt,dummy:=d }
theorem nD (mask i:Nat):runEnd mask i-i<=9:=by unfold runEnd;split <;>omega
theorem dH (mask:Nat):∀ (m:Nat) (p:Probe),p.more=m->adN mask (m+1) p=at0 mask (leap mask p.i p.perturb).1 (leap mask p.i p.perturb).2 p.dummy
 | 0,p,h=>by
  unfold adN adN adv;rw[if_neg ⋯];rfl
 | m+1,p,h=>by
  rw[adN];have e:adv mask p={ p with j:=p.j+1,more:=p.more-1 }:=by unfold adv;rw[if_pos ⋯]
  rw[e];exact dH mask m _ (by show p.more-1=m;omega)
def lps (mask:Nat):Nat->Nat×Nat->Nat×Nat
 | 0,x=>x
 | l+1,x=>lps mask l (leap mask x.1 x.2)
theorem nW (mask:Nat):∀ (l:Nat) (p:Probe),p.more<=9->∃ k,k<=10*(l+1)/\adN mask k p=at0 mask (lps mask (l+1) (p.i,p.perturb)).1 (lps mask (l+1) (p.i,p.perturb)).2 p.dummy
 | 0,p,h=>⟨p.more+1,⋯,dH mask _ p rfl⟩
 | l+1,p,h=>by
  obtain⟨k,h1,h2⟩:=nW mask l (at0 mask (leap mask p.i p.perturb).1 (leap mask p.i p.perturb).2 p.dummy) (nD _ _);refine⟨p.more+1+k,⋯,?_⟩;rw[bx,dH mask _ p rfl,h2];rfl
theorem k8 (mask:Nat):∀ (a b:Nat) (x:Nat×Nat),lps mask (a+b) x=lps mask b (lps mask a x)
 | 0,b,x=>by rw[xy];rfl
 | a+1,b,x=>by rw[Ag];exact k8 mask a b _
theorem nF (mask:Nat):∀ (a:Nat) (x:Nat×Nat),(lps mask a x).2=x.2/32 ^ a
 | 0,x=>by simp[lps]
 | a+1,x=>by
  rw[lps,nF mask a];show x.2/32/32 ^ a=_
  rw[Nat.div_div_eq_div_mul,yA,ym]
def g5 (mask i:Nat):Nat:=(i*5+1)%(mask+1)
def g5n (mask:Nat):Nat->Nat->Nat
 | 0,i=>i
 | k+1,i=>g5n mask k (g5 mask i)
theorem jr (mask:Nat):∀ (a i:Nat),lps mask a (i,0)=(g5n mask a i,0)
 | 0,i=>rfl
 | a+1,i=>by
  rw[lps];have:leap mask i 0=(g5 mask i,0):=by simp[leap,g5]
  show lps mask a (leap mask i 0)=_
  rw[this,jr mask a];rfl
def s5:Nat->Nat
 | 0=>0
 | m+1=>s5 m+5 ^ m
theorem iE:∀ m,4*s5 m+1=5 ^ m
 | 0=>rfl
 | m+1=>by
  have:=iE m;rw[s5,yA];omega
theorem kG (a:Nat):∀ b,s5 (a+b)=s5 a+5 ^ a*s5 b
 | 0=>by simp[s5]
 | b+1=>by
  rw[<- yv,s5,kG a b,s5,xI,Am,yv]
theorem n8:∀ k,∃ t,s5 (2 ^ k)=2 ^ k*(2*t+1)
 | 0=>⟨0,rfl⟩
 | k+1=>by
  obtain⟨t,e⟩:=n8 k;refine⟨t*(2*s5 (2 ^ k)+1)+s5 (2 ^ k),?_⟩;have h:=iE (2 ^ k);rw[yA,Ap,kG,<- h];have e2:s5 (2 ^ k)+(4*s5 (2 ^ k)+1)*s5 (2 ^ k)=s5 (2 ^ k)*(2*(2*s5 (2 ^ k)+1)):=by
   generalize s5 (2 ^ k)=x;rw[yH,zM,ym x,xI,yH];have:2*(2*x)*x=4*x*x:=by rw[<- w8]
   omega
  rw[e2]
  conv=>lhs;lhs;rw[e]
  generalize s5 (2 ^ k)=x;rw[<- Ap,w8,w8];congr 1;rw[Nat.mul_left_comm];congr 1;have h1:2*t*(2*x)=2*(t*(2*x)):=by rw[w8]
  have h2:2*(t*(2*x+1))=2*(t*(2*x))+2*t:=by rw[xI,zl,xI]
  rw[yH,zM,xI,zl,h1,xI,h2];omega
theorem lu (mask:Nat):∀ (m i:Nat),i<=mask->g5n mask m i=(5 ^ m*i+s5 m)%(mask+1)
 | 0,i,h=>by simp[g5n,s5,xu (show i<mask+1 by omega)]
 | m+1,i,h=>by
  have hl:=yd (i*5+1) (show 0<mask+1 by omega);rw[g5n,lu mask m (g5 mask i) (by unfold g5;omega)];unfold g5;rw[Aq,Ar,Nat.mod_mod,<- Ar,<- Aq,xI,yA,s5];congr 1;rw[ym i 5,<- w8,zl];omega
theorem gO (i:Nat):∀ (k s:Nat),∃ m,m<2 ^ k/\(5 ^ m*i+s5 m)%2 ^ k=s%2 ^ k
 | 0,s=>⟨0,by decide,by rw[Nat.pow_zero,As,As]⟩
 | k+1,s=>by
  obtain⟨m,hm,e⟩:=gO i k s;obtain⟨t,et⟩:=n8 k;have hp:0<2 ^ k:=Nat.two_pow_pos k;have h4:=iE (2 ^ k);have add:5 ^ (m+2 ^ k)*i+s5 (m+2 ^ k)=(5 ^ m*i+s5 m)+2 ^ k*((2*t+1)*(4*(5 ^ m*i+s5 m)+1)):=by
   rw[zb m,kG,Am,zb (s5 (2 ^ k)),<- w8 (2 ^ k),<- et,w8,<- yv,<- xI,<- h4];generalize 5 ^ m*i+s5 m=x;generalize s5 (2 ^ k)=y;rw[yH,xI,zM,zl];have:4*y*x=y*(4*x):=by rw[ym 4 y,w8]
   omega
  rw[yA];generalize 2 ^ k=p at *;obtain⟨x,hx⟩:∃ x,x=5 ^ m*i+s5 m:=⟨_,rfl⟩;rw[<- hx] at e add;obtain⟨u,eu⟩:∃ u,(2*t+1)*(4*x+1)=2*u+1:=⟨t*(4*x+1)+2*x,by rw[yH,w8];omega⟩;by_cases c:x/p%2=s/p%2
  ·exact⟨m,⋯,by rw[<- hx,zm,zm,e,c]⟩
  ·refine⟨m+p,⋯,?_⟩
   rw[add,eu,zm,zm,yN,e,Nat.add_mul_div_left _ _ hp];congr 2;omega
def Mk (mask:Nat):Prop:=∃ k,k<=13/\mask+1=2 ^ k
theorem Mk.le {mask:Nat}(h:Mk mask):mask<=8191:=by
 obtain⟨k,hk,e⟩:=h;have:=zA (show 0<2 by decide) hk;have:(2:Nat) ^ 13=8192:=rfl;omega
theorem mk7:Mk 7:=⟨3,by decide,rfl⟩
theorem vj:Mk 31:=⟨5,by decide,rfl⟩
theorem rN:Mk 127:=⟨7,by decide,rfl⟩
theorem rJ:Mk 511:=⟨9,by decide,rfl⟩
theorem n5:Mk 2047:=⟨11,by decide,rfl⟩
theorem pv:Mk 8191:=⟨13,by decide,rfl⟩
theorem mC {mask:Nat}(h:Mk mask){i s:Nat}(hi:i<=mask)(hs:s<=mask):∃ m,m<=mask/\g5n mask m i=s:=by
 obtain⟨k,_,e⟩:=h;obtain⟨m,hm,em⟩:=gO i k s;refine⟨m,⋯,?_⟩;rw[lu mask m i hi,e,em,xu ⋯]
theorem ic (mask i pt:Nat):(leap mask i pt).1<=mask:=by
 show (i*5+1+pt/32)%(mask+1)<=mask
 have:=yd (i*5+1+pt/32) (show 0<mask+1 by omega);omega
theorem pC (mask:Nat):∀ (l:Nat) (x:Nat×Nat),(lps mask (l+1) x).1<=mask
 | 0,x=>ic _ _ _
 | l+1,x=>by rw[lps];exact pC mask l _
theorem lL {mask:Nat}(h:Mk mask){i pt s:Nat}(hp:pt<2 ^ 64)(hs:s<=mask):∃ l,l+1<=mask+13/\(lps mask (l+1) (i,pt)).1=s:=by
 have h0:(lps mask 13 (i,pt)).2=0:=by
  rw[nF];exact Nat.div_eq_of_lt (zc hp (by decide))
 obtain⟨m,hm,e⟩:=mC h (pC mask 12 (i,pt)) hs;refine⟨12+m,⋯,?_⟩;rw[show 12+m+1=13+m by omega,k8];have:lps mask 13 (i,pt)=((lps mask 13 (i,pt)).1,0):=by rw[<- h0]
 rw[this,jr];exact e
theorem cover {mask:Nat}(h:Mk mask){p:Probe}(hm:p.more<=9)(hp:p.perturb<2 ^ 64){s:Nat}(hs:s<=mask):∃ k,k<10*turns mask/\(adN mask k p).j=s:=by
 obtain⟨l,h1,h2⟩:=lL h (i:=p.i) hp hs;obtain⟨k,h3,h4⟩:=nW mask l p hm;exact⟨k,by unfold turns;omega,by rw[h4];exact h2⟩
def start (mask:Nat)(h:Int):Probe:=at0 mask (bits h%(mask+1)) (bits h) none
theorem pf (t:SetTable)(h:Int):t.probeStart h=start t.mask h:=rfl
theorem lq (h:Int):bits h<2 ^ 64:=by
 unfold bits;have h1:=zg h (show (2 ^ 64:Int)≠0 by decide);have h2:=yF h (show (0:Int)<2 ^ 64 by decide);omega
theorem ji {P:Nat->Prop}[DecidablePred P]:∀ (k:Nat),P k->∃ k0,k0<=k/\P k0/\∀ k',k'<k0->¬ P k'
 | 0,h=>⟨0,wu _,h,λ k' hk=>⋯⟩
 | k+1,h=>by
  by_cases q:∃ k',k'<=k/\P k'
  ·obtain⟨k',h1,h2⟩:=q
   have:∀ m,m<=k->P m->∃ k0,k0<=k/\P k0/\∀ k',k'<k0->¬ P k':=λ m hm hp=>by
    obtain⟨k0,a,b,c⟩:=ji m hp;exact⟨k0,⋯,b,c⟩
   obtain⟨k0,a,b,c⟩:=this k' h1 h2;exact⟨k0,⋯,b,c⟩
  ·exact⟨k+1,wu _,h,λ k' hk hp=>q ⟨k',⋯,hp⟩⟩
instance (t:SetTable)(j:Nat):Decidable (Occ t j):=inferInstanceAs (Decidable (j∈t.place.toList))
theorem nH {l:List Nat}:∀ {n:Nat},l.Nodup->(∀ x∈l,x<n)->l.length<=n:=λ {n} nd h=>by
 have:=nd.length_le_of_subset (l₂:=List.range n) λ x hx=>List.mem_range.mpr (h x hx)
 simpa using this
theorem pJ {t:SetTable}(r:Ris t.place)(hf:t.place.size<=t.mask):∃ s,s<=t.mask/\¬ Occ t s:=by
 refine Bg λ hn=>?_
 have all:∀ s∈List.range (t.mask+1),s∈t.place.toList:=λ s hs=>Bg λ q=>hn ⟨s,by have:=List.mem_range.mp hs;omega,q⟩
 have:=(yY (n:=t.mask+1)).length_le_of_subset all;simp at this;omega
theorem gi {t:SetTable}(r:Ris t.place)(hk:Mk t.mask)(hf:t.place.size<=t.mask)(h:Int):∃ k0,k0<10*turns t.mask/\¬ Occ t (adN t.mask k0 (start t.mask h)).j/\∀ k',k'<k0->Occ t (adN t.mask k' (start t.mask h)).j:=by
 obtain⟨s,h1,h2⟩:=pJ r hf;obtain⟨k,h3,h4⟩:=cover hk (p:=start t.mask h) (nD _ _) (lq h) h1;obtain⟨k0,a,b,c⟩:=ji (P:=λ k=>¬ Occ t (adN t.mask k (start t.mask h)).j) k (by rw[h4];exact h2);exact⟨k0,⋯,b,λ k' hk'=>Decidable.not_not.mp (c k' hk')⟩
theorem dw {t:SetTable}(r:Ris t.place)(hd:t.dummies=#[]){hashAt:Nat->Int}{h:Int}:∀ (k fuel:Nat) (p:Probe),p.dummy=none->k<fuel->(∀ k',k'<k->∃ i,i<t.place.size/\t.place.getD i 0=(adN t.mask k' p).j/\hashAt i≠h) ->
  (¬ Occ t (adN t.mask k p).j->probe.go t hashAt h fuel p=some (.empty (adN t.mask k p).j none)) /\
  ∀ i,i<t.place.size->t.place.getD i 0=(adN t.mask k p).j->hashAt i=h->probe.go t hashAt h fuel p=some (.candidate (adN t.mask k p).j i (adN t.mask (k+1) p))
 | 0,0,p,_,hf,_=>⋯
 | k+1,0,p,_,hf,_=>⋯
 | 0,fuel+1,p,hn,hf,_=>by
  refine⟨λ ho=>?_,λ i hi e eh=>?_⟩
  ·unfold probe.go
   rw[show t.slot p.j=.empty from kU hd ho,hn];rfl
  ·unfold probe.go
   have:t.slot p.j=.live i:=by
    have e:t.place.getD i 0=p.j:=e;rw[<- e];exact eM r hi
   rw[this];simp only[eh,beq_self_eq_true,if_true];rfl
 | k+1,fuel+1,p,hn,hf,hs=>by
  obtain⟨i,hi,e,ne⟩:=hs 0 ⋯;have sl:t.slot p.j=.live i:=by
   have e:t.place.getD i 0=p.j:=e;rw[<- e];exact eM r hi
  have st:probe.go t hashAt h (fuel+1) p=probe.go t hashAt h fuel (adv t.mask p):=by
   rw[probe.go,sl];have:(hashAt i == h)=false:=by simpa using ne
   simp only[this,wg,if_false];rfl
  rw[st];exact dw r hd k fuel (adv t.mask p) (by rw[gU];exact hn) ⋯ λ k' hk'=>hs (k'+1) ⋯
theorem bp {α:Type}(xs:Array α)(p:Nat)(x:α):(insertAt xs p x).toList=xs.toList.take p++x::xs.toList.drop p:=by
 unfold insertAt;simp[Bh,wW]
theorem dE {α:Type}(xs:Array α)(p:Nat)(x:α):(insertAt xs p x).size=xs.size+1:=by
 rw[<- AD,bp];simp;omega
theorem p6 {xs:Array Nat}(r:Ris xs){j:Nat}(h:j∉xs.toList):Ris (insertAt xs (below xs j) j):=by
 obtain⟨h1,h2,h3⟩:=d9 r j;unfold Ris;rw[bp];have tk:∀ x∈xs.toList.take (below xs j),x<j:=λ x hx=>by
  obtain⟨i,hi,rfl⟩:=wQ hx;rw[zF];rw[wX] at hi;have hi':i<xs.size:=by have:=AD (xs:=xs);omega
  have:=h2 i ⋯;simpa[AR,hi'] using this
 have dr:∀ x∈xs.toList.drop (below xs j),j<x:=λ x hx=>by
  have hm:=List.mem_of_mem_drop hx;obtain⟨i,hi,e⟩:=wQ hx;rw[zG] at e;rw[yr] at hi;have hi':below xs j+i<xs.size:=by have:=AD (xs:=xs);omega
  have h4:=h3 (below xs j+i) ⋯ hi';have h5:j<=x:=by rw[<- e];simpa[AR,hi'] using h4
  have h6:j≠x:=λ q=>h (q▸hm)
  omega
 refine List.pairwise_append.mpr ⟨List.Pairwise.sublist (yL _ _) r,List.pairwise_cons.mpr ⟨dr,List.Pairwise.sublist (List.drop_sublist _ _) r⟩,λ x hx y hy=>?_⟩
 rcases List.mem_cons.mp hy with rfl|hy
 ·exact tk x hx
 ·exact zc (tk x hx) (dr y hy)
theorem ins_mem {α:Type}{xs:Array α}{p:Nat}{x y:α}:y∈(insertAt xs p x).toList ↔ y=x\/y∈xs.toList:=by
 rw[bp,xM,xr];have:y∈xs.toList ↔ y∈xs.toList.take p\/y∈xs.toList.drop p:=by
  conv=>lhs;rw[<- wZ p xs.toList]
  exact xM
 rw[this]
 constructor
 ·rintro (a|a|a)
  ·exact .inr (.inl a)
  ·exact .inl a
  ·exact .inr (.inr a)
 ·rintro (a|a|a)
  ·exact .inr (.inl a)
  ·exact .inl a
  ·exact .inr (.inr a)
theorem qu {α β:Type}{xs:Array α}{ys:Array β}(hl:xs.size=ys.size)(p:Nat)(x:α)(y:β)(q:α×β):q∈(insertAt xs p x).toList.zip (insertAt ys p y).toList ↔ q=(x,y)\/q∈xs.toList.zip ys.toList:=by
 have hl':xs.toList.length=ys.toList.length:=by simpa using hl
 rw[bp,bp,zU (by rw[wX,wX,hl']),List.zip_cons_cons,xM,xr];have e:xs.toList.zip ys.toList=(xs.toList.take p).zip (ys.toList.take p)++(xs.toList.drop p).zip (ys.toList.drop p):=by
  rw[<- zU (by rw[wX,wX,hl']),wZ,wZ]
 rw[e,xM]
 constructor
 ·rintro (a|a|a)
  ·exact .inr (.inl a)
  ·exact .inl a
  ·exact .inr (.inr a)
 ·rintro (a|a|a)
  ·exact .inr (.inl a)
  ·exact .inl a
  ·exact .inr (.inr a)
def Fits (mask n:Nat):Prop:=(mask=7/\n<5)\/(mask=31/\n<19)\/(mask=127/\n<77)\/(mask=511/\n<307)\/(mask=2047/\n<1229)\/(mask=8191/\n<4915)
theorem Fits.mk {mask n:Nat}(h:Fits mask n):Mk mask:=by rcases h with h|h|h|h|h|h <;>rw[h.1] <;>first|exact mk7|exact vj|exact rN|exact rJ|exact n5|exact pv
theorem Fits.le {mask n:Nat}(h:Fits mask n):n+1<=mask:=by rcases h with h|h|h|h|h|h <;>omega
theorem Fits.grow {mask n:Nat}(h:Fits mask n)(q:(n+1)*5 ≥ mask*3)(hn:n<4096):∃ mask',n+1<=mask'/\Mk mask'/\sizeAbove (grown (n+1))-1=mask'/\Fits mask' (n+1):=by
 rcases h with ⟨f1,f2⟩|⟨f1,f2⟩|⟨f1,f2⟩|⟨f1,f2⟩|⟨f1,f2⟩|⟨f1,f2⟩
 ·have:n=4:=⋯
  subst this;exact⟨31,by decide,vj,by decide,.inr (.inl ⟨rfl,by decide⟩)⟩
 ·have:n=18:=⋯
  subst this;exact⟨127,by decide,rN,by decide,.inr (.inr (.inl ⟨rfl,by decide⟩))⟩
 ·have:n=76:=⋯
  subst this;exact⟨511,by decide,rJ,by decide,.inr (.inr (.inr (.inl ⟨rfl,by decide⟩)))⟩
 ·have:n=306:=⋯
  subst this;exact⟨2047,by decide,n5,by decide,.inr (.inr (.inr (.inr (.inl ⟨rfl,by decide⟩))))⟩
 ·have:n=1228:=⋯
  subst this;exact⟨8191,by decide,pv,by decide,.inr (.inr (.inr (.inr (.inr ⟨rfl,by decide⟩))))⟩
 ·omega
theorem Fits.next {mask n:Nat}(h:Fits mask n)(q:¬ (n+1)*5 ≥ mask*3):Fits mask (n+1):=by
 rcases h with ⟨f1,f2⟩|⟨f1,f2⟩|⟨f1,f2⟩|⟨f1,f2⟩|⟨f1,f2⟩|⟨f1,f2⟩ <;>unfold Fits <;>omega
def Way (mask:Nat)(occ:Nat->Prop)(h:Int)(j:Nat):Prop:=∃ k,(adN mask k (start mask h)).j=j/\∀ k',k'<k->occ (adN mask k' (start mask h)).j
theorem Way.mono {mask:Nat}{o o':Nat->Prop}{h:Int}{j:Nat}(w:Way mask o h j)(m:∀ x,o x->o' x):Way mask o' h j:=let ⟨k,a,b⟩:=w;⟨k,a,λ k' hk=>m _ (b k' hk)⟩
structure TI {α:Type}(t:SetTable)(es:Array (Int×α)):Prop where
 size:t.place.size=es.size
 ris:Ris t.place
 le:∀ j,Occ t j->j<=t.mask
 dum:t.dummies=#[]
 way:∀ q∈es.toList.zip t.place.toList,Way t.mask (Occ t) q.1.1 q.2
theorem TI.fresh {α:Type}(f m:Nat)(l:Bool):TI (α:=α) (.fresh f m l) #[]:=⟨rfl,List.Pairwise.nil,λ j h=>(by cases h),rfl,λ q h=>(by simp at h)⟩
theorem TI.put {α:Type}{t:SetTable}{es:Array (Int×α)}(T:TI t es){h:Int}{x:α}{j:Nat}(hj:j<=t.mask)(ho:¬ Occ t j)(w:Way t.mask (Occ t) h j):
  (t.put j).2=below t.place j/\TI (t.put j).1 (insertAt es (below t.place j) (h,x))/\(t.put j).1.mask=t.mask/\(t.put j).1.plain=t.plain/\(t.put j).1.led=t.led/\(t.put j).1.moves=t.moves/\(t.put j).1.finger=t.finger:=by
 have ed:(if has t.dummies j then eraseAt t.dummies (below t.dummies j) else t.dummies)=#[]:=by
  rw[T.dum,lg];rfl
 have ep:(t.put j).1.place=insertAt t.place (below t.place j) j:=rfl;refine⟨rfl,⟨?_,?_,λ k hk=>?_,ed,λ q hq=>?_⟩,rfl,rfl,rfl,rfl,rfl⟩
 ·rw[ep,dE,dE,T.size]
 ·rw[ep];exact p6 T.ris ho
 ·have hk:k∈(insertAt t.place (below t.place j) j).toList:=hk
  rcases ins_mem.mp hk with rfl|hk
  ·exact hj
  ·exact T.le k hk
 ·have mo:∀ x,Occ t x->Occ (t.put j).1 x:=λ x hx=>ins_mem.mpr (.inr hx)
  rcases (qu T.size.symm _ _ _ q).mp hq with rfl|hq
  ·exact w.mono mo
  ·exact(T.way q hq).mono mo
def own (o:Array (Option Nat))(j:Nat):Prop:=((o.getD j (some 0)).isNone)=false
instance (o:Array (Option Nat))(j:Nat):Decidable (own o j):=inferInstanceAs (Decidable (_=_))
theorem fo (mask i pt:Nat)(d:Option Nat):∀ (k:Nat),k<=runEnd mask i-i->(adN mask k (at0 mask i pt d)).j=i+k/\(adN mask k (at0 mask i pt d)).more=runEnd mask i-i-k/\(adN mask k (at0 mask i pt d)).i=i/\(adN mask k (at0 mask i pt d)).perturb=pt
 | 0,_=>⟨rfl,rfl,rfl,rfl⟩
 | k+1,h=>by
  obtain⟨a,b,c,e⟩:=fo mask i pt d k ⋯;rw[j2];unfold adv;rw[if_pos ⋯];refine⟨?_,?_,c,e⟩
  ·show (adN mask k (at0 mask i pt d)).j+1=_;omega
  ·show (adN mask k (at0 mask i pt d)).more-1=_;omega
theorem lP {mask:Nat}{o:Array (Option Nat)}:∀ (fuel i pt:Nat),(∃ l,l<fuel/\¬ own o (lps mask l (i,pt)).1)->i<=runEnd mask i ->
  ∃ j,layClean.free mask o fuel i pt=some j/\¬ own o j/\∃ k,(adN mask k (at0 mask i pt none)).j=j/\∀ k',k'<k->own o (adN mask k' (at0 mask i pt none)).j
 | 0,i,pt,⟨l,h,_⟩,_=>⋯
 | fuel+1,i,pt,⟨l,h,hl⟩,hr=>by
  unfold layClean.free;cases hf:(List.range (runEnd mask i+1-i)).find? λ k=>(o.getD (i+k) (some 0)).isNone with
  | some k=>
   refine⟨i+k,rfl,?_,k,?_,λ k' hk'=>?_⟩
   ·have:=List.find?_some hf
    unfold own;rw[this];simp
   ·have hk:=List.mem_range.mp (yO hf)
    exact(fo mask i pt none k ⋯).1
   ·have hk:=List.mem_range.mp (yO hf)
    rw[(fo mask i pt none k' ⋯).1];obtain⟨_,as,bs,e,h2⟩:=List.find?_eq_some_iff_append.mp hf;have hm:k'∈as:=by
     have h3:as.length=k:=by
      have:(List.range (runEnd mask i+1-i))[as.length]?=some k:=by rw[e];simp
      rw[ye (by
       have:=congrArg List.length e;simp at this;omega)] at this
      exact Option.some.inj this
     have:(List.range (runEnd mask i+1-i))[k']?=as[k']?:=by rw[e,wG ⋯]
     rw[ye ⋯] at this;exact xl this.symm
    have:=h2 k' hm;unfold own;simp only[Bool.not_eq_true'] at this;exact this
  | none=>
   have hn:=List.find?_eq_none.mp hf;have occ:∀ k,k<=runEnd mask i-i->own o (i+k):=λ k hk=>by
    have:=hn k (List.mem_range.mpr ⋯);unfold own;exact Bool.eq_false_iff.mpr this
   obtain⟨l',rfl⟩:∃ l',l=l'+1:=by
    cases l with
    | zero=>exact absurd (occ 0 ⋯) (by simpa[lps] using hl)
    | succ l'=>exact⟨l',rfl⟩
   have rl:(leap mask i pt).1<=runEnd mask (leap mask i pt).1:=by unfold runEnd;split <;>omega
   obtain⟨j,h1,h2,k,h3,h4⟩:=lP fuel (leap mask i pt).1 (leap mask i pt).2 ⟨l',⋯,hl⟩ rl;refine⟨j,h1,h2,runEnd mask i-i+1+k,?_,λ k' hk'=>?_⟩
   ·rw[bx,show adN mask (runEnd mask i-i+1) (at0 mask i pt none)=at0 mask (leap mask i pt).1 (leap mask i pt).2 none from dH mask _ (at0 mask i pt none) rfl]
    exact h3
   ·by_cases q:k'<=runEnd mask i-i
    ·rw[(fo mask i pt none k' q).1];exact occ k' q
    ·obtain⟨k'',rfl⟩:∃ k'',k'=runEnd mask i-i+1+k'':=⟨k'-(runEnd mask i-i+1),⋯⟩
     rw[bx,show adN mask (runEnd mask i-i+1) (at0 mask i pt none)=at0 mask (leap mask i pt).1 (leap mask i pt).2 none from dH mask _ (at0 mask i pt none) rfl];exact h4 k'' ⋯
structure OI (mask:Nat)(o:Array (Option Nat))(hs:List Int):Prop where
 size:o.size=mask+1
 rg:∀ (j i:Nat),o[j]?=some (some i)->i<hs.length/\Way mask (own o) (hs.getD i 0) j
 one:∀ (j j' i:Nat),o[j]?=some (some i)->o[j']?=some (some i)->j=j'
 all:∀ i,i<hs.length->∃ j:Nat,o[j]?=some (some i)
theorem i6 {mask:Nat}{o:Array (Option Nat)}(hs:o.size=mask+1){j:Nat}(hj:j<=mask):¬ own o j ↔ o[j]?=some none:=by
 have h:j<o.size:=⋯
 unfold own;rw[AC h];simp only[AR,h,dif_pos];show ¬ (o[j]).isNone=false ↔ some o[j]=some none
 generalize o[j]=v;cases v <;>simp
theorem OI.room {mask:Nat}{o:Array (Option Nat)}{hs:List Int}(O:OI mask o hs)(hl:hs.length<=mask):∃ s,s<=mask/\¬ own o s:=by
 refine Bg λ hn=>?_
 have all:∀ s,s<=mask->∃ i,o[s]?=some (some i):=λ s hs'=>by
  have h1:own o s:=Bg λ q=>hn ⟨s,hs',q⟩
  have h2:s<o.size:=by have:=O.size;omega
  cases h3:o[s]? with
  | none=>simp[h2] at h3
  | some v=>
   cases v with
   | none=>exact absurd h1 ((i6 O.size hs').mpr h3)
   | some i=>exact⟨i,rfl⟩
 have mp:∀ s,∃ i,s<=mask->o[s]?=some (some i):=λ s=>by
  by_cases q:s<=mask
  ·obtain⟨i,e⟩:=all s q;exact⟨i,λ _=>e⟩
  ·exact⟨0,λ z=>absurd z q⟩
 let f:=λ s=>Classical.choose (mp s)
 have hf:∀ s,s<=mask->o[s]?=some (some (f s)):=λ s=>Classical.choose_spec (mp s)
 have nd:((List.range (mask+1)).map f).Nodup:=by
  refine List.pairwise_map.mpr (List.Pairwise.imp_of_mem ?_ (yY (n:=mask+1)));intro a b ha hb hab e;have ha:=List.mem_range.mp ha;have hb:=List.mem_range.mp hb;have h1:=hf a ⋯;have h2:=hf b ⋯;rw[<- e] at h2;exact hab (O.one _ _ _ h1 h2)
 have:=nH nd (n:=hs.length) λ x hx=>by
  obtain⟨s,hs',rfl⟩:=List.mem_map.mp hx;exact(O.rg s _ (hf s (by have:=List.mem_range.mp hs';omega))).1
 rw[wj,xC] at this;omega
theorem iD {mask:Nat}(h:Int):∀ k,(adN mask k (start mask h)).j<=mask/\(adN mask k (start mask h)).j+(adN mask k (start mask h)).more<=mask:=by
 have rl:∀ i,i<=mask->i+(runEnd mask i-i)<=mask:=λ i hi=>by unfold runEnd;split <;>omega
 intro k
 induction k with
 | zero=>
  have:bits h%(mask+1)<=mask:=by have:=yd (bits h) (show 0<mask+1 by omega);omega
  exact⟨this,rl _ this⟩
 | succ k ih=>
  rw[j2];unfold adv
  split
  ·refine⟨?_,?_⟩
   ·show (adN mask k (start mask h)).j+1<=mask;omega
   ·show (adN mask k (start mask h)).j+1+((adN mask k (start mask h)).more-1)<=mask;omega
  ·exact⟨ic _ _ _,rl _ (ic _ _ _)⟩
theorem OI.step {mask:Nat}(hk:Mk mask){o:Array (Option Nat)}{hs:List Int}(O:OI mask o hs)(hl:hs.length<=mask)(h:Int):∃ j,layClean.free mask o (turns mask) (bits h%(mask+1)) (bits h)=some j/\OI mask (o.setIfInBounds j (some hs.length)) (hs++[h]):=by
 obtain⟨s,h1,h2⟩:=O.room hl;obtain⟨l,h3,h4⟩:=lL hk (i:=bits h%(mask+1)) (lq h) h1;obtain⟨j,e,hj,k,e2,e3⟩:=lP (mask:=mask) (o:=o) (turns mask) (bits h%(mask+1)) (bits h) ⟨l+1,by unfold turns;omega,by rw[h4];exact h2⟩ (by unfold runEnd;split <;>omega);have hjm:j<=mask:=by rw[<- e2];exact(iD h k).1
 have hjs:j<o.size:=by have:=O.size;omega
 have mo:∀ x,own o x->own (o.setIfInBounds j (some hs.length)) x:=λ x hx=>by
  by_cases q:j=x
  ·subst q;exact absurd hx hj
  ·unfold own at hx ⊢
   have:(o.setIfInBounds j (some hs.length)).getD x (some 0)=o.getD x (some 0):=by
    simp only[Array.getD_eq_getD_getElem?];rw[AN q]
   rw[this];exact hx
 have hno:=(i6 O.size hjm).mp hj;refine⟨j,e,by rw[BH];exact O.size,λ j' i hi=>?_,λ a b i ha hb=>?_,λ i hi=>?_⟩
 ·by_cases q:j=j'
  ·subst q
   rw[A1 hjs] at hi;have hi:hs.length=i:=Option.some.inj (Option.some.inj hi);subst hi;refine⟨by simp,?_⟩;rw[wt,wI (wu _)];simp only[Nat.sub_self,w9,yw];exact Way.mono ⟨k,e2,e3⟩ mo
  ·rw[AN q] at hi
   obtain⟨a,b⟩:=O.rg j' i hi;refine⟨by simp;omega,?_⟩;rw[wt,wG a,<- wt];exact b.mono mo
 ·by_cases qa:j=a <;>by_cases qb:j=b
  ·omega
  ·subst qa
   rw[A1 hjs] at ha;rw[AN qb] at hb;have ha:hs.length=i:=Option.some.inj (Option.some.inj ha);have:=(O.rg b i hb).1;omega
  ·subst qb
   rw[A1 hjs] at hb;rw[AN qa] at ha;have hb:hs.length=i:=Option.some.inj (Option.some.inj hb);have:=(O.rg a i ha).1;omega
  ·rw[AN qa] at ha
   rw[AN qb] at hb;exact O.one a b i ha hb
 ·by_cases q:i=hs.length
  ·subst q;exact⟨j,A1 hjs⟩
  ·obtain⟨j',e'⟩:=O.all i (by simp at hi;omega)
   have:j≠j':=λ z=>by subst z;rw[hno] at e';cases e'
   exact⟨j',by rw[AN this];exact e'⟩
theorem OI.fold {mask:Nat}(hk:Mk mask):∀ (r hs:List Int) (o:Array (Option Nat)),OI mask o hs->hs.length+r.length<=mask+1 ->
  ∃ o',r.foldl (λ (acc:Option (Array (Option Nat)×Nat)) h=>do let (owner,k) <- acc;let j <- layClean.free mask owner (turns mask) (bits h%(mask+1)) (bits h);pure (owner.setIfInBounds j (some k),k+1)) (some (o,hs.length))=some (o',hs.length+r.length)/\OI mask o' (hs++r)
 | [],hs,o,O,_=>⟨o,rfl,by rw[xn];exact O⟩
 | h::r,hs,o,O,hl=>by
  simp only[wA] at hl;obtain⟨j,e,O'⟩:=O.step hk ⋯ h;obtain⟨o',e',O''⟩:=OI.fold hk r (hs++[h]) _ O' (by simp;omega);refine⟨o',?_,by rw[wR] at O'';exact O''⟩;rw[w6];have:(do let (owner,k) <- some (o,hs.length);let j <- layClean.free mask owner (turns mask) (bits h%(mask+1)) (bits h);pure (owner.setIfInBounds j (some k),k+1):Option (Array (Option Nat)×Nat))=some (o.setIfInBounds j (some hs.length),hs.length+1):=by
   simp[e]
  rw[this];have e1:(hs++[h]).length=hs.length+1:=by simp
  rw[e1] at e';rw[e',wA];congr 2;omega
theorem jQ {mask:Nat}(hk:Mk mask)(hs:Array Int)(hl:hs.size<=mask):∃ o,layClean mask hs=some o/\OI mask o hs.toList:=by
 have O0:OI mask (Array.replicate (mask+1) none) []:=⟨by simp,λ j i h=>by simp[Cy] at h,λ j j' i h=>by simp[Cy] at h,λ i h=>by simp at h⟩;obtain⟨o,e,O⟩:=OI.fold hk hs.toList [] _ O0 (by simp;omega);refine⟨o,?_,by simpa using O⟩;unfold layClean;rw[<- Array.foldl_toList];have:([]:List Int).length=0:=rfl;rw[this] at e;rw[e];rfl
def ba (mask:Nat)(o:Array (Option Nat)):List (Nat×Nat):=(List.range (mask+1)).filterMap λ j=>(o.getD j none).map (j,·)
theorem bS {mask:Nat}{o:Array (Option Nat)}(hs:o.size=mask+1){j i:Nat}:(j,i)∈ba mask o ↔ o[j]?=some (some i):=by
 unfold ba;rw[List.mem_filterMap]
 constructor
 ·rintro ⟨j',hj,e⟩
  have hj:=List.mem_range.mp hj;have h:j'<o.size:=⋯
  simp only[AR,h,dif_pos] at e;cases hv:o[j'] with
  | none=>
   have e:(o[j']).map (λ x=>(j',x))=some (j,i):=e;rw[hv] at e;cases e
  | some v=>
   have e:(o[j']).map (λ x=>(j',x))=some (j,i):=e;rw[hv] at e;simp at e;obtain⟨rfl,rfl⟩:=e;rw[AC h,hv]
 ·intro e
  have h:j<o.size:=by
   rcases yB j o.size with q|q
   ·exact q
   ·simp[Ba q] at e
  refine⟨j,List.mem_range.mpr ⋯,?_⟩;rw[AC h] at e;have e:o[j]=some i:=Option.some.inj e;simp only[AR,h,dif_pos];show (o[j]).map (λ x=>(j,x))=some (j,i)
  rw[e];rfl
theorem jx (mask:Nat)(o:Array (Option Nat)):((ba mask o).map (·.1)).Pairwise (·<·):=by
 unfold ba;refine List.pairwise_map.mpr (List.Pairwise.filterMap _ (λ a a' h b hb b' hb'=>?_) List.pairwise_lt_range);cases hv:o.getD a none with
 | none=>rw[hv] at hb;simp at hb
 | some v=>
  cases hv':o.getD a' none with
  | none=>rw[hv'] at hb';simp at hb'
  | some v'=>
   rw[hv] at hb;rw[hv'] at hb';simp at hb hb';subst hb;subst hb';exact h
theorem gM {mask:Nat}{o:Array (Option Nat)}{hs:List Int}(O:OI mask o hs):((ba mask o).map (·.2)).Perm (List.range hs.length):=by
 have nd:(ba mask o).Nodup:=by
  have:=jx mask o;have h2:=List.pairwise_map.mp this;exact h2.imp λ {a b} h e=>by subst e;omega
 have nd2:((ba mask o).map (·.2)).Nodup:=by
  refine List.pairwise_map.mpr (List.Pairwise.imp_of_mem ?_ nd);intro a b ha hb hab e;obtain⟨j,i⟩:=a;obtain⟨j',i'⟩:=b;have e:i=i':=e;subst e;have:=O.one j j' i ((bS O.size).mp ha) ((bS O.size).mp hb);subst this;exact hab rfl
 refine(yI nd2 yY).mpr λ i=>?_
 rw[List.mem_range,xS]
 constructor
 ·rintro ⟨⟨j,i'⟩,h,rfl⟩
  exact(O.rg j i' ((bS O.size).mp h)).1
 ·intro h
  obtain⟨j,e⟩:=O.all i h;exact⟨(j,i),(bS O.size).mpr e,rfl⟩
theorem fg {α:Type}(es:Array α)(d:α):∀ (l:List Nat),(∀ i∈l,i<es.size)->l.filterMap (es[·]?)=l.map λ i=>es.getD i d
 | [],_=>rfl
 | i::l,h=>by
  have hi:=h i we;rw[yc,AC hi,wm,fg es d l λ x hx=>h x (wd _ hx)];simp[AR,hi]
theorem hZ {α:Type}{t:SetTable}{es:Array (Int×α)}{wanted mask':Nat}(hk:Mk mask')(hl:es.size<=mask')(hw:sizeAbove wanted-1=mask'):
  ∃ t' order,t.relaid (es.map (·.1)) wanted=some (t',order)/\(order.filterMap (es[·]?)).toList.Perm es.toList/\TI t' (order.filterMap (es[·]?))/\t'.mask=mask'/\t'.plain=t.plain/\t'.led=t.led:=by
 obtain⟨o,e,O⟩:=jQ hk (es.map (·.1)) (by simpa using hl);have hn:(es.map (·.1)).toList.length=es.size:=by simp
 have lp:=gM O;rw[hn] at lp;have inr:∀ i∈(ba mask' o).map (·.2),i<es.size:=λ i hi=>List.mem_range.mp (lp.mem_iff.mp hi)
 refine⟨{ mask:=mask',place:=((ba mask' o).map (·.1)).toArray,dummies:=#[],finger:=t.finger,led:=t.led,moves:=t.movedTo mask',plain:=t.plain },((ba mask' o).map (·.2)).toArray,?_,?_⟩
 ·unfold relaid laid
  rw[hw,e];rfl
 have ef:((((ba mask' o).map (·.2)).toArray).filterMap (es[·]?)).toList=((ba mask' o).map (·.2)).filterMap (es[·]?):=by
  rw[Array.toList_filterMap]
 refine⟨?_,⟨?_,jx mask' o,λ j hj=>?_,rfl,λ q hq=>?_⟩,rfl,rfl,rfl⟩
 ·rw[ef]
  have h1:=lp.filterMap (es[·]?);refine h1.trans ?_
  refine List.Perm.of_eq ?_
  refine yp λ i=>?_
  by_cases z:es.size=0
  ·have:es=#[]:=by simpa using z
   subst this;simp
  ·have d:=es[0]'⋯
   rw[fg es d _ λ i hi=>List.mem_range.mp hi];rw[wH];by_cases hi:i<es.size
   ·rw[ye hi]
    simp[AR,hi]
   ·rw[xQ (by simp;omega),AH,Ba ⋯]
    rfl
 ·have h2:((((ba mask' o).map (·.2)).toArray).filterMap (es[·]?)).size=(((ba mask' o).map (·.2)).filterMap (es[·]?)).length:=by rw[<- AD,ef]
  rw[h2];show ((ba mask' o).map (·.1)).toArray.size=_
  rw[wx,wj];by_cases z:es.size=0
  ·have:ba mask' o=[]:=by
    have:=lp.length_eq;rw[z] at this;simpa using this
   rw[this];rfl
  ·have d:=es[0]'⋯
   rw[fg es d _ inr];simp
 ·have hj:j∈((ba mask' o).map (·.1)).toArray.toList:=hj
  obtain⟨i,h⟩:∃ i,(j,i)∈ba mask' o:=by simpa using hj
  have:=(bS O.size).mp h;have h3:j<o.size:=by
   rcases yB j o.size with q|q
   ·exact q
   ·simp[Ba q] at this
  have:=O.size;show j<=mask'
  omega
 ·have d:Int×α:=by
   have:q∈_:=hq;exact q.1
  have hq:q∈((((ba mask' o).map (·.2)).toArray).filterMap (es[·]?)).toList.zip ((ba mask' o).map (·.1)):=by simpa using hq
  rw[ef,fg es d _ inr,yn,List.zip_map',xS] at hq;obtain⟨⟨j,i⟩,hm,rfl⟩:=hq;have hO:=(bS O.size).mp hm;obtain⟨a,w⟩:=O.rg j i hO;have hi:i<es.size:=by simpa using a
  have eh:(es.map (·.1)).toList.getD i 0=(es.getD i d).1:=by
   simp[wt,AR,hi]
  rw[eh] at w;obtain⟨k,ek,wk⟩:=w;refine⟨k,ek,λ k' hk'=>?_⟩;have hx:=wk k' hk';have hb:=(iD (mask:=mask') (es.getD i d).1 k').1;show Occ _ (adN mask' k' (start mask' (es.getD i d).1)).j
  generalize (adN mask' k' (start mask' (es.getD i d).1)).j=x at hx hb;show x∈((ba mask' o).map (·.1)).toArray.toList
  have q:x<o.size:=by have:=O.size;omega
  cases hv:o[x]? with
  | none=>simp[q] at hv
  | some v=>
   cases v with
   | none=>
    have:=O.size;exact absurd hx ((i6 O.size ⋯).mpr hv)
   | some i'=>
    simp only[xS];exact⟨(x,i'),(bS O.size).mpr hv,rfl⟩
section
variable {prog:Program}{w:World}{A:Around}{E:Value->Shared->Prop}{s:Shared}
abbrev byT (w:World):Bool:=w.params.followText "set-order"
abbrev tk (prog:Program)(w:World)(ks:List Int):Int:=tupleKeyHash (intKind prog w) ks
abbrev IsK (prog:Program)(w:World)(h:Heap)(ks:List Int)(b:Addr):Prop:=IsTupleKey (intKind prog w) h ks b
def Ent (prog:Program)(w:World)(h:Heap)(e:Int×Value)(ks:List Int):Prop:=∃ b,e=(tk prog w ks,.ref b)/\IsK prog w h ks b
structure SetV (prog:Program)(w:World)(h:Heap)(a:Addr)(es:Array (Int×Value))(ep:Nat)(t:SetTable):Prop where
 obj:h.get? a=some { cls:=.type "set",dict:=none,data:=.set es ep t }
 ti:TI t es
 fit:Fits t.mask es.size
 plain:t.plain=true
 led:t.led=!byT w
 ent:∀ e∈es.toList,∃ ks,Ent prog w h e ks
theorem SetV.fits {h:Heap}{a:Addr}{es:Array (Int×Value)}{ep:Nat}{t:SetTable}(S:SetV prog w h a es ep t):t.fits es.size=true:=by
 have:=S.fit.le;unfold Cj Cn;rw[S.ti.dum,S.ti.size];simp;omega
theorem je (n:Nat){v:Value}(h:∃ i t,v=.int i t):ofAClassStatement n v=pure false:=by
 obtain⟨i,t,rfl⟩:=h;cases n <;>rfl
theorem items_int {ks:List Int}:∀ {vs:List Value},ItemsAre (intKind prog w) ks vs->∀ v∈vs,∃ i t,v=.int i t:=λ {vs} h=>by
 induction h with
 | nil=>intro v hv;cases hv
 | @cons k v ks vs h1 _ ih=>
  intro u hu
  rcases List.mem_cons.mp hu with rfl|hu
  ·obtain⟨t,e⟩:=Co h1
   exact⟨_,t,e⟩
  ·exact ih u hu
theorem df {ks:List Int}{a:Addr}{Q:Bool->Shared->Prop}(hk:IsK prog w s.heap ks a)(h:Q false s):wpAny (model prog w) A (ofAClassStatement 8 (.ref a)) Q E s:=by
 have hT:=hk.typeIs;obtain⟨o,items,n,ho,_,hd,hi⟩:=hk;unfold ofAClassStatement;refine Aw (wpAny_typeOf hT ?_);dsimp only;rw[if_pos (by decide)];refine Aw (Ax ?_);simp only[xD,wg,if_false];refine Aw ?_
 unfold seqItems?;refine Aw (wpAny_load ho ?_);rw[hd];refine Ax ?_
 dsimp only;refine Aw ?_
 rw[<- Dk];refine Cz _ (λ rest r s'=>r.1=none/\s'=s/\∀ v∈rest,∃ i t,v=AO i t) _ ?_ ?_ _ _ ⟨rfl,rfl,items_int hi⟩
 ·rintro v rest r s' ⟨hr,rfl,hall⟩
  rw[je _ (hall v we)];refine Aw (Ax ?_);simp only[wg,if_false];exact Ax ⟨rfl,rfl,λ u hu'=>hall u (wd _ hu')⟩
 ·rintro ⟨r1,r2⟩ s' ⟨hr,rfl,_⟩
  simp only at hr;subst hr;exact Ax h
theorem oR {ks:List Int}{a:Addr}{Q:Bool->Shared->Prop}(hk:IsK prog w s.heap ks a)(stored:List Value)(hs:∀ v∈stored,∃ b ks',v=.ref b/\IsK prog w s.heap ks' b)(h:Q false s):
  wpAny (model prog w) A (searchCouldBeSeen (.ref a) stored) Q E s:=by
 unfold searchCouldBeSeen;refine Aw ?_
 refine Cz _ (λ rest r s'=>r.1=none/\s'=s/\∀ v∈rest,∃ b ks',v=AK b/\IsK prog w s.heap ks' b) _ ?_ ?_ _ _ ⟨rfl,rfl,hs⟩
 ·rintro v rest r s' ⟨hr,rfl,hall⟩
  obtain⟨b,ks',rfl,hb⟩:=hall v we;have fin:(none:Option Bool)=none/\s'=s'/\∀ v∈rest,∃ b ks',v=AK b/\IsK prog w s'.heap ks' b:=⟨rfl,rfl,λ u hu=>hall u (wd _ hu)⟩;dsimp only
  split
  ·exact Ax fin
  ·refine Aw (CP hk ?_)
   simp only[xD,wg,if_false];refine Aw (CP hb ?_);simp only[xD,wg,if_false];refine Aw (df hk ?_);simp only[wg,if_false];refine Aw (df hb ?_);simp only[wg,if_false];exact Ax fin
 ·rintro ⟨r1,r2⟩ s' ⟨hr,rfl,_⟩
  simp only at hr;subst hr;exact Ax h
theorem fu {es:Array (Int×Value)}{h:Int}{v:Value}(hv:v∈((es.filter (·.1 == h)).toList.map (·.2))):∃ e∈es.toList,e.2=v:=by
 obtain⟨e,he,rfl⟩:=List.mem_map.mp hv;have he:e∈es/\e.1=h:=by simpa using he
 exact⟨e,by simpa using he.1,rfl⟩
theorem nN {mask n:Nat}(h:Fits mask n):(mask%2 == 0)=false:=by rcases h with h|h|h|h|h|h <;>rw[h.1] <;>rfl
theorem jS {P:Nat->Prop}[DecidablePred P]{k0:Nat}:∀ (m k:Nat),k<=k0->k0-k=m->∃ k1,k<=k1/\k1<=k0/\(∀ k',k<=k'->k'<k1->¬ P k')/\(k1=k0\/P k1)
 | 0,k,h1,h2=>⟨k0,h1,wu _,λ k' a b=>⋯,.inl rfl⟩
 | m+1,k,h1,h2=>by
  by_cases q:P k
  ·exact⟨k,wu k,h1,λ (k':Nat) (a:k<=k') (b:k'<k)=>absurd a (Nat.not_le.mpr b),.inr q⟩
  ·obtain⟨k1,a,b,c,d⟩:=jS (P:=P) (k0:=k0) m (k+1) ⋯ ⋯
   refine⟨k1,⋯,b,λ k' h3 h4=>?_,d⟩;by_cases e:k'=k
   ·subst e;exact q
   ·exact c k' ⋯ h4
section
variable {a:Addr}{es:Array (Int×Value)}{ep:Nat}{t:SetTable}{x:Addr}{ks:List Int}{k0:Nat}{Q:SetFound->Shared->Prop}
theorem gA (S:SetV prog w s.heap a es ep t)(hx:IsK prog w s.heap ks x)(hu:A.units<cLine)
  (hk0:k0<10*turns t.mask) (he0:¬ Occ t (adN t.mask k0 (start t.mask (tk prog w ks))).j) (hoc:∀ k',k'<k0->Occ t (adN t.mask k' (start t.mask (tk prog w ks))).j)
  (q1:(∃ e∈es.toList,Ent prog w s.heap e ks)->Q (.there none) s) (q2:(¬ ∃ e∈es.toList,Ent prog w s.heap e ks)->Q (.free (adN t.mask k0 (start t.mask (tk prog w ks))).j false) s)
  (k fuel:Nat) (stand:Option Probe) (h1:k<=k0) (h4:stand.getD (t.probeStart (tk prog w ks))=adN t.mask k (start t.mask (tk prog w ks)))
  (h5:∀ i,i<es.size->(∃ k',k'<k/\t.place.getD i 0=(adN t.mask k' (start t.mask (tk prog w ks))).j)->∀ e,es[i]?=some e->¬ Ent prog w s.heap e ks)
  (rec:∀ k',k<k'->k'<=k0->(∀ i,i<es.size->(∃ k'',k''<k'/\t.place.getD i 0=(adN t.mask k'' (start t.mask (tk prog w ks))).j)->∀ e,es[i]?=some e->¬ Ent prog w s.heap e ks) ->
   wpAny (model prog w) A (setSearchFrom a (.ref x) (tk prog w ks) true fuel (some (adN t.mask k' (start t.mask (tk prog w ks))))) Q E s):
  wpAny (model prog w) A (setSearchFrom a (.ref x) (tk prog w ks) true (fuel+1) stand) Q E s:=by
 have hsz:=S.ti.size;obtain⟨k1,a1,a2,a3,a4⟩:=jS (P:=λ k=>∃ i,i<es.size/\t.place.getD i 0=(adN t.mask k (start t.mask (tk prog w ks))).j/\(es.getD i (0,.none)).1=tk prog w ks) (k0-k) k h1 rfl;have pr:∀ F:Nat->Int,(∀ i,i<es.size->F i=(es.getD i (0,.none)).1)->(∀ k',k'<k1-k->∃ i,i<t.place.size/\t.place.getD i 0=(adN t.mask k' (adN t.mask k (start t.mask (tk prog w ks)))).j/\F i≠tk prog w ks):=λ F hF k' hk'=>by
  rw[<- bx];obtain⟨i,hi,e⟩:=o7 (hoc (k+k') ⋯);refine⟨i,hi,e,λ z=>a3 (k+k') ⋯ ⋯ ⟨i,⋯,e,?_⟩⟩;rw[<- hF i ⋯];exact z
 have hd:(adN t.mask k (start t.mask (tk prog w ks))).dummy=none:=by rw[gN];rfl
 have hkk:k+(k1-k)=k1:=⋯
 unfold setSearchFrom;refine Aw (A4 S.obj rfl S.fits ?_);dsimp only;rw[show t.gaveWay=false from nN S.fit];simp only[wg,if_false];rw[h4]
 rcases a4 with rfl|⟨i,hi,ei,eh⟩
 ·-- an empty place
  have key:∀ F:Nat->Int,(∀ i,i<es.size->F i=(es.getD i (0,.none)).1)->t.probe F (tk prog w ks) (adN t.mask k (start t.mask (tk prog w ks)))=some (.empty (adN t.mask k1 (start t.mask (tk prog w ks))).j none):=λ F hF=>by
   have:=(dw (h:=tk prog w ks) S.ti.ris S.ti.dum (k1-k) (10*turns t.mask) _ hd ⋯ (pr F hF)).1 (by rw[<- bx,hkk];exact he0);rw[<- bx,hkk] at this;exact this
  rw[key _ λ i hi=>by show (es[i]?.map (·.1)).getD 0=_;simp[AR,hi]];dsimp only;refine Ax (q2 λ⟨e,he,hE⟩=>?_);obtain⟨i,hi,rfl⟩:=wQ he;have hi':i<es.size:=by simpa using hi
  have hip:i<t.place.size:=⋯
  obtain⟨b,eb,_⟩:=hE;have wy:=S.ti.way (es.toList[i],t.place.getD i 0) (by
   have:(es.toList.zip t.place.toList)[i]?=some (es.toList[i],t.place.getD i 0):=by
    rw[List.getElem?_zip_eq_some];exact⟨wo hi,by simp[AR,hip]⟩
   exact xl this)
  obtain⟨k2,e2,o2⟩:=wy;have hh:es.toList[i].1=tk prog w ks:=by rw[eb]
  simp only[hh] at e2 o2;have lt:k2<k1:=by
   rcases yM k2 k1 with z|z|z
   ·exact z
   ·subst z
    exact absurd (show Occ t _ by rw[e2];unfold Occ;simp[AR,hip]) he0
   ·exact absurd (o2 k1 z) he0
  have eg:(es.getD i (0,AE)).1=tk prog w ks:=by
   rw[<- hh];simp[AR,hi']
  by_cases z:k<=k2
  ·exact a3 k2 z lt ⟨i,hi',e2.symm,eg⟩
  ·exact h5 i hi' ⟨k2,⋯,e2.symm⟩ es.toList[i] (by simp[hi']) ⟨b,eb,by assumption⟩
 ·-- an entry of this hash
  have lt:k1<k0:=by
   rcases yB k1 k0 with z|z
   ·exact z
   ·have:k1=k0:=⋯
    subst this;exact absurd (show Occ t _ by rw[<- ei];unfold Occ;simp[AR,show i<t.place.size by omega]) he0
  have key:∀ F:Nat->Int,(∀ i,i<es.size->F i=(es.getD i (0,.none)).1)->t.probe F (tk prog w ks) (adN t.mask k (start t.mask (tk prog w ks)))=some (.candidate (adN t.mask k1 (start t.mask (tk prog w ks))).j i (adN t.mask (k1+1) (start t.mask (tk prog w ks)))):=λ F hF=>by
   have:=(dw (h:=tk prog w ks) S.ti.ris S.ti.dum (k1-k) (10*turns t.mask) _ hd ⋯ (pr F hF)).2 i ⋯ (by rw[<- bx,hkk];exact ei) (by rw[hF i hi];exact eh);rw[<- bx,<- bx,hkk,<- yv,hkk] at this;exact this
  rw[key _ λ i hi=>by show (es[i]?.map (·.1)).getD 0=_;simp[AR,hi]];dsimp only;have hm:es[i]∈es.toList:=by simp
  obtain⟨ks',b,eb,hb⟩:=S.ent _ hm;have eg:es[i]?=some (es[i].1,es[i].2):=by simp[hi]
  have sl:t.slot (adN t.mask k1 (start t.mask (tk prog w ks))).j=.live i:=by rw[<- ei];exact eM S.ti.ris ⋯
  have hid:i<es.size:=hi;have tail:wpAny (model prog w) A (do
    let some (_,y):=es[i]? | unsupported "internal:set-entry"
    let equal <- holding [y] (eqBool y (.ref x))
    let (es',_,t') <- setState a
    if true&&equal then return SetFound.there none
    let some same:=t'.sameMemory t.moves t.mask|unsupported "set.changed-during-lookup:is-the-new-block-at-the-old-address"
    let still <- match (if same then t'.slot (adN t.mask k1 (start t.mask (tk prog w ks))).j else .empty) with
     | .live i'=>match es'[i']? with
      | some (_,y')=>do pure (if <- isSame y' y then some i' else none)
      | none=>pure none
     | _=>pure none
    match still with
    | none=>rule "set.search.anew";setSearchFrom a (.ref x) (tk prog w ks) true fuel none
    | some i'=>if equal then return .there (some i') else setSearchFrom a (.ref x) (tk prog w ks) true fuel (some (adN t.mask (k1+1) (start t.mask (tk prog w ks))))) Q E s:=by
   rw[eg];dsimp only;have ey:es[i].2=.ref b:=by rw[eb]
   rw[ey];refine Aw (AL (wpAny_eqBool_tuple hu hb hx ?_));refine Aw (A4 S.obj rfl S.fits ?_);dsimp only;by_cases hkk':ks'=ks
   ·subst hkk'
    rw[decide_eq_true rfl];simp only[yP,if_true];exact Ax (q1 ⟨_,hm,b,eb,hb⟩)
   ·rw[decide_eq_false hkk']
    simp only[yD,wg,if_false];have sm:t.sameMemory t.moves t.mask=some true:=by unfold SetTable.sameMemory;simp
    rw[sm];dsimp only;simp only[if_true];rw[sl];dsimp only;rw[eg];dsimp only;rw[ey];refine Aw (wpAny_isSame_ref_self (Aw (Ax ?_)));simp only[if_true];refine rec (k1+1) ⋯ ⋯ λ i' hi' ⟨k'',h6,h7⟩ e he hE=>?_
    by_cases z:k''<k
    ·exact h5 i' hi' ⟨k'',z,h7⟩ e he hE
    ·by_cases z2:k''=k1
     ·subst z2
      have:i'=i:=by
       have h8:t.place.getD i' 0=t.place.getD i 0:=by rw[h7,ei]
       have h9:=below_at S.ti.ris (i:=i') ⋯;have h10:=below_at S.ti.ris (i:=i) ⋯;rw[h8,h10] at h9;exact h9.symm
      subst this;rw[eg] at he;have he:es[i']=e:=Option.some.inj he;subst he;obtain⟨b2,e3,hb2⟩:=hE;rw[eb] at e3;have:b=b2:=by injection e3 with _ e4;injection e4
      subst this;exact hkk' (hb.inj hb2)
     ·obtain⟨b2,e3,_⟩:=hE
      refine a3 k'' ⋯ ⋯ ⟨i',hi',h7,?_⟩;have:es[i']=e:=by
       rw[AC hi'] at he;exact Option.some.inj he
      simp only[AR,hi',dif_pos];show (es[i']).1=_
      rw[this,e3]
  by_cases hl:t.led=true
  ·rw[hl]
   simp only[xD,wg,if_false];exact tail
  ·rw[Bool.eq_false_iff.mpr hl]
   simp only[xG,if_true];refine Aw (oR hx _ (λ v hv=>?_) ?_)
   ·obtain⟨e,he,rfl⟩:=fu hv
    obtain⟨ks'',b'',e1,e2⟩:=S.ent e he;exact⟨b'',ks'',by rw[e1],e2⟩
   ·simp only[wg,if_false]
    exact tail
theorem rh (S:SetV prog w s.heap a es ep t)(hx:IsK prog w s.heap ks x)(hu:A.units<cLine)
  (hk0:k0<10*turns t.mask) (he0:¬ Occ t (adN t.mask k0 (start t.mask (tk prog w ks))).j) (hoc:∀ k',k'<k0->Occ t (adN t.mask k' (start t.mask (tk prog w ks))).j)
  (q1:(∃ e∈es.toList,Ent prog w s.heap e ks)->Q (.there none) s) (q2:(¬ ∃ e∈es.toList,Ent prog w s.heap e ks)->Q (.free (adN t.mask k0 (start t.mask (tk prog w ks))).j false) s):
  ∀ (m k fuel:Nat) (stand:Option Probe),k<=k0->k0-k<=m->m<fuel->stand.getD (t.probeStart (tk prog w ks))=adN t.mask k (start t.mask (tk prog w ks)) ->
   (∀ i,i<es.size->(∃ k',k'<k/\t.place.getD i 0=(adN t.mask k' (start t.mask (tk prog w ks))).j)->∀ e,es[i]?=some e->¬ Ent prog w s.heap e ks) ->
   wpAny (model prog w) A (setSearchFrom a (.ref x) (tk prog w ks) true fuel stand) Q E s:=by
 intro m
 induction m with
 | zero=>
  intro k fuel stand h1 h2 h3 h4 h5;obtain⟨fuel,rfl⟩:∃ f,fuel=f+1:=⟨fuel-1,⋯⟩;exact gA S hx hu hk0 he0 hoc q1 q2 k fuel stand h1 h4 h5 λ k' a b=>⋯
 | succ m ih=>
  intro k fuel stand h1 h2 h3 h4 h5;obtain⟨fuel,rfl⟩:∃ f,fuel=f+1:=⟨fuel-1,⋯⟩;exact gA S hx hu hk0 he0 hoc q1 q2 k fuel stand h1 h4 h5 λ k' a b h6=>ih k' fuel _ b ⋯ ⋯ rfl h6
theorem mW (S:SetV prog w s.heap a es ep t)(hx:IsK prog w s.heap ks x)(hu:A.units<cLine)
  (q1:(∃ e∈es.toList,Ent prog w s.heap e ks)->Q (.there none) s) (q2:(¬ ∃ e∈es.toList,Ent prog w s.heap e ks)->∀ j,j<=t.mask->¬ Occ t j->Way t.mask (Occ t) (tk prog w ks) j->Q (.free j false) s):
  wpAny (model prog w) A (setSearch a (.ref x) (tk prog w ks) true) Q E s:=by
 have hf:=S.fit.le;have hsz:=S.ti.size;obtain⟨k0,h1,h2,h3⟩:=gi S.ti.ris S.fit.mk ⋯ (tk prog w ks);have hb:turns t.mask<=8300:=by have:=S.fit.mk.le;unfold turns;omega
 exact rh S hx hu h1 h2 h3 q1 (λ n=>q2 n _ (iD _ k0).1 h2 ⟨k0,rfl,h3⟩) k0 0 100000 none (xw _) ⋯ ⋯ rfl λ i hi ⟨k',z,_⟩=>⋯
end
end
section
variable {prog:Program}{w:World}{A:Around}{E:Value->Shared->Prop}{s:Shared}{a:Addr}{es:Array (Int×Value)}{ep:Nat}{t:SetTable}{x:Addr}{ks:List Int}
theorem IsK.keep {h h':Heap}{b:Addr}{o:Obj}(hk:IsK prog w h ks b)(ha:h.get? a=some o)(hc:o.cls=.type "set")(e:∀ c u,c≠a->h.get? c=some u->h'.get? c=some u):IsK prog w h' ks b:=by
 obtain⟨o',items,n,ho',hc',hd',hi⟩:=hk;have hne:b≠a:=by
  rintro rfl
  obtain rfl:o'=o:=Option.some.inj (ho'.symm.trans ha);rw[hc] at hc';exact absurd (Value.type.inj hc') (by decide)
 exact⟨o',items,n,e b o' hne ho',hc',hd',hi⟩
theorem eX (n:Nat){v:Value}(h:∃ i t,v=.int i t):hashByValue n v=pure true:=by
 obtain⟨i,t,rfl⟩:=h;cases n <;>rfl
theorem gm {Q:Bool->Shared->Prop}(hk:IsK prog w s.heap ks x)(h:Q true s):wpAny (model prog w) A (hashByValue 8 (.ref x)) Q E s:=by
 have hT:=hk.typeIs;obtain⟨o,items,n,ho,_,hd,hi⟩:=hk;unfold hashByValue;refine Aw (CK hT F.slot_tuple_hash.lookup ?_);dsimp only;refine Aw ?_
 unfold seqItems?;refine Aw (wpAny_load ho ?_);rw[hd];refine Ax ?_
 refine Aw ?_
 show wpAny _ _ (forIn items _ _) _ _ s
 rw[<- Dk];refine Cz _ (λ rest r s'=>r.1=none/\s'=s/\∀ v∈rest,∃ i t,v=AO i t) _ ?_ ?_ _ _ ⟨rfl,rfl,items_int hi⟩
 ·rintro v rest r s' ⟨hr,rfl,hall⟩
  rw[eX _ (hall v we)];refine Aw (Ax ?_);simp only[xD,wg,if_false];exact Ax ⟨rfl,rfl,λ u hu'=>hall u (wd _ hu')⟩
 ·rintro ⟨r1,r2⟩ s' ⟨hr,rfl,_⟩
  simp only at hr;subst hr;exact Ax h
theorem stored {h:Heap}(S:SetV prog w h a es ep t)(es':Array (Int×Value))(t':SetTable):(h.update a (Bd es' t')).get? a=some { cls:=.type "set",dict:=none,data:=.set es' (ep+1) t' }/\∀ c u,c≠a->h.get? c=some u->(h.update a (Bd es' t')).get? c=some u:=by
 refine⟨?_,λ c u hc e=>(AM _ _ (Ne.symm hc)).trans e⟩;have:=Be (Bd es' t') S.obj (by rw[BI es' t' rfl];rfl);rw[BI es' t' rfl] at this;exact this
theorem SetV.store {h:Heap}(S:SetV prog w h a es ep t){es':Array (Int×Value)}{t':SetTable}(T:TI t' es')(hf:Fits t'.mask es'.size)(hp:t'.plain=true)(hl:t'.led=t.led)
  (he:∀ e∈es'.toList,∃ ks,Ent prog w h e ks):SetV prog w (h.update a (Bd es' t')) a es' (ep+1) t':=by
 obtain⟨g1,g2⟩:=stored S es' t';refine⟨g1,T,hf,hp,hl.trans S.led,λ e hm=>?_⟩;obtain⟨ks,b,e1,hb⟩:=he e hm;exact⟨ks,b,e1,hb.keep S.obj rfl g2⟩
theorem pF {Q:Bool->Shared->Prop}(S:SetV prog w s.heap a es ep t)(hx:IsK prog w s.heap ks x)(hu:A.units<cLine)(hn:es.size<64)
  (h1:(∃ e∈es.toList,Ent prog w s.heap e ks)->Q false { s with toks:=s.toks+(ks.length+1) })
  (h2:(¬ ∃ e∈es.toList,Ent prog w s.heap e ks)->∀ h' es' ep' t',SetV prog w h' a es' ep' t'->es'.toList.Perm ((tk prog w ks,.ref x)::es.toList)->(∀ c u,c≠a->s.heap.get? c=some u->h'.get? c=some u)->Q true { s with heap:=h',toks:=s.toks+(ks.length+1) }):
  wpAny (model prog w) A (setAdd a (.ref x)) Q E s:=by
 unfold setAdd;refine AL (Aw (wpAny_pyHash_tuple (knd:=intKind prog w) hu hx ?_));unfold setAddHashed;refine AL ?_
 unfold setAddHashedIn;refine Aw (A4 (s:={ s with toks:=s.toks+(ks.length+1) }) S.obj rfl S.fits ?_);dsimp only;have nb:byScan (.ref x) es=false:=by simp[byScan,Value.scannable]
 rw[nb];simp only[wg,if_false];refine Aw (mW (s:={ s with toks:=s.toks+(ks.length+1) }) S hx hu (λ q=>?_) λ q j hj ho hw=>?_)
 ·dsimp only
  exact Ax (h1 q)
 ·dsimp only
  refine Aw (A4 (s:={ s with toks:=s.toks+(ks.length+1) }) S.obj rfl S.fits ?_);obtain⟨e1,T,e2,e3,e4,e5,e6⟩:=S.ti.put (x:=AK x) hj ho hw;dsimp only;have hp:(t.put j).1.plain=true:=e3.trans S.plain;rw[show (t.put j).1.plain=true from hp];simp only[if_true];refine Aw (gm (s:={ s with toks:=s.toks+(ks.length+1) }) hx ?_);simp only[if_true];rw[show (t.put j).2=below t.place j from e1];have sz:(insertAt es (below t.place j) (tk prog w ks,AK x)).size=es.size+1:=dE _ _ _;have pm:(insertAt es (below t.place j) (tk prog w ks,AK x)).toList.Perm ((tk prog w ks,.ref x)::es.toList):=by
   rw[bp];refine List.perm_middle.trans ?_
   rw[wZ]
  have ent:∀ e∈(insertAt es (below t.place j) (tk prog w ks,AK x)).toList,∃ ks,Ent prog w s.heap e ks:=λ e he=>by
   rcases List.mem_cons.mp (pm.mem_iff.mp he) with rfl|he
   ·exact⟨ks,x,rfl,hx⟩
   ·exact S.ent e he
  have ok:∀ n,n<=100->n<=sizeLine:=λ n hn=>by rw[A2];omega
  refine Aw (BP (s:={ s with toks:=s.toks+(ks.length+1) }) S.obj rfl ?_ (ok _ (by rw[sz];omega)));obtain⟨g1,g2⟩:=stored S (insertAt es (below t.place j) (tk prog w ks,AK x)) (t.put j).1;have fill:(t.put j).1.fill=es.size+1:=by
   unfold Cn;rw[T.dum,T.size,sz];rfl
  have full:(t.put j).1.tooFull=decide ((es.size+1)*5 ≥ t.mask*3):=by
   unfold Dy;rw[fill,e2]
  rw[full];by_cases q2:(es.size+1)*5 ≥ t.mask*3
  ·rw[decide_eq_true q2]
   simp only[xG,yP,if_true];obtain⟨mask',hm,hmk,hw',hfit⟩:∃ mask',es.size+1<=mask'/\Mk mask'/\sizeAbove (grown (es.size+1))-1=mask'/\Fits mask' (es.size+1):=S.fit.grow q2 ⋯;obtain⟨t',order,r1,r2,r3,r4,r5,r6⟩:=hZ (t:=(t.put j).1) (es:=insertAt es (below t.place j) (tk prog w ks,AK x)) (wanted:=grown (es.size+1)) hmk (by rw[sz];exact hm) hw';have fits1:(t.put j).1.fits (insertAt es (below t.place j) (tk prog w ks,AK x)).size=true:=by
    have:=S.fit.le;unfold Cj;rw[fill,T.size,e2,sz];simp;omega
   refine Aw ?_
   unfold setRelay;refine Aw (A4 g1 rfl fits1 ?_);dsimp only;have big:¬ sizeAbove (grown (es.size+1)) > sizeLine:=by
    have:sizeAbove (grown (es.size+1))<=8192:=by have:=hmk.le;omega
    have:=ok 100 ⋯;rw[A2] at this ⊢;omega
   rw[if_neg big,r1];have sz2:(order.filterMap ((insertAt es (below t.place j) (tk prog w ks,AK x))[·]?)).size=es.size+1:=by rw[<- AD,r2.length_eq,AD,sz]
   refine Aw ?_
   show wpAny _ _ (if ((order.filterMap ((insertAt es (below t.place j) (tk prog w ks,AK x))[·]?)).size != (insertAt es (below t.place j) (tk prog w ks,AK x)).size)=true then _ else _) _ _ _
   rw[sz2,sz];simp only[bne_self_eq_false,wg,if_false];refine Ax ?_
   dsimp only;have S1:SetV prog w (s.heap.update a (Bd (insertAt es (below t.place j) (tk prog w ks,AK x)) (t.put j).1)) a (insertAt es (below t.place j) (tk prog w ks,AK x)) (ep+1) (t.put j).1\/True:=.inr trivial;refine BP (s:={ s with heap:=_,toks:=_ }) g1 rfl ?_ (ok _ (by rw[sz2];omega))
   have g3:=Be (Bd (order.filterMap ((insertAt es (below t.place j) (tk prog w ks,AK x))[·]?)) t') g1 (by rw[BI _ _ rfl];rfl);rw[BI _ _ rfl] at g3;have g4:∀ c u,c≠a->s.heap.get? c=some u->((s.heap.update a (Bd (insertAt es (below t.place j) (tk prog w ks,AK x)) (t.put j).1)).update a (Bd (order.filterMap ((insertAt es (below t.place j) (tk prog w ks,AK x))[·]?)) t')).get? c=some u:=λ c u hc e=>(AM _ _ (Ne.symm hc)).trans (g2 c u hc e)
   refine Ax (h2 q _ _ _ _ ⟨g3,r3,by rw[r4,sz2];exact hfit,r5.trans hp,r6.trans (e4.trans S.led),λ e hm=>?_⟩ (r2.trans pm) g4);obtain⟨ks',b,e1,hb⟩:=ent e (r2.mem_iff.mp hm);exact⟨ks',b,e1,hb.keep S.obj rfl g4⟩
  ·rw[decide_eq_false q2]
   simp only[xG,yD,wg,if_false];refine Ax (h2 q _ _ _ _ (S.store T ?_ hp e4 ent) pm g2);rw[e2,sz];exact S.fit.next q2
end
open PySem PySem.SetTable PyProof.Rows
section
variable {prog:Program}{w:World}{B:List Int->Value->Prop}
def Has (prog:Program)(w:World)(B:List Int->Value->Prop)(h:Heap)(es:Array (Int×Value))(l:List (List Int)):Prop:=∃ p:List (Int×Value),es.toList.Perm p/\p.length=l.length/\∀ i (h1:i<p.length) (h2:i<l.length),Ent prog w h p[i] l[i]/\B l[i] p[i].2
theorem Ent.keep {h h':Heap}{a:Addr}{o:Obj}{e:Int×Value}{ks:List Int}(q:Ent prog w h e ks)(ha:h.get? a=some o)(hc:o.cls=.type "set")(k:∀ c u,c≠a->h.get? c=some u->h'.get? c=some u):Ent prog w h' e ks:=
 let ⟨b,e1,hb⟩:=q
 ⟨b,e1,hb.keep ha hc k⟩
theorem Has.keep {h h':Heap}{a:Addr}{o:Obj}{es:Array (Int×Value)}{l:List (List Int)}(H:Has prog w B h es l)(ha:h.get? a=some o)(hc:o.cls=.type "set")(k:∀ c u,c≠a->h.get? c=some u->h'.get? c=some u):Has prog w B h' es l:=
 let ⟨p,p1,p2,p3⟩:=H
 ⟨p,p1,p2,λ i h1 h2=>⟨(p3 i h1 h2).1.keep ha hc k,(p3 i h1 h2).2⟩⟩
theorem SetV.size {h:Heap}{S:Addr}{es:Array (Int×Value)}{ep:Nat}{t:SetTable}{l:List (List Int)}(V:SetV prog w h S es ep t)(H:Has prog w B h es l):es.size=l.length:=by
 obtain⟨p,p1,p2,_⟩:=H;rw[<- p2,<- p1.length_eq,AD]
variable {A:Around}{R:Result->Shared->Prop}
end
section
variable {prog:Program}{w:World}{A:Around}{E:Value->Shared->Prop}{s:Shared}{B:List Int->Value->Prop}
abbrev fY (w:World):Obj:={ cls:=.type "set",dict:=none,data:=.set #[] 0 (.fresh 0 0 (!byT w)) }
theorem pX (a:Value){Q₁:Value->Shared->Prop}(h:Q₁ (.ref s.heap.objs.size) { s with heap:=s.heap.push (fY w) }):
  codeAny (model prog w) A (.call (.builtin "set.__new__") ⟨[.type "set",a],[]⟩) (wants Q₁ E) s:=by
 refine codeAny_of_tree (show wpAny _ A.in1 (do checkBuiltinCall "set.__new__" ⟨[.type "set",a],[]⟩;again (.builtin "set.__new__" ⟨[.type "set",a],[]⟩)) _ _ s from ?_);refine Aw (wpAny_of_eq (PySem.F.newCall_set_1 a) (Ax ⟨C3 F.plain_set_new _,B0 F.entry_set_new (by
  rw[B6 F.plain_set_new _];unfold Builtin.«set.__new__» DJ;have hsub:=sub_set_self;obtain⟨hp,g,d,tk,os⟩:=s;dsimp only;wp_walk;refine BA (Ax ?_);dsimp only;simp only[newObj];refine Aw (wpAny_alloc (Ax (Ax h))))⟩))
end
open PySem PySem.SetTable PyProof.Rows PySem.W
theorem oU:entryFor table "set.__iter__"=some Builtin.«frozenset.__iter__»:=entryFor_alias (id':="frozenset.__iter__") (by kernel_rfl) rfl (by decide +kernel) (by kernel_rfl)
theorem jh:Slot "set_iterator" "__iter__" "set_iterator.__iter__":=
 .of (owner:="set_iterator") (n:="__iter__") (by rw[typeLookup_type,CQ];kernel_rfl) (by decide +kernel) (by decide +kernel) (by decide +kernel) (by first|exact .inl (by decide +kernel)|exact .inr (by decide +kernel)) (by rw[CS];kernel_rfl)
theorem slot_sin:Slot "set_iterator" "__next__" "set_iterator.__next__":=
 .of (owner:="set_iterator") (n:="__next__") (by rw[typeLookup_type,CQ];kernel_rfl) (by decide +kernel) (by decide +kernel) (by decide +kernel) (by first|exact .inl (by decide +kernel)|exact .inr (by decide +kernel)) (by rw[CS];kernel_rfl)
theorem g9:entryFor table "set_iterator.__next__"=some Builtin.«set_iterator.__next__»:=entryFor_of_tree (by kernel_rfl)
theorem mi:entryFor table "set_iterator.__iter__"=some Builtin.«dict_keyiterator.__iter__»:=entryFor_alias (id':="dict_keyiterator.__iter__") (by kernel_rfl) rfl (by decide +kernel) (by kernel_rfl)
theorem oW (a:Value):argsOk "set_iterator.__iter__" ⟨[a],[]⟩:=by unfold argsOk;kernel_rfl
theorem jD (a:Value):argsOk "set_iterator.__next__" ⟨[a],[]⟩:=by unfold argsOk;kernel_rfl
theorem kZ {α:Type}(next:Nat->Nat):∀ (fuel k:Nat) (left:List α) (out:Array α),fuel=left.length->(Dl next fuel k left out).toList.Perm (out.toList++left)
 | 0,k,left,out,h=>by
  have:left=[]:=by simpa using h.symm
  subst this;unfold Dl;simp
 | fuel+1,k,left,out,h=>by
  have hl:next k%left.length<left.length:=yd _ ⋯
  unfold Dl;rw[wo hl];refine(kZ next fuel (k+1) (left.eraseIdx (next k%left.length)) (out.push left[next k%left.length]) (by rw[yJ hl];omega)).trans ?_
  rw[A5,wR];refine List.Perm.append_left _ ?_
  generalize next k%left.length=i at hl
  rw[List.eraseIdx_eq_take_drop_succ];refine(List.perm_middle (l₁:=left.take i) (a:=left[i]) (l₂:=left.drop (i+1))).symm.trans ?_
  rw[<- xi hl,wZ]
theorem m7 {α:Type}(next:Nat->Nat)(xs:Array α):(pickOrder next xs).toList.Perm xs.toList:=by
 have:=kZ next xs.size 0 xs.toList #[] (by simp)
 simpa[pickOrder] using this
section
variable {prog:Program}{w:World}{A:Around}{E:Value->Shared->Prop}{s:Shared}{a:Addr}{es:Array (Int×Value)}{ep:Nat}{t:SetTable}
def cp (w:World)(a:Addr)(es:Array (Int×Value))(ep:Nat):Array Value:=if byT w then (pickOrder (w.params.setOrder a ep) es).map (·.2) else es.map (·.2)
theorem j3:(cp w a es ep).toList.Perm (es.toList.map (·.2)):=by
 unfold cp
 split
 ·rw[CA];exact(m7 _ es).map _
 ·rw[CA]
theorem fI:(cp w a es ep).size=es.size:=by
 have:=(j3 (w:=w) (a:=a) (es:=es) (ep:=ep)).length_eq;simpa using this
abbrev l4 (es:Array (Int×Value))(ep:Nat)(t:SetTable):Obj:={ cls:=.type "set",dict:=none,data:=.set es ep t }
abbrev itO (slot i n ep:Nat)(a:Addr):Obj:={ cls:=.type "set_iterator",dict:=none,data:=.fields #[.int slot 0,.int i 0,.ref a,.int n 0,.int ep 0],slots:=#[] }
structure Gone (w:World)(es:Array (Int×Value))(t:SetTable):Prop where
 size:t.place.size=es.size
 ris:Ris t.place
 fits:t.fits es.size=true
 plain:t.plain=true
 led:t.led=!byT w
theorem SetV.gone {h:Heap}(V:SetV prog w h a es ep t):Gone w es t:=⟨V.ti.size,V.ti.ris,V.fits,V.plain,V.led⟩
def StS (w:World)(I a:Addr)(es:Array (Int×Value))(ep:Nat)(t:SetTable)(i:Nat)(h:Heap):Prop:=∃ slot,h.get? I=some (itO slot i es.size ep a)/\h.get? a=some (l4 es ep t)/\(byT w=false->below t.place slot=i)
theorem lM {i slot:Nat}(G:Gone w es t)(ha:s.heap.get? a=some (l4 es ep t))(hs:byT w=false->below t.place slot=i)
  {Q:Option (Value×Nat)->Shared->Prop} (h1:∀ v,(cp w a es ep)[i]?=some v->∀ slot',(byT w=false->below t.place slot'=i+1)->Q (some (v,slot')) s) (h2:(cp w a es ep)[i]?=none->Q none s):
  wpAny (model prog w) A (setNext a slot i ep) Q E s:=by
 unfold setNext;refine Aw (A4 ha rfl G.fits ?_);dsimp only;refine Aw ?_
 unfold setsByText;refine Aw (BA (Ax ?_));show wpAny _ _ (if byT w=true then _ else _) _ _ _
 by_cases hb:byT w=true
 ·rw[if_pos hb]
  simp only[bne_self_eq_false,wg,if_false];refine Aw ?_
  unfold setWalk;refine Aw (A4 ha rfl G.fits ?_);dsimp only;refine Aw ?_
  unfold setsByText;refine Aw (BA (Ax ?_));show wpAny _ _ (if byT w=true then _ else _) _ _ _
  rw[if_pos hb];refine Aw (BA (Ax ?_));refine Ax ?_
  have eo:cp w a es ep=(pickOrder (w.params.setOrder a ep) es).map (·.2):=by unfold cp;rw[if_pos hb]
  show Q (((pickOrder (w.params.setOrder a ep) es)[i]?).map λ e=>(e.2,slot)) s
  cases hv:(pickOrder (w.params.setOrder a ep) es)[i]? with
  | none=>exact h2 (by rw[eo,BJ,hv];rfl)
  | some e=>exact h1 e.2 (by rw[eo,BJ,hv];rfl) slot λ z=>by rw[hb] at z;cases z
 ·have hb':byT w=false:=Bool.eq_false_iff.mpr hb
  rw[if_neg hb];have eo:cp w a es ep=es.map (·.2):=by unfold cp;rw[if_neg hb]
  have dr:∀ b:Bool,(b=(!t.plain&&decide (es.size > 1)))->b=false:=λ b e=>by rw[e,G.plain];rfl
  show wpAny _ _ (if (!t.plain&&decide (es.size > 1))=true then _ else _) _ _ _
  rw[G.plain];simp only[xD,zu,wg,if_false];refine Aw ?_
  show wpAny _ _ (if (!t.led&&!es.isEmpty)=true then _ else _) _ _ _
  rw[G.led,hb'];simp only[xG,xD,zu,wg,if_false];refine Ax ?_
  rw[hs hb'];refine Ax ?_
  by_cases hi:i<es.size
  ·have hp:i<t.place.size:=by rw[G.size];exact hi
   rw[AC hi,AC hp];dsimp only;refine h1 es[i].2 (by rw[eo,BJ,AC hi];rfl) _ λ _=>?_
   obtain⟨b1,b2,b3⟩:=d9 G.ris (t.place[i]+1);have e1:t.place.getD i 0=t.place[i]:=by simp[AR,hp]
   rcases yM (below t.place (t.place[i]+1)) (i+1) with z|z|z
   ·have:=b3 i ⋯ hp
    rw[e1] at this;omega
   ·exact z
   ·have hz:i+1<t.place.size:=⋯
    have:=b2 (i+1) z;have h3:=G.ris.at hz (xW i);rw[e1] at h3;omega
  ·rw[Ba ⋯]
   dsimp only;exact h2 (by rw[eo,BJ,Ba ⋯];rfl)
end
section
variable {prog:Program}{w:World}{A:Around}{E:Value->Shared->Prop}{s:Shared}{a:Addr}{es:Array (Int×Value)}{ep:Nat}{t:SetTable}
theorem qT {Q:Value->Shared->Prop}(G:Gone w es t)(ha:s.heap.get? a=some (l4 es ep t))(h:Q (.ref s.heap.objs.size) { s with heap:=s.heap.push (itO 0 0 es.size ep a) }):wpAny (model prog w) A (pyIter (.ref a)) Q E s:=by
 have hT:s.TypeIs (.ref a) "set":=⟨_,ha,rfl⟩;refine wpAny_pyIter_slot hT F.slot_set_iter (Bn F.slot_set_iter hT oU ?_ (F.args_set_iter_1 _));unfold Builtin.«frozenset.__iter__» DO;refine Aw (Ax ?_);unfold DN;refine Aw (Aw (B7 ha rfl G.fits (Ax ?_)));refine Aw (show wpAny _ _ (setState a >>= _) _ _ _ from Aw (A4 ha rfl G.fits ?_));dsimp only;unfold setsByText;refine Aw (Aw (BA (Ax (Ax ?_))));have dz:∀ b:Bool,(!b&&(!t.plain&&decide (es.size > 1)))=false:=λ b=>by rw[G.plain];cases b <;>rfl
 show wpAny _ _ (if (!(byT w)&&(!t.plain&&decide (es.size > 1)))=true then _ else _) _ _ _
 rw[dz];simp only[wg,if_false];refine Aw (Ax ?_);refine Aw (wpAny_setEpoch_of ha rfl G.fits ?_);unfold newFields;refine Aw (Bw ?_);exact Ax ⟨_,rfl,"set_iterator",_,⟨_,AF _ rfl,rfl⟩,slot_sin.lookup,h⟩
theorem qr {Q:Option Value->Shared->Prop}{I:Addr}{i slot:Nat}(G:Gone w es t)(hI:s.heap.get? I=some (itO slot i es.size ep a))(ha:s.heap.get? a=some (l4 es ep t))(hne:a≠I)(hs:byT w=false->below t.place slot=i)
  (hi:i<es.size) (h1:∀ v h',(cp w a es ep)[i]?=some v->StS w I a es ep t (i+1) h'->(∀ b o,b≠I->s.heap.get? b=some o->h'.get? b=some o)->Q (some v) { s with heap:=h' }):
  wpAny (model prog w) A (pyNext (.ref I)) Q E s:=by
 have hT:s.TypeIs (.ref I) "set_iterator":=⟨_,hI,rfl⟩;unfold pyNext;refine Aw (C4 (CF (name:=AJ "__next__") hT slot_sin (Bn slot_sin hT g9 ?_ (jD _))));unfold Builtin.«set_iterator.__next__»;refine Aw (Ax ?_);refine Aw (wpAny_fieldsOf hI rfl ?_);dsimp only;refine Aw (B7 ha rfl G.fits ?_);simp only[bne_self_eq_false,wg,if_false];simp only[wL];refine Aw (lM G ha hs (λ v hv slot' hs'=>?_) λ hv=>?_)
 ·dsimp only
  refine Aw (Dm hI (by simp) λ h₁ he₁ hs₁=>?_);replace hs₁:BW I s.heap h₁:=hs₁;replace he₁:h₁.get? I=some (itO slot' i es.size ep a):=he₁;refine Aw (Dm he₁ (by simp) λ h₂ he₂ hs₂=>?_);replace hs₂:BW I h₁ h₂:=hs₂;replace he₂:h₂.get? I=some (itO slot' (i+1) es.size ep a):=by
   have e:((i+1:Nat):Int)=(i:Int)+1:=⋯
   unfold itO;rw[e];simpa[rawInt] using he₂
  have kp:∀ b o,b≠I->s.heap.get? b=some o->h₂.get? b=some o:=λ b o hb e=>hs₂.extBut b o hb (hs₁.extBut b o hb e)
  exact Ax ⟨_,rfl,Ax (h1 v h₂ hv ⟨slot',he₂,kp a _ hne ha,hs'⟩ kp)⟩
 ·rw[AC (by rw[fI];exact hi)] at hv
  cases hv
theorem tO {Q:Option Value->Shared->Prop}{I:Addr}{slot:Nat}(hh:A.handled=none)(G:Gone w es t)(hI:s.heap.get? I=some (itO slot es.size es.size ep a))(ha:s.heap.get? a=some (l4 es ep t))(hs:byT w=false->below t.place slot=es.size)
  (h1:∀ h',(∀ b o,b≠I->s.heap.get? b=some o->h'.get? b=some o)->Q none { s with heap:=h' }):
  wpAny (model prog w) A (pyNext (.ref I)) Q E s:=by
 have hT:s.TypeIs (.ref I) "set_iterator":=⟨_,hI,rfl⟩;unfold pyNext;refine Aw (C4 (CF (name:=AJ "__next__") hT slot_sin (Bn slot_sin hT g9 ?_ (jD _))));unfold Builtin.«set_iterator.__next__»;refine Aw (Ax ?_);refine Aw (wpAny_fieldsOf hI rfl ?_);dsimp only;refine Aw (B7 ha rfl G.fits ?_);simp only[bne_self_eq_false,wg,if_false];simp only[wL];refine Aw (lM G ha hs (λ v hv slot' hs'=>?_) λ hv=>?_)
 ·rw[Ba (by rw[fI];omega)] at hv
  cases hv
 ·dsimp only
  refine Aw (wpAny_setField hI rfl (by simp) ?_);refine Aw ?_
  simp only[newExc,newTuple];refine Aw (Bw ?_ (by size_fits));refine Aw (m:=firstArgMember _ _) (wpAny_of_eq (a:=AE) (by first|rfl|(simp only[firstArgMember];rfl)) ?_);refine Bw ?_ (by size_fits)
  simp only[raiseNew];refine Aw (wpAny_handled ?_);rw[show A.in1.handled=none from hh];refine Aw (Ax (wpAny_throw ?_));refine Aw (wpAny_isInstance (T:="StopIteration") (b:=true) ⟨_,AF _ rfl,rfl⟩ isSubtype_stop ?_);exact Ax (h1 _ (((Heap.SameBut.update ..).extBut.push _).push _))
theorem mJ (hh:A.handled=none)(G:Gone w es t)(I:Addr)(hne:a≠I):Walks prog w A I [I,a] [I] es.size (λ i v=>(cp w a es ep)[i]?=some v) (StS w I a es ep t) where
 sub:=λ b hb=>by simp at hb;simp[hb]
 frame:=λ i h h' ⟨slot,h1,h2,h3⟩ hk=>⟨slot,hk I (by simp) _ h1,hk a (by simp) _ h2,h3⟩
 item:=λ i s Q E hi ⟨slot,h1,h2,h3⟩ hQ=>qr G h1 h2 hne h3 hi λ v h' hv hst hk=>hQ v h' s.toks hv hst λ b o hb e=>hk b o (λ z=>hb (by simp[z])) e
 done:=λ s Q E ⟨slot,h1,h2,h3⟩ hQ=>tO hh G h1 h2 h3 λ h' hk=>hQ h' s.toks λ b o hb e=>hk b o (λ z=>hb (by simp[z])) e
 self:=λ i s Q E ⟨slot,h1,h2,h3⟩ hQ=>by
  have hT:s.TypeIs (.ref I) "set_iterator":=⟨_,h1,rfl⟩;exact wpAny_pyIter_slot hT jh (Bn jh hT mi (show wpAny _ _ (ret (.ref I)) _ _ s from Ax ⟨_,rfl,"set_iterator",_,hT,slot_sin.lookup,hQ⟩) (oW _))
theorem pE (hT:s.TypeIs (.ref a) "set"){Q:Bool->Shared->Prop}(h:Q false s):wpAny (model prog w) A (Ce (.ref a)) Q E s:=by
 unfold Ce;refine Aw (CK hT F.slot_set_len.lookup ?_);generalize hid:("set.__len__":String)=id0
 wp_delta
 rw[show splitId id0=some ("set","__len__") from by subst hid;decide +kernel];subst hid;refine Aw (wpAny_isInstance (T:="set") (b:=true) hT (by rw[CS];kernel_rfl) ?_);refine wpAny_ite_split (λ hab=>absurd hab (by decide)) (λ _=>?_);refine wpAny_ite_split (λ _=>?_) (λ hab=>absurd (by decide +kernel) hab);exact Aw (wpAny_typeOf hT (Ax h))
theorem qy (G:Gone w es t):KdlSrc prog w "set" a a es.size (λ i v=>(cp w a es ep)[i]?=some v) (λ h=>h.get? a=some (l4 es ep t)) where
 type:=λ s h=>⟨_,h,rfl⟩
 there:=λ h hok=>⟨Az hok,Az hok⟩
 keep:=λ h h' hok hk=>hk a (.inl rfl) _ hok
 notList:=by decide
 notTuple:=by decide
 hint:=λ A E s Q hok h=>pE ⟨_,hok,rfl⟩ h
 iter:=λ A s hh hok=>⟨itO 0 0 es.size ep a,StS w s.heap.objs.size a es ep t,λ E Q h=>qT G hok h,mJ hh G _ (wz (Az hok)),0,AF _ rfl,AB _ hok,λ _=>by
  obtain⟨b1,b2,b3⟩:=d9 G.ris 0
  rcases yk (below t.place 0) with z|z
  ·exact z
  ·have:=b2 0 z;omega⟩
end
end Sts
namespace Sd
open PySem PySem.Spec PySem.W PySem.Calls PyProof.Rows L2 Sts
open Dv (D R RL EE EL EI RI Sl Out SS)
open PySem PySem.Spec PyProof.Rows L2
open Dv (D R)
structure Fo (P:Program)(w:World)(K:Av)(mg:Str->Option Value)(base:Heap)(n:Str)(st:Stmt)(ps:List Str)(k:Nat)(S:Sp) where
 f:Addr
 fd:FuncData
 d:Df K mg n st ps f fd
 o:FnOk P w K mg base (CXe P w) k f fd ps S
abbrev Fu (n:Str)(st:Stmt)(ps:List Str)(k:Nat)(F:List D->R)(m:Nat)(P:Program)(w:World)(K:Av)(mg:Str->Option Value)(base:Heap)(ad:String->Option Addr):=Fo P w K mg base n st ps k (spD K (aP ad) F m)
abbrev hD (K:Av)(n:Str)(s:Stmt):Prop:=∃ (f:Addr) (oc:Value) (od:Option Addr) (kV dc pm:Value) (an:Option Addr) (cd ct:Value) (sl:Array (Option Value)),AG K mainGlobals n=some (some (.ref f)) /\
 K.lookup f=some ⟨oc,od,.func (A0 n n (br s) (aQ s) (ah s) .none kV dc pm an cd ct),sl⟩/\Bl K cd n=true/\Bm K (.ref f)=true
theorem dfE {K:Av}{h:Heap}{mg:Str->Option Value}{n:Str}{st:Stmt}{ps:List Str}(X:K.In h)(G:h.Ns mainGlobals mg)(q:hD K n st)
  (b:∀ (kV doc pm:Value) (an:Option Addr) (cdv ct:Value) (us:List Value),us.length=ps.length->bindArgs (A0 n n (br st) (aQ st) (ah st) .none kV doc pm an cdv ct) ⟨us,[]⟩=pure (ps.zip us)):∃ f fd,Df K mg n st ps f fd:=
 let ⟨f,_,_,_,_,_,_,_,_,_,a,l,c,k⟩:=q
 ⟨f,_,rP (Bq X G a) l c k b⟩
abbrev hX (K:Av)(c:String)(C:Addr):Prop:=AG K mainGlobals (AJ c)=some (some (.ref C))/\AV K (.ref C) (.type "ValueError")=some true/\XLook K C
theorem hx_cons {K:Av}{c:String}{C:Addr}{l:List (String×Addr)}(h:hX K c C)(r:∀ p∈l,hX K p.1 p.2):∀ p∈(c,C)::l,hX K p.1 p.2:=cq h r
def sX (K:Av)(c:String)(C:Addr)(l:List (String×Addr)):Prop:=∀ p∈l,AV K (.ref C) (.ref p.2)=some (Dv.subX c p.1)
theorem sx_cons {K:Av}{c q:String}{C Q:Addr}{l:List (String×Addr)}(h:AV K (.ref C) (.ref Q)=some (Dv.subX c q))(r:sX K c C l):sX K c C ((q,Q)::l):=cq h r
theorem sx_nil {K:Av}{c:String}{C:Addr}:sX K c C []:=fm_nil
theorem sxx_cons {K:Av}{c:String}{C:Addr}{l l0:List (String×Addr)}(h:sX K c C l0)(r:∀ p∈l,sX K p.1 p.2 l0):∀ p∈(c,C)::l,sX K p.1 p.2 l0:=cq h r
abbrev hXs (K:Av)(l:List (String×Addr)):Prop:=(∀ p∈l,hX K p.1 p.2)/\∀ p∈l,sX K p.1 p.2 l
theorem uQ {K:Av}{h:Heap}{mg:Str->Option Value}(X:K.In h)(G:h.Ns mainGlobals mg){l:List (String×Addr)}(q:hXs K l):XAll K mg (mO l):=
 qB l (λ p hp=>let ⟨a,v,x⟩:=q.1 p hp;⟨⟨Bq X G a,a,x.ex,x.lk⟩,x,v⟩) λ p hp q' hq=>q.2 p hp q' hq
end Sd
namespace Sts
open PySem PySem.SetTable PyProof.Rows
section
variable {prog:Program}{w:World}{A:Around}{E:Value->Shared->Prop}{s:Shared}{a:Addr}{es:Array (Int×Value)}{ep:Nat}{t:SetTable}
structure SetI (w:World)(h:Heap)(a:Addr)(es:Array (Int×Value))(ep:Nat)(t:SetTable):Prop where
 obj:h.get? a=some { cls:=.type "set",dict:=none,data:=.set es ep t }
 ti:TI t es
 fit:Fits t.mask es.size
 plain:t.plain=true
 led:t.led=!byT w
 ent:∀ e∈es.toList,∃ k u,e=(hashInt k,.int k u)
theorem iG {t:SetTable}{es:Array (Int×Value)}(T:TI t es)(f:Fits t.mask es.size):t.fits es.size=true:=by
 have:=f.le;unfold Cj Cn;rw[T.dum,T.size];simp;omega
theorem SetI.elems {h:Heap}(S:SetI w h a es ep t):ElemsOf (intKind prog w) es.toList:=λ e he=>by
 obtain⟨k,u,rfl⟩:=S.ent e he;exact⟨⟨k,by simp[intKind,Bj],rfl⟩,rfl⟩
theorem me {t:SetTable}{es:Array (Int×Value)}(T:TI t es)(f:Fits t.mask es.size)(h:Int):∃ j,t.freeSlot h=some (j,false)/\j<=t.mask/\¬ Occ t j/\Way t.mask (Occ t) h j:=by
 have hl:=f.le;obtain⟨k0,h1,h2,h3⟩:=gi T.ris f.mk (by rw[T.size];omega) h;have pg:=(dw T.ris T.dum (hashAt:=λ _=>h+1) (h:=h) k0 (10*turns t.mask) (start t.mask h) rfl h1 λ k' hk'=>by
  obtain⟨i,hi,e⟩:=o7 (h3 k' hk');exact⟨i,hi,e,⋯⟩).1 h2
 refine⟨(adN t.mask k0 (start t.mask h)).j,?_,(iD h k0).1,h2,k0,rfl,h3⟩;unfold SetTable.freeSlot SetTable.probe;rw[pf,pg];rfl
theorem covers {t:SetTable}{es:Array (Int×Value)}{wanted mask':Nat}(hk:Mk mask')(hl:es.size<=mask')(hw:sizeAbove wanted-1=mask'){t':SetTable}{order:Array Nat}(e:t.relaid (es.map (·.1)) wanted=some (t',order)):coversAll order es.size=true:=by
 obtain⟨o,eo,O⟩:=jQ hk (es.map (·.1)) (by simpa using hl);have lp:=gM O;have hn:(es.map (·.1)).toList.length=es.size:=by simp
 rw[hn] at lp;unfold relaid laid at e;rw[hw,eo] at e;have e2:=(DR (Option.some.inj e)).2;unfold coversAll;rw[<- e2,List.isPerm_iff];exact lp
set_option maxHeartbeats 1600000 in
theorem rk {Q:Bool->Shared->Prop}{k:Int}{u:Tok}(S:SetI w s.heap a es ep t)(hn:es.size<4000)
  (h1:(∃ e∈es.toList,Bj k e.2=true)->Q false { s with toks:=s.toks+1 })
  (h2:(¬ ∃ e∈es.toList,Bj k e.2=true)->∀ h' es' ep' t',SetI w h' a es' ep' t'->es'.toList.Perm ((hashInt k,.int k u)::es.toList)->(∀ c u,c≠a->s.heap.get? c=some u->h'.get? c=some u)->Q true { s with heap:=h',toks:=s.toks+1 }):
  wpAny (model prog w) A (setAdd a (.int k u)) Q E s:=by
 have hel:ElemsOf (intKind prog w) es.toList:=S.elems;have ff:=iG S.ti S.fit;have hkey:(intKind prog w).is k (.int k u)=true:=by simp[intKind,Bj]
 unfold setAdd;refine AL (Aw (wpAny_pyHash_int ?_));unfold setAddHashed setAddHashedIn;refine AL (Aw (A4 (s:={ s with toks:=s.toks+1 }) S.obj rfl ff ?_));dsimp only;rw[byScan_of (knd:=intKind prog w) (show (AO k u).scannable=true from rfl) (by show es.size<4096;omega) hel];simp only[↓reduceIte];unfold setAddByScan;refine Aw ?_
 refine Aw (Bz ?_);refine Aw (wpAny_setScan_of (s:={ s with toks:=s.toks+1 }) (knd:=intKind prog w) hkey S.obj rfl ff hel ?_);cases hr:List.findIdx? (λ e=>(intKind prog w).is k e.2) es.toList with
 | some j=>
  dsimp only;obtain⟨hj,hpj,_⟩:=List.findIdx?_eq_some_iff_getElem.mp hr;exact Ax (Ax (h1 ⟨es.toList[j],xH hj,hpj⟩))
 | none=>
  dsimp only;have q:¬ ∃ e∈es.toList,Bj k e.2=true:=λ⟨e,he,hp⟩=>by
   have:=List.findIdx?_eq_none_iff.mp hr e he;rw[show (intKind prog w).is k e.2=true from hp] at this;exact Bool.noConfusion this
  obtain⟨j,fj,hj,ho,hw⟩:=me S.ti S.fit (hashInt k);obtain⟨e1,T,e2,e3,e4,e5,e6⟩:=S.ti.put (x:=AO k u) hj ho hw;have hp:(t.put j).1.plain=true:=e3.trans S.plain;have sz:(insertAt es (below t.place j) (hashInt k,AO k u)).size=es.size+1:=dE _ _ _;have pm:(insertAt es (below t.place j) (hashInt k,AO k u)).toList.Perm ((hashInt k,.int k u)::es.toList):=by
   rw[bp];refine List.perm_middle.trans ?_
   rw[wZ]
  have ent:∀ e∈(insertAt es (below t.place j) (hashInt k,AO k u)).toList,∃ k' u',e=(hashInt k',.int k' u'):=λ e he=>by
   rcases List.mem_cons.mp (pm.mem_iff.mp he) with rfl|he
   ·exact⟨k,u,rfl⟩
   ·exact S.ent e he
  have fill:(t.put j).1.fill=es.size+1:=by
   unfold Cn;rw[T.dum,T.size,sz];rfl
  have fits1:(t.put j).1.fits (insertAt es (below t.place j) (hashInt k,AO k u)).size=true:=by
   have:=S.fit.le;unfold Cj;rw[fill,T.size,e2,sz];simp;omega
  have hL:layNew t es ((intKind prog w).hash k) (.int k u)=(insertAt es (below t.place j) (hashInt k,AO k u),(t.put j).1,false,false):=by
   unfold layNew;rw[show (intKind prog w).hash k=hashInt k from rfl,fj];simp only[e1];unfold SetTable.orStandIn;rw[fits1];rfl
  rw[show hashInt k=(intKind prog w).hash k from rfl,hL];dsimp only;refine Aw (Ax ?_);rw[hp];simp only[↓reduceIte];refine Aw ?_
  rw[eX 8 ⟨k,u,rfl⟩];refine Ax ?_
  simp only[↓reduceIte];have ok:∀ n,n<=4001->n<=sizeLine:=λ n hn=>by rw[A2];omega
  refine Aw (BP (s:={ s with toks:=s.toks+1 }) S.obj rfl ?_ (ok _ (by rw[sz];omega)));have g1:=Be (Bd (insertAt es (below t.place j) (hashInt k,AO k u)) (t.put j).1) S.obj (by rw[BI _ _ rfl];rfl);rw[BI _ _ rfl] at g1;have g2:∀ c v,c≠a->s.heap.get? c=some v->(s.heap.update a (Bd (insertAt es (below t.place j) (hashInt k,AO k u)) (t.put j).1)).get? c=some v:=λ c v hc e=>(AM _ _ (Ne.symm hc)).trans e
  have full:(t.put j).1.tooFull=decide ((es.size+1)*5 ≥ t.mask*3):=by
   unfold Dy;rw[fill,e2]
  rw[full];by_cases q2:(es.size+1)*5 ≥ t.mask*3
  ·rw[decide_eq_true q2]
   simp only[xG,yP,if_true];obtain⟨mask',hm,hmk,hw',hfit⟩:∃ mask',es.size+1<=mask'/\Mk mask'/\sizeAbove (grown (es.size+1))-1=mask'/\Fits mask' (es.size+1):=S.fit.grow q2 ⋯;obtain⟨t',order,r1,r2,r3,r4,r5,r6⟩:=hZ (t:=(t.put j).1) (es:=insertAt es (below t.place j) (hashInt k,AO k u)) (wanted:=grown (es.size+1)) hmk (by rw[sz];exact hm) hw';have cov:=covers hmk (by rw[sz];exact hm) hw' r1;have sz2:(order.filterMap ((insertAt es (below t.place j) (hashInt k,AO k u))[·]?)).size=es.size+1:=by rw[<- AD,r2.length_eq,AD,sz]
   have fits2:t'.fits (order.filterMap ((insertAt es (below t.place j) (hashInt k,AO k u))[·]?)).size=true:=iG r3 (by rw[r4,sz2];exact hfit);have hR:relayAll (t.put j).1 (insertAt es (below t.place j) (hashInt k,AO k u)) (grown (insertAt es (below t.place j) (hashInt k,AO k u)).size)=(order.filterMap ((insertAt es (below t.place j) (hashInt k,AO k u))[·]?),t',false):=by
    unfold relayAll;rw[sz,r1];simp only;rw[<- sz,cov,fits2];rfl
   rw[hR];dsimp only;refine Aw (Ax ?_);refine Aw (BP (s:={ s with heap:=_,toks:=_ }) g1 rfl ?_ (ok _ (by rw[sz2];omega)));have g3:=Be (Bd (order.filterMap ((insertAt es (below t.place j) (hashInt k,AO k u))[·]?)) t') g1 (by rw[BI _ _ rfl];rfl);rw[BI _ _ rfl] at g3;refine Ax (Ax (h2 q _ _ _ _ ⟨g3,r3,by rw[r4,sz2];exact hfit,r5.trans hp,r6.trans (e4.trans S.led),λ e hm=>ent e (r2.mem_iff.mp hm)⟩ (r2.trans pm) λ c v hc e=>(AM _ _ (Ne.symm hc)).trans (g2 c v hc e)))
  ·rw[decide_eq_false q2]
   simp only[xG,yD,wg,if_false];refine Ax (Ax (h2 q _ _ _ _ ⟨g1,T,?_,hp,e4.trans S.led,ent⟩ pm g2));rw[e2,sz];exact S.fit.next q2
end
def ik:Value->Int
 | .int k _=>k
 | _=>0
def eA (val:Nat->Int):Nat->List Int
 | 0=>[]
 | i+1=>Dv.oncesStep (eA val i) (val i)
theorem lQ (val:Nat->Int):∀ i,(eA val i).length<=i
 | 0=>wu _
 | i+1=>by
  have:=lQ val i;unfold eA Dv.oncesStep
  split
  ·omega
  ·simp;omega
section
variable {prog:Program}{w:World}{A:Around}{E:Value->Shared->Prop}{s:Shared}{a:Addr}
def mS (es:Array (Int×Value))(l:List Int):Prop:=(es.toList.map λ e=>ik e.2).Perm l
theorem SetI.mem {h:Heap}{es:Array (Int×Value)}{ep:Nat}{t:SetTable}{l:List Int}{k:Int}(S:SetI w h a es ep t)(H:mS es l):(∃ e∈es.toList,Bj k e.2=true) ↔ k∈l:=by
 rw[<- H.mem_iff,xS]
 constructor
 ·rintro ⟨e,he,q⟩
  obtain⟨u,hu⟩:=Co q;exact⟨e,he,by rw[hu];rfl⟩
 ·rintro ⟨e,he,q⟩
  obtain⟨k',u,rfl⟩:=S.ent e he;have:k'=k:=q;subst this;exact⟨_,he,by simp[Bj]⟩
theorem SetI.size {h:Heap}{es:Array (Int×Value)}{ep:Nat}{t:SetTable}{l:List Int}(S:SetI w h a es ep t)(H:mS es l):es.size=l.length:=by
 have:=H.length_eq;rw[wj,AD] at this;exact this
theorem SetI.keep {h h':Heap}{I:Addr}{es:Array (Int×Value)}{ep:Nat}{t:SetTable}(S:SetI w h a es ep t)(ha:a≠I)(e:∀ c u,c≠I->h.get? c=some u->h'.get? c=some u):SetI w h' a es ep t:=⟨e a _ ha S.obj,S.ti,S.fit,S.plain,S.led,S.ent⟩
theorem SetI.gone {h:Heap}{es:Array (Int×Value)}{ep:Nat}{t:SetTable}(S:SetI w h a es ep t):t.place.size=es.size/\Ris t.place/\t.fits es.size=true/\t.plain=true/\t.led=!byT w:=⟨S.ti.size,S.ti.ris,iG S.ti S.fit,S.plain,S.led⟩
variable {R:Result->Shared->Prop}
theorem mh (hh:A.handled=none){I l S:Addr}(hlI:l≠I)(hSI:S≠I)(hSl:S≠l){items:Array Value}{val:Nat->Int}(hz:items.size<4000):
  ∀ (k i:Nat) (s:Shared),items.size-i=k->i<=items.size->s.heap.IsListIter I l i->s.heap.IsList l items->(∃ es ep t,SetI w s.heap S es ep t/\mS es (eA val i)) ->
   (∀ j,j<items.size->∃ u,items[j]?=some (.int (val j) u)) ->
   (∀ h' tk,(∀ b o,b≠S->b≠I->s.heap.get? b=some o->h'.get? b=some o)->(∃ es ep t,SetI w h' S es ep t/\mS es (eA val items.size))->R (.ok (.ret .none)) { s with heap:=h',toks:=tk }) ->
   codeAny (model prog w) A (.builtin "set.update.loop" ⟨[.ref S,.ref I],[]⟩) R s:=by
 intro k
 induction k with
 | zero=>
  intro i s hk hi hit hl hS hv hR;have hin:i=items.size:=⋯
  subst hin;refine B0 CG (by
   rw[B6 Bp _];show wpAny _ A.in1 (pyNext (.ref I) >>= _) _ _ s
   refine Aw (BU (by simpa using hh) hit hl (by simp) λ h' he=>?_);obtain⟨es,ep,t,V,H⟩:=hS;exact Ax (hR h' s.toks (λ b o _ hb e=>he b o hb e) ⟨es,ep,t,V.keep hSI he,H⟩))
 | succ k ih=>
  intro i s hk hi hit hl hS hv hR;have hlt:i<items.size:=⋯
  obtain⟨u,eb⟩:=hv i hlt;refine B0 CG (by
   rw[B6 Bp _];show wpAny _ A.in1 (pyNext (.ref I) >>= _) _ _ s
   refine Aw (BQ hit hl (x:=.int (val i) u) eb λ h' hit' hs'=>?_);obtain⟨es,ep,t,V,H⟩:=hS;have V':=V.keep hSI hs'.extBut;have hl':=hl.extBut hs'.extBut hlI;have hsz:=V.size H;have hml:=lQ val i;show wpAny _ A.in1 (holding [AO (val i) u] (setAdd S (.int (val i) u)) >>= _) _ _ { s with heap:=h' }
   refine Aw (AL (rk (s:={ s with heap:=h' }) V' ⋯ (λ q=>?_) λ q h2 es' ep' t' V2 pm k2=>?_))
   ·have hm:=(V'.mem H).mp q
    refine Ax ⟨C3 Bp _,ih (i+1) _ ⋯ hlt hit' hl' ⟨es,ep,t,V',?_⟩ hv λ h3 tk k3 hS3=>?_⟩
    ·unfold eA Dv.oncesStep
     rw[if_pos (by simpa using hm)];exact H
    ·exact hR h3 tk (λ c o h4 h5 e=>k3 c o h4 h5 (hs'.extBut c o h5 e)) hS3
   ·have hm:¬ val i∈eA val i:=λ z=>q ((V'.mem H).mpr z)
    refine Ax ⟨C3 Bp _,ih (i+1) _ ⋯ hlt ?_ ?_ ⟨es',ep',t',V2,?_⟩ hv λ h3 tk k3 hS3=>?_⟩
    ·exact hit'.at λ o e=>k2 I o (Ne.symm hSI) e
    ·exact hl'.at λ o e=>k2 l o (Ne.symm hSl) e
    ·unfold eA Dv.oncesStep
     rw[if_neg (by simpa using hm)];exact((pm.map _).trans (List.Perm.cons _ H)).trans (List.perm_append_singleton _ _).symm
    ·exact hR h3 tk (λ c o h4 h5 e=>k3 c o h4 h5 (k2 c o h4 (hs'.extBut c o h5 e))) hS3)
theorem l5 {h:Heap}{a:Addr}(e:h.get? a=some (fY w)):SetI w h a #[] 0 (.fresh 0 0 (!byT w)):=⟨e,TI.fresh _ _ _,.inl ⟨rfl,by decide⟩,rfl,rfl,λ e he=>by cases he⟩
set_option maxHeartbeats 3200000 in
theorem l6 {l:Addr}{items:Array Value}{val:Nat->Int}{Q:Value->Shared->Prop}(hh:A.handled=none)(hl:s.heap.IsList l items)(hz:items.size<4000)
  (hv:∀ j,j<items.size->∃ u,items[j]?=some (.int (val j) u))
  (h:∀ (h':Heap) (tk:Nat),(∃ es ep t,SetI w h' s.heap.objs.size es ep t/\mS es (eA val items.size))->(∀ b o,s.heap.get? b=some o->h'.get? b=some o)->Q (.ref s.heap.objs.size) { s with heap:=h',toks:=tk }):
  wpAny (model prog w) A (call (.type "set") [.ref l]) Q E s:=by
 obtain⟨c,tl,hmro⟩:=F.called_set.mro;have ⟨hmade,hsub,h1,h2,hct⟩:_/\_/\_/\_/\_:=⟨F.called_set.made,F.called_set.sub,F.called_set.notType,F.called_set.canCreate,PySem.F.typeCall_set_1 (.ref l)⟩;refine wpAny_call (codeAny_of_tree (show wpAny _ _ (callAny (.type "set") _) _ _ _ from Ax ⟨Code.quiet_builtin _ (by decide +kernel),B0 F.entry_type_call ?_⟩));rw[Around.under_plain (weight_type_call_type "set" [.ref l] []) rfl]
 repeat (any_goals (first|assumption|wp_step))
 refine BZ (pX (.ref l) (E:=E) (Q₁:=λ obj s₁=>obj=.ref s.heap.objs.size/\s₁={ s with heap:=s.heap.push (fY w) }) ⟨rfl,rfl⟩) λ r s₁ hr=>?_
 match r,hr with
 | .error e,hr=>exact hr
 | .ok (.ret obj),hr=>
  obtain⟨rfl,rfl⟩:=hr;have hS:(s.heap.push (fY w)).get? s.heap.objs.size=some (fY w):=AF _ rfl;have hT:Shared.TypeIs { s with heap:=s.heap.push (fY w) } (.ref s.heap.objs.size) "set":=⟨_,hS,rfl⟩;have ⟨hli,hbi⟩:_/\_:=⟨F.called_set.init.lookup,F.called_set.init.bind (.ref s.heap.objs.size)⟩
  repeat (any_goals (first|assumption|wp_step))
  refine BZ (codeAny_call_builtin (R:=wants (λ r s₂=>r=.none/\∃ h' tk,s₂={ s with heap:=h',toks:=tk }/\(∃ es ep t,SetI w h' s.heap.objs.size es ep t/\mS es (eA val items.size)) /\
   (∀ b o,s.heap.get? b=some o->h'.get? b=some o)) E) F.called_set.init.plain F.entry_set_init (check_set_init_1 hT ?_)) λ r₂ s₂ hr₂=>?_
  ·obtain⟨ol,hol,hcl,nl,hdl⟩:=hl
   obtain⟨ocls,odict,odata,oslots⟩:=ol;simp only at hcl hdl;subst hcl;subst hdl;have hol':(s.heap.push (fY w)).get? l=some { cls:=.type "list",dict:=odict,data:=.seq items nl,slots:=oslots }:=AB _ hol;have ⟨hsls,hslf,hne⟩:_/\_/\(Br "list" == Br "dict")=false:=⟨PySem.F.sub_list_set,PySem.F.sub_list_frozenset,by decide⟩;have hl1:(s.heap.push (fY w)).IsList l items:=⟨_,hol',rfl,nl,rfl⟩;unfold Builtin.«set.__init__» noKeywords DE;generalize hPI:pyIter=PI
   wp_walk
   subst hPI;have hlS:l<s.heap.objs.size:=Az hol;refine Cq hl1 (Aw (wpAny_runValue ?_));have zs:(s.heap.push (fY w)).objs.size=s.heap.objs.size+1:=CO ..;have up:∀ b o,s.heap.get? b=some o->((s.heap.push (fY w)).push { cls:=.type "list_iterator",data:=.fields #[.ref l,.int 0 0] }).get? b=some o:=λ b o e=>AB _ (AB _ e)
   refine mh (I:=(s.heap.push (fY w)).objs.size) (l:=l) (val:=val) (by simp[hh]) (by rw[zs];exact wz (xE hlS)) (by rw[zs];exact wz (xW _)) (yy hlS) hz (items.size-0) 0 _ ⋯ (xw _)
    ⟨_,AF _ rfl,rfl,rfl⟩ (hl1.push _) ⟨#[],0,_,l5 (AB _ hS),.refl _⟩ hv λ h' tk k' hS'=>?_
   show wpAny _ _ _ _ _ _
   refine Ax ?_
   show wpAny _ _ (ret AE) _ _ _
   refine Ax ⟨rfl,h',tk,rfl,hS',λ b o e=>k' b o ?_ ?_ (up b o e)⟩
   ·exact wz (Az e)
   ·rw[zs];exact wz (xE (Az e))
  ·match r₂,hr₂ with
   | .error e,hr₂=>exact hr₂
   | .ok (.ret r),hr₂=>
    obtain⟨rfl,h',tk,rfl,hS',hk'⟩:=hr₂
    repeat (any_goals (first|assumption|wp_step))
    exact h _ _ hS' hk'
   | .ok .next,hr₂=>exact hr₂.elim
   | .ok .brk,hr₂=>exact hr₂.elim
   | .ok .cont,hr₂=>exact hr₂.elim
 | .ok .next,hr=>exact hr.elim
 | .ok .brk,hr=>exact hr.elim
 | .ok .cont,hr=>exact hr.elim
end
end Sts
namespace Sd
open PySem PySem.Spec PySem.W PySem.Calls PyProof.Rows L2 Sts
open Dv (D R RL EE EL EI RI Sl Out SS)
theorem gK (ns:List Int):∀ i,i<=ns.length->eA (λ j=>ns.getD j 0) i=(ns.take i).foldl Dv.oncesStep []
 | 0,_=>by simp[eA]
 | i+1,h=>by
  have hi:i<ns.length:=⋯
  unfold eA;rw[gK ns i ⋯,yq hi,yQ];have e:ns.getD i 0=ns[i]:=by simp[wt,wo hi]
  simp only[e,w6,zY]
theorem eP:∀ {vs:List Value} {ns:List Int},vs.length=ns.length->(∀ i,i<vs.length->∃ u,vs.getD i AE=.int (ns.getD i 0) u)->IntsAre vs ns
 | [],[],_,_=>.nil
 | [],_::_,h,_=>by simp at h
 | _::_,[],h,_=>by simp at h
 | v::vs,n::ns,h,q=>by
  obtain⟨u,e⟩:=q 0 (by simp);have e:v=.int n u:=by simpa using e
  subst e;exact .cons n u (eP (by simpa using h) λ i hi=>by simpa using q (i+1) (by simpa using hi))
theorem mB (ns:List Int):(Dv.onces ns).length<=ns.length:=by
 have:∀ (l σ:List Int),(l.foldl Dv.oncesStep σ).length<=σ.length+l.length:=by
  intro l
  induction l with
  | nil=>intro σ;simp
  | cons k r ih=>
   intro σ;rw[w6];refine xp (ih _) ?_
   unfold Dv.oncesStep
   split <;>simp <;>omega
 have:=this ns [];rw[xN,xy] at this;exact this
end Sd
namespace Srt
open PySem PySem.W PyProof.Rows
structure Bk (κ:SortKind)(Gd:Keyed->Prop)(N:Nat)(st:SortSt):Prop where
 kind:kindOf st=κ
 size:(arrOf st).size=N
 good:∀ (i:Nat) (p:Keyed),(arrOf st)[i]?=some p->Gd p
 ok:failedOf st=none
section
variable {prog:Program}{w:World}{A:Around}{E:Value->Shared->Prop}{s:Shared}{κ:SortKind}{Gd:Keyed->Prop}{N:Nat}
theorem welem {xs:Array Keyed}{i:Nat}(hi:i<xs.size){st:SortSt}{Q:Keyed->SortSt->Prop}(h:Q xs[i] st):wpS (model prog w) A E s (elem' xs i) Q st:=by
 rw[elem'_eq,AC hi];exact AA h
theorem ny {xs ys:Array Keyed}(h:xs.Perm ys)(g:∀ (i:Nat) (p:Keyed),ys[i]?=some p->Gd p):∀ (i:Nat) (p:Keyed),xs[i]?=some p->Gd p:=λ i p e=>by
 have h1:p∈xs:=CT e;have h2:p∈ys:=h.mem_iff.mp h1;obtain⟨j,hj,e2⟩:=CZ h2;exact g j p (by rw[AC hj,e2])
theorem Bk.set {st:SortSt}(B:Bk κ Gd N st){xs:Array Keyed}(h:xs.Perm (arrOf st)):Bk κ Gd N (setArr st xs):=
 ⟨B.kind,by show xs.size=N;rw[h.size_eq];exact B.size,ny h B.good,B.ok⟩
end
def gallop':Bool->Keyed->Array Keyed->Nat->Nat->Nat->StateT SortSt Sem (Option Nat):=sortPriv% PySem.Builtin.gallop
def bF:Nat->StateT SortSt Sem Unit:=sortPriv% PySem.Builtin.setMinGallop
def dO:Array Keyed->Array Keyed->StateT SortSt Sem (Array Keyed):=sortPriv% PySem.Builtin.mergeLo
def dX:Array Keyed->Array Keyed->StateT SortSt Sem (Array Keyed):=sortPriv% PySem.Builtin.mergeHi
def ask' (lf:Bool)(k:Keyed)(xs:Array Keyed)(b i:Nat):StateT SortSt Sem (Option Bool):=do
 let x <- elem' xs (b+i)
 if lf then lt' x k else return (<- lt' k x).map (!·)
theorem kB (lf:Bool)(k:Keyed)(xs:Array Keyed)(b n t:Nat):gallop' lf k xs b n t=(do
  let mut last:=0
  let mut of_:=1
  let mut lo:=0
  let mut hi:=0
  let some rt <- ask' lf k xs b t|return none
  if rt then
   let mx:=n-t
   for _ in [0:n] do
    if of_ ≥ mx then break
    let some more <- ask' lf k xs b (t+of_)|return none
    if !more then break
    last:=of_
    of_:=2*of_+1
   lo:=t+last+1
   hi:=t+min of_ mx
  else
   let mx:=t+1
   for _ in [0:n] do
    if of_ ≥ mx then break
    let some fnd <- ask' lf k xs b (t-of_)|return none
    if fnd then break
    last:=of_
    of_:=2*of_+1
   lo:=t+1-min of_ mx
   hi:=t-last
  for _ in [0:n] do
   if lo ≥ hi then break
   let m:=lo+(hi-lo)/2
   let some more <- ask' lf k xs b m|return none
   if more then lo:=m+1 else hi:=m
  return some hi):=rfl
theorem j9 (g:Nat):bF g=modify λ s=>DC (kindOf s) (arrOf s) (pendingOf s) g (failedOf s):=rfl
section
variable {prog:Program}{w:World}{A:Around}{E:Value->Shared->Prop}{s:Shared}{κ:SortKind}{Gd:Keyed->Prop}{N:Nat}
structure Sm (st st':SortSt):Prop where
 kind:kindOf st'=kindOf st
 arr:arrOf st'=arrOf st
 pend:pendingOf st'=pendingOf st
 ok:failedOf st'=failedOf st
theorem Sm.refl (st:SortSt):Sm st st:=⟨rfl,rfl,rfl,rfl⟩
theorem Sm.trans {a b c:SortSt}(h:Sm a b)(g:Sm b c):Sm a c:=⟨g.kind.trans h.kind,g.arr.trans h.arr,g.pend.trans h.pend,g.ok.trans h.ok⟩
theorem wgal {st:SortSt}{n:Nat}{Q:Unit->SortSt->Prop}(h:∀ st',Sm st st'->Q () st'):wpS (model prog w) A E s (bF n) Q st:=by
 rw[j9];exact BM (h _ ⟨rfl,rfl,rfl,rfl⟩)
def Gs (Gd:Keyed->Prop)(xs:Array Keyed):Prop:=∀ p,p∈xs->Gd p
theorem Gs.at {xs:Array Keyed}(h:Gs Gd xs):∀ (j:Nat) (p:Keyed),xs[j]?=some p->Gd p:=λ j p e=>h p (CT e)
theorem Gs.ix {xs:Array Keyed}(h:Gs Gd xs){i:Nat}(hi:i<xs.size):Gd xs[i]:=h _ (Dq hi)
theorem Gs.ext {xs:Array Keyed}(h:Gs Gd xs)(i j:Nat):Gs Gd (xs.extract i j):=λ p hp=>by
 obtain⟨k,hk,e⟩:=CZ hp;rw[AS] at e;rw[<- e];exact h _ (Dq _)
theorem j6 (a b:Array Keyed):dO a b=(do
  rule "list.sort.merge-lo"
  let tot:=a.size+b.size
  let dn (o:Array Keyed) (i j:Nat):=o++a.extract i a.size++b.extract j b.size
  let la (o:Array Keyed) (i j:Nat):=o++b.extract j b.size++a.extract i a.size
  let mut o:Array Keyed:=#[<- elem' b 0]
  let mut i:=0
  let mut j:=1
  if j == b.size then return dn o i j
  if i+1 == a.size then return la o i j
  let mut mg:=gallopOf (<- get)
  for _ in [0:tot] do
   let mut ac:=0
   let mut bc:=0
   for _ in [0:tot] do
    let some bw <- lt' (<- elem' b j) (<- elem' a i)|return dn o i j
    if bw then
     o:=o.push (<- elem' b j);j:=j+1;bc:=bc+1;ac:=0
     if j == b.size then return dn o i j
     if bc ≥ mg then break
    else
     o:=o.push (<- elem' a i);i:=i+1;ac:=ac+1;bc:=0
     if i+1 == a.size then return la o i j
     if ac ≥ mg then break
   rule "list.sort.gallop"
   mg:=mg+1
   for _ in [0:tot] do
    if mg > 1 then mg:=mg-1
    bF mg
    let some k <- gallop' false (<- elem' b j) a i (a.size-i) 0|return dn o i j
    ac:=k
    if k > 0 then
     o:=o++a.extract i (i+k);i:=i+k
     if i+1 == a.size then return la o i j
     if i == a.size then return dn o i j
    o:=o.push (<- elem' b j);j:=j+1
    if j == b.size then return dn o i j
    let some k <- gallop' true (<- elem' a i) b j (b.size-j) 0|return dn o i j
    bc:=k
    if k > 0 then
     o:=o++b.extract j (j+k);j:=j+k
     if j == b.size then return dn o i j
    o:=o.push (<- elem' a i);i:=i+1
    if i+1 == a.size then return la o i j
    if ac<7&&bc<7 then break
   mg:=mg+1
   bF mg
  unsupported "internal:list.sort.merge-bound"):=rfl
end
section
variable {prog:Program}{w:World}{A:Around}{E:Value->Shared->Prop}{s:Shared}{κ:SortKind}{Gd:Keyed->Prop}{N:Nat}
theorem jG (a b:Array Keyed):dX a b=(do
  rule "list.sort.merge-hi"
  let tot:=a.size+b.size
  let dn (o:Array Keyed) (i j:Nat):=a.extract 0 i++b.extract 0 j++o.reverse
  let fb (o:Array Keyed) (i j:Nat):=b.extract 0 j++a.extract 0 i++o.reverse
  let mut i:=a.size-1
  let mut j:=b.size
  let mut o:Array Keyed:=#[<- elem' a i]
  if i == 0 then return dn o i j
  if j == 1 then return fb o i j
  let mut mg:=gallopOf (<- get)
  for _ in [0:tot] do
   let mut ac:=0
   let mut bc:=0
   for _ in [0:tot] do
    let some aw <- lt' (<- elem' b (j-1)) (<- elem' a (i-1))|return dn o i j
    if aw then
     i:=i-1;o:=o.push (<- elem' a i);ac:=ac+1;bc:=0
     if i == 0 then return dn o i j
     if ac ≥ mg then break
    else
     j:=j-1;o:=o.push (<- elem' b j);bc:=bc+1;ac:=0
     if j == 1 then return fb o i j
     if bc ≥ mg then break
   rule "list.sort.gallop"
   mg:=mg+1
   for _ in [0:tot] do
    if mg > 1 then mg:=mg-1
    bF mg
    let some p <- gallop' false (<- elem' b (j-1)) a 0 i (i-1)|return dn o i j
    let k:=i-p
    ac:=k
    if k > 0 then
     o:=o++(a.extract p i).reverse;i:=p
     if i == 0 then return dn o i j
    j:=j-1;o:=o.push (<- elem' b j)
    if j == 1 then return fb o i j
    let some p <- gallop' true (<- elem' a (i-1)) b 0 j (j-1)|return dn o i j
    let k:=j-p
    bc:=k
    if k > 0 then
     o:=o++(b.extract p j).reverse;j:=p
     if j == 1 then return fb o i j
     if j == 0 then return dn o i j
    i:=i-1;o:=o.push (<- elem' a i)
    if i == 0 then return dn o i j
    if ac<7&&bc<7 then break
   mg:=mg+1
   bF mg
  unsupported "internal:list.sort.merge-bound"):=rfl
end
abbrev Run:=Nat×Nat×Nat
structure Pd (lo:Nat)(p:Array Run):Prop where
 len:∀ (i:Nat) (r:Run),p[i]?=some r->1<=r.2.1/\r.1+r.2.1<=lo
 nxt:∀ (i:Nat) (r q:Run),p[i]?=some r->p[i+1]?=some q->q.1=r.1+r.2.1
 top:∀ r,p[p.size-1]?=some r->r.1+r.2.1=lo
section
variable {prog:Program}{w:World}{A:Around}{E:Value->Shared->Prop}{s:Shared}{κ:SortKind}{Gd:Keyed->Prop}{N:Nat}
theorem jE (i:Nat):mergeAt' i=(do
  let s <- get
  let (some (sa,na,pw),some (sb,nb,_)):=((pendingOf s)[i]?,(pendingOf s)[i+1]?)|unsupported "internal:list.sort.pending"
  set (setPending s (((pendingOf s).setIfInBounds i (sa,na+nb,pw)).eraseIdxIfInBounds (i+1)))
  let some k <- gallop' false (<- elem' (arrOf s) sb) (arrOf s) sa na 0|return false
  let (sa,na):=(sa+k,na-k)
  if na == 0 then return true
  let some nb <- gallop' true (<- elem' (arrOf s) (sa+na-1)) (arrOf s) sb nb (nb-1)|return false
  if nb == 0 then return true
  let x:=(arrOf s).extract sa sb
  let y:=(arrOf s).extract sb (sb+nb)
  let r <- if na<=nb then dO x y else dX x y
  modify λ s=>setArr s (r.toList.zipIdx.foldl (λ a (p,j)=>a.setIfInBounds (sa+j) p) (arrOf s))
  return (failedOf (<- get)).isNone):=rfl
theorem wset {st st':SortSt}{Q:PUnit->SortSt->Prop}(h:Q ⟨⟩ st'):wpS (model prog w) A E s (set st':StateT SortSt Sem PUnit) Q st:=by
 unfold wpS;rw[StateT.run_set];exact Ax ⟨rfl,h⟩
theorem cG {p:Array Run}{i:Nat}{v:Run}(hi:i+1<p.size)(j:Nat):((p.setIfInBounds i v).eraseIdxIfInBounds (i+1))[j]?=if j<i then p[j]? else if j=i then some v else p[j+1]?:=by
 have e:((p.setIfInBounds i v).eraseIdxIfInBounds (i+1)).toList=(p.toList.set i v).eraseIdx (i+1):=by simp
 rw[<- AH,e,List.getElem?_eraseIdx];by_cases c:j<i
 ·rw[if_pos ⋯,if_pos c,wF ⋯,AH]
 ·rw[if_neg c]
  by_cases c2:j=i
  ·subst c2
   rw[if_pos ⋯,if_pos rfl,wV (by rw[AD];omega)]
  ·rw[if_neg c2,if_neg ⋯,wF ⋯,AH]
theorem eW {p:Array Run}{i:Nat}{v:Run}(hi:i+1<p.size):((p.setIfInBounds i v).eraseIdxIfInBounds (i+1)).size+1=p.size:=by
 have e:((p.setIfInBounds i v).eraseIdxIfInBounds (i+1)).toList=(p.toList.set i v).eraseIdx (i+1):=by simp
 have h:=congrArg List.length e;rw[AD,yJ (by rw[w4,AD];exact hi),w4,AD] at h;omega
theorem Pd.merge {lo:Nat}{p:Array Run}(h:Pd lo p){i:Nat}{r q:Run}(hr:p[i]?=some r)(hq:p[i+1]?=some q):Pd lo ((p.setIfInBounds i (r.1,r.2.1+q.2.1,r.2.2)).eraseIdxIfInBounds (i+1)):=by
 have hi:i+1<p.size:=(Array.getElem?_eq_some_iff.mp hq).1;have e:=h.nxt i r q hr hq;have l1:=h.len i r hr;have l2:=h.len _ q hq;refine⟨λ j v hv=>?_,λ j v u hv hu=>?_,λ v hv=>?_⟩
 ·rw[cG hi] at hv
  split at hv
  ·exact h.len j v hv
  ·split at hv
   ·cases hv;exact⟨by show 1<=r.2.1+q.2.1;omega,by show r.1+(r.2.1+q.2.1)<=lo;omega⟩
   ·exact h.len _ v hv
 ·rw[cG hi] at hv hu
  by_cases c1:j+1<i
  ·rw[if_pos c1] at hu;rw[if_pos ⋯] at hv
   exact h.nxt j v u hv hu
  ·rw[if_neg c1] at hu
   by_cases c2:j+1=i
   ·rw[if_pos c2] at hu;rw[if_pos ⋯] at hv
    cases hu;subst c2;exact h.nxt j v r hv hr
   ·rw[if_neg c2] at hu
    by_cases c3:j=i
    ·subst c3
     rw[if_neg ⋯,if_pos rfl] at hv;cases hv;have:=h.nxt _ q u hq hu;show u.1=r.1+(r.2.1+q.2.1)
     omega
    ·rw[if_neg ⋯,if_neg c3] at hv
     exact h.nxt _ v u hv hu
 ·have hs:=eW (v:=(r.1,r.2.1+q.2.1,r.2.2)) hi
  rw[cG hi] at hv
  split at hv
  ·omega
  ·split at hv
   ·cases hv
    have:p[p.size-1]?=some q:=by rw[<- hq];congr 1;omega
    have:=h.top q this;show r.1+(r.2.1+q.2.1)=lo
    omega
   ·refine h.top v ?_
    rw[<- hv];congr 1;omega
end
section
variable {prog:Program}{w:World}{A:Around}{E:Value->Shared->Prop}{s:Shared}{κ:SortKind}{Gd:Keyed->Prop}{N:Nat}
theorem gg:∀ (f n r:Nat),1<=n->n<=f->1<=minRun' f n r
 | 0,n,r,h,g=>⋯
 | f+1,n,r,h,g=>by
  rw[minRun'_succ]
  split
  ·omega
  ·exact gg f (n/2) _ ⋯ ⋯
theorem Pd.push {lo n:Nat}{p:Array Run}(h:Pd lo p)(hn:1<=n)(h0:p.size=0->lo=0\/True):Pd (lo+n) (p.push (lo,n,0)):=by
 refine⟨λ i r hr=>?_,λ i r q hr hq=>?_,λ r hr=>?_⟩
 ·rw[BC] at hr
  split at hr
  ·cases hr;exact⟨hn,wu _⟩
  ·have:=h.len i r hr;omega
 ·rw[BC] at hr hq
  split at hq
  ·rename_i c
   cases hq;rw[if_neg ⋯] at hr;have:p[p.size-1]?=some r:=by rw[<- hr];congr 1;omega
   exact(h.top r this).symm
  ·split at hr
   ·rename_i c1 c2
    have:=(Array.getElem?_eq_some_iff.mp hq).1;omega
   ·exact h.nxt i r q hr hq
 ·rw[CL,zD,Array.getElem?_push_size] at hr
  cases hr;rfl
theorem Pd.pow {lo:Nat}{p:Array Run}(h:Pd lo p)(j pw:Nat):Pd lo (p.modify j λ x=>(x.1,x.2.1,pw)):=by
 have g:∀ (i:Nat) (r:Run),(p.modify j λ x=>(x.1,x.2.1,pw))[i]?=some r->∃ r',p[i]?=some r'/\r'.1=r.1/\r'.2.1=r.2.1:=λ i r hr=>by
  rw[BV] at hr
  split at hr
  ·rw[xt] at hr
   obtain⟨r',e1,rfl⟩:=hr;exact⟨r',e1,rfl,rfl⟩
  ·exact⟨r,hr,rfl,rfl⟩
 refine⟨λ i r hr=>?_,λ i r q hr hq=>?_,λ r hr=>?_⟩
 ·obtain⟨r',e1,e2,e3⟩:=g i r hr
  have:=h.len i r' e1;omega
 ·obtain⟨r',e1,e2,e3⟩:=g i r hr
  obtain⟨q',f1,f2,f3⟩:=g _ q hq;have:=h.nxt i r' q' e1 f1;omega
 ·rw[Ds] at hr
  obtain⟨r',e1,e2,e3⟩:=g _ r hr;have:=h.top r' e1;omega
end
def Ky (ky:Keyed->Int)(xs:Array Keyed)(i:Nat):Int:=match xs[i]? with
 | some p=>ky p
 | none=>0
def Up (ky:Keyed->Int)(xs:Array Keyed)(a b:Nat):Prop:=∀ i j,a<=i->i<=j->j<b->Ky ky xs i<=Ky ky xs j
def Dn (ky:Keyed->Int)(xs:Array Keyed)(a b:Nat):Prop:=∀ i j,a<=i->i<=j->j<b->Ky ky xs j<=Ky ky xs i
structure Bs (κ:SortKind)(a₀:Array Keyed)(st:SortSt):Prop where
 kind:kindOf st=κ
 perm:(arrOf st).Perm a₀
 ok:failedOf st=none
structure Fr (lo:Nat)(st st':SortSt):Prop where
 arr:∀ i,i<lo->(arrOf st')[i]?=(arrOf st)[i]?
 pend:pendingOf st'=pendingOf st
theorem Fr.refl (lo:Nat)(st:SortSt):Fr lo st st:=⟨λ _ _=>rfl,rfl⟩
theorem Fr.trans {lo:Nat}{a b c:SortSt}(h:Fr lo a b)(g:Fr lo b c):Fr lo a c:=⟨λ i hi=>(g.arr i hi).trans (h.arr i hi),g.pend.trans h.pend⟩
section
variable {prog:Program}{w:World}{A:Around}{E:Value->Shared->Prop}{s:Shared}{κ:SortKind}{Gd:Keyed->Prop}{ky:Keyed->Int}{a₀:Array Keyed}
def Cmk (prog:Program)(w:World)(A:Around)(s:Shared)(κ:SortKind)(Gd:Keyed->Prop)(ky:Keyed->Int):Prop:=
 ∀ x y,Gd x->Gd y->∀ (C:Bool->Shared->Prop) (E':Value->Shared->Prop),C (decide (ky x<ky y)) s->wpAny (model prog w) A (keyLt' κ x.1 y.1) C E' s
theorem aR {xs ys:Array Keyed}{i j:Nat}(h:xs[i]?=ys[j]?):Ky ky xs i=Ky ky ys j:=by unfold Ky;rw[h]
theorem aS {xs:Array Keyed}{i:Nat}(h:i<xs.size):Ky ky xs i=ky xs[i]:=by unfold Ky;rw[AC h]
theorem eK {xs:Array Keyed}{i j:Nat}(hj:j<=xs.size)(k:Nat):
  Ky ky (mirror xs i j ((j-i)/2)) k=if i<=k/\k<j then Ky ky xs (i+j-1-k) else Ky ky xs k:=by
 have e:=Dc (i:=i) hj k;by_cases h1:i<=k/\k<j
 ·rw[if_pos h1] at e ⊢;exact aR e
 ·rw[if_neg h1] at e ⊢;exact aR e
theorem bu {xs:Array Keyed}{i j:Nat}(hj:j<=xs.size)(heq:∀ k,i<=k->k<j->Ky ky xs k=Ky ky xs (j-1))(k:Nat):
  Ky ky (mirror xs i j ((j-i)/2)) k=Ky ky xs k:=by
 rw[eK hj]
 split
 ·rw[heq _ ⋯ ⋯,heq k ⋯ ⋯]
 ·rfl
theorem gF {xs:Array Keyed}{src d:Nat}(hs:src<xs.size)(hd:d<=src)(k:Nat):
  Ky ky (bubble xs src d) k=if k=src-d then Ky ky xs src else if src-d<k/\k<=src then Ky ky xs (k-1) else Ky ky xs k:=by
 have e:=getElem?_bubble hs d hd k;by_cases h1:k=src-d
 ·rw[if_pos h1] at e ⊢;exact aR e
 ·rw[if_neg h1] at e ⊢
  by_cases h2:src-d<k/\k<=src
  ·rw[if_pos h2] at e ⊢;exact aR e
  ·rw[if_neg h2] at e ⊢;exact aR e
theorem Bs.size {st:SortSt}(B:Bs κ a₀ st):(arrOf st).size=a₀.size:=B.perm.size_eq
theorem Bs.set {st:SortSt}(B:Bs κ a₀ st){xs:Array Keyed}(h:xs.Perm (arrOf st)):Bs κ a₀ (setArr st xs):=⟨B.kind,h.trans B.perm,B.ok⟩
theorem Bs.gs {st:SortSt}(B:Bs κ a₀ st)(g:Gs Gd a₀):Gs Gd (arrOf st):=λ p hp=>g p (B.perm.mem_iff.mp hp)
theorem slt (hc:Cmk prog w A s κ Gd ky){x y:Keyed}(hx:Gd x)(hy:Gd y){st:SortSt}(hk:kindOf st=κ){Q:Option Bool->SortSt->Prop}(h:Q (some (decide (ky x<ky y))) st):wpS (model prog w) A E s (lt' x y) Q st:=by
 rw[lt'_eq];refine Ay (wpS_get ?_);rw[hk];refine Ay (B9 (C4 (hc x y hx hy _ _ ⟨rfl,?_⟩)));exact AA h
theorem gB (hc:Cmk prog w A s κ Gd ky)(g:Gs Gd a₀){st:SortSt}(B:Bs κ a₀ st){i j:Nat}(hi:i<a₀.size)(hj:j<a₀.size){Q:Option Bool->SortSt->Prop}(h:Q (some (decide (Ky ky (arrOf st) i<Ky ky (arrOf st) j))) st):wpS (model prog w) A E s (ltAt' i j) Q st:=by
 rw[ltAt'_eq];refine Ay (wpS_get ?_);show wpS _ _ _ _ (do let x <- elem' (arrOf st) i;let y <- elem' (arrOf st) j;lt' x y) Q st
 have hi':i<(arrOf st).size:=by rw[B.size];exact hi
 have hj':j<(arrOf st).size:=by rw[B.size];exact hj
 refine Ay (welem hi' (Ay (welem hj' ?_)));rw[aS hi',aS hj'] at h;exact slt hc ((B.gs g).ix _) ((B.gs g).ix _) B.kind h
theorem srev {st:SortSt}(B:Bs κ a₀ st){i j lo:Nat}(hi:lo<=i)(hj:j<=a₀.size){Q:Unit->SortSt->Prop}(h:∀ st',Bs κ a₀ st'->Fr lo st st'->arrOf st'=mirror (arrOf st) i j ((j-i)/2)->Q () st'):wpS (model prog w) A E s (reverseSlice' i j) Q st:=by
 rw[reverseSlice'_eq];refine BM (h _ (B.set (mirror_perm _ _ _ _)) ⟨λ k hk=>?_,rfl⟩ rfl);have e:=Dc (xs:=arrOf st) (i:=i) (j:=j) (by rw[B.size];exact hj) k;rw[if_neg ⋯] at e;exact e
theorem scount (hc:Cmk prog w A s κ Gd ky)(g:Gs Gd a₀){st:SortSt}(B:Bs κ a₀ st){lo nr:Nat}(h1:1<=nr)(hn:lo+nr<=a₀.size){Q:Option Nat->SortSt->Prop}(h:∀ n st',1<=n->n<=nr->Bs κ a₀ st'->Fr lo st st'->Up ky (arrOf st') lo (lo+n)->Q (some n) st'):wpS (model prog w) A E s (countRun' lo nr) Q st:=by
 rw[countRun'_eq];refine Ay (AZ (AQ (I:=λ x c st'=>c=(none,x)/\st'=st/\Up ky (arrOf st) lo (lo+x)) (Q:=λ c st'=>∃ n,c=(none,n)/\1<=n/\n<=nr/\st'=st/\Up ky (arrOf st) lo (lo+n)/\(n=nr\/Ky ky (arrOf st) (lo+n)<Ky ky (arrOf st) (lo+n-1))) ?_ ?_ ⟨rfl,rfl,λ i j a b c=>?_⟩) ?_)
 ·rintro x c st' hx hx2 ⟨rfl,rfl,u⟩
  dsimp only;refine Ay (gB hc g B ⋯ ⋯ ?_);by_cases hl:Ky ky (arrOf st') (lo+x)<Ky ky (arrOf st') (lo+x-1)
  ·simp only[hl,decide_true,if_true]
   exact AA ⟨x,rfl,hx,⋯,rfl,u,.inr hl⟩
  ·simp only[hl,decide_false,wg,if_false]
   refine AA ⟨rfl,rfl,λ i j a b c=>?_⟩;by_cases hj:j<lo+x
   ·exact u i j a b hj
   ·by_cases hi:i=j
    ·subst hi;exact xf _
    ·have e:j=lo+x:=⋯
     subst e;exact wY (u i (lo+x-1) a ⋯ ⋯) (Int.not_lt.mp hl)
 ·rintro c st' ⟨rfl,rfl,u⟩
  rw[show max 1 nr=nr by omega] at u ⊢;exact⟨nr,rfl,h1,wu _,rfl,u,.inl rfl⟩
 ·have:i=j:=⋯
  subst this;exact xf _
 ·rintro c st' ⟨n,rfl,n1,n2,rfl,u,hor⟩
  dsimp only;by_cases e:(n == nr)=true
  ·rw[if_pos e];exact AA (h n _ n1 n2 B (.refl _ _) u)
  rw[if_neg e];have hne:n≠nr:=λ z=>e (by rw[z];exact beq_self_eq_true _)
  have hlt:=hor.resolve_left hne;by_cases g1:n > 1
  rotate_left
  rw[if_neg g1];obtain⟨st1,B1,f1,d1,est⟩:∃ st1,Bs κ a₀ st1/\Fr lo st' st1/\Dn ky (arrOf st1) lo (lo+(n+1))/\st1=st':=by
   have e1:n=1:=⋯
   subst e1;refine⟨st',B,.refl _ _,λ i j a b c=>?_,rfl⟩;by_cases hi:i=j
   ·subst hi;exact xf _
   ·have e0:i=lo:=⋯
    have e1:j=lo+1:=⋯
    subst e0;subst e1;exact xc (by simpa using hlt)
  rw[<- est]
  rotate_left
  rw[if_pos g1];refine Ay (gB hc g B ⋯ ⋯ ?_);by_cases hr:Ky ky (arrOf st') lo<Ky ky (arrOf st') (lo+n-1)
  ·simp only[hr,decide_true,if_true]
   exact AA (h n _ n1 n2 B (.refl _ _) u)
  simp only[hr,decide_false,wg,if_false];have hsz:lo+n<=(arrOf st').size:=by rw[B.size];omega
  have hall:∀ k,lo<=k->k<lo+n->Ky ky (arrOf st') k=Ky ky (arrOf st') (lo+n-1):=by
   intro k a b;have a1:=u lo k (wu _) a b;have a2:=u k (lo+n-1) a ⋯ ⋯;omega
  refine Ay (srev B (wu lo) ⋯ λ st1 B1 f1 e1=>?_);have d1:Dn ky (arrOf st1) lo (lo+(n+1)):=by
   intro i j a b c;rw[e1,bu hsz hall,bu hsz hall];by_cases hj:j<lo+n
   ·rw[hall i a ⋯,hall j ⋯ hj];exact xf _
   ·by_cases hi:i=j
    ·subst hi;exact xf _
    ·have e:j=lo+n:=⋯
     subst e;rw[hall i a ⋯];exact xc hlt
  clear hor
  all_goals
   refine Ay (B9 (Bz ⟨rfl,?_⟩));refine Ay (AZ (AQ (I:=λ x c st2=>∃ q,c=(none,x,q)/\Bs κ a₀ st2/\Fr lo st' st2/\Dn ky (arrOf st2) lo (lo+x)/\q+1<=x/\∀ i,lo+x-(q+1)<=i->i<lo+x->Ky ky (arrOf st2) i=Ky ky (arrOf st2) (lo+x-1)) (Q:=λ c st2=>∃ m q,c=(none,m,q)/\n+1<=m/\m<=nr/\Bs κ a₀ st2/\Fr lo st' st2/\Dn ky (arrOf st2) lo (lo+m)/\q+1<=m/\∀ i,lo+m-(q+1)<=i->i<lo+m->Ky ky (arrOf st2) i=Ky ky (arrOf st2) (lo+m-1)) ?_ ?_ ⟨0,rfl,B1,f1,d1,⋯,λ i p q=>by congr 1;omega⟩) ?_)
   ·rintro x c st2 hx hx2 ⟨q,rfl,B2,f2,d2,q1,he⟩
    dsimp only;have hsz:lo+x<=(arrOf st2).size:=by rw[B2.size];omega
    refine Ay (gB hc g B2 ⋯ ⋯ ?_);have step:∀ xs:Array Keyed,(∀ k,Ky ky xs k=Ky ky (arrOf st2) k)->Ky ky (arrOf st2) (lo+x)<=Ky ky (arrOf st2) (lo+x-1)->Dn ky xs lo (lo+(x+1)):=by
     intro xs hk hless i j a b c;rw[hk,hk];by_cases hj:j<lo+x
     ·exact d2 i j a b hj
     ·by_cases hi:i=j
      ·subst hi;exact xf _
      ·have e:j=lo+x:=⋯
       subst e;exact wY hless (d2 i (lo+x-1) a ⋯ ⋯)
    by_cases hl:Ky ky (arrOf st2) (lo+x)<Ky ky (arrOf st2) (lo+x-1)
    ·simp only[hl,decide_true,if_true]
     by_cases hq:q > 0
     ·rw[if_pos hq]
      refine Ay (srev B2 (lo:=lo) ⋯ ⋯ λ st3 B3 f3 e3=>AA ⟨0,rfl,B3,f2.trans f3,?_,⋯,λ i h1 h2=>by congr 1;omega⟩);rw[e3];exact step _ (bu hsz he) (xc hl)
     ·rw[if_neg hq]
      exact AA ⟨0,rfl,B2,f2,step _ (λ _=>rfl) (xc hl),⋯,λ i h1 h2=>by congr 1;omega⟩
    ·simp only[hl,decide_false,wg,if_false]
     refine Ay (gB hc g B2 ⋯ ⋯ ?_);by_cases hl2:Ky ky (arrOf st2) (lo+x-1)<Ky ky (arrOf st2) (lo+x)
     ·simp only[hl2,decide_true,if_true]
      exact AA ⟨x,q,rfl,hx,⋯,B2,f2,d2,q1,he⟩
     ·simp only[hl2,decide_false,wg,if_false]
      have heq:Ky ky (arrOf st2) (lo+x)=Ky ky (arrOf st2) (lo+x-1):=⋯
      refine AA ⟨q+1,rfl,B2,f2,step _ (λ _=>rfl) ⋯,⋯,λ i h1 h2=>?_⟩;rw[show lo+(x+1)-1=lo+x by omega];by_cases hi:i=lo+x
      ·subst hi;rfl
      ·rw[heq];exact he i ⋯ ⋯
   ·rintro c st2 ⟨q,rfl,B2,f2,d2,q1,he⟩
    rw[show max (n+1) nr=nr by omega] at d2 q1 he ⊢;exact⟨nr,q,rfl,⋯,wu _,B2,f2,d2,q1,he⟩
   ·rintro c st2 ⟨m,q,rfl,m1,m2,B2,f2,d2,q1,he⟩
    dsimp only;have hsz:lo+m<=(arrOf st2).size:=by rw[B2.size];omega
    by_cases hq:q > 0
    rotate_left
    rw[if_neg hq];obtain⟨st3,B3,f3,d3,est3⟩:∃ st3,Bs κ a₀ st3/\Fr lo st' st3/\Dn ky (arrOf st3) lo (lo+m)/\st3=st2:=⟨st2,B2,f2,d2,rfl⟩;rw[<- est3]
    rotate_left
    rw[if_pos hq];refine Ay (srev B2 (lo:=lo) ⋯ ⋯ λ st3 B3 f3' e3=>?_);have f3:=f2.trans f3';have d3:Dn ky (arrOf st3) lo (lo+m):=by
     intro i j a b c;rw[e3,bu hsz he,bu hsz he];exact d2 i j a b c
    all_goals
     refine Ay (srev B3 (wu lo) ⋯ λ st4 B4 f4 e4=>?_);have u4:Up ky (arrOf st4) lo (lo+m):=by
      intro i j a b c;have hz:lo+m<=(arrOf st3).size:=by rw[B3.size];omega
      rw[e4,eK hz,eK hz,if_pos ⋯,if_pos ⋯];exact d3 _ _ ⋯ ⋯ ⋯
     refine Ay (AZ (AQ (I:=λ x c st5=>c=(none,x)/\st5=st4/\Up ky (arrOf st4) lo (lo+x)) (Q:=λ c st5=>∃ k,c=(none,k)/\1<=k/\k<=nr/\st5=st4/\Up ky (arrOf st4) lo (lo+k)) ?_ ?_ ⟨rfl,rfl,u4⟩) ?_)
     ·rintro x c st5 hx hx2 ⟨rfl,rfl,u⟩
      dsimp only;refine Ay (gB hc g B4 ⋯ ⋯ ?_);by_cases hl:Ky ky (arrOf st5) (lo+x)<Ky ky (arrOf st5) (lo+x-1)
      ·simp only[hl,decide_true,if_true]
       exact AA ⟨x,rfl,⋯,⋯,rfl,u⟩
      ·simp only[hl,decide_false,wg,if_false]
       refine AA ⟨rfl,rfl,λ i j a b c=>?_⟩;by_cases hj:j<lo+x
       ·exact u i j a b hj
       ·by_cases hi:i=j
        ·subst hi;exact xf _
        ·have e:j=lo+x:=⋯
         subst e;exact wY (u i (lo+x-1) a ⋯ ⋯) (Int.not_lt.mp hl)
     ·rintro c st5 ⟨rfl,rfl,u⟩
      rw[show max m nr=nr by omega] at u ⊢;exact⟨nr,rfl,h1,wu _,rfl,u⟩
     ·rintro c st5 ⟨k,rfl,k1,k2,rfl,u⟩
      exact AA (h k _ k1 k2 B4 (f3.trans f4) u)
theorem sbin (hc:Cmk prog w A s κ Gd ky)(g:Gs Gd a₀){st:SortSt}(B:Bs κ a₀ st){lo n ok:Nat}(hn:lo+n<=a₀.size)(hok:ok<=n)(u0:Up ky (arrOf st) lo (lo+ok)){Q:Bool->SortSt->Prop}(h:∀ st',Bs κ a₀ st'->Fr lo st st'->Up ky (arrOf st') lo (lo+n)->Q true st'):wpS (model prog w) A E s (binarySort' lo n ok) Q st:=by
 rw[binarySort'_eq];refine Ay (AZ (AQ (I:=λ k c st'=>c=(none,())/\Bs κ a₀ st'/\Fr lo st st'/\Up ky (arrOf st') lo (lo+min k n)) (Q:=λ c st'=>c=(none,())/\Bs κ a₀ st'/\Fr lo st st'/\Up ky (arrOf st') lo (lo+n)) ?_ ?_ ⟨rfl,B,.refl _ _,λ i j a b c=>?_⟩) ?_)
 ·rintro k c st' hk hk2 ⟨rfl,B',f',u'⟩
  rw[show min k n=k by omega] at u';dsimp only;refine Ay (AZ (AQ (I:=λ x c st2=>st2=st'/\∃ l r,c=(none,l,r)/\l<=r/\r<=k/\r-l<=k-x/\(∀ i,i<l->Ky ky (arrOf st') (lo+i)<=Ky ky (arrOf st') (lo+k))/\(∀ i,r<=i->i<k->Ky ky (arrOf st') (lo+k)<Ky ky (arrOf st') (lo+i))) (Q:=λ c st2=>st2=st'/\∃ l r,c=(none,l,r)/\l<=k/\(∀ i,i<l->Ky ky (arrOf st') (lo+i)<=Ky ky (arrOf st') (lo+k))/\(∀ i,l<=i->i<k->Ky ky (arrOf st') (lo+k)<Ky ky (arrOf st') (lo+i))) ?_ ?_ ⟨rfl,0,k,rfl,⋯,⋯,⋯,λ i hi=>⋯,λ i h1 h2=>⋯⟩) ?_)
  ·rintro x c st2 _ hxk ⟨rfl,l,r,rfl,hlr,hrk,hm,hlo,hhi⟩
   dsimp only;by_cases hge:l ≥ r
   ·rw[if_pos hge]
    have:l=r:=⋯
    subst this;exact AA ⟨rfl,l,l,rfl,hrk,hlo,hhi⟩
   ·rw[if_neg hge]
    refine Ay (gB hc g B' ⋯ ⋯ ?_);by_cases hl:Ky ky (arrOf st2) (lo+k)<Ky ky (arrOf st2) (lo+(l+r)/2)
    ·simp only[hl,decide_true,if_true]
     refine AA ⟨rfl,l,(l+r)/2,rfl,⋯,⋯,⋯,hlo,λ i h1 h2=>?_⟩;exact Int.lt_of_lt_of_le hl (u' _ _ ⋯ ⋯ ⋯)
    ·simp only[hl,decide_false,wg,if_false]
     refine AA ⟨rfl,(l+r)/2+1,r,rfl,⋯,⋯,⋯,λ i h1=>?_,hhi⟩;exact wY (u' (lo+i) (lo+(l+r)/2) ⋯ ⋯ ⋯) (Int.not_lt.mp hl)
  ·rintro c st2 ⟨rfl,l,r,rfl,hlr,hrk,hm,hlo,hhi⟩
   have:l=r:=⋯
   subst this;exact⟨rfl,l,l,rfl,hrk,hlo,hhi⟩
  ·rintro c st2 ⟨rfl,l,r,rfl,hlk,hlo,hhi⟩
   dsimp only;have hks:lo+k<(arrOf st2).size:=by rw[B'.size];omega
   rw[moveDown'_eq];refine Ay (BM (AA ⟨rfl,B'.set (bubble_perm _ _ _),f'.trans ⟨λ i hi=>?_,rfl⟩,?_⟩))
   ·have e:=getElem?_bubble hks (lo+k-(lo+l)) ⋯ i
    rw[if_neg ⋯,if_neg ⋯] at e;exact e
   ·rw[show min (k+1) n=k+1 by omega]
    intro i j a b c;show Ky ky (bubble (arrOf st2) (lo+k) (lo+k-(lo+l))) i<=Ky ky (bubble (arrOf st2) (lo+k) (lo+k-(lo+l))) j
    rw[gF hks ⋯,gF hks ⋯,show lo+k-(lo+k-(lo+l))=lo+l by omega];have hlo':∀ i,lo<=i->i<lo+l->Ky ky (arrOf st2) i<=Ky ky (arrOf st2) (lo+k):=λ i p q=>by
     have:=hlo (i-lo) ⋯
     rwa [show lo+(i-lo)=i by omega] at this
    have hhi':∀ i,lo+l<=i->i<lo+k->Ky ky (arrOf st2) (lo+k)<Ky ky (arrOf st2) i:=λ i p q=>by
     have:=hhi (i-lo) ⋯ ⋯
     rwa [show lo+(i-lo)=i by omega] at this
    repeat' split
    all_goals first
     | (exfalso;omega)
     | exact xf _
     | exact hlo' _ ⋯ ⋯
     | exact xc (hhi' _ ⋯ ⋯)
     | exact u' _ _ ⋯ ⋯ ⋯
 ·rintro c st' ⟨hc',B',f',u'⟩
  rw[show min (max (max ok 1) n) n=n by omega] at u';exact⟨hc',B',f',u'⟩
 ·by_cases h1:ok=0
  ·have:i=j:=⋯
   subst this;exact xf _
  ·exact u0 i j a b ⋯
 ·rintro c st' ⟨rfl,B',f',u'⟩
  exact AA (h st' B' f' u')
end
def Ans (ky:Keyed->Int)(lf:Bool)(k x:Keyed):Prop:=if lf then ky x<ky k else ky x<=ky k
section
variable {prog:Program}{w:World}{A:Around}{E:Value->Shared->Prop}{s:Shared}{κ:SortKind}{Gd:Keyed->Prop}{ky:Keyed->Int}{a₀:Array Keyed}
theorem sask (hc:Cmk prog w A s κ Gd ky){lf:Bool}{k:Keyed}{xs:Array Keyed}{b i:Nat}(hk:Gd k)(hx:Gs Gd xs)(hi:b+i<xs.size){st:SortSt}(hs:kindOf st=κ){Q:Option Bool->SortSt->Prop}(h:∀ c,(c=true ↔ Ans ky lf k xs[b+i])->Q (some c) st):wpS (model prog w) A E s (ask' lf k xs b i) Q st:=by
 unfold ask';refine Ay (welem hi ?_);have g:=hx.ix hi;cases lf with
 | true=>exact slt hc g hk hs (h _ (by simp[Ans]))
 | false=>
  rw[if_neg (by decide)];exact Ay (slt hc hk g hs (AA (h _ (by simp[Ans]))))
theorem sgallop (hc:Cmk prog w A s κ Gd ky){lf:Bool}{k:Keyed}{xs:Array Keyed}{b n t:Nat}(hk:Gd k)(hx:Gs Gd xs)(hn:b+n<=xs.size)(ht:t<n)(u:Up ky xs b (b+n)){st:SortSt}(hs:kindOf st=κ){Q:Option Nat->SortSt->Prop}
  (h:∀ m,m<=n->(∀ i (hi:b+i<xs.size),i<m->Ans ky lf k xs[b+i])->(∀ i (hi:b+i<xs.size),m<=i->i<n->¬ Ans ky lf k xs[b+i])->Q (some m) st):wpS (model prog w) A E s (gallop' lf k xs b n t) Q st:=by
 obtain⟨P,hP⟩:∃ P:Nat->Prop,P=λ i=>∃ hi:b+i<xs.size,Ans ky lf k xs[b+i]:=⟨_,rfl⟩
 have ask:∀ {i:Nat} {Q':Option Bool->SortSt->Prop},i<n->(∀ c:Bool,(c=true->P i)->(c=false->¬ P i)->Q' (some c) st)->wpS (model prog w) A E s (ask' lf k xs b i) Q' st:=λ {i Q'} hi h'=>
  sask hc hk hx ⋯ hs λ c hc'=>h' c (λ e=>by rw[hP];exact⟨⋯,hc'.mp e⟩) λ e q=>by
   rw[hP] at q;obtain⟨_,q⟩:=q;rw[<- hc',e] at q;cases q
 have mono:∀ i j,i<=j->j<n->P j->P i:=λ i j hij hj q=>by
  rw[hP] at q ⊢;obtain⟨h1,q⟩:=q;have h2:b+i<xs.size:=⋯
  refine⟨h2,?_⟩;have:=u (b+i) (b+j) ⋯ ⋯ ⋯;rw[aS h1,aS h2] at this;unfold Ans at q ⊢
  split at q <;>simp_all <;>omega
 have fin:∀ m,m<=n->(∀ i,i<m->P i)->(∀ i,m<=i->i<n->¬ P i)->Q (some m) st:=λ m hm p1 p2=>by
  refine h m hm (λ i hi q=>?_) λ i hi q1 q2 z=>p2 i q1 q2 (by rw[hP];exact⟨hi,z⟩)
  have:=p1 i q;rw[hP] at this;exact this.2
 clear hP h;rw[kB];refine Ay (ask ht λ c c1 c2=>?_);cases c with
 | true=>
  have pt:=c1 rfl;dsimp only;rw[if_pos rfl];refine Ay (AZ (AQ (I:=λ x c st'=>∃ l o,c=(none,l,o)/\l<o/\x+1<=o/\t+l<n/\P (t+l)/\st'=st) (Q:=λ c st'=>∃ l o,c=(none,l,o)/\l<o/\t+l<n/\P (t+l)/\(n-t<=o\/¬ P (t+o))/\st'=st) ?_ ?_ ⟨0,1,rfl,⋯,wu _,⋯,pt,rfl⟩) ?_)
  ·rintro x c st' _ _ ⟨l,o,rfl,l1,o1,l2,pl,rfl⟩
   dsimp only;by_cases g:o ≥ n-t
   ·rw[if_pos g];exact AA ⟨l,o,rfl,l1,l2,pl,.inl g,rfl⟩
   ·rw[if_neg g]
    refine Ay (ask ⋯ λ c c1 c2=>?_);cases c with
    | true=>exact AA ⟨o,2*o+1,rfl,⋯,⋯,⋯,c1 rfl,rfl⟩
    | false=>exact AA ⟨l,o,rfl,l1,l2,pl,.inr (c2 rfl),rfl⟩
  ·rintro c st' ⟨l,o,rfl,l1,o1,l2,pl,rfl⟩
   exact⟨l,o,rfl,l1,l2,pl,.inl ⋯,rfl⟩
  ·rintro c st' ⟨l,o,rfl,l1,l2,pl,po,rfl⟩
   dsimp only;refine Ay (AZ (AQ (I:=λ x c st2=>∃ lo hi,c=(none,lo,hi)/\lo<=hi/\hi<=n/\hi-lo+x<=n/\(∀ i,i<lo->P i)/\(∀ i,hi<=i->i<n->¬ P i)/\st2=st') (Q:=λ c st2=>∃ lo hi,c=(none,lo,hi)/\lo=hi/\hi<=n/\(∀ i,i<lo->P i)/\(∀ i,hi<=i->i<n->¬ P i)/\st2=st') ?_ ?_ ⟨_,_,rfl,⋯,⋯,⋯,λ i hi=>mono i _ ⋯ l2 pl,λ i hi hi2=>?_,rfl⟩) ?_)
   ·rintro x c st2 _ _ ⟨lo,hi,rfl,h0,h1,h2,p1,p2,rfl⟩
    dsimp only;by_cases g:lo ≥ hi
    ·rw[if_pos g];exact AA ⟨lo,hi,rfl,⋯,h1,p1,p2,rfl⟩
    ·rw[if_neg g]
     refine Ay (ask ⋯ λ c c1 c2=>?_);cases c with
     | true=>exact AA ⟨_,hi,rfl,⋯,h1,⋯,λ i hi=>mono i _ ⋯ ⋯ (c1 rfl),p2,rfl⟩
     | false=>exact AA ⟨lo,_,rfl,⋯,⋯,⋯,p1,λ i hi hi2 z=>c2 rfl (mono _ i hi hi2 z),rfl⟩
   ·rintro c st2 ⟨lo,hi,rfl,h0,h1,h2,p1,p2,rfl⟩
    exact⟨lo,hi,rfl,⋯,h1,p1,p2,rfl⟩
   ·rcases po with po|po
    ·omega
    ·intro z
     by_cases g:o ≥ n-t
     ·omega
     ·exact po (mono _ i ⋯ hi2 z)
   ·rintro c st2 ⟨lo,hi,rfl,h0,h1,p1,p2,rfl⟩
    exact AA (fin hi h1 (by rw[<- h0];exact p1) p2)
 | false=>
  have pt:=c2 rfl;dsimp only;rw[if_neg (by decide)];refine Ay (AZ (AQ (I:=λ x c st'=>∃ l o,c=(none,l,o)/\l<o/\x+1<=o/\l<=t/\¬ P (t-l)/\st'=st) (Q:=λ c st'=>∃ l o,c=(none,l,o)/\l<o/\l<=t/\¬ P (t-l)/\(t+1<=o\/P (t-o))/\st'=st) ?_ ?_ ⟨0,1,rfl,⋯,wu _,⋯,pt,rfl⟩) ?_)
  ·rintro x c st' _ _ ⟨l,o,rfl,l1,o1,l2,pl,rfl⟩
   dsimp only;by_cases g:o ≥ t+1
   ·rw[if_pos g];exact AA ⟨l,o,rfl,l1,l2,pl,.inl g,rfl⟩
   ·rw[if_neg g]
    refine Ay (ask ⋯ λ c c1 c2=>?_);cases c with
    | true=>exact AA ⟨l,o,rfl,l1,l2,pl,.inr (c1 rfl),rfl⟩
    | false=>exact AA ⟨o,2*o+1,rfl,⋯,⋯,⋯,c2 rfl,rfl⟩
  ·rintro c st' ⟨l,o,rfl,l1,o1,l2,pl,rfl⟩
   exact⟨l,o,rfl,l1,l2,pl,.inl ⋯,rfl⟩
  ·rintro c st' ⟨l,o,rfl,l1,l2,pl,po,rfl⟩
   dsimp only;refine Ay (AZ (AQ (I:=λ x c st2=>∃ lo hi,c=(none,lo,hi)/\lo<=hi/\hi<=n/\hi-lo+x<=n/\(∀ i,i<lo->P i)/\(∀ i,hi<=i->i<n->¬ P i)/\st2=st') (Q:=λ c st2=>∃ lo hi,c=(none,lo,hi)/\lo=hi/\hi<=n/\(∀ i,i<lo->P i)/\(∀ i,hi<=i->i<n->¬ P i)/\st2=st') ?_ ?_ ⟨_,_,rfl,⋯,⋯,⋯,λ i hi=>?_,λ i hi hi2 z=>pl (mono _ i hi hi2 z),rfl⟩) ?_)
   ·rintro x c st2 _ _ ⟨lo,hi,rfl,h0,h1,h2,p1,p2,rfl⟩
    dsimp only;by_cases g:lo ≥ hi
    ·rw[if_pos g];exact AA ⟨lo,hi,rfl,⋯,h1,p1,p2,rfl⟩
    ·rw[if_neg g]
     refine Ay (ask ⋯ λ c c1 c2=>?_);cases c with
     | true=>exact AA ⟨_,hi,rfl,⋯,h1,⋯,λ i hi=>mono i _ ⋯ ⋯ (c1 rfl),p2,rfl⟩
     | false=>exact AA ⟨lo,_,rfl,⋯,⋯,⋯,p1,λ i hi hi2 z=>c2 rfl (mono _ i hi hi2 z),rfl⟩
   ·rintro c st2 ⟨lo,hi,rfl,h0,h1,h2,p1,p2,rfl⟩
    exact⟨lo,hi,rfl,⋯,h1,p1,p2,rfl⟩
   ·rcases po with po|po
    ·omega
    ·by_cases g:o ≥ t+1
     ·omega
     ·exact mono i _ ⋯ ⋯ po
   ·rintro c st2 ⟨lo,hi,rfl,h0,h1,p1,p2,rfl⟩
    exact AA (fin hi h1 (by rw[<- h0];exact p1) p2)
structure Mv (ky:Keyed->Int)(L o as bs:List Keyed):Prop where
 perm:(o++(as++bs)).Perm L
 so:o.Pairwise λ x y=>ky x<=ky y
 sa:as.Pairwise λ x y=>ky x<=ky y
 sb:bs.Pairwise λ x y=>ky x<=ky y
 oa:∀ x∈o,∀ y∈as,ky x<=ky y
 ob:∀ x∈o,∀ y∈bs,ky x<=ky y
theorem Mv.flip {L o as bs:List Keyed}(m:Mv ky L o as bs):Mv ky L o bs as:=
 ⟨(List.Perm.append_left o List.perm_append_comm).trans m.perm,m.so,m.sb,m.sa,m.ob,m.oa⟩
theorem Mv.take {L o as bs c:List Keyed}(m:Mv ky L o (c++as) bs)(h:∀ x∈c,∀ y∈bs,ky x<=ky y):Mv ky L (o++c) as bs:=by
 have s:=List.pairwise_append.mp m.sa;refine⟨?_,List.pairwise_append.mpr ⟨m.so,s.1,λ x hx y hy=>m.oa x hx y (w5 _ hy)⟩,s.2.1,m.sb,λ x hx y hy=>?_,λ x hx y hy=>?_⟩
 ·have:=m.perm
  simpa only[wR] using this
 ·rcases List.mem_append.mp hx with hx|hx
  ·exact m.oa x hx y (wC _ hy)
  ·exact s.2.2 x hx y hy
 ·rcases List.mem_append.mp hx with hx|hx
  ·exact m.ob x hx y hy
  ·exact h x hx y hy
def Rt (ky:Keyed->Int)(L r:List Keyed):Prop:=r.Perm L/\r.Pairwise λ x y=>ky x<=ky y
theorem Mv.fin {L o as bs:List Keyed}(m:Mv ky L o as bs)(h:∀ x∈as,∀ y∈bs,ky x<=ky y):Rt ky L (o++as++bs):=by
 refine⟨by rw[wR];exact m.perm,?_⟩;rw[wR];refine List.pairwise_append.mpr ⟨m.so,List.pairwise_append.mpr ⟨m.sa,m.sb,h⟩,λ x hx y hy=>?_⟩
 rcases List.mem_append.mp hy with hy|hy
 ·exact m.oa x hx y hy
 ·exact m.ob x hx y hy
theorem dM (a:Array Keyed)(i k:Nat)(h:i+k<=a.size):a.toList.drop i=(a.extract i (i+k)).toList++a.toList.drop (i+k):=by
 rw[Bh,xF,Nat.add_sub_cancel_left,<- List.drop_drop];exact(wZ _ _).symm
theorem drop_one (a:Array Keyed)(i:Nat)(h:i<a.size):a.toList.drop i=[a[i]]++a.toList.drop (i+1):=by
 rw[xi (by rw[AD];exact h),A8];rfl
theorem dU (a:Array Keyed)(i:Nat):(a.extract i a.size).toList=a.toList.drop i:=by
 rw[Bh,xF,wW];rw[yr,AD];omega
theorem bH {a:Array Keyed}{i:Nat}{y:Keyed}(h:y∈a.toList.drop i):∃ j,∃ hj:j<a.size,i<=j/\y=a[j]:=by
 obtain⟨k,hk,e⟩:=wQ h;rw[yr,AD] at hk;exact⟨i+k,⋯,⋯,by rw[<- e,zG,A8]⟩
theorem c8 {a:Array Keyed}{i k:Nat}{y:Keyed}(h:y∈(a.extract i k).toList):∃ j,∃ hj:j<a.size,i<=j/\j<k/\y=a[j]:=by
 obtain⟨q,hq,e⟩:=wQ h;rw[AD,Cf] at hq;refine⟨i+q,⋯,⋯,⋯,?_⟩;rw[<- e,A8,AS]
def Ao (ky:Keyed->Int)(a:Array Keyed):Prop:=∀ i j (hi:i<a.size) (hj:j<a.size),i<=j->ky a[i]<=ky a[j]
theorem Ao.up {a:Array Keyed}(h:Ao ky a){i n:Nat}(hn:i+n<=a.size):Up ky a i (i+n):=λ x y h1 h2 h3=>by
 rw[aS (show x<a.size by omega),aS (show y<a.size by omega)];exact h x y _ _ h2
theorem Ao.pw {a:Array Keyed}(h:Ao ky a):a.toList.Pairwise λ x y=>ky x<=ky y:=by
 rw[yf];intro i j hi hj hij;rw[A8,A8];exact h i j _ _ ⋯
structure Im (ky:Keyed->Int)(L:List Keyed)(a b o:Array Keyed)(i j:Nat):Prop where
 mv:Mv ky L o.toList (a.toList.drop i) (b.toList.drop j)
 ia:i+1<a.size
 jb:j<b.size
abbrev GSt:=Option (Array Keyed)×Array Keyed×Nat×Nat×Nat×Nat×Nat
def lo3 (a b o:Array Keyed)(i j mg ac bc:Nat):StateT SortSt Sem (ForInStep GSt):=do
 let x <- elem' a i
 if (i+1+1 == a.size)=true then pure (.done (some (o.push x++b.extract j b.size++a.extract (i+1) a.size),o.push x,i+1,j,mg,ac,bc))
 else if (decide (ac<7)&&decide (bc<7))=true then pure (.done (none,o.push x,i+1,j,mg,ac,bc)) else pure (.yield (none,o.push x,i+1,j,mg,ac,bc))
def lo2 (a b o:Array Keyed)(i j mg ac bc:Nat):StateT SortSt Sem (ForInStep GSt):=do
 let x <- elem' b j
 if (j+1 == b.size)=true then pure (.done (some (o.push x++a.extract i a.size++b.extract (j+1) b.size),o.push x,i,j+1,mg,ac,bc)) else do
  let y <- elem' a i
  let g <- gallop' true y b (j+1) (b.size-(j+1)) 0
  match g with
  | some k=>
   if k > 0 then
    if (j+1+k == b.size)=true then pure (.done (some (o.push x++b.extract (j+1) (j+1+k)++a.extract i a.size++b.extract (j+1+k) b.size),o.push x++b.extract (j+1) (j+1+k),i,j+1+k,mg,ac,k))
    else lo3 a b (o.push x++b.extract (j+1) (j+1+k)) i (j+1+k) mg ac k
   else lo3 a b (o.push x) i (j+1) mg ac k
  | _=>pure (.done (some (o.push x++a.extract i a.size++b.extract (j+1) b.size),o.push x,i,j+1,mg,ac,bc))
def lo1 (a b o:Array Keyed)(i j mg ac bc:Nat):StateT SortSt Sem (ForInStep GSt):=do
 bF mg
 let x <- elem' b j
 let g <- gallop' false x a i (a.size-i) 0
 match g with
 | some k=>
  if k > 0 then
   if (i+k+1 == a.size)=true then pure (.done (some (o++a.extract i (i+k)++b.extract j b.size++a.extract (i+k) a.size),o++a.extract i (i+k),i+k,j,mg,k,bc))
   else if (i+k == a.size)=true then pure (.done (some (o++a.extract i (i+k)++a.extract (i+k) a.size++b.extract j b.size),o++a.extract i (i+k),i+k,j,mg,k,bc))
   else lo2 a b (o++a.extract i (i+k)) (i+k) j mg k bc
  else lo2 a b o i j mg k bc
 | _=>pure (.done (some (o++a.extract i a.size++b.extract j b.size),o,i,j,mg,ac,bc))
abbrev ISt:=Option (Array Keyed)×Array Keyed×Nat×Nat×Nat×Nat
def loA (a b o:Array Keyed)(i j ac bc mg:Nat):StateT SortSt Sem (ForInStep ISt):=do
 let y <- elem' b j
 let x <- elem' a i
 let g <- lt' y x
 match g with
 | some bw=>
  if bw=true then do
   let z <- elem' b j
   if (j+1 == b.size)=true then pure (.done (some (o.push z++a.extract i a.size++b.extract (j+1) b.size),o.push z,i,j+1,0,bc+1))
   else if bc+1 ≥ mg then pure (.done (none,o.push z,i,j+1,0,bc+1)) else pure (.yield (none,o.push z,i,j+1,0,bc+1))
  else do
   let z <- elem' a i
   if (i+1+1 == a.size)=true then pure (.done (some (o.push z++b.extract j b.size++a.extract (i+1) a.size),o.push z,i+1,j,ac+1,0))
   else if ac+1 ≥ mg then pure (.done (none,o.push z,i+1,j,ac+1,0)) else pure (.yield (none,o.push z,i+1,j,ac+1,0))
 | _=>pure (.done (some (o++a.extract i a.size++b.extract j b.size),o,i,j,ac,bc))
abbrev OSt:=Option (Array Keyed)×Array Keyed×Nat×Nat×Nat
def loO (a b o:Array Keyed)(i j mg:Nat):StateT SortSt Sem (ForInStep OSt):=do
 let c <- forIn [0:a.size+b.size] ((none,o,i,j,0,0):ISt) λ _ c=>loA a b c.2.1 c.2.2.1 c.2.2.2.1 c.2.2.2.2.1 c.2.2.2.2.2 mg
 match c.1 with
 | some r=>pure (.done (some r,c.2.1,c.2.2.1,c.2.2.2.1,mg))
 | none=>do
  liftM (rule "list.sort.gallop")
  let d <- forIn [0:a.size+b.size] ((none,c.2.1,c.2.2.1,c.2.2.2.1,mg+1,c.2.2.2.2.1,c.2.2.2.2.2):GSt) λ _ d=>if d.2.2.2.2.1 > 1 then lo1 a b d.2.1 d.2.2.1 d.2.2.2.1 (d.2.2.2.2.1-1) d.2.2.2.2.2.1 d.2.2.2.2.2.2 else lo1 a b d.2.1 d.2.2.1 d.2.2.2.1 d.2.2.2.2.1 d.2.2.2.2.2.1 d.2.2.2.2.2.2
  match d.1 with
  | some r=>pure (.done (some r,d.2.1,d.2.2.1,d.2.2.2.1,d.2.2.2.2.1))
  | none=>do
   bF (d.2.2.2.2.1+1)
   pure (.yield (none,d.2.1,d.2.2.1,d.2.2.2.1,d.2.2.2.2.1+1))
theorem jJ (a b:Array Keyed):dO a b=(do
  liftM (rule "list.sort.merge-lo")
  let x <- elem' b 0
  if (1 == b.size)=true then pure (#[x]++a.extract 0 a.size++b.extract 1 b.size)
  else if (0+1 == a.size)=true then pure (#[x]++b.extract 1 b.size++a.extract 0 a.size)
  else do
   let g <- get
   let c <- forIn [0:a.size+b.size] ((none,#[x],0,1,gallopOf g):OSt) λ _ c=>loO a b c.2.1 c.2.2.1 c.2.2.2.1 c.2.2.2.2
   match c.1 with
   | some r=>pure r
   | none=>liftM (unsupported "internal:list.sort.merge-bound")):=by
 refine(j6 a b).trans (congrArg _ (funext λ _=>?_));dsimp only;refine congrArg _ (funext λ x=>?_);refine congrArg (ite _ _) (congrArg (ite _ _) (congrArg _ (funext λ g=>?_)));refine congr (congrArg _ (congrArg _ (funext λ _=>funext λ c=>?_))) (funext λ c=>?_)
 ·unfold loO
  refine congr (congrArg _ rfl) (funext λ c=>?_);obtain⟨r,o,i,j,ac,bc⟩:=c;cases r with
  | some r=>rfl
  | none=>
   dsimp only;refine congrArg _ (funext λ _=>?_);refine congr (congrArg _ ?_) ?_
   ·rfl
   ·funext d
    obtain⟨r,o,i,j,mg,ac,bc⟩:=d;cases r <;>rfl
 ·obtain⟨r,o,i,j,mg⟩:=c
  cases r <;>rfl
structure Ms (ky:Keyed->Int)(Gd:Keyed->Prop)(a b:Array Keyed):Prop where
 ha:Gs Gd a
 hb:Gs Gd b
 oa:Ao ky a
 ob:Ao ky b
 a1:1<=a.size
 b1:1<=b.size
 hf:ky b[0]<=ky a[0]
 hl:ky b[b.size-1]<=ky a[a.size-1]
section
variable {a b:Array Keyed}(M:Ms ky Gd a b)
include M
theorem Ms.takeB {L o:List Keyed}{i j:Nat}(hj:j<b.size)(m:Mv ky L o (a.toList.drop i) (b.toList.drop j))(hle:∀ hi:i<a.size,ky b[j]<=ky a[i]):Mv ky L (o++[b[j]]) (a.toList.drop i) (b.toList.drop (j+1)):=by
 have m':=m.flip;rw[drop_one b j hj] at m';refine(m'.take λ x hx y hy=>?_).flip;rw[xj] at hx;subst hx;obtain⟨k,hk,h1,rfl⟩:=bH hy;exact wY (hle ⋯) (M.oa i k _ hk h1)
theorem Ms.takeA {L o:List Keyed}{i j:Nat}(hi:i<a.size)(m:Mv ky L o (a.toList.drop i) (b.toList.drop j))(hle:∀ hj:j<b.size,ky a[i]<=ky b[j]):Mv ky L (o++[a[i]]) (a.toList.drop (i+1)) (b.toList.drop j):=by
 rw[drop_one a i hi] at m;refine m.take λ x hx y hy=>?_
 rw[xj] at hx;subst hx;obtain⟨k,hk,h1,rfl⟩:=bH hy;exact wY (hle ⋯) (M.ob j k _ hk h1)
theorem Ms.manyA {L o:List Keyed}{i j k:Nat}(hi:i+k<=a.size)(m:Mv ky L o (a.toList.drop i) (b.toList.drop j))(hle:∀ x (hx:x<a.size) (hj:j<b.size),i<=x->x<i+k->ky a[x]<=ky b[j]):Mv ky L (o++(a.extract i (i+k)).toList) (a.toList.drop (i+k)) (b.toList.drop j):=by
 rw[dM a i k hi] at m;refine m.take λ x hx y hy=>?_
 obtain⟨p,hp,p1,p2,rfl⟩:=c8 hx;obtain⟨q,hq,q1,rfl⟩:=bH hy;exact wY (hle p hp ⋯ p1 p2) (M.ob j q _ hq q1)
theorem Ms.manyB {L o:List Keyed}{i j k:Nat}(hi:j+k<=b.size)(m:Mv ky L o (a.toList.drop i) (b.toList.drop j))(hle:∀ x (hx:x<b.size) (hi:i<a.size),j<=x->x<j+k->ky b[x]<=ky a[i]):Mv ky L (o++(b.extract j (j+k)).toList) (a.toList.drop i) (b.toList.drop (j+k)):=by
 have m':=m.flip;rw[dM b j k hi] at m';refine(m'.take λ x hx y hy=>?_).flip;obtain⟨p,hp,p1,p2,rfl⟩:=c8 hx;obtain⟨q,hq,q1,rfl⟩:=bH hy;exact wY (hle p hp ⋯ p1 p2) (M.oa i q _ hq q1)
theorem Ms.la {L:List Keyed}{o:Array Keyed}{i j:Nat}(hi:i+1=a.size)(m:Mv ky L o.toList (a.toList.drop i) (b.toList.drop j)):Rt ky L (o++b.extract j b.size++a.extract i a.size).toList:=by
 rw[AW,AW,dU,dU];refine m.flip.fin λ x hx y hy=>?_
 obtain⟨p,hp,p1,rfl⟩:=bH hx;obtain⟨q,hq,q1,rfl⟩:=bH hy;have e:q=a.size-1:=⋯
 subst e;exact wY (M.ob p (b.size-1) hp ⋯ ⋯) M.hl
end
theorem Mv.dn {a b:Array Keyed}{L:List Keyed}{o:Array Keyed}{i j:Nat}(hj:j=b.size\/i=a.size)(m:Mv ky L o.toList (a.toList.drop i) (b.toList.drop j)):Rt ky L (o++a.extract i a.size++b.extract j b.size).toList:=by
 rw[AW,AW,dU,dU];refine m.fin λ x hx y hy=>?_
 obtain⟨p,hp,p1,rfl⟩:=bH hx;obtain⟨q,hq,q1,rfl⟩:=bH hy;omega
def LoQ (ky:Keyed->Int)(L:List Keyed)(a b:Array Keyed)(n:Nat)(st:SortSt):ForInStep GSt->SortSt->Prop:=λ r st'=>match r with
 | .done c'=>Sm st st'/\((∃ r c'',c'=(some r,c'')/\Rt ky L r.toList)\/∃ o i j mg ac bc,c'=(none,o,i,j,mg,ac,bc)/\Im ky L a b o i j/\n<=i+j)
 | .yield c'=>Sm st st'/\∃ o i j mg ac bc,c'=(none,o,i,j,mg,ac,bc)/\Im ky L a b o i j/\n<=i+j
section
variable {a b:Array Keyed}(M:Ms ky Gd a b){L:List Keyed}
include M
theorem vn {o:Array Keyed}{i j n mg ac bc:Nat}(m:Mv ky L o.toList (a.toList.drop i) (b.toList.drop j))(hi:i+1<a.size)(hj:j<b.size)(hle:ky a[i]<=ky b[j])(hn:n<=i+j){st st':SortSt}(sm:Sm st st'):wpS (model prog w) A E s (lo3 a b o i j mg ac bc) (LoQ ky L a b n st) st':=by
 unfold lo3;refine Ay (welem ⋯ ?_);have m5:Mv ky L (o.push a[i]).toList (a.toList.drop (i+1)) (b.toList.drop j):=by
  rw[A5];exact M.takeA ⋯ m λ _=>hle
 by_cases d7:(i+1+1 == a.size)=true
 ·rw[if_pos d7]
  rw[beq_iff_eq] at d7;exact AA ⟨sm,.inl ⟨_,_,rfl,M.la d7 m5⟩⟩
 rw[if_neg d7];rw[beq_iff_eq] at d7;have iv:Im ky L a b (o.push a[i]) (i+1) j:=⟨m5,⋯,hj⟩
 split
 ·exact AA ⟨sm,.inr ⟨_,_,_,_,_,_,rfl,iv,⋯⟩⟩
 ·exact AA ⟨sm,_,_,_,_,_,_,rfl,iv,⋯⟩
theorem vd (hc:Cmk prog w A s κ Gd ky){o:Array Keyed}{i j n mg ac bc:Nat}(m:Mv ky L o.toList (a.toList.drop i) (b.toList.drop j))(hi:i+1<a.size)(hj:j<b.size)(hle:ky b[j]<=ky a[i])(hn:n<=i+j){st st':SortSt}(hs:kindOf st'=κ)(sm:Sm st st'):wpS (model prog w) A E s (lo2 a b o i j mg ac bc) (LoQ ky L a b n st) st':=by
 unfold lo2;refine Ay (welem hj ?_);have e1:Mv ky L (o.push b[j]).toList (a.toList.drop i) (b.toList.drop (j+1)):=by
  rw[A5];exact M.takeB hj m λ _=>hle
 by_cases d4:(j+1 == b.size)=true
 ·rw[if_pos d4]
  rw[beq_iff_eq] at d4;exact AA ⟨sm,.inl ⟨_,_,rfl,Mv.dn (.inl d4) e1⟩⟩
 rw[if_neg d4];rw[beq_iff_eq] at d4;refine Ay (welem ⋯ ?_);refine Ay (sgallop hc (M.ha.ix _) M.hb ⋯ ⋯ (M.ob.up ⋯) hs λ k2 hk2 q1 q2=>?_);dsimp only;generalize o.push b[j]=o1 at e1 ⊢;have m4:Mv ky L (o1++b.extract (j+1) (j+1+k2)).toList (a.toList.drop i) (b.toList.drop (j+1+k2)):=by
  rw[AW];refine M.manyB ⋯ e1 λ x hx hi h1 h2=>?_
  have:=q1 (x-(j+1)) ⋯ ⋯;simp only[show j+1+(x-(j+1))=x by omega,Ans,if_true] at this;exact xc this
 have q3:∀ hj:j+1+k2<b.size,ky a[i]<=ky b[j+1+k2]:=λ hj=>by
  have:=q2 k2 hj (wu _) ⋯;simp only[Ans,if_true] at this;omega
 clear q1 q2;by_cases d5:k2 > 0
 ·rw[if_pos d5]
  by_cases d6:(j+1+k2 == b.size)=true
  ·rw[if_pos d6]
   rw[beq_iff_eq] at d6;exact AA ⟨sm,.inl ⟨_,_,rfl,Mv.dn (.inl d6) m4⟩⟩
  rw[if_neg d6];rw[beq_iff_eq] at d6;exact vn M m4 hi ⋯ (q3 ⋯) ⋯ sm
 ·rw[if_neg d5]
  have ek2:k2=0:=⋯
  subst ek2;exact vn M e1 hi ⋯ (q3 ⋯) ⋯ sm
theorem uj (hc:Cmk prog w A s κ Gd ky){o:Array Keyed}{i j n mg ac bc:Nat}(I:Im ky L a b o i j)(hn:n<=i+j){st st':SortSt}(hs:kindOf st'=κ)(sm:Sm st st'):wpS (model prog w) A E s (lo1 a b o i j mg ac bc) (LoQ ky L a b n st) st':=by
 unfold lo1;have z2:=I.ia;have z3:=I.jb;refine Ay (wgal λ st4 s4=>?_);have s5:=sm.trans s4;have hs4:kindOf st4=κ:=s4.kind.trans hs;refine Ay (welem z3 ?_);refine Ay (sgallop hc (M.hb.ix _) M.ha ⋯ ⋯ (M.oa.up ⋯) hs4 λ k hk q1 q2=>?_);dsimp only;have m3:Mv ky L (o++a.extract i (i+k)).toList (a.toList.drop (i+k)) (b.toList.drop j):=by
  rw[AW];refine M.manyA ⋯ I.mv λ x hx hj h1 h2=>?_
  have:=q1 (x-i) ⋯ ⋯;simp only[show i+(x-i)=x by omega,Ans,wg,if_false] at this;exact this
 have q3:∀ hi:i+k<a.size,ky b[j]<=ky a[i+k]:=λ hi=>by
  have:=q2 k hi (wu _) ⋯;simp only[Ans,wg,if_false] at this;omega
 clear q1 q2;by_cases d1:k > 0
 ·rw[if_pos d1]
  by_cases d2:(i+k+1 == a.size)=true
  ·rw[if_pos d2]
   rw[beq_iff_eq] at d2;exact AA ⟨s5,.inl ⟨_,_,rfl,M.la d2 m3⟩⟩
  rw[if_neg d2];rw[beq_iff_eq] at d2;by_cases d3:(i+k == a.size)=true
  ·rw[if_pos d3]
   rw[beq_iff_eq] at d3;exact AA ⟨s5,.inl ⟨_,_,rfl,Mv.dn (.inr d3) m3⟩⟩
  rw[if_neg d3];rw[beq_iff_eq] at d3;exact vd M hc m3 ⋯ z3 (q3 ⋯) ⋯ hs4 s5
 ·rw[if_neg d1]
  have ek:k=0:=⋯
  subst ek;exact vd M hc I.mv z2 z3 (q3 ⋯) ⋯ hs4 s5
theorem vK (hc:Cmk prog w A s κ Gd ky){o:Array Keyed}{i j n mg ac bc:Nat}(I:Im ky L a b o i j)(hn:n<=i+j){st:SortSt}(hs:kindOf st=κ){Q:ForInStep ISt->SortSt->Prop}
  (h1:∀ r c,Rt ky L r.toList->Q (.done (some r,c)) st) (h2:∀ o i j ac bc,Im ky L a b o i j->n+1<=i+j->Q (.done (none,o,i,j,ac,bc)) st/\Q (.yield (none,o,i,j,ac,bc)) st):wpS (model prog w) A E s (loA a b o i j ac bc mg) Q st:=by
 unfold loA;have z2:=I.ia;have z3:=I.jb;refine Ay (welem z3 (Ay (welem ⋯ (Ay (slt hc (M.hb.ix _) (M.ha.ix _) hs ?_)))));by_cases bw:ky b[j]<ky a[i]
 ·simp only[bw,decide_true,if_true]
  refine Ay (welem z3 ?_);have m2:Mv ky L (o.push b[j]).toList (a.toList.drop i) (b.toList.drop (j+1)):=by
   rw[A5];exact M.takeB z3 I.mv λ _=>xc bw
  by_cases d1:(j+1 == b.size)=true
  ·rw[if_pos d1]
   rw[beq_iff_eq] at d1;exact AA (h1 _ _ (Mv.dn (.inl d1) m2))
  ·rw[if_neg d1]
   rw[beq_iff_eq] at d1;have q:=h2 _ i (j+1) 0 (bc+1) ⟨m2,z2,⋯⟩ ⋯
   split
   ·exact AA q.1
   ·exact AA q.2
 ·simp only[bw,decide_false,wg,if_false]
  refine Ay (welem ⋯ ?_);have m2:Mv ky L (o.push a[i]).toList (a.toList.drop (i+1)) (b.toList.drop j):=by
   rw[A5];exact M.takeA ⋯ I.mv λ _=>Int.not_lt.mp bw
  by_cases d1:(i+1+1 == a.size)=true
  ·rw[if_pos d1]
   rw[beq_iff_eq] at d1;exact AA (h1 _ _ (M.la d1 m2))
  ·rw[if_neg d1]
   rw[beq_iff_eq] at d1;have q:=h2 _ (i+1) j (ac+1) 0 ⟨m2,⋯,z3⟩ ⋯
   split
   ·exact AA q.1
   ·exact AA q.2
theorem vZ (hc:Cmk prog w A s κ Gd ky){o:Array Keyed}{i j n mg:Nat}(I:Im ky L a b o i j)(hn:n+1<=i+j){st st':SortSt}(hs:kindOf st=κ)(sm:Sm st st'){Q:ForInStep OSt->SortSt->Prop}
  (h1:∀ st' r c,Sm st st'->Rt ky L r.toList->Q (.done (some r,c)) st') (h2:∀ st' o i j mg,Sm st st'->Im ky L a b o i j->n+2<=i+j->Q (.yield (none,o,i,j,mg)) st'):wpS (model prog w) A E s (loO a b o i j mg) Q st':=by
 unfold loO;have hs':kindOf st'=κ:=sm.kind.trans hs;have a1:=M.a1;refine Ay (AZ (AQ (I:=λ y c st1=>st1=st'/\∃ o i j ac bc,c=(none,o,i,j,ac,bc)/\Im ky L a b o i j/\n+1+min y 1<=i+j) (Q:=λ c st1=>st1=st'/\((∃ r c',c=(some r,c')/\Rt ky L r.toList)\/∃ o i j ac bc,c=(none,o,i,j,ac,bc)/\Im ky L a b o i j/\n+2<=i+j)) ?_ ?_ ⟨rfl,_,_,_,_,_,rfl,I,⋯⟩) ?_)
 ·rintro y c st2 _ hy ⟨rfl,o,i,j,ac,bc,rfl,I2,p2⟩
  exact vK M hc I2 p2 hs' (λ r c hr=>⟨rfl,.inl ⟨r,c,rfl,hr⟩⟩) λ o i j ac bc I3 p3=>⟨⟨rfl,.inr ⟨o,i,j,ac,bc,rfl,I3,⋯⟩⟩,rfl,o,i,j,ac,bc,rfl,I3,⋯⟩
 ·rintro c st2 ⟨rfl,o,i,j,ac,bc,rfl,I2,p2⟩
  exact⟨rfl,.inr ⟨_,_,_,_,_,rfl,I2,⋯⟩⟩
 ·rintro c st2 ⟨rfl,⟨r,c',rfl,hr⟩|⟨o,i,j,ac,bc,rfl,I2,p2⟩⟩
  ·exact AA (h1 _ r _ sm hr)
  refine Ay (B9 (Bz ⟨rfl,?_⟩));refine Ay (AZ (AQ (I:=λ y c st'=>Sm st st'/\∃ o i j mg ac bc,c=(none,o,i,j,mg,ac,bc)/\Im ky L a b o i j/\n+2<=i+j) (Q:=λ c st'=>Sm st st'/\((∃ r c',c=(some r,c')/\Rt ky L r.toList)\/∃ o i j mg ac bc,c=(none,o,i,j,mg,ac,bc)/\Im ky L a b o i j/\n+2<=i+j)) ?_ ?_ ⟨sm,_,_,_,_,_,_,rfl,I2,p2⟩) ?_)
  ·rintro y c st3 _ hy ⟨s3,o,i,j,mg,ac,bc,rfl,I3,p3⟩
   refine AZ (Q:=LoQ ky L a b (n+2) st) ?_ λ r st' q=>by cases r <;>exact q
   show wpS (model prog w) A E s (if mg > 1 then lo1 a b o i j (mg-1) ac bc else lo1 a b o i j mg ac bc) _ st3
   by_cases d0:mg > 1
   ·rw[if_pos d0];exact uj M hc I3 p3 (s3.kind.trans hs) s3
   ·rw[if_neg d0];exact uj M hc I3 p3 (s3.kind.trans hs) s3
  ·rintro c st3 ⟨s3,o,i,j,mg,ac,bc,rfl,I3,p3⟩
   exact⟨s3,.inr ⟨_,_,_,_,_,_,rfl,I3,p3⟩⟩
  ·rintro c st3 ⟨s3,⟨r,c',rfl,hr⟩|⟨o,i,j,mg,ac,bc,rfl,I3,p3⟩⟩
   ·exact AA (h1 _ r _ s3 hr)
   refine Ay (wgal λ st4 s4=>?_);exact AA (h2 _ _ _ _ _ (s3.trans s4) I3 p3)
end
theorem slo (hc:Cmk prog w A s κ Gd ky){a b:Array Keyed}(M:Ms ky Gd a b){st:SortSt}(hs:kindOf st=κ){Q:Array Keyed->SortSt->Prop}(h:∀ r st',Rt ky (a.toList++b.toList) r.toList->Sm st st'->Q r st'):wpS (model prog w) A E s (dO a b) Q st:=by
 rw[jJ];have a1:=M.a1;have b1:=M.b1;refine Ay (B9 (Bz ⟨rfl,?_⟩));refine Ay (welem ⋯ ?_);have m00:Mv ky (a.toList++b.toList) [] (a.toList.drop 0) (b.toList.drop 0):=⟨List.Perm.refl _,.nil,M.oa.pw,M.ob.pw,(λ x hx=>by cases hx),(λ x hx=>by cases hx)⟩;have g0:Mv ky (a.toList++b.toList) (#[b[0]]:Array Keyed).toList (a.toList.drop 0) (b.toList.drop 1):=M.takeB ⋯ m00 λ _=>M.hf
 clear m00;generalize a.toList++b.toList=L at g0 h;by_cases c1:(1 == b.size)=true
 ·rw[if_pos c1]
  rw[beq_iff_eq] at c1;exact AA (h _ _ (Mv.dn (.inl c1) g0) (.refl _))
 rw[if_neg c1];by_cases c2:(0+1 == a.size)=true
 ·rw[if_pos c2]
  rw[beq_iff_eq] at c2;exact AA (h _ _ (M.la c2 g0) (.refl _))
 rw[if_neg c2];rw[beq_iff_eq] at c1 c2;refine Ay (wpS_get ?_);refine Ay (AZ (AQ (I:=λ x c st'=>Sm st st'/\∃ o i j mg,c=(none,o,i,j,mg)/\Im ky L a b o i j/\x+1<=i+j) (Q:=λ c st'=>Sm st st'/\∃ r c',c=(some r,c')/\Rt ky L r.toList) ?_ ?_ ⟨.refl _,_,_,_,_,rfl,⟨g0,⋯,⋯⟩,wu _⟩) ?_)
 ·rintro x c st1 _ hx ⟨s1,o,i,j,mg,rfl,I1,p1⟩
  exact vZ M hc I1 p1 hs s1 (λ st' r c s2 hr=>⟨s2,r,c,rfl,hr⟩) λ st' o i j mg s2 I2 p2=>⟨s2,o,i,j,mg,rfl,I2,p2⟩
 ·rintro c st1 ⟨s1,o,i,j,mg,rfl,I1,p1⟩
  have:=I1.ia;have:=I1.jb;omega
 ·rintro c st1 ⟨s1,r,c',rfl,hr⟩
  exact AA (h r st1 hr s1)
end
section
variable {prog:Program}{w:World}{A:Around}{E:Value->Shared->Prop}{s:Shared}{κ:SortKind}{Gd:Keyed->Prop}{ky:Keyed->Int}{a₀:Array Keyed}
theorem k7 (a:Array Keyed)(i:Nat)(h0:0<i)(h:i-1<a.size):(a.toList.take i).reverse=[a[i-1]]++(a.toList.take (i-1)).reverse:=by
 obtain⟨k,rfl⟩:∃ k,i=k+1:=⟨i-1,⋯⟩;simp only[zD] at h ⊢;rw[yq (by rw[AD];exact h),yg,A8];rfl
theorem lS (a:Array Keyed)(p i:Nat)(hp:p<=i)(hi:i<=a.size):(a.toList.take i).reverse=(a.extract p i).reverse.toList++(a.toList.take p).reverse:=by
 rw[Bi,Bh,xF,<- yg];congr 1;have e:a.toList.take i=a.toList.take (p+(i-p)):=by congr 1;omega
 rw[e,List.take_add]
theorem jA (a:Array Keyed)(i:Nat):(a.extract 0 i).toList=a.toList.take i:=by
 rw[Bh,xF,yC,zE]
theorem bX {a:Array Keyed}{i:Nat}{y:Keyed}(h:y∈(a.toList.take i).reverse):∃ j,∃ hj:j<a.size,j<i/\y=a[j]:=by
 obtain⟨k,hk,e⟩:=wQ (List.mem_reverse.mp h);rw[wX,AD] at hk;exact⟨k,⋯,⋯,by rw[<- e,zF,A8]⟩
theorem Ao.pr {a:Array Keyed}(h:Ao ky a):a.toList.reverse.Pairwise λ x y=>-ky x<=-ky y:=by
 rw[zo];exact h.pw.imp λ h=>⋯
theorem Rt.rev {L r:List Keyed}(h:Rt (λ x=>-ky x) L r.reverse):Rt ky L r:=by
 refine⟨(yR r).symm.trans h.1,?_⟩;have:=h.2;rw[zo] at this;exact this.imp λ {a b} h=>by
  have h':-ky b<=-ky a:=h;omega
abbrev HGt:=Option (Array Keyed)×Nat×Nat×Array Keyed×Nat×Nat×Nat
abbrev HIt:=Option (Array Keyed)×Nat×Nat×Array Keyed×Nat×Nat
abbrev HOt:=Option (Array Keyed)×Nat×Nat×Array Keyed×Nat
def hi3 (a b o:Array Keyed)(i j mg ac bc:Nat):StateT SortSt Sem (ForInStep HGt):=do
 let x <- elem' a (i-1)
 if (i-1 == 0)=true then pure (.done (some (a.extract 0 (i-1)++b.extract 0 j++(o.push x).reverse),i-1,j,o.push x,mg,ac,bc))
 else if (decide (ac<7)&&decide (bc<7))=true then pure (.done (none,i-1,j,o.push x,mg,ac,bc)) else pure (.yield (none,i-1,j,o.push x,mg,ac,bc))
def hi2 (a b o:Array Keyed)(i j mg ac bc:Nat):StateT SortSt Sem (ForInStep HGt):=do
 let x <- elem' b (j-1)
 if (j-1 == 1)=true then pure (.done (some (b.extract 0 (j-1)++a.extract 0 i++(o.push x).reverse),i,j-1,o.push x,mg,ac,bc)) else do
  let y <- elem' a (i-1)
  let g <- gallop' true y b 0 (j-1) (j-1-1)
  match g with
  | some p=>
   if j-1-p > 0 then
    if (p == 1)=true then pure (.done (some (b.extract 0 p++a.extract 0 i++(o.push x++(b.extract p (j-1)).reverse).reverse),i,p,o.push x++(b.extract p (j-1)).reverse,mg,ac,j-1-p))
    else if (p == 0)=true then pure (.done (some (a.extract 0 i++b.extract 0 p++(o.push x++(b.extract p (j-1)).reverse).reverse),i,p,o.push x++(b.extract p (j-1)).reverse,mg,ac,j-1-p))
    else hi3 a b (o.push x++(b.extract p (j-1)).reverse) i p mg ac (j-1-p)
   else hi3 a b (o.push x) i (j-1) mg ac (j-1-p)
  | _=>pure (.done (some (a.extract 0 i++b.extract 0 (j-1)++(o.push x).reverse),i,j-1,o.push x,mg,ac,bc))
def hi1 (a b o:Array Keyed)(i j mg ac bc:Nat):StateT SortSt Sem (ForInStep HGt):=do
 bF mg
 let x <- elem' b (j-1)
 let g <- gallop' false x a 0 i (i-1)
 match g with
 | some p=>
  if i-p > 0 then
   if (p == 0)=true then pure (.done (some (a.extract 0 p++b.extract 0 j++(o++(a.extract p i).reverse).reverse),p,j,o++(a.extract p i).reverse,mg,i-p,bc))
   else hi2 a b (o++(a.extract p i).reverse) p j mg (i-p) bc
  else hi2 a b o i j mg (i-p) bc
 | _=>pure (.done (some (a.extract 0 i++b.extract 0 j++o.reverse),i,j,o,mg,ac,bc))
def hiA (a b o:Array Keyed)(i j ac bc mg:Nat):StateT SortSt Sem (ForInStep HIt):=do
 let y <- elem' b (j-1)
 let x <- elem' a (i-1)
 let g <- lt' y x
 match g with
 | some aw=>
  if aw=true then do
   let z <- elem' a (i-1)
   if (i-1 == 0)=true then pure (.done (some (a.extract 0 (i-1)++b.extract 0 j++(o.push z).reverse),i-1,j,o.push z,ac+1,0))
   else if ac+1 ≥ mg then pure (.done (none,i-1,j,o.push z,ac+1,0)) else pure (.yield (none,i-1,j,o.push z,ac+1,0))
  else do
   let z <- elem' b (j-1)
   if (j-1 == 1)=true then pure (.done (some (b.extract 0 (j-1)++a.extract 0 i++(o.push z).reverse),i,j-1,o.push z,0,bc+1))
   else if bc+1 ≥ mg then pure (.done (none,i,j-1,o.push z,0,bc+1)) else pure (.yield (none,i,j-1,o.push z,0,bc+1))
 | _=>pure (.done (some (a.extract 0 i++b.extract 0 j++o.reverse),i,j,o,ac,bc))
def hiO (a b o:Array Keyed)(i j mg:Nat):StateT SortSt Sem (ForInStep HOt):=do
 let c <- forIn [0:a.size+b.size] ((none,i,j,o,0,0):HIt) λ _ c=>hiA a b c.2.2.2.1 c.2.1 c.2.2.1 c.2.2.2.2.1 c.2.2.2.2.2 mg
 match c.1 with
 | some r=>pure (.done (some r,c.2.1,c.2.2.1,c.2.2.2.1,mg))
 | none=>do
  liftM (rule "list.sort.gallop")
  let d <- forIn [0:a.size+b.size] ((none,c.2.1,c.2.2.1,c.2.2.2.1,mg+1,c.2.2.2.2.1,c.2.2.2.2.2):HGt) λ _ d=>if d.2.2.2.2.1 > 1 then hi1 a b d.2.2.2.1 d.2.1 d.2.2.1 (d.2.2.2.2.1-1) d.2.2.2.2.2.1 d.2.2.2.2.2.2 else hi1 a b d.2.2.2.1 d.2.1 d.2.2.1 d.2.2.2.2.1 d.2.2.2.2.2.1 d.2.2.2.2.2.2
  match d.1 with
  | some r=>pure (.done (some r,d.2.1,d.2.2.1,d.2.2.2.1,d.2.2.2.2.1))
  | none=>do
   bF (d.2.2.2.2.1+1)
   pure (.yield (none,d.2.1,d.2.2.1,d.2.2.2.1,d.2.2.2.2.1+1))
theorem jN (a b:Array Keyed):dX a b=(do
  liftM (rule "list.sort.merge-hi")
  let x <- elem' a (a.size-1)
  if (a.size-1 == 0)=true then pure (a.extract 0 (a.size-1)++b.extract 0 b.size++#[x].reverse)
  else if (b.size == 1)=true then pure (b.extract 0 b.size++a.extract 0 (a.size-1)++#[x].reverse)
  else do
   let g <- get
   let c <- forIn [0:a.size+b.size] ((none,a.size-1,b.size,#[x],gallopOf g):HOt) λ _ c=>hiO a b c.2.2.2.1 c.2.1 c.2.2.1 c.2.2.2.2
   match c.1 with
   | some r=>pure r
   | none=>liftM (unsupported "internal:list.sort.merge-bound")):=by
 refine(jG a b).trans (congrArg _ (funext λ _=>?_));dsimp only;refine congrArg _ (funext λ x=>?_);refine congrArg (ite _ _) (congrArg (ite _ _) (congrArg _ (funext λ g=>?_)));refine congr (congrArg _ (congrArg _ (funext λ _=>funext λ c=>?_))) (funext λ c=>?_)
 ·unfold hiO
  refine congr (congrArg _ rfl) (funext λ c=>?_);obtain⟨r,i,j,o,ac,bc⟩:=c;cases r with
  | some r=>rfl
  | none=>
   dsimp only;refine congrArg _ (funext λ _=>?_);refine congr (congrArg _ ?_) ?_
   ·rfl
   ·funext d
    obtain⟨r,i,j,o,mg,ac,bc⟩:=d;cases r <;>rfl
 ·obtain⟨r,i,j,o,mg⟩:=c
  cases r <;>rfl
structure Ih (ky:Keyed->Int)(L:List Keyed)(a b o:Array Keyed)(i j:Nat):Prop where
 mv:Mv (λ x=>-ky x) L o.toList (a.toList.take i).reverse (b.toList.take j).reverse
 i0:0<i
 ia:i<a.size
 j1:1<j
 jb:j<=b.size
section
variable {a b:Array Keyed}(M:Ms ky Gd a b)
include M
theorem Ms.tkB {L o:List Keyed}{i j:Nat}(h0:0<j)(hj:j-1<b.size)(hia:i<=a.size)(m:Mv (λ x=>-ky x) L o (a.toList.take i).reverse (b.toList.take j).reverse)(hle:∀ hi:i-1<a.size,0<i->ky a[i-1]<=ky b[j-1]):Mv (λ x=>-ky x) L (o++[b[j-1]]) (a.toList.take i).reverse (b.toList.take (j-1)).reverse:=by
 have m':=m.flip;rw[k7 b j h0 hj] at m';refine(m'.take λ x hx y hy=>?_).flip;rw[xj] at hx;subst hx;obtain⟨k,hk,h1,rfl⟩:=bX hy;have:=hle ⋯ ⋯;have:=M.oa k (i-1) hk ⋯ ⋯;omega
theorem Ms.tkA {L o:List Keyed}{i j:Nat}(h0:0<i)(hi:i-1<a.size)(hjb:j<=b.size)(m:Mv (λ x=>-ky x) L o (a.toList.take i).reverse (b.toList.take j).reverse)(hle:∀ hj:j-1<b.size,0<j->ky b[j-1]<=ky a[i-1]):Mv (λ x=>-ky x) L (o++[a[i-1]]) (a.toList.take (i-1)).reverse (b.toList.take j).reverse:=by
 rw[k7 a i h0 hi] at m;refine m.take λ x hx y hy=>?_
 rw[xj] at hx;subst hx;obtain⟨k,hk,h1,rfl⟩:=bX hy;have:=hle ⋯ ⋯;have:=M.ob k (j-1) hk ⋯ ⋯;omega
theorem Ms.mnA {L o:List Keyed}{i j p:Nat}(hp:p<=i)(hi:i<=a.size)(hjb:j<=b.size)(m:Mv (λ x=>-ky x) L o (a.toList.take i).reverse (b.toList.take j).reverse)(hle:∀ x (hx:x<a.size) (hj:j-1<b.size),p<=x->x<i->0<j->ky b[j-1]<=ky a[x]):Mv (λ x=>-ky x) L (o++(a.extract p i).reverse.toList) (a.toList.take p).reverse (b.toList.take j).reverse:=by
 rw[lS a p i hp hi] at m;refine m.take λ x hx y hy=>?_
 rw[Bi,zN] at hx;obtain⟨q,hq,q1,q2,rfl⟩:=c8 hx;obtain⟨k,hk,h1,rfl⟩:=bX hy;have:=hle q hq ⋯ q1 q2 ⋯;have:=M.ob k (j-1) hk ⋯ ⋯;omega
theorem Ms.mnB {L o:List Keyed}{i j p:Nat}(hp:p<=j)(hi:j<=b.size)(hia:i<=a.size)(m:Mv (λ x=>-ky x) L o (a.toList.take i).reverse (b.toList.take j).reverse)(hle:∀ x (hx:x<b.size) (hi:i-1<a.size),p<=x->x<j->0<i->ky a[i-1]<=ky b[x]):Mv (λ x=>-ky x) L (o++(b.extract p j).reverse.toList) (a.toList.take i).reverse (b.toList.take p).reverse:=by
 have m':=m.flip;rw[lS b p j hp hi] at m';refine(m'.take λ x hx y hy=>?_).flip;rw[Bi,zN] at hx;obtain⟨q,hq,q1,q2,rfl⟩:=c8 hx;obtain⟨k,hk,h1,rfl⟩:=bX hy;have:=hle q hq ⋯ q1 q2 ⋯;have:=M.oa k (i-1) hk ⋯ ⋯;omega
theorem Ms.fb {L:List Keyed}{o:Array Keyed}{i j:Nat}(hj:j=1)(m:Mv (λ x=>-ky x) L o.toList (a.toList.take i).reverse (b.toList.take j).reverse):Rt ky L (b.extract 0 j++a.extract 0 i++o.reverse).toList:=by
 have f:=m.fin λ x hx y hy=>by
  obtain⟨p,hp,p1,rfl⟩:=bX hx;obtain⟨q,hq,q1,rfl⟩:=bX hy;have e:q=0:=⋯
  subst e;have h1:=M.oa 0 p ⋯ hp ⋯;have h2:=M.hf;omega
 refine Rt.rev ?_
 simp only[AW,jA,Bi,yg,zB]
 rwa [wR] at f
end
theorem Mv.dnH {a b:Array Keyed}{L:List Keyed}{o:Array Keyed}{i j:Nat}(hj:i=0\/j=0)(m:Mv (λ x=>-ky x) L o.toList (a.toList.take i).reverse (b.toList.take j).reverse):Rt ky L (a.extract 0 i++b.extract 0 j++o.reverse).toList:=by
 have f:=m.flip.fin λ x hx y hy=>by
  obtain⟨p,hp,p1,rfl⟩:=bX hx;obtain⟨q,hq,q1,rfl⟩:=bX hy;omega
 refine Rt.rev ?_
 simp only[AW,jA,Bi,yg,zB]
 rwa [wR] at f
def HiQ (ky:Keyed->Int)(L:List Keyed)(a b:Array Keyed)(n:Nat)(st:SortSt):ForInStep HGt->SortSt->Prop:=λ r st'=>match r with
 | .done c'=>Sm st st'/\((∃ r c'',c'=(some r,c'')/\Rt ky L r.toList)\/∃ o i j mg ac bc,c'=(none,i,j,o,mg,ac,bc)/\Ih ky L a b o i j/\i+j+n<=a.size+b.size)
 | .yield c'=>Sm st st'/\∃ o i j mg ac bc,c'=(none,i,j,o,mg,ac,bc)/\Ih ky L a b o i j/\i+j+n<=a.size+b.size
section
variable {a b:Array Keyed}(M:Ms ky Gd a b){L:List Keyed}
include M
theorem ui {o:Array Keyed}{i j n mg ac bc:Nat}(m:Mv (λ x=>-ky x) L o.toList (a.toList.take i).reverse (b.toList.take j).reverse)(i0:0<i)(hi:i-1<a.size)(j1:1<j)(hj:j<=b.size)(hle:∀ hj:j-1<b.size,0<j->ky b[j-1]<=ky a[i-1])(hn:i+j+n<=a.size+b.size){st st':SortSt}(sm:Sm st st'):wpS (model prog w) A E s (hi3 a b o i j mg ac bc) (HiQ ky L a b n st) st':=by
 unfold hi3;refine Ay (welem hi ?_);have m5:Mv (λ x=>-ky x) L (o.push a[i-1]).toList (a.toList.take (i-1)).reverse (b.toList.take j).reverse:=by
  rw[A5];exact M.tkA i0 hi hj m hle
 by_cases d8:(i-1 == 0)=true
 ·rw[if_pos d8]
  rw[beq_iff_eq] at d8;exact AA ⟨sm,.inl ⟨_,_,rfl,Mv.dnH (.inl d8) m5⟩⟩
 rw[if_neg d8];rw[beq_iff_eq] at d8;have iv:Ih ky L a b (o.push a[i-1]) (i-1) j:=⟨m5,⋯,hi,j1,hj⟩
 split
 ·exact AA ⟨sm,.inr ⟨_,_,_,_,_,_,rfl,iv,⋯⟩⟩
 ·exact AA ⟨sm,_,_,_,_,_,_,rfl,iv,⋯⟩
theorem vt (hc:Cmk prog w A s κ Gd ky){o:Array Keyed}{i j n mg ac bc:Nat}(m:Mv (λ x=>-ky x) L o.toList (a.toList.take i).reverse (b.toList.take j).reverse)(i0:0<i)(hi:i<a.size)(j1:1<j)(hj:j<=b.size)(hle:∀ hi:i-1<a.size,0<i->ky a[i-1]<=ky b[j-1])(hn:i+j+n<=a.size+b.size){st st':SortSt}(hs:kindOf st'=κ)(sm:Sm st st'):wpS (model prog w) A E s (hi2 a b o i j mg ac bc) (HiQ ky L a b n st) st':=by
 unfold hi2;have zj:j-1<b.size:=⋯
 have zi:i-1<a.size:=⋯
 refine Ay (welem zj ?_);have e1:Mv (λ x=>-ky x) L (o.push b[j-1]).toList (a.toList.take i).reverse (b.toList.take (j-1)).reverse:=by
  rw[A5];exact M.tkB ⋯ zj ⋯ m hle
 by_cases d4:(j-1 == 1)=true
 ·rw[if_pos d4]
  rw[beq_iff_eq] at d4;exact AA ⟨sm,.inl ⟨_,_,rfl,M.fb d4 e1⟩⟩
 rw[if_neg d4];rw[beq_iff_eq] at d4;refine Ay (welem zi ?_);refine Ay (sgallop hc (M.ha.ix _) M.hb ⋯ ⋯ (by have:=M.ob.up (i:=0) (n:=j-1) ⋯;exact this) hs λ p2 hp2 q1 q2=>?_);dsimp only;generalize o.push b[j-1]=o1 at e1 ⊢;have m4:Mv (λ x=>-ky x) L (o1++(b.extract p2 (j-1)).reverse).toList (a.toList.take i).reverse (b.toList.take p2).reverse:=by
  rw[AW];refine M.mnB hp2 ⋯ ⋯ e1 λ x hx hi h1 h2 _=>?_
  have:=q2 x ⋯ h1 h2;simp only[xy,Ans,if_true] at this;omega
 have q3:∀ hj:p2-1<b.size,0<p2->ky b[p2-1]<=ky a[i-1]:=λ hj h0=>by
  have:=q1 (p2-1) ⋯ ⋯;simp only[xy,Ans,if_true] at this;omega
 clear q1 q2 hle m;by_cases d5:j-1-p2 > 0
 ·rw[if_pos d5]
  by_cases d6:(p2 == 1)=true
  ·rw[if_pos d6]
   rw[beq_iff_eq] at d6;exact AA ⟨sm,.inl ⟨_,_,rfl,M.fb d6 m4⟩⟩
  rw[if_neg d6];rw[beq_iff_eq] at d6;by_cases d7:(p2 == 0)=true
  ·rw[if_pos d7]
   rw[beq_iff_eq] at d7;exact AA ⟨sm,.inl ⟨_,_,rfl,Mv.dnH (.inr d7) m4⟩⟩
  rw[if_neg d7];rw[beq_iff_eq] at d7;exact ui M m4 i0 zi ⋯ ⋯ q3 ⋯ sm
 ·rw[if_neg d5]
  have ek2:p2=j-1:=⋯
  rw[ek2] at q3;exact ui M e1 i0 zi ⋯ ⋯ q3 ⋯ sm
theorem uU (hc:Cmk prog w A s κ Gd ky){o:Array Keyed}{i j n mg ac bc:Nat}(I:Ih ky L a b o i j)(hn:i+j+n<=a.size+b.size){st st':SortSt}(hs:kindOf st'=κ)(sm:Sm st st'):wpS (model prog w) A E s (hi1 a b o i j mg ac bc) (HiQ ky L a b n st) st':=by
 unfold hi1;have z2:=I.ia;have z3:=I.jb;have z5:=I.i0;have z6:=I.j1;refine Ay (wgal λ st4 s4=>?_);have s5:=sm.trans s4;have hs4:kindOf st4=κ:=s4.kind.trans hs;refine Ay (welem ⋯ ?_);refine Ay (sgallop hc (M.hb.ix _) M.ha ⋯ ⋯ (by have:=M.oa.up (i:=0) (n:=i) ⋯;exact this) hs4 λ p hp q1 q2=>?_);dsimp only;have zj:j-1<b.size:=⋯
 have m3:Mv (λ x=>-ky x) L (o++(a.extract p i).reverse).toList (a.toList.take p).reverse (b.toList.take j).reverse:=by
  rw[AW];refine M.mnA hp ⋯ z3 I.mv λ x hx hj h1 h2 _=>?_
  have:=q2 x ⋯ h1 h2;simp only[xy,Ans,wg,if_false] at this;omega
 have q3:∀ hi:p-1<a.size,0<p->ky a[p-1]<=ky b[j-1]:=λ hi h0=>by
  have:=q1 (p-1) ⋯ ⋯;simp only[xy,Ans,wg,if_false] at this;exact this
 clear q1 q2;by_cases d1:i-p > 0
 ·rw[if_pos d1]
  by_cases d2:(p == 0)=true
  ·rw[if_pos d2]
   rw[beq_iff_eq] at d2;exact AA ⟨s5,.inl ⟨_,_,rfl,Mv.dnH (.inl d2) m3⟩⟩
  rw[if_neg d2];rw[beq_iff_eq] at d2;exact vt M hc m3 ⋯ ⋯ z6 z3 q3 ⋯ hs4 s5
 ·rw[if_neg d1]
  have ek:p=i:=⋯
  rw[ek] at q3;exact vt M hc I.mv z5 z2 z6 z3 q3 hn hs4 s5
theorem vB (hc:Cmk prog w A s κ Gd ky){o:Array Keyed}{i j n mg ac bc:Nat}(I:Ih ky L a b o i j)(hn:i+j+n<=a.size+b.size){st:SortSt}(hs:kindOf st=κ){Q:ForInStep HIt->SortSt->Prop}
  (h1:∀ r c,Rt ky L r.toList->Q (.done (some r,c)) st) (h2:∀ o i j ac bc,Ih ky L a b o i j->i+j+n+1<=a.size+b.size->Q (.done (none,i,j,o,ac,bc)) st/\Q (.yield (none,i,j,o,ac,bc)) st):wpS (model prog w) A E s (hiA a b o i j ac bc mg) Q st:=by
 unfold hiA;have z2:=I.ia;have z3:=I.jb;have z5:=I.i0;have z6:=I.j1;have zi:i-1<a.size:=⋯
 have zj:j-1<b.size:=⋯
 refine Ay (welem zj (Ay (welem zi (Ay (slt hc (M.hb.ix _) (M.ha.ix _) hs ?_)))));by_cases bw:ky b[j-1]<ky a[i-1]
 ·simp only[bw,decide_true,if_true]
  refine Ay (welem zi ?_);have m2:Mv (λ x=>-ky x) L (o.push a[i-1]).toList (a.toList.take (i-1)).reverse (b.toList.take j).reverse:=by
   rw[A5];exact M.tkA z5 zi z3 I.mv λ _ _=>xc bw
  by_cases d1:(i-1 == 0)=true
  ·rw[if_pos d1]
   rw[beq_iff_eq] at d1;exact AA (h1 _ _ (Mv.dnH (.inl d1) m2))
  ·rw[if_neg d1]
   rw[beq_iff_eq] at d1;have q:=h2 _ (i-1) j (ac+1) 0 ⟨m2,⋯,zi,z6,z3⟩ ⋯
   split
   ·exact AA q.1
   ·exact AA q.2
 ·simp only[bw,decide_false,wg,if_false]
  refine Ay (welem zj ?_);have m2:Mv (λ x=>-ky x) L (o.push b[j-1]).toList (a.toList.take i).reverse (b.toList.take (j-1)).reverse:=by
   rw[A5];exact M.tkB ⋯ zj ⋯ I.mv λ _ _=>Int.not_lt.mp bw
  by_cases d1:(j-1 == 1)=true
  ·rw[if_pos d1]
   rw[beq_iff_eq] at d1;exact AA (h1 _ _ (M.fb d1 m2))
  ·rw[if_neg d1]
   rw[beq_iff_eq] at d1;have q:=h2 _ i (j-1) 0 (bc+1) ⟨m2,z5,z2,⋯,⋯⟩ ⋯
   split
   ·exact AA q.1
   ·exact AA q.2
theorem vH (hc:Cmk prog w A s κ Gd ky){o:Array Keyed}{i j n mg:Nat}(I:Ih ky L a b o i j)(hn:i+j+n+1<=a.size+b.size){st st':SortSt}(hs:kindOf st=κ)(sm:Sm st st'){Q:ForInStep HOt->SortSt->Prop}
  (h1:∀ st' r c,Sm st st'->Rt ky L r.toList->Q (.done (some r,c)) st') (h2:∀ st' o i j mg,Sm st st'->Ih ky L a b o i j->i+j+n+2<=a.size+b.size->Q (.yield (none,i,j,o,mg)) st'):wpS (model prog w) A E s (hiO a b o i j mg) Q st':=by
 unfold hiO;have hs':kindOf st'=κ:=sm.kind.trans hs;have a1:=M.a1;refine Ay (AZ (AQ (I:=λ y c st1=>st1=st'/\∃ o i j ac bc,c=(none,i,j,o,ac,bc)/\Ih ky L a b o i j/\i+j+(n+1+min y 1)<=a.size+b.size) (Q:=λ c st1=>st1=st'/\((∃ r c',c=(some r,c')/\Rt ky L r.toList)\/∃ o i j ac bc,c=(none,i,j,o,ac,bc)/\Ih ky L a b o i j/\i+j+(n+2)<=a.size+b.size)) ?_ ?_ ⟨rfl,_,_,_,_,_,rfl,I,⋯⟩) ?_)
 ·rintro y c st2 _ hy ⟨rfl,o,i,j,ac,bc,rfl,I2,p2⟩
  exact vB M hc I2 p2 hs' (λ r c hr=>⟨rfl,.inl ⟨r,c,rfl,hr⟩⟩) λ o i j ac bc I3 p3=>⟨⟨rfl,.inr ⟨o,i,j,ac,bc,rfl,I3,⋯⟩⟩,rfl,o,i,j,ac,bc,rfl,I3,⋯⟩
 ·rintro c st2 ⟨rfl,o,i,j,ac,bc,rfl,I2,p2⟩
  exact⟨rfl,.inr ⟨_,_,_,_,_,rfl,I2,⋯⟩⟩
 ·rintro c st2 ⟨rfl,⟨r,c',rfl,hr⟩|⟨o,i,j,ac,bc,rfl,I2,p2⟩⟩
  ·exact AA (h1 _ r _ sm hr)
  refine Ay (B9 (Bz ⟨rfl,?_⟩));refine Ay (AZ (AQ (I:=λ y c st'=>Sm st st'/\∃ o i j mg ac bc,c=(none,i,j,o,mg,ac,bc)/\Ih ky L a b o i j/\i+j+(n+2)<=a.size+b.size) (Q:=λ c st'=>Sm st st'/\((∃ r c',c=(some r,c')/\Rt ky L r.toList)\/∃ o i j mg ac bc,c=(none,i,j,o,mg,ac,bc)/\Ih ky L a b o i j/\i+j+(n+2)<=a.size+b.size)) ?_ ?_ ⟨sm,_,_,_,_,_,_,rfl,I2,p2⟩) ?_)
  ·rintro y c st3 _ hy ⟨s3,o,i,j,mg,ac,bc,rfl,I3,p3⟩
   refine AZ (Q:=HiQ ky L a b (n+2) st) ?_ λ r st' q=>by cases r <;>exact q
   show wpS (model prog w) A E s (if mg > 1 then hi1 a b o i j (mg-1) ac bc else hi1 a b o i j mg ac bc) _ st3
   by_cases d0:mg > 1
   ·rw[if_pos d0];exact uU M hc I3 p3 (s3.kind.trans hs) s3
   ·rw[if_neg d0];exact uU M hc I3 p3 (s3.kind.trans hs) s3
  ·rintro c st3 ⟨s3,o,i,j,mg,ac,bc,rfl,I3,p3⟩
   exact⟨s3,.inr ⟨_,_,_,_,_,_,rfl,I3,p3⟩⟩
  ·rintro c st3 ⟨s3,⟨r,c',rfl,hr⟩|⟨o,i,j,mg,ac,bc,rfl,I3,p3⟩⟩
   ·exact AA (h1 _ r _ s3 hr)
   refine Ay (wgal λ st4 s4=>?_);exact AA (h2 _ _ _ _ _ (s3.trans s4) I3 p3)
end
theorem shi (hc:Cmk prog w A s κ Gd ky){a b:Array Keyed}(M:Ms ky Gd a b){st:SortSt}(hs:kindOf st=κ){Q:Array Keyed->SortSt->Prop}(h:∀ r st',Rt ky (a.toList++b.toList) r.toList->Sm st st'->Q r st'):wpS (model prog w) A E s (dX a b) Q st:=by
 rw[jN];have a1:=M.a1;have b1:=M.b1;refine Ay (B9 (Bz ⟨rfl,?_⟩));refine Ay (welem ⋯ ?_);generalize hL:a.toList++b.toList=L at h ⊢;have m00:Mv (λ x=>-ky x) L [] (a.toList.take a.size).reverse (b.toList.take b.size).reverse:=by
  rw[wW (by simp),wW (by simp)];refine⟨?_,.nil,M.oa.pr,M.ob.pr,(λ x hx=>by cases hx),(λ x hx=>by cases hx)⟩;rw[xA,<- hL];exact List.Perm.append (yR _) (yR _)
 have g0:Mv (λ x=>-ky x) L (#[a[a.size-1]]:Array Keyed).toList (a.toList.take (a.size-1)).reverse (b.toList.take b.size).reverse:=M.tkA ⋯ ⋯ (wu _) m00 λ _ _=>M.hl
 clear m00;by_cases c1:(a.size-1 == 0)=true
 ·rw[if_pos c1]
  rw[beq_iff_eq] at c1;exact AA (h _ _ (Mv.dnH (.inl c1) g0) (.refl _))
 rw[if_neg c1];by_cases c2:(b.size == 1)=true
 ·rw[if_pos c2]
  rw[beq_iff_eq] at c2;exact AA (h _ _ (M.fb c2 g0) (.refl _))
 rw[if_neg c2];rw[beq_iff_eq] at c1 c2;refine Ay (wpS_get ?_);refine Ay (AZ (AQ (I:=λ x c st'=>Sm st st'/\∃ o i j mg,c=(none,i,j,o,mg)/\Ih ky L a b o i j/\i+j+x+1<=a.size+b.size) (Q:=λ c st'=>Sm st st'/\∃ r c',c=(some r,c')/\Rt ky L r.toList) ?_ ?_ ⟨.refl _,_,_,_,_,rfl,⟨g0,⋯,⋯,⋯,wu _⟩,⋯⟩) ?_)
 ·rintro x c st1 _ hx ⟨s1,o,i,j,mg,rfl,I1,p1⟩
  exact vH M hc I1 p1 hs s1 (λ st' r c s2 hr=>⟨s2,r,c,rfl,hr⟩) λ st' o i j mg s2 I2 p2=>⟨s2,o,i,j,mg,rfl,I2,⋯⟩
 ·rintro c st1 ⟨s1,o,i,j,mg,rfl,I1,p1⟩
  omega
 ·rintro c st1 ⟨s1,r,c',rfl,hr⟩
  exact AA (h r st1 hr s1)
end
def Sr (ky:Keyed->Int)(xs:Array Keyed)(p:Array Run):Prop:=∀ (i:Nat) (r:Run),p[i]?=some r->Up ky xs r.1 (r.1+r.2.1)
section
variable {prog:Program}{w:World}{A:Around}{E:Value->Shared->Prop}{s:Shared}{κ:SortKind}{Gd:Keyed->Prop}{ky:Keyed->Int}{a₀:Array Keyed}
theorem Pd.before {lo:Nat}{p:Array Run}(h:Pd lo p):∀ (d i:Nat) (r q:Run),p[i]?=some r->p[i+1+d]?=some q->r.1+r.2.1<=q.1
 | 0,i,r,q,hr,hq=>by have:=h.nxt i r q hr hq;omega
 | d+1,i,r,q,hr,hq=>by
  have hi:i+1<p.size:=by
   have:=(Array.getElem?_eq_some_iff.mp hq).1;omega
  have hm:p[i+1]?=some p[i+1]:=AC hi
  have e1:=h.nxt i r _ hr hm;have e2:=Pd.before h d (i+1) _ q hm (by rw[<- hq];congr 1;omega);have:=h.len _ _ hm;omega
theorem jq:∀ (l:List Keyed) (k sa:Nat) (xs:Array Keyed),sa+k+l.length<=xs.size->∀ x,((l.zipIdx k).foldl (λ a p=>a.setIfInBounds (sa+p.2) p.1) xs)[x]?=if sa+k<=x/\x<sa+k+l.length then l[x-(sa+k)]? else xs[x]?
 | [],k,sa,xs,h,x=>by rw[if_neg (by simp)];rfl
 | q::l,k,sa,xs,h,x=>by
  rw[List.zipIdx_cons,w6,jq l (k+1) sa _ (by rw[BH];simp at h;omega) x];simp only[wA] at h ⊢;by_cases c1:sa+(k+1)<=x/\x<sa+(k+1)+l.length
  ·rw[if_pos c1,if_pos ⋯,show x-(sa+k)=(x-(sa+(k+1)))+1 by omega,xJ]
  ·rw[if_neg c1,Array.getElem?_setIfInBounds]
   by_cases c2:sa+k=x
   ·rw[if_pos c2,if_pos ⋯,if_pos ⋯,show x-(sa+k)=0 by omega];rfl
   ·rw[if_neg c2,if_neg ⋯]
theorem jv (hc:Cmk prog w A s κ Gd ky)(g:Gs Gd a₀){st:SortSt}(B:Bs κ a₀ st){lo i:Nat}(hl:lo<=a₀.size)(P:Pd lo (pendingOf st))(S:Sr ky (arrOf st) (pendingOf st))(hi:i+1<(pendingOf st).size){Q:Bool->SortSt->Prop}
  (h:∀ st',Bs κ a₀ st'->Pd lo (pendingOf st')->Sr ky (arrOf st') (pendingOf st')->(pendingOf st').size+1=(pendingOf st).size->(∀ r,(pendingOf st')[0]?=some r->∃ r',(pendingOf st)[0]?=some r'/\r.1=r'.1)->(∀ x,lo<=x->(arrOf st')[x]?=(arrOf st)[x]?)->Q true st'):wpS (model prog w) A E s (mergeAt' i) Q st:=by
 rw[jE];refine Ay (wpS_get ?_);obtain⟨r,hr⟩:∃ r,(pendingOf st)[i]?=some r:=⟨_,AC ⋯⟩
 obtain⟨q,hq⟩:∃ q,(pendingOf st)[i+1]?=some q:=⟨_,AC hi⟩
 have P':=P.merge hr hq;have sz:=eW (p:=pendingOf st) (v:=(r.1,r.2.1+q.2.1,r.2.2)) hi;have mg:=cG (p:=pendingOf st) (v:=(r.1,r.2.1+q.2.1,r.2.2)) hi;have l1:=P.len i _ hr;have l2:=P.len _ _ hq;have nx:=P.nxt i _ _ hr hq;have u1:=S i _ hr;have u2:=S _ _ hq;have bl:∀ j v,j<i->(pendingOf st)[j]?=some v->v.1+v.2.1<=r.1:=λ j v hj e=>P.before (i-j-1) j v _ e (by rw[<- hr];congr 1;omega)
 have ab:∀ j v,i+1<j->(pendingOf st)[j]?=some v->q.1+q.2.1<=v.1:=λ j v hj e=>P.before (j-(i+1)-1) (i+1) _ v hq (by rw[<- e];congr 1;omega)
 obtain⟨sa,na,pw⟩:=r;obtain⟨sb,nb,pq⟩:=q;simp only at l1 l2 nx P' sz mg u1 u2 bl ab;rw[hr,hq];dsimp only;refine Ay (wset ?_);have B1:Bs κ a₀ (setPending st (((pendingOf st).setIfInBounds i (sa,na+nb,pw)).eraseIdxIfInBounds (i+1))):=⟨B.kind,B.perm,B.ok⟩;have bs:=B.size;have fin:∀ st',Bs κ a₀ st'->pendingOf st'=((pendingOf st).setIfInBounds i (sa,na+nb,pw)).eraseIdxIfInBounds (i+1)->(∀ x,x<sa\/sb+nb<=x->(arrOf st')[x]?=(arrOf st)[x]?)->Up ky (arrOf st') sa (sb+nb)->Q true st':=λ st' b' hp fr up=>by
  refine h st' b' (by rw[hp];exact P') ?_ (by rw[hp];exact sz) ?_ λ x hx=>fr x ⋯
  ·intro j v hv
   rw[hp,mg] at hv;have keep:∀ c n:Nat,(c+n<=sa\/sb+nb<=c)->Up ky (arrOf st) c (c+n)->Up ky (arrOf st') c (c+n):=λ c n hcn u x y h1 h2 h3=>by
    rw[aR (fr x ⋯),aR (fr y ⋯)];exact u x y h1 h2 h3
   split at hv
   ·rename_i c
    have:=bl j v c hv;exact keep _ _ (.inl this) (S j v hv)
   ·split at hv
    ·cases hv
     show Up ky (arrOf st') sa (sa+(na+nb))
     rw[show sa+(na+nb)=sb+nb by omega];exact up
    ·have:=ab (j+1) v ⋯ hv
     exact keep _ _ (.inr this) (S _ v hv)
  ·intro v hv
   rw[hp,mg] at hv
   split at hv
   ·exact⟨v,hv,rfl⟩
   ·split at hv
    ·rename_i c1 c2
     cases hv;exact⟨(sa,na,pw),by rw[c2];exact hr,rfl⟩
    ·omega
 refine Ay (welem ⋯ ?_);refine Ay (sgallop hc ((B.gs g).ix _) (B.gs g) ⋯ ⋯ u1 B1.kind λ k hk q1 q2=>?_);dsimp only;have hsb:sb<(arrOf st).size:=⋯
 have F1:∀ x,sa<=x->x<sa+k->Ky ky (arrOf st) x<=Ky ky (arrOf st) sb:=λ x h1 h2=>by
  have:=q1 (x-sa) ⋯ ⋯;simp only[show sa+(x-sa)=x by omega,Ans,wg,if_false] at this;rw[aS (show x<(arrOf st).size by omega),aS hsb];exact this
 have F2:∀ x,sa+k<=x->x<sb->Ky ky (arrOf st) sb<Ky ky (arrOf st) x:=λ x h1 h2=>by
  have:=q2 (x-sa) ⋯ ⋯ ⋯;simp only[show sa+(x-sa)=x by omega,Ans,wg,if_false] at this;rw[aS (show x<(arrOf st).size by omega),aS hsb];omega
 clear q1 q2;by_cases c1:(na-k == 0)=true
 ·rw[if_pos c1]
  rw[beq_iff_eq] at c1;refine AA (fin _ B1 rfl (λ _ _=>rfl) λ x y h1 h2 h3=>?_);show Ky ky (arrOf st) x<=Ky ky (arrOf st) y
  by_cases hy:y<sb
  ·exact u1 x y h1 h2 ⋯
  ·by_cases hx:x<sb
   ·exact wY (F1 x h1 ⋯) (u2 sb y (wu _) ⋯ h3)
   ·exact u2 x y ⋯ h2 h3
 rw[if_neg c1];rw[beq_iff_eq] at c1;refine Ay (welem ⋯ ?_);refine Ay (sgallop hc ((B.gs g).ix _) (B.gs g) ⋯ ⋯ u2 B1.kind λ nb2 hk2 q1 q2=>?_);dsimp only;have hsl:sb-1<(arrOf st).size:=⋯
 have F3:∀ x,sb<=x->x<sb+nb2->Ky ky (arrOf st) x<Ky ky (arrOf st) (sb-1):=λ x h1 h2=>by
  have:=q1 (x-sb) ⋯ ⋯;simp only[show sb+(x-sb)=x by omega,show sa+k+(na-k)-1=sb-1 by omega,Ans,if_true] at this;rw[aS (show x<(arrOf st).size by omega),aS hsl];exact this
 have F4:∀ x,sb+nb2<=x->x<sb+nb->Ky ky (arrOf st) (sb-1)<=Ky ky (arrOf st) x:=λ x h1 h2=>by
  have:=q2 (x-sb) ⋯ ⋯ ⋯;simp only[show sb+(x-sb)=x by omega,show sa+k+(na-k)-1=sb-1 by omega,Ans,if_true] at this;rw[aS (show x<(arrOf st).size by omega),aS hsl];omega
 clear q1 q2;by_cases c2:(nb2 == 0)=true
 ·rw[if_pos c2]
  rw[beq_iff_eq] at c2;refine AA (fin _ B1 rfl (λ _ _=>rfl) λ x y h1 h2 h3=>?_);show Ky ky (arrOf st) x<=Ky ky (arrOf st) y
  by_cases hy:y<sb
  ·exact u1 x y h1 h2 ⋯
  ·by_cases hx:x<sb
   ·exact wY (u1 x (sb-1) h1 ⋯ ⋯) (F4 y ⋯ h3)
   ·exact u2 x y ⋯ h2 h3
 rw[if_neg c2];rw[beq_iff_eq] at c2;have zx:((arrOf st).extract (sa+k) sb).size=sb-(sa+k):=by rw[Cf];omega
 have zy:((arrOf st).extract sb (sb+nb2)).size=nb2:=by rw[Cf];omega
 have ox:Ao ky ((arrOf st).extract (sa+k) sb):=λ x y hx hy hxy=>by
  rw[AS,AS];have:=u1 (sa+k+x) (sa+k+y) ⋯ ⋯ ⋯
  rwa [aS (show sa+k+x<(arrOf st).size by omega),aS (show sa+k+y<(arrOf st).size by omega)] at this
 have oy:Ao ky ((arrOf st).extract sb (sb+nb2)):=λ x y hx hy hxy=>by
  rw[AS,AS];have:=u2 (sb+x) (sb+y) ⋯ ⋯ ⋯
  rwa [aS (show sb+x<(arrOf st).size by omega),aS (show sb+y<(arrOf st).size by omega)] at this
 have x1:1<=((arrOf st).extract (sa+k) sb).size:=⋯
 have y1:1<=((arrOf st).extract sb (sb+nb2)).size:=⋯
 have hf:ky ((arrOf st).extract sb (sb+nb2))[0]<=ky ((arrOf st).extract (sa+k) sb)[0]:=by
  rw[AS,AS];have:=F2 (sa+k) (wu _) ⋯;rw[aS hsb,aS (show sa+k<(arrOf st).size by omega)] at this;simp only[Ah];omega
 have hl':ky ((arrOf st).extract sb (sb+nb2))[((arrOf st).extract sb (sb+nb2)).size-1]<=ky ((arrOf st).extract (sa+k) sb)[((arrOf st).extract (sa+k) sb).size-1]:=by
  rw[AS,AS];have:=F3 (sb+nb2-1) ⋯ ⋯;rw[aS (show sb+nb2-1<(arrOf st).size by omega),aS hsl] at this;simp only[zx,zy,show sb+(nb2-1)=sb+nb2-1 by omega,show sa+k+(sb-(sa+k)-1)=sb-1 by omega];omega
 have done:∀ (r:Array Keyed) st',Rt ky (((arrOf st).extract (sa+k) sb).toList++((arrOf st).extract sb (sb+nb2)).toList) r.toList->Sm (setPending st (((pendingOf st).setIfInBounds i (sa,na+nb,pw)).eraseIdxIfInBounds (i+1))) st'->wpS (model prog w) A E s (do
   modify λ s=>setArr s (r.toList.zipIdx.foldl (λ a (p,j)=>a.setIfInBounds (sa+k+j) p) (arrOf s))
   return (failedOf (<- get)).isNone) Q st':=λ r st' hr sm=>by
  refine Ay (BM (Ay (wpS_get ?_)));have e0:failedOf st'=none:=sm.ok.trans B.ok;have ea:arrOf st'=arrOf st:=sm.arr;show wpS _ _ _ _ (pure (failedOf st').isNone) Q _
  rw[e0];have rl:r.toList.length=sb+nb2-(sa+k):=by
   rw[hr.1.length_eq,wB,AD,AD,zx,zy];omega
  have gt:=jq r.toList 0 (sa+k) (arrOf st') (by rw[ea];omega);simp only[Ah,rl] at gt;have zn:(r.toList.zipIdx.foldl (λ a p=>a.setIfInBounds (sa+k+p.2) p.1) (arrOf st')).size=(arrOf st').size:=by
   have:∀ (l:List (Keyed×Nat)) (xs:Array Keyed),(l.foldl (λ a p=>a.setIfInBounds (sa+k+p.2) p.1) xs).size=xs.size:=by
    intro l
    induction l with
    | nil=>exact λ _=>rfl
    | cons p l ih=>exact λ xs=>by rw[w6,ih,BH]
   exact this _ _
  have tl:(r.toList.zipIdx.foldl (λ a p=>a.setIfInBounds (sa+k+p.2) p.1) (arrOf st')).toList=(arrOf st).toList.take (sa+k)++r.toList++(arrOf st).toList.drop (sb+nb2):=by
   refine yp λ x=>?_
   rw[AH,gt x,ea];have t1:((arrOf st).toList.take (sa+k)).length=sa+k:=by rw[wX,AD];omega
   have t2:((arrOf st).toList.take (sa+k)++r.toList).length=sb+nb2:=by rw[wB,t1,rl];omega
   by_cases a1:x<sa+k
   ·rw[if_neg ⋯,wG ⋯,wG ⋯,List.getElem?_take,if_pos a1,AH]
   ·by_cases a2:x<sb+nb2
    ·rw[if_pos ⋯,wG ⋯,wI ⋯,t1]
    ·rw[if_neg ⋯,wI ⋯,t2,List.getElem?_drop,AH]
     congr 1;omega
  have tl0:(arrOf st).toList=(arrOf st).toList.take (sa+k)++(((arrOf st).extract (sa+k) sb).toList++((arrOf st).extract sb (sb+nb2)).toList)++(arrOf st).toList.drop (sb+nb2):=by
   have d1:=dM (arrOf st) (sa+k) (sb-(sa+k)) ⋯;have d2:=dM (arrOf st) sb nb2 ⋯;rw[show sa+k+(sb-(sa+k))=sb by omega] at d1;rw[wR,wR,<- d2,<- d1,wZ]
  have pm:(r.toList.zipIdx.foldl (λ a p=>a.setIfInBounds (sa+k+p.2) p.1) (arrOf st')).Perm (arrOf st):=by
   rw[Array.perm_iff_toList_perm,tl];refine List.Perm.trans ?_ (List.Perm.of_eq tl0.symm)
   exact List.Perm.append (List.Perm.append_left _ hr.1) (List.Perm.refl _)
  refine AA (fin _ ⟨sm.kind.trans B.kind,pm.trans B.perm,e0⟩ sm.pend (λ x hx=>?_) λ x y h1 h2 h3=>?_)
  ·show (r.toList.zipIdx.foldl (λ a p=>a.setIfInBounds (sa+k+p.2) p.1) (arrOf st'))[x]?=_
   rw[gt x,if_neg ⋯,ea]
  ·show Ky ky (r.toList.zipIdx.foldl (λ a p=>a.setIfInBounds (sa+k+p.2) p.1) (arrOf st')) x<=Ky ky (r.toList.zipIdx.foldl (λ a p=>a.setIfInBounds (sa+k+p.2) p.1) (arrOf st')) y
   have out:∀ z,¬ (sa+k<=z/\z<sb+nb2)->Ky ky (r.toList.zipIdx.foldl (λ a p=>a.setIfInBounds (sa+k+p.2) p.1) (arrOf st')) z=Ky ky (arrOf st) z:=λ z hz=>aR (by rw[gt z,if_neg ⋯,ea])
   have inn:∀ z,sa+k<=z->z<sb+nb2->∃ hz:z-(sa+k)<r.toList.length,Ky ky (r.toList.zipIdx.foldl (λ a p=>a.setIfInBounds (sa+k+p.2) p.1) (arrOf st')) z=ky r.toList[z-(sa+k)]:=λ z h1 h2=>by
    have hz:z-(sa+k)<r.toList.length:=⋯
    refine⟨hz,?_⟩;unfold Ky;rw[gt z,if_pos ⋯,wo hz]
   have mem:∀ v∈r.toList,(∃ z,sa+k<=z/\z<sb/\ky v=Ky ky (arrOf st) z)\/(∃ z,sb<=z/\z<sb+nb2/\ky v=Ky ky (arrOf st) z):=λ v hv=>by
    rcases List.mem_append.mp (hr.1.mem_iff.mp hv) with hv|hv
    ·obtain⟨z,hz,z1,z2,rfl⟩:=c8 hv
     exact .inl ⟨z,z1,z2,(aS hz).symm⟩
    ·obtain⟨z,hz,z1,z2,rfl⟩:=c8 hv
     exact .inr ⟨z,z1,z2,(aS hz).symm⟩
   by_cases xa:x<sa+k
   ·rw[out x ⋯]
    by_cases ya:y<sa+k
    ·rw[out y ⋯];exact u1 x y h1 h2 ⋯
    ·by_cases yb:y<sb+nb2
     ·obtain⟨hz,e⟩:=inn y ⋯ yb
      rw[e]
      rcases mem _ (xH hz) with ⟨z,z1,z2,ez⟩|⟨z,z1,z2,ez⟩
      ·rw[ez];exact u1 x z h1 ⋯ ⋯
      ·rw[ez];exact wY (F1 x h1 xa) (u2 sb z (wu _) z1 ⋯)
     ·rw[out y ⋯]
      exact wY (F1 x h1 xa) (u2 sb y (wu _) ⋯ h3)
   ·by_cases xb:x<sb+nb2
    ·obtain⟨hzx,ex⟩:=inn x ⋯ xb
     rw[ex];by_cases yb:y<sb+nb2
     ·obtain⟨hz,e⟩:=inn y ⋯ yb
      rw[e];by_cases exy:x=y
      ·subst exy;exact xf _
      ·exact(List.pairwise_iff_getElem.mp hr.2) _ _ hzx hz ⋯
     ·rw[out y ⋯]
      rcases mem _ (xH hzx) with ⟨z,z1,z2,ez⟩|⟨z,z1,z2,ez⟩
      ·rw[ez];exact wY (u1 z (sb-1) ⋯ ⋯ ⋯) (F4 y ⋯ h3)
      ·rw[ez];exact u2 z y z1 ⋯ h3
    ·rw[out x ⋯,out y ⋯]
     exact u2 x y ⋯ h2 h3
 by_cases c3:na-k<=nb2
 ·rw[if_pos c3]
  exact Ay (slo hc ⟨(B.gs g).ext _ _,(B.gs g).ext _ _,ox,oy,x1,y1,hf,hl'⟩ B1.kind done)
 ·rw[if_neg c3]
  exact Ay (shi hc ⟨(B.gs g).ext _ _,(B.gs g).ext _ _,ox,oy,x1,y1,hf,hl'⟩ B1.kind done)
end
section
variable {prog:Program}{w:World}{A:Around}{E:Value->Shared->Prop}{s:Shared}{κ:SortKind}{Gd:Keyed->Prop}{ky:Keyed->Int}{a₀:Array Keyed}
def Fst (p:Array Run):Prop:=∀ r,p[0]?=some r->r.1=0
theorem Pd.size_le {lo:Nat}{p:Array Run}(h:Pd lo p):p.size<=lo:=by
 have k:∀ (i:Nat) (r:Run),p[i]?=some r->i<=r.1:=by
  intro i
  induction i with
  | zero=>exact λ _ _=>xw _
  | succ i ih=>
   intro r hr;have hi:i<p.size:=by
    have:=(Array.getElem?_eq_some_iff.mp hr).1;omega
   have e:=h.nxt i _ r (AC hi) hr;have l:=h.len i _ (AC hi);have:=ih _ (AC hi);omega
 rcases yk p.size with z|z
 ·omega
 ·have hi:p.size-1<p.size:=⋯
  have l:=h.len _ _ (AC hi);have:=k _ _ (AC hi);omega
theorem Fst.mod {p:Array Run}(h:Fst p)(j pw:Nat):Fst (p.modify j λ x=>(x.1,x.2.1,pw)):=λ r hr=>by
 rw[BV] at hr
 split at hr
 ·rw[xt] at hr
  obtain⟨r',e1,rfl⟩:=hr;exact h r' e1
 ·exact h r hr
theorem Fst.psh {lo n:Nat}{p:Array Run}(h:Fst p)(h0:p.size=0->lo=0):Fst (p.push (lo,n,0)):=λ r hr=>by
 rw[BC] at hr
 split at hr
 ·rename_i c
  cases hr;exact h0 ⋯
 ·exact h r hr
theorem Sr.mod {xs:Array Keyed}{p:Array Run}(h:Sr ky xs p)(j pw:Nat):Sr ky xs (p.modify j λ x=>(x.1,x.2.1,pw)):=λ i r hr=>by
 rw[BV] at hr
 split at hr
 ·rw[xt] at hr
  obtain⟨r',e1,rfl⟩:=hr;exact h i r' e1
 ·exact h i r hr
theorem Sr.psh {lo n:Nat}{xs:Array Keyed}{p:Array Run}(h:Sr ky xs p)(u:Up ky xs lo (lo+n)):Sr ky xs (p.push (lo,n,0)):=λ i r hr=>by
 rw[BC] at hr
 split at hr
 ·cases hr;exact u
 ·exact h i r hr
theorem Sr.fr {lo:Nat}{st st':SortSt}(h:Sr ky (arrOf st) (pendingOf st))(P:Pd lo (pendingOf st))(f:Fr lo st st'):Sr ky (arrOf st') (pendingOf st'):=λ i r hr=>by
 rw[f.pend] at hr;have l:=P.len i r hr;intro x y h1 h2 h3;rw[aR (f.arr x ⋯),aR (f.arr y ⋯)];exact h i r hr x y h1 h2 h3
theorem sruns (hc:Cmk prog w A s κ Gd ky)(g:Gs Gd a₀){st:SortSt}(B:Bs κ a₀ st)(h0:pendingOf st=#[]){Q:Unit->SortSt->Prop}(h:∀ st',Bs κ a₀ st'->Up ky (arrOf st') 0 a₀.size->Q () st'):wpS (model prog w) A E s sortRuns' Q st:=by
 rw[sortRuns'_eq];refine Ay (wpS_get ?_);dsimp only;have bs:=B.size;rw[bs];generalize hN:a₀.size=N at h ⊢;refine Ay (AZ (AQ (I:=λ x c st'=>∃ lo,c=(none,lo)/\lo<=N/\min x N<=lo/\Bs κ a₀ st'/\Pd lo (pendingOf st')/\Sr ky (arrOf st') (pendingOf st')/\Fst (pendingOf st')/\((pendingOf st').size=0->lo=0)) (Q:=λ c st'=>c=(none,N)/\Bs κ a₀ st'/\Pd N (pendingOf st')/\Sr ky (arrOf st') (pendingOf st')/\Fst (pendingOf st')/\((pendingOf st').size=0->N=0)) ?_ ?_ ⟨0,rfl,xw _,⋯,B,by rw[h0];exact⟨λ i r hr=>by simp at hr,λ i r q hr=>by simp at hr,λ r hr=>by simp at hr⟩,by rw[h0];exact λ i r hr=>by simp at hr,by rw[h0];exact λ r hr=>by simp at hr,λ _=>rfl⟩) ?_)
 ·rintro x c st1 _ hx ⟨lo,rfl,hl,hxl,B1,P1,S1,F1,Z1⟩
  dsimp only;by_cases c1:lo ≥ N
  ·rw[if_pos c1]
   have e:lo=N:=⋯
   subst e;exact AA ⟨rfl,B1,P1,S1,F1,Z1⟩
  rw[if_neg c1];refine Ay (scount hc g B1 ⋯ ⋯ λ m st2 m1 m2 B2 f2 u2=>?_);dsimp only;have mp:=gg N N 0 ⋯ (wu _);generalize minRun' N N 0=mr at *;have P2:Pd lo (pendingOf st2):=by rw[f2.pend];exact P1
  have S2:=S1.fr P1 f2;have F2:Fst (pendingOf st2):=by rw[f2.pend];exact F1
  have Z2:(pendingOf st2).size=0->lo=0:=by rw[f2.pend];exact Z1
  by_cases c2:m<mr;rw[if_pos c2];refine Ay (B9 (Bz ⟨rfl,?_⟩));refine Ay (sbin hc g B2 ⋯ ⋯ u2 λ st3 B3 f3 u3=>?_);rw[if_neg (by decide)];have P3:Pd lo (pendingOf st3):=by rw[f3.pend];exact P2
  have S3:=S2.fr P2 f3;have F3:Fst (pendingOf st3):=by rw[f3.pend];exact F2
  have Z3:(pendingOf st3).size=0->lo=0:=by rw[f3.pend];exact Z2
  have n1:1<=min (N-lo) mr:=⋯
  have n2:lo+min (N-lo) mr<=N:=⋯
  generalize min (N-lo) mr=n at n1 n2 u3 ⊢
  rotate_left
  rw[if_neg c2];have n1:=m1;have n2:lo+m<=N:=⋯
  have B3:=B2;have P3:=P2;have S3:=S2;have F3:=F2;have Z3:=Z2;have u3:=u2;generalize m=n at n1 n2 u3 ⊢;generalize st2=st3 at B3 P3 S3 F3 Z3 u3 ⊢
  all_goals
   refine Ay (wpS_get ?_)
   split
   ·rename_i s1 k1 v1 hb
    refine Ay (AZ (AQ (I:=λ y c st'=>c=(none,())/\Bs κ a₀ st'/\Pd lo (pendingOf st')/\Sr ky (arrOf st') (pendingOf st')/\Fst (pendingOf st')/\1<=(pendingOf st').size/\Up ky (arrOf st') lo (lo+n)) (Q:=λ c st'=>c=(none,())/\Bs κ a₀ st'/\Pd lo (pendingOf st')/\Sr ky (arrOf st') (pendingOf st')/\Fst (pendingOf st')/\1<=(pendingOf st').size/\Up ky (arrOf st') lo (lo+n)) ?_ (λ _ _ hh=>hh) ⟨rfl,B3,P3,S3,F3,?_,u3⟩) ?_)
    ·rintro y c st4 _ hy ⟨rfl,B4,P4,S4,F4,Z4,u4⟩
     refine Ay (wpS_get ?_)
     split
     ·rename_i o1 o2 older ho
      have hsz:1<(pendingOf st4).size:=by
       rcases yB 1 (pendingOf st4).size with q|q
       ·exact q
       ·rw[if_neg ⋯] at ho;cases ho
      split
      ·exact AA ⟨rfl,B4,P4,S4,F4,Z4,u4⟩
      ·refine Ay (jv hc g B4 ⋯ P4 S4 ⋯ λ st5 B5 P5 S5 z5 g5 a5=>?_)
       rw[if_neg (by decide)];refine AA ⟨rfl,B5,P5,S5,λ r hr=>?_,⋯,λ p q h1 h2 h3=>?_⟩
       ·obtain⟨r',e1,e2⟩:=g5 r hr
        rw[e2];exact F4 r' e1
       ·rw[aR (a5 p ⋯),aR (a5 q ⋯)]
        exact u4 p q h1 h2 h3
     ·exact AA ⟨rfl,B4,P4,S4,F4,Z4,u4⟩
    ·rcases yk (pendingOf st3).size with z|z
     ·rw[Array.size_eq_zero_iff.mp z] at hb
      cases hb
     ·exact z
    ·rintro c st4 ⟨rfl,B4,P4,S4,F4,Z4,u4⟩
     dsimp only;refine Ay (BM (Ay (BM (AA ⟨_,rfl,n2,⋯,⟨B4.kind,B4.perm,B4.ok⟩,?_,?_,?_,?_⟩))))
     ·exact(P4.pow _ _).push n1 λ _=>.inr trivial
     ·exact(S4.mod _ _).psh u4
     ·refine(F4.mod _ _).psh λ z=>?_
      have z':((pendingOf st4).modify ((pendingOf st4).size-1) λ x=>(x.1,x.2.1,power' N (2*s1+k1) (2*s1+k1+k1+n) N)).size=0:=z;rw[Ds] at z';omega
     ·intro z
      have z':(((pendingOf st4).modify ((pendingOf st4).size-1) λ x=>(x.1,x.2.1,power' N (2*s1+k1) (2*s1+k1+k1+n) N)).push (lo,n,0)).size=0:=z;rw[CL] at z';omega
   ·rename_i hb
    refine Ay (BM (AA ⟨_,rfl,n2,⋯,⟨B3.kind,B3.perm,B3.ok⟩,?_,?_,?_,?_⟩))
    ·exact P3.push n1 λ _=>.inr trivial
    ·exact S3.psh u3
    ·exact F3.psh Z3
    ·intro z
     have z':((pendingOf st3).push (lo,n,0)).size=0:=z;rw[CL] at z';omega
 ·rintro c st1 ⟨lo,rfl,hl,hxl,B1,P1,S1,F1,Z1⟩
  have e:lo=N:=⋯
  subst e;exact⟨rfl,B1,P1,S1,F1,Z1⟩
 ·rintro c st1 ⟨rfl,B1,P1,S1,F1,Z1⟩
  dsimp only;refine Ay (AZ (AQ (I:=λ y c st'=>c=(none,())/\Bs κ a₀ st'/\Pd N (pendingOf st')/\Sr ky (arrOf st') (pendingOf st')/\Fst (pendingOf st')/\((pendingOf st').size=0->N=0)/\((pendingOf st').size+y<=N\/(pendingOf st').size<=1)) (Q:=λ c st'=>c=(none,())/\Bs κ a₀ st'/\Pd N (pendingOf st')/\Sr ky (arrOf st') (pendingOf st')/\Fst (pendingOf st')/\((pendingOf st').size=0->N=0)/\(pendingOf st').size<=1) ?_ ?_ ⟨rfl,B1,P1,S1,F1,Z1,.inl (by have:=P1.size_le;omega)⟩) ?_)
  ·rintro y c st4 _ hy ⟨rfl,B4,P4,S4,F4,Z4,D4⟩
   refine Ay (wpS_get ?_);by_cases c1:(pendingOf st4).size<=1
   ·rw[if_pos c1];exact AA ⟨rfl,B4,P4,S4,F4,Z4,c1⟩
   ·rw[if_neg c1]
    refine Ay (jv hc g B4 ⋯ P4 S4 ?_ λ st5 B5 P5 S5 z5 g5 a5=>?_)
    ·(repeat' split) <;>omega
    ·rw[if_neg (by decide)]
     refine AA ⟨rfl,B5,P5,S5,λ r hr=>?_,λ z=>⋯,⋯⟩;obtain⟨r',e1,e2⟩:=g5 r hr;rw[e2];exact F4 r' e1
  ·rintro c st4 ⟨rfl,B4,P4,S4,F4,Z4,D4⟩
   exact⟨rfl,B4,P4,S4,F4,Z4,⋯⟩
  ·rintro c st4 ⟨rfl,B4,P4,S4,F4,Z4,D4⟩
   refine AA (h st4 B4 ?_)
   rcases yk (pendingOf st4).size with z|z
   ·have:=Z4 z
    intro p q h1 h2 h3;omega
   ·have hz:0<(pendingOf st4).size:=z
    have e:=AC hz;have t:=P4.top _ (by rw[show (pendingOf st4).size-1=0 by omega];exact e);have f:=F4 _ e;have u:=S4 0 _ e;rw[f] at u t;rw[xy] at u t;rw[t] at u;exact u
end
end Srt
namespace Dv
def compGoG (bn:D->Option (List D))(elt:EE)(cond:EE)(free:Env):List D->RL
 | []=>.ok [] true
 | d::r=>match bn d with
  | some es=>match cond (es.map some++free) with
   | .ok (.bl true) _=>match elt (es.map some++free) with
    | .ok x f=>match compGoG bn elt cond free r with
     | .ok xs g=>.ok (x::xs) (f&&g)
     | _=>.bad
    | _=>.bad
   | .ok (.bl false) _=>compGoG bn elt cond free r
   | _=>.bad
  | none=>.bad
def eCompG (bn:D->Option (List D))(elt cond:EE)(is:List Nat)(it:EI):EE:=λ ρ=>match it ρ with
 | .ok ds _=>if ds.length<=mx then match compGoG bn elt cond (pick ρ is) ds with
   | .ok xs f=>.ok (.lst xs) f
   | _=>.bad
  else .bad
 | .exc c=>.exc c
 | .bad=>.bad
def bn1 (d:D):Option (List D):=some [d]
theorem go1 (elt cond:EE)(free:Env):∀ l,compGoG bn1 elt cond free l=cz elt cond free l
 | []=>rfl
 | d::r=>by unfold compGoG cz;simp only[bn1,go1 elt cond free r];all_goals rfl
theorem eC1 (elt cond:EE)(is:List Nat)(it:EI):eCompG bn1 elt cond is it=eComp elt cond is it:=by funext ρ;unfold eCompG eComp;simp only[go1];all_goals rfl
end Dv
namespace Sd
open PySem PySem.Spec PyProof.Rows L2
open Dv (D R RL EE EL EI RI Sl Out SS)
section
variable {C:Ctx}{elt iter:Expr}{tg:Expr}{bn:D->Option (List D)}{T0:TG}{ts:List Str}{pos:Pos}{ifs:List Expr}{scope:Scope}{fs:List Str}{is:List Nat}{fi:EI}{fe fc:EE}
structure CompAtG (C:Ctx)(ts:List Str)(fs:List Str)(is:List Nat)(scope:Scope)(cl:List (Str×Addr))(L Da:Addr)(s2:Shared)(H1 Hv1:Hp)(fp:List Addr)(tn:Nat->Heap->Prop)(σ:St)(ds:List D)(i:Nat)(os:St)(vs:List V)(xs:List D)(f1:Bool)(Hn Hvn:Hp)(s:Shared):Prop where
 le:i<=ds.length
 ol:os.length=ts.length
 inv:Inv (bz C.X (ts++fs) scope cl L s2 H1 fp) [] (os++bO σ is) Hn s
 at_:tn i s.heap
 fpn:∀ b∈fp,Hn b=none
 obj:∃ (its:List Value) (ne:Nat),s.heap.get? Da=some { cls:=.type "list",data:=.seq its.toArray ne }/\Vals vs its
 dn:Hn Da=none
 few:vs.length<=i
 ext:Ext Hv1 H1 Hvn Hn
 rp:RpL C.X.K Hvn xs vs
 fr:f1=true->RpL [] (Hnew H1 Hn) xs vs
 nd:f1=true->rM xs->vs.Nodup
theorem m8 {cl:List (Str×Addr)}{L Da:Addr}{s2:Shared}{H1:Hp}{fp:List Addr}{σ:St}{pins:List (Addr×Obj)}{its:List Value}{ne:Nat}{vs:List V}{Hn:Hp}{s1:Shared}{os:St}{h':Heap}
  (I2:Inv C.X pins σ H1 s2) (f2:∀ b∈fp,fH C.X pins H1 b) (eD:Da=s2.heap.objs.size) (eL:L=s2.heap.objs.size+1)
  (I:Inv (bz C.X (ts++fs) scope cl L s2 H1 fp) [] (os++bO σ is) Hn s1) (obj:s1.heap.get? Da=some { cls:=.type "list",data:=.seq its.toArray ne }) (rv:Vals vs its) (dn:Hn Da=none) (few:vs.length<=sizeLine)
  (sb:∀ b,b≠L->h'.get? b=s1.heap.get? b):Inv C.X pins σ (upd Hn Da (.lst vs)) { s1 with heap:=h' }:=by
 have lt:∀ b o,s2.heap.get? b=some o->b≠Da/\b≠L:=λ b o e=>by
  have hlt:=Az e;rw[eD,eL];exact⟨wz hlt,wz (xE hlt)⟩
 have hDL:Da≠L:=by rw[eD,eL];exact wz (xW _)
 have kp:∀ b o,b≠L->s1.heap.get? b=some o->h'.get? b=some o:=λ b o hb e=>(sb b hb).trans e
 refine I2.call' (s':={ s1 with heap:=h' }) (ch:=fp) I.os ⟨λ b ob e n hb hx=>?_,λ b ob e n hb hx=>?_,λ b ob e n hx=>?_,λ b ob e hx=>?_,λ b us e=>?_,λ b ob u e=>?_,λ b ps e=>?_⟩ ?_ I.bare λ b hb=>⟨(f2 b hb).2.2.2.1,(f2 b hb).2.1,(f2 b hb).2.2.2.2.1,(f2 b hb).2.2.2.2.2⟩
 ·exact kp b ob (lt b ob e).2 (I.base.keep b ob e n hb hx)
 ·obtain⟨sl,h1⟩:=I.base.slot b ob e n hb hx
  exact⟨sl,kp b _ (lt b ob e).2 h1⟩
 ·rw[aq (lt b ob e).1];exact I.base.free b ob e n hx
 ·obtain⟨o',h1⟩:=I.base.there b ob e hx
  exact⟨o',kp b _ (lt b ob e).2 h1⟩
 ·have h1:=I.base.tups b us e
  rw[aq (au h1 dn)];exact h1
 ·have h1:=I.base.frzs b ob u e
  rw[aq (au h1 dn)];exact h1
 ·obtain⟨more,h1⟩:=I.base.tbls b ps e
  exact⟨more,by rw[aq (au h1 dn)];exact h1⟩
 ·exact gL (qE I.hok I.free kp) dn ⟨few,its,ne,rv,kp Da _ hDL obj⟩
theorem jc {bn:D->Option (List D)}{elt cond:EE}{free:Dv.Env}{d:D}{r:List D}{xs:List D}{f:Bool}(h:Dv.compGoG bn elt cond free (d::r)=.ok xs f):
  ∃ es,bn d=some es/\((∃ g x fx xs' f',cond (es.map some++free)=.ok (.bl true) g/\elt (es.map some++free)=.ok x fx/\Dv.compGoG bn elt cond free r=.ok xs' f'/\xs=x::xs'/\f=(fx&&f')) \/
  (∃ g,cond (es.map some++free)=.ok (.bl false) g/\Dv.compGoG bn elt cond free r=.ok xs f)):=by
 unfold Dv.compGoG at h;cases hb:bn d with
 | none=>simp only[hb] at h;cases h
 | some es=>
  refine⟨es,rfl,?_⟩;simp only[hb] at h;cases hc:cond (es.map some++free) with
  | bad=>simp only[hc] at h;cases h
  | exc c=>simp only[hc] at h;cases h
  | ok v g=>
   cases v with
   | bl b=>
    cases b with
    | true=>
     simp only[hc] at h;cases he:elt (es.map some++free) with
     | bad=>simp only[he] at h;cases h
     | exc c=>simp only[he] at h;cases h
     | ok x fx=>
      simp only[he] at h;cases hr:Dv.compGoG bn elt cond free r with
      | bad=>simp only[hr] at h;cases h
      | exc c=>simp only[hr] at h;cases h
      | ok xs' f'=>
       simp only[hr] at h;cases h;exact .inl ⟨g,x,fx,xs',f',rfl,rfl,rfl,rfl,rfl⟩
    | false=>simp only[hc] at h;exact .inr ⟨g,rfl,h⟩
   | _=>simp only[hc] at h;cases h
structure TgR (C:Ctx)(tg:Expr)(ts fs:List Str)(scope:Scope)(bn:D->Option (List D))(T:TG):Prop where
 hg:∀ cl L s₀ H₀ ex,PG (bz C.X (ts++fs) scope cl L s₀ H₀ ex) tg T
 ht:∀ {K:Av} {d:D} {des:List D} {Hv H:Hp} {xv:V} {os fr:St} {Q:St->Hp->Prop},bn d=some des->os.length=ts.length->Same Hv H->Rp K Hv d xv->(∀ ws,ws.length=ts.length->RpL K Hv des ws->Q (ws.map some++fr) H)->T xv (os++fr) H Q
def iA (C:Ctx)(bn:D->Option (List D))(fe fc:EE)(is:List Nat)(fi:EI)(σ:St)(H Hv:Hp)(ρ:Dv.Env)(Q:VK):Prop:=
 ∃ Kp:List D->Bool->Prop,OkI C.X.K Hv H (C.W σ) C.cls (fi ρ) (λ J H1=>∃ Hv1 ds xs fr,Ext Hv H Hv1 H1/\Wlk C.X.K J Hv1 ds/\ds.length<=Dv.mx/\Dv.compGoG bn fe fc (Dv.pick ρ is) ds=.ok xs fr/\Kp xs fr) /\
  ∀ {xs fr vs Hvn Hn},Kp xs fr->Ext Hv H Hvn Hn->RpL C.X.K Hvn xs vs->(fr=true->RpL [] (Hnew H Hn) xs vs)->(fr=true->rM xs->vs.Nodup)->∀ Da,Hn Da=none->Q (.ref Da) (upd Hn Da (.lst vs))
theorem tN {σ:St}{H Hv:Hp}{ρ:Dv.Env}{Kp:List D->Bool->Prop}(ok:Ok C.X.K Hv H (C.W σ) C.cls (Dv.eCompG bn fe fc is fi ρ) λ _ _=>True)(hk:∀ xs fr,Dv.eCompG bn fe fc is fi ρ=.ok (.lst xs) fr->Kp xs fr):OkI C.X.K Hv H (C.W σ) C.cls (fi ρ) (λ J H1=>∃ Hv1 ds xs fr,Ext Hv H Hv1 H1/\Wlk C.X.K J Hv1 ds/\ds.length<=Dv.mx/\Dv.compGoG bn fe fc (Dv.pick ρ is) ds=.ok xs fr/\Kp xs fr):=by
 unfold Dv.eCompG at ok hk;cases hf:fi ρ with
 | bad=>simp only[hf] at ok;exact ok
 | exc c=>simp only[hf] at ok;exact ok
 | ok ds g=>
  simp only[hf] at ok hk;by_cases hz:ds.length<=Dv.mx
  ·simp only[hz,if_true] at ok hk
   cases hgo:Dv.compGoG bn fe fc (Dv.pick ρ is) ds with
   | bad=>simp only[hgo] at ok;exact Zf ok
   | exc c=>simp only[hgo] at ok;exact Zf ok
   | ok xs fr=>
    simp only[hgo] at hk;exact λ J Hv1 H1 x1 wl=>⟨Hv1,ds,xs,fr,x1,wl,hz,hgo,hk xs fr rfl⟩
  ·simp only[hz,if_false] at ok
   exact Zf ok
theorem Ok.tt {K:Av}{Hv H:Hp}{W:XK}{cls:String->Value}{r:R}{Q:VK}(ok:Ok K Hv H W cls r Q):Ok K Hv H W cls r λ _ _=>True:=by
 cases r with
 | ok d f=>exact λ _ _ _ _ _ _=>trivial
 | _=>exact ok
theorem jt {σ:St}{H Hv:Hp}{ρ:Dv.Env}{Q:VK}(ok:Ok C.X.K Hv H (C.W σ) C.cls (Dv.eCompG bn fe fc is fi ρ) Q):iA C bn fe fc is fi σ H Hv ρ Q:=
 ⟨λ xs fr=>Ok C.X.K Hv H (C.W σ) C.cls (.ok (.lst xs) fr) Q,tN (Ok.tt ok) λ xs fr e=>by rw[e] at ok;exact ok,λ okE x r f _ Da dn=>Ok.newL okE x r f Da dn⟩
theorem fX {pins:List (Addr×Obj)}{s:Shared}{σ:St}{H Hv:Hp}{ρ:Dv.Env}{Q:VK}{use:Option (Value->Sem Unit)}{Q':Value->Shared->Prop}{pos':Pos}(hclm:C.X.calm=true)(S:CompNamesT C.X scope ts fs is)(hG:TgR C tg ts fs scope bn T0)(hi:SI C tg iter fi)(he:∀ cl L s₀ H₀ ex,SE (bg C (ts++fs) scope cl L s₀ H₀ ex) elt fe)(hc:∀ cl L s₀ H₀ ex,STs (bg C (ts++fs) scope cl L s₀ H₀ ex) ifs fc)
  (hs:∀ v,foldedSetIterable iter C.X.env v=pure v) (I:Inv C.X pins σ H s) (er:EnvR C.X.K Hv ρ σ) (sv:Same Hv H) (ok:iA C bn fe fc is fi σ H Hv ρ Q)
  (hfin:∀ Da L s5,lT C pins σ Q Da L s5->compPost (model C.X.prog C.X.w) C.X.A C.X.xe use Q' (.ref Da) L (.ok .next) s5):
  wpAny (model C.X.prog C.X.w) C.X.A (comprehension (.ListComp elt [⟨tg,iter,ifs,0⟩] scope pos) scope C.X.env pos' (newList []) false (eval iter C.X.env) use) Q' C.X.xe s:=by
 obtain⟨wi,pi,qi⟩:=hi;obtain⟨cl,hcl,clsub,clhas⟩:=ko (env:=C.X.env) (scope:=scope) λ y hy hf=>I.ok.has y.1 (S.free y hy hf)
 obtain⟨Kp,ok,hend⟩:=ok;have h0:=qi σ H Hv ρ _ er sv ok;refine wpAny_comprehension_free (use:=use) rfl hs hcl S.kind S.names (AI (pi pins s σ H _ I h0) (λ v s1 h1=>AI h1 (λ itv s2 h2=>?_) λ _ _ z=>z) λ _ _ z=>z);obtain⟨it,fp,tn,J,H1,rfl,I2,T,st2,f2,Hv1,ds,xs,fr,x1,wl,hz,hgo,okE⟩:=h2;clear ok;have fin:∀ b∈fp,b<s2.heap.objs.size:=λ b hb=>by
  obtain⟨o,e,_⟩:=T.obj 0 _ st2 b hb;exact Az e
 refine Bw (wpAny_newFunctionEnv S.cell (by intro y hy;simp at hy) (λ h1 hns hsb=>?_) S.kind);dsimp only at hns hsb ⊢;generalize hH2:s2.heap.push { cls:=.type "list",dict:=none,data:=.seq ([]:List Value).toArray }=G2 at hns hsb ⊢;have hL:G2.objs.size=s2.heap.objs.size+1:=by rw[<- hH2,CO]
 generalize eL:G2.objs.size=L at hns hsb ⊢;rw[eL] at hL;have old:∀ b o,s2.heap.get? b=some o->h1.get? b=some o:=λ b o e=>by
  have hlt:=Az e;exact hsb.extBut b o (by rw[hL];exact wz (xE hlt)) (AB _ (hH2▸AB _ e))
 have hacc:h1.get? s2.heap.objs.size=some { cls:=.type "list",data:=.seq ([]:List Value).toArray 0 }:=hsb.extBut _ _ (by rw[hL];exact wz (xW _)) (AB _ (hH2▸AF _ rfl));generalize eD:s2.heap.objs.size=Da at hacc hL ⊢;have hDfp:Da∉fp:=λ hb=>by
  have:=fin Da hb;rw[eD] at this;exact xB _ this
 have hDL:Da≠L:=by rw[hL];exact wz (xW _)
 have hsL:s2.heap.objs.size<=L:=by rw[hL,eD];exact yG _
 have hsD:s2.heap.objs.size<=Da:=Ad eD;obtain⟨te,pe,qe⟩:=he cl L s2 H1 fp;obtain⟨tt,pt,qt⟩:=hc cl L s2 H1 fp;have hDfs:Da∉frs C.X.stack:=λ hb=>by
  obtain⟨_,ob,hob,_⟩:=I2.stack.mem hb;have:=Az hob;rw[eD] at this;exact xB _ this
 have hcalm:(bz C.X (ts++fs) scope cl L s2 H1 fp).calm=true:=hclm;have start:CompAtG C ts fs is scope cl L Da s2 H1 Hv1 fp tn σ ds 0 (List.replicate ts.length none) [] [] true H1 Hv1 { s2 with heap:=h1,toks:=s2.toks+([]:List (Str×Value)).length }:=
  ⟨xw _,by simp,nA I2 S clsub clhas f2 fin hsL old hns,T.keep 0 _ _ st2 λ b hb o e=>old b o e,λ b hb=>(f2 b hb).1,⟨[],0,hacc,.nil⟩,I2.hok.fresh hsD,wu _,.refl x1.vh,.nil,λ _=>.nil,λ _ _=>zZ⟩
 have loop:∀ (T0:Result->Shared->Prop) (s4:Shared),(∀ s',lT C pins σ Q Da L s'->T0 (.ok .next) s')->CompAtG C ts fs is scope cl L Da s2 H1 Hv1 fp tn σ ds 0 (List.replicate ts.length none) [] [] true H1 Hv1 s4 ->
   codeAny (model C.X.prog C.X.w) C.X.A (.compLoop (.ListComp elt [⟨tg,iter,ifs,0⟩] scope pos) 0 (.ref it) (.ref Da) (compEnvC scope cl L C.X.env)) T0 s4:=by
  intro T0 s4 hT hst';refine kE (λ n s=>∃ i os vs xs1 f1 xs2 fr2 Hn Hvn,n=ds.length-i/\CompAtG C ts fs is scope cl L Da s2 H1 Hv1 fp tn σ ds i os vs xs1 f1 Hn Hvn s/\Dv.compGoG bn fe fc (Dv.pick ρ is) (ds.drop i)=.ok xs2 fr2/\xs=xs1++xs2/\fr=(f1&&fr2)) ?_ ds.length ⟨0,List.replicate ts.length none,[],[],true,xs,fr,H1,Hv1,rfl,hst',hgo,rfl,by simp⟩
  rintro n s ⟨i,os,vs,xs1,f1,xs2,fr2,Hn,Hvn,rfl,A,hg2,hxs,hfr⟩
  obtain⟨its,ne,hob,rv⟩:=A.obj;have I1:Inv (bz C.X (ts++fs) scope cl L s2 H1 fp) [(Da,{ cls:=.type "list",data:=.seq its.toArray ne })] (os++bO σ is) Hn s:=A.inv.pins_of λ p hp=>by
   have e:p=(Da,({ cls:=.type "list",data:=.seq its.toArray ne }:Obj)):=by simpa using hp
   subst e;exact⟨hob,A.dn,hDL,hDfs,λ v z=>by cases z⟩
  have hfp:∀ Hx:Hp,(∀ b∈fp,Hx b=none)->∀ b∈fp,fH (bz C.X (ts++fs) scope cl L s2 H1 fp) [(Da,{ cls:=.type "list",data:=.seq its.toArray ne })] Hx b:=λ Hx hx b hb=>by
   refine⟨hx b hb,?_,λ hf=>?_,.inl hb,λ y c e=>(f2 b hb).2.2.2.2.1 y c (clsub y c e),λ p hp=>?_⟩
   ·have:=fin b hb
    exact λ z=>by
     have z':b=L:=z;rw[z'] at this;exact absurd this (Nat.not_lt.mpr hsL)
   ·obtain⟨_,ob,hob',_⟩:=I2.stack.mem hf
    rcases List.mem_cons.mp (I2.stkSub b hf) with e|e
    ·exact(f2 b hb).2.1 e
    ·exact(f2 b hb).2.2.1 e
   ·have e:p=(Da,({ cls:=.type "list",data:=.seq its.toArray ne }:Obj)):=by simpa using (show p∈[]++[(Da,({ cls:=.type "list",data:=.seq its.toArray ne }:Obj))] from hp)
    subst e;exact λ z=>hDfp (by rw[show Da=b from z];exact hb)
  obtain⟨w1,w2⟩:=wl i Hn (A.ext.vv.trans A.ext.vh);by_cases hlt:i<ds.length
  ·have hd:ds[i]?=some ds[i]:=by simp[hlt]
   have e1:ds.drop i=ds[i]::ds.drop (i+1):=xi hlt;rw[e1] at hg2;generalize ds[i]=d at hd e1 hg2;obtain⟨go,yl⟩:=w1 d hd;refine AI (T.item (bz C.X (ts++fs) scope cl L s2 H1 fp) rfl rfl rfl hcalm i _ s _ Hn (λ _ _=>False) I1 (hfp Hn A.fpn) A.at_ go) (λ r s5 h5=>?_) λ _ _ z=>z
   obtain⟨u,rfl,h5⟩:=h5;refine AI h5 (λ _ s6 h6=>?_) λ _ _ z=>z
   obtain⟨xv,H6,I6,ru,y6,tn6,fr6⟩:=h6;obtain⟨Hv6,x6,rp6⟩:=yl xv H6 y6;obtain⟨Hvm,xm,sm⟩:=nh A.ext x6;have I6p:=I6.pinned (fp:=fp) (hfp H6 fr6) (T.obj _ _ tn6);have dn6:H6 Da=none:=(I6.pin (Da,{ cls:=.type "list",data:=.seq its.toArray ne }) (wC _ (by simp))).2.1;obtain⟨des,ed,hgo3⟩:=jc hg2;refine AI (hG.hg cl L s2 H1 fp _ s6 _ H6 xv u (λ σ' H'=>∃ ws,ws.length=ts.length/\RpL C.X.K Hv6 des ws/\σ'=ws.map some++bO σ is/\H'=H6) I6p ru (hG.ht ed A.ol x6.vh rp6 λ ws h1 h2=>⟨ws,h1,h2,rfl,rfl⟩)) (λ _ s7 h7=>?_) λ _ _ z=>z
   obtain⟨σ7,H7,I7,ws,hwl,hws,e7,e7'⟩:=h7;subst e7 e7';have er7:EnvR C.X.K Hvm (des.map some++Dv.pick ρ is) (ws.map some++bO σ is):=mG (er.same ((x1.vv.trans A.ext.vv).trans xm.vv)) ((hws.same sm));have back:∀ {s':Shared} {H':Hp} {σ':St},Inv (bz C.X (ts++fs) scope cl L s2 H1 fp) ([(Da,{ cls:=.type "list",data:=.seq its.toArray ne })]++fQ fp s6.heap) σ' H' s'->tn (i+1) s'.heap/\(∀ b∈fp,H' b=none)/\s'.heap.get? Da=some { cls:=.type "list",data:=.seq its.toArray ne }/\H' Da=none:=λ {s' H' σ'} I'=>by
    refine⟨T.keep _ _ _ tn6 λ b hb o e=>(I'.pin (b,o) (wC _ (wC _ (cy hb e)))).1,λ b hb=>?_,?_,?_⟩
    ·obtain⟨o,e,_⟩:=T.obj _ _ tn6 b hb
     exact(I'.pin (b,o) (wC _ (wC _ (cy hb e)))).2.1
    ·exact(I'.pin (Da,{ cls:=.type "list",data:=.seq its.toArray ne }) (wC _ (w5 _ (by simp)))).1
    ·exact(I'.pin (Da,{ cls:=.type "list",data:=.seq its.toArray ne }) (wC _ (w5 _ (by simp)))).2.1
   rcases hgo3 with ⟨g,xd,fx,xs',f',hcond,helt,hrest,exs,ef⟩|⟨g,hcond,hrest⟩
   ·-- the item is taken
    refine AI (pt _ s7 _ H7 (λ b H'=>b=true/\∃ Hvq,Ext Hvm H7 Hvq H') I7 (qt _ H7 Hvm (des.map some++Dv.pick ρ is) _ er7 xm.vh ?_)) (λ okb s8 h8=>?_) λ _ _ z=>z
    ·rw[hcond]
     intro v Hv' H' xx rpb _;unfold Rp at rpb;exact⟨true,rpb,rfl,Hv',xx⟩
    obtain⟨H8,I8,rfl,Hv8,x8⟩:=h8;rw[if_pos rfl];refine AI (pe _ s8 _ H8 (λ v H'=>∃ Hv',Ext Hv8 H8 Hv' H'/\Rp C.X.K Hv' xd v/\(fx=true->Rp [] (Hnew H8 H') xd v)) I8 (qe _ H8 Hv8 (des.map some++Dv.pick ρ is) _ (er7.same x8.vv) x8.vh ?_)) (λ uv s9 h9=>?_) λ _ _ z=>z
    ·show Ok C.X.K Hv8 H8 _ C.cls (fe (des.map some++Dv.pick ρ is)) _
     rw[helt];exact λ v Hv' H' xx rpb nn=>⟨Hv',xx,rpb,nn⟩
    obtain⟨v9,H9,I9,r9,Hv9,x9,rp9,n9⟩:=h9;obtain⟨tn9,fpn9,ob9,dn9⟩:=back I9;have hlen:=rv.length;refine CV Di ⟨_,ob9,rfl⟩ C7 (CY _ _) (Do Da its.toArray ne uv (by rw[wx];have:=A.few;have:=cx hz;omega)) ⟨ob9,?_⟩;refine⟨ds.length-(i+1),⋯,i+1,ws.map some,vs++[v9],xs1++[xd],f1&&fx,xs',f',H9,Hv9,rfl,⟨hlt,by simp[hwl],?_,?_,fpn9,?_,dn9,?_,?_,?_,?_,?_⟩,hrest,by rw[hxs,exs];simp,by rw[hfr,ef,Bool.and_assoc]⟩
    ·have I9':Inv (bz C.X (ts++fs) scope cl L s2 H1 fp) [] (ws.map some++bO σ is) H9 s9:=I9.pins_of λ p hp=>absurd hp (by simp)
     exact I9'.turned (it:=Da) (λ b ob hb e=>(AM _ _ (Ne.symm hb)).trans e) dn9 hDL (.inr hsD) (λ y c e z=>by
      obtain⟨w',oc,hoc,_⟩:=I2.cell y c (clsub y c e);have:=Az hoc;rw[z] at this;exact absurd this (Nat.not_lt.mpr hsD)) (λ p hp=>absurd (show p∈([]:List (Addr×Obj)) from hp) (by simp))
    ·exact T.keep _ _ _ tn9 λ b hb ob e=>(AM _ _ (λ z=>hDfp (by rw[z];exact hb))).trans e
    ·have q:=Dx ob9 (λ a=>a.push uv)
     exact⟨its++[uv],_,by simpa using q,rv.append (.cons r9 .nil)⟩
    ·rw[wB,zk];have:=A.few;omega
    ·exact A.ext.trans (xm.trans (x8.trans x9))
    ·exact(A.rp.same ((xm.vv.trans x8.vv).trans x9.vv)).append (.cons rp9 .nil)
    ·intro z
     rw[wq] at z;refine((A.fr z.1).same (Hnew.mono (.refl _) ((xm.hh.trans x8.hh).trans x9.hh))).append (.cons ((n9 z.2).same (Hnew.mono ((A.ext.hh.trans xm.hh).trans x8.hh) (.refl _))) .nil)
    ·intro z hri
     rw[wq] at z;have nd1:=A.nd z.1 λ y hy=>hri y (w5 _ hy)
     obtain⟨r9,hr9⟩:=hri xd (by simp);have q9:=n9 z.2;rw[hr9] at q9;refine List.nodup_append.mpr ⟨nd1,by simp,λ a ha b hb e=>?_⟩;rw[xj] at hb;subst hb e;unfold Rp at q9;obtain⟨p9,ws9,e9,h9a,_⟩:=q9;have h9b:H8 p9=none:=by
      rcases h9a with (h|⟨u,h⟩)|⟨_,_,e,_⟩
      ·exact cw h
      ·exact cw h
      ·simp at e
     obtain⟨j,hj,hja⟩:=wQ ha;have hrl:=A.fr z.1;have hlen2:=hrl.length;have hjx:xs1[j]?=some (xs1[j]'⋯):=by simp
     obtain⟨v',hv1,hv2⟩:=hrl.get hjx;have hv3:vs[j]?=some a:=by rw[wo hj,hja]
     rw[hv3] at hv1;cases hv1;obtain⟨rj,hrj⟩:=hri (xs1[j]'⋯) (by simp);rw[hrj,e9] at hv2;unfold Rp at hv2;obtain⟨pj,wsj,ej,hja2,_⟩:=hv2;cases ej;have hHn:Hn p9≠none:=by
      rcases hja2 with (h|⟨u,h⟩)|⟨_,_,e,_⟩
      ·have:=Hnew.sub _ _ h;rw[this];exact λ q=>nomatch q
      ·have:=Hnew.sub _ _ h;rw[this];exact λ q=>nomatch q
      ·simp at e
     cases hq:Hn p9 with
     | none=>exact hHn hq
     | some o=>
      have:=(xm.hh.trans x8.hh) _ _ hq;rw[h9b] at this;cases this
   ·-- the item is left out
    refine AI (pt _ s7 _ H7 (λ b H'=>b=false/\∃ Hvq,Ext Hvm H7 Hvq H') I7 (qt _ H7 Hvm (des.map some++Dv.pick ρ is) _ er7 xm.vh ?_)) (λ okb s8 h8=>?_) λ _ _ z=>z
    ·rw[hcond]
     intro v Hv' H' xx rpb _;unfold Rp at rpb;exact⟨false,rpb,rfl,Hv',xx⟩
    obtain⟨H8,I8,rfl,Hv8,x8⟩:=h8;rw[if_neg wU];obtain⟨tn8,fpn8,ob8,dn8⟩:=back I8;refine⟨ds.length-(i+1),⋯,i+1,ws.map some,vs,xs1,f1,xs2,fr2,H8,Hv8,rfl,⟨hlt,by simp[hwl],I8.pins_of λ p hp=>absurd hp (by simp),tn8,fpn8,⟨its,ne,ob8,rv⟩,dn8,yS A.few,A.ext.trans (xm.trans x8),A.rp.same (xm.vv.trans x8.vv),λ z=>(A.fr z).same (Hnew.mono (.refl _) (xm.hh.trans x8.hh)),A.nd⟩,hrest,hxs,hfr⟩
  ·have ei:i=ds.length:=Nat.le_antisymm A.le ⋯
   refine AI (T.done (bz C.X (ts++fs) scope cl L s2 H1 fp) rfl rfl rfl hcalm i _ s _ Hn (λ _ _=>False) I1 (hfp Hn A.fpn) A.at_ (w2 ei)) (λ r s5 h5=>?_) λ _ _ z=>z
   obtain⟨rfl,I5⟩:=h5;refine hT s5 ?_
   obtain⟨m5,hn5,_⟩:=I5.loc;rw[ei,zL] at hg2;cases hg2;rw[xn] at hxs;rw[yT] at hfr;subst hxs hfr;have ob5:=(I5.pin (Da,{ cls:=.type "list",data:=.seq its.toArray ne }) (wC _ (by simp))).1;refine⟨⟨m5,hn5⟩,λ z=>absurd I2.lt (by rw[<- z];exact Nat.not_lt.mpr hsL),λ y c e z=>?_,xp I2.sz hsL,λ p hp z=>?_,upd Hn Da (.lst vs),?_,?_,λ h' sb=>?_⟩
   ·obtain⟨w',oc,hoc,_⟩:=I2.cell y c e
    exact absurd (Az hoc) (by rw[z];exact Nat.not_lt.mpr hsL)
   ·exact absurd (Az (I2.pin p hp).1) (by rw[z];exact Nat.not_lt.mpr hsL)
   ·rw[aq (Ne.symm hDL)];exact A.inv.free
   ·exact hend okE (x1.trans A.ext) A.rp (λ z=>(A.fr z).same (Hnew.mono x1.hh (.refl _))) A.nd Da A.dn
   ·exact m8 I2 f2 eD.symm (by rw[hL,eD]) (I5.pins_of λ p hp=>absurd hp (by simp)) ob5 rv A.dn (by have:=A.few;have:=A.le;have:=cx hz;omega) sb
 refine codeAny_compStart_list (loop _ _ (λ s' h=>hfin Da L s' h) start) ?_
 exact T.self _ 0 _ _ _ start.at_ (loop _ _ (λ s' h=>hfin Da L s' h) start)
theorem nR {res:EE}(hr:∀ σ H Hv ρ Q,Ok C.X.K Hv H (C.W σ) C.cls (res ρ) Q->iA C bn fe fc is fi σ H Hv ρ Q)(S:CompNamesT C.X scope ts fs is)(hG:TgR C tg ts fs scope bn T0)(hi:SI C tg iter fi)(he:∀ cl L s₀ H₀ ex,SE (bg C (ts++fs) scope cl L s₀ H₀ ex) elt fe)(hc:∀ cl L s₀ H₀ ex,STs (bg C (ts++fs) scope cl L s₀ H₀ ex) ifs fc)
  (hs:autoParam (∀ v,foldedSetIterable iter C.X.env v=pure v) ZD._auto_1) (hclm:autoParam (C.X.calm=true) ZE._auto_1):SE C (.ListComp elt [⟨tg,iter,ifs,0⟩] scope pos) res:=by
 refine⟨λ σ H Q=>∃ Hv ρ,EnvR C.X.K Hv ρ σ/\Same Hv H/\Ok C.X.K Hv H (C.W σ) C.cls (res ρ) Q,?_,λ σ H Hv ρ Q e s q=>⟨Hv,ρ,e,s,q⟩⟩;intro pins s σ H Q I ⟨Hv,ρ,er,sv,ok⟩;rw[eval_ListComp];refine fX (use:=none) hclm S hG hi he hc hs I er sv (hr _ _ _ _ _ ok) λ Da L s5 h=>?_
 obtain⟨⟨m,hn⟩,_,_,_,_,H',hL,q,iv⟩:=h;exact⟨m,hn,λ h' sb=>⟨.ref Da,H',iv h' λ b hb=>sb.2 b hb,rfl,q⟩⟩
theorem jI {res:EE}(hr:∀ σ H Hv ρ Q,Ok C.X.K Hv H (C.W σ) C.cls (res ρ) Q->iA C bn fe fc is fi σ H Hv ρ Q){i:Nat}{y:Str}{py spos:Pos}(S:CompNamesT C.X scope ts fs is)(hG:TgR C tg ts fs scope bn T0)(hi:SI C tg iter fi)(he:∀ cl L s₀ H₀ ex,SE (bg C (ts++fs) scope cl L s₀ H₀ ex) elt fe)(hc:∀ cl L s₀ H₀ ex,STs (bg C (ts++fs) scope cl L s₀ H₀ ex) ifs fc)
  (hN:C.X.N.Nodup) (hy:C.X.N[i]?=some y) (hl:C.X.env.scope.names.lookup y=some .local) (hsw:swapsWith (.ListComp elt [⟨tg,iter,ifs,0⟩] scope pos) (some (.Name y py)) spos.line C.X.env=pure true) (hs:∀ v,foldedSetIterable iter C.X.env v=pure v) (hclm:C.X.calm=true):
  PS C.X (.Assign [.Name y py] (.ListComp elt [⟨tg,iter,ifs,0⟩] scope pos) spos) (λ E σ H=>∃ Hv ρ,EnvR C.X.K Hv ρ σ/\Same Hv H/\Ok C.X.K Hv H (C.W σ) C.cls (res ρ) λ v H'=>E.nx (σ.set i (some v)) H'):=by
 intro pins s σ H E I ⟨Hv,ρ,er,sv,ok⟩;rw[exec_Assign_Name_used _ _ _ _ hsw];refine Aw (BR (Aw ?_));show wpAny _ _ (do let _ <- comprehension (.ListComp elt [⟨tg,iter,ifs,0⟩] scope pos) scope C.X.env _ (newList []) false (eval iter C.X.env) (some (assign (.Name y py) C.X.env))) _ _ s
 refine Aw (AI (fX (use:=some (assign (.Name y py) C.X.env)) (Q':=λ _ s'=>∃ σ' H',Inv C.X pins σ' H' s'/\E.nx σ' H') hclm S hG hi he hc hs I er sv (hr _ _ _ _ _ ok) λ Da L s5 h=>?_) (λ _ s' hq=>Ax (Ax hq)) λ _ _ e=>e);obtain⟨⟨m,hn⟩,h1,h2,h3,h4,H',hL,q,iv⟩:=h;have I5:Inv C.X pins σ H' s5:=iv s5.heap λ b _=>rfl
 show wpAny _ _ (assign (.Name y py) C.X.env (.ref Da)) _ _ s5
 refine wpAny_assign_Name (gw (v:=.ref Da) I5 hN hy (.inl hl) rfl (λ s6 I6 ⟨a,sb,ha⟩=>?_) (.inr hl));have hLa:L≠a:=by
  rcases ha with rfl|ha
  ·exact h1
  ·exact λ z=>h2 y a ha z.symm
 refine⟨m,hn.sameBut sb hLa,λ h' sb'=>⟨_,H',?_,q⟩⟩;exact I6.turned (t':=s6.toks) (it:=L) (λ b o hb e=>(sb'.2 b hb).trans e) hL h1 (.inr h3) h2 h4
theorem iS {i:Nat}{y:Str}{py spos:Pos}(S:CompNamesT C.X scope ts fs is)(hG:TgR C tg ts fs scope bn T0)(hi:SI C tg iter fi)(he:∀ cl L s₀ H₀ ex,SE (bg C (ts++fs) scope cl L s₀ H₀ ex) elt fe)(hc:∀ cl L s₀ H₀ ex,STs (bg C (ts++fs) scope cl L s₀ H₀ ex) ifs fc)
  (hN:C.X.N.Nodup) (hy:C.X.N[i]?=some y) (hl:C.X.env.scope.names.lookup y=some .local) (hsw:autoParam (swapsWith (.ListComp elt [⟨tg,iter,ifs,0⟩] scope pos) (some (.Name y py)) spos.line C.X.env=pure true) ZE._auto_1) (hs:autoParam (∀ v,foldedSetIterable iter C.X.env v=pure v) ZD._auto_1) (hclm:autoParam (C.X.calm=true) ZE._auto_1):
  SSt C (.Assign [.Name y py] (.ListComp elt [⟨tg,iter,ifs,0⟩] scope pos) spos) (Dv.sSet i (Dv.eCompG bn fe fc is fi)):=
 ⟨_,jI (λ _ _ _ _ _=>jt) S hG hi he hc hN hy hl hsw hs hclm,λ Hv₀ H₀ E σ H st r w=>lO (f:=Dv.eCompG bn fe fc is fi) (t:=λ σ H Q=>∃ Hv ρ,EnvR C.X.K Hv ρ σ/\Same Hv H/\Ok C.X.K Hv H (C.W σ) C.cls (Dv.eCompG bn fe fc is fi ρ) Q) (λ σ H Hv ρ Q e s q=>⟨Hv,ρ,e,s,q⟩) i r w⟩
end
section
variable {C:Ctx}{elt iter:Expr}{x:Str}{px pos:Pos}{ifs:List Expr}{scope:Scope}{fs:List Str}{is:List Nat}{fi:EI}{fe fc:EE}
theorem nI (S:CompNamesT C.X scope [x] fs is):TgR C (.Name x px) [x] fs scope Dv.bn1 (lB 0):=
  ⟨λ cl L s₀ H₀ ex=>iJ (X:=bz C.X ([x]++fs) scope cl L s₀ H₀ ex) (pos:=px) (i:=0) (x:=x) S.nd rfl (.inl (C1 (S.tgt x (by simp)))) (.inr (C1 (S.tgt x (by simp)))),
   λ {K d des Hv H xv os fr Q} e l _ r h=>by
    cases e
    match os,l with
    | [o],_=>exact h [xv] rfl (.cons r .nil)⟩
theorem bb (S:CompNamesT C.X scope [x] fs is)(hi:SI C (.Name x px) iter fi)(he:∀ cl L s₀ H₀ ex,SE (bg C ([x]++fs) scope cl L s₀ H₀ ex) elt fe)(hc:∀ cl L s₀ H₀ ex,STs (bg C ([x]++fs) scope cl L s₀ H₀ ex) ifs fc)
  (hs:autoParam (∀ v,foldedSetIterable iter C.X.env v=pure v) ZD._auto_1) (hclm:autoParam (C.X.calm=true) ZE._auto_1):SE C (.ListComp elt [⟨.Name x px,iter,ifs,0⟩] scope pos) (Dv.eComp fe fc is fi):=by
 rw[<- Dv.eC1];exact nR (λ _ _ _ _ _=>jt) S (nI S) hi he hc hs hclm
theorem ka {i:Nat}{y:Str}{py spos:Pos}(S:CompNamesT C.X scope [x] fs is)(hi:SI C (.Name x px) iter fi)(he:∀ cl L s₀ H₀ ex,SE (bg C ([x]++fs) scope cl L s₀ H₀ ex) elt fe)(hc:∀ cl L s₀ H₀ ex,STs (bg C ([x]++fs) scope cl L s₀ H₀ ex) ifs fc)
  (hN:C.X.N.Nodup) (hy:C.X.N[i]?=some y) (hl:C.X.env.scope.names.lookup y=some .local) (hsw:autoParam (swapsWith (.ListComp elt [⟨.Name x px,iter,ifs,0⟩] scope pos) (some (.Name y py)) spos.line C.X.env=pure true) ZE._auto_1) (hs:autoParam (∀ v,foldedSetIterable iter C.X.env v=pure v) ZD._auto_1) (hclm:autoParam (C.X.calm=true) ZE._auto_1):
  SSt C (.Assign [.Name y py] (.ListComp elt [⟨.Name x px,iter,ifs,0⟩] scope pos) spos) (Dv.sSet i (Dv.eComp fe fc is fi)):=by
 rw[<- Dv.eC1];exact iS S (nI S) hi he hc hN hy hl hsw hs hclm
end
end Sd
namespace Dv
def rK:List D->Option (List (Int×Int))
 | []=>some []
 | .tup [.int x,.int y]::r=>(rK r).map ((x,y)::·)
 | _::_=>none
def qV (a b:Int)(beat starts:List (Int×Int)):List (Int×Int):=starts.flatMap λ s=>beat.map λ p=>((p.1+s.1)%a,(p.2+s.2)%b)
end Dv
namespace Sd
open PySem PySem.Spec PyProof.Rows L2
open Dv (D R RL EE EL EI RI Sl Out SS)
def RawD (h:Heap)(d:Addr)(es:Array DictEntry)(ep:Nat):Prop:=∃ o,h.get? d=some o/\o.ExactDict/\o.data=.dict es ep
theorem RawD.at {h h':Heap}{d:Addr}{es:Array DictEntry}{ep:Nat}(x:RawD h d es ep)(e:∀ o,h.get? d=some o->h'.get? d=some o):RawD h' d es ep:=let ⟨o,ho,r⟩:=x;⟨o,e _ ho,r⟩
end Sd
namespace Dv
abbrev Pr:=Int×Int
def lV (l:List (Pr×Int))(q:Pr):List (Pr×Int):=match l.find? (λ e=>decide (e.1=q)) with
 | some e=>l.map λ e'=>if e'.1=q then (e'.1,e.2+1) else e'
 | none=>l++[(q,1)]
def vP (fs:List Pr):List (Pr×Int):=fs.foldl lV []
theorem fD (l:List (Pr×Int))(q:Pr):(lV l q).length<=l.length+1:=by
 unfold lV;split
 ·rw[wj];omega
 ·rw[wB];simp
end Dv
namespace Sd
open PySem PySem.Spec PyProof.Rows L2
open Dv (D R RL EE EL EI RI Sl Out SS Pr lV vP qV rK)
def vA (q:Pr):List Key:=[Sum.inl q.1,Sum.inl q.2]
def uJ (l:List (Pr×Int)):List (List Key×V):=l.map λ e=>(vA e.1,V.int e.2)
structure LpI (H0:Hp)(v0 v1 v2:V)(d:Addr)(l:List (Pr×Int))(σ:St)(H:Hp):Prop where
 len:σ.length=9
 s0:σ[0]?=some (some v0)
 s1:σ[1]?=some (some v1)
 s2:σ[2]?=some (some v2)
 s3:σ[3]?=some (some (.ref d))
 sm:Same H0 H
 dn:H0 d=none
 dd:H d=some (.dT (uJ l))
 nf:∀ b o u,H0 b=none->H b≠some (.frz o u)
theorem LpI.set {H0 H:Hp}{v0 v1 v2:V}{d:Addr}{l:List (Pr×Int)}{σ:St}(h:LpI H0 v0 v1 v2 d l σ H){i:Nat}(hi:4<=i)(v:V):LpI H0 v0 v1 v2 d l (σ.set i (some v)) H:=
 ⟨by rw[w4];exact h.len,by rw[wF ⋯];exact h.s0,by rw[wF ⋯];exact h.s1,by rw[wF ⋯];exact h.s2,by rw[wF ⋯];exact h.s3,h.sm,h.dn,h.dd,h.nf⟩
theorem LpI.grow {H0 H H':Hp}{v0 v1 v2:V}{d:Addr}{l:List (Pr×Int)}{σ:St}(h:LpI H0 v0 v1 v2 d l σ H)(e:Same H H')(nf:∀ b o u,H b=none->H' b≠some (.frz o u)):LpI H0 v0 v1 v2 d l σ H':=
 ⟨h.len,h.s0,h.s1,h.s2,h.s3,h.sm.trans e,h.dn,e _ _ h.dd,λ b o u hb=>by
  cases q:H b with
  | none=>exact nf b o u q
  | some w=>rw[e _ _ q];intro z;cases z;exact h.nf b o u hb q⟩
theorem LpI.put {H0 H:Hp}{v0 v1 v2:V}{d:Addr}{l l':List (Pr×Int)}{σ:St}(h:LpI H0 v0 v1 v2 d l σ H):LpI H0 v0 v1 v2 d l' σ (upd H d (.dT (uJ l'))):=
 ⟨h.len,h.s0,h.s1,h.s2,h.s3,λ b o hb=>by rw[aq (λ z=>by rw[z,h.dn] at hb;cases hb)];exact h.sm b o hb,h.dn,ax,λ b o u hb=>by
  by_cases z:b=d
  ·subst z;rw[ax];intro q;cases q
  ·rw[aq z];exact h.nf b o u hb⟩
open PySem PySem.W PySem.Calls PyProof.Rows
theorem mV {α β:Type}{f:α->β}{l l2:List β}(h:l.Perm l2):∀ m:List α,l2=m.map f->∃ m':List α,m'.Perm m/\l=m'.map f:=by
 induction h with
 | nil=>exact λ m e=>⟨m,.refl _,e⟩
 | cons x h ih=>
  intro m e;cases m with
  | nil=>cases e
  | cons a m=>
   rw[wm] at e;obtain⟨m',p,q⟩:=ih m (List.cons.inj e).2;exact⟨a::m',p.cons a,by rw[wm,q,(List.cons.inj e).1]⟩
 | swap x y l=>
  intro m e
  match m,e with
  | a::b::m,e=>
   simp only[wm,List.cons.injEq] at e;exact⟨b::a::m,.swap a b m,by simp only[wm,e.1,e.2.1,e.2.2]⟩
 | trans h1 h2 ih1 ih2=>
  intro m e;obtain⟨m2,p2,e2⟩:=ih2 m e;obtain⟨m1,p1,e1⟩:=ih1 m2 e2;exact⟨m1,p1.trans p2,e1⟩
section
variable {prog:Program}{w:World}{A:Around}{E:Value->Shared->Prop}{s:Shared}
theorem fE {a:Addr}{vs:List Value}{n:Nat}{κ:SortKind}{key:Nat->Int}{P:PySem.Fin->Shared->Prop}(ho:s.heap.get? a=some (seqObj "list" vs.toArray n))(h64:vs.length<=100000)(hu:∀ i j,i<vs.length->j<vs.length->vs.getD i AE=vs.getD j AE->key i=key j)
  (hk:2<=vs.length->∀ (h':Heap),(∀ b o,b≠a->s.heap.get? b=some o->h'.get? b=some o)->∀ (E':Value->Shared->Prop) (Q':SortKind->Shared->Prop),Q' κ { s with heap:=h' }->wpAny (model prog w) A (keyKind' vs.toArray) Q' E' { s with heap:=h' })
  (hc:2<=vs.length->∀ (h':Heap),(∀ b o,b≠a->s.heap.get? b=some o->h'.get? b=some o)->∀ i j (C:Bool->Shared->Prop),i<vs.length->j<vs.length->C (decide (key i<key j)) { s with heap:=h' }->kas_ask prog w A κ vs i j C { s with heap:=h' })
  (h:∀ out:List Nat,out.Perm (List.range vs.length)->(∀ i j,i<=j->j<vs.length->key (out.getD i 0)<=key (out.getD j 0))->P (.done (.ret .none)) { s with heap:=sortedHeap s.heap a vs (out.map λ i=>vs.getD i AE).toArray }):
  wpAny (model prog w) A (Builtin.«list.sort» ⟨[.ref a],[]⟩) P E s:=by
 have hlt:a<s.heap.objs.size:=Az ho;have ln:vs.length<=sizeLine:=by rw[A2];omega
 obtain⟨e1,q1⟩:∃ e1,(s.heap.update a (A6 λ _=>#[])).get? a=some (seqObj "list" #[] e1):=⟨_,get?_update_seq ho (λ _=>#[])⟩;rw[list_sort_plain];refine Aw (listItems_at ho rfl (Aw (C5 ho rfl (Aw (Du q1 rfl (Aw (wpAny_newTuple (Aw (C6 (AL ?_) (xw _))) (by show vs.length<=_;exact ln))))) (by rw[wx];exact ln) (xw _))));have old:∀ b o,b≠a->s.heap.get? b=some o->(((s.heap.update a (A6 λ _=>#[])).push (seqObj "tuple" vs.toArray 0)).push (seqObj "list" #[] 0)).get? b=some o:=λ b o hb q=>
  AB _ (AB _ ((AM _ _ (Ne.symm hb)).trans q))
 have q6:(((s.heap.update a (A6 λ _=>#[])).push (seqObj "tuple" vs.toArray 0)).push (seqObj "list" #[] 0)).get? a=some (seqObj "list" #[] e1):=AB _ (AB _ q1);show wpAny (model prog w) A _ P E { s with heap:=((s.heap.update a (A6 λ _=>#[])).push (seqObj "tuple" vs.toArray 0)).push (seqObj "list" #[] 0) }
 dsimp only;have sz:vs.toArray.size=vs.length:=wx ..;by_cases h2:vs.length<2
 ·rw[if_pos (by rw[sz];exact h2),if_pos (by rw[sz];exact h2)]
  refine Aw (Ax ?_);rw[StateT.run_pure];refine Aw (Ax ?_);dsimp only;have e:(arrOf (DC general' (vs.toArray.zip vs.toArray) #[] 7 none)).map (·.2)=((List.range vs.length).map λ i=>vs.getD i AE).toArray:=by
   show (vs.toArray.zip vs.toArray).map (·.2)=_
   refine Array.ext (by simp) λ i h1 h3=>?_
   have hi:i<vs.length:=by simpa using h3
   simp[wt,wo hi]
  rw[e];have zz:((List.range vs.length).map λ i=>vs.getD i AE).toArray.size<=sizeLine:=by rw[wx,wj,xC];exact ln
  refine Aw (Du q6 rfl (Aw (C5 q6 rfl ?_ (hsz2:=yS zz))));simp only[bne_self_eq_false,wg,if_false];refine Ax (h _ (.refl _) λ i j hij hj=>?_);have:i=j:=⋯
  subst this;exact xf _
 ·rw[if_neg (by rw[sz];exact h2),if_neg (by rw[sz];exact h2)]
  have h2':2<=vs.length:=⋯
  refine Aw (hk h2' _ old _ _ ?_)
  let s2:Shared:={ s with heap:=((s.heap.update a (A6 λ _=>#[])).push (seqObj "tuple" vs.toArray 0)).push (seqObj "list" #[] 0) }
  let Gd:Keyed->Prop:=λ p=>∃ i,i<vs.length/\p=(vs.getD i AE,vs.getD i AE)
  classical
  let ky:Keyed->Int:=λ p=>if q:Gd p then key q.choose else 0
  have kyE:∀ i,i<vs.length->ky (vs.getD i AE,vs.getD i AE)=key i:=λ i hi=>by
   have q:Gd (vs.getD i AE,vs.getD i AE):=⟨i,hi,rfl⟩;show (if q:Gd _ then key q.choose else 0)=_
   rw[dif_pos q];have c:=q.choose_spec;exact hu _ _ c.1 hi (DR c.2).1.symm
  have cmp:Srt.Cmk prog w A s2 κ Gd ky:=λ x y ⟨i,hi,hx⟩ ⟨j,hj,hy⟩ C E' hC=>by
   subst hx hy;rw[kyE i hi,kyE j hj] at hC;exact AI (hc h2' _ old i j C hi hj hC) (λ _ _ z=>z) λ _ _ z=>z.elim
  have pairs:(vs.toArray.zip vs.toArray).toList=(List.range vs.length).map λ i=>(vs.getD i AE,vs.getD i AE):=by
   refine yZ (by simp) λ i h1 h3=>?_
   have hi:i<vs.length:=by simpa using h3
   simp[wt,wo hi]
  have gs:Srt.Gs Gd (vs.toArray.zip vs.toArray):=λ p hp=>by
   have:=Array.mem_toList_iff.mpr hp;rw[pairs] at this;obtain⟨i,hi,rfl⟩:=List.mem_map.mp this;exact⟨i,List.mem_range.mp hi,rfl⟩
  have bk:Srt.Bs κ (vs.toArray.zip vs.toArray) (DC κ (vs.toArray.zip vs.toArray) #[] 7 none):=⟨rfl,Array.Perm.refl _,rfl⟩;have run:=Srt.sruns (prog:=prog) (w:=w) (A:=A) (E:=E) (s:=s2) cmp gs bk rfl (Q:=λ _ st'=>Srt.Bs κ (vs.toArray.zip vs.toArray) st'/\Srt.Up ky (arrOf st') 0 (vs.toArray.zip vs.toArray).size) λ st' B u=>⟨B,u⟩
  refine Aw (AI run ?_ λ _ _ e=>e)
  rintro ⟨⟨⟩,st'⟩ s' ⟨rfl,B,u⟩
  dsimp only;have pm:=Array.perm_iff_toList_perm.mp B.perm;obtain⟨out,o1,o2⟩:=mV pm _ pairs;have ol:out.length=vs.length:=by rw[o1.length_eq,xC]
  have or:∀ i,i<vs.length->out.getD i 0<vs.length:=λ i hi=>by
   have hi':i<out.length:=⋯
   rw[wt,wo hi'];exact List.mem_range.mp (o1.mem_iff.mp (xH hi'))
  have kk:∀ i,i<vs.length->Srt.Ky ky (arrOf st') i=key (out.getD i 0):=λ i hi=>by
   have hi':i<out.length:=⋯
   unfold Srt.Ky;have e:(arrOf st')[i]?=some (vs.getD (out.getD i 0) AE,vs.getD (out.getD i 0) AE):=by
    rw[<- AH,o2,wH,wo hi'];simp[wt,wo hi']
   rw[e];exact kyE _ (or i hi)
  have zsz:(vs.toArray.zip vs.toArray).size=vs.length:=by simp
  have so:∀ i j,i<=j->j<vs.length->key (out.getD i 0)<=key (out.getD j 0):=λ i j hij hj=>by
   have:=u i j (xw _) hij (by rw[zsz];exact hj)
   rwa [kk i ⋯,kk j hj] at this
  have o3:(arrOf st').map (·.2)=(out.map λ i=>vs.getD i AE).toArray:=by
   apply Array.ext';rw[CA,o2];simp
  rw[o3];have zz:((out.map λ i=>vs.getD i AE).toArray).size<=sizeLine:=by rw[wx,wj,ol];exact ln
  refine Aw (Du q6 rfl (Aw (C5 q6 rfl ?_ (hsz2:=yS zz))));rw[B.ok];simp only[bne_self_eq_false,wg,if_false];exact Ax (h out o1 so)
theorem ku {l:Addr}{vs:List Value}{κ:SortKind}{key:Nat->Int}{Q:Value->Shared->Prop}(hl:s.heap.IsList l vs.toArray)(h64:vs.length<=100000)(hu:∀ i j,i<vs.length->j<vs.length->vs.getD i AE=vs.getD j AE->key i=key j)
  (hk:2<=vs.length->∀ (h':Heap),(∀ b o,s.heap.get? b=some o->h'.get? b=some o)->∀ (E':Value->Shared->Prop) (Q':SortKind->Shared->Prop),Q' κ { s with heap:=h' }->wpAny (model prog w) A.in1.in1 (keyKind' vs.toArray) Q' E' { s with heap:=h' })
  (hc:2<=vs.length->∀ (h':Heap),(∀ b o,s.heap.get? b=some o->h'.get? b=some o)->∀ i j (C:Bool->Shared->Prop),i<vs.length->j<vs.length->C (decide (key i<key j)) { s with heap:=h' }->kas_ask prog w A.in1.in1 κ vs i j C { s with heap:=h' })
  (h:∀ out:List Nat,out.Perm (List.range vs.length)->(∀ i j,i<=j->j<vs.length->key (out.getD i 0)<=key (out.getD j 0))->Q (.ref (s.heap.objs.size+1)) { s with heap:=sortedAll s.heap vs (out.map λ i=>vs.getD i AE).toArray }):
  wpAny (model prog w) A (call (.builtin "sorted") [.ref l]) Q E s:=by
 have ln:vs.length<=sizeLine:=by rw[A2];omega
 refine Ct kind_sorted plain_sorted entry_sorted (args_sorted1 _) ?_
 unfold Builtin.«sorted»;refine Aw (m:=checkCount "sorted" 1 1 _) (Ax (Aw (collect_list hl (Aw (C6 ?_ (by show vs.length<=_;exact ln))) (by exact ln))));have z1:((s.heap.push (seqObj "list" #[] 0)).update s.heap.objs.size (A6 (·++vs.toArray))).objs.size=s.heap.objs.size+1:=by rw[Heap.size_update,size_push']
 have z2:(((s.heap.push (seqObj "list" #[] 0)).update s.heap.objs.size (A6 (·++vs.toArray))).push (seqObj "list" vs.toArray 0)).get? (s.heap.objs.size+1)=some (seqObj "list" vs.toArray 0):=by rw[<- z1];exact AF _ rfl
 have old:∀ b o,s.heap.get? b=some o->b≠s.heap.objs.size+1/\(((s.heap.push (seqObj "list" #[] 0)).update s.heap.objs.size (A6 (·++vs.toArray))).push (seqObj "list" vs.toArray 0)).get? b=some o:=λ b o q=>by
  have hb:b<s.heap.objs.size:=Az q;exact⟨wz (xE hb),AB _ ((AM _ _ (yy hb)).trans (AB _ q))⟩
 show wpAny _ _ _ _ _ { s with heap:=((s.heap.push (seqObj "list" #[] 0)).update s.heap.objs.size (A6 (·++vs.toArray))).push (seqObj "list" vs.toArray 0) }
 rw[z1];refine Aw (AL (Bn slot_list_sort ⟨_,z2,rfl⟩ entry_list_sort (fE (key:=key) (s:={ s with heap:=((s.heap.push (seqObj "list" #[] 0)).update s.heap.objs.size (A6 (·++vs.toArray))).push (seqObj "list" vs.toArray 0) }) z2 h64 hu (λ h2 h' k E' Q' q=>hk h2 h' (λ b o e=>k b o (old b o e).1 (old b o e).2) E' Q' q)
  (λ h2 h' k i j C hi hj q=>hc h2 h' (λ b o e=>k b o (old b o e).1 (old b o e).2) i j C hi hj q) λ out a1 a2=>⟨_,rfl,Ax ⟨_,rfl,h out a1 a2⟩⟩) (args_list_sort _)))
end
open PySem.Spec L2
open Dv (D R RL EE EL EI RI Sl Out SS)
theorem iL {X:Cx}:de X (.builtin "sorted") (λ xs H Q=>∃ p ns,xs=[.ref p]/\SqX X.K H p (ns.map V.int)/\ns.length<=100000/\∀ l,H l=none->Q (.ref l) (upd H l (.lst ((Dv.isort ns).map V.int)))):=by
 intro pins s σ H xs us Q I r h;obtain⟨p,ns,rfl,hq,h64,q⟩:=h;obtain⟨u,rfl,rx⟩:=vals1 r;cases rx;obtain⟨its,n,rv,e,z⟩:=Inv.listX I hq;have hi:=intsAre_of rv;have hl:=rv.length;rw[wj] at hl;have item:∀ i,i<its.length->∃ u,its.getD i AE=.int (ns.getD i 0) u:=by
  have:∀ {vs:List Value} {ns:List Int},IntsAre vs ns->∀ j,j<vs.length->∃ u,vs.getD j AE=.int (ns.getD j 0) u:=λ {vs ns} q=>by
   induction q with
   | nil=>intro j hj;simp at hj
   | cons n t _ ih=>
    intro j hj;cases j with
    | zero=>exact⟨t,rfl⟩
    | succ j=>simpa using ih j (by simpa using hj)
  exact this hi
 refine ku (κ:=oneType') (key:=λ i=>ns.getD i 0) ⟨_,e,rfl,n,rfl⟩ ⋯ (λ i j hi hj he=>?_) (λ h2 h' k E' Q' hQ=>?_) (λ h2 h' k i j C hi hj hC=>?_) λ out a1 a2=>?_
 ·obtain⟨u1,e1⟩:=item i hi
  obtain⟨u2,e2⟩:=item j hj;rw[e1,e2] at he;exact(DK he).1
 ·rw[ksk_kind (keys:=its.toArray) (kz:=ns) hi (by simpa using h2)]
  exact Ax hQ
 ·obtain⟨u1,e1⟩:=item i hi
  obtain⟨u2,e2⟩:=item j hj;unfold kas_ask;rw[e1,e2];exact kat_lt_int hC
 ·have rg:∀ i∈out,i<its.length:=λ i hi=>List.mem_range.mp (a1.mem_iff.mp hi)
  have ol:out.length=its.length:=by rw[a1.length_eq,xC]
  have fin:(out.map λ i=>ns.getD i 0)=Dv.isort ns:=by
   refine aO (((a1.map _).trans ?_).trans (ao _).symm) ?_ (aE _)
   ·rw[<- hl]
    have:(List.range ns.length).map (λ i=>ns.getD i 0)=ns:=by
     refine yZ (by simp) λ i h1 h2=>?_
     simp[wt,wo h2]
    rw[this]
   ·rw[yf]
    intro i j hi hj hij;rw[wj] at hi hj;have:=a2 i j (xR hij) ⋯;rw[xX,xX];simpa[wt,wo hi,wo hj] using this
  obtain⟨ep,hat⟩:=sortedAll_at s.heap its (out.map λ i=>its.getD i AE).toArray;have hf:H (s.heap.objs.size+1)=none:=I.hok.fresh (yG _);refine⟨.ref (s.heap.objs.size+1),_,I.laid (t':=s.toks) (o:=.lst ((Dv.isort ns).map V.int)) (λ b u q=>sortedAll_old q) (yG _) ?_,rfl,q _ hf⟩;refine⟨?_,out.map λ i=>its.getD i AE,ep,cE ?_,by simpa[seqObj] using hat⟩
  ·rw[wj,(ao ns).length_eq,A2];omega
  ·rw[<- fin]
   have:∀ l:List Nat,(∀ i∈l,i<its.length)->IntsAre (l.map λ i=>its.getD i AE) (l.map λ i=>ns.getD i 0):=by
    intro l
    induction l with
    | nil=>intro _;exact .nil
    | cons i l ih=>
     intro hl;obtain⟨u,hu⟩:=item i (hl i we);rw[wm,wm,hu];exact .cons _ _ (ih λ j hj=>hl j (wd _ hj))
   exact this out rg
end Sd
namespace Dv
def sortedSD:D->Bool->R
 | .lst ds,_=>match intsOf ds with
  | some ns=>if ns.length<=100000 then .ok (.lst ((isort ns).map .int)) true else .bad
  | none=>.bad
 | _,_=>.bad
def sortSetSD:D->Bool->R
 | .lst ds,_=>match intsOf ds with
  | some ns=>if ns.length<=3000 then .ok (.lst ((isort (onces ns)).map .int)) true else .bad
  | none=>.bad
 | _,_=>.bad
def borD:D->D->R
 | .int i,.int j=>if decide (0<=i)&&decide (0<=j) then .ok (.int ((i.toNat ||| j.toNat:Nat):Int)) true else .bad
 | _,_=>.bad
def ninTD:D->D->R
 | .int i,.tup b=>optB ((inD i b).map (!·))
 | _,_=>.bad
def sRetR (z:List Nat)(e:EE)(i:Nat):SS:=λ st=>match st[i]? with
 | some (.ow (.lst ds))=>match e (all st) with
  | .ok (.int m) _=>if flatL ds then .ret (.tup [.str z,.int m,.lst ds]) true else .bad
  | .exc c=>.exc c st
  | _=>.bad
 | _=>.bad
def sPutF (i:Nat)(k e:EE):SS:=λ st=>match st[i]? with
 | some (.ow (.lst ds))=>match e (all st) with
  | .ok d true=>match k (all st) with
   | .ok (.int j) _=>if decide (0<=j)&&decide (j<ds.length) then .nx (st.set i (.ow (.lst (ds.set j.toNat d)))) else .bad
   | _=>.bad
  | _=>.bad
 | _=>.bad
def sKill3 (i:Nat)(e:EE):SS:=λ st=>match st[i]? with
 | some (.dp (.tup [.str _,.int _,.lst ds]))=>match e (all st) with
  | .ok d _=>if scal d&&decide (ds.length<mx) then .nx (st.set i .no) else .bad
  | _=>.bad
 | _=>.bad
def sHeldIf (i j:Nat)(e:EE):SS:=sIf (eCm .eq (eB1 lenD (eVar i)) (eInt 3)) (sCons (sPutF j (eInt 2) (eB1 listD (eIx (eVar i) (eInt 2)))) (sKill3 i e)) sNil
def sHeld (i j:Nat)(v:Int):SS:=λ st=>match st[i]? with
 | some (.dp (.tup [.str z,.int m]))=>if decide (i≠j)&&decide (j<st.length) then .nx (st.set j (.ow (.lst [.str z,.int m]))) else .bad
 | some (.dp (.tup [.str z,.int m,.lst ds]))=>if flatL ds&&decide (ds.length<mx)&&decide (i≠j)&&decide (j<st.length) then .nx ((st.set j (.ow (.lst [.str z,.int m,.lst ds]))).set i .no) else .bad
 | _=>.bad
end Dv
namespace Sd
open PySem PySem.Spec PySem.W PySem.Calls PyProof.Rows L2 Sts
open Dv (D R RL EE EL EI RI Sl Out SS)
section
variable {prog:Program}{w:World}{A:Around}{E:Value->Shared->Prop}{s:Shared}
theorem jw {T:String}{r d:Addr}{n:Nat}{P:Nat->Value->Prop}{OK:Heap->Prop}{Q:Value->Shared->Prop}{key:Nat->Int}(Kd:KdlSrc prog w T r d n P OK)(hh:A.handled=none)(hok:OK s.heap)(h64:n<=3000)
  (hP:∀ i v,i<n->P i v->∃ u,v=.int (key i) u)
  (h:∀ (h':Heap) (tk:Nat) (vs:List Value) (out:List Nat),vs.length=n->(∀ j v,vs[j]?=some v->P j v)->(∀ b o,s.heap.get? b=some o->h'.get? b=some o)->out.Perm (List.range n)->(∀ i j,i<=j->j<n->key (out.getD i 0)<=key (out.getD j 0)) ->
   Q (.ref h'.objs.size) { s with heap:=sortedHeap (h'.push (seqObj "list" vs.toArray 0)) h'.objs.size vs (out.map λ i=>vs.getD i AE).toArray,toks:=tk }):
  wpAny (model prog w) A (call (.builtin "sorted") [.ref r]) Q E s:=by
 have ln:n<=sizeLine:=by rw[A2];omega
 refine Ct kind_sorted plain_sorted entry_sorted (args_sorted1 _) ?_
 unfold Builtin.«sorted»;refine Aw (m:=checkCount "sorted" 1 1 _) (Ax (Aw (kdu_collect (A:=A.in1) Kd hh hok ln λ h' tk acc hk hacc=>?_)));have hl:acc.toList.length=n:=by rw[AD];exact hacc.1
 have hP':∀ j v,acc.toList[j]?=some v->P j v:=λ j v e=>hacc.2 j v (by rw[<- AH];exact e)
 refine Aw (C6 ?_ (by rw[hl];exact ln));generalize acc.toList=vs at hl hP';have z2:(h'.push (seqObj "list" vs.toArray 0)).get? h'.objs.size=some (seqObj "list" vs.toArray 0):=AF _ rfl;have item:∀ i,i<vs.length->∃ u,vs.getD i AE=.int (key i) u:=λ i hi=>by
  obtain⟨u,e1⟩:=hP i vs[i] ⋯ (hP' i _ (wo hi));exact⟨u,by rw[wt,wo hi];exact e1⟩
 have hns:IntsAre vs ((List.range n).map key):=eP (by simp[hl]) λ i hi=>by
  obtain⟨u,e⟩:=item i hi;exact⟨u,by rw[e];simp[wt,ye (show i<n by omega)]⟩
 show wpAny _ _ _ _ _ { s with heap:=h'.push (seqObj "list" vs.toArray 0),toks:=tk }
 refine Aw (AL (Bn slot_list_sort ⟨_,z2,rfl⟩ entry_list_sort (fE (s:={ s with heap:=h'.push (seqObj "list" vs.toArray 0),toks:=tk }) (κ:=oneType') (key:=key) z2 ⋯ (λ i j hi hj he=>by obtain⟨u1,e1⟩:=item i hi;obtain⟨u2,e2⟩:=item j hj;rw[e1,e2] at he;exact(DK he).1)
  (λ h2 h3 k E' Q' q=>?_) (λ h2 h3 k i j C hi hj q=>?_) λ out a1 a2=>⟨_,rfl,Ax ⟨_,rfl,h h' tk vs out hl hP' hk (by rw[<- hl];exact a1) λ i j hij hj=>a2 i j hij ⋯⟩⟩) (args_list_sort _)))
 ·rw[ksk_kind (keys:=vs.toArray) (kz:=(List.range n).map key) hns (by simpa using h2)]
  exact Ax q
 ·obtain⟨u1,e1⟩:=item i hi
  obtain⟨u2,e2⟩:=item j hj;unfold kas_ask;rw[e1,e2];exact kat_lt_int q
end
section
variable {C:Ctx}{a:Expr}{f:EE}{pos:Pos}
theorem jK {X:Cx}{t:TE}{p p2 pos2:Pos}(hcl:X.calm=true)(hm:X.mg "sorted"=none)(hg:Gl X "sorted")(hm2:X.mg "set"=none)(hg2:Gl X "set")(ha:PE X a t)
  (he:starEach [.Call (.Name "set" p2) [a] [] pos2] X.env=[(false,eval (.Call (.Name "set" p2) [a] [] pos2) X.env)]) (he2:starEach [a] X.env=[(false,eval a X.env)]):
  PE X (.Call (.Name "sorted" p) [.Call (.Name "set" p2) [a] [] pos2] [] pos) (λ σ H Q=>t σ H λ x H1=>∃ q ns,x=.ref q/\SqX X.K H1 q (ns.map V.int)/\ns.length<=3000 /\
   ∀ l,H1 l=none->Q (.ref l) (upd H1 l (.lst ((Dv.isort (Dv.onces ns)).map .int)))):=by
 intro pins s σ H Q I h;refine Bb (ck I hg hm BG ?_ (by decide) (by decide));refine BY ?_ he rfl
 rw[he];show wpAny _ _ (spliced ((false,eval (.Call (.Name "set" p2) [a] [] pos2) X.env)::backTo pos [])) _ _ s
 refine Bu (Bb (ck I hg2 hm2 PyProof.Rows.boot_set ?_ (by decide) (by decide)));refine AX ?_ he2 rfl
 rw[he2];show wpAny _ _ (spliced ((false,eval a X.env)::backTo pos2 [])) _ _ s
 refine Bu (thn (ha pins s σ H _ I h) λ u s1 ⟨x,H1,I1,r1,q,ns,e1,hq,h64,go⟩=>?_);subst e1;cases r1;refine Bx ?_
 obtain⟨its,n,rv,e,z⟩:=Inv.listX I1 hq;have hi:=intsAre_of rv;have hl:=rv.length;rw[wj] at hl;have hz:its.toArray.size=its.length:=wx ..;have at_:∀ {vs:List Value} {ns:List Int},IntsAre vs ns->∀ j,j<vs.length->∃ u,vs[j]?=some (.int (ns.getD j 0) u):=λ {vs ns} q=>by
  induction q with
  | nil=>intro j hj;simp at hj
  | cons n t _ ih=>
   intro j hj;cases j with
   | zero=>exact⟨t,rfl⟩
   | succ j=>simpa using ih j (by simpa using hj)
 refine l6 (prog:=X.prog) (w:=X.w) (items:=its.toArray) (val:=λ j=>ns.getD j 0) (I1.ok.hd hcl) ⟨_,e,rfl,n,rfl⟩ (by rw[hz];omega)
  (λ j hj=>by rw[hz] at hj;obtain⟨u,hu⟩:=at_ hi j hj;exact⟨u,by simpa using hu⟩) λ h' tk hS hk=>?_
 obtain⟨es,ep,tb,V,Hs⟩:=hS;rw[hz,gK ns its.length ⋯,wW ⋯] at Hs;have Hs:(es.toList.map λ e=>ik e.2).Perm (Dv.onces ns):=Hs;refine Bx ?_
 have ol:=mB ns;have esz:es.size=(Dv.onces ns).length:=V.size Hs;have po:(cp X.w s1.heap.objs.size es ep).toList.Perm (es.toList.map (·.2)):=j3;have isI:∀ v∈(cp X.w s1.heap.objs.size es ep).toList,∃ k u,v=.int k u:=λ v hv=>by
  obtain⟨x,hx,rfl⟩:=List.mem_map.mp (po.mem_iff.mp hv);obtain⟨k,u,rfl⟩:=V.ent x hx;exact⟨k,u,rfl⟩
 let key:Nat->Int:=λ i=>ik ((cp X.w s1.heap.objs.size es ep).toList.getD i AE)
 have keyOf:∀ i v,i<es.size->(cp X.w s1.heap.objs.size es ep)[i]?=some v->∃ u,v=.int (key i) u:=λ i v hi hv=>by
  rw[<- AH] at hv;obtain⟨k,u,rfl⟩:=isI v (xl hv);refine⟨u,?_⟩;show _=AO (ik ((cp X.w s1.heap.objs.size es ep).toList.getD i AE)) u
  rw[wt,hv];rfl
 have pk:((List.range es.size).map key).Perm (Dv.onces ns):=by
  have e1:(List.range es.size).map key=(cp X.w s1.heap.objs.size es ep).toList.map ik:=by
   refine yZ (by simp[fI]) λ i h1 h2=>?_
   rw[wj] at h2;simp only[xX,List.getElem_range];show ik ((cp X.w s1.heap.objs.size es ep).toList.getD i AE)=_
   rw[wt,wo h2];rfl
  rw[e1];refine(po.map ik).trans ?_
  rw[yn];exact Hs
 have I2:L2.Inv X pins σ H1 { s1 with heap:=h',toks:=tk }:=I1.kept hk;have G:Gone X.w es tb:=⟨V.gone.1,V.gone.2.1,V.gone.2.2.1,V.gone.2.2.2.1,V.gone.2.2.2.2⟩;refine jw (s:={ s1 with heap:=h',toks:=tk }) (key:=key) (qy (prog:=X.prog) G) (I2.ok.hd hcl) V.obj ⋯ (λ i v hi hv=>keyOf i v hi hv) λ h2 tk2 vs2 out hvl hvP hk2 hp hs=>?_
 have rg:∀ i∈out,i<es.size:=λ i hi=>List.mem_range.mp (hp.mem_iff.mp hi)
 have ho:out.length=es.size:=by rw[hp.length_eq,xC]
 have fin:out.map key=Dv.isort (Dv.onces ns):=by
  refine aO (((hp.map key).trans pk).trans (ao _).symm) ?_ (aE _)
  rw[yf];intro i j hi hj hij;rw[wj] at hi hj;have:=hs i j (xR hij) ⋯;rw[xX,xX];simpa[wt,wo hi,wo hj] using this
 have z3:(h2.push (seqObj "list" vs2.toArray 0)).get? h2.objs.size=some (seqObj "list" vs2.toArray 0):=AF _ rfl;obtain⟨ep3,hat3⟩:=sortedHeap_at (out:=(out.map λ i=>vs2.getD i AE).toArray) z3;have old:∀ b o,s1.heap.get? b=some o->(sortedHeap (h2.push (seqObj "list" vs2.toArray 0)) h2.objs.size vs2 (out.map λ i=>vs2.getD i AE).toArray).get? b=some o:=λ b o q=>by
  have q2:=hk2 b o (hk b o q);have hlt:=Az q2;rw[sortedHeap_old (wz hlt) (by rw[size_push'];exact xE hlt)];exact AB _ q2
 have hsz:s1.heap.objs.size<=h2.objs.size:=xR (Az (hk2 _ _ V.obj));have hf:H1 h2.objs.size=none:=I1.hok.fresh hsz;refine⟨.ref h2.objs.size,_,I1.laid (t':=tk2) (o:=.lst ((Dv.isort (Dv.onces ns)).map .int)) old hsz ?_,rfl,go _ hf⟩;refine⟨?_,out.map λ i=>vs2.getD i AE,ep3,?_,by simpa[seqObj] using hat3⟩
 ·rw[wj,<- fin,wj,A2]
  omega
 ·rw[<- fin]
  have:∀ l:List Nat,(∀ i∈l,i<es.size)->IntsAre (l.map λ i=>vs2.getD i AE) (l.map key):=by
   intro l
   induction l with
   | nil=>intro _;exact .nil
   | cons i l ih=>
    intro hl;have hi:=hl i we;have hi':i<vs2.length:=⋯
    obtain⟨u,hu⟩:=keyOf i vs2[i] hi (hvP i _ (wo hi'));rw[wm,wm,wt,wo hi'];show IntsAre (vs2[i]::_) _
    rw[hu];exact .cons _ _ (ih λ j hj=>hl j (wd _ hj))
  exact cE (this out rg)
theorem jg {p p2 pos2:Pos}(hm:C.X.mg "sorted"=none)(hg:Gl C.X "sorted")(hm2:C.X.mg "set"=none)(hg2:Gl C.X "set")(ha:SE C a f)
  (he:autoParam (starEach [.Call (.Name "set" p2) [a] [] pos2] C.X.env=[(false,eval (.Call (.Name "set" p2) [a] [] pos2) C.X.env)]) ZE._auto_1) (he2:autoParam (starEach [a] C.X.env=[(false,eval a C.X.env)]) ZE._auto_1) (hcl:autoParam (C.X.calm=true) ZE._auto_1):
  SE C (.Call (.Name "sorted" p) [.Call (.Name "set" p2) [a] [] pos2] [] pos) (Dv.eB1 Dv.sortSetSD f):=by
 obtain⟨t,pa,qa⟩:=ha;refine⟨_,jK hcl hm hg hm2 hg2 pa he he2,λ σ H Hv ρ Q e s w=>?_⟩;refine qa.step e (.refl s) w λ v d fr Hv1 H1 _ x1 _ rx n1 q=>?_
 cases d with
 | lst ds=>
  simp only[Dv.sortSetSD] at q;cases hi:Dv.intsOf ds with
  | none=>rw[hi] at q;exact Zf q
  | some ns=>
   rw[hi] at q;by_cases h64:ns.length<=3000
   ·simp only[h64,if_true] at q
    unfold Rp at rx;obtain⟨l,vs,rfl,h1,h2⟩:=rx;have e1:=RpL.ints hi h2;subst e1;refine⟨l,ns,rfl,h1.same x1.vh,h64,λ p hpn=>?_⟩;exact Ok.newL q x1 (RpL.ofInts _) (λ _=>RpL.ofInts _) p hpn
   ·simp only[h64,if_false] at q
    exact Zf q
 | _=>exact Zf q
end
open PySem PySem.Spec PySem.W PySem.Calls PyProof.Rows L2
section
variable {C:Ctx}{a b c e k:Expr}{f g h:EE}{pos pos':Pos}
theorem o6 {x y:Int}(hx:0<=x)(hy:0<=y):DL x y=((x.toNat ||| y.toNat:Nat):Int):=by
 have e:∀ z:Int,BN (BN z)=z:=λ z=>by unfold BN;omega
 unfold DL;rw[bitAnd_nn (by unfold BN;omega) (by unfold BN;omega),e,e,e]
theorem qY:OpR C.X (binaryOp .BitOr) (rI (λ i j=>0<=i/\0<=j) λ i j=>.int ((i.toNat ||| j.toNat:Nat):Int)):=opI λ i j _ _ _ _ _ hc q=>
 or_int (by rw[o6 hc.1 hc.2];exact q)
theorem qD:OpS C (binaryOp .BitOr) Dv.borD:=gu qY λ d d'=>by
 cases d with
 | int i=>
  cases d' with
  | int j=>
   by_cases h:0<=i/\0<=j
   ·exact .inl ⟨i,j,.int ((i.toNat ||| j.toNat:Nat):Int),rfl,rfl,h,by simp[Dv.borD,h.1,h.2],rfl,λ _ _=>aV⟩
   ·refine .inr ?_
    simp only[Dv.borD];rw[if_neg];simp only[wq,decide_eq_true_eq];exact h
  | _=>exact .inr rfl
 | _=>exact .inr rfl
theorem rf (ha:SE C a f)(hb:SE C b g):SE C (.BinOp a .BitOr b pos) (Dv.eB2 Dv.borD f g):=cC qD ha hb
theorem kh:C1S C (.builtin "sorted") Dv.sortedSD:=by
 refine⟨_,iL,λ x d fr H Hv H1 Hv1 W Q e rx n q=>?_⟩;cases d with
 | lst ds=>
  simp only[Dv.sortedSD] at q;cases hi:Dv.intsOf ds with
  | none=>rw[hi] at q;exact Zf q
  | some ns=>
   rw[hi] at q;by_cases h64:ns.length<=100000
   ·simp only[h64,if_true] at q
    unfold Rp at rx;obtain⟨l,vs,rfl,h1,h2⟩:=rx;have e1:=RpL.ints hi h2;subst e1;exact⟨l,ns,rfl,h1.same e.vh,h64,λ p hp=>Ok.newL q e (RpL.ofInts _) (λ _=>RpL.ofInts _) p hp⟩
   ·simp only[h64,if_false] at q
    exact Zf q
 | _=>exact Zf q
theorem fK {p:Pos}(hm:C.X.mg "sorted"=none)(hg:Gl C.X "sorted")(ha:SE C a f)(he:autoParam (starEach [a] C.X.env=[(false,eval a C.X.env)]) ZE._auto_1):SE C (.Call (.Name "sorted" p) [a] [] pos) (Dv.eB1 Dv.sortedSD f):=lr kh hg hm BG ha (by decide) (by decide) he
theorem mT:OpS C (compareOp .NotIn) Dv.ninTD:=by
 refine⟨_,jd,λ x y d d' H Hv H1 Hv1 W Q e rx ry q=>?_⟩;cases d with
 | int i=>
  cases d' with
  | tup ds=>
   simp only[Dv.ninTD] at q;cases hi:Dv.inD i ds with
   | none=>rw[hi] at q;exact Zf q
   | some b=>
    rw[hi] at q;unfold Rp at rx ry;subst rx;obtain⟨l,vs,rfl,h1,h2⟩:=ry;obtain⟨z1,z2⟩:=iz i ds vs b hi h2;refine⟨l,vs,rfl,.inr (.inl (Rd.same e.vh h1)),rfl,z1,?_⟩;rw[z2];exact Ok.at (d:=.bl (!b)) (fr:=true) q e aZ rfl
  | _=>exact Zf q
 | _=>exact Zf q
theorem mj (ha:SE C a f)(hb:SE C b g)(hm:autoParam (behindInMarks .NotIn b=false) ZJ._auto_1):SC C (.Compare a [.NotIn] [b] pos) (Dv.eB2 Dv.ninTD f g):=cn mT ha hb hm
theorem qU {i:Nat}{x:Str}{px kpos:Pos}(he:SE C e f)(hk:SE C k g)(hN:autoParam (C.X.N[i]?=some x) ZE._auto_1)(hv:autoParam (Vis C.X.env.scope x) ZG._auto_1)
    (hd:autoParam ((x == ("__debug__":Str))=false) ZC._auto_1) (hcd:autoParam ((x == ("__classdict__":Str))=false) ZC._auto_1)
    (ha:autoParam (∀ v,assign (.Subscript (.Name x px) k kpos) C.X.env v=(do
      let ov <- holding [v] (eval (.Name x px) C.X.env)
      let iv <- holding [v,ov] (eval k C.X.env)
      standAt kpos
      holding [v,ov,iv] (setItem ov iv v)
      release [v,ov,iv] [])) ZD._auto_1)
    (hs:autoParam (swapsWithSole [.Subscript (.Name x px) k kpos] e pos.line C.X.env=pure false) ZE._auto_1) (hw:autoParam (swappedStores [.Subscript (.Name x px) k kpos] e C.X.env=pure none) ZE._auto_1)
    (h1:autoParam ((assignEach [.Subscript (.Name x px) k kpos] C.X.env).map (·.2)=[assign (.Subscript (.Name x px) k kpos) C.X.env]) ZE._auto_1):SSt C (.Assign [.Subscript (.Name x px) k kpos] e pos) (Dv.sPutF i g f):=by
  obtain⟨t,p,q⟩:=he;obtain⟨t2,p2,q2⟩:=hk;refine⟨_,iy p (nL (cW hN hv hd hcd) p2 set_list ha) hs hw h1,λ Hv₀ H₀ E σ H st ⟨Hc,O,r⟩ w=>?_⟩;unfold Dv.sPutF at w;cases hi:st[i]? with
  | none=>rw[hi] at w;exact Zf w
  | some s=>
    rw[hi] at w;cases s with
    | ow d0=>
     cases d0 with
     | lst ds=>
      obtain⟨a,vs,h1,h2,h5⟩:=r.own hi;refine q.all r (λ c hf H' r'=>?_) (λ hf=>?_) λ d fr v Hv' H' hf x r' rp n=>?_
      · simp only[hf] at w;exact Zf w
      · simp only[hf] at w;exact Zf w
      · simp only[hf] at w
        cases fr with
        | false=>exact Zf w
        | true=>
          have hn:∀ b o,Hnew H H' b=some o->Hc b=none:=λ b o h=>r.ch.free (cw h)
          have y:Ext Hc H (cI Hc (Hnew H H')) H':=by
            refine⟨x.hh,fq,λ b o h=>?_,λ b o h nn=>?_,λ b h=>?_,x.nf⟩
            · rcases cL h with h|⟨_,h⟩
              · exact x.hh _ _ (r.ch b o h)
              · exact Hnew.sub b o h
            · rcases cL h with h|⟨_,h⟩
              · rw[nn] at h;cases h
              · exact cw h
            · unfold cI Hnew
              rw[r.ch.free h,h]
          have r1:=r.growC y;refine⟨_,h1,?_⟩;refine q2.all r1 (λ c hg H2 r2=>?_) (λ hg=>?_) λ d2 fr2 v2 Hv2 H2 hg x2 r2 rp2 n2=>?_
          · simp only[hg] at w;exact Zf w
          · simp only[hg] at w;exact Zf w
          · simp only[hg] at w
            cases d2 with
            | int j=>
              unfold Rp at rp2;by_cases z:(decide (0<=j)&&decide (j<ds.length))=true
              · simp only[z,if_true] at w
                simp only[wq,decide_eq_true_eq] at z;have hl:=h5.length;obtain⟨O',r3⟩:=r2.put hi h1 ((h5.same fq).set (Rp.frag ((n rfl).same (iQ hn))) j.toNat);refine⟨a,vs,j,j.toNat,rfl,rp2,x2.hh _ _ (x.hh _ _ h2),?_,w σ _ ⟨_,O',r3⟩⟩;unfold ixN;rw[if_pos z.1,if_pos (by rw[hl];exact z.2)]
              · simp only[z] at w
                exact Zf w
            | _=>exact Zf w
     | _=>exact Zf w
    | _=>exact Zf w
theorem oG {i:Nat}{j:Nat}{x:Str}{apos cpos:Pos}{px kpos ipos:Pos}(he:SE C e f)(hN:autoParam (C.X.N[i]?=some x) ZE._auto_1)(hv:autoParam (Vis C.X.env.scope x) ZG._auto_1)
  (hd:autoParam ((x == ("__debug__":Str))=false) ZC._auto_1) (hcd:autoParam ((x == ("__classdict__":Str))=false) ZC._auto_1) (hst:autoParam (starEach [e] C.X.env=[(false,eval e C.X.env)]) ZE._auto_1)
  (hix:autoParam (iM (.Constant (.int 2) j kpos)) ZI._auto_1)
  (hbase:autoParam (attributeBase (.Subscript (.Name x px) (.Constant (.int 2) j kpos) ipos) "append" C.X.env (eval (.Subscript (.Name x px) (.Constant (.int 2) j kpos) ipos) C.X.env)=eval (.Subscript (.Name x px) (.Constant (.int 2) j kpos) ipos) C.X.env) ZE._auto_1)
  (hfew:autoParam (((backTo cpos (starEach [e] C.X.env)).all (λ x=>!x.1)&&(backToKw cpos (keywordEach [] C.X.env)).all (λ x=>x.1.isSome)
   && decide ([e].length+([]:List Keyword).length+(if ([]:List Keyword).isEmpty then 0 else 1)<30))=true) ZE._auto_1)
  (hline:autoParam ((apos.endLine == cpos.line)=true) ZE._auto_1)
  (hs:autoParam (swapsWith (.Call (.Attribute (.Subscript (.Name x px) (.Constant (.int 2) j kpos) ipos) "append" apos) [e] [] cpos) none pos.line C.X.env=pure false) ZE._auto_1):
  SSt C (.Expr (.Call (.Attribute (.Subscript (.Name x px) (.Constant (.int 2) j kpos) ipos) "append" apos) [e] [] cpos) pos) (Dv.sKill3 i f):=by
 obtain⟨t,p,q⟩:=he;refine⟨_,iK (rB CD Cu Cv gR (rT (ix_list.or oV) (cW hN hv hd hcd) oM hix) (aH p bD hst) hbase hfew hline hst rfl) hs,λ Hv₀ H₀ E σ H st ⟨Hc,O,r⟩ w=>?_⟩;unfold Dv.sKill3 at w
 split at w
 ·rename_i k00 k0 ds hi
  obtain⟨v,h1,h2⟩:=r.dp i _ hi;have rd:∀ {b:Addr} {o:HO},Rd (O i) b o->O i b=some o:=λ {b o} h=>by
   rcases h with h|⟨u,h⟩
   ·exact h
   ·exact absurd (r.oh i b _ h).1 (r.nf b _ _ (r.oh i b _ h).2.2)
  unfold Rp at h2;obtain⟨tt,vs,rfl,h3,h4⟩:=h2;unfold RpL at h4;obtain⟨v0,ws0,rfl,_,h5⟩:=h4;unfold RpL at h5;obtain⟨v1,ws1,rfl,_,h5⟩:=h5;unfold RpL at h5;obtain⟨v2,ws2,rfl,h6,h7⟩:=h5;unfold Rp at h6;obtain⟨b,ws,rfl,h8,h9⟩:=h6;have hb:O i b=some (.lst ws):=by
   rcases h8 with h8|⟨its,n,e,_⟩
   ·exact rd h8
   ·simp at e
  have hbl:=(r.oh i b _ hb).1;have hat:atI (v0::v1::.ref b::ws2) (2:Int)=some (.ref b):=qZ (j:=2) rfl;have hl:=h9.length
  split at w
  ·rename_i d fr hf
   by_cases z:(Dv.scal d&&decide (ds.length<Dv.mx))=true
   ·simp only[z,if_true] at w
    simp only[wq,decide_eq_true_eq] at z;have go:tyV C.X.K "list" (.ref b) H/\(nB t tT) σ H λ xs H2=>k6 (.ref b) xs H2 λ _ H3=>E.nx σ H3:=by
     refine⟨.inl ⟨rfl,ws,SqL.of hbl⟩,?_⟩;refine q.all r (λ c hf' H' r'=>?_) (λ hf'=>?_) λ d' fr' v Hv' H' hf' x r' rp nn=>?_
     ·rw[hf] at hf';cases hf'
     ·rw[hf] at hf';cases hf'
     ·rw[hf] at hf'
      cases hf';have z5:ds.length<100000:=z.2;have e1:(100000:Nat)<sizeLine:=by rw[A2];decide
      exact⟨b,ws,v,rfl,rfl,x.hh _ _ hbl,⋯,w σ _ ⟨Hc,_,r'.putAny (s:=.no) h1 hb (by intro _ _ z;cases z) (λ d e=>nomatch e) (λ n' m' e=>nomatch e) λ d=>⟨nofun,nofun⟩⟩⟩
    exact⟨_,h1,.inr ⟨tt,_,2,.ref b,rfl,rfl,.inl (.inl (r.oh i tt _ (rd h3)).1),hat,go⟩⟩
   ·simp only[z] at w;exact Zf w
  ·exact Zf w
 ·exact Zf w
theorem qI {i kt ks:Nat}{x:Str}{z:Str}{l:List Nat}{px pt ps:Pos}(he:SE C e f)(hN:autoParam (C.X.N[i]?=some x) ZE._auto_1)(hv:autoParam (Vis C.X.env.scope x) ZG._auto_1)(hd:autoParam ((x == ("__debug__":Str))=false) ZC._auto_1)
    (hcd:autoParam ((x == ("__classdict__":Str))=false) ZC._auto_1) (hz:autoParam (z.cps.toList=Dv.clipS l) ZH._auto_1) (h0:autoParam (starEach [.Constant (.str z) ks ps,e,.Name x px] C.X.env=(false,eval (.Constant (.str z) ks ps) C.X.env)::starEach [e,.Name x px] C.X.env) ZE._auto_1) (h1:autoParam (starEach [e,.Name x px] C.X.env=(false,eval e C.X.env)::starEach [.Name x px] C.X.env) ZE._auto_1) (h2:autoParam (starEach [.Name x px] C.X.env=[(false,eval (.Name x px) C.X.env)]) ZE._auto_1):
    SSt C (.Return (some (.Tuple [.Constant (.str z) ks ps,e,.Name x px] kt pt)) pos) (Dv.sRetR l f i):=by
  obtain⟨t,p,q⟩:=he;refine⟨_,kI (pB (aH kT (aH p (aH (cW hN hv hd hcd) bD h2) h1) h0)),λ Hv₀ H₀ E σ H st ⟨Hc,O,r⟩ w=>?_⟩;unfold Dv.sRetR at w;cases hi:st[i]? with
  | none=>rw[hi] at w;exact Zf w
  | some s=>
    rw[hi] at w;cases s with
    | ow d0=>
     cases d0 with
     | lst ds=>
      obtain⟨a,o,g1,g2,vs,rfl,g3⟩:=r.ow i _ hi;refine q.all r (λ c hf H' r'=>?_) (λ hf=>?_) λ d fr v Hv' H' hf x r' rp n=>?_
      · simp only[hf] at w;exact w σ H' ⟨Hc,O,r'⟩
      · simp only[hf] at w;exact w
      · cases d with
        | int m=>
          simp only[hf] at w;by_cases zz:Dv.flatL ds=true
          · simp only[zz,if_true] at w
            unfold Rp at rp;subst rp;refine⟨_,g1,by show 3<=sizeLine;decide,λ tt ht=>?_⟩;have y:=x.trans (Ext.new1 x.vh ht (.tup [.str z,.int m,.ref a]));obtain⟨Hv2,x2,s2⟩:=r.ret y;have ha:H a=some (.lst vs):=(r.oh i a _ g2).1;have na:a≠tt:=λ z=>by rw[<- z,x.hh _ _ ha] at ht;cases ht
            have h0t:H₀ tt=none:=(r.h0.trans x.hh).free ht;have rz:∀ K' H',Rp K' H' (.str l) (.str z):=λ K' H'=>by unfold Rp;rw[<- hz]
            have ri:∀ K' H',Rp K' H' (.int m) (.int m):=λ K' H'=>by unfold Rp;rfl
            refine w (.ref tt) Hv2 _ x2 ?_ λ _=>?_
            · unfold Rp
              refine⟨tt,_,rfl,.inl (s2 _ _ ax),.cons (rz _ _) (.cons (ri _ _) (.cons ?_ .nil))⟩;unfold Rp;exact⟨a,vs,rfl,SqX.of (s2 _ _ (y.vv _ _ (r.oAll i a _ g2))),g3.flat zz⟩
            · unfold Rp
              refine⟨tt,[.str z,.int m,.ref a],rfl,.inl ?_,.cons (rz _ _) (.cons (ri _ _) (.cons ?_ .nil))⟩
              · unfold Hnew;rw[h0t];exact ax
              · unfold Rp
                refine⟨a,vs,rfl,SqX.of ?_,g3.flat zz⟩;unfold Hnew;rw[(r.oh i a _ g2).2.2];show upd H' tt _ a=_
                rw[aq na];exact x.hh _ _ ha
          · simp only[zz] at w;exact Zf w
        | _=>simp only[hf] at w;exact Zf w
     | _=>exact Zf w
    | _=>exact Zf w
theorem qx {s2:Stmt}{ss:List Stmt}{G:SS}{i j:Nat}{v:Int}{x y:Str}{p1 p2 p3 p4:Pos}(hm:C.X.mg "list"=none)(hg:Gl C.X "list")(hf:∀ ρ,f ρ=.ok (.int v) true)(h2:SSt C s2 (Dv.sHeldIf i j f))(nd:C.X.N.Nodup)(hij:i≠j)(hi:C.X.N[i]?=some x)(hj:C.X.N[j]?=some y)(hyl:Loc C.X.env.scope y)
  (h3:SSs C ss G) (hv:autoParam (Vis C.X.env.scope x) ZG._auto_1) (hd:autoParam ((x == ("__debug__":Str))=false) ZC._auto_1) (hcd:autoParam ((x == ("__classdict__":Str))=false) ZC._auto_1) (he:autoParam (starEach [.Name x p3] C.X.env=[(false,eval (.Name x p3) C.X.env)]) ZE._auto_1)
  (hs:autoParam (swapsWith (.Call (.Name "list" p2) [.Name x p3] [] p4) (some (.Name y p1)) pos.line C.X.env=pure false) ZE._auto_1) (hfl:autoParam (C.X.fn y=true\/C.X.env.scope.names.lookup y=some .local) ZB._auto_1):
  SSs C (.Assign [.Name y p1] (.Call (.Name "list" p2) [.Name x p3] [] p4) pos::s2::ss) (Dv.sCons (Dv.sHeld i j v) G):=by
 obtain⟨t2,q2,k2⟩:=h2;obtain⟨t3,q3,k3⟩:=h3;refine⟨_,fB (iP nd hj hyl (gr dD hg hm PyProof.Rows.boot_list (aH (cW hi hv hd hcd) bD he) (by decide) (by decide) he rfl) hs hfl) (fB q2 q3),λ Hv₀ H₀ E σ H st ⟨Hc,O,r⟩ w=>?_⟩;have w':OkS C Hv₀ H₀ E ((Dv.sHeld i j v st).bind G):=w;clear w;have rd:∀ {b:Addr} {o:HO},Rd (O i) b o->O i b=some o:=λ {b o} h=>by
  rcases h with h|⟨u,h⟩
  ·exact h
  ·exact absurd (r.oh i b _ h).1 (r.nf b _ _ (r.oh i b _ h).2.2)
 have first:∀ {tt:Addr} {ws:List V} {ds':List D},σ[i]?=some (some (.ref tt))->H tt=some (.tup ws)->RpL C.X.K Hc ds' ws->OkS C Hv₀ H₀ { E with nx:=t3 E } (Dv.sHeldIf i j f (st.set j (.ow (.lst ds')))) ->
   sy (sL (tCB (λ xs H Q=>∃ p ys,xs=[.ref p]/\(SqL C.X.K H p ys\/SqT C.X.K H p ys)/\∀ l,H l=none->Q (.ref l) (upd H l (.lst ys))) (nB (sD i) tT)) (lB j)) (sy t2 t3) E σ H:=λ {tt ws ds'} e1 e2 rl ok=>by
  refine⟨_,e1,tt,ws,rfl,.inr (.inl (.inl e2)),λ l hl=>?_⟩;have ext:=Ext.new1 (Hv:=H) (H:=H) (.refl H) hl (.lst ws);have r0:=r.grow (fC hl (.lst ws)) λ b o u hb=>by
   by_cases q:b=l
   ·subst q;rw[ax];intro z;cases z
   ·rw[aq q,hb];intro z;cases z
  have r1:=r0.setOw (i:=j) (d:=.lst ds') (o:=.lst ws) (a:=l) ax (r.ch.free hl) (r.h0.free hl) (λ k hk=>by
   cases z:O k l with
   | none=>rfl
   | some u=>have:=(r.oh k l u z).1;rw[hl] at this;cases this) ⟨ws,rfl,rl⟩
  exact k2 Hv₀ H₀ _ _ _ _ ⟨_,_,r1⟩ ok
 have ai:∀ {s:Sl} {dd:D},st[i]?=some (.dp dd)->(Dv.all (st.set j s))[i]?=some (some dd):=λ {s dd} h=>by
  unfold Dv.all;rw[wH,wF (Ne.symm hij),h];rfl
 unfold Dv.sHeld at w'
 split at w'
 ·rename_i z m hst
  by_cases zz:(decide (i≠j)&&decide (j<st.length))=true
  ·simp only[zz,if_true] at w'
   obtain⟨u,g1,g2⟩:=r.dp i _ hst;unfold Rp at g2;obtain⟨tt,vs,rfl,g3,g4⟩:=g2;have ht:O i tt=some (.tup vs):=rd g3;have rl:RpL C.X.K Hc [.str z,.int m] vs:=g4.flat rfl;refine first g1 (r.oh i tt _ ht).1 rl ?_
   have e:Dv.sHeldIf i j f (st.set j (.ow (.lst [.str z,.int m])))=.nx (st.set j (.ow (.lst [.str z,.int m]))):=by
    simp only[Dv.sHeldIf,Dv.sIf,Dv.eCm,Dv.eB1,Dv.eVar,ai hst,Dv.R.bind,Dv.lenD,Dv.eInt,Dv.cmD_eq,Dv.cmD_ne,Dv.cmD_lt,Dv.cmD_le,Dv.cmD_gt,Dv.cmD_ge,Dv.cmD_in,Dv.cmD_ni,Dv.cmD_it,Dv.cmD_nt,Dv.depthD,Dv.eqD,Dv.optB,Dv.sNil,wA,xN];rfl
   rw[e];exact λ σ' H' r'=>k3 Hv₀ H₀ E σ' H' _ r' w'
  ·simp only[zz] at w';exact(show False from w').elim
 ·rename_i z m ds hst
  by_cases zz:(Dv.flatL ds&&decide (ds.length<Dv.mx)&&decide (i≠j)&&decide (j<st.length))=true
  ·simp only[zz,if_true] at w'
   simp only[wq,decide_eq_true_eq] at zz;obtain⟨u,g1,g2⟩:=r.dp i _ hst;unfold Rp at g2;obtain⟨tt,vs,rfl,g3,g4⟩:=g2;have ht:O i tt=some (.tup vs):=rd g3;unfold RpL at g4;obtain⟨v0,ws0,rfl,a0,g5⟩:=g4;unfold RpL at g5;obtain⟨v1,ws1,rfl,a1,g6⟩:=g5;unfold RpL at g6;obtain⟨v2,ws2,rfl,a2,g7⟩:=g6;unfold RpL at g7;subst g7;unfold Rp at a2;obtain⟨cc,us,rfl,a3,a4⟩:=a2;have rl:RpL C.X.K Hc [.str z,.int m,.raw cc] [v0,v1,.ref cc]:=.cons (a0.scal rfl) (.cons (a1.scal rfl) (.cons (by unfold Rp;rfl) .nil));refine first g1 (r.oh i tt _ ht).1 rl ?_
   have hlen:i<st.length:=(List.getElem?_eq_some_iff.mp hst).1;have e:Dv.sHeldIf i j f (st.set j (.ow (.lst [.str z,.int m,.raw cc])))=.nx ((st.set j (.ow (.lst [.str z,.int m,.lst ds]))).set i .no):=by
    have c1:Dv.eCm .eq (Dv.eB1 Dv.lenD (Dv.eVar i)) (Dv.eInt 3) (Dv.all (st.set j (.ow (.lst [.str z,.int m,.raw cc]))))=.ok (.bl true) true:=by
     simp only[Dv.eCm,Dv.eB1,Dv.eVar,ai hst,Dv.R.bind,Dv.lenD,Dv.eInt,wA,xN];rfl
    have c2:Dv.sPutF j (Dv.eInt 2) (Dv.eB1 Dv.listD (Dv.eIx (Dv.eVar i) (Dv.eInt 2))) (st.set j (.ow (.lst [.str z,.int m,.raw cc])))=.nx (st.set j (.ow (.lst [.str z,.int m,.lst ds]))):=by
     unfold Dv.sPutF;rw[wV zz.2];have e1:Dv.eB1 Dv.listD (Dv.eIx (Dv.eVar i) (Dv.eInt 2)) (Dv.all (st.set j (.ow (.lst [.str z,.int m,.raw cc]))))=.ok (.lst ds) true:=by
      simp only[Dv.eB1,Dv.eIx,Dv.eVar,ai hst,Dv.R.bind,Dv.eInt,Dv.ixD,show Dv.at? [D.str z,.int m,.lst ds] 2=some (.lst ds) from rfl,Dv.listD,zz.1.1.1,zd]
     simp only[e1,Dv.eInt];rw[Af];rfl
    have c3:Dv.sKill3 i f (st.set j (.ow (.lst [.str z,.int m,.lst ds])))=.nx ((st.set j (.ow (.lst [.str z,.int m,.lst ds]))).set i .no):=by
     unfold Dv.sKill3;rw[wF (Ne.symm hij),hst];simp only[hf,Dv.scal,zz.1.1.2,decide_true,yP,if_true]
    simp only[Dv.sHeldIf,Dv.sIf,c1,Dv.sCons,c2,Dv.Out.bind,c3]
   rw[e];exact λ σ' H' r'=>k3 Hv₀ H₀ E σ' H' _ r' w'
  ·simp only[zz] at w';exact(show False from w').elim
 ·exact(show False from w').elim
end
end Sd
namespace Cw
open Dv (eAnd eB1 eB2 eBl eCall eCm eComp eInt eIx eLst eNeg eNon eNot eOp eOr eSlice eStr eTup eVar iRange iRange2 iSeq iZip lCons lNil sApp sCons sExpr sFor sForT sHeld sIf sNil sPar sPut sRaise sRet sRetO sRetR sSet sSetD sSetG sTry sUnpack sUnpackL)
open Dv (D R)
def b_Q01_l1:Dv.SS:=
 (sCons (sIf (eOr (eCm .le (eVar 3) (eVar 2)) (eCm .ge (eVar 3) (eVar 1))) (sRaise "NoBeat") sNil) (sSetG [3] 2 (eVar 3)))
def b_Q01_t2:Dv.SS:=
 (sFor [0] 3 (iSeq (eVar 0)) b_Q01_l1)
def b_Q01_t1:Dv.SS:=
 (sCons (sSet 2 (eNeg (eInt 1))) b_Q01_t2)
def b_Q01:Dv.SS:=
 (sCons (sIf (eCm .eq (eB1 Dv.lenD (eVar 0)) (eInt 0)) (sRaise "NoBeat") sNil) b_Q01_t1)
def F_Q01:List D->R:=Dv.fn 4 b_Q01
def b_Q0N:Dv.SS:=
 (sRet (eAnd (eB1 Dv.isIntD (eVar 0)) (eNot (eB1 Dv.isBoolD (eVar 0)))))
def F_Q0N:List D->R:=Dv.fn 1 b_Q0N
def b_Q05_l1:Dv.SS:=
 (sIf (eOr (eNot (eCall F_Q0N (lCons (eVar 2) lNil))) (eCm .ne (eVar 2) (eVar 3))) (sRet (eBl false)) sNil)
def b_Q05_t2:Dv.SS:=
 (sRet (eBl true))
def b_Q05_t1:Dv.SS:=
 (sCons (sForT [0,1] (Dv.tupTo [2,3]) (iZip (eVar 0) (eVar 1)) b_Q05_l1) b_Q05_t2)
def b_Q05:Dv.SS:=
 (sCons (sIf (eOr (eNot (eB1 Dv.isListD (eVar 0))) (eCm .ne (eB1 Dv.lenD (eVar 0)) (eB1 Dv.lenD (eVar 1)))) (sRet (eBl false)) sNil) b_Q05_t1)
def F_Q05:List D->R:=Dv.fn 4 b_Q05
def c_Q0M_1:Dv.EE:=(eComp (eOp .mod (eOp .add (eVar 0) (eVar 2)) (eVar 1)) (eBl true) [0,2] (iSeq (eVar 1)))
def b_Q0M:Dv.SS:=
 (sRet (eB1 Dv.sortedD c_Q0M_1))
def F_Q0M:List D->R:=Dv.fn 3 b_Q0M
def c_Q04_1:Dv.EE:=(eComp (eOp .add (eVar 0) (eOp .mul (eVar 1) (eVar 2))) (eBl true) [4,0] (iSeq (eVar 1)))
def b_Q04_l1:Dv.SS:=
 (sSet 3 (eOp .add (eVar 3) c_Q04_1))
def b_Q04_t2:Dv.SS:=
 (sRetO 3)
def b_Q04_t1:Dv.SS:=
 (sCons (sFor [] 4 (iRange (eVar 2)) b_Q04_l1) b_Q04_t2)
def b_Q04:Dv.SS:=
 (sCons (sSet 3 (eLst lNil)) b_Q04_t1)
def F_Q04:List D->R:=Dv.fn 5 b_Q04
def b_Q0B_l1:Dv.SS:=
 (sCons (sSet 5 (eOp .mod (eVar 4) (eB1 Dv.lenD (eVar 2)))) (sIf (eOr (eCm .ge (eIx (eVar 2) (eVar 5)) (eOp .pow (eInt 10) (eInt 30))) (eCm .lt (eIx (eVar 2) (eVar 5)) (eOp .sub (eInt 0) (eOp .pow (eInt 10) (eInt 30))))) (sCons (sApp 3 (eOp .mod (eIx (eVar 2) (eVar 5)) (eOp .pow (eInt 10) (eInt 30)))) (sPut 2 (eVar 5) (eOp .fdiv (eIx (eVar 2) (eVar 5)) (eOp .pow (eInt 10) (eInt 30))))) (sCons (sSet 6 (eOp .mod (eOp .add (eOp .add (eOp .add (eOp .mul (eIx (eVar 2) (eVar 5)) (eInt 48271)) (eOp .mul (eOp .mul (eVar 4) (eVar 4)) (eInt 16807))) (eOp .mul (eInt 7919) (eVar 4))) (eInt 5)) (eInt 2147483647))) (sCons (sSet 7 (eOp .mod (eOp .add (eOp .mul (eVar 6) (eVar 6)) (eOp .mul (eVar 4) (eInt 39373))) (eInt 2147483629))) (sApp 3 (eOp .add (eOp .mul (eOp .mod (eOp .mul (eVar 6) (eVar 7)) (eInt 2147483587)) (eInt 2147483629)) (eVar 7)))))))
def b_Q0B_t3:Dv.SS:=
 (sRetO 3)
def b_Q0B_t2:Dv.SS:=
 (sCons (sFor [] 4 (iRange (eVar 1)) b_Q0B_l1) b_Q0B_t3)
def b_Q0B_t1:Dv.SS:=
 (sCons (sSet 3 (eLst lNil)) b_Q0B_t2)
def b_Q0B:Dv.SS:=
 (sCons (sSet 2 (eOp .add (eSlice (eVar 0) none (some (eInt 63))) (eOp .mul (eLst (lCons (eInt 0) lNil)) (eB1 Dv.intD (eCm .eq (eVar 0) (eLst lNil)))))) b_Q0B_t1)
def F_Q0B:List D->R:=Dv.fn 8 b_Q0B
def b_Q09:Dv.SS:=
 (sRet (eIx (eVar 0) (eVar 1)))
def F_Q09:List D->R:=Dv.fn 2 b_Q09
def bM:Dv.EE:=(eComp (eOp .add (eOp .mul (eVar 0) (eVar 2)) (eVar 1)) (eBl true) [10,7] (iSeq (eVar 3)))
def bN:Dv.EE:=(eComp (eOp .mul (eVar 0) (eVar 1)) (eBl true) [7] (iSeq (eVar 4)))
def bC:Dv.SS:=
 (sSet 9 (eOp .add (eVar 9) bM))
def aU:Dv.SS:=
 (sCons (sSet 6 (eOp .mod (eOp .mul (eCall F_Q09 (lCons (eVar 0) (lCons (eOp .add (eVar 1) (eVar 5)) lNil))) (eInt 48271)) (eInt 2147483647))) (sCons (sSet 7 (eIx (eLst (lCons (eInt 2) (lCons (eInt 3) (lCons (eInt 2) (lCons (eInt 5) (lCons (eInt 2) (lCons (eInt 3) (lCons (eInt 7) lNil)))))))) (eOp .mod (eVar 6) (eInt 7)))) (sCons (sSet 8 (eOp .mod (eOp .fdiv (eVar 6) (eInt 7)) (eInt 4))) (sCons (sIf (eCm .le (eOp .mul (eVar 2) (eVar 7)) (eInt 60)) (sCons (sIf (eCm .lt (eVar 8) (eInt 2)) (sSet 3 (eCall F_Q04 (lCons (eVar 2) (lCons (eVar 3) (lCons (eVar 7) lNil))))) (sCons (sSet 9 (eLst lNil)) (sCons (sFor [] 10 (iRange (eVar 7)) bC) (sCons (sSet 3 (eB1 Dv.sortedD (eVar 9))) (sSet 4 bN))))) (sSet 2 (eOp .mul (eVar 2) (eVar 7)))) sNil) (sIf (eCm .eq (eOp .mod (eOp .fdiv (eVar 6) (eInt 28)) (eInt 2)) (eInt 1)) (sPar [3,4] 3 4 (eVar 4) (eVar 3)) sNil)))))
def c_Q0L_1:Dv.EE:=(eComp (eOp .add (eOp .mul (eVar 0) (eVar 2)) (eVar 1)) (eBl true) [10,7] (iSeq (eVar 3)))
def c_Q0L_2:Dv.EE:=(eComp (eOp .mul (eVar 0) (eVar 1)) (eBl true) [7] (iSeq (eVar 4)))
def b_Q0L_l1:Dv.SS:=
 (sSet 9 (eOp .add (eVar 9) c_Q0L_1))
def b_Q0L_l2:Dv.SS:=
 (sCons (sSet 6 (eOp .mod (eOp .mul (eCall F_Q09 (lCons (eVar 0) (lCons (eOp .add (eVar 1) (eVar 5)) lNil))) (eInt 48271)) (eInt 2147483647))) (sCons (sSet 7 (eIx (eLst (lCons (eInt 2) (lCons (eInt 3) (lCons (eInt 2) (lCons (eInt 5) (lCons (eInt 2) (lCons (eInt 3) (lCons (eInt 7) lNil)))))))) (eOp .mod (eVar 6) (eInt 7)))) (sCons (sSet 8 (eOp .mod (eOp .fdiv (eVar 6) (eInt 7)) (eInt 4))) (sCons (sIf (eCm .le (eOp .mul (eVar 2) (eVar 7)) (eInt 60)) (sCons (sIf (eCm .lt (eVar 8) (eInt 2)) (sSet 3 (eCall F_Q04 (lCons (eVar 2) (lCons (eVar 3) (lCons (eVar 7) lNil))))) (sCons (sSet 9 (eLst lNil)) (sCons (sFor [] 10 (iRange (eVar 7)) b_Q0L_l1) (sCons (sSet 3 (eB1 Dv.sortedD (eVar 9))) (sSet 4 c_Q0L_2))))) (sSet 2 (eOp .mul (eVar 2) (eVar 7)))) sNil) (sIf (eCm .eq (eOp .mod (eOp .fdiv (eVar 6) (eInt 28)) (eInt 2)) (eInt 1)) (sPar [3,4] 3 4 (eVar 4) (eVar 3)) sNil)))))
def b_Q0L_t5:Dv.SS:=
 (sRet (eTup (lCons (eVar 2) (lCons (eVar 3) (lCons (eCall F_Q0M (lCons (eVar 2) (lCons (eVar 4) (lCons (eOp .mod (eCall F_Q09 (lCons (eVar 0) (lCons (eOp .add (eVar 1) (eInt 7)) lNil))) (eVar 2)) lNil)))) lNil)))))
def b_Q0L_t4:Dv.SS:=
 (sCons (sSet 3 (eCall F_Q0M (lCons (eVar 2) (lCons (eVar 3) (lCons (eOp .mod (eCall F_Q09 (lCons (eVar 0) (lCons (eOp .add (eVar 1) (eInt 6)) lNil))) (eVar 2)) lNil))))) b_Q0L_t5)
def b_Q0L_t3:Dv.SS:=
 (sCons (sFor [] 5 (iRange (eInt 6)) b_Q0L_l2) b_Q0L_t4)
def b_Q0L_t2:Dv.SS:=
 (sCons (sSet 4 (eLst (lCons (eInt 0) lNil))) b_Q0L_t3)
def b_Q0L_t1:Dv.SS:=
 (sCons (sSet 3 (eLst (lCons (eInt 0) lNil))) b_Q0L_t2)
def b_Q0L:Dv.SS:=
 (sCons (sSet 2 (eInt 1)) b_Q0L_t1)
def F_Q0L:List D->R:=Dv.fn 11 b_Q0L
def b_Q00_t1:Dv.SS:=
 (sIf (eOr (eCm .ne (eIx (eVar 0) (eInt 0)) (eInt 0)) (eCm .gt (eB1 Dv.lenD (eVar 0)) (eInt 12))) (sRaise "NoBeat") sNil)
def b_Q00:Dv.SS:=
 (sCons (sExpr (eCall F_Q01 (lCons (eVar 0) (lCons (eOp .add (eInt 60) (eInt 1)) lNil)))) b_Q00_t1)
def F_Q00:List D->R:=Dv.fn 1 b_Q00
def c_Q0R_1:Dv.EE:=(eComp (eB2 Dv.shlD (eInt 1) (eVar 0)) (eBl true) [] (iSeq (eVar 0)))
def b_Q0R:Dv.SS:=
 (sRet (eB1 Dv.sumD c_Q0R_1))
def F_Q0R:List D->R:=Dv.fn 1 b_Q0R
def b_Q02_t1:Dv.SS:=
 (sIf (eOr (eCm .lt (eVar 1) (eInt 0)) (eCm .ge (eVar 1) (eCall F_Q0R (lCons (eLst (lCons (eIx (eVar 0) (eNeg (eInt 1))) lNil)) lNil)))) (sRaise "NoWindow") sNil)
def b_Q02:Dv.SS:=
 (sCons (sExpr (eCall F_Q00 (lCons (eVar 0) lNil))) b_Q02_t1)
def F_Q02:List D->R:=Dv.fn 2 b_Q02
def b_Q0Q_t4:Dv.SS:=
 (sRet (eTup (lCons (eBl true) (lCons (eOp .fdiv (eOp .add (eVar 1) (eVar 2)) (eInt 2)) lNil))))
def b_Q0Q_t3:Dv.SS:=
 (sCons (sIf (eCm .ne (eB2 Dv.bandD (eVar 1) (eVar 2)) (eInt 0)) (sRet eNon) sNil) b_Q0Q_t4)
def b_Q0Q_t2:Dv.SS:=
 (sCons (sSet 2 (eCall F_Q0R (lCons (eVar 0) lNil))) b_Q0Q_t3)
def b_Q0Q_t1:Dv.SS:=
 (sCons (sIf (eCm .eq (eOp .mod (eVar 1) (eInt 2)) (eInt 1)) (sRet (eTup (lCons (eBl false) (lCons (eOp .fdiv (eVar 1) (eInt 2)) lNil)))) sNil) b_Q0Q_t2)
def b_Q0Q:Dv.SS:=
 (sCons (sExpr (eCall F_Q02 (lCons (eVar 0) (lCons (eVar 1) lNil)))) b_Q0Q_t1)
def F_Q0Q:List D->R:=Dv.fn 3 b_Q0Q
def b_Q0P_l1:Dv.SS:=
 (sCons (sSetG [0,3] 5 (eCall F_Q0Q (lCons (eVar 0) (lCons (eVar 3) lNil)))) (sCons (sIf (eB1 (λ d _=>Dv.isNonD d true) (eVar 5)) (sRet (eTup (lCons (eStr [115,116,117,99,107]) (lCons (eVar 4) lNil)))) sNil) (sCons (sIf (eIx (eVar 5) (eInt 0)) (sApp 2 (eVar 4)) sNil) (sCons (sSet 3 (eIx (eVar 5) (eInt 1))) (sIf (eCm .eq (eVar 3) (eVar 1)) (sRetR [97,103,97,105,110] (eOp .add (eVar 4) (eInt 1)) 2) sNil)))))
def b_Q0P_t3:Dv.SS:=
 (sRaise "TooMany")
def b_Q0P_t2:Dv.SS:=
 (sCons (sFor [] 4 (iRange (eInt 2000)) b_Q0P_l1) b_Q0P_t3)
def b_Q0P_t1:Dv.SS:=
 (sCons (sSetG [1] 3 (eVar 1)) b_Q0P_t2)
def b_Q0P:Dv.SS:=
 (sCons (sSet 2 (eLst lNil)) b_Q0P_t1)
def F_Q0P:List D->R:=Dv.fn 6 b_Q0P
def c_Q0J_1:Dv.EE:=(eComp (eOp .sub (eVar 0) (eIx (eVar 1) (eInt 0))) (eBl true) [4] (iSeq (eVar 4)))
def c_Q0J_2:Dv.EE:=(eComp (eOp .sub (eVar 0) (eIx (eVar 1) (eInt 0))) (eBl true) [5] (iSeq (eVar 5)))
def c_Q0J_3:Dv.EE:=(eComp (eOp .add (eVar 0) (eOp .mul (eOp .mod (eCall F_Q09 (lCons (eVar 1) (lCons (eOp .add (eVar 2) (eInt 9)) lNil))) (eInt 3)) (eB1 Dv.intD (eCm .gt (eVar 0) (eInt 0))))) (eBl true) [0,1] (iSeq (eVar 4)))
def c_Q0J_4:Dv.EE:=(eComp (eVar 0) (eCm .le (eVar 0) (eVar 1)) [2] (iSeq (eVar 4)))
def b_Q0J_l1:Dv.SS:=
 (sApp 4 (eOp .add (eOp .add (eIx (eVar 4) (eNeg (eInt 1))) (eInt 1)) (eOp .mod (eCall F_Q09 (lCons (eVar 0) (lCons (eOp .add (eOp .add (eVar 1) (eInt 9)) (eVar 7)) lNil))) (eInt 5))))
def b_Q0J_t6:Dv.SS:=
 (sRet (eSlice c_Q0J_4 none (some (eInt 12))))
def b_Q0J_t5:Dv.SS:=
 (sCons (sIf (eCm .eq (eVar 6) (eInt 3)) (sSet 4 c_Q0J_3) sNil) b_Q0J_t6)
def b_Q0J_t4:Dv.SS:=
 (sCons (sIf (eCm .eq (eVar 6) (eInt 2)) (sCons (sSet 4 (eLst (lCons (eInt 0) lNil))) (sFor [] 7 (iRange (eOp .mod (eOp .fdiv (eCall F_Q09 (lCons (eVar 0) (lCons (eOp .add (eVar 1) (eInt 8)) lNil))) (eInt 4)) (eInt 12))) b_Q0J_l1)) sNil) b_Q0J_t5)
def b_Q0J_t3:Dv.SS:=
 (sCons (sIf (eCm .eq (eVar 6) (eInt 1)) (sSet 4 c_Q0J_2) sNil) b_Q0J_t4)
def b_Q0J_t2:Dv.SS:=
 (sCons (sSet 4 c_Q0J_1) b_Q0J_t3)
def b_Q0J_t1:Dv.SS:=
 (sCons (sSet 6 (eOp .mod (eCall F_Q09 (lCons (eVar 0) (lCons (eOp .add (eVar 1) (eInt 8)) lNil))) (eInt 4))) b_Q0J_t2)
def b_Q0J:Dv.SS:=
 (sCons (sUnpack [0,1] [3,4,5] (eCall F_Q0L (lCons (eVar 0) (lCons (eVar 1) lNil)))) b_Q0J_t1)
def F_Q0J:List D->R:=Dv.fn 8 b_Q0J
def b_Q0H_l1:Dv.SS:=
 (sIf (eAnd (eCm .gt (eVar 5) (eVar 4)) (eCm .isin (eOp .mod (eOp .sub (eVar 4) (eVar 5)) (eVar 1)) (eVar 2))) (sSet 3 (eB2 Dv.borD (eVar 3) (eB2 Dv.shlD (eInt 1) (eVar 4)))) sNil)
def b_Q0H_l2:Dv.SS:=
 (sFor [0] 5 (iSeq (eVar 0)) b_Q0H_l1)
def b_Q0H_t2:Dv.SS:=
 (sRetO 3)
def b_Q0H_t1:Dv.SS:=
 (sCons (sFor [0] 4 (iRange (eIx (eVar 0) (eNeg (eInt 1)))) b_Q0H_l2) b_Q0H_t2)
def b_Q0H:Dv.SS:=
 (sCons (sSet 3 (eInt 0)) b_Q0H_t1)
def F_Q0H:List D->R:=Dv.fn 6 b_Q0H
def c_Q07_1:Dv.EE:=(eComp (eOp .sub (eVar 0) (eIx (eVar 1) (eInt 0))) (eBl true) [4] (iSeq (eVar 4)))
def b_Q07_t8:Dv.SS:=
 (sRet (eLst (lCons (eVar 4) (lCons (eCall F_Q0H (lCons (eVar 4) (lCons (eVar 3) (lCons (eCall F_Q0M (lCons (eVar 3) (lCons (eVar 5) (lCons (eOp .mod (eCall F_Q09 (lCons (eVar 0) (lCons (eInt 31) lNil))) (eVar 3)) lNil)))) lNil)))) lNil))))
def b_Q07_t7:Dv.SS:=
 (sCons (sIf (eCm .gt (eB1 Dv.lenD (eVar 4)) (eInt 12)) (sRet (eLst (lCons (eVar 1) (lCons (eVar 2) lNil)))) sNil) b_Q07_t8)
def b_Q07_t6:Dv.SS:=
 (sCons (sSet 4 c_Q07_1) b_Q07_t7)
def b_Q07_t5:Dv.SS:=
 (sCons (sIf (eCm .gt (eB1 Dv.lenD (eVar 4)) (eInt 12)) (sUnpack [4,5] [4,5] (eTup (lCons (eVar 5) (lCons (eVar 4) lNil)))) sNil) b_Q07_t6)
def b_Q07_t4:Dv.SS:=
 (sCons (sUnpack [0] [3,4,5] (eCall F_Q0L (lCons (eVar 0) (lCons (eInt 1) lNil)))) b_Q07_t5)
def b_Q07_t3:Dv.SS:=
 (sCons (sIf (eCm .eq (eOp .mod (eCall F_Q09 (lCons (eVar 0) (lCons (eInt 0) lNil))) (eInt 2)) (eInt 1)) (sRet (eLst (lCons (eVar 1) (lCons (eVar 2) lNil)))) sNil) b_Q07_t4)
def b_Q07_t2:Dv.SS:=
 (sCons (sIf (eCm .eq (eOp .mod (eCall F_Q09 (lCons (eVar 0) (lCons (eInt 0) lNil))) (eInt 4)) (eInt 1)) (sRet (eLst (lCons (eVar 1) (lCons (eInt 0) lNil)))) sNil) b_Q07_t3)
def b_Q07_t1:Dv.SS:=
 (sCons (sSet 2 (eOp .mod (eCall F_Q09 (lCons (eVar 0) (lCons (eInt 30) lNil))) (eB2 Dv.shlD (eInt 1) (eIx (eVar 1) (eNeg (eInt 1)))))) b_Q07_t2)
def b_Q07:Dv.SS:=
 (sCons (sSet 1 (eCall F_Q0J (lCons (eVar 0) (lCons (eInt 1) (lCons (eInt 14) lNil))))) b_Q07_t1)
def F_Q07:List D->R:=Dv.fn 6 b_Q07
def c_Q0E_1:Dv.EE:=(eComp (eB2 Dv.shlD (eInt 1) (eVar 0)) (eBl true) [] (iSeq (eVar 0)))
def b_Q0E_l1:Dv.SS:=
 (sCons (sIf (eCm .eq (eOp .mod (eVar 3) (eInt 2)) (eInt 1)) (sSet 3 (eOp .fdiv (eVar 3) (eInt 2))) (sIf (eCm .gt (eB2 Dv.bandD (eVar 3) (eVar 4)) (eInt 0)) (sRetO 5) (sSet 3 (eOp .fdiv (eOp .add (eVar 3) (eVar 4)) (eInt 2))))) (sIf (eCm .eq (eVar 3) (eVar 1)) (sRet (eNeg (eInt 1))) sNil))
def b_Q0E_t3:Dv.SS:=
 (sRetO 2)
def b_Q0E_t2:Dv.SS:=
 (sCons (sFor [] 5 (iRange (eVar 2)) b_Q0E_l1) b_Q0E_t3)
def b_Q0E_t1:Dv.SS:=
 (sCons (sSet 4 (eB1 Dv.sumD c_Q0E_1)) b_Q0E_t2)
def b_Q0E:Dv.SS:=
 (sCons (sSetG [1] 3 (eVar 1)) b_Q0E_t1)
def F_Q0E:List D->R:=Dv.fn 6 b_Q0E
def c_Q0A_1:Dv.EE:=(eComp (eOp .mod (eOp .add (eVar 2) (eVar 0)) (eVar 1)) (eBl true) [2,5] (iSeq (eVar 0)))
def b_Q0A_l1:Dv.SS:=
 (sSet 4 (eOp .add (eVar 4) c_Q0A_1))
def b_Q0A_t4:Dv.SS:=
 (sRet (eAnd (eCm .eq (eB1 Dv.sortedSD (eVar 4)) (eB1 Dv.listRangeD (eVar 2))) (eCm .eq (eCall F_Q0H (lCons (eVar 0) (lCons (eVar 2) (lCons (eVar 3) lNil)))) (eVar 1))))
def b_Q0A_t3:Dv.SS:=
 (sCons (sFor [3] 5 (iSeq (eVar 3)) b_Q0A_l1) b_Q0A_t4)
def b_Q0A_t2:Dv.SS:=
 (sCons (sSet 4 (eLst lNil)) b_Q0A_t3)
def b_Q0A_t1:Dv.SS:=
 (sCons (sIf (eOr (eNot (eCall F_Q05 (lCons (eVar 3) (lCons (eB1 Dv.sortSetSD (eVar 3)) lNil)))) (eAnd (eCm .ne (eVar 3) (eLst lNil)) (eOr (eCm .lt (eIx (eVar 3) (eInt 0)) (eInt 0)) (eCm .ge (eIx (eVar 3) (eNeg (eInt 1))) (eVar 2))))) (sRet (eBl false)) sNil) b_Q0A_t2)
def b_Q0A:Dv.SS:=
 (sCons (sIf (eOr (eNot (eCall F_Q0N (lCons (eVar 2) lNil))) (eOr (eCm .lt (eVar 2) (eInt 1)) (eOr (eCm .gt (eVar 2) (eInt 2000)) (eNot (eB1 Dv.isListD (eVar 3)))))) (sRet (eBl false)) sNil) b_Q0A_t1)
def F_Q0A:List D->R:=Dv.fn 6 b_Q0A
def c_Q0G_1:Dv.EE:=(eComp (eOp .mod (eOp .add (eVar 0) (eVar 2)) (eVar 1)) (eBl true) [0,2] (iSeq (eVar 1)))
def b_Q0G_l1:Dv.SS:=
 (sIf (eAnd (eCm .eq (eOp .mod (eVar 0) (eVar 2)) (eInt 0)) (eCm .eq (eB1 Dv.sortedSD c_Q0G_1) (eVar 1))) (sRet (eBl false)) sNil)
def b_Q0G_t1:Dv.SS:=
 (sRet (eBl true))
def b_Q0G:Dv.SS:=
 (sCons (sFor [] 2 (iRange2 (eInt 1) (eVar 0)) b_Q0G_l1) b_Q0G_t1)
def F_Q0G:List D->R:=Dv.fn 3 b_Q0G
def b_Q0D_t3:Dv.SS:=
 (sRet (eCall F_Q0G (lCons (eIx (eVar 0) (eInt 1)) (lCons (eIx (eVar 0) (eInt 2)) lNil))))
def b_Q0D_t2:Dv.SS:=
 (sCons (sIf (eOr (eCm .ne (eIx (eVar 0) (eInt 0)) (eStr [97,103,97,105,110])) (eNot (eCall F_Q0A (lCons (eVar 1) (lCons (eVar 2) (lCons (eIx (eVar 0) (eInt 1)) (lCons (eIx (eVar 0) (eInt 2)) lNil))))))) (sRet (eBl false)) sNil) b_Q0D_t3)
def b_Q0D_t1:Dv.SS:=
 (sCons (sIf (eCm .eq (eB1 Dv.lenD (eVar 0)) (eInt 2)) (sRet (eAnd (eCm .eq (eIx (eVar 0) (eInt 0)) (eStr [115,116,117,99,107])) (eAnd (eCall F_Q0N (lCons (eIx (eVar 0) (eInt 1)) lNil)) (eCm .eq (eIx (eVar 0) (eInt 1)) (eCall F_Q0E (lCons (eVar 1) (lCons (eVar 2) (lCons (eInt 2000) lNil)))))))) sNil) b_Q0D_t2)
def b_Q0D:Dv.SS:=
 (sCons (sIf (eOr (eNot (eB1 Dv.isTupD (eVar 0))) (eB2 Dv.ninTD (eB1 Dv.lenD (eVar 0)) (eTup (lCons (eInt 2) (lCons (eInt 3) lNil))))) (sRet (eBl false)) sNil) b_Q0D_t1)
def F_Q0D:List D->R:=Dv.fn 3 b_Q0D
def b_Q0F_t8:Dv.SS:=
 (sRet (eCm .eq (eB1 Dv.listD (eCall F_Q0P (lCons (eVar 3) (lCons (eVar 2) lNil)))) (eVar 6)))
def b_Q0F_t7:Dv.SS:=
 (sCons (sHeld 4 6 (-1)) b_Q0F_t8)
def b_Q0F_t6:Dv.SS:=
 (sCons (sIf (eOr (eNot (eCall F_Q0D (lCons (eVar 4) (lCons (eVar 1) (lCons (eVar 2) lNil))))) (eCm .ne (eVar 3) (eVar 1))) (sRet (eBl false)) sNil) b_Q0F_t7)
def b_Q0F_t5:Dv.SS:=
 (sCons (sIf (eVar 5) (sRet (eAnd (eB1 (λ d _=>Dv.isNonD d true) (eVar 4)) (eCm .eq (eCall F_Q0E (lCons (eVar 1) (lCons (eVar 2) (lCons (eInt 2000) lNil)))) (eInt 2000)))) sNil) b_Q0F_t6)
def b_Q0F_t4:Dv.SS:=
 (sCons (sTry ["WheelError","NoBeat","NoWindow","TooMany"] "TooMany" (sSetD 4 (eCall F_Q0P (lCons (eVar 3) (lCons (eVar 2) lNil)))) (sSet 5 (eBl true))) b_Q0F_t5)
def b_Q0F_t3:Dv.SS:=
 (sCons (sSet 5 (eBl false)) b_Q0F_t4)
def b_Q0F_t2:Dv.SS:=
 (sCons (sSetD 4 eNon) b_Q0F_t3)
def b_Q0F_t1:Dv.SS:=
 (sCons (sSet 3 (eB1 Dv.listD (eVar 1))) b_Q0F_t2)
def b_Q0F:Dv.SS:=
 (sCons (sUnpackL [0] [1,2] (eCall F_Q07 (lCons (eCall F_Q0B (lCons (eVar 0) (lCons (eInt 32) lNil))) lNil))) b_Q0F_t1)
def F_Q0F:List D->R:=Dv.fn 7 b_Q0F
end Cw
namespace Lk52
open PySem PySem.Spec PyProof.Rows L2 Sd Cw
open Dv (D R RL EE EL EI RI Sl Out SS)
def top (i:Nat):Stmt:=PySem.Challenge.pw_canonwheel_k52_whole_runs.main.body.getD i (.Pass ⟨0,0,0,0⟩)
section
variable {P:Program}{w:World}{K:Av}{mg:Str->Option Value}{base:Heap}{ad:String->Option Addr}
abbrev s_Q01:Stmt:=top 6
theorem sc_check_rising:FnScope ["numbers","end","before","number"] ["numbers","end"] (ah s_Q01):=by constructor<;>first|rfl|decide +kernel
theorem ok_Q01 {f:Addr}{fd:FuncData}(d:Df K mg "check_rising" s_Q01 ["numbers","end"] f fd)(xa:XAll K mg ad){C_0:Addr}(h_NoBeat:ad "NoBeat"=some C_0)(z_len:mg "len"=none):
  FnOk P w K mg base (CXe P w) 1 f fd ["numbers","end"] (spD K (aP ad) F_Q01 2):=by
 have nd:=sc_check_rising.nd;refine Df.is cxe_ok ["numbers","end","before","number"] 0 b_Q01 d sc_check_rising rfl rfl rfl λ cdv A outer s H E hr=>?_
 exact(ag (aF (bT (cj z_len rfl (aa 0)) af) (cX (xa.cl _ _ h_NoBeat).1 (cm h_NoBeat) rfl) ay) (ag (ar (i:=2) (cN af) nd rfl (Or.inl rfl)) (aj (bJ [0] (i:=3) (aM (aa 0)) (ag (aF (dq (bZ (nJ (aa 3) (aa 2)) (bo _ (lK (aa 3) (aa 1))))) (cX (xa.cl _ _ h_NoBeat).1 (cm h_NoBeat) rfl) ay) (aj (fk [3] (i:=2) (aa 3) nd rfl (Or.inl rfl)))) nd rfl (Or.inl rfl)))))
abbrev cY:=Fu "check_rising" s_Q01 ["numbers","end"] 1 F_Q01 2
abbrev s_Q00:Stmt:=top 11
theorem sc_check_line_beat:FnScope ["beat"] ["beat"] (ah s_Q00):=by constructor<;>first|rfl|decide +kernel
theorem ok_Q00 {f:Addr}{fd:FuncData}(d:Df K mg "check_line_beat" s_Q00 ["beat"] f fd)(q_check_rising:cY P w K mg base ad)(xa:XAll K mg ad){C_0:Addr}(h_NoBeat:ad "NoBeat"=some C_0)(z_len:mg "len"=none){t_LAST_NUMBER:Tok}(n_LAST_NUMBER:mg "LAST_NUMBER"=some (.int 60 t_LAST_NUMBER)){t_MOST_NUMBERS:Tok}(n_MOST_NUMBERS:mg "MOST_NUMBERS"=some (.int 12 t_MOST_NUMBERS)):
  FnOk P w K mg base (CXe P w) 2 f fd ["beat"] (spD K (aP ad) F_Q00 1):=by
 have nd:=sc_check_line_beat.nd;refine Df.is cxe_ok ["beat"] 1 b_Q00 d sc_check_line_beat rfl rfl rfl λ cdv A outer s H E hr=>?_
 exact(ag (iY (aC q_check_rising.d q_check_rising.o hr (by decide) rfl (ae (aa 0) (ae (aB (ki rfl n_LAST_NUMBER) af) ak)))) (aj (aF (dq (bZ (fG (aL (aa 0) af) af) (bo _ (hU (cj z_len rfl (aa 0)) (ki rfl n_MOST_NUMBERS))))) (cX (xa.cl _ _ h_NoBeat).1 (cm h_NoBeat) rfl) ay)))
abbrev cb:=Fu "check_line_beat" s_Q00 ["beat"] 2 F_Q00 1
abbrev s_Q0R:Stmt:=top 13
theorem sc_powers_of_two:FnScope ["numbers"] ["numbers"] (ah s_Q0R):=by constructor<;>first|rfl|decide +kernel
theorem ok_Q0R {f:Addr}{fd:FuncData}(d:Df K mg "powers_of_two" s_Q0R ["numbers"] f fd)(z_sum:mg "sum"=none):
  FnOk P w K mg base (CXe P w) 1 f fd ["numbers"] (spD K (aP ad) F_Q0R 1):=by
 have nd:=sc_powers_of_two.nd;refine Df.is cxe_ok ["numbers"] 0 b_Q0R d sc_powers_of_two rfl rfl rfl λ cdv A outer s H E hr=>?_
 exact(aj (aA (nY z_sum rfl (bb (fs:=[]) (is:=[]) (fe:=(Dv.eB2 Dv.shlD (Dv.eInt 1) (Dv.eVar 0))) (fc:=(Dv.eBl true)) (az (fsc:=ah s_Q0R) (N:=["numbers"]) rfl rfl (by decide +kernel)) (aM (aa 0)) (λ cl L s₀ H₀ ex=>(iZ af (aa 0))) (λ cl L s₀ H₀ ex=>bK)))))
abbrev bL:=Fu "powers_of_two" s_Q0R ["numbers"] 1 F_Q0R 1
abbrev s_Q02:Stmt:=top 12
theorem sc_check_window:FnScope ["beat","window"] ["beat","window"] (ah s_Q02):=by constructor<;>first|rfl|decide +kernel
theorem ok_Q02 {f:Addr}{fd:FuncData}(d:Df K mg "check_window" s_Q02 ["beat","window"] f fd)(q_check_line_beat:cb P w K mg base ad)(q_powers_of_two:bL P w K mg base ad)(xa:XAll K mg ad){C_1:Addr}(h_NoWindow:ad "NoWindow"=some C_1):
  FnOk P w K mg base (CXe P w) 3 f fd ["beat","window"] (spD K (aP ad) F_Q02 2):=by
 have nd:=sc_check_window.nd;refine Df.is cxe_ok ["beat","window"] 2 b_Q02 d sc_check_window rfl rfl rfl λ cdv A outer s H E hr=>?_
 exact(ag (iY (aC q_check_line_beat.d q_check_line_beat.o hr (by decide) rfl (ae (aa 0) ak))) (aj (aF (dq (bZ (jj (aa 1) af) (bo _ (lK (aa 1) (aC q_powers_of_two.d q_powers_of_two.o hr (by decide) rfl (ae (aT (ae (aL (aa 0) (cN af)) ak)) ak)))))) (cX (xa.cl _ _ h_NoWindow).1 (cm h_NoWindow) rfl) ay)))
abbrev cM:=Fu "check_window" s_Q02 ["beat","window"] 3 F_Q02 2
abbrev s_Q0Q:Stmt:=top 14
theorem sc_line_step:FnScope ["beat","window","shape"] ["beat","window"] (ah s_Q0Q):=by constructor<;>first|rfl|decide +kernel
theorem ok_Q0Q {f:Addr}{fd:FuncData}(d:Df K mg "line_step" s_Q0Q ["beat","window"] f fd)(q_check_window:cM P w K mg base ad)(q_powers_of_two:bL P w K mg base ad):
  FnOk P w K mg base (CXe P w) 4 f fd ["beat","window"] (spD K (aP ad) F_Q0Q 2):=by
 have nd:=sc_line_step.nd;refine Df.is cxe_ok ["beat","window","shape"] 3 b_Q0Q d sc_line_step rfl rfl rfl λ cdv A outer s H E hr=>?_
 exact(ag (iY (aC q_check_window.d q_check_window.o hr (by decide) rfl (ae (aa 0) (ae (aa 1) ak)))) (ag (aF (bT (aG (aa 1) af) af) (aj (aA (el (ae b8 (ae (b7 (aa 1) af) ak))))) ay) (ag (ar (i:=2) (aC q_powers_of_two.d q_powers_of_two.o hr (by decide) rfl (ae (aa 0) ak)) nd rfl (Or.inl rfl)) (ag (aF (fG (j8 (aa 1) (aa 2)) af) (aj (aA iI)) ay) (aj (aA (el (ae b8 (ae (b7 (aB (aa 1) (aa 2)) af) ak)))))))))
abbrev eR:=Fu "line_step" s_Q0Q ["beat","window"] 4 F_Q0Q 2
abbrev s_Q0O:Stmt:=top 15
theorem sc_line_run:FnScope ["beat","window","starts","now","place","step"] ["beat","window"] (ah s_Q0O):=by constructor<;>first|rfl|decide +kernel
theorem ok_Q0O {f:Addr}{fd:FuncData}(d:Df K mg "line_run" s_Q0O ["beat","window"] f fd)(q_line_step:eR P w K mg base ad)(xa:XAll K mg ad){C_2:Addr}(h_TooMany:ad "TooMany"=some C_2)(z_range:mg "range"=none){t_MOST_STEPS:Tok}(n_MOST_STEPS:mg "MOST_STEPS"=some (.int 2000 t_MOST_STEPS)):
  FnOk P w K mg base (CXe P w) 5 f fd ["beat","window"] (spD K (aP ad) F_Q0P 2):=by
 have nd:=sc_line_run.nd;refine Df.is cxe_ok ["beat","window","starts","now","place","step"] 4 b_Q0P d sc_line_run rfl rfl rfl λ cdv A outer s H E hr=>?_
 exact(ag (ar (i:=2) (aT ak) nd rfl (Or.inl rfl)) (ag (fk [1] (i:=3) (aa 1) nd rfl (Or.inl rfl)) (ag (bJ [] (i:=4) (bI rfl z_range (ki rfl n_MOST_STEPS)) (ag (fk [0,3] (i:=5) (aC q_line_step.d q_line_step.o hr (by decide) rfl (ae (aa 0) (ae (aa 3) ak))) nd rfl (Or.inl rfl)) (ag (aF (sP (aa 5)) (aj (aA (el (ae kK (ae (aa 4) ak))))) ay) (ag (aF (cg (aL (aa 5) af)) (aj (i4 (i:=2) (aa 4))) ay) (ag (ar (i:=3) (aL (aa 5) af) nd rfl (Or.inl rfl)) (aj (aF (bT (aa 3) (aa 1)) (aj (qI (i:=2) (aB (aa 4) af))) ay)))))) nd rfl (Or.inl rfl)) (cX (xa.cl _ _ h_TooMany).1 (cm h_TooMany) rfl))))
abbrev fO:=Fu "line_run" s_Q0O ["beat","window"] 5 F_Q0P 2
abbrev s_Q0B:Stmt:=top 17
theorem sc_law_draws:FnScope ["_law_script","_law_many","_law_left_here","_law_found","_law_k","_law_at","_law_one","_law_other"] ["_law_script","_law_many"] (ah s_Q0B):=by constructor<;>first|rfl|decide +kernel
theorem ok_Q0B {f:Addr}{fd:FuncData}(d:Df K mg "_law_draws" s_Q0B ["_law_script","_law_many"] f fd)(z_int:mg "int"=none)(z_range:mg "range"=none)(z_len:mg "len"=none):
  FnOk P w K mg base (CXe P w) 1 f fd ["_law_script","_law_many"] (spD K (aP ad) F_Q0B 2):=by
 have nd:=sc_law_draws.nd;refine Df.is cxe_ok ["_law_script","_law_many","_law_left_here","_law_found","_law_k","_law_at","_law_one","_law_other"] 0 b_Q0B d sc_law_draws rfl rfl rfl λ cdv A outer s H E hr=>?_
 exact(ag (ar (i:=2) (aB (jC (aa 0) lx (lC af)) (aW (aT (ae af ak)) (k9 z_int rfl (fJ (aa 0) (aT ak))))) nd rfl (Or.inl rfl)) (ag (ar (i:=3) (aT ak) nd rfl (Or.inl rfl)) (ag (bJ [] (i:=4) (bI rfl z_range (aa 1)) (ag (ar (i:=5) (aG (aa 4) (cj z_len rfl (aa 2))) nd rfl (Or.inl rfl)) (aj (aF (dq (bZ (lK (aL (aa 2) (aa 5)) (i9 af af)) (bo _ (jj (aL (aa 2) (aa 5)) (fw af (i9 af af)))))) (ag (i4 (i:=3) (aG (aL (aa 2) (aa 5)) (i9 af af))) (aj (rZ (i:=2) (b7 (aL (aa 2) (aa 5)) (i9 af af)) (aa 5)))) (ag (ar (i:=6) (aG (aB (aB (aB (aW (aL (aa 2) (aa 5)) af) (aW (aW (aa 4) (aa 4)) af)) (aW af (aa 4))) af) af) nd rfl (Or.inl rfl)) (ag (ar (i:=7) (aG (aB (aW (aa 6) (aa 6)) (aW (aa 4) af)) af) nd rfl (Or.inl rfl)) (aj (i4 (i:=3) (aB (aW (aG (aW (aa 6) (aa 7)) af) af) (aa 7))))))))) nd rfl (Or.inl rfl)) (aj (dZ 3)))))
abbrev eS:=Fu "_law_draws" s_Q0B ["_law_script","_law_many"] 1 F_Q0B 2
abbrev s_Q08:Stmt:=top 18
theorem sc_law_cell:FnScope ["_law_draws_here","_law_k"] ["_law_draws_here","_law_k"] (ah s_Q08):=by constructor<;>first|rfl|decide +kernel
theorem ok_Q08 {f:Addr}{fd:FuncData}(d:Df K mg "_law_cell" s_Q08 ["_law_draws_here","_law_k"] f fd):
  FnOk P w K mg base (CXe P w) 1 f fd ["_law_draws_here","_law_k"] (spD K (aP ad) F_Q09 2):=by
 have nd:=sc_law_cell.nd;refine Df.is cxe_ok ["_law_draws_here","_law_k"] 0 b_Q09 d sc_law_cell rfl rfl rfl λ cdv A outer s H E hr=>?_
 exact(aj (aA (aL (aa 0) (aa 1))))
abbrev cF:=Fu "_law_cell" s_Q08 ["_law_draws_here","_law_k"] 1 F_Q09 2
abbrev s_Q0N:Stmt:=top 19
theorem sc_law_whole:FnScope ["_law_found"] ["_law_found"] (ah s_Q0N):=by constructor<;>first|rfl|decide +kernel
theorem ok_Q0N {f:Addr}{fd:FuncData}(d:Df K mg "_law_whole" s_Q0N ["_law_found"] f fd)(z_isinstance:mg "isinstance"=none)(z_int:mg "int"=none)(z_bool:mg "bool"=none):
  FnOk P w K mg base (CXe P w) 1 f fd ["_law_found"] (spD K (aP ad) F_Q0N 1):=by
 have nd:=sc_law_whole.nd;refine Df.is cxe_ok ["_law_found"] 0 b_Q0N d sc_law_whole rfl rfl rfl λ cdv A outer s H E hr=>?_
 exact(aj (aA (fP (n4 z_isinstance z_int rfl rfl (aa 0)) (iN (tu (mY z_isinstance z_bool rfl rfl (aa 0)))))))
abbrev bY:=Fu "_law_whole" s_Q0N ["_law_found"] 1 F_Q0N 1
abbrev s_Q05:Stmt:=top 20
theorem sc_law_beat_is:FnScope ["_law_found","_law_due","_law_one","_law_other"] ["_law_found","_law_due"] (ah s_Q05):=by constructor<;>first|rfl|decide +kernel
theorem ok_Q05 {f:Addr}{fd:FuncData}(d:Df K mg "_law_beat_is" s_Q05 ["_law_found","_law_due"] f fd)(q_law_whole:bY P w K mg base ad)(z_isinstance:mg "isinstance"=none)(z_list:mg "list"=none)(z_len:mg "len"=none)(z_zip:mg "zip"=none):
  FnOk P w K mg base (CXe P w) 2 f fd ["_law_found","_law_due"] (spD K (aP ad) F_Q05 2):=by
 have nd:=sc_law_beat_is.nd;refine Df.is cxe_ok ["_law_found","_law_due","_law_one","_law_other"] 1 b_Q05 d sc_law_beat_is rfl rfl rfl λ cdv A outer s H E hr=>?_
 exact(ag (aF (dq (bZ (cK (cg (gG z_isinstance z_list rfl rfl (aa 0)))) (bo _ (fG (cj z_len rfl (aa 0)) (cj z_len rfl (aa 1)))))) (aj (aA b8)) ay) (ag (lz [0,1] (tm rfl z_zip (aa 0) (aa 1)) (tU (xs:=[2,3]) (bf (i:=2) (bf (i:=3) fZ nd rfl (Or.inl rfl)) nd rfl (Or.inl rfl)) rfl) (aj (aF (dq (bZ (cK (cg (aC q_law_whole.d q_law_whole.o hr (by decide) rfl (ae (aa 2) ak)))) (bo _ (fG (aa 2) (aa 3))))) (aj (aA b8)) ay))) (aj (aA b8))))
abbrev c9:=Fu "_law_beat_is" s_Q05 ["_law_found","_law_due"] 2 F_Q05 2
abbrev s_Q0M:Stmt:=top 21
theorem sc_law_turned:FnScope ["_law_length","_law_beat","_law_by"] ["_law_length","_law_beat","_law_by"] (ah s_Q0M):=by constructor<;>first|rfl|decide +kernel
theorem ok_Q0M {f:Addr}{fd:FuncData}(d:Df K mg "_law_turned" s_Q0M ["_law_length","_law_beat","_law_by"] f fd)(z_sorted:mg "sorted"=none):
  FnOk P w K mg base (CXe P w) 1 f fd ["_law_length","_law_beat","_law_by"] (spD K (aP ad) F_Q0M 3):=by
 have nd:=sc_law_turned.nd;refine Df.is cxe_ok ["_law_length","_law_beat","_law_by"] 0 b_Q0M d sc_law_turned rfl rfl rfl λ cdv A outer s H E hr=>?_
 exact(aj (aA (gY z_sorted rfl (bb (fs:=["_law_length","_law_by"]) (is:=[0,2]) (fe:=(Dv.eOp .mod (Dv.eOp .add (Dv.eVar 0) (Dv.eVar 2)) (Dv.eVar 1))) (fc:=(Dv.eBl true)) (az (fsc:=ah s_Q0M) (N:=["_law_length","_law_beat","_law_by"]) rfl rfl (by decide +kernel)) (aM (aa 1)) (λ cl L s₀ H₀ ex=>(aG (aB (aa 0) (aa 2)) (aa 1))) (λ cl L s₀ H₀ ex=>bK)))))
abbrev cB:=Fu "_law_turned" s_Q0M ["_law_length","_law_beat","_law_by"] 1 F_Q0M 3
abbrev s_Q04:Stmt:=top 22
theorem sc_law_again:FnScope ["_law_length","_law_beat","_law_times","_law_found","_law_k"] ["_law_length","_law_beat","_law_times"] (ah s_Q04):=by constructor<;>first|rfl|decide +kernel
theorem ok_Q04 {f:Addr}{fd:FuncData}(d:Df K mg "_law_again" s_Q04 ["_law_length","_law_beat","_law_times"] f fd)(z_range:mg "range"=none):
  FnOk P w K mg base (CXe P w) 1 f fd ["_law_length","_law_beat","_law_times"] (spD K (aP ad) F_Q04 3):=by
 have nd:=sc_law_again.nd;refine Df.is cxe_ok ["_law_length","_law_beat","_law_times","_law_found","_law_k"] 0 b_Q04 d sc_law_again rfl rfl rfl λ cdv A outer s H E hr=>?_
 exact(ag (ar (i:=3) (aT ak) nd rfl (Or.inl rfl)) (ag (bJ [] (i:=4) (bI rfl z_range (aa 2)) (aj (ar (i:=3) (aB (aa 3) (bb (fs:=["_law_k","_law_length"]) (is:=[4,0]) (fe:=(Dv.eOp .add (Dv.eVar 0) (Dv.eOp .mul (Dv.eVar 1) (Dv.eVar 2)))) (fc:=(Dv.eBl true)) (az (fsc:=ah s_Q04) (N:=["_law_length","_law_beat","_law_times","_law_found","_law_k"]) rfl rfl (by decide +kernel)) (aM (aa 1)) (λ cl L s₀ H₀ ex=>(aB (aa 0) (aW (aa 1) (aa 2)))) (λ cl L s₀ H₀ ex=>bK))) nd rfl (Or.inl rfl))) nd rfl (Or.inr rfl)) (aj (dZ 3))))
abbrev eT:=Fu "_law_again" s_Q04 ["_law_length","_law_beat","_law_times"] 1 F_Q04 3
abbrev s_Q0K:Stmt:=top 23
theorem sc_law_pair:FnScope ["_law_script","_law_start","_law_length","_law_one","_law_other","_law_k","_law_number","_law_times","_law_kind","_law_more","_law_j"] ["_law_script","_law_start"] (ah s_Q0K):=by constructor<;>first|rfl|decide +kernel
theorem ok_Q0K {f:Addr}{fd:FuncData}(d:Df K mg "_law_pair" s_Q0K ["_law_script","_law_start"] f fd)(q_law_cell:cF P w K mg base ad)(q_law_again:eT P w K mg base ad)(q_law_turned:cB P w K mg base ad)(z_range:mg "range"=none)(z_sorted:mg "sorted"=none):
  FnOk P w K mg base (CXe P w) 2 f fd ["_law_script","_law_start"] (spD K (aP ad) F_Q0L 2):=by
 have nd:=sc_law_pair.nd;refine Df.is cxe_ok ["_law_script","_law_start","_law_length","_law_one","_law_other","_law_k","_law_number","_law_times","_law_kind","_law_more","_law_j"] 1 b_Q0L d sc_law_pair rfl rfl rfl λ cdv A outer s H E hr=>?_
 exact(ag (ar (i:=2) af nd rfl (Or.inl rfl)) (ag (ar (i:=3) (aT (ae af ak)) nd rfl (Or.inl rfl)) (ag (ar (i:=4) (aT (ae af ak)) nd rfl (Or.inl rfl)) (ag (bJ [] (i:=5) (bI rfl z_range af) (ag (ar (i:=6) (aG (aW (aC q_law_cell.d q_law_cell.o hr (by decide) rfl (ae (aa 0) (ae (aB (aa 1) (aa 5)) ak))) af) af) nd rfl (Or.inl rfl)) (ag (ar (i:=7) (aL (aT (ae af (ae af (ae af (ae af (ae af (ae af (ae af ak)))))))) (aG (aa 6) af)) nd rfl (Or.inr rfl)) (ag (ar (i:=8) (aG (b7 (aa 6) af) af) nd rfl (Or.inl rfl)) (ag (aF (nJ (aW (aa 2) (aa 7)) af) (ag (aF (jj (aa 8) af) (aj (ar (i:=3) (aC q_law_again.d q_law_again.o hr (by decide) rfl (ae (aa 2) (ae (aa 3) (ae (aa 7) ak)))) nd rfl (Or.inl rfl))) (ag (ar (i:=9) (aT ak) nd rfl (Or.inl rfl)) (ag (bJ [] (i:=10) (bI rfl z_range (aa 7)) (aj (ar (i:=9) (aB (aa 9) (bb (fs:=["_law_j","_law_times"]) (is:=[10,7]) (fe:=(Dv.eOp .add (Dv.eOp .mul (Dv.eVar 0) (Dv.eVar 2)) (Dv.eVar 1))) (fc:=(Dv.eBl true)) (az (fsc:=ah s_Q0K) (N:=["_law_script","_law_start","_law_length","_law_one","_law_other","_law_k","_law_number","_law_times","_law_kind","_law_more","_law_j"]) rfl rfl (by decide +kernel)) (aM (aa 3)) (λ cl L s₀ H₀ ex=>(aB (aW (aa 0) (aa 2)) (aa 1))) (λ cl L s₀ H₀ ex=>bK))) nd rfl (Or.inl rfl))) nd rfl (Or.inr rfl)) (ag (ar (i:=3) (gY z_sorted rfl (aa 9)) nd rfl (Or.inl rfl)) (aj (ka (i:=4) (fs:=["_law_times"]) (is:=[7]) (fe:=(Dv.eOp .mul (Dv.eVar 0) (Dv.eVar 1))) (fc:=(Dv.eBl true)) (az (fsc:=ah s_Q0K) (N:=["_law_script","_law_start","_law_length","_law_one","_law_other","_law_k","_law_number","_law_times","_law_kind","_law_more","_law_j"]) rfl rfl (by decide +kernel)) (aM (aa 4)) (λ cl L s₀ H₀ ex=>(aW (aa 0) (aa 1))) (λ cl L s₀ H₀ ex=>bK) nd rfl rfl)))))) (aj (ar (i:=2) (aW (aa 2) (aa 7)) nd rfl (Or.inl rfl)))) ay) (aj (aF (bT (aG (b7 (aa 6) af) af) af) (aj (tZ [3,4] (i:=3) (j:=4) (aa 4) (aa 3) nd rfl rfl (by decide) rfl rfl)) ay)))))) nd rfl (Or.inl rfl)) (ag (ar (i:=3) (aC q_law_turned.d q_law_turned.o hr (by decide) rfl (ae (aa 2) (ae (aa 3) (ae (aG (aC q_law_cell.d q_law_cell.o hr (by decide) rfl (ae (aa 0) (ae (aB (aa 1) af) ak))) (aa 2)) ak)))) nd rfl (Or.inl rfl)) (aj (aA (el (ae (aa 2) (ae (aa 3) (ae (aC q_law_turned.d q_law_turned.o hr (by decide) rfl (ae (aa 2) (ae (aa 4) (ae (aG (aC q_law_cell.d q_law_cell.o hr (by decide) rfl (ae (aa 0) (ae (aB (aa 1) af) ak))) (aa 2)) ak)))) ak)))))))))))
abbrev dj:=Fu "_law_pair" s_Q0K ["_law_script","_law_start"] 2 F_Q0L 2
abbrev s_Q0I:Stmt:=top 24
theorem sc_law_line_beat:FnScope ["_law_script","_law_start","_law_most","_law_length","_law_beat","_law_starts","_law_kind","_law_k"] ["_law_script","_law_start","_law_most"] (ah s_Q0I):=by constructor<;>first|rfl|decide +kernel
theorem ok_Q0I {f:Addr}{fd:FuncData}(d:Df K mg "_law_line_beat" s_Q0I ["_law_script","_law_start","_law_most"] f fd)(q_law_pair:dj P w K mg base ad)(q_law_cell:cF P w K mg base ad)(z_range:mg "range"=none)(z_int:mg "int"=none):
  FnOk P w K mg base (CXe P w) 3 f fd ["_law_script","_law_start","_law_most"] (spD K (aP ad) F_Q0J 3):=by
 have nd:=sc_law_line_beat.nd;refine Df.is cxe_ok ["_law_script","_law_start","_law_most","_law_length","_law_beat","_law_starts","_law_kind","_law_k"] 2 b_Q0J d sc_law_line_beat rfl rfl rfl λ cdv A outer s H E hr=>?_
 exact(ag (eE [0,1] (xs:=[3,4,5]) (aC q_law_pair.d q_law_pair.o hr (by decide) rfl (ae (aa 0) (ae (aa 1) ak))) (bf (i:=3) (bf (i:=4) (bf (i:=5) fZ nd rfl (Or.inr rfl)) nd rfl (Or.inr rfl)) nd rfl (Or.inl rfl)) rfl) (ag (ar (i:=6) (aG (aC q_law_cell.d q_law_cell.o hr (by decide) rfl (ae (aa 0) (ae (aB (aa 1) af) ak))) af) nd rfl (Or.inl rfl)) (ag (ar (i:=4) (bb (fs:=["_law_beat"]) (is:=[4]) (fe:=(Dv.eOp .sub (Dv.eVar 0) (Dv.eIx (Dv.eVar 1) (Dv.eInt 0)))) (fc:=(Dv.eBl true)) (az (fsc:=ah s_Q0I) (N:=["_law_script","_law_start","_law_most","_law_length","_law_beat","_law_starts","_law_kind","_law_k"]) rfl rfl (by decide +kernel)) (aM (aa 4)) (λ cl L s₀ H₀ ex=>(fw (aa 0) (aL (aa 1) af))) (λ cl L s₀ H₀ ex=>bK)) nd rfl (Or.inr rfl)) (ag (aF (bT (aa 6) af) (aj (ar (i:=4) (bb (fs:=["_law_starts"]) (is:=[5]) (fe:=(Dv.eOp .sub (Dv.eVar 0) (Dv.eIx (Dv.eVar 1) (Dv.eInt 0)))) (fc:=(Dv.eBl true)) (az (fsc:=ah s_Q0I) (N:=["_law_script","_law_start","_law_most","_law_length","_law_beat","_law_starts","_law_kind","_law_k"]) rfl rfl (by decide +kernel)) (aM (aa 5)) (λ cl L s₀ H₀ ex=>(fw (aa 0) (aL (aa 1) af))) (λ cl L s₀ H₀ ex=>bK)) nd rfl (Or.inr rfl))) ay) (ag (aF (bT (aa 6) af) (ag (ar (i:=4) (aT (ae af ak)) nd rfl (Or.inr rfl)) (aj (bJ [] (i:=7) (bI rfl z_range (aG (b7 (aC q_law_cell.d q_law_cell.o hr (by decide) rfl (ae (aa 0) (ae (aB (aa 1) af) ak))) af) af)) (aj (i4 (i:=4) (aB (aB (aL (aa 4) (cN af)) af) (aG (aC q_law_cell.d q_law_cell.o hr (by decide) rfl (ae (aa 0) (ae (aB (aB (aa 1) af) (aa 7)) ak))) af)))) nd rfl (Or.inl rfl)))) ay) (ag (aF (bT (aa 6) af) (aj (ar (i:=4) (bb (fs:=["_law_script","_law_start"]) (is:=[0,1]) (fe:=(Dv.eOp .add (Dv.eVar 0) (Dv.eOp .mul (Dv.eOp .mod (Dv.eCall F_Q09 (Dv.lCons (Dv.eVar 1) (Dv.lCons (Dv.eOp .add (Dv.eVar 2) (Dv.eInt 9)) Dv.lNil))) (Dv.eInt 3)) (Dv.eB1 Dv.intD (Dv.eCm .gt (Dv.eVar 0) (Dv.eInt 0)))))) (fc:=(Dv.eBl true)) (az (fsc:=ah s_Q0I) (N:=["_law_script","_law_start","_law_most","_law_length","_law_beat","_law_starts","_law_kind","_law_k"]) rfl rfl (by decide +kernel)) (aM (aa 4)) (λ cl L s₀ H₀ ex=>(aB (aa 0) (aW (aG (aC q_law_cell.d q_law_cell.o hr (by decide) rfl (ae (aa 1) (ae (aB (aa 2) af) ak))) af) (k9 z_int rfl (uz (aa 0) af))))) (λ cl L s₀ H₀ ex=>bK)) nd rfl (Or.inr rfl))) ay) (aj (aA (jC (bb (fs:=["_law_most"]) (is:=[2]) (fe:=(Dv.eVar 0)) (fc:=(Dv.eCm .le (Dv.eVar 0) (Dv.eVar 1))) (az (fsc:=ah s_Q0I) (N:=["_law_script","_law_start","_law_most","_law_length","_law_beat","_law_starts","_law_kind","_law_k"]) rfl rfl (by decide +kernel)) (aM (aa 4)) (λ cl L s₀ H₀ ex=>(aa 0)) (λ cl L s₀ H₀ ex=>(sM (nJ (aa 0) (aa 1))))) lx (lC af))))))))))
abbrev cH:=Fu "_law_line_beat" s_Q0I ["_law_script","_law_start","_law_most"] 3 F_Q0J 3
abbrev s_Q0H:Stmt:=top 25
theorem sc_law_left:FnScope ["_law_beat","_law_length","_law_starts","_law_window","_law_place","_law_own"] ["_law_beat","_law_length","_law_starts"] (ah s_Q0H):=by constructor<;>first|rfl|decide +kernel
theorem ok_Q0H {f:Addr}{fd:FuncData}(d:Df K mg "_law_left" s_Q0H ["_law_beat","_law_length","_law_starts"] f fd)(z_range:mg "range"=none):
  FnOk P w K mg base (CXe P w) 1 f fd ["_law_beat","_law_length","_law_starts"] (spD K (aP ad) F_Q0H 3):=by
 have nd:=sc_law_left.nd;refine Df.is cxe_ok ["_law_beat","_law_length","_law_starts","_law_window","_law_place","_law_own"] 0 b_Q0H d sc_law_left rfl rfl rfl λ cdv A outer s H E hr=>?_
 exact(ag (ar (i:=3) af nd rfl (Or.inl rfl)) (ag (bJ [0] (i:=4) (bI rfl z_range (aL (aa 0) (cN af))) (aj (bJ [0] (i:=5) (aM (aa 0)) (aj (aF (dq (kL (hU (aa 5) (aa 4)) (bo _ (uW (aG (fw (aa 4) (aa 5)) (aa 1)) (aa 2))))) (aj (ar (i:=3) (rf (aa 3) (iZ af (aa 4))) nd rfl (Or.inl rfl))) ay)) nd rfl (Or.inl rfl))) nd rfl (Or.inl rfl)) (aj (dZ 3))))
abbrev dh:=Fu "_law_left" s_Q0H ["_law_beat","_law_length","_law_starts"] 1 F_Q0H 3
abbrev s_Q06:Stmt:=top 26
theorem sc_law_case:FnScope ["_law_script","_law_beat","_law_window","_law_length","_law_one","_law_other"] ["_law_script"] (ah s_Q06):=by constructor<;>first|rfl|decide +kernel
theorem ok_Q06 {f:Addr}{fd:FuncData}(d:Df K mg "_law_case" s_Q06 ["_law_script"] f fd)(q_law_line_beat:cH P w K mg base ad)(q_law_cell:cF P w K mg base ad)(q_law_pair:dj P w K mg base ad)(q_law_left:dh P w K mg base ad)(q_law_turned:cB P w K mg base ad)(z_len:mg "len"=none):
  FnOk P w K mg base (CXe P w) 4 f fd ["_law_script"] (spD K (aP ad) F_Q07 1):=by
 have nd:=sc_law_case.nd;refine Df.is cxe_ok ["_law_script","_law_beat","_law_window","_law_length","_law_one","_law_other"] 3 b_Q07 d sc_law_case rfl rfl rfl λ cdv A outer s H E hr=>?_
 exact(ag (ar (i:=1) (aC q_law_line_beat.d q_law_line_beat.o hr (by decide) rfl (ae (aa 0) (ae af (ae af ak)))) nd rfl (Or.inl rfl)) (ag (ar (i:=2) (aG (aC q_law_cell.d q_law_cell.o hr (by decide) rfl (ae (aa 0) (ae af ak))) (iZ af (aL (aa 1) (cN af)))) nd rfl (Or.inl rfl)) (ag (aF (bT (aG (aC q_law_cell.d q_law_cell.o hr (by decide) rfl (ae (aa 0) (ae af ak))) af) af) (aj (aA (aT (ae (aa 1) (ae af ak))))) ay) (ag (aF (bT (aG (aC q_law_cell.d q_law_cell.o hr (by decide) rfl (ae (aa 0) (ae af ak))) af) af) (aj (aA (aT (ae (aa 1) (ae (aa 2) ak))))) ay) (ag (eE [0] (xs:=[3,4,5]) (aC q_law_pair.d q_law_pair.o hr (by decide) rfl (ae (aa 0) (ae af ak))) (bf (i:=3) (bf (i:=4) (bf (i:=5) fZ nd rfl (Or.inl rfl)) nd rfl (Or.inr rfl)) nd rfl (Or.inl rfl)) rfl) (ag (aF (hU (cj z_len rfl (aa 4)) af) (aj (eE [4,5] (xs:=[4,5]) (el (ae (aa 5) (ae (aa 4) ak))) (bf (i:=4) (bf (i:=5) fZ nd rfl (Or.inl rfl)) nd rfl (Or.inr rfl)) rfl)) ay) (ag (ar (i:=4) (bb (fs:=["_law_one"]) (is:=[4]) (fe:=(Dv.eOp .sub (Dv.eVar 0) (Dv.eIx (Dv.eVar 1) (Dv.eInt 0)))) (fc:=(Dv.eBl true)) (az (fsc:=ah s_Q06) (N:=["_law_script","_law_beat","_law_window","_law_length","_law_one","_law_other"]) rfl rfl (by decide +kernel)) (aM (aa 4)) (λ cl L s₀ H₀ ex=>(fw (aa 0) (aL (aa 1) af))) (λ cl L s₀ H₀ ex=>bK)) nd rfl (Or.inr rfl)) (ag (aF (hU (cj z_len rfl (aa 4)) af) (aj (aA (aT (ae (aa 1) (ae (aa 2) ak))))) ay) (aj (aA (aT (ae (aa 4) (ae (aC q_law_left.d q_law_left.o hr (by decide) rfl (ae (aa 4) (ae (aa 3) (ae (aC q_law_turned.d q_law_turned.o hr (by decide) rfl (ae (aa 3) (ae (aa 5) (ae (aG (aC q_law_cell.d q_law_cell.o hr (by decide) rfl (ae (aa 0) (ae af ak))) (aa 3)) ak)))) ak)))) ak)))))))))))))
abbrev gh:=Fu "_law_case" s_Q06 ["_law_script"] 4 F_Q07 1
abbrev s_Q0E:Stmt:=top 27
theorem sc_law_here:FnScope ["_law_beat","_law_window","_law_last","_law_here_here","_law_shape","_law_at"] ["_law_beat","_law_window","_law_last"] (ah s_Q0E):=by constructor<;>first|rfl|decide +kernel
theorem ok_Q0E {f:Addr}{fd:FuncData}(d:Df K mg "_law_here" s_Q0E ["_law_beat","_law_window","_law_last"] f fd)(z_sum:mg "sum"=none)(z_range:mg "range"=none):
  FnOk P w K mg base (CXe P w) 1 f fd ["_law_beat","_law_window","_law_last"] (spD K (aP ad) F_Q0E 3):=by
 have nd:=sc_law_here.nd;refine Df.is cxe_ok ["_law_beat","_law_window","_law_last","_law_here_here","_law_shape","_law_at"] 0 b_Q0E d sc_law_here rfl rfl rfl λ cdv A outer s H E hr=>?_
 exact(ag (fk [1] (i:=3) (aa 1) nd rfl (Or.inl rfl)) (ag (ar (i:=4) (nY z_sum rfl (bb (fs:=[]) (is:=[]) (fe:=(Dv.eB2 Dv.shlD (Dv.eInt 1) (Dv.eVar 0))) (fc:=(Dv.eBl true)) (az (fsc:=ah s_Q0E) (N:=["_law_beat","_law_window","_law_last","_law_here_here","_law_shape","_law_at"]) rfl rfl (by decide +kernel)) (aM (aa 0)) (λ cl L s₀ H₀ ex=>(iZ af (aa 0))) (λ cl L s₀ H₀ ex=>bK))) nd rfl (Or.inl rfl)) (ag (bJ [] (i:=5) (bI rfl z_range (aa 2)) (ag (aF (bT (aG (aa 3) af) af) (aj (ar (i:=3) (b7 (aa 3) af) nd rfl (Or.inl rfl))) (aj (aF (hU (j8 (aa 3) (aa 4)) af) (aj (dZ 5)) (aj (ar (i:=3) (b7 (aB (aa 3) (aa 4)) af) nd rfl (Or.inl rfl)))))) (aj (aF (bT (aa 3) (aa 1)) (aj (aA (cN af))) ay))) nd rfl (Or.inl rfl)) (aj (dZ 2)))))
abbrev dk:=Fu "_law_here" s_Q0E ["_law_beat","_law_window","_law_last"] 1 F_Q0E 3
abbrev s_Q0A:Stmt:=top 28
theorem sc_law_comes:FnScope ["_law_beat","_law_window","_law_length","_law_starts","_law_rests","_law_start"] ["_law_beat","_law_window","_law_length","_law_starts"] (ah s_Q0A):=by constructor<;>first|rfl|decide +kernel
theorem ok_Q0A {f:Addr}{fd:FuncData}(d:Df K mg "_law_comes" s_Q0A ["_law_beat","_law_window","_law_length","_law_starts"] f fd)(q_law_whole:bY P w K mg base ad)(q_law_beat_is:c9 P w K mg base ad)(q_law_left:dh P w K mg base ad)(z_isinstance:mg "isinstance"=none)(z_list:mg "list"=none)(z_sorted:mg "sorted"=none)(z_set:mg "set"=none)(z_range:mg "range"=none):
  FnOk P w K mg base (CXe P w) 3 f fd ["_law_beat","_law_window","_law_length","_law_starts"] (spD K (aP ad) F_Q0A 4):=by
 have nd:=sc_law_comes.nd;refine Df.is cxe_ok ["_law_beat","_law_window","_law_length","_law_starts","_law_rests","_law_start"] 2 b_Q0A d sc_law_comes rfl rfl rfl λ cdv A outer s H E hr=>?_
 exact(ag (aF (dq (bZ (cK (cg (aC q_law_whole.d q_law_whole.o hr (by decide) rfl (ae (aa 2) ak)))) (bZ (jj (aa 2) af) (bZ (hU (aa 2) af) (bo _ (cK (cg (gG z_isinstance z_list rfl rfl (aa 3))))))))) (aj (aA b8)) ay) (ag (aF (dq (bZ (cK (cg (aC q_law_beat_is.d q_law_beat_is.o hr (by decide) rfl (ae (aa 3) (ae (jg z_sorted rfl z_set rfl (aa 3)) ak))))) (bo _ (dq (kL (fG (aa 3) (aT ak)) (bo _ (dq (bZ (jj (aL (aa 3) af) af) (bo _ (lK (aL (aa 3) (cN af)) (aa 2))))))))))) (aj (aA b8)) ay) (ag (ar (i:=4) (aT ak) nd rfl (Or.inl rfl)) (ag (bJ [3] (i:=5) (aM (aa 3)) (aj (ar (i:=4) (aB (aa 4) (bb (fs:=["_law_length","_law_start"]) (is:=[2,5]) (fe:=(Dv.eOp .mod (Dv.eOp .add (Dv.eVar 2) (Dv.eVar 0)) (Dv.eVar 1))) (fc:=(Dv.eBl true)) (az (fsc:=ah s_Q0A) (N:=["_law_beat","_law_window","_law_length","_law_starts","_law_rests","_law_start"]) rfl rfl (by decide +kernel)) (aM (aa 0)) (λ cl L s₀ H₀ ex=>(aG (aB (aa 2) (aa 0)) (aa 1))) (λ cl L s₀ H₀ ex=>bK))) nd rfl (Or.inl rfl))) nd rfl (Or.inr rfl)) (aj (aA (fP (fJ (fK z_sorted rfl (aa 4)) (iW z_list rfl z_range rfl (aa 2))) (iN (fJ (aC q_law_left.d q_law_left.o hr (by decide) rfl (ae (aa 0) (ae (aa 2) (ae (aa 3) ak)))) (aa 1))))))))))
abbrev eU:=Fu "_law_comes" s_Q0A ["_law_beat","_law_window","_law_length","_law_starts"] 3 F_Q0A 4
abbrev s_Q0G:Stmt:=top 29
theorem sc_law_least:FnScope ["_law_length","_law_starts","_law_by"] ["_law_length","_law_starts"] (ah s_Q0G):=by constructor<;>first|rfl|decide +kernel
theorem ok_Q0G {f:Addr}{fd:FuncData}(d:Df K mg "_law_least" s_Q0G ["_law_length","_law_starts"] f fd)(z_range:mg "range"=none)(z_sorted:mg "sorted"=none):
  FnOk P w K mg base (CXe P w) 1 f fd ["_law_length","_law_starts"] (spD K (aP ad) F_Q0G 2):=by
 have nd:=sc_law_least.nd;refine Df.is cxe_ok ["_law_length","_law_starts","_law_by"] 0 b_Q0G d sc_law_least rfl rfl rfl λ cdv A outer s H E hr=>?_
 exact(ag (bJ [] (i:=2) (mR rfl z_range af (aa 0)) (aj (aF (dq (kL (bT (aG (aa 0) (aa 2)) af) (bo _ (bT (fK z_sorted rfl (bb (fs:=["_law_length","_law_by"]) (is:=[0,2]) (fe:=(Dv.eOp .mod (Dv.eOp .add (Dv.eVar 0) (Dv.eVar 2)) (Dv.eVar 1))) (fc:=(Dv.eBl true)) (az (fsc:=ah s_Q0G) (N:=["_law_length","_law_starts","_law_by"]) rfl rfl (by decide +kernel)) (aM (aa 1)) (λ cl L s₀ H₀ ex=>(aG (aB (aa 0) (aa 2)) (aa 1))) (λ cl L s₀ H₀ ex=>bK))) (aa 1))))) (aj (aA b8)) ay)) nd rfl (Or.inr rfl)) (aj (aA b8)))
abbrev eQ:=Fu "_law_least" s_Q0G ["_law_length","_law_starts"] 1 F_Q0G 2
abbrev s_Q0C:Stmt:=top 30
theorem sc_law_good:FnScope ["_law_found","_law_beat","_law_window"] ["_law_found","_law_beat","_law_window"] (ah s_Q0C):=by constructor<;>first|rfl|decide +kernel
theorem ok_Q0C {f:Addr}{fd:FuncData}(d:Df K mg "_law_good" s_Q0C ["_law_found","_law_beat","_law_window"] f fd)(q_law_whole:bY P w K mg base ad)(q_law_here:dk P w K mg base ad)(q_law_comes:eU P w K mg base ad)(q_law_least:eQ P w K mg base ad)(z_isinstance:mg "isinstance"=none)(z_tuple:mg "tuple"=none)(z_len:mg "len"=none):
  FnOk P w K mg base (CXe P w) 4 f fd ["_law_found","_law_beat","_law_window"] (spD K (aP ad) F_Q0D 3):=by
 have nd:=sc_law_good.nd;refine Df.is cxe_ok ["_law_found","_law_beat","_law_window"] 3 b_Q0D d sc_law_good rfl rfl rfl λ cdv A outer s H E hr=>?_
 exact(ag (aF (dq (bZ (cK (cg (oI z_isinstance z_tuple rfl rfl (aa 0)))) (bo _ (mj (cj z_len rfl (aa 0)) (el (ae af (ae af ak))))))) (aj (aA b8)) ay) (ag (aF (bT (cj z_len rfl (aa 0)) af) (aj (aA (fP (fJ (aL (aa 0) af) kK) (fP (aC q_law_whole.d q_law_whole.o hr (by decide) rfl (ae (aL (aa 0) af) ak)) (iN (fJ (aL (aa 0) af) (aC q_law_here.d q_law_here.o hr (by decide) rfl (ae (aa 1) (ae (aa 2) (ae af ak)))))))))) ay) (ag (aF (dq (bZ (fG (aL (aa 0) af) kK) (bo _ (cK (cg (aC q_law_comes.d q_law_comes.o hr (by decide) rfl (ae (aa 1) (ae (aa 2) (ae (aL (aa 0) af) (ae (aL (aa 0) af) ak)))))))))) (aj (aA b8)) ay) (aj (aA (aC q_law_least.d q_law_least.o hr (by decide) rfl (ae (aL (aa 0) af) (ae (aL (aa 0) af) ak))))))))
abbrev gb:=Fu "_law_good" s_Q0C ["_law_found","_law_beat","_law_window"] 4 F_Q0D 3
abbrev s_Q03:Stmt:=top 31
theorem sc_law:FnScope ["_law_script","_law_beat","_law_window","_law_handed","_law_found","_law_many","_law_held"] ["_law_script"] (ah s_Q03):=by constructor<;>first|rfl|decide +kernel
theorem ok_Q03 {f:Addr}{fd:FuncData}(d:Df K mg "law" s_Q03 ["_law_script"] f fd)(q_law_case:gh P w K mg base ad)(q_law_draws:eS P w K mg base ad)(q_line_run:fO P w K mg base ad)(q_law_here:dk P w K mg base ad)(q_law_good:gb P w K mg base ad)(xa:XAll K mg ad){C_2:Addr}(h_TooMany:ad "TooMany"=some C_2)(hkn:∀ c∈(["WheelError","NoBeat","NoWindow","TooMany"]:List String),∃ Ca,ad c=some Ca)(z_list:mg "list"=none)(z_len:mg "len"=none):
  FnOk P w K mg base (CXe P w) 6 f fd ["_law_script"] (spD K (aP ad) F_Q0F 1):=by
 have nd:=sc_law.nd;refine Df.is cxe_ok ["_law_script","_law_beat","_law_window","_law_handed","_law_found","_law_many","_law_held"] 5 b_Q0F d sc_law rfl rfl rfl λ cdv A outer s H E hr=>?_
 exact(ag (kA [0] (xs:=[1,2]) (aC q_law_case.d q_law_case.o hr (by decide) rfl (ae (aC q_law_draws.d q_law_draws.o hr (by decide) rfl (ae (aa 0) (ae af ak))) ak)) (bf (i:=1) (bf (i:=2) fZ nd rfl (Or.inl rfl)) nd rfl (Or.inl rfl)) rfl) (ag (ar (i:=3) (ib z_list rfl (aa 1)) nd rfl (Or.inl rfl)) (ag (lR (i:=4) iI nd rfl (Or.inl rfl)) (ag (ar (i:=5) b8 nd rfl (Or.inl rfl)) (ag (sZ xa (kn2 hkn) h_TooMany rfl (λ pins xe W own pass=>(aj (lR (i:=4) (aC q_line_run.d q_line_run.o hr (by decide) rfl (ae (aa 3) (ae (aa 2) ak))) nd rfl (Or.inl rfl)))) (λ pins e=>(aj (ar (i:=5) b8 nd rfl (Or.inl rfl))))) (ag (aF (cg (aa 5)) (aj (aA (fP (tR (aa 4)) (iN (fJ (aC q_law_here.d q_law_here.o hr (by decide) rfl (ae (aa 1) (ae (aa 2) (ae af ak)))) af))))) ay) (ag (aF (dq (bZ (cK (cg (aC q_law_good.d q_law_good.o hr (by decide) rfl (ae (aa 4) (ae (aa 1) (ae (aa 2) ak)))))) (bo _ (fG (aa 3) (aa 1))))) (aj (aA b8)) ay) (qx (f:=(Dv.eNeg (Dv.eInt 1))) (i:=4) (j:=6) (v:=-1) z_list rfl (λ _=>rfl) (aF (bT (cj z_len rfl (aa 4)) af) (ag (qU (i:=6) (ib z_list rfl (aL (aa 4) af)) af) (aj (oG (i:=4) (cN af)))) ay) nd (by decide) rfl rfl (Or.inl rfl) (aj (aA (fJ (ib z_list rfl (aC q_line_run.d q_line_run.o hr (by decide) rfl (ae (aa 3) (ae (aa 2) ak)))) (aa 6))))))))))))
end
theorem gC {P:List Value->Prop}(h:P []):∀ us:List Value,us.length=0->P us:=λ us hl=>(yx hl)▸h
theorem aY {P:List Value->Prop}{k:Nat}(h:∀ a (us:List Value),us.length=k->P (a::us)):∀ us:List Value,us.length=k+1->P us:=by
 intro us hl;cases us with
 | nil=>exact absurd hl (Nat.succ_ne_zero k).symm
 | cons a r=>exact h a r (Nat.succ.inj hl)
theorem jO {P:List Value->Prop}(h:∀ a0,P [a0]):∀ us:List Value,us.length=1->P us:=aY (P:=P) λ a0=>gC (P:=λ us=>P (a0:: us)) (h a0)
theorem dY {P:List Value->Prop}(h:∀ a0 a1,P [a0,a1]):∀ us:List Value,us.length=2->P us:=aY (P:=P) λ a0=>aY (P:=λ us=>P (a0:: us)) λ a1=>gC (P:=λ us=>P (a0::a1:: us)) (h a0 a1)
theorem gS {P:List Value->Prop}(h:∀ a0 a1 a2,P [a0,a1,a2]):∀ us:List Value,us.length=3->P us:=aY (P:=P) λ a0=>aY (P:=λ us=>P (a0:: us)) λ a1=>aY (P:=λ us=>P (a0::a1:: us)) λ a2=>gC (P:=λ us=>P (a0::a1::a2:: us)) (h a0 a1 a2)
theorem uC {P:List Value->Prop}(h:∀ a0 a1 a2 a3,P [a0,a1,a2,a3]):∀ us:List Value,us.length=4->P us:=aY (P:=P) λ a0=>aY (P:=λ us=>P (a0:: us)) λ a1=>aY (P:=λ us=>P (a0::a1:: us)) λ a2=>aY (P:=λ us=>P (a0::a1::a2:: us)) λ a3=>gC (P:=λ us=>P (a0::a1::a2::a3:: us)) (h a0 a1 a2 a3)
theorem wc {P:List Value->Prop}(h:∀ a0 a1 a2 a3 a4,P [a0,a1,a2,a3,a4]):∀ us:List Value,us.length=5->P us:=aY (P:=P) λ a0=>aY (P:=λ us=>P (a0:: us)) λ a1=>aY (P:=λ us=>P (a0::a1:: us)) λ a2=>aY (P:=λ us=>P (a0::a1::a2:: us)) λ a3=>aY (P:=λ us=>P (a0::a1::a2::a3:: us)) λ a4=>gC (P:=λ us=>P (a0::a1::a2::a3::a4:: us)) (h a0 a1 a2 a3 a4)
theorem wb {P:List Value->Prop}(h:∀ a0 a1 a2 a3 a4 a5,P [a0,a1,a2,a3,a4,a5]):∀ us:List Value,us.length=6->P us:=aY (P:=P) λ a0=>aY (P:=λ us=>P (a0:: us)) λ a1=>aY (P:=λ us=>P (a0::a1:: us)) λ a2=>aY (P:=λ us=>P (a0::a1::a2:: us)) λ a3=>aY (P:=λ us=>P (a0::a1::a2::a3:: us)) λ a4=>aY (P:=λ us=>P (a0::a1::a2::a3::a4:: us)) λ a5=>gC (P:=λ us=>P (a0::a1::a2::a3::a4::a5:: us)) (h a0 a1 a2 a3 a4 a5)
abbrev adA (a0 a1 a2 a3:Addr):=mO [("WheelError",a0),("NoBeat",a1),("NoWindow",a2),("TooMany",a3)]
abbrev hA (K:Av)(n:Str)(f:Addr):Prop:=AG K mainGlobals n=some (some (.ref f))
abbrev hL (K:Av)(n:Str)(s:Stmt)(f:Addr)(oc:Value)(od:Option Addr)(kV dc pm:Value)(an:Option Addr)(cd ct:Value)(sl:Array (Option Value)):Prop:=K.lookup f=some ⟨oc,od,.func (A0 n n (br s) (aQ s) (ah s) .none kV dc pm an cd ct),sl⟩
abbrev hC (K:Av)(c:Value)(n:Str):Prop:=Bl K c n=true
abbrev hK (K:Av)(f:Addr):Prop:=Bm K (.ref f)=true
abbrev hS (K:Av)(a b:Addr)(v:Bool):Prop:=AV K (.ref a) (.ref b)=some v
theorem all_mk {l:PySem.W.OpenLaw}{w:World}{K:Av}{h:Heap}{mg:Str->Option Value}{fa:Addr}(X:K.In h)(G:h.Ns mainGlobals mg)(hfa:mg "law"=some (.ref fa))
    {f_Q03:Addr} {od_Q03 an_Q03:Option Addr} {sl_Q03:Array (Option Value)} {oc_Q03 kV_Q03 dc_Q03 pm_Q03 cd_Q03 ct_Q03:Value} {t_LAST_NUMBER:Tok} {t_MOST_NUMBERS:Tok} {t_MOST_STEPS:Tok} {C_3 C_0 C_1 C_2:Addr}
    (D_check_rising:hD K "check_rising" s_Q01) (D_check_line_beat:hD K "check_line_beat" s_Q00) (D_powers_of_two:hD K "powers_of_two" s_Q0R) (D_check_window:hD K "check_window" s_Q02) (D_line_step:hD K "line_step" s_Q0Q) (D_line_run:hD K "line_run" s_Q0O) (D_law_draws:hD K "_law_draws" s_Q0B) (D_law_cell:hD K "_law_cell" s_Q08) (D_law_whole:hD K "_law_whole" s_Q0N) (D_law_beat_is:hD K "_law_beat_is" s_Q05) (D_law_turned:hD K "_law_turned" s_Q0M) (D_law_again:hD K "_law_again" s_Q04) (D_law_pair:hD K "_law_pair" s_Q0K) (D_law_line_beat:hD K "_law_line_beat" s_Q0I) (D_law_left:hD K "_law_left" s_Q0H) (D_law_case:hD K "_law_case" s_Q06) (D_law_here:hD K "_law_here" s_Q0E) (D_law_comes:hD K "_law_comes" s_Q0A) (D_law_least:hD K "_law_least" s_Q0G) (D_law_good:hD K "_law_good" s_Q0C) (a_Q03:hA K "law" f_Q03) (l_Q03:hL K "law" s_Q03 f_Q03 oc_Q03 od_Q03 kV_Q03 dc_Q03 pm_Q03 an_Q03 cd_Q03 ct_Q03 sl_Q03) (c_Q03:hC K cd_Q03 "law") (k_Q03:hK K f_Q03)
    (z_len:AG K mainGlobals "len"=some none) (z_sum:AG K mainGlobals "sum"=some none) (z_range:AG K mainGlobals "range"=some none) (z_int:AG K mainGlobals "int"=some none) (z_isinstance:AG K mainGlobals "isinstance"=some none) (z_bool:AG K mainGlobals "bool"=some none) (z_list:AG K mainGlobals "list"=some none) (z_zip:AG K mainGlobals "zip"=some none) (z_sorted:AG K mainGlobals "sorted"=some none) (z_set:AG K mainGlobals "set"=some none) (z_tuple:AG K mainGlobals "tuple"=some none) (n_LAST_NUMBER:AG K mainGlobals "LAST_NUMBER"=some (some (.int 60 t_LAST_NUMBER))) (n_MOST_NUMBERS:AG K mainGlobals "MOST_NUMBERS"=some (some (.int 12 t_MOST_NUMBERS))) (n_MOST_STEPS:AG K mainGlobals "MOST_STEPS"=some (some (.int 2000 t_MOST_STEPS)))
   (xk:hXs K [("WheelError",C_3),("NoBeat",C_0),("NoWindow",C_1),("TooMany",C_2)]):∃ (fd:FuncData) (cls:String->Value),(∀ (s:Shared) (v:Value),BindsTo s fd ⟨[v],[]⟩ [("_law_script",v)])/\∀ base:Heap,K.In base->base.Ns mainGlobals mg->FnOk l.prog w K mg base (CXe l.prog w) 6 fa fd ["_law_script"] (spD K cls F_Q0F 1):=by
  have e:=hfa.symm.trans (Bq X G a_Q03);cases e;obtain⟨f_Q01,fd_check_rising,d_Q01⟩:=dfE (st:=s_Q01) (ps:=["numbers","end"]) X G D_check_rising λ _ _ _ _ _ _=>dY λ _ _=>rfl
  obtain⟨f_Q00,fd_check_line_beat,d_Q00⟩:=dfE (st:=s_Q00) (ps:=["beat"]) X G D_check_line_beat λ _ _ _ _ _ _=>jO λ _=>rfl
  obtain⟨f_Q0R,fd_powers_of_two,d_Q0R⟩:=dfE (st:=s_Q0R) (ps:=["numbers"]) X G D_powers_of_two λ _ _ _ _ _ _=>jO λ _=>rfl
  obtain⟨f_Q02,fd_check_window,d_Q02⟩:=dfE (st:=s_Q02) (ps:=["beat","window"]) X G D_check_window λ _ _ _ _ _ _=>dY λ _ _=>rfl
  obtain⟨f_Q0Q,fd_line_step,d_Q0Q⟩:=dfE (st:=s_Q0Q) (ps:=["beat","window"]) X G D_line_step λ _ _ _ _ _ _=>dY λ _ _=>rfl
  obtain⟨f_Q0O,fd_line_run,d_Q0O⟩:=dfE (st:=s_Q0O) (ps:=["beat","window"]) X G D_line_run λ _ _ _ _ _ _=>dY λ _ _=>rfl
  obtain⟨f_Q0B,fd_law_draws,d_Q0B⟩:=dfE (st:=s_Q0B) (ps:=["_law_script","_law_many"]) X G D_law_draws λ _ _ _ _ _ _=>dY λ _ _=>rfl
  obtain⟨f_Q08,fd_law_cell,d_Q08⟩:=dfE (st:=s_Q08) (ps:=["_law_draws_here","_law_k"]) X G D_law_cell λ _ _ _ _ _ _=>dY λ _ _=>rfl
  obtain⟨f_Q0N,fd_law_whole,d_Q0N⟩:=dfE (st:=s_Q0N) (ps:=["_law_found"]) X G D_law_whole λ _ _ _ _ _ _=>jO λ _=>rfl
  obtain⟨f_Q05,fd_law_beat_is,d_Q05⟩:=dfE (st:=s_Q05) (ps:=["_law_found","_law_due"]) X G D_law_beat_is λ _ _ _ _ _ _=>dY λ _ _=>rfl
  obtain⟨f_Q0M,fd_law_turned,d_Q0M⟩:=dfE (st:=s_Q0M) (ps:=["_law_length","_law_beat","_law_by"]) X G D_law_turned λ _ _ _ _ _ _=>gS λ _ _ _=>rfl
  obtain⟨f_Q04,fd_law_again,d_Q04⟩:=dfE (st:=s_Q04) (ps:=["_law_length","_law_beat","_law_times"]) X G D_law_again λ _ _ _ _ _ _=>gS λ _ _ _=>rfl
  obtain⟨f_Q0K,fd_law_pair,d_Q0K⟩:=dfE (st:=s_Q0K) (ps:=["_law_script","_law_start"]) X G D_law_pair λ _ _ _ _ _ _=>dY λ _ _=>rfl
  obtain⟨f_Q0I,fd_law_line_beat,d_Q0I⟩:=dfE (st:=s_Q0I) (ps:=["_law_script","_law_start","_law_most"]) X G D_law_line_beat λ _ _ _ _ _ _=>gS λ _ _ _=>rfl
  obtain⟨f_Q0H,fd_law_left,d_Q0H⟩:=dfE (st:=s_Q0H) (ps:=["_law_beat","_law_length","_law_starts"]) X G D_law_left λ _ _ _ _ _ _=>gS λ _ _ _=>rfl
  obtain⟨f_Q06,fd_law_case,d_Q06⟩:=dfE (st:=s_Q06) (ps:=["_law_script"]) X G D_law_case λ _ _ _ _ _ _=>jO λ _=>rfl
  obtain⟨f_Q0E,fd_law_here,d_Q0E⟩:=dfE (st:=s_Q0E) (ps:=["_law_beat","_law_window","_law_last"]) X G D_law_here λ _ _ _ _ _ _=>gS λ _ _ _=>rfl
  obtain⟨f_Q0A,fd_law_comes,d_Q0A⟩:=dfE (st:=s_Q0A) (ps:=["_law_beat","_law_window","_law_length","_law_starts"]) X G D_law_comes λ _ _ _ _ _ _=>uC λ _ _ _ _=>rfl
  obtain⟨f_Q0G,fd_law_least,d_Q0G⟩:=dfE (st:=s_Q0G) (ps:=["_law_length","_law_starts"]) X G D_law_least λ _ _ _ _ _ _=>dY λ _ _=>rfl
  obtain⟨f_Q0C,fd_law_good,d_Q0C⟩:=dfE (st:=s_Q0C) (ps:=["_law_found","_law_beat","_law_window"]) X G D_law_good λ _ _ _ _ _ _=>gS λ _ _ _=>rfl
  have d_Q03:=rP (st:=s_Q03) (ps:=["_law_script"]) (Bq X G a_Q03) l_Q03 c_Q03 k_Q03 λ _ _ _ _ _ _=>jO λ _=>rfl
  have z_len:=AU X G z_len;have z_sum:=AU X G z_sum;have z_range:=AU X G z_range;have z_int:=AU X G z_int;have z_isinstance:=AU X G z_isinstance;have z_bool:=AU X G z_bool;have z_list:=AU X G z_list;have z_zip:=AU X G z_zip;have z_sorted:=AU X G z_sorted;have z_set:=AU X G z_set;have z_tuple:=AU X G z_tuple;have n_LAST_NUMBER:=Bq X G n_LAST_NUMBER;have n_MOST_NUMBERS:=Bq X G n_MOST_NUMBERS;have n_MOST_STEPS:=Bq X G n_MOST_STEPS;have xa:XAll K mg (adA C_3 C_0 C_1 C_2):=uQ X G xk;have h_WheelError:(adA C_3 C_0 C_1 C_2) "WheelError"=some C_3:=rfl;have h_NoBeat:(adA C_3 C_0 C_1 C_2) "NoBeat"=some C_0:=rfl;have h_NoWindow:(adA C_3 C_0 C_1 C_2) "NoWindow"=some C_1:=rfl;have h_TooMany:(adA C_3 C_0 C_1 C_2) "TooMany"=some C_2:=rfl;have hkn:∀ c∈(["WheelError","NoBeat","NoWindow","TooMany"]:List String),∃ Ca,(adA C_3 C_0 C_1 C_2) c=some Ca:=cq ⟨C_3,rfl⟩ (cq ⟨C_0,rfl⟩ (cq ⟨C_1,rfl⟩ (cq ⟨C_2,rfl⟩ (fm_nil))));refine⟨A0 "law" "law" (br s_Q03) (aQ s_Q03) (ah s_Q03) .none kV_Q03 dc_Q03 pm_Q03 an_Q03 cd_Q03 ct_Q03,aP (adA C_3 C_0 C_1 C_2),λ s v=>.of_eq rfl,λ base _ _=>?_⟩;have q_check_rising:cY l.prog w K mg base (adA C_3 C_0 C_1 C_2):=⟨_,_,d_Q01,ok_Q01 d_Q01  xa h_NoBeat z_len ⟩;have q_check_line_beat:cb l.prog w K mg base (adA C_3 C_0 C_1 C_2):=⟨_,_,d_Q00,ok_Q00 d_Q00 q_check_rising xa h_NoBeat z_len n_LAST_NUMBER n_MOST_NUMBERS⟩;have q_powers_of_two:bL l.prog w K mg base (adA C_3 C_0 C_1 C_2):=⟨_,_,d_Q0R,ok_Q0R d_Q0R  z_sum ⟩;have q_check_window:cM l.prog w K mg base (adA C_3 C_0 C_1 C_2):=⟨_,_,d_Q02,ok_Q02 d_Q02 q_check_line_beat q_powers_of_two xa h_NoWindow  ⟩;have q_line_step:eR l.prog w K mg base (adA C_3 C_0 C_1 C_2):=⟨_,_,d_Q0Q,ok_Q0Q d_Q0Q q_check_window q_powers_of_two  ⟩;have q_line_run:fO l.prog w K mg base (adA C_3 C_0 C_1 C_2):=⟨_,_,d_Q0O,ok_Q0O d_Q0O q_line_step xa h_TooMany z_range n_MOST_STEPS⟩;have q_law_draws:eS l.prog w K mg base (adA C_3 C_0 C_1 C_2):=⟨_,_,d_Q0B,ok_Q0B d_Q0B  z_int z_range z_len ⟩;have q_law_cell:cF l.prog w K mg base (adA C_3 C_0 C_1 C_2):=⟨_,_,d_Q08,ok_Q08 d_Q08   ⟩;have q_law_whole:bY l.prog w K mg base (adA C_3 C_0 C_1 C_2):=⟨_,_,d_Q0N,ok_Q0N d_Q0N  z_isinstance z_int z_bool ⟩;have q_law_beat_is:c9 l.prog w K mg base (adA C_3 C_0 C_1 C_2):=⟨_,_,d_Q05,ok_Q05 d_Q05 q_law_whole z_isinstance z_list z_len z_zip ⟩;have q_law_turned:cB l.prog w K mg base (adA C_3 C_0 C_1 C_2):=⟨_,_,d_Q0M,ok_Q0M d_Q0M  z_sorted ⟩;have q_law_again:eT l.prog w K mg base (adA C_3 C_0 C_1 C_2):=⟨_,_,d_Q04,ok_Q04 d_Q04  z_range ⟩;have q_law_pair:dj l.prog w K mg base (adA C_3 C_0 C_1 C_2):=⟨_,_,d_Q0K,ok_Q0K d_Q0K q_law_cell q_law_again q_law_turned z_range z_sorted ⟩;have q_law_line_beat:cH l.prog w K mg base (adA C_3 C_0 C_1 C_2):=⟨_,_,d_Q0I,ok_Q0I d_Q0I q_law_pair q_law_cell z_range z_int ⟩;have q_law_left:dh l.prog w K mg base (adA C_3 C_0 C_1 C_2):=⟨_,_,d_Q0H,ok_Q0H d_Q0H  z_range ⟩;have q_law_case:gh l.prog w K mg base (adA C_3 C_0 C_1 C_2):=⟨_,_,d_Q06,ok_Q06 d_Q06 q_law_line_beat q_law_cell q_law_pair q_law_left q_law_turned z_len ⟩;have q_law_here:dk l.prog w K mg base (adA C_3 C_0 C_1 C_2):=⟨_,_,d_Q0E,ok_Q0E d_Q0E  z_sum z_range ⟩;have q_law_comes:eU l.prog w K mg base (adA C_3 C_0 C_1 C_2):=⟨_,_,d_Q0A,ok_Q0A d_Q0A q_law_whole q_law_beat_is q_law_left z_isinstance z_list z_sorted z_set z_range ⟩;have q_law_least:eQ l.prog w K mg base (adA C_3 C_0 C_1 C_2):=⟨_,_,d_Q0G,ok_Q0G d_Q0G  z_range z_sorted ⟩;have q_law_good:gb l.prog w K mg base (adA C_3 C_0 C_1 C_2):=⟨_,_,d_Q0C,ok_Q0C d_Q0C q_law_whole q_law_here q_law_comes q_law_least z_isinstance z_tuple z_len ⟩;exact ok_Q03 d_Q03 q_law_case q_law_draws q_line_run q_law_here q_law_good xa h_TooMany hkn z_list z_len
end Lk52
namespace Bt
open Dv (ins isort)
theorem bU (i:Int):∀ l:List Int,(ins i l).Perm (i::l)
 | []=>.refl _
 | j::r=>by
  unfold ins
  split
  ·exact .refl _
  ·exact((bU i r).cons j).trans (.swap _ _ _)
theorem ao:∀ l:List Int,(isort l).Perm l
 | []=>.refl _
 | i::r=>(bU i _).trans ((ao r).cons i)
theorem bV (i:Int):∀ l:List Int,l.Pairwise (·<=·)->(ins i l).Pairwise (·<=·)
 | [],_=>by unfold ins;simp
 | j::r,h=>by
  unfold ins;obtain⟨h1,h2⟩:=List.pairwise_cons.mp h
  split
  ·rename_i hij
   refine List.pairwise_cons.mpr ⟨λ a ha=>?_,h⟩
   rcases List.mem_cons.mp ha with rfl|ha
   ·exact hij
   ·have:=h1 a ha;omega
  ·rename_i hij
   refine List.pairwise_cons.mpr ⟨λ a ha=>?_,bV i r h2⟩
   rcases List.mem_cons.mp ((bU i r).mem_iff.mp ha) with rfl|ha
   ·omega
   ·exact h1 a ha
theorem aE:∀ l:List Int,(isort l).Pairwise (·<=·)
 | []=>.nil
 | i::r=>bV i _ (aE r)
theorem aO:∀ {a b:List Int},a.Perm b->a.Pairwise (·<=·)->b.Pairwise (·<=·)->a=b
 | [],b,p,_,_=>(List.Perm.nil_eq p)
 | x::a,[],p,_,_=>(nomatch p.length_eq)
 | x::a,y::b,p,ha,hb=>by
  obtain⟨a1,a2⟩:=List.pairwise_cons.mp ha;obtain⟨b1,b2⟩:=List.pairwise_cons.mp hb;have hx:x∈y::b:=p.mem_iff.mp (we ..);have hy:y∈x::a:=p.mem_iff.mpr (we ..);have e:x=y:=by
   rcases List.mem_cons.mp hx with e|hx
   ·exact e
   ·rcases List.mem_cons.mp hy with e|hy
    ·exact e.symm
    ·have:=a1 y hy;have:=b1 x hx;omega
  subst e;rw[aO (List.Perm.cons_inv p) a2 b2]
theorem bQ (l:List Int):(isort l).length=l.length:=(ao l).length_eq
theorem pN {l:List Int}(h:l.Pairwise (·<=·)):isort l=l:=aO (ao l) (aE l) h
structure Beat (n:Int)(xs:List Int):Prop where
 ne:xs≠[]
 up:xs.Pairwise (·<·)
 rg:∀ x∈xs,0<=x/\x<n
theorem Beat.nd {n:Int}{xs:List Int}(h:Beat n xs):xs.Nodup:=h.up.imp λ {a b} h e=>⋯
theorem kb:∀ {xs:List Int} {lo hi:Int},xs.Pairwise (·<·)->(∀ x∈xs,lo<=x/\x<hi)->(xs.length:Int)<=max 0 (hi-lo)
 | [],lo,hi,_,_=>by simp;omega
 | x::r,lo,hi,h,g=>by
  obtain⟨h1,h2⟩:=List.pairwise_cons.mp h;have gx:=g x (we ..);have:=kb (lo:=x+1) (hi:=hi) h2 λ y hy=>⟨h1 y hy,(g y (wd _ hy)).2⟩
  rw[wA];omega
theorem Beat.len {n:Int}{xs:List Int}(h:Beat n xs):(xs.length:Int)<=n:=by
 have:=kb h.up h.rg;obtain⟨x,hx⟩:=yh xs h.ne;have:=h.rg x hx;omega
theorem Beat.pos {n:Int}{xs:List Int}(h:Beat n xs):1<=n:=by
 obtain⟨x,hx⟩:=yh xs h.ne;have:=h.rg x hx;omega
theorem rD {l:List Int}(h1:l.Pairwise (·<=·))(h2:l.Nodup):l.Pairwise (·<·):=by
 induction l with
 | nil=>exact .nil
 | cons a r ih=>
  obtain⟨a1,a2⟩:=List.pairwise_cons.mp h1;obtain⟨b1,b2⟩:=List.nodup_cons.mp h2;refine List.pairwise_cons.mpr ⟨λ x hx=>?_,ih a2 b2⟩;have:=a1 x hx;have:a≠x:=λ e=>b1 (e▸hx)
  omega
theorem gJ {n:Int}{xs:List Int}(ne:xs≠[])(nd:xs.Nodup)(rg:∀ x∈xs,0<=x/\x<n):Beat n (isort xs) where
 ne:=λ e=>ne (by have:=bQ xs;rw[e] at this;exact yx this.symm)
 up:=rD (aE xs) ((ao xs).nodup_iff.mpr nd)
 rg:=λ x hx=>rg x ((ao xs).mem_iff.mp hx)
theorem cZ {f:Int->Int}:∀ {xs:List Int},xs.Nodup->(∀ x∈xs,∀ y∈xs,f x=f y->x=y)->(xs.map f).Nodup
 | [],_,_=>by simp
 | x::r,h,g=>by
  obtain⟨h1,h2⟩:=List.nodup_cons.mp h;refine List.nodup_cons.mpr ⟨λ m=>?_,cZ h2 λ a ha b hb=>g a (wd _ ha) b (wd _ hb)⟩;obtain⟨y,hy,e⟩:=List.mem_map.mp m;exact h1 (g y (wd _ hy) x (we ..) e▸hy)
theorem eO {n k d:Int}(hn:0<n)(e:d=n*k)(h1:-n<d)(h2:d<n):d=0:=by
 rcases zH k 0 with h|h|h
 ·have:n*k<=n*(-1):=xO ⋯ ⋯
  omega
 ·subst h;omega
 ·have:n*1<=n*k:=xO ⋯ ⋯
  omega
theorem mod_eq_iff {n a b:Int}:a%n=b%n ↔ ∃ k,a-b=n*k:=by
 constructor
 ·intro h
  have:=Int.emod_emod_of_dvd a (Int.dvd_refl n);have h1:(a-b)%n=0:=(yi).mp h;exact Int.dvd_of_emod_eq_zero h1
 ·rintro ⟨k,h⟩
  exact(yi).mpr (Int.emod_eq_zero_of_dvd ⟨k,h⟩)
theorem lJ {n x y b:Int}(hn:0<n)(hx:0<=x/\x<n)(hy:0<=y/\y<n)(h:(x+b)%n=(y+b)%n):x=y:=by
 obtain⟨k,e⟩:=mod_eq_iff.mp h;have:=eO (d:=x-y) (k:=k) hn ⋯ ⋯ ⋯;omega
theorem bj {n a:Int}(hn:0<n):0<=a%n/\a%n<n:=⟨zg _ ⋯,yF _ hn⟩
theorem nv {n b:Int}{xs:List Int}(h:Beat n xs):Beat n (isort (xs.map λ x=>(x+b)%n)):=by
 have hp:=h.pos;refine gJ (by simpa using h.ne) (cZ h.nd λ x hx y hy e=>lJ ⋯ (h.rg x hx) (h.rg y hy) e) λ x hx=>?_
 obtain⟨y,_,rfl⟩:=List.mem_map.mp hx;exact bj ⋯
def again (n:Int)(xs:List Int):Nat->List Int
 | 0=>[]
 | t+1=>again n xs t++xs.map (·+t*n)
theorem fU {n:Int}{xs:List Int}(h:∀ x∈xs,0<=x/\x<n)(hn:0<=n):∀ (t:Nat),∀ x∈again n xs t,0<=x/\x<n*t
 | 0,x,hx=>by simp[again] at hx
 | t+1,x,hx=>by
  have e:n*((t+1:Nat):Int)=n*t+n:=by rw[za,zO,Al]
  unfold again at hx
  rcases List.mem_append.mp hx with hx|hx
  ·have:=fU h hn t x hx;omega
  ·obtain⟨y,hy,rfl⟩:=List.mem_map.mp hx
   have:=h y hy;have e2:(t:Int)*n=n*t:=xg _ _;have:0<=n*(t:Int):=zv hn ⋯;simp only[e2];omega
theorem jT {n:Int}{xs:List Int}(h:xs.Pairwise (·<·))(g:∀ x∈xs,0<=x/\x<n)(hn:0<=n):∀ (t:Nat),(again n xs t).Pairwise (·<·)
 | 0=>.nil
 | t+1=>by
  unfold again;refine List.pairwise_append.mpr ⟨jT h g hn t,?_,λ a ha b hb=>?_⟩
  ·exact List.pairwise_map.mpr (h.imp λ {a b} h=>⋯)
  ·have:=fU g hn t a ha
   obtain⟨y,hy,rfl⟩:=List.mem_map.mp hb;have:=g y hy;have e2:(t:Int)*n=n*t:=xg _ _;simp only[e2];omega
theorem kX {n:Int}{xs:List Int}(h:Beat n xs){t:Nat}(ht:1<=t):Beat (n*t) (again n xs t) where
 ne:=by
  cases t with
  | zero=>omega
  | succ t=>unfold again;have:=h.ne;simp[this]
 up:=jT h.up h.rg (by have:=h.pos;omega) t
 rg:=fU h.rg (by have:=h.pos;omega) t
theorem j5 {n t:Int}{xs:List Int}(h:Beat n xs)(ht:1<=t):Beat (n*t) (xs.map (·*t)) where
 ne:=by simpa using h.ne
 up:=List.pairwise_map.mpr (h.up.imp λ {a b} h=>yE h ⋯)
 rg:=λ x hx=>by
  obtain⟨y,hy,rfl⟩:=List.mem_map.mp hx;have:=h.rg y hy;exact⟨zv this.1 ⋯,yE this.2 ⋯⟩
def mix (xs:List Int)(t:Int):Nat->List Int
 | 0=>[]
 | j+1=>mix xs t j++xs.map (·*t+j)
theorem mix_mem {xs:List Int}{t:Int}:∀ {j:Nat} {x:Int},x∈mix xs t j ↔ ∃ y∈xs,∃ i:Nat,i<j/\x=y*t+i
 | 0,x=>by simp[mix]
 | j+1,x=>by
  unfold mix;rw[xM,mix_mem,xS]
  constructor
  ·rintro (⟨y,hy,i,hi,rfl⟩|⟨y,hy,rfl⟩)
   ·exact⟨y,hy,i,⋯,rfl⟩
   ·exact⟨y,hy,j,⋯,rfl⟩
  ·rintro ⟨y,hy,i,hi,rfl⟩
   by_cases e:i=j
   ·subst e;exact .inr ⟨y,hy,rfl⟩
   ·exact .inl ⟨y,hy,i,⋯,rfl⟩
theorem digits {t y z i j:Int}(ht:0<t)(hi:0<=i/\i<t)(hj:0<=j/\j<t)(e:y*t+i=z*t+j):y=z/\i=j:=by
 have h1:i-j=t*(z-y):=by rw[zp,xg t z,xg t y];omega
 have h2:=eO ht h1 ⋯ ⋯;have h3:y*t=z*t:=⋯
 exact⟨Int.eq_of_mul_eq_mul_right ⋯ h3,⋯⟩
theorem om {xs:List Int}{t:Int}(h:xs.Nodup)(ht:0<t):∀ {j:Nat},(j:Int)<=t->(mix xs t j).Nodup
 | 0,_=>by simp[mix]
 | j+1,hj=>by
  unfold mix;refine List.nodup_append.mpr ⟨om h ht ⋯,cZ h λ x _ y _ e=>(digits ht (i:=j) (j:=j) ⋯ ⋯ e).1,λ a ha b hb e=>?_⟩;subst e;obtain⟨y,hy,i,hi,rfl⟩:=mix_mem.mp ha;obtain⟨z,hz,e⟩:=List.mem_map.mp hb;have:=(digits ht (i:=j) (j:=i) ⋯ ⋯ e).2;omega
theorem jM {n:Int}{xs:List Int}(h:Beat n xs){t:Nat}(ht:1<=t):Beat (n*t) (isort (mix xs t t)):=by
 refine gJ ?_ (om h.nd ⋯ ⋯) λ x hx=>?_
 ·obtain⟨x,hx⟩:=yh xs h.ne
  exact List.ne_nil_of_mem (mix_mem.mpr ⟨x,hx,0,⋯,rfl⟩)
 ·obtain⟨y,hy,i,hi,rfl⟩:=mix_mem.mp hx
  have h1:=h.rg y hy;have h2:0<=y*(t:Int):=zv h1.1 ⋯;have h3:(y+1)*(t:Int)<=n*t:=Int.mul_le_mul_of_nonneg_right ⋯ ⋯;rw[zq,yK] at h3;omega
theorem lZ {xs:List Int}{t:Int}:∀ {j:Nat},(mix xs t j).length=j*xs.length
 | 0=>by simp[mix]
 | j+1=>by unfold mix;rw[wB,lZ,wj,yz]
theorem gH {xs:List Int}{t:Int}:∀ {j:Nat},(again t xs j).length=j*xs.length
 | 0=>by simp[again]
 | j+1=>by unfold again;rw[wB,gH,wj,yz]
def hits (n:Int)(beat starts:List Int):List Int:=starts.flatMap λ s=>beat.map λ b=>(b+s)%n
def bump (c:List Int)(p:Int):List Int:=c.set p.toNat (c.getD p.toNat 0+1)
def tally (n:Nat)(ps:List Int):List Int:=ps.foldl bump (List.replicate n 0)
theorem fD (c:List Int)(p:Int):(bump c p).length=c.length:=by unfold bump;rw[w4]
theorem cT:∀ (ps:List Int) (c:List Int),(ps.foldl bump c).length=c.length
 | [],c=>rfl
 | p::r,c=>by rw[w6,cT,fD]
theorem gW (n:Nat)(ps:List Int):(tally n ps).length=n:=by unfold tally;rw[cT,xh]
theorem cU:∀ (ps:List Int) (c:List Int) (i:Nat),i<c.length->(∀ p∈ps,0<=p)->(ps.foldl bump c)[i]?.getD 0=c[i]?.getD 0+(ps.count (i:Int):Nat)
 | [],c,i,_,_=>by simp
 | p::r,c,i,h,g=>by
  rw[w6,cU r (bump c p) i (by rw[fD];exact h) λ q hq=>g q (wd _ hq)];have gp:=g p (we ..);unfold bump;rw[List.getElem?_set];by_cases e:p.toNat=i
  ·have e2:p=(i:Int):=⋯
   subst e2;simp[h,wt];omega
  ·have e2:¬ p=(i:Int):=⋯
   have e3:¬ (i:Int)=p:=⋯
   simp[e,e2,List.count_cons]
theorem jU (n:Nat){ps:List Int}(g:∀ p∈ps,0<=p):tally n ps=(List.range n).map λ (i:Nat)=>((ps.count (i:Int):Nat):Int):=by
 apply yp;intro i;by_cases h:i<n
 ·have h1:=cU ps (List.replicate n 0) i (by simpa using h) g
  have hl:i<(tally n ps).length:=by rw[gW];exact h
  have h2:(tally n ps)[i]?=some ((tally n ps)[i]?.getD 0):=by rw[wo hl];rfl
  rw[h2];show some ((ps.foldl bump (List.replicate n 0))[i]?.getD 0)=_
  rw[h1];simp[h]
 ·rw[xQ (by rw[gW];omega),xQ (by simp;omega)]
theorem dG {n:Int}(hn:0<n){beat starts:List Int}:∀ p∈hits n beat starts,0<=p/\p<n:=λ p hp=>by
 unfold hits at hp;obtain⟨s,_,h⟩:=List.mem_flatMap.mp hp;obtain⟨b,_,rfl⟩:=List.mem_map.mp h;exact bj hn
end Bt
namespace Cw
open Dv (cmD cz eBl eComp forGo keepD opD)
open Dv (D R RL EE EL EI RI Sl Out SS St)
open Bt
abbrev L (xs:List Int):D:=.lst (xs.map .int)
theorem gc:∀ xs:List Int,Dv.intsOf (xs.map .int)=some xs
 | []=>rfl
 | x::r=>by simp[Dv.intsOf,gc r]
theorem di:∀ xs:List Int,Dv.flatL (xs.map .int)=true
 | []=>rfl
 | x::r=>by simp[Dv.flatL,Dv.scal,di r]
theorem uK (i:Int):∀ xs:List Int,Dv.inD i (xs.map .int)=some (decide (i∈xs))
 | []=>by simp[Dv.inD]
 | x::r=>by
  rw[wm];unfold Dv.inD;rw[uK i r];by_cases h:x=i
  ·subst h;simp
  ·have h2:¬ i=x:=λ e=>h e.symm
   simp[h,h2]
theorem rF:∀ a b:List Int,Dv.eqDL (a.map .int) (b.map .int)=some (decide (a=b))
 | [],[]=>rfl
 | [],_::_=>rfl
 | _::_,[]=>rfl
 | x::a,y::b=>by
  show (match (some (decide (x=y)):Option Bool),Dv.eqDL (a.map .int) (b.map .int) with|some p,some q=>some (p&&q)|_,_=>none)=_
  rw[rF a b];show some (decide (x=y)&&decide (a=b))=_
  by_cases h:x=y <;>by_cases h2:a=b <;>simp[h,h2]
theorem sI (a b:List Int):Dv.eqD (L a) (L b)=some (decide (a=b)):=rF a b
theorem eq_int (a b:Int):Dv.eqD (.int a) (.int b)=some (decide (a=b)):=rfl
theorem ot:∀ xs:List Int,Dv.depthL (xs.map .int)=0
 | []=>by simp[Dv.depthL]
 | x::r=>by rw[wm];unfold Dv.depthL;rw[ot r];simp[Dv.depthD]
theorem i5 (xs:List Int):Dv.depthD (L xs)=1:=by unfold Dv.depthD;rw[ot]
theorem fm (i:Int):Dv.depthD (.int i)=0:=by unfold Dv.depthD;rfl
theorem sE {s:List Int}{k:Int}(h:0<=k)(h2:k<s.length):Dv.at? (s.map .int) k=some (.int (s.getD k.toNat 0)):=by
 unfold Dv.at?;rw[if_pos h];have:k.toNat<s.length:=⋯
 simp[wH,wt,wo this]
theorem iO (a b:List Int):cmD .eq (L a) (L b)=.ok (.bl (decide (a=b))) true:=by
 simp only[Dv.cmD_eq,Dv.cmD_ne,Dv.cmD_lt,Dv.cmD_le,Dv.cmD_gt,Dv.cmD_ge,Dv.cmD_in,Dv.cmD_ni,Dv.cmD_it,Dv.cmD_nt,i5,i5,sI,Dv.optB,yj];rfl
theorem oz (a b:List Int):cmD .ne (L a) (L b)=.ok (.bl (!decide (a=b))) true:=by
 simp only[Dv.cmD_eq,Dv.cmD_ne,Dv.cmD_lt,Dv.cmD_le,Dv.cmD_gt,Dv.cmD_ge,Dv.cmD_in,Dv.cmD_ni,Dv.cmD_it,Dv.cmD_nt,i5,i5,sI,Dv.optB,yj];rfl
theorem tW (a b:Int):cmD .eq (.int a) (.int b)=.ok (.bl (decide (a=b))) true:=by
 simp only[Dv.cmD_eq,Dv.cmD_ne,Dv.cmD_lt,Dv.cmD_le,Dv.cmD_gt,Dv.cmD_ge,Dv.cmD_in,Dv.cmD_ni,Dv.cmD_it,Dv.cmD_nt,fm,fm,eq_int,Dv.optB,yj];rfl
theorem t4 (a b:Int):cmD .ne (.int a) (.int b)=.ok (.bl (!decide (a=b))) true:=by
 simp only[Dv.cmD_eq,Dv.cmD_ne,Dv.cmD_lt,Dv.cmD_le,Dv.cmD_gt,Dv.cmD_ge,Dv.cmD_in,Dv.cmD_ni,Dv.cmD_it,Dv.cmD_nt,fm,fm,eq_int,Dv.optB,yj];rfl
theorem tL (a:List Int):cmD .eq (L a) (.lst [])=.ok (.bl (decide (a=[]))) true:=iO a []
theorem tj (a:List Int):cmD .ne (L a) (.lst [])=.ok (.bl (!decide (a=[]))) true:=oz a []
theorem vg (i:Int)(b:List Int):cmD .isin (.int i) (L b)=.ok (.bl (decide (i∈b))) true:=by
 simp only[Dv.cmD_eq,Dv.cmD_ne,Dv.cmD_lt,Dv.cmD_le,Dv.cmD_gt,Dv.cmD_ge,Dv.cmD_in,Dv.cmD_ni,Dv.cmD_it,Dv.cmD_nt,uK,Dv.optB,yj]
theorem sA (a b:List Nat):cmD .eq (.str a) (.str b)=.ok (.bl (decide (Dv.clipS a=Dv.clipS b))) true:=rfl
theorem sY (a b:List Nat):cmD .ne (.str a) (.str b)=.ok (.bl (!decide (Dv.clipS a=Dv.clipS b))) true:=rfl
theorem nT (x:List Nat):Dv.scal (.str x)=true:=rfl
theorem ud (a b:Int):cmD .lt (.int a) (.int b)=.ok (.bl (decide (a<b))) true:=rfl
theorem uS (a b:Int):cmD .le (.int a) (.int b)=.ok (.bl (decide (a<=b))) true:=rfl
theorem uu (a b:Int):cmD .gt (.int a) (.int b)=.ok (.bl (decide (b<a))) true:=rfl
theorem ue (a b:Int):cmD .ge (.int a) (.int b)=.ok (.bl (decide (b<=a))) true:=rfl
theorem cu {i j:Int}(h:-(2 ^ 64)<i)(h2:i<2 ^ 64):Dv.mulOk i j=true:=by
 have:Dv.bits i<=64:=by
  unfold Dv.bits
  split
  ·omega
  ·have h3:i.natAbs<2 ^ 64:=⋯
   have:=(zP ⋯).mpr h3;omega
 simp[Dv.mulOk,this]
theorem cA {i j:Int}(h:-(2 ^ 64)<j)(h2:j<2 ^ 64):Dv.mulOk i j=true:=by
 have:Dv.bits j<=64:=by
  unfold Dv.bits
  split
  ·omega
  ·have h3:j.natAbs<2 ^ 64:=⋯
   have:=(zP ⋯).mpr h3;omega
 simp[Dv.mulOk,this]
theorem bA {i j:Int}(h:Dv.mulOk i j=true):opD .mul (.int i) (.int j)=.ok (.int (i*j)) true:=by
 simp[Dv.opD_ai,Dv.opD_al,Dv.opD_su,Dv.opD_mi,Dv.opD_ml,Dv.opD_mo,Dv.opD_fd,Dv.opD_po,Dv.opD_ba,Dv.opD_sh,h]
theorem av {i j:Int}(h:0<j):opD .mod (.int i) (.int j)=.ok (.int (i%j)) true:=by
 simp[Dv.opD_ai,Dv.opD_al,Dv.opD_su,Dv.opD_mi,Dv.opD_ml,Dv.opD_mo,Dv.opD_fd,Dv.opD_po,Dv.opD_ba,Dv.opD_sh,h]
theorem nV {j:Int}(h:0<j)(h2:j<2 ^ 200):Dv.divOk j=true:=by
 have h3:j.natAbs<2 ^ 200:=⋯
 have:=(zP ⋯).mpr h3;simp only[Dv.divOk,wq,decide_eq_true_eq];omega
theorem be {i j:Int}(h:0<j)(h2:j<2 ^ 200):opD .fdiv (.int i) (.int j)=.ok (.int (i/j)) true:=by
 simp[Dv.opD_ai,Dv.opD_al,Dv.opD_su,Dv.opD_mi,Dv.opD_ml,Dv.opD_mo,Dv.opD_fd,Dv.opD_po,Dv.opD_ba,Dv.opD_sh,nV h h2]
theorem pF (i j:Int):opD .add (.int i) (.int j)=.ok (.int (i+j)) true:=rfl
theorem sk (i j:Int):opD .sub (.int i) (.int j)=.ok (.int (i-j)) true:=rfl
theorem gj {a b:List Int}(h:a.length+b.length<=100000):opD .add (L a) (L b)=.ok (L (a++b)) true:=by
 simp[Dv.opD_ai,Dv.opD_al,Dv.opD_su,Dv.opD_mi,Dv.opD_ml,Dv.opD_mo,Dv.opD_fd,Dv.opD_po,Dv.opD_ba,Dv.opD_sh,Dv.mx,h,di]
theorem qw {x n:Int}(h:-100000<=n)(h2:n<=100000):opD .mul (.lst [.int x]) (.int n)=.ok (L (List.replicate n.toNat x)) true:=by
 have h3:n.toNat<=100000:=⋯
 have e:(List.replicate n.toNat [D.int x]).flatten=(List.replicate n.toNat x).map D.int:=by
  generalize n.toNat=k
  induction k with
  | zero=>rfl
  | succ k ih=>rw[wO,xo,ih,wO,wm];rfl
 simp[Dv.opD_ai,Dv.opD_al,Dv.opD_su,Dv.opD_mi,Dv.opD_ml,Dv.opD_mo,Dv.opD_fd,Dv.opD_po,Dv.opD_ba,Dv.opD_sh,Dv.mx,h,h2,h3,e,Dv.flatL,Dv.scal,L]
theorem oH {x n:Int}(h:0<=n)(h2:n<=100000):opD .mul (.lst [.int x]) (.int n)=.ok (L (List.replicate n.toNat x)) true:=qw ⋯ h2
theorem lF {xs:List Int}(h:xs.length<64)(f:Bool):Dv.sortedD (L xs) f=.ok (L (Dv.isort xs)) true:=by
 unfold Dv.sortedD;simp only[gc];rw[if_pos h]
theorem ub:Sl.get .no=none:=rfl
theorem tQ (d:D):Sl.get (.dp d)=some d:=rfl
theorem tK (d:D):Sl.get (.sh d)=some d:=rfl
theorem tf (d:D):Sl.get (.ow d)=some d:=rfl
theorem q5 (d:D):Sl.give (.sh d)=.sh d:=rfl
theorem qR (d:D):Sl.give (.ow d)=.sh d:=rfl
theorem mn:Sl.shared .no=none:=rfl
theorem mw (d:D):Sl.shared (.sh d)=some d:=rfl
theorem l3 (d:D):Sl.shared (.ow d)=none:=rfl
theorem dR (i:Int):Dv.scal (.int i)=true:=rfl
theorem rq (i:Bool):Dv.scal (.bl i)=true:=rfl
theorem oK:Dv.scal .non=true:=rfl
theorem nK (i:List D):Dv.scal (.lst i)=false:=rfl
theorem pK (i:List D):Dv.scal (.tup i)=false:=rfl
theorem pI (i:Int)(f:Bool):keepD (.int i) f=some (.sh (.int i)):=rfl
theorem p8 (i:Bool)(f:Bool):keepD (.bl i) f=some (.sh (.bl i)):=rfl
theorem keep_nil:keepD (.lst []) true=some (.ow (.lst [])):=rfl
theorem pG (i:Int):keepD (.lst [.int i]) true=some (.ow (.lst [.int i])):=rfl
theorem tF (xs:List Int):keepD (L xs) true=some (.ow (L xs)):=by simp[keepD,di]
theorem kl {elt cond:EE}{free:Dv.Env}{c:Int->Bool}{g:Int->Int}:∀ {xs:List Int},(∀ x∈xs,cond (some (.int x)::free)=.ok (.bl (c x)) true)->(∀ x∈xs,c x=true->elt (some (.int x)::free)=.ok (.int (g x)) true) ->
  cz elt cond free (xs.map .int)=.ok (((xs.filter c).map g).map .int) true
 | [],_,_=>rfl
 | x::r,h,k=>by
  rw[wm];unfold cz;rw[h x (we ..),kl (c:=c) (g:=g) (λ y hy=>h y (wd _ hy)) λ y hy=>k y (wd _ hy)];cases e:c x with
  | true=>rw[k x (we ..) e];simp[e]
  | false=>simp[e]
theorem pP {elt:EE}{free:Dv.Env}{g:Int->Int}{xs:List Int}(k:∀ x∈xs,elt (some (.int x)::free)=.ok (.int (g x)) true):
  cz elt (eBl true) free (xs.map .int)=.ok ((xs.map g).map .int) true:=by
 rw[kl (c:=λ _=>true) (g:=g) (λ _ _=>rfl) λ x hx _=>k x hx,List.filter_eq_self.mpr (λ _ _=>rfl)]
theorem aJ {elt:EE}{is:List Nat}{it:EI}{ρ:Dv.Env}{g:Int->Int}{xs:List Int}{f:Bool}(hi:it ρ=.ok (xs.map .int) f)(hl:xs.length<=100000)(k:∀ x∈xs,elt (some (.int x)::Dv.pick ρ is)=.ok (.int (g x)) true):
  eComp elt (eBl true) is it ρ=.ok (L (xs.map g)) true:=by
 unfold eComp;rw[hi];simp only[wj,Dv.mx,hl,if_true,pP k]
theorem oS {elt cond:EE}{is:List Nat}{it:EI}{ρ:Dv.Env}{c:Int->Bool}{g:Int->Int}{xs:List Int}{f:Bool}(hi:it ρ=.ok (xs.map .int) f)(hl:xs.length<=100000)(h:∀ x∈xs,cond (some (.int x)::Dv.pick ρ is)=.ok (.bl (c x)) true)
  (k:∀ x∈xs,c x=true->elt (some (.int x)::Dv.pick ρ is)=.ok (.int (g x)) true):eComp elt cond is it ρ=.ok (L ((xs.filter c).map g)) true:=by
 unfold eComp;rw[hi];simp only[wj,Dv.mx,hl,if_true,kl h k]
def upto (n:Nat):List Int:=(List.range n).map λ (i:Nat)=>(i:Int)
theorem gT (lo:Int):∀ n:Nat,Dv.rangeL lo n=((List.range n).map λ (i:Nat)=>lo+(i:Int)).map D.int
 | 0=>rfl
 | n+1=>by
  unfold Dv.rangeL;rw[gT (lo+1) n,zh,wm,wm,yn,yn,yn];simp only[xY,Ai,List.cons.injEq,true_and];apply zC;intro i _;simp only[DM,za];congr 1;omega
theorem bB (n:Nat):Dv.rangeL 0 n=(upto n).map .int:=by rw[gT];simp[upto]
theorem eJ (n:Nat):upto (n+1)=upto n++[(n:Int)]:=by unfold upto;rw[List.range_succ,List.map_append];rfl
theorem bR (n:Nat):(upto n).length=n:=by simp[upto]
theorem mem_upto {n:Nat}{x:Int}:x∈upto n ↔ 0<=x/\x<n:=by
 unfold upto;rw[xS]
 constructor
 ·rintro ⟨i,hi,rfl⟩;have:=List.mem_range.mp hi;omega
 ·intro h;exact⟨x.toNat,List.mem_range.mpr ⋯,⋯⟩
theorem aN {x:Nat}{body:SS}{d:D}{r:List D}{st st':St}(h:body (st.set x (.sh d))=.nx st'):forGo x body (d::r) st=forGo x body r st':=by
 conv=>lhs;unfold forGo
 rw[h]
theorem c7 {x:Nat}{body:SS}{d:D}{r:List D}{st:St}{v:D}{f:Bool}(h:body (st.set x (.sh d))=.ret v f):forGo x body (d::r) st=.ret v f:=by
 conv=>lhs;unfold forGo
 rw[h]
theorem mZ {tgt:D->St->Option St}{body:SS}{d:D}{r:List D}{st st1 st':St}(h0:tgt d st=some st1)(h:body st1=.nx st'):Dv.forGoT tgt body (d::r) st=Dv.forGoT tgt body r st':=by
 conv=>lhs;unfold Dv.forGoT
 rw[h0];simp only[h]
theorem kN {tgt:D->St->Option St}{body:SS}{d:D}{r:List D}{st st1:St}{v:D}{f:Bool}(h0:tgt d st=some st1)(h:body st1=.ret v f):Dv.forGoT tgt body (d::r) st=.ret v f:=by
 conv=>lhs;unfold Dv.forGoT
 rw[h0];simp only[h]
end Cw
set_option hygiene false in
local macro_rules | `(tactic| simp! only[$x,*])=>`(tactic| simp only[Dv.fn,Dv.sCons,Dv.sNil,Dv.sSet,Dv.sSetG,pI,p8,tF,keep_nil,pG,Dv.give,Dv.open_,q5,qR,mn,mw,l3,Dv.sIf,Dv.sRet,Dv.sRetO,Dv.sExpr,Dv.sApp,Dv.sPut,Dv.sFor,Dv.sForT,Dv.sUnpack,Dv.sUnpackL,Dv.setAll,Dv.sPar,Dv.iSeq,Dv.iRange,Dv.iRange2,Dv.iZip,Dv.eB1,Dv.eB2,Dv.intD,Dv.isListD,Dv.isIntD,Dv.isBoolD,Dv.eIx,Dv.eOr,Dv.eAnd,Dv.eNot,Dv.eNeg,Dv.eCm,Dv.eOp,Dv.eVar,Dv.eInt,Dv.eBl,Dv.eNon,Dv.eStr,Dv.eLst,Dv.eTup,Dv.lNil,Dv.lCons,Dv.eCall,Dv.pick,Dv.eSlice,Dv.ePart,Dv.all,Dv.R.bind,Dv.RL.bind,Dv.R.bindL,Dv.RL.bindL,Dv.Out.bind,ub,tK,tf,tQ,Dv.sSetD,Dv.isTupD,dR,rq,oK,nK,pK,wm,wK,wA,xN,List.replicate,xT,xA,w9,xJ,wM,wN,w6,zY,yw,yX,zd,Ae,yT,Bool.or_false,yD,xD,xG,if_true,if_false,Nat.reduceAdd,Nat.reduceSub,Nat.reduceLeDiff,reduceIte,reduceCtorEq,decide_true,wg,List.reverse_nil,pF,sk,ud,uS,uu,ue,tW,t4,tL,sY,sA,nT,vg,di,wj,$x,*])
namespace Cw
open Dv (forGo rngOk sCons)
open Dv (D R RL EE EL EI RI Sl Out SS St)
open Bt
def dg (b n:Int):List Int->Bool
 | []=>true
 | x::r=>decide (b<x)&&decide (x<n)&&dg x n r
theorem upFrom_iff:∀ {xs:List Int} {b n:Int},dg b n xs=true ↔ xs.Pairwise (·<·)/\∀ x∈xs,b<x/\x<n
 | [],b,n=>by simp[dg]
 | x::r,b,n=>by
  unfold dg;rw[wq,wq,decide_eq_true_eq,decide_eq_true_eq,upFrom_iff,List.pairwise_cons]
  constructor
  ·rintro ⟨⟨h1,h2⟩,h3,h4⟩
   refine⟨⟨λ y hy=>(h4 y hy).1,h3⟩,λ y hy=>?_⟩
   rcases List.mem_cons.mp hy with rfl|hy
   ·exact⟨h1,h2⟩
   ·have:=h4 y hy;omega
  ·rintro ⟨⟨h1,h2⟩,h3⟩
   have:=h3 x (we ..);exact⟨this,h2,λ y hy=>⟨h1 y hy,(h3 y (wd _ hy)).2⟩⟩
theorem cJ (n:Int)(A:D):∀ (xs:List Int) (b:Int) (z:Sl),dg b n xs=true->∃ st',forGo 3 b_Q01_l1 (xs.map .int) [.sh A,.sh (.int n),.sh (.int b),z]=.nx st'
 | [],b,z,_=>⟨_,rfl⟩
 | x::r,b,z,hu=>by
  unfold dg at hu;rw[wq,wq,decide_eq_true_eq,decide_eq_true_eq] at hu;obtain⟨⟨h1,h2⟩,h3⟩:=hu;obtain⟨st',h⟩:=cJ n A r x (.sh (.int x)) h3;refine⟨st',?_⟩;rw[wm,aN (st':=[.sh A,.sh (.int n),.sh (.int x),.sh (.int x)]),h];simp! only[b_Q01_l1,decide_eq_false (show ¬ x<=b by omega),decide_eq_false (show ¬ n<=x by omega)]
theorem eY {n:Int}{xs:List Int}(h1:xs≠[])(h:dg (-1) n xs=true):F_Q01 [L xs,.int n]=.ok .non true:=by
 obtain⟨st',e⟩:=cJ n (L xs) xs (-1) .no h;have h1:¬ ((xs.length:Int)=0):=by
  have:=List.length_pos_iff.mpr h1;omega
 simp! only[F_Q01,b_Q01,b_Q01_t2,b_Q01_t1,Dv.lenD,decide_eq_false h1,e]
theorem getD_mem {s:List Int}{i:Nat}(h:i<s.length):s.getD i 0∈s:=by
 rw[wt,wo h];exact xH h
theorem dC (x:Int):F_Q0N [.int x]=.ok (.bl true) true:=by
 simp! only[F_Q0N,b_Q0N]
theorem dW:∀ (xs ys:List Int) (A B:D) (y z:Sl),xs.length=ys.length->∃ st',Dv.forGoT (Dv.tupTo [2,3]) b_Q05_l1 (List.zipWith (λ x y=>D.tup [x,y]) (xs.map .int) (ys.map .int)) [.sh A,.sh B,y,z]=if xs=ys then .nx st' else .ret (.bl false) true
 | [],[],A,B,y,z,_=>⟨_,rfl⟩
 | [],_::_,A,B,y,z,h=>by simp at h
 | _::_,[],A,B,y,z,h=>by simp at h
 | x::xs,w::ys,A,B,y,z,h=>by
  obtain⟨st',e⟩:=dW xs ys A B (.sh (.int x)) (.sh (.int w)) (by simpa using h);refine⟨st',?_⟩;have h0:Dv.tupTo [2,3] (.tup [.int x,.int w]) [.sh A,.sh B,y,z]=some [.sh A,.sh B,.sh (.int x),.sh (.int w)]:=rfl;rw[wm,wm,List.zipWith_cons_cons];by_cases hxw:x=w
  ·rw[mZ h0 (st':=[.sh A,.sh B,.sh (.int x),.sh (.int w)]),e]
   ·simp[hxw]
   ·simp! only[b_Q05_l1,dC,decide_eq_true hxw]
  ·rw[kN h0 (v:=.bl false) (f:=true)]
   ·simp[hxw]
   ·simp! only[b_Q05_l1,dC,decide_eq_false hxw]
theorem kD (xs ys:List Int):F_Q05 [L xs,L ys]=.ok (.bl (decide (xs=ys))) true:=by
 by_cases h:xs.length=ys.length
 ·obtain⟨st',e⟩:=dW xs ys (L xs) (L ys) .no .no h
  have h1:(xs.length:Int)=ys.length:=⋯
  simp! only[F_Q05,b_Q05,b_Q05_t2,b_Q05_t1,Dv.lenD,h1,e];by_cases h2:xs=ys
  ·simp[h2]
  ·simp[h2]
 ·have h1:¬ (xs.length:Int)=ys.length:=⋯
  have h2:¬ xs=ys:=λ z=>h (by rw[z])
  simp! only[F_Q05,b_Q05,b_Q05_t2,b_Q05_t1,Dv.lenD,decide_eq_false h1,decide_eq_false h2]
theorem gE (xs:List Int)(p:Int):xs.map D.int++[.int p]=(xs++[p]).map D.int:=by simp
theorem iV (n:Nat):(upto n).Pairwise (·<·):=by
 unfold upto;exact List.pairwise_map.mpr (List.pairwise_lt_range.imp λ {a b} h=>⋯)
theorem i7 {n:Int}(h:0<=n)(h2:n<=1000):rngOk n=true:=by
 simp only[rngOk,wq,decide_eq_true_eq];omega
theorem eB {n by_:Int}{xs:List Int}(hn:0<n)(hl:xs.length<64):F_Q0M [.int n,L xs,.int by_]=.ok (L (Dv.isort (xs.map λ x=>(x+by_)%n))) true:=by
 have hc:c_Q0M_1 [some (.int n),some (L xs),some (.int by_)]=.ok (L (xs.map λ x=>(x+by_)%n)) true:=by
  unfold c_Q0M_1;exact aJ (f:=false) rfl ⋯ λ x hx=>by simp! only[av hn]
 simp! only[F_Q0M,b_Q0M,hc,lF (xs:=xs.map λ x=>(x+by_)%n) (by simpa using hl)]
theorem fR (n:Int)(xs:List Int):∀ t:Nat,(upto t).foldl (λ a k=>a++xs.map (·+k*n)) []=again n xs t
 | 0=>rfl
 | t+1=>by rw[eJ,yQ,fR n xs t];rfl
theorem fN {n t:Int}{xs:List Int}:∀ (ks found:List Int) (z:Sl),(∀ k∈ks,0<=k/\k<=1000)->found.length+ks.length*xs.length<=100000 ->
  ∃ z',forGo 4 b_Q04_l1 (ks.map .int) [.sh (.int n),.sh (L xs),.sh (.int t),.ow (L found),z]=.nx [.sh (.int n),.sh (L xs),.sh (.int t),.ow (L (ks.foldl (λ a k=>a++xs.map (·+k*n)) found)),z']
 | [],found,z,_,_=>⟨z,rfl⟩
 | k::r,found,z,h,hl=>by
  rw[wA,yz] at hl;have hk:=h k (we ..);have hc:c_Q04_1 [some (.int n),some (L xs),some (.int t),some (L found),some (.int k)]=.ok (L (xs.map (·+k*n))) true:=by
   unfold c_Q04_1;exact aJ (f:=false) rfl ⋯ λ x hx=>by simp! only[bA (cu (i:=k) (j:=n) ⋯ ⋯)]
  obtain⟨z',e⟩:=fN (n:=n) (t:=t) (xs:=xs) r (found++xs.map (·+k*n)) (.sh (.int k)) (λ x hx=>h x (wd _ hx)) (by rw[wB,wj];omega);refine⟨z',?_⟩;rw[wm,aN (st':=[.sh (.int n),.sh (L xs),.sh (.int t),.ow (L (found++xs.map (·+k*n))),.sh (.int k)]),e]
  ·rfl
  ·simp! only[b_Q04_l1,hc,gj (a:=found) (b:=xs.map (·+k*n)) (by rw[wj];omega)]
theorem nM {n t:Int}{xs:List Int}(ht:0<=t)(ht2:t<=1000)(hl:xs.length<=60):F_Q04 [.int n,L xs,.int t]=.ok (L (again n xs t.toNat)) true:=by
 obtain⟨z,e⟩:=fN (n:=n) (t:=t) (xs:=xs) (upto t.toNat) [] .no (λ k hk=>by have:=mem_upto.mp hk;omega) (by
  rw[bR];have:t.toNat*xs.length<=1000*60:=zw ⋯ hl;simp;omega)
 rw[fR] at e;simp only[wK,L] at e;simp! only[F_Q04,b_Q04,b_Q04_t2,b_Q04_t1,Dv.flatL,i7 ht ht2,bB,e]
theorem dS {a r:SS}{st st1:St}(h:a st=.nx st1):sCons a r st=r st1:=by
 unfold sCons;rw[h]
def Hs (s:Sl)(a:List Int):Prop:=s=.sh (L a)\/s=.ow (L a)
theorem Hs.get {s:Sl}{a:List Int}(h:Hs s a):s.get=some (L a):=by rcases h with h|h <;>(subst h;rfl)
theorem Hs.give {s:Sl}{a:List Int}(h:Hs s a):s.give=.sh (L a):=by rcases h with h|h <;>(subst h;rfl)
structure PairP (P:Int->List Int->List Int->Prop):Prop where
 one:P 1 [0] [0]
 beat:∀ {n a b},P n a b->Beat n a/\Beat n b
 again:∀ {n a b} {t:Nat},1<=t->P n a b->P (n*t) (again n a t) b
 mix:∀ {n a b} {t:Nat},1<=t->P n a b->P (n*t) (Dv.isort (mix a t t)) (b.map (·*(t:Int)))
 swap:∀ {n a b},P n a b->P n b a
 turn:∀ {n a b} (c:Int),P n a b->P n (Dv.isort (a.map λ x=>(x+c)%n)) b
theorem jF (xs:List Int)(t:Int):∀ j:Nat,(upto j).foldl (λ a k=>a++xs.map (·*t+k)) []=mix xs t j
 | 0=>rfl
 | j+1=>by rw[eJ,yQ,jF xs t j];rfl
theorem og (r:Int)(h:0<=r)(h2:r<7):∃ t:Nat,Dv.at? [.int 2,.int 3,.int 2,.int 5,.int 2,.int 3,.int 7] r=some (.int t)/\2<=t/\t<=7:=by
 have:r=0\/r=1\/r=2\/r=3\/r=4\/r=5\/r=6:=⋯
 rcases this with rfl|rfl|rfl|rfl|rfl|rfl|rfl
 ·exact⟨2,rfl,⋯,⋯⟩
 ·exact⟨3,rfl,⋯,⋯⟩
 ·exact⟨2,rfl,⋯,⋯⟩
 ·exact⟨5,rfl,⋯,⋯⟩
 ·exact⟨2,rfl,⋯,⋯⟩
 ·exact⟨3,rfl,⋯,⋯⟩
 ·exact⟨7,rfl,⋯,⋯⟩
end Cw
namespace Bt
open Dv (ins isort)
structure Fill (n:Int)(a b:List Int):Prop where
 one:Beat n a
 oth:Beat n b
 len:((a.length*b.length:Nat):Int)=n
 inj:∀ x∈a,∀ y∈a,∀ s∈b,∀ t∈b,(x+s)%n=(y+t)%n->x=y/\s=t
theorem Fill.swap {n:Int}{a b:List Int}(h:Fill n a b):Fill n b a:=
 ⟨h.oth,h.one,by rw[ym];exact h.len,λ x hx y hy s hs t ht e=>by
  have:=h.inj s hs t ht x hx y hy (by rw[Aj s x,Aj t y];exact e);exact⟨this.2,this.1⟩⟩
theorem jn:Fill 1 [0] [0]:=⟨⟨by simp,by simp,by simp⟩,⟨by simp,by simp,by simp⟩,by simp,by simp⟩
theorem cS {a b:List Int}(p:a.Perm b){x:Int}(h:x∈a):x∈b:=p.mem_iff.mp h
theorem Fill.turn {n c:Int}{a b:List Int}(h:Fill n a b):Fill n (isort (a.map λ x=>(x+c)%n)) b:=by
 have hp:=h.one.pos;refine⟨nv h.one,h.oth,by rw[bQ,wj];exact h.len,λ x hx y hy s hs t ht e=>?_⟩;obtain⟨x',hx',rfl⟩:=List.mem_map.mp (cS (ao _) hx);obtain⟨y',hy',rfl⟩:=List.mem_map.mp (cS (ao _) hy);obtain⟨k,e1⟩:=mod_eq_iff.mp e;have q1:=zr (x'+c) n;have q2:=zr (y'+c) n;have e2:(x'+s)%n=(y'+t)%n:=mod_eq_iff.mpr ⟨k+(x'+c)/n-(y'+c)/n,by rw[zp,zO];omega⟩;obtain⟨rfl,rfl⟩:=h.inj x' hx' y' hy' s hs t ht e2;exact⟨rfl,rfl⟩
theorem again_mem {n:Int}{xs:List Int}:∀ {t:Nat} {x:Int},x∈again n xs t ↔ ∃ y∈xs,∃ i:Nat,i<t/\x=y+i*n
 | 0,x=>by simp[again]
 | t+1,x=>by
  unfold again;rw[xM,again_mem,xS]
  constructor
  ·rintro (⟨y,hy,i,hi,rfl⟩|⟨y,hy,rfl⟩)
   ·exact⟨y,hy,i,⋯,rfl⟩
   ·exact⟨y,hy,t,⋯,rfl⟩
  ·rintro ⟨y,hy,i,hi,rfl⟩
   by_cases e:i=t
   ·subst e;exact .inr ⟨y,hy,rfl⟩
   ·exact .inl ⟨y,hy,i,⋯,rfl⟩
theorem l8 {n:Int}{b:List Int}(h:Beat n b){t:Nat}(ht:1<=t):Beat (n*t) b:=
 ⟨h.ne,h.up,λ x hx=>by
  have h1:=h.rg x hx;have h2:n*1<=n*(t:Int):=xO ⋯ (by have:=h.pos;omega);omega⟩
theorem Fill.again {n:Int}{a b:List Int}(h:Fill n a b){t:Nat}(ht:1<=t):Fill (n*t) (again n a t) b:=by
 have hp:=h.one.pos;refine⟨kX h.one ht,l8 h.oth ht,?_,λ x hx y hy s hs r hr e=>?_⟩
 ·rw[gH,w8,zV,h.len,xg]
 ·obtain⟨x',hx',i,hi,rfl⟩:=again_mem.mp hx
  obtain⟨y',hy',j,hj,rfl⟩:=again_mem.mp hy;obtain⟨k,e1⟩:=mod_eq_iff.mp e;have e2:(x'+s)%n=(y'+r)%n:=mod_eq_iff.mpr ⟨(t:Int)*k+j-i,by
   rw[zp,zO,<- yU,xg n j,xg n i];omega⟩
  obtain⟨rfl,rfl⟩:=h.inj x' hx' y' hy' s hs r hr e2;have e3:n*((i:Int)-j)=n*(t*k):=by
   rw[zp,<- yU,xg n i,xg n j];omega
  have e4:(i:Int)-j=t*k:=Int.eq_of_mul_eq_mul_left ⋯ e3;have e5:=eO (n:=(t:Int)) ⋯ e4 ⋯ ⋯;have e6:(i:Int)=j:=⋯
  exact⟨by rw[e6],rfl⟩
theorem Fill.mix {n:Int}{a b:List Int}(h:Fill n a b){t:Nat}(ht:1<=t):Fill (n*t) (isort (mix a t t)) (b.map (·*(t:Int))):=by
 have hp:=h.one.pos;refine⟨jM h.one ht,j5 h.oth ⋯,?_,λ x hx y hy s hs r hr e=>?_⟩
 ·rw[bQ,lZ,wj,w8,zV,h.len,xg]
 ·obtain⟨x',hx',i,hi,rfl⟩:=mix_mem.mp (cS (ao _) hx)
  obtain⟨y',hy',j,hj,rfl⟩:=mix_mem.mp (cS (ao _) hy);obtain⟨s',hs',rfl⟩:=List.mem_map.mp hs;obtain⟨r',hr',rfl⟩:=List.mem_map.mp hr;obtain⟨k,e1⟩:=mod_eq_iff.mp e;have e2:(x'+s')*(t:Int)+i=(y'+r'+n*k)*t+j:=by
   have:n*(t:Int)*k=n*k*t:=by rw[yU,xg (t:Int) k,<- yU]
   rw[zq,zq,zq];omega
  obtain⟨e3,e4⟩:=digits (t:=(t:Int)) ⋯ ⋯ ⋯ e2;have e5:(x'+s')%n=(y'+r')%n:=mod_eq_iff.mpr ⟨k,⋯⟩;obtain⟨rfl,rfl⟩:=h.inj x' hx' y' hy' s' hs' r' hr' e5;exact⟨⋯,rfl⟩
theorem fM {n:Int}{a:List Int}(ha:a.Nodup):∀ {b:List Int},b.Nodup->(∀ x∈a,∀ y∈a,∀ s∈b,∀ t∈b,(x+s)%n=(y+t)%n->x=y/\s=t)->(hits n a b).Nodup
 | [],_,_=>by simp[hits]
 | s::r,hb,inj=>by
  obtain⟨h1,h2⟩:=List.nodup_cons.mp hb;have e:hits n a (s::r)=(a.map λ b=>(b+s)%n)++hits n a r:=by simp[hits]
  rw[e];refine List.nodup_append.mpr ⟨cZ ha λ x hx y hy q=>(inj x hx y hy s (we ..) s (we ..) q).1,fM ha h2 λ x hx y hy u hu v hv=>inj x hx y hy u (wd _ hu) v (wd _ hv),λ p hp q hq z=>?_⟩;subst z;obtain⟨x,hx,rfl⟩:=List.mem_map.mp hp;unfold hits at hq;obtain⟨t,ht,hq⟩:=List.mem_flatMap.mp hq;obtain⟨y,hy,e2⟩:=List.mem_map.mp hq;have:=(inj x hx y hy s (we ..) t (wd _ ht) e2.symm).2;exact h1 (this▸ht)
theorem dF (n:Int)(a:List Int):∀ b:List Int,(hits n a b).length=a.length*b.length
 | []=>by simp[hits]
 | s::r=>by
  have e:hits n a (s::r)=(a.map λ b=>(b+s)%n)++hits n a r:=by simp[hits]
  rw[e,wB,wj,dF n a r,wA,Nat.mul_succ,zb]
theorem pA:∀ {xs:List Int} {lo:Int},xs.Pairwise (·<·)->(∀ x∈xs,lo<=x/\x<lo+xs.length)->xs=(List.range xs.length).map λ (i:Nat)=>lo+(i:Int)
 | [],_,_,_=>rfl
 | x::r,lo,h,g=>by
  obtain⟨h1,h2⟩:=List.pairwise_cons.mp h;have gx:=g x (we ..);have l:=kb (lo:=x+1) (hi:=lo+((x::r).length:Int)) h2 λ y hy=>⟨h1 y hy,(g y (wd _ hy)).2⟩
  rw[wA] at l gx;have ex:x=lo:=by
   rw[zW] at l gx;omega
  subst ex;rw[wA,zh,wm,yn];have:=pA (xs:=r) (lo:=x+1) h2 λ y hy=>by
   have g1:=g y (wd _ hy);have g2:=h1 y hy;rw[wA,zW] at g1;omega
  conv=>lhs;rw[this]
  simp only[xY,Ai,List.cons.injEq,true_and];apply zC;intro i _;simp only[DM,za];omega
theorem nG {n:Nat}{ps:List Int}(nd:ps.Nodup)(rg:∀ p∈ps,0<=p/\p<n)(hl:ps.length=n):ps.Perm ((List.range n).map λ (i:Nat)=>(i:Int)):=by
 have h1:=rD (aE ps) ((ao ps).nodup_iff.mpr nd);have h2:=pA (lo:=0) h1 λ x hx=>by
  have:=rg x (cS (ao ps) hx);rw[bQ,hl];omega
 rw[bQ,hl] at h2;have h3:=(ao ps).symm;rw[h2] at h3;simpa using h3
theorem Fill.perm {n:Int}{a b:List Int}(h:Fill n a b):(hits n a b).Perm ((List.range n.toNat).map λ (i:Nat)=>(i:Int)):=by
 have hp:=h.one.pos;refine nG (fM h.one.nd h.oth.nd h.inj) (λ p hq=>?_) ?_
 ·have:=dG (n:=n) ⋯ p hq;omega
 ·have:=dF n a b;have:=h.len;omega
theorem count_range (n i:Nat)(h:i<n):((List.range n).map λ (i:Nat)=>(i:Int)).count (i:Int)=1:=by
 have nd:((List.range n).map λ (i:Nat)=>(i:Int)).Nodup:=List.pairwise_map.mpr (List.pairwise_lt_range.imp λ {a b} h=>⋯);have h1:=(List.nodup_iff_count.mp nd) (i:Int);have h2:=List.count_pos_iff.mpr (List.mem_map.mpr ⟨i,List.mem_range.mpr h,rfl⟩:(i:Int)∈(List.range n).map λ (i:Nat)=>(i:Int));omega
theorem pW {n:Int}{a b:List Int}(ha:Beat n a)(hb:Beat n b)(h:tally n.toNat (hits n a b)=List.replicate n.toNat 1):Fill n a b:=by
 have hp:=ha.pos;rw[jU _ λ p hq=>(dG ⋯ p hq).1] at h;have cnt:∀ p:Int,0<=p->p<n->(hits n a b).count p=1:=λ p h0 h1=>by
  have e:=congrArg (λ l=>l[p.toNat]?) h;have hi:p.toNat<n.toNat:=⋯
  simp[hi] at e;have e2:((p.toNat:Nat):Int)=p:=⋯
  have e3:max p 0=p:=⋯
  first
   | (rw[e2] at e;omega)
   | (rw[e3] at e;omega)
 have nd:(hits n a b).Nodup:=by
  rw[List.nodup_iff_count];intro p;by_cases hm:p∈hits n a b
  ·have:=dG (n:=n) ⋯ p hm
   rw[cnt p this.1 this.2];omega
  ·rw[xP hm];omega
 have pm:(hits n a b).Perm ((List.range n.toNat).map λ (i:Nat)=>(i:Int)):=by
  refine(List.perm_iff_count).mpr λ p=>?_
  by_cases hr:0<=p/\p<n
  ·rw[cnt p hr.1 hr.2]
   have:=count_range n.toNat p.toNat ⋯;rw[show ((p.toNat:Nat):Int)=p by omega] at this;exact this.symm
  ·rw[xP λ hm=>hr (dG ⋯ p hm),xP]
   intro hm;obtain⟨i,hi,rfl⟩:=List.mem_map.mp hm;have:=List.mem_range.mp hi;omega
 refine⟨ha,hb,?_,?_⟩
 ·have:=pm.length_eq
  rw[dF,wj,xC] at this;omega
 ·-- two ways to one place would count twice
  have aux:∀ {b:List Int},(hits n a b).Nodup->b.Nodup->∀ x∈a,∀ y∈a,∀ s∈b,∀ t∈b,(x+s)%n=(y+t)%n->x=y/\s=t:=by
   intro b
   induction b with
   | nil=>intro _ _ x _ y _ s hs;simp at hs
   | cons u r ih=>
    intro nd nb x hx y hy s hs t ht e;have eh:hits n a (u::r)=(a.map λ b=>(b+u)%n)++hits n a r:=by simp[hits]
    rw[eh] at nd;obtain⟨n1,n2,n3⟩:=List.nodup_append.mp nd;have inr:∀ z∈a,∀ v∈r,(z+v)%n∈hits n a r:=λ z hz v hv=>List.mem_flatMap.mpr ⟨v,hv,List.mem_map.mpr ⟨z,hz,rfl⟩⟩
    rcases List.mem_cons.mp hs with e1|hs'
    ·rcases List.mem_cons.mp ht with e2|ht'
     ·subst e1 e2
      exact⟨lJ ⋯ (ha.rg x hx) (ha.rg y hy) e,rfl⟩
     ·subst e1
      exact absurd e (n3 _ (List.mem_map.mpr ⟨x,hx,rfl⟩) _ (inr y hy t ht'))
    ·rcases List.mem_cons.mp ht with e2|ht'
     ·subst e2
      exact absurd e.symm (n3 _ (List.mem_map.mpr ⟨y,hy,rfl⟩) _ (inr x hx s hs'))
     ·exact ih n2 (List.nodup_cons.mp nb).2 x hx y hy s hs' t ht' e
  exact aux nd hb.nd
end Bt
namespace Cw
open Dv (Out R RL cmD eB2 eCall eCm eInt eIx eLst eOp eVar forGo lCons lNil opD rngOk sCons sIf sNil sPar sRaise sRetR sSet)
open Dv (D R RL EE EL EI RI Sl Out SS St)
open Bt
theorem dN {xs:List Int}(h:xs≠[]):Dv.at? (xs.map D.int) (-1)=some (.int (xs.getLast h)):=by
 have hl:0<xs.length:=List.length_pos_iff.mpr h;unfold Dv.at?;rw[if_neg ⋯,if_pos (by simp;omega)];have:((-1:Int)+((xs.map D.int).length:Int)).toNat=xs.length-1:=by simp;omega
 rw[this,wH,wo ⋯,yo];rfl
theorem uo (xs:List Int)(lo hi:Option Int):Dv.cutL (xs.map D.int) lo hi=(Dv.cutL xs lo hi).map D.int:=by
 unfold Dv.cutL;rw[wj,List.map_take,List.map_drop]
theorem lj (xs:List Int)(f:Bool)(lo hi:Option Int):Dv.sliceD (L xs) f lo hi=.ok (L (Dv.cutL xs lo hi)) true:=by
 unfold Dv.sliceD;simp only[uo,di,zd]
theorem iq {n:Int}(h:0<=n)(h2:n<=100000)(f:Bool):Dv.listRangeD (.int n) f=.ok (L (Dv.upL 0 n.toNat)) true:=by
 unfold Dv.listRangeD L;simp only[decide_eq_true h,decide_eq_true h2,yT,if_true]
def tol (xs:List Int):Int:=xs.foldr (λ b a=>a*2+b) 0
theorem bG (x:Int)(r:List Int):tol (x::r)=tol r*2+x:=rfl
def ni (xs:List Int):Prop:=∀ x∈xs,x=0\/x=1
theorem kO:∀ {xs:List Int},ni xs->0<=tol xs/\tol xs<2 ^ xs.length
 | [],_=>by simp[tol]
 | x::r,h=>by
  have h1:=kO (xs:=r) λ y hy=>h y (wd _ hy)
  have h2:=h x (we ..);rw[bG,wA,Ak];omega
theorem lN:∀ {xs:List Int} {k:Nat},xs[k]?=some 0->tol (xs.set k 1)=tol xs+2 ^ k
 | [],k,h=>by simp at h
 | x::r,0,h=>by simp at h;subst h;rw[wM,bG,bG];simp
 | x::r,k+1,h=>by
  rw[wN,bG,bG,lN (xs:=r) (k:=k) (by simpa using h),Ak];omega
theorem lI:∀ {xs:List Int} (k:Nat),ni xs->(tol xs).toNat.testBit k=decide (xs[k]?.getD 0=1)
 | [],k,_=>by simp[tol]
 | x::r,0,h=>by
  have h1:=kO (xs:=r) λ y hy=>h y (wd _ hy)
  have h2:=h x (we ..);rw[bG,zQ];simp only[w9,yw];apply decide_eq_decide.mpr;omega
 | x::r,k+1,h=>by
  have hr:ni r:=λ y hy=>h y (wd _ hy)
  have h1:=kO hr;have h2:=h x (we ..);rw[bG,zR,show (tol r*2+x).toNat/2=(tol r).toNat by omega,lI k hr];simp
def puts (xs:List Int)(ps:List Int):List Int:=ps.foldl (λ x p=>x.set p.toNat 1) xs
theorem gz:∀ {ps xs:List Int},ni xs->ni (puts xs ps)
 | [],xs,h=>h
 | p::r,xs,h=>gz (ps:=r) λ y hy=>by
  rcases List.mem_or_eq_of_mem_set hy with h1|h1
  ·exact h y h1
  ·exact .inr h1
def pw2 (ps:List Int):Int:=(ps.map λ p=>(2:Int) ^ p.toNat).sum
theorem ju:∀ {ps xs:List Int},ps.Nodup->(∀ p∈ps,0<=p)->(∀ p∈ps,xs[p.toNat]?=some 0)->tol (puts xs ps)=tol xs+pw2 ps
 | [],xs,_,_,_=>by simp[puts,pw2]
 | p::r,xs,nd,h0,h=>by
  rw[zT] at nd;show tol (puts (xs.set p.toNat 1) r)=_
  rw[ju nd.2 (λ q hq=>h0 q (wd _ hq)),lN (h p (we ..))]
  ·unfold pw2;rw[wm,Ac];omega
  ·intro q hq
   have h1:=h0 p (we ..);have h2:=h0 q (wd _ hq);have h3:p≠q:=λ e=>nd.1 (e▸hq)
   rw[wF ⋯];exact h q (wd _ hq)
theorem jm:∀ {ps xs:List Int} {k:Nat},(∀ p∈ps,0<=p)->k<xs.length->(puts xs ps)[k]?.getD 0=if (k:Int)∈ps then 1 else xs[k]?.getD 0
 | [],xs,k,_,hk=>by simp[puts]
 | p::r,xs,k,h0,hk=>by
  show (puts (xs.set p.toNat 1) r)[k]?.getD 0=_
  have h1:=h0 p (we ..);rw[jm (λ q hq=>h0 q (wd _ hq)) (by rw[w4];exact hk)];by_cases e:(k:Int)∈r
  ·rw[if_pos e,if_pos (wd _ e)]
  ·rw[if_neg e]
   by_cases e2:(k:Int)=p
   ·rw[if_pos (by rw[e2];exact we ..)]
    have:p.toNat=k:=⋯
    rw[this,wV hk];rfl
   ·rw[if_neg (by simp[e,e2]),wF ⋯]
structure LB (b:List Int):Prop where
 up:b.Pairwise (·<·)
 hd:∃ r,b=0::r
 rg:∀ x∈b,0<=x/\x<=60
 ln:b.length<=12
theorem LB.ne {b:List Int}(h:LB b):b≠[]:=by obtain⟨r,e⟩:=h.hd;rw[e];simp
theorem LB.nd {b:List Int}(h:LB b):b.Nodup:=h.up.imp λ {a b} h e=>⋯
theorem LB.le_last {b:List Int}(h:LB b):∀ x∈b,x<=b.getLast h.ne:=λ x hx=>by
 obtain⟨i,hi,rfl⟩:=wQ hx;rw[yo];by_cases e:i=b.length-1
 ·subst e;exact xf _
 ·exact xc ((List.pairwise_iff_getElem.mp h.up) i (b.length-1) hi ⋯ ⋯)
theorem LB.zero {b:List Int}(h:LB b):(0:Int)∈b:=by obtain⟨r,e⟩:=h.hd;rw[e];exact we ..
theorem mP {b:List Int}(h:LB b)(n:Nat)(hn:∀ x∈b,x<n):tol (puts (List.replicate n 0) b)=pw2 b:=by
 rw[ju h.nd (λ p hp=>(h.rg p hp).1) λ p hp=>?_]
 ·have:∀ m:Nat,tol (List.replicate m 0)=0:=λ m=>by
   induction m with
   | zero=>rfl
   | succ m ih=>rw[wO,bG,ih];rfl
  rw[this];omega
 ·have h1:=hn p hp
  have h2:=(h.rg p hp).1;rw[xq,if_pos ⋯]
theorem il {i j:Int}(h:0<=j)(h2:j<=1000)(h3:i.natAbs<1000000):Dv.shlD (.int i) (.int j)=.ok (.int (i*2 ^ j.toNat)) true:=by
 simp[Dv.shlD,h,h2,h3]
theorem fS {i j:Int}(h:0<=i)(h2:0<=j):Dv.bandD (.int i) (.int j)=.ok (.int ((i.toNat &&& j.toNat:Nat):Int)) true:=by
 simp[Dv.bandD,h,h2]
theorem nZ (xs:List Int)(f:Bool):Dv.sumD (L xs) f=.ok (.int xs.sum) true:=by
 simp[Dv.sumD,L,gc]
theorem nC {ps:List Int}(h:∀ p∈ps,0<=p/\p<=1000)(hl:ps.length<=1000):F_Q0R [L ps]=.ok (.int (pw2 ps)) true:=by
 have hc:c_Q0R_1 [some (L ps)]=.ok (L (ps.map λ p=>(2:Int) ^ p.toNat)) true:=by
  unfold c_Q0R_1;refine aJ (f:=false) rfl ⋯ λ x hx=>?_
  have:=h x hx;have e:=il (i:=1) (j:=x) this.1 this.2 (by decide);rw[yK] at e;simp only[eB2,eVar,eInt,Dv.pick,R.bind,RL.bind,Out.bind,dR,wK,w9,e]
 simp! only[F_Q0R,b_Q0R,hc,nZ];rfl
theorem dJ {xs:List Int}(h:xs≠[]):Dv.at? (xs.map D.int) 0=some (.int (xs.getD 0 0)):=by
 have:=List.length_pos_iff.mpr h;exact sE ⋯ ⋯
theorem LB.get0 {b:List Int}(h:LB b):b.getD 0 0=0:=by obtain⟨r,e⟩:=h.hd;rw[e];rfl
theorem iT {b:List Int}(h:LB b):F_Q00 [L b]=.ok .non true:=by
 have h1:=eY (n:=61) h.ne (upFrom_iff.mpr ⟨h.up,λ x hx=>by have:=h.rg x hx;omega⟩);have h2:=dJ h.ne;rw[h.get0] at h2;have h3:¬ ((12:Int)<(b.length:Int)):=by have:=h.ln;omega
 simp! only[F_Q00,b_Q00,b_Q00_t1,Dv.lenD,Dv.ixD,Int.reduceAdd,h1,h2,decide_eq_false h3]
theorem qO (p:Int):pw2 [p]=2 ^ p.toNat:=by simp[pw2]
theorem eG {b:List Int}(h:LB b){w:Int}(h1:0<=w)(h2:w<2 ^ (b.getLast h.ne).toNat):F_Q02 [L b,.int w]=.ok .non true:=by
 have hb:=h.rg _ (xZ h.ne);have e:=nC (ps:=[b.getLast h.ne]) (by simp;omega) (by simp);rw[qO] at e;simp only[L,wm,wK] at e;have e2:=dN h.ne;simp! only[F_Q02,b_Q02,b_Q02_t1,Dv.ixD,iT h,decide_eq_false (show ¬ w<0 by omega),show (-1:Int)=-1 from rfl,e2,e,decide_eq_false (show ¬ (2:Int) ^ (b.getLast h.ne).toNat<=w by omega)]
def bq (b:List Int)(w:Int):D:=
 if w%2=1 then .tup [.bl false,.int (w/2)] else if (w.toNat &&& (pw2 b).toNat)=0 then .tup [.bl true,.int ((w+pw2 b)/2)] else .non
theorem i8 (ps:List Int):0<=pw2 ps:=by
 unfold pw2
 induction ps with
 | nil=>simp
 | cons p r ih=>rw[wm,Ac];have:(0:Int)<2 ^ p.toNat:=zt (by decide);omega
theorem lX {b:List Int}(h:LB b){w:Int}(h1:0<=w)(h2:w<2 ^ (b.getLast h.ne).toNat):F_Q0Q [L b,.int w]=.ok (bq b w) true:=by
 have e:=nC (ps:=b) (λ p hp=>by have:=h.rg p hp;omega) (by have:=h.ln;omega);have eb:=fS h1 (i8 b);unfold bq;by_cases c1:w%2=1
 ·rw[if_pos c1]
  simp! only[F_Q0Q,b_Q0Q,b_Q0Q_t4,b_Q0Q_t3,b_Q0Q_t2,b_Q0Q_t1,eG h h1 h2,av (i:=w) (j:=2) (by decide),decide_eq_true c1,be (i:=w) (j:=2) (by decide) (by decide)]
 ·rw[if_neg c1]
  by_cases c2:(w.toNat &&& (pw2 b).toNat)=0
  ·rw[if_pos c2]
   rw[c2] at eb;simp! only[F_Q0Q,b_Q0Q,b_Q0Q_t4,b_Q0Q_t3,b_Q0Q_t2,b_Q0Q_t1,eG h h1 h2,av (i:=w) (j:=2) (by decide),decide_eq_false c1,e,eb,xY,be (i:=w+pw2 b) (j:=2) (by decide) (by decide)]
  ·rw[if_neg c2]
   have c3:¬ (((w.toNat &&& (pw2 b).toNat:Nat):Int)=0):=⋯
   simp! only[F_Q0Q,b_Q0Q,b_Q0Q_t4,b_Q0Q_t3,b_Q0Q_t2,b_Q0Q_t1,eG h h1 h2,av (i:=w) (j:=2) (by decide),decide_eq_false c1,e,eb,decide_eq_false c3]
theorem jy (x y:D):Dv.at? [x,y] 0=some x:=rfl
theorem jV (x y:D):Dv.at? [x,y] 1=some y:=rfl
theorem kS:opD .pow (.int 10) (.int 30)=.ok (.int 1000000000000000000000000000000) true:=by
 simp[Dv.opD_ai,Dv.opD_al,Dv.opD_su,Dv.opD_mi,Dv.opD_ml,Dv.opD_mo,Dv.opD_fd,Dv.opD_po,Dv.opD_ba,Dv.opD_sh]
theorem kf {s:List Int}{m k:Int}{lf fd:List Int}(hk:0<=k)(hk2:k<=1000)(hl:0<lf.length)(hf:fd.length<=1000)(z5 z6 z7:Sl):
  ∃ lf' d y5 y6 y7,b_Q0B_l1 [.sh (L s),.sh (.int m),.ow (L lf),.ow (L fd),.sh (.int k),z5,z6,z7]=.nx [.sh (L s),.sh (.int m),.ow (L lf'),.ow (L (fd++[d])),.sh (.int k),y5,y6,y7]/\lf'.length=lf.length/\0<=d/\d<1000000000000000000000000000000:=by
 have hl':(0:Int)<(lf.length:Int):=⋯
 have hat:=bj (n:=(lf.length:Int)) (a:=k) hl';generalize hx:lf.getD (k%(lf.length:Int)).toNat 0=x;have hmx:fd.length<Dv.mx:=by unfold Dv.mx;omega
 have h0:=sE hat.1 hat.2;rw[hx] at h0;by_cases hb:x ≥ 1000000000000000000000000000000\/x<0-1000000000000000000000000000000
 ·have hm:=bj (n:=1000000000000000000000000000000) (a:=x) ⋯
  refine⟨lf.set (k%(lf.length:Int)).toNat (x/1000000000000000000000000000000),x%1000000000000000000000000000000,.sh (.int (k%(lf.length:Int))),z6,z7,?_,by rw[w4],hm.1,hm.2⟩;have e2:(lf.map D.int).set (k%(lf.length:Int)).toNat (.int (x/1000000000000000000000000000000))=(lf.set (k%(lf.length:Int)).toNat (x/1000000000000000000000000000000)).map D.int:=by rw[List.map_set]
  by_cases h1:1000000000000000000000000000000<=x
  ·simp! only[b_Q0B_l1,Dv.lenD,Dv.ixD,av hl',h0,kS,decide_eq_true h1,av (j:=1000000000000000000000000000000) (by decide),decide_eq_true hmx,be (j:=1000000000000000000000000000000) (by decide) (by decide),decide_eq_true hat.1,decide_eq_true hat.2,e2,gE]
  ·have h2:x<0-1000000000000000000000000000000:=⋯
   simp! only[b_Q0B_l1,Dv.lenD,Dv.ixD,av hl',h0,kS,decide_eq_false h1,decide_eq_true h2,av (j:=1000000000000000000000000000000) (by decide),decide_eq_true hmx,be (j:=1000000000000000000000000000000) (by decide) (by decide),decide_eq_true hat.1,decide_eq_true hat.2,e2,gE]
 ·have h1:¬ 1000000000000000000000000000000<=x:=⋯
  have h2:¬ x<0-1000000000000000000000000000000:=⋯
  have m1:=bj (n:=2147483647) (a:=x*48271+k*k*16807+7919*k+5) ⋯;generalize ho:(x*48271+k*k*16807+7919*k+5)%2147483647=one at m1;have m2:=bj (n:=2147483629) (a:=one*one+k*39373) ⋯;generalize ht:(one*one+k*39373)%2147483629=other at m2;have m3:=bj (n:=2147483587) (a:=one*other) ⋯;refine⟨lf,one*other%2147483587*2147483629+other,.sh (.int (k%(lf.length:Int))),.sh (.int one),.sh (.int other),?_,rfl,⋯,⋯⟩;simp! only[b_Q0B_l1,Dv.lenD,Dv.ixD,av hl',h0,kS,decide_eq_false h1,decide_eq_false h2,bA (cA (j:=48271) (by decide) (by decide)),bA (cu (i:=k) (j:=k) ⋯ ⋯),bA (cA (j:=16807) (by decide) (by decide)),bA (cu (i:=7919) (by decide) (by decide)),av (j:=2147483647) (by decide),ho,bA (cu (i:=one) (j:=one) ⋯ ⋯),bA (cA (j:=39373) (by decide) (by decide)),av (j:=2147483629) (by decide),ht,bA (cu (i:=one) (j:=other) ⋯ ⋯),av (j:=2147483587) (by decide),bA (cA (j:=2147483629) (by decide) (by decide)),decide_eq_true hmx,gE]
theorem f7 {s:List Int}{m:Int}:∀ (ks lf fd:List Int) (z4 z5 z6 z7:Sl),(∀ k∈ks,0<=k/\k<=1000)->0<lf.length->fd.length+ks.length<=1000->(∀ d∈fd,0<=d/\d<1000000000000000000000000000000) ->
  ∃ lf' fd' y4 y5 y6 y7,forGo 4 b_Q0B_l1 (ks.map .int) [.sh (L s),.sh (.int m),.ow (L lf),.ow (L fd),z4,z5,z6,z7]=.nx [.sh (L s),.sh (.int m),.ow (L lf'),.ow (L fd'),y4,y5,y6,y7]/\fd'.length=fd.length+ks.length/\∀ d∈fd',0<=d/\d<1000000000000000000000000000000
 | [],lf,fd,z4,z5,z6,z7,_,_,_,h=>⟨lf,fd,z4,z5,z6,z7,rfl,by simp,h⟩
 | k::r,lf,fd,z4,z5,z6,z7,hk,hl,hf,h=>by
  rw[wA] at hf;have hk0:=hk k (we ..);obtain⟨lf1,d,y5,y6,y7,e1,l1,d0,d1⟩:=kf (s:=s) (m:=m) (fd:=fd) hk0.1 hk0.2 hl ⋯ z5 z6 z7;obtain⟨lf2,fd2,x4,x5,x6,x7,e2,l2,h2⟩:=f7 (s:=s) (m:=m) r lf1 (fd++[d]) (.sh (.int k)) y5 y6 y7 (λ x hx=>hk x (wd _ hx)) ⋯ (by simp;omega) (λ x hx=>by
   rcases List.mem_append.mp hx with hx|hx
   ·exact h x hx
   ·rw[xj] at hx;subst hx;exact⟨d0,d1⟩)
  refine⟨lf2,fd2,x4,x5,x6,x7,?_,by rw[l2];simp;omega,h2⟩;rw[wm,aN (st':=[.sh (L s),.sh (.int m),.ow (L lf1),.ow (L (fd++[d])),.sh (.int k),y5,y6,y7])]
  ·exact e2
  ·simp only[wN,wM];exact e1
theorem pO {s:List Int}(hs:s.length<=63){m:Int}(hm:0<=m)(hm2:m<=900):∃ ds,F_Q0B [L s,.int m]=.ok (L ds) true/\(ds.length:Int)=m/\∀ d∈ds,0<=d/\d<1000000000000000000000000000000:=by
 have hcut:Dv.cutL s none (some 63)=s:=by
  unfold Dv.cutL Dv.cutI;simp only[yC,zE];exact wW (by simp;omega)
 have hsl:=lj s false none (some 63);rw[hcut] at hsl;have hleft:∃ lf:List Int,0<lf.length/\F_Q0B [L s,.int m]=(match b_Q0B_t1 [.sh (L s),.sh (.int m),.ow (L lf),.no,.no,.no,.no,.no] with | .nx _=>.ok .non true | .ret d f=>.ok d f | .exc c _=>.exc c|_=>.bad):=by
  by_cases hz:s=[]
  ·subst hz
   refine⟨[0],by simp,?_⟩;have q:cmD .eq (.lst []) (.lst [])=.ok (.bl true) true:=iO [] [];have c:=gj (a:=[]) (b:=[0]) (by simp);have r1:=oH (x:=0) (n:=1) ⋯ ⋯;simp only[L,wK,wm,xA,Int.toNat_one,List.replicate] at q c r1 hsl;simp! only[F_Q0B,b_Q0B,b_Q0B_t3,b_Q0B_t2,b_Q0B_t1,b_Q0B,hsl,q,r1,c]
   all_goals rfl
  ·refine⟨s,List.length_pos_iff.mpr hz,?_⟩
   have c:=gj (a:=s) (b:=[]) (by simp;omega);have r1:=oH (x:=0) (n:=0) ⋯ ⋯;rw[xn] at c;simp only[L,wK,Int.toNat_zero,List.replicate] at c r1;simp! only[F_Q0B,b_Q0B,b_Q0B_t3,b_Q0B_t2,b_Q0B_t1,hsl,decide_eq_false hz,r1,c]
   all_goals rfl
 obtain⟨lf,hlf,e0⟩:=hleft;obtain⟨lf',ds,y4,y5,y6,y7,e,l,h⟩:=f7 (s:=s) (m:=m) (upto m.toNat) lf [] .no .no .no .no (λ k hk=>by have:=mem_upto.mp hk;omega) hlf (by rw[bR];simp;omega) (by simp);refine⟨ds,?_,by rw[l,bR];simp;omega,h⟩;simp only[wK,L] at e;rw[e0];simp! only[b_Q0B_t1,b_Q0B_t2,b_Q0B_t3,Dv.flatL,i7 (n:=m) ⋯ ⋯,bB,e]
structure Fu (n:Int)(a b:List Int):Prop where
 nd:b.Nodup
 rg:∀ x∈b,0<=x/\x<n
 fl:Fill n a (Dv.isort b)
structure WL (n:Int)(b S:List Int):Prop where
 fl:Fill n b S
 lb:LB b
theorem WL.pos {n:Int}{b S:List Int}(h:WL n b S):0<n:=by have:=h.fl.one.pos;omega
theorem WL.ex {n:Int}{b S:List Int}(h:WL n b S)(t:Int):∃ p∈b,(t-p)%n∈S:=by
 have hp:=h.pos;have hc:=h.fl.perm.count_eq (t%n);have hr:=bj (n:=n) (a:=t) hp;have h1:((List.range n.toNat).map λ (i:Nat)=>(i:Int)).count (t%n)=1:=by
  have:=count_range n.toNat (t%n).toNat ⋯;rw[show (((t%n).toNat:Nat):Int)=t%n by omega] at this;exact this
 rw[h1] at hc;have:t%n∈hits n b S:=List.count_pos_iff.mp ⋯;unfold hits at this;obtain⟨s,hs,hm⟩:=List.mem_flatMap.mp this;obtain⟨p,hpb,e⟩:=List.mem_map.mp hm;refine⟨p,hpb,?_⟩;have hsr:=h.fl.oth.rg s hs;have:(t-p)%n=s:=by
  have e2:(t-p)%n=s%n:=by
   obtain⟨k,hk⟩:=mod_eq_iff.mp e;exact mod_eq_iff.mpr ⟨-k,by rw[Int.mul_neg];omega⟩
  rw[e2,yV hsr.1 hsr.2]
 rw[this];exact hs
open Dv (D R Sl)
def bt (x:Int)(k:Nat):Bool:=x.toNat.testBit k
theorem oj {x y:Int}(hx:0<=x)(hy:0<=y)(h:∀ k,bt x k=bt y k):x=y:=by
 have:x.toNat=y.toNat:=Nat.eq_of_testBit_eq h;omega
theorem oB {x:Int}{w k:Nat}(h:x<2 ^ w)(hk:w<=k):bt x k=false:=by
 unfold bt;refine Nat.testBit_lt_two_pow (wD ?_ (zA (by decide) hk));have e:((2 ^ w:Nat):Int)=2 ^ w:=by simp
 have:(0:Int)<2 ^ w:=zt (by decide);omega
theorem rS {x:Int}{w:Nat}(h0:0<=x)(h:∀ k,w<=k->bt x k=false):x<2 ^ w:=by
 have:=Nat.lt_pow_two_of_testBit x.toNat h;have e:((2 ^ w:Nat):Int)=2 ^ w:=by simp
 omega
theorem lD {x:Int}(h:0<=x)(k:Nat):bt (x/2) k=bt x (k+1):=by
 unfold bt;have e:(x/2).toNat=x.toNat/2:=⋯
 rw[e,zR]
theorem lE {x:Int}(h:0<=x):bt x 0=decide (x%2=1):=by
 unfold bt;rw[zQ];congr 1;refine propext ⟨λ e=>?_,λ e=>?_⟩ <;>omega
theorem pz {b:List Int}(h:LB b)(k:Nat):bt (pw2 b) k=decide ((k:Int)∈b):=by
 have hn:∀ x∈b,x<((61+k:Nat):Int):=λ x hx=>by have:=h.rg x hx;omega
 rw[<- mP h (61+k) hn];have hb:ni (puts (List.replicate (61+k) 0) b):=gz λ y hy=>.inl (List.eq_of_mem_replicate hy)
 unfold bt;rw[lI k hb,jm (λ q hq=>(h.rg q hq).1) (by rw[xh];omega)];by_cases e:(k:Int)∈b
 ·rw[if_pos e];simp[e]
 ·rw[if_neg e,xq,if_pos ⋯];simp[e]
theorem tJ {x y:Nat}(h:x &&& y=0):x+y=x ||| y:=by
 induction x using Nat.strongRecOn generalizing y with
 | _ x ih=>
  by_cases x0:x=0
  ·subst x0;simp
  have h2:x/2 &&& y/2=0:=by rw[<- Nat.and_div_two,h]
  have e:=ih (x/2) ⋯ h2;rw[<- Nat.or_div_two] at e;have m1:(x ||| y)%2=1 ↔ x%2=1\/y%2=1:=Nat.or_mod_two_eq_one;have m2:(x &&& y)%2=1 ↔ x%2=1/\y%2=1:=Nat.and_mod_two_eq_one;rw[h] at m2;omega
theorem sN {x y:Int}(hx:0<=x)(hy:0<=y)(h:x.toNat &&& y.toNat=0)(k:Nat):bt (x+y) k=(bt x k || bt y k):=by
 unfold bt;have e:(x+y).toNat=x.toNat ||| y.toNat:=by rw[<- tJ h];omega
 rw[e,Aa]
structure Stp (b:List Int)(w:Nat)(x:Int)(c:Bool)(y:Int):Prop where
 y0:0<=y
 y1:y<2 ^ w
 bit:∀ k,bt y k=(bt x (k+1) || (c&&decide (((k+1:Nat):Int)∈b)))
 c0:c=!bt x 0
 free:c=true->∀ p∈b,bt x p.toNat=false
theorem ij {b:List Int}(h:LB b){w:Nat}(hw:(w:Int)=b.getLast h.ne){x:Int}(h0:0<=x)(h1:x<2 ^ w){c:Bool}{y:Int}(e:bq b x=.tup [.bl c,.int y]):Stp b w x c y:=by
 unfold bq at e;by_cases c1:x%2=1
 ·rw[if_pos c1] at e
  simp only[D.tup.injEq,List.cons.injEq,D.bl.injEq,D.int.injEq,and_true] at e;obtain⟨rfl,rfl⟩:=e;refine⟨⋯,⋯,λ k=>?_,?_,λ z=>by cases z⟩
  ·rw[lD h0];simp
  ·rw[lE h0,decide_eq_true c1];rfl
 ·rw[if_neg c1] at e
  by_cases c2:(x.toNat &&& (pw2 b).toNat)=0
  ·rw[if_pos c2] at e
   simp only[D.tup.injEq,List.cons.injEq,D.bl.injEq,D.int.injEq,and_true] at e;obtain⟨rfl,rfl⟩:=e;have hp:=i8 b;have hb:∀ k,bt ((x+pw2 b)/2) k=(bt x (k+1) || (true&&decide (((k+1:Nat):Int)∈b))):=λ k=>by
    rw[lD ⋯,sN h0 hp c2,pz h];simp
   refine⟨⋯,rS ⋯ λ k hk=>?_,hb,?_,λ _ p hpb=>?_⟩
   ·rw[hb,oB h1 ⋯]
    have:¬ ((k+1:Nat):Int)∈b:=λ z=>by have:=h.le_last _ z;omega
    rw[decide_eq_false this];rfl
   ·rw[lE h0,decide_eq_false c1];rfl
   ·have hr:=h.rg p hpb
    have e:(x.toNat &&& (pw2 b).toNat).testBit p.toNat=false:=by rw[c2,Nat.zero_testBit]
    rw[Nat.testBit_and] at e;have e2:(pw2 b).toNat.testBit p.toNat=true:=by
     have:=pz h p.toNat;unfold bt at this;rw[this,show ((p.toNat:Nat):Int)=p by omega];simp[hpb]
    rw[e2,yT] at e;exact e
  ·rw[if_neg c2] at e;cases e
structure Ran (b:List Int)(w m:Nat)(X:Nat->Int)(c:Nat->Bool):Prop where
 lb:LB b
 hw:(w:Int)=b.getLast lb.ne
 m1:1<=m
 x0:0<=X 0
 x1:X 0<2 ^ w
 stp:∀ t,t<m->bq b (X t)=.tup [.bl (c t),.int (X (t+1))]
 back:X m=X 0
 new:∀ t,0<t->t<m->X t≠X 0
def begs (m:Nat)(c:Nat->Bool):List Int:=(upto m).filter λ t=>c t.toNat
section
variable {b:List Int}{w m:Nat}{X:Nat->Int}{c:Nat->Bool}
theorem Ran.rg (r:Ran b w m X c):∀ t,t<=m->0<=X t/\X t<2 ^ w
 | 0,_=>⟨r.x0,r.x1⟩
 | t+1,h=>by
  have ih:=r.rg t ⋯;have s:=ij r.lb r.hw ih.1 ih.2 (r.stp t ⋯);exact⟨s.y0,s.y1⟩
theorem Ran.one (r:Ran b w m X c)(t:Nat):Stp b w (X (t%m)) (c (t%m)) (X ((t+1)%m)):=by
 have hm:=r.m1;have hl:=yd t (show m > 0 by omega);have ih:=r.rg (t%m) ⋯;have s:=ij r.lb r.hw ih.1 ih.2 (r.stp (t%m) hl);have e:X ((t+1)%m)=X (t%m+1):=by
  by_cases q:t%m+1=m
  ·have e1:(t+1)%m=(t%m+1)%m:=by rw[zX]
   have this:(t+1)%m=0:=by rw[e1,q,Nat.mod_self]
   rw[this,q,r.back]
  ·have e1:(t+1)%m=(t%m+1)%m:=by rw[zX]
   have this:(t+1)%m=t%m+1:=by rw[e1,xu ⋯]
   rw[this]
 rw[e];exact s
theorem Ran.far (r:Ran b w m X c)(t:Nat):∀ j k,bt (X ((t+j)%m)) k=true ↔ bt (X (t%m)) (k+j)=true\/∃ p∈b,(k:Int)<p/\p<=((k+j:Nat):Int)/\c ((t+j+k-p.toNat)%m)=true
 | 0,k=>by
  constructor
  ·exact λ h=>.inl h
  ·rintro (h|⟨p,_,h1,h2,_⟩)
   ·exact h
   ·exfalso;omega
 | j+1,k=>by
  have s:=r.one (t+j);rw[<- yv,s.bit k,zf,wq,decide_eq_true_eq,r.far t j (k+1)];rw[show k+1+j=k+(j+1) by omega]
  constructor
  ·rintro ((h|⟨p,hp,h1,h2,h3⟩)|⟨h1,h2⟩)
   ·exact .inl h
   ·exact .inr ⟨p,hp,⋯,⋯,by rw[show t+j+1+k-p.toNat=t+j+(k+1)-p.toNat by omega];exact h3⟩
   ·refine .inr ⟨_,h2,⋯,⋯,?_⟩
    rw[wL,show t+j+1+k-(k+1)=t+j by omega];exact h1
  ·rintro (h|⟨p,hp,h1,h2,h3⟩)
   ·exact .inl (.inl h)
   ·by_cases q:p=((k+1:Nat):Int)
    ·subst q
     refine .inr ⟨?_,hp⟩;rw[wL,show t+j+1+k-(k+1)=t+j by omega] at h3;exact h3
    ·exact .inl (.inr ⟨p,hp,⋯,⋯,by rw[show t+j+(k+1)-p.toNat=t+j+1+k-p.toNat by omega];exact h3⟩)
theorem mem_begs {t:Int}:t∈begs m c ↔ 0<=t/\t<m/\c t.toNat=true:=by
 unfold begs;rw[List.mem_filter,mem_upto]
 constructor
 ·rintro ⟨⟨a,b⟩,d⟩;exact⟨a,b,d⟩
 ·rintro ⟨a,b,d⟩;exact⟨⟨a,b⟩,d⟩
theorem j7 (hm:1<=m){z:Int}{u:Nat}(h:z%(m:Int)=(u:Int)%(m:Int)):z%(m:Int)∈begs m c ↔ c (u%m)=true:=by
 rw[h,mem_begs,<- Int.natCast_emod,wL];have:=yd u (show m > 0 by omega)
 constructor
 ·exact λ z=>z.2.2
 ·exact λ z=>⟨⋯,⋯,z⟩
theorem Ran.bit (r:Ran b w m X c)(t k:Nat):bt (X (t%m)) k=true ↔ ∃ p∈b,(k:Int)<p/\((t:Int)+k-p)%(m:Int)∈begs m c:=by
 have hm:=r.m1;have e:(t+m*w)%m=t%m:=yN t m w;have f:=r.far t (m*w) k;have hl:w<=m*w:=by
  have:=Nat.mul_le_mul_right w hm;omega
 rw[e,oB (r.rg (t%m) (by have:=yd t (show m > 0 by omega);omega)).2 (show w<=k+m*w by omega)] at f;rw[f];have key:∀ p∈b,(((t:Int)+k-p)%(m:Int)∈begs m c ↔ c ((t+m*w+k-p.toNat)%m)=true):=λ p hp=>by
  refine j7 hm ?_
  have h1:=(r.lb.rg p hp).1;have h2:=r.lb.le_last p hp;have h3:=r.hw;have e2:((t+m*w+k-p.toNat:Nat):Int)=((t:Int)+k-p)+(m:Int)*(w:Int):=by
   have:((m*w:Nat):Int)=(m:Int)*(w:Int):=by simp
   omega
  rw[e2,Int.add_mul_emod_self_left]
 constructor
 ·rintro (z|⟨p,hp,h1,h2,h3⟩)
  ·cases z
  ·exact⟨p,hp,h1,(key p hp).mpr h3⟩
 ·rintro ⟨p,hp,h1,h3⟩
  refine .inr ⟨p,hp,h1,?_,(key p hp).mp h3⟩;have h2:=r.lb.le_last p hp;have h3:=r.hw;omega
theorem Ran.ex (r:Ran b w m X c)(t:Nat):∃ p∈b,((t:Int)-p)%(m:Int)∈begs m c:=by
 have s:=r.one t;cases h:c (t%m) with
 | true=>exact⟨0,r.lb.zero,(j7 r.m1 (u:=t) (by rw[Int.sub_zero])).mpr h⟩
 | false=>
  have h0:bt (X (t%m)) 0=true:=by
   have:=s.c0;rw[h] at this;cases q:bt (X (t%m)) 0 with
   | true=>rfl
   | false=>rw[q] at this;cases this
  obtain⟨p,hp,_,h2⟩:=(r.bit t 0).mp h0;exact⟨p,hp,by simpa using h2⟩
theorem Ran.lt_no (r:Ran b w m X c){t:Int}{p q:Int}(hp:p∈b)(hq:q∈b)(h1:(t-p)%(m:Int)∈begs m c)(h2:(t-q)%(m:Int)∈begs m c)(hlt:p<q):False:=by
 have hm:=r.m1;obtain⟨a,b',d⟩:=mem_begs.mp h1;obtain⟨u,hu⟩:∃ u:Nat,(u:Int)=(t-p)%(m:Int):=⟨((t-p)%(m:Int)).toNat,⋯⟩;rw[<- hu] at b' d;rw[wL] at d;have um:u%m=u:=xu ⋯;have s:=r.one u;have fr:=s.free (by rw[um];exact d) p hp;have hp0:=(r.lb.rg p hp).1;have:bt (X (u%m)) p.toNat=true:=(r.bit u p.toNat).mpr ⟨q,hq,⋯,by
  have e:((u:Int)+(p.toNat:Int)-q)%(m:Int)=(t-q)%(m:Int):=by
   rw[hu,show ((p.toNat:Nat):Int)=p by omega];have:(t-p)%(m:Int)+p-q=(t-p)%(m:Int)+(p-q):=⋯
   rw[this,yW];congr 1;omega
  rw[e];exact h2⟩
 rw[fr] at this;cases this
theorem Ran.uq (r:Ran b w m X c){t p q:Int}(hp:p∈b)(hq:q∈b)(h1:(t-p)%(m:Int)∈begs m c)(h2:(t-q)%(m:Int)∈begs m c):p=q:=by
 rcases zH p q with h|h|h
 ·exact(r.lt_no hp hq h1 h2 h).elim
 ·exact h
 ·exact(r.lt_no hq hp h2 h1 h).elim
theorem Ran.least (r:Ran b w m X c){y:Nat}(h0:0<y)(h1:y<m)(h:∀ z:Int,(z+y)%(m:Int)∈begs m c ↔ z%(m:Int)∈begs m c):False:=by
 refine r.new y h0 h1 ?_
 have ey:y%m=y:=xu h1;have e0:0%m=0:=xu ⋯;have by_:=r.bit y;have b0:=r.bit 0;rw[ey] at by_;rw[e0] at b0;refine oj (r.rg y ⋯).1 r.x0 λ k=>?_
 have:bt (X y) k=true ↔ bt (X 0) k=true:=by
  rw[by_ k,b0 k]
  constructor
  ·rintro ⟨p,hp,h2,h3⟩
   refine⟨p,hp,h2,(h _).mp ?_⟩;rw[show ((0:Nat):Int)+k-p+y=(y:Int)+k-p by omega];exact h3
  ·rintro ⟨p,hp,h2,h3⟩
   refine⟨p,hp,h2,?_⟩;have:=(h _).mpr h3
   rwa [show ((0:Nat):Int)+k-p+y=(y:Int)+k-p by omega] at this
 cases q1:bt (X y) k <;>cases q2:bt (X 0) k <;>simp_all
end
def aD (s:List Int)(k:Int):Int:=s.getD k.toNat 0
theorem aX {s:List Int}{k:Int}(h:0<=k)(h2:k<s.length):F_Q09 [L s,.int k]=.ok (.int (aD s k)) true:=by
 simp! only[F_Q09,b_Q09,Dv.ixD,sE h h2,aD]
theorem o9:PairP Fill where
 one:=jn
 beat:=λ h=>⟨h.one,h.oth⟩
 again:=λ ht h=>h.again ht
 mix:=λ ht h=>h.mix ht
 swap:=λ h=>h.swap
 turn:=λ c h=>h.turn
section
variable {s:List Int}{k0 n t:Int}{a b:List Int}{sa sb z5 z6 z8:Sl}
theorem hV (ha:Hs sa a)(ht0:0<=t)(ht:t<=100)(hsb:True):∀ (ks found:List Int) (z:Sl),(∀ k∈ks,0<=k/\k<=1000)->found.length+ks.length*a.length<=100000 ->
  ∃ z',forGo 10 bC (ks.map .int) [.sh (L s),.sh (.int k0),.sh (.int n),sa,sb,z5,z6,.sh (.int t),z8,.ow (L found),z]=.nx [.sh (L s),.sh (.int k0),.sh (.int n),sa,sb,z5,z6,.sh (.int t),z8,.ow (L (ks.foldl (λ x k=>x++a.map (·*t+k)) found)),z']
 | [],found,z,_,_=>⟨z,rfl⟩
 | k::r,found,z,h,hl=>by
  rw[wA,yz] at hl;have hk:=h k (we ..);have hc:bM [some (L s),some (.int k0),some (.int n),some (L a),sb.get,z5.get,z6.get,some (.int t),z8.get,some (L found),some (.int k)]=.ok (L (a.map (·*t+k))) true:=by
   unfold bM;exact aJ (f:=false) rfl ⋯ λ x hx=>by simp! only[bA (cA (i:=x) (j:=t) ⋯ ⋯)]
  obtain⟨z',e⟩:=hV ha ht0 ht hsb r (found++a.map (·*t+k)) (.sh (.int k)) (λ x hx=>h x (wd _ hx)) (by rw[wB,wj];omega);refine⟨z',?_⟩;rw[wm,aN (st':=[.sh (L s),.sh (.int k0),.sh (.int n),sa,sb,z5,z6,.sh (.int t),z8,.ow (L (found++a.map (·*t+k))),.sh (.int k)]),e]
  ·rfl
  ·simp! only[bC,ha.get,hc,gj (a:=found) (b:=a.map (·*t+k)) (by rw[wj];omega)]
end
theorem kR {P:Int->List Int->List Int->Prop}(hP:PairP P){s:List Int}{k0 n k:Int}{a b:List Int}{sa sb z6 z7 z8 z9 z10:Sl}(hk0:0<=k0)(hk1:k0<=1000)(hk:0<=k/\k<=5)(hsl:k0+9<=(s.length:Int))(h:P n a b)(hn:n<=60)(ha:Hs sa a)(hb:Hs sb b):
  ∃ n' a' b' sa' sb' y6 y7 y8 y9 y10,aU [.sh (L s),.sh (.int k0),.sh (.int n),sa,sb,.sh (.int k),z6,z7,z8,z9,z10]=.nx [.sh (L s),.sh (.int k0),.sh (.int n'),sa',sb',.sh (.int k),y6,y7,y8,y9,y10]/\P n' a' b'/\n'<=60/\Hs sa' a'/\Hs sb' b':=by
 have hA:=(hP.beat h).1;have hB:=(hP.beat h).2;have hnp:=hA.pos;have hz:=bj (n:=2147483647) (a:=aD s (k0+k)*48271) ⋯;generalize hnum:aD s (k0+k)*48271%2147483647=num at hz;have hm7:=bj (n:=7) (a:=num) ⋯;obtain⟨t,ht,ht2,ht7⟩:=og (num%7) hm7.1 hm7.2;have h6:sSet 6 (eOp .mod (eOp .mul (eCall F_Q09 (lCons (eVar 0) (lCons (eOp .add (eVar 1) (eVar 5)) lNil))) (eInt 48271)) (eInt 2147483647)) [.sh (L s),.sh (.int k0),.sh (.int n),sa,sb,.sh (.int k),z6,z7,z8,z9,z10]
   = .nx [.sh (L s),.sh (.int k0),.sh (.int n),sa,sb,.sh (.int k),.sh (.int num),z7,z8,z9,z10]:=by
  simp! only[aX (s:=s) (k:=k0+k) ⋯ ⋯,bA (cA (j:=48271) (by decide) (by decide)),av (j:=2147483647) (by decide),hnum]
 have h78:∀ rest:SS,sCons (sSet 7 (eIx (eLst (lCons (eInt 2) (lCons (eInt 3) (lCons (eInt 2) (lCons (eInt 5) (lCons (eInt 2) (lCons (eInt 3) (lCons (eInt 7) lNil)))))))) (eOp .mod (eVar 6) (eInt 7)))) (sCons (sSet 8 (eOp .mod (eOp .fdiv (eVar 6) (eInt 7)) (eInt 4))) rest)
   [.sh (L s),.sh (.int k0),.sh (.int n),sa,sb,.sh (.int k),.sh (.int num),z7,z8,z9,z10]=rest [.sh (L s),.sh (.int k0),.sh (.int n),sa,sb,.sh (.int k),.sh (.int num),.sh (.int t),.sh (.int (num/7%4)),z9,z10]:=by
  intro rest;simp! only[Dv.ixD,av (j:=7) (by decide),ht,be (j:=7) (by decide) (by decide),av (j:=4) (by decide)]
 have hsw:∀ (n':Int) (a' b':List Int) (sa' sb' y9 y10:Sl),P n' a' b'->n'<=60->Hs sa' a'->Hs sb' b'->∃ a2 b2 sa2 sb2,sIf (eCm .eq (eOp .mod (eOp .fdiv (eVar 6) (eInt 28)) (eInt 2)) (eInt 1)) (sPar [3,4] 3 4 (eVar 4) (eVar 3)) sNil [.sh (L s),.sh (.int k0),.sh (.int n'),sa',sb',.sh (.int k),.sh (.int num),.sh (.int t),.sh (.int (num/7%4)),y9,y10]
   = .nx [.sh (L s),.sh (.int k0),.sh (.int n'),sa2,sb2,.sh (.int k),.sh (.int num),.sh (.int t),.sh (.int (num/7%4)),y9,y10]/\P n' a2 b2/\Hs sa2 a2/\Hs sb2 b2:=by
  intro n' a' b' sa' sb' y9 y10 h' hn' ha' hb';by_cases hq:num/28%2=1
  ·refine⟨b',a',.sh (L b'),.sh (L a'),?_,hP.swap h',.inl rfl,.inl rfl⟩
   rcases ha' with e|e <;>rcases hb' with e2|e2 <;>(subst e;subst e2;simp! only[be (j:=28) (by decide) (by decide),av (j:=2) (by decide),decide_eq_true hq])
  ·refine⟨a',b',sa',sb',?_,h',ha',hb'⟩
   simp! only[be (j:=28) (by decide) (by decide),av (j:=2) (by decide),decide_eq_false hq]
 have hla:=hA.len;have hlb:=hB.len;have hmul:opD .mul (.int n) (.int (t:Int))=.ok (.int (n*t)) true:=bA (cu ⋯ ⋯);unfold aU;rw[dS h6,h78];by_cases hle:n*t<=60
 ·by_cases hkd:num/7%4<2
  ·have hag:F_Q04 [.int n,L a,.int (t:Int)]=.ok (L (again n a t)) true:=by
    have:=nM (n:=n) (t:=(t:Int)) (xs:=a) ⋯ ⋯ ⋯
    rwa [wL] at this
   obtain⟨a2,b2,sa2,sb2,e,p2,x1,x2⟩:=hsw (n*t) (again n a t) b (.ow (L (again n a t))) sb z9 z10 (hP.again ⋯ h) hle (.inr rfl) hb;refine⟨n*t,a2,b2,sa2,sb2,.sh (.int num),.sh (.int t),.sh (.int (num/7%4)),z9,z10,?_,p2,hle,x1,x2⟩;rw[dS (st1:=[.sh (L s),.sh (.int k0),.sh (.int (n*t)),.ow (L (again n a t)),sb,.sh (.int k),.sh (.int num),.sh (.int t),.sh (.int (num/7%4)),z9,z10])]
   ·exact e
   ·simp! only[hmul,decide_eq_true hle,decide_eq_true hkd,ha.get,hag]
  ·obtain⟨z',em⟩:=hV (s:=s) (k0:=k0) (n:=n) (t:=(t:Int)) (a:=a) (sa:=sa) (sb:=sb) (z5:=.sh (.int k)) (z6:=.sh (.int num)) (z8:=.sh (.int (num/7%4))) ha ⋯ ⋯ trivial (upto t) [] z10 (λ x hx=>by have:=mem_upto.mp hx;omega) (by
    rw[bR];have:t*a.length<=7*60:=zw ht7 ⋯;simp;omega)
   rw[jF] at em;simp only[wK,L] at em;have hmx:(mix a t t).length<64:=by
    have h1:(((mix a t t).length:Nat):Int)<=n*t:=by
     have e1:=(jM hA (show 1<=t by omega)).len;rw[bQ] at e1;exact e1
    omega
   have hc2:bN [some (L s),some (.int k0),some (.int n),some (L (Dv.isort (mix a t t))),some (L b),some (.int k),some (.int num),some (.int t),some (.int (num/7%4)),some (L (mix a t t)),z'.get]=.ok (L (b.map (·*(t:Int)))) true:=by
    unfold bN;exact aJ (f:=false) rfl ⋯ λ x hx=>by simp! only[bA (cA (i:=x) (j:=(t:Int)) ⋯ ⋯)]
   obtain⟨a2,b2,sa2,sb2,e,p2,x1,x2⟩:=hsw (n*t) (Dv.isort (mix a t t)) (b.map (·*(t:Int))) (.ow (L (Dv.isort (mix a t t)))) (.ow (L (b.map (·*(t:Int))))) (.ow (L (mix a t t))) z' (hP.mix ⋯ h) hle (.inr rfl) (.inr rfl);refine⟨n*t,a2,b2,sa2,sb2,.sh (.int num),.sh (.int t),.sh (.int (num/7%4)),.ow (L (mix a t t)),z',?_,p2,hle,x1,x2⟩;rw[dS (st1:=[.sh (L s),.sh (.int k0),.sh (.int (n*t)),.ow (L (Dv.isort (mix a t t))),.ow (L (b.map (·*(t:Int)))),.sh (.int k),.sh (.int num),.sh (.int t),.sh (.int (num/7%4)),.ow (L (mix a t t)),z'])]
   ·exact e
   ·have hso:=lF hmx false
    simp only[L] at hso hc2;simp! only[hmul,decide_eq_true hle,decide_eq_false hkd,Dv.flatL,i7 (n:=(t:Int)) ⋯ ⋯,wL,bB,em,hso,hb.get,hc2]
 ·obtain⟨a2,b2,sa2,sb2,e,p2,x1,x2⟩:=hsw n a b sa sb z9 z10 h hn ha hb
  refine⟨n,a2,b2,sa2,sb2,.sh (.int num),.sh (.int t),.sh (.int (num/7%4)),z9,z10,?_,p2,hn,x1,x2⟩;rw[dS (st1:=[.sh (L s),.sh (.int k0),.sh (.int n),sa,sb,.sh (.int k),.sh (.int num),.sh (.int t),.sh (.int (num/7%4)),z9,z10])]
  ·exact e
  ·simp! only[hmul,decide_eq_false hle]
theorem f6 {P:Int->List Int->List Int->Prop}(hP:PairP P){s:List Int}{k0:Int}(hk0:0<=k0)(hk1:k0<=1000)(hsl:k0+9<=(s.length:Int)):∀ (ks:List Int) (n:Int) (a b:List Int) (sa sb z5 z6 z7 z8 z9 z10:Sl),(∀ k∈ks,0<=k/\k<=5)->P n a b->n<=60->Hs sa a->Hs sb b ->
  ∃ n' a' b' sa' sb' y5 y6 y7 y8 y9 y10,forGo 5 aU (ks.map .int) [.sh (L s),.sh (.int k0),.sh (.int n),sa,sb,z5,z6,z7,z8,z9,z10]=.nx [.sh (L s),.sh (.int k0),.sh (.int n'),sa',sb',y5,y6,y7,y8,y9,y10]/\P n' a' b'/\n'<=60/\Hs sa' a'/\Hs sb' b'
 | [],n,a,b,sa,sb,z5,z6,z7,z8,z9,z10,_,h,hn,ha,hb=>⟨n,a,b,sa,sb,z5,z6,z7,z8,z9,z10,rfl,h,hn,ha,hb⟩
 | k::r,n,a,b,sa,sb,z5,z6,z7,z8,z9,z10,hk,h,hn,ha,hb=>by
  obtain⟨n1,a1,b1,sa1,sb1,y6,y7,y8,y9,y10,e1,p1,hn1,ha1,hb1⟩:=kR hP (s:=s) (z6:=z6) (z7:=z7) (z8:=z8) (z9:=z9) (z10:=z10) hk0 hk1 (hk k (we ..)) hsl h hn ha hb;obtain⟨n2,a2,b2,sa2,sb2,x5,x6,x7,x8,x9,x10,e2,p2⟩:=f6 hP hk0 hk1 hsl r n1 a1 b1 sa1 sb1 (.sh (.int k)) y6 y7 y8 y9 y10 (λ x hx=>hk x (wd _ hx)) p1 hn1 ha1 hb1;refine⟨n2,a2,b2,sa2,sb2,x5,x6,x7,x8,x9,x10,?_,p2⟩;rw[wm,aN (st':=[.sh (L s),.sh (.int k0),.sh (.int n1),sa1,sb1,.sh (.int k),y6,y7,y8,y9,y10])]
  ·exact e2
  ·simp only[wN,wM];exact e1
def agD:List Nat:=[97,103,97,105,110]
theorem vf (x y z:D):Dv.at? [x,y,z] 0=some x:=rfl
theorem vq (x y z:D):Dv.at? [x,y,z] 1=some y:=rfl
theorem uL (x y z:D):Dv.at? [x,y,z] 2=some z:=rfl
def xs (b:List Int)(W:Int):Nat->Int
 | 0=>W
 | t+1=>match bq b (xs b W t) with
  | .tup [.bl _,.int y]=>y
  | _=>0
def cs (b:List Int)(W:Int)(t:Nat):Bool:=match bq b (xs b W t) with
 | .tup [.bl c,.int _]=>c
 | _=>false
theorem oP (b:List Int)(x:Int):bq b x=.non\/∃ c y,bq b x=.tup [.bl c,.int y]:=by
 unfold bq
 split
 ·exact .inr ⟨_,_,rfl⟩
 ·split
  ·exact .inr ⟨_,_,rfl⟩
  ·exact .inl rfl
theorem dI {b:List Int}{W:Int}{t:Nat}(h:bq b (xs b W t)≠.non):bq b (xs b W t)=.tup [.bl (cs b W t),.int (xs b W (t+1))]:=by
 rcases oP b (xs b W t) with e|⟨c,y,e⟩
 ·exact absurd e h
 ·rw[xs,cs,e]
theorem mF (t:Nat)(c:Nat->Bool):begs (t+1) c=begs t c++(if c t then [(t:Int)] else []):=by
 unfold begs;rw[eJ,List.filter_append];congr 1;cases q:c t <;>simp[q]
theorem cR (t:Nat)(c:Nat->Bool):(begs t c).length<=t:=by
 have:=List.length_filter_le (λ t:Int=>c t.toNat) (upto t);rw[bR] at this;exact this
def stD:List Nat:=[115,116,117,99,107]
structure At (b:List Int)(w:Nat)(W:Int)(t:Nat):Prop where
 stp:∀ i,i<t->bq b (xs b W i)≠.non
 ne:∀ i,0<i->i<=t->xs b W i≠W
 rg:0<=xs b W t/\xs b W t<2 ^ w
section
variable {b:List Int}{w:Nat}{W:Int}
theorem kr (h:LB b)(hw:(w:Int)=b.getLast h.ne){t:Nat}(a:At b w W t)(e:bq b (xs b W t)=.non)(S:List Int)(z5:Sl):
  b_Q0P_l1 [.sh (L b),.sh (.int W),.ow (L S),.sh (.int (xs b W t)),.sh (.int t),z5]=.ret (.tup [.str stD,.int t]) true:=by
 have hs:=lX h a.rg.1 (by rw[show (b.getLast h.ne).toNat=w by omega];exact a.rg.2);rw[e] at hs;simp! only[b_Q0P_l1,hs,Dv.isNonD,stD,Dv.flatL]
theorem ng (h:LB b)(hw:(w:Int)=b.getLast h.ne){t:Nat}(a:At b w W t)(ht:t<2000)(e:bq b (xs b W t)≠.non)(z5:Sl):
  b_Q0P_l1 [.sh (L b),.sh (.int W),.ow (L (begs t (cs b W))),.sh (.int (xs b W t)),.sh (.int t),z5] =
   if xs b W (t+1)=W then .ret (.tup [.str agD,.int ((t:Int)+1),L (begs (t+1) (cs b W))]) true
   else .nx [.sh (L b),.sh (.int W),.ow (L (begs (t+1) (cs b W))),.sh (.int (xs b W (t+1))),.sh (.int t),.sh (.tup [.bl (cs b W t),.int (xs b W (t+1))])]:=by
 have hs:=lX h a.rg.1 (by rw[show (b.getLast h.ne).toNat=w by omega];exact a.rg.2);rw[dI e] at hs;have hlen:(begs t (cs b W)).length<Dv.mx:=by
  have:=cR t (cs b W);unfold Dv.mx;omega
 have hst:=mF t (cs b W);cases hc:cs b W t with
 | true=>
  rw[hc] at hs hst;simp only[if_true] at hst;by_cases c:xs b W (t+1)=W
  ·rw[if_pos c,hst]
   simp! only[b_Q0P_l1,Dv.ixD,hs,Dv.isNonD,jy,jV,decide_eq_true hlen,gE,decide_eq_true c,agD,sRetR]
  ·rw[if_neg c,hst]
   simp! only[b_Q0P_l1,Dv.ixD,hs,Dv.isNonD,jy,jV,decide_eq_true hlen,gE,decide_eq_false c]
 | false=>
  rw[hc] at hs hst;simp only[wg,if_false,xn] at hst;by_cases c:xs b W (t+1)=W
  ·rw[if_pos c,hst]
   simp! only[b_Q0P_l1,Dv.ixD,hs,Dv.isNonD,jy,jV,decide_eq_true c,agD,sRetR]
  ·rw[if_neg c,hst]
   simp! only[b_Q0P_l1,Dv.ixD,hs,Dv.isNonD,jy,jV,decide_eq_false c]
theorem ke (h:LB b){t:Nat}(h0:0<=xs b W t)(e:bq b (xs b W t)=.non):
  b_Q0E_l1 [.sh (L b),.sh (.int W),.sh (.int 2000),.sh (.int (xs b W t)),.sh (.int (pw2 b)),.sh (.int t)]=.ret (.int t) true:=by
 unfold bq at e;have eb:=fS h0 (i8 b);by_cases c1:xs b W t%2=1
 ·rw[if_pos c1] at e;cases e
 rw[if_neg c1] at e;by_cases c2:((xs b W t).toNat &&& (pw2 b).toNat)=0
 ·rw[if_pos c2] at e;cases e
 have c3:(0:Int)<(((xs b W t).toNat &&& (pw2 b).toNat:Nat):Int):=⋯
 simp! only[b_Q0E_l1,av (i:=xs b W t) (j:=2) (by decide),decide_eq_false c1,eb,decide_eq_true c3]
theorem nq (h:LB b){t:Nat}(h0:0<=xs b W t)(e:bq b (xs b W t)≠.non):
  b_Q0E_l1 [.sh (L b),.sh (.int W),.sh (.int 2000),.sh (.int (xs b W t)),.sh (.int (pw2 b)),.sh (.int t)] =
   if xs b W (t+1)=W then .ret (.int (-1)) true else .nx [.sh (L b),.sh (.int W),.sh (.int 2000),.sh (.int (xs b W (t+1))),.sh (.int (pw2 b)),.sh (.int t)]:=by
 have es:=dI e;have eb:=fS h0 (i8 b);generalize xs b W (t+1)=y at es ⊢;generalize cs b W t=c at es;unfold bq at es;by_cases c1:xs b W t%2=1
 ·rw[if_pos c1] at es
  simp only[D.tup.injEq,List.cons.injEq,D.bl.injEq,D.int.injEq,and_true] at es;obtain⟨_,rfl⟩:=es;by_cases c:xs b W t/2=W
  ·rw[if_pos c]
   simp! only[b_Q0E_l1,av (i:=xs b W t) (j:=2) (by decide),decide_eq_true c1,be (i:=xs b W t) (j:=2) (by decide) (by decide),decide_eq_true c]
  ·rw[if_neg c]
   simp! only[b_Q0E_l1,av (i:=xs b W t) (j:=2) (by decide),decide_eq_true c1,be (i:=xs b W t) (j:=2) (by decide) (by decide),decide_eq_false c]
 rw[if_neg c1] at es;by_cases c2:((xs b W t).toNat &&& (pw2 b).toNat)=0
 ·rw[if_pos c2] at es
  simp only[D.tup.injEq,List.cons.injEq,D.bl.injEq,D.int.injEq,and_true] at es;obtain⟨_,rfl⟩:=es;rw[c2] at eb;have c3:¬ ((0:Int)<0):=⋯
  by_cases c:(xs b W t+pw2 b)/2=W
  ·rw[if_pos c]
   simp! only[b_Q0E_l1,av (i:=xs b W t) (j:=2) (by decide),decide_eq_false c1,eb,xY,decide_eq_false c3,be (i:=xs b W t+pw2 b) (j:=2) (by decide) (by decide),decide_eq_true c]
  ·rw[if_neg c]
   simp! only[b_Q0E_l1,av (i:=xs b W t) (j:=2) (by decide),decide_eq_false c1,eb,xY,decide_eq_false c3,be (i:=xs b W t+pw2 b) (j:=2) (by decide) (by decide),decide_eq_false c]
 ·rw[if_neg c2] at es;cases es
inductive End (b:List Int)(w:Nat)(W:Int)(k:Nat)(line here:Out):Prop
 | again (m:Nat) (r:Ran b w m (xs b W) (cs b W)) (hm:m<=k) (e1:line=.ret (.tup [.str agD,.int m,L (begs m (cs b W))]) true) (e2:here=.ret (.int (-1)) true)
 | stuck (p:Nat) (hp:p<k) (e1:line=.ret (.tup [.str stD,.int p]) true) (e2:here=.ret (.int p) true)
 | more (z1 z2:St) (e1:line=.nx ([.sh (L b),.sh (.int W)]++z1)) (e2:here=.nx ([.sh (L b),.sh (.int W),.sh (.int 2000)]++z2))
theorem gk (h:LB b)(hw:(w:Int)=b.getLast h.ne)(W0:0<=W/\W<2 ^ w):∀ (k t:Nat) (z4 z5 z6:Sl),t+k<=2000->At b w W t ->
  End b w W (t+k) (forGo 4 b_Q0P_l1 (Dv.rangeL (t:Int) k) [.sh (L b),.sh (.int W),.ow (L (begs t (cs b W))),.sh (.int (xs b W t)),z4,z5])
   (forGo 5 b_Q0E_l1 (Dv.rangeL (t:Int) k) [.sh (L b),.sh (.int W),.sh (.int 2000),.sh (.int (xs b W t)),.sh (.int (pw2 b)),z6])
 | 0,t,z4,z5,z6,hk,a=>.more _ _ rfl rfl
 | k+1,t,z4,z5,z6,hk,a=>by
  unfold Dv.rangeL;by_cases e:bq b (xs b W t)=.non
  ·refine .stuck t ⋯ (c7 ?_) (c7 ?_)
   ·simp only[wN,wM];exact kr h hw a e _ _
   ·simp only[wN,wM];exact ke h a.rg.1 e
  ·have s1:=ng h hw a ⋯ e z5
   have s2:=nq h a.rg.1 e;have st:=ij h hw a.rg.1 a.rg.2 (dI e);by_cases c:xs b W (t+1)=W
   ·rw[if_pos c] at s1 s2
    refine .again (t+1) ⟨h,hw,⋯,W0.1,W0.2,λ i hi=>dI ?_,c,λ i h1 h2=>a.ne i h1 ⋯⟩ ⋯ (c7 ?_) (c7 ?_)
    ·by_cases q:i=t
     ·subst q;exact e
     ·exact a.stp i ⋯
    ·simp only[wN,wM];exact s1
    ·simp only[wN,wM];exact s2
   ·rw[if_neg c] at s1 s2
    have a':At b w W (t+1):=⟨λ i hi=>by
     by_cases q:i=t
     ·subst q;exact e
     ·exact a.stp i ⋯,λ i h1 h2=>by
     by_cases q:i=t+1
     ·subst q;exact c
     ·exact a.ne i h1 ⋯,st.y0,st.y1⟩
    have ih:=gk h hw W0 k (t+1) (.sh (.int t)) (.sh (.tup [.bl (cs b W t),.int (xs b W (t+1))])) (.sh (.int t)) ⋯ a';rw[aN (st':=[.sh (L b),.sh (.int W),.ow (L (begs (t+1) (cs b W))),.sh (.int (xs b W (t+1))),.sh (.int t),.sh (.tup [.bl (cs b W t),.int (xs b W (t+1))])]) (by simp only[wN,wM];exact s1),
     aN (st':=[.sh (L b),.sh (.int W),.sh (.int 2000),.sh (.int (xs b W (t+1))),.sh (.int (pw2 b)),.sh (.int t)]) (by simp only[wN,wM];exact s2)]
    rw[show t+(k+1)=t+1+k by omega];exact ih
inductive Ends (b:List Int)(w:Nat)(W:Int)(line here:R):Prop
 | again (m:Nat) (r:Ran b w m (xs b W) (cs b W)) (hm:m<=2000) (e1:line=.ok (.tup [.str agD,.int m,L (begs m (cs b W))]) true) (e2:here=.ok (.int (-1)) true)
 | stuck (p:Nat) (hp:p<2000) (e1:line=.ok (.tup [.str stD,.int p]) true) (e2:here=.ok (.int p) true)
 | more (e1:line=.exc "TooMany") (e2:here=.ok (.int 2000) true)
theorem qJ (h:LB b)(hw:(w:Int)=b.getLast h.ne)(W0:0<=W)(W1:W<2 ^ w):Ends b w W (F_Q0P [L b,.int W]) (F_Q0E [L b,.int W,.int 2000]):=by
 have hr:rngOk 2000=true:=by decide
 have h2:(2000:Int).toNat=2000:=rfl;have hc:c_Q0E_1 [some (L b),some (.int W),some (.int 2000),some (.int W),none,none]=.ok (L (b.map λ p=>(2:Int) ^ p.toNat)) true:=by
  unfold c_Q0E_1;refine aJ (f:=false) rfl (by have:=h.ln;omega) λ x hx=>?_
  have:=h.rg x hx;simp only[eB2,eVar,eInt,Dv.pick,R.bind,RL.bind,Out.bind,dR,wK,w9,il (i:=1) (j:=x) this.1 ⋯ (by decide),yK]
 have hs:=nZ (b.map λ p=>(2:Int) ^ p.toNat) true;have ep:(b.map λ p=>(2:Int) ^ p.toNat).sum=pw2 b:=rfl;rw[ep] at hs;have bl:=gk h hw ⟨W0,W1⟩ 2000 0 .no .no .no ⋯ ⟨λ i hi=>⋯,λ i h1 h2=>⋯,W0,W1⟩;have z:begs 0 (cs b W)=[]:=rfl;have x0:xs b W 0=W:=rfl;rw[z,x0] at bl;simp only[L,wK,show ((0:Nat):Int)=0 from rfl,xy] at bl hs hc;generalize hl:forGo 4 b_Q0P_l1 (Dv.rangeL 0 2000) _=line at bl;generalize hh:forGo 5 b_Q0E_l1 (Dv.rangeL 0 2000) _=here at bl;cases bl with
 | again m r hm e1 e2=>
  subst e1 e2;refine .again m r hm ?_ ?_
  ·simp! only[F_Q0P,b_Q0P,b_Q0P_t3,b_Q0P_t2,b_Q0P_t1,L,hr,h2,hl]
  ·simp! only[F_Q0E,b_Q0E,b_Q0E_t3,b_Q0E_t2,b_Q0E_t1,L,hr,h2,hh,hc,hs]
 | stuck p hp e1 e2=>
  subst e1 e2;refine .stuck p hp ?_ ?_
  ·simp! only[F_Q0P,b_Q0P,b_Q0P_t3,b_Q0P_t2,b_Q0P_t1,L,hr,h2,hl]
  ·simp! only[F_Q0E,b_Q0E,b_Q0E_t3,b_Q0E_t2,b_Q0E_t1,L,hr,h2,hh,hc,hs]
 | more z1 z2 e1 e2=>
  subst e1 e2;refine .more ?_ ?_
  ·simp! only[F_Q0P,b_Q0P,b_Q0P_t3,b_Q0P_t2,b_Q0P_t1,L,hr,h2,hl,sRaise]
  ·simp! only[F_Q0E,b_Q0E,b_Q0E_t3,b_Q0E_t2,b_Q0E_t1,L,hr,h2,hh,hc,hs]
end
theorem rX {i j:Int}(h:0<=i)(h2:0<=j):Dv.borD (.int i) (.int j)=.ok (.int ((i.toNat ||| j.toNat:Nat):Int)) true:=by
 simp[Dv.borD,h,h2]
theorem vi {i:Int}(k j:Nat):bt ((i.toNat ||| ((2:Int) ^ k).toNat:Nat):Int) j=(bt i j || decide (k=j)):=by
 unfold bt;have e:((2:Int) ^ k).toNat=2 ^ k:=by
  have:(2:Int) ^ k=((2 ^ k:Nat):Int):=by simp
  rw[this,wL]
 rw[wL,e,Aa,Nat.testBit_two_pow]
theorem iw {n:Int}(hn:0<n){S:List Int}(B:D)(k:Nat)(hk:k<=60):∀ (ps:List Int) (a:Int) (z:Sl),0<=a->∃ a' z',forGo 5 b_Q0H_l1 (ps.map .int) [.sh B,.sh (.int n),.sh (L S),.sh (.int a),.sh (.int k),z] =
  .nx [.sh B,.sh (.int n),.sh (L S),.sh (.int a'),.sh (.int k),z']/\0<=a'/\∀ j,bt a' j=true ↔ bt a j=true\/(k=j/\∃ p∈ps,(k:Int)<p/\((k:Int)-p)%n∈S)
 | [],a,z,h0=>⟨a,z,by simp[forGo],h0,λ j=>by simp⟩
 | p::r,a,z,h0=>by
  by_cases c:(k:Int)<p/\((k:Int)-p)%n∈S
  ·have hs:=il (i:=1) (j:=(k:Int)) ⋯ ⋯ (by decide)
   rw[yK,wL] at hs;have hp:(0:Int)<=2 ^ k:=xc (zt (by decide));obtain⟨a',z',e,g0,g⟩:=iw hn (S:=S) B k hk r ((a.toNat ||| ((2:Int) ^ k).toNat:Nat):Int) (.sh (.int p)) ⋯;refine⟨a',z',?_,g0,λ j=>?_⟩
   ·rw[wm,aN (st':=[.sh B,.sh (.int n),.sh (L S),.sh (.int ((a.toNat ||| ((2:Int) ^ k).toNat:Nat):Int)),.sh (.int k),.sh (.int p)]),e]
    simp! only[b_Q0H_l1,decide_eq_true c.1,av hn,decide_eq_true c.2,hs,rX h0 hp]
   ·rw[g j,vi,zf,decide_eq_true_eq]
    constructor
    ·rintro ((h|h)|⟨h,q,hq,h2⟩)
     ·exact .inl h
     ·exact .inr ⟨h,p,we ..,c⟩
     ·exact .inr ⟨h,q,wd _ hq,h2⟩
    ·rintro (h|⟨h,_⟩)
     ·exact .inl (.inl h)
     ·exact .inl (.inr h)
  ·obtain⟨a',z',e,g0,g⟩:=iw hn (S:=S) B k hk r a (.sh (.int p)) h0
   refine⟨a',z',?_,g0,λ j=>?_⟩
   ·rw[wm,aN (st':=[.sh B,.sh (.int n),.sh (L S),.sh (.int a),.sh (.int k),.sh (.int p)]),e]
    by_cases c1:(k:Int)<p
    ·have c2:¬ ((k:Int)-p)%n∈S:=λ q=>c ⟨c1,q⟩
     simp! only[b_Q0H_l1,decide_eq_true c1,av hn,decide_eq_false c2]
    ·simp! only[b_Q0H_l1,decide_eq_false c1]
   ·rw[g j]
    constructor
    ·rintro (h|⟨h,q,hq,h2⟩)
     ·exact .inl h
     ·exact .inr ⟨h,q,wd _ hq,h2⟩
    ·rintro (h|⟨h,q,hq,h2⟩)
     ·exact .inl h
     ·rcases List.mem_cons.mp hq with rfl|hq
      ·exact absurd h2 c
      ·exact .inr ⟨h,q,hq,h2⟩
theorem jP {n:Int}(hn:0<n){b S:List Int}(hb:b.length<=1000):∀ (ps:List Nat) (a:Int) (z u:Sl),0<=a->(∀ k∈ps,k<=60)->∃ a' z' u',forGo 4 b_Q0H_l2 ((ps.map λ (k:Nat)=>(k:Int)).map .int) [.sh (L b),.sh (.int n),.sh (L S),.sh (.int a),z,u] =
  .nx [.sh (L b),.sh (.int n),.sh (L S),.sh (.int a'),z',u']/\0<=a'/\∀ j,bt a' j=true ↔ bt a j=true\/(j∈ps/\∃ p∈b,(j:Int)<p/\((j:Int)-p)%n∈S)
 | [],a,z,u,h0,_=>⟨a,z,u,by simp[forGo],h0,λ j=>by simp⟩
 | k::r,a,z,u,h0,hk=>by
  obtain⟨a1,u1,e1,g0,g1⟩:=iw hn (S:=S) (L b) k (hk k (we ..)) b a u h0;obtain⟨a',z',u',e,q0,q⟩:=jP hn (b:=b) (S:=S) hb r a1 (.sh (.int k)) u1 g0 λ x hx=>hk x (wd _ hx)
  refine⟨a',z',u',?_,q0,λ j=>?_⟩
  ·rw[wm,wm,aN (st':=[.sh (L b),.sh (.int n),.sh (L S),.sh (.int a1),.sh (.int k),u1]),e]
   simp! only[b_Q0H_l2,e1]
  ·rw[q j,g1 j,xr]
   constructor
   ·rintro ((h|⟨h,h2⟩)|⟨h,h2⟩)
    ·exact .inl h
    ·subst h;exact .inr ⟨.inl rfl,h2⟩
    ·exact .inr ⟨.inr h,h2⟩
   ·rintro (h|⟨h|h,h2⟩)
    ·exact .inl (.inl h)
    ·subst h;exact .inl (.inr ⟨rfl,h2⟩)
    ·exact .inr ⟨h,h2⟩
theorem ll {b:List Int}(h:LB b){n:Int}(hn:0<n)(S:List Int):∃ x,F_Q0H [L b,.int n,L S]=.ok (.int x) true/\0<=x/\∀ k,bt x k=true ↔ ∃ p∈b,(k:Int)<p/\((k:Int)-p)%n∈S:=by
 have hb60:=h.rg _ (xZ h.ne);obtain⟨a,z,u,e,g0,g⟩:=jP hn (b:=b) (S:=S) (by have:=h.ln;omega) (List.range (b.getLast h.ne).toNat) 0 .no .no (by decide) λ k hk=>by have:=List.mem_range.mp hk;omega
 have hr:=i7 (n:=b.getLast h.ne) hb60.1 ⋯;refine⟨a,?_,g0,λ k=>?_⟩
 ·have e2:upto (b.getLast h.ne).toNat=(List.range (b.getLast h.ne).toNat).map λ (k:Nat)=>(k:Int):=rfl
  simp! only[F_Q0H,b_Q0H,b_Q0H_t2,b_Q0H_t1,Dv.ixD,dN h.ne,hr,bB,e2,e]
 ·rw[g k]
  have z0:bt 0 k=false:=by unfold bt;simp
  rw[z0]
  constructor
  ·rintro (q|⟨_,q⟩)
   ·cases q
   ·exact q
  ·rintro ⟨p,hp,h1,h2⟩
   have:=h.le_last p hp;exact .inr ⟨List.mem_range.mpr ⋯,p,hp,h1,h2⟩
section
variable {b:List Int}{w m:Nat}{X:Nat->Int}{c:Nat->Bool}
theorem Ran.left (r:Ran b w m X c):F_Q0H [L b,.int m,L (begs m c)]=.ok (.int (X 0)) true:=by
 have hm:=r.m1;obtain⟨x,e,h0,h⟩:=ll r.lb (n:=(m:Int)) ⋯ (begs m c);rw[e];have:x=X 0:=oj h0 r.x0 λ k=>by
  have q:=r.bit 0 k;rw[xu (show 0<m by omega)] at q;have q2:=h k;simp only[show ((0:Nat):Int)+(k:Int)=k by omega] at q;have q3:=q2.trans q.symm;cases a1:bt x k <;>cases a2:bt (X 0) k <;>simp_all
 rw[this]
def rests (m:Nat)(b S:List Int):List Int:=S.flatMap λ s=>b.map λ p=>(s+p)%(m:Int)
theorem dQ {s:Int}(h:s∈begs m c):s%(m:Int)=s:=by
 obtain⟨a,b,_⟩:=mem_begs.mp h;exact yV a b
theorem i3 (m:Nat)(c:Nat->Bool):(begs m c).Pairwise (·<·):=(iV m).filter _
theorem iu {m:Int}{s p q s2:Int}(h:(s+p)%m=(s2+q)%m):(s+p-q)%m=s2%m:=by
 have:(s+p-q)%m=((s+p)%m-q)%m:=by rw[zI]
 rw[this,h,zI];congr 1;omega
theorem Ran.rests_nd (r:Ran b w m X c):(rests m b (begs m c)).Nodup:=by
 have key:∀ s1∈begs m c,∀ s2∈begs m c,∀ p∈b,∀ q∈b,(s1+p)%(m:Int)=(s2+q)%(m:Int)->s1=s2/\p=q:=λ s1 h1 s2 h2 p hp q hq e=>by
  have m1:((s1+p)-p)%(m:Int)∈begs m c:=by rw[show s1+p-p=s1 by omega,dQ h1];exact h1
  have m2:((s1+p)-q)%(m:Int)∈begs m c:=by rw[iu e,dQ h2];exact h2
  have epq:=r.uq hp hq m1 m2;subst epq;have:=iu e;rw[show s1+p-p=s1 by omega,dQ h1,dQ h2] at this;exact⟨this,rfl⟩
 have nd:∀ S:List Int,S.Pairwise (·<·)->(∀ s∈S,s∈begs m c)->(rests m b S).Nodup:=by
  intro S
  induction S with
  | nil=>intro _ _;exact zZ
  | cons s S ih=>
   intro h1 h2;have h1:=List.pairwise_cons.mp h1;unfold rests;rw[zJ];refine List.nodup_append.mpr ⟨?_,ih h1.2 λ x hx=>h2 x (wd _ hx),λ x hx y hy e=>?_⟩
   ·refine List.pairwise_map.mpr (r.lb.up.imp_of_mem λ {p q} hp hq hlt e=>?_)
    have:=(key s (h2 s (we ..)) s (h2 s (we ..)) p hp q hq e).2;omega
   ·subst e
    obtain⟨p,hp,rfl⟩:=List.mem_map.mp hx;obtain⟨s2,hs2,hy⟩:=List.mem_flatMap.mp hy;obtain⟨q,hq,e⟩:=List.mem_map.mp hy;have:=(key s2 (h2 s2 (wd _ hs2)) s (h2 s (we ..)) q hq p hp e).1;have:=h1.1 s2 hs2;omega
 exact nd _ (i3 m c) λ s hs=>hs
theorem Ran.rests_all (r:Ran b w m X c):Dv.isort (rests m b (begs m c))=upto m:=by
 have hm:=r.m1;refine aO ((ao _).trans ((yI r.rests_nd ((iV m).imp λ {a b} h e=>⋯)).mpr λ x=>?_)) (aE _) ((iV m).imp λ {a b} h=>⋯);rw[mem_upto]
 constructor
 ·intro hx
  obtain⟨s,hs,hx⟩:=List.mem_flatMap.mp hx;obtain⟨p,hp,rfl⟩:=List.mem_map.mp hx;exact⟨zg _ ⋯,yF _ ⋯⟩
 ·intro hx
  obtain⟨p,hp,h1⟩:=r.ex x.toNat;rw[show ((x.toNat:Nat):Int)=x by omega] at h1;refine List.mem_flatMap.mpr ⟨_,h1,List.mem_map.mpr ⟨p,hp,?_⟩⟩;rw[yW,show x-p+p=x by omega];exact yV hx.1 hx.2
theorem Ran.rests_len (r:Ran b w m X c):(rests m b (begs m c)).length=m:=by
 have:=congrArg List.length r.rests_all;rw[(ao _).length_eq,bR] at this;exact this
theorem jY:∀ (ns σ:List Int),(σ++ns).Nodup->ns.foldl Dv.oncesStep σ=σ++ns
 | [],σ,_=>by simp
 | k::r,σ,h=>by
  rw[w6];have h':(σ++[k]++r).Nodup:=by simpa using h
  have hk:k∉σ:=λ z=>by
   have:=(List.nodup_append.mp h).2.2 k z k (we ..);exact this rfl
  have e:Dv.oncesStep σ k=σ++[k]:=by
   unfold Dv.oncesStep;rw[if_neg (by simpa using hk)]
  rw[e,jY r (σ++[k]) h'];simp
theorem nS (m:Nat)(c:Nat->Bool)(hm:m<=2000)(f:Bool):Dv.sortSetSD (L (begs m c)) f=.ok (L (begs m c)) true:=by
 have nd:(begs m c).Nodup:=(i3 m c).imp λ {a b} h e=>⋯
 have e:Dv.onces (begs m c)=begs m c:=by
  have:=jY (begs m c) [] (by simpa using nd);simpa[Dv.onces] using this
 have hl:=cR m c;unfold Dv.sortSetSD;simp only[L,gc,e,pN ((i3 m c).imp λ {a b} h=>xc h)];rw[if_pos ⋯]
end
structure Ri (xs:List Int):Prop where
 up:xs.Pairwise (·<·)
 hd:∃ r,xs=0::r
 ln:xs.length<=1000
theorem Ri.nn {xs:List Int}(h:Ri xs):∀ x∈xs,0<=x:=λ x hx=>by
 obtain⟨r,rfl⟩:=h.hd
 rcases List.mem_cons.mp hx with rfl|hx
 ·exact xf _
 ·exact xc ((List.pairwise_cons.mp h.up).1 x hx)
theorem Ri.cut {xs:List Int}(h:Ri xs){m:Int}(hm:0<=m)(hm2:m<=60):LB ((xs.filter λ x=>decide (x<=m)).take 12):=by
 have sub:((xs.filter λ x=>decide (x<=m)).take 12).Sublist xs:=(yL _ _).trans List.filter_sublist;refine⟨h.up.sublist sub,?_,λ x hx=>?_,?_⟩
 ·obtain⟨r,rfl⟩:=h.hd
  rw[List.filter_cons_of_pos (by simpa using hm)];exact⟨_,rfl⟩
 ·have h1:=List.mem_filter.mp (List.mem_of_mem_take hx)
  have h2:=h.nn x h1.1;have h3:x<=m:=by simpa using h1.2
  omega
 ·rw[wX];omega
theorem sJ {n:Int}{xs:List Int}(h:Beat n xs)(hn:n<=60):Ri (xs.map λ x=>x-xs.getD 0 0):=by
 refine⟨?_,?_,by rw[wj];have:=h.len;omega⟩
 ·rw[zK]
  exact h.up.imp λ {a b} h=>⋯
 ·cases xs with
  | nil=>exact absurd rfl h.ne
  | cons x r=>exact⟨r.map λ y=>y-x,by simp⟩
theorem far {xs:List Int}(h:Ri xs){c:Int}(hc:0<=c):Ri (xs.map λ x=>x+c*(if decide (0<x)=true then 1 else 0)):=by
 refine⟨?_,?_,by rw[wj];exact h.ln⟩
 ·rw[zK]
  refine(List.Pairwise.imp_of_mem (R:=(·<·)) ?_) h.up;intro a b ha hb hab;have h1:=h.nn a ha;have hb':0<b:=⋯
  rw[if_pos (show decide (0<b)=true by simpa using hb')];by_cases ha':0<a
  ·rw[if_pos (show decide (0<a)=true by simpa using ha')];omega
  ·rw[if_neg (show ¬ decide (0<a)=true by simpa using ha')];omega
 ·obtain⟨r,rfl⟩:=h.hd
  exact⟨_,by rw[wm];simp;rfl⟩
theorem Ri.app {xs:List Int}(h:Ri xs)(ne:xs≠[]){y:Int}(hy:xs.getLast ne<y)(hl:xs.length<1000):Ri (xs++[y]):=by
 refine⟨?_,?_,by simp;omega⟩
 ·rw[List.pairwise_append]
  refine⟨h.up,by simp,λ a ha b hb=>?_⟩;rw[xj] at hb;subst hb;obtain⟨i,hi,rfl⟩:=wQ ha;rw[yo] at hy;by_cases e:i=xs.length-1
  ·subst e;exact hy
  ·have:=(List.pairwise_iff_getElem.mp h.up) i (xs.length-1) hi ⋯ ⋯
   omega
 ·obtain⟨r,rfl⟩:=h.hd
  exact⟨r++[y],by simp⟩
theorem qf {n:Int}(h:0<=n)(h2:n<=1000):rngOk n=true:=by simp[rngOk];omega
end Cw
namespace Pl
def co (a:List Int)(i:Nat):Int:=a.getD i 0
def sh (f:Nat->Int):Nat->Int
 | 0=>0
 | p+1=>f p
def cf:List Int->(Nat->Int)->Nat->Int
 | [],_,_=>0
 | x::r,g,p=>x*g p+sh (cf r g) p
end Pl
namespace Bt
open Dv (ins isort)
def T (A:List Int)(g:Int->Int):Int->Int:=λ s=>(A.map λ a=>g (s-a)).sum
theorem oJ (a:Int)(A:List Int)(g:Int->Int)(s:Int):T (a::A) g s=g (s-a)+T A g s:=by unfold T;simp
theorem rO (g:Int->Int)(s:Int):T [] g s=0:=by simp[T]
def cnt (n:Int)(B:List Int)(s:Int):Int:=(B.map λ b=>if (s-b)%n=0 then (1:Int) else 0).sum
end Bt
namespace Cw
open Dv (cmD eVar forGo rngOk sHeld sTry)
open Bt (T oJ rO hits Fill ao Beat)
open Pl (co cf)
def sl {α:Type}(l:List α)(f:α->Int):Int:=(l.map f).sum
theorem ak {α:Type}(f:α->Int):sl [] f=0:=rfl
theorem ae {α:Type}(x:α)(l:List α)(f:α->Int):sl (x::l) f=f x+sl l f:=by unfold sl;simp
open Dv (D R RL EE EL EI RI Sl Out SS St)
open Bt
open Pl (co cf sh)
def mono (i:Nat):Nat->Int:=λ j=>if j=i then 1 else 0
def fs:List Int->Nat->Int
 | [],_=>0
 | x::r,j=>mono x.toNat j+fs r j
def us (d:Nat):List Nat:=(List.range d).filter λ k=>Nat.gcd k d == 1
open Bt (T oJ rO hits Fill ao Beat tally jU dG pW dF)
theorem m9:b_Q0L_l2=aU:=rfl
structure Dr (ds:List Int):Prop where
 len:ds.length=15
 rg:∀ d∈ds,0<=d/\d<1000000000000000000000000000000
theorem Dr.cell {ds:List Int}(h:Dr ds){k:Int}(h0:0<=k)(h1:k<15):F_Q09 [L ds,.int k]=.ok (.int (aD ds k)) true/\0<=aD ds k/\aD ds k<1000000000000000000000000000000:=
 ⟨aX h0 (by have:=h.len;omega),h.rg _ (getD_mem (by have:=h.len;omega))⟩
theorem jR {s:List Int}{k0:Int}(hk0:0<=k0)(hk1:k0<=1000)(hsl:k0+9<=(s.length:Int)):∃ n a b f,F_Q0L [L s,.int k0]=.ok (.tup [.int n,L a,L b]) f/\Fill n a b/\n<=60:=by
 obtain⟨n,a,b,sa,sb,y5,y6,y7,y8,y9,y10,e,p,hn,ha,hb⟩:=f6 o9 (s:=s) hk0 hk1 hsl (upto 6) 1 [0] [0] (.ow (L [0])) (.ow (L [0])) .no .no .no .no .no .no (λ x hx=>by have:=mem_upto.mp hx;omega) jn ⋯ (.inr rfl) (.inr rfl);rw[<- m9] at e;have hA:=p.one;have hB:=p.oth;have hnp:0<n:=by have:=hA.pos;omega
 have hla:=hA.len;have hlb:=hB.len;simp only[L,wm,wK] at e;have hr:rngOk 6=true:=by decide
 have h6:(6:Int).toNat=6:=rfl;have ht1:=eB (by_:=aD s (k0+6)%n) (xs:=a) hnp ⋯;have ht2:=eB (by_:=aD s (k0+7)%n) (xs:=b) hnp ⋯;have p2:=(p.turn (c:=aD s (k0+6)%n)).swap.turn (c:=aD s (k0+7)%n);refine⟨n,Dv.isort (a.map λ x=>(x+aD s (k0+6)%n)%n),Dv.isort (b.map λ x=>(x+aD s (k0+7)%n)%n),false,?_,p2.swap,hn⟩;simp! only[F_Q0L,b_Q0L,b_Q0L_t5,b_Q0L_t4,b_Q0L_t3,b_Q0L_t2,b_Q0L_t1,Dv.flatL,hr,h6,bB,e,ha.get,hb.get,aX (s:=s) (k:=k0+6) ⋯ ⋯,aX (s:=s) (k:=k0+7) ⋯ ⋯,av hnp,ht1,ht2]
theorem eV {s:List Int}{k0:Int}(hk0:0<=k0)(hsl:k0+21<=(s.length:Int))(A B C E G:Sl):∀ (ks xs:List Int) (z:Sl),Ri xs->(∀ k∈ks,0<=k/\k<12)->xs.length+ks.length<=100 ->
  ∃ ys z',forGo 7 b_Q0J_l1 (ks.map .int) [.sh (L s),.sh (.int k0),A,B,.ow (L xs),C,E,z]=.nx [.sh (L s),.sh (.int k0),A,B,.ow (L ys),C,E,z']/\Ri ys
 | [],xs,z,h,_,_=>⟨xs,z,rfl,h⟩
 | k::r,xs,z,h,hk,hl=>by
  rw[wA] at hl;have hkk:=hk k (we ..);have ne:xs≠[]:=by obtain⟨r,e⟩:=h.hd;rw[e];simp
  have hm:=bj (n:=5) (a:=aD s (k0+9+k)) (by decide);obtain⟨ys,z',e,hy⟩:=eV hk0 hsl A B C E G r (xs++[xs.getLast ne+1+aD s (k0+9+k)%5]) (.sh (.int k)) (h.app ne ⋯ ⋯) (λ q hq=>hk q (wd _ hq)) (by simp;omega);refine⟨ys,z',?_,hy⟩;rw[wm,aN (st':=[.sh (L s),.sh (.int k0),A,B,.ow (L (xs++[xs.getLast ne+1+aD s (k0+9+k)%5])),C,E,.sh (.int k)]),e];have hx:xs.length<Dv.mx:=by unfold Dv.mx;omega
  simp! only[b_Q0J_l1,Dv.ixD,dN ne,aX (s:=s) (k:=k0+9+k) ⋯ ⋯,av (i:=aD s (k0+9+k)) (j:=5) (by decide),decide_eq_true hx,gE]
theorem e8 {s:List Int}{k0 m kd:Int}{xs:List Int}{A B E z:Sl}(hm:0<=m)(hm2:m<=60)(h:Ri xs):
  ∃ b,b_Q0J_t6 [.sh (L s),.sh (.int k0),.sh (.int m),A,.ow (L xs),B,E,z]=.ret (L b) true/\LB b:=by
 refine⟨_,?_,h.cut hm hm2⟩;have hc:c_Q0J_4 [some (L s),some (.int k0),some (.int m),A.get,some (L xs),B.get,E.get,z.get]=.ok (L ((xs.filter λ x=>decide (x<=m)).map id)) true:=by
  unfold c_Q0J_4;refine oS (f:=false) (c:=λ x=>decide (x<=m)) (g:=id) rfl (by have:=h.ln;omega) (λ x hx=>by simp! only[]) λ x hx _=>by simp only[eVar,Dv.pick,dR,wm,wK,w9,xJ,yw,id]
 rw[List.map_id] at hc;have hs:Dv.sliceD (L (xs.filter λ x=>decide (x<=m))) true none (some 12)=.ok (L ((xs.filter λ x=>decide (x<=m)).take 12)) true:=by
  rw[lj];congr 2;unfold Dv.cutL Dv.cutI;simp only[yC,zE,if_neg (show ¬ ((12:Int)<0) by decide),Int.reduceToNat];rw[List.take_eq_take_iff];omega
 simp only[L] at hc hs;simp! only[b_Q0J_t6,hc,hs]
theorem eN {s:List Int}{k0 m:Int}(hk0:0<=k0)(hk1:k0<=900)(hsl:k0+21<=(s.length:Int))(hm:0<=m)(hm2:m<=60):∃ b,F_Q0J [L s,.int k0,.int m]=.ok (L b) true/\LB b:=by
 obtain⟨n,a,b,f,e,hfl,hn⟩:=jR (s:=s) (k0:=k0) hk0 ⋯ ⋯;have ha:=hfl.one;have hb:=hfl.oth;have hka:=bj (n:=4) (a:=aD s (k0+8)) (by decide);generalize hkd:aD s (k0+8)%4=kd at hka;have hcell:=aX (s:=s) (k:=k0+8) ⋯ ⋯;have hmod:=av (i:=aD s (k0+8)) (j:=4) (by decide);rw[hkd] at hmod;have hc1:c_Q0J_1 [some (L s),some (.int k0),some (.int m),some (.int n),some (L a),some (L b),some (.int kd),none]=.ok (L (a.map λ x=>x-a.getD 0 0)) true:=by
  unfold c_Q0J_1;refine aJ (f:=false) rfl (by have:=ha.len;omega) λ x hx=>?_
  simp! only[Dv.ixD,dJ ha.ne]
 have hR:=sJ ha hn;have hRb:=sJ hb hn;have pre:∀ st,b_Q0J_t2 [.sh (L s),.sh (.int k0),.sh (.int m),.sh (.int n),.sh (L a),.sh (L b),.sh (.int kd),.no]=st->b_Q0J [.sh (L s),.sh (.int k0),.sh (.int m),.no,.no,.no,.no,.no]=st:=λ st h=>by
  rw[<- h];simp! only[b_Q0J,b_Q0J_t1,e,hcell,hmod]
 have t2:b_Q0J_t2 [.sh (L s),.sh (.int k0),.sh (.int m),.sh (.int n),.sh (L a),.sh (L b),.sh (.int kd),.no]=b_Q0J_t3 [.sh (L s),.sh (.int k0),.sh (.int m),.sh (.int n),.ow (L (a.map λ x=>x-a.getD 0 0)),.sh (L b),.sh (.int kd),.no]:=by
  simp! only[b_Q0J_t2,hc1]
 have fin:∀ {xs z},Ri xs->b_Q0J_t2 [.sh (L s),.sh (.int k0),.sh (.int m),.sh (.int n),.sh (L a),.sh (L b),.sh (.int kd),.no]=b_Q0J_t6 [.sh (L s),.sh (.int k0),.sh (.int m),.sh (.int n),.ow (L xs),.sh (L b),.sh (.int kd),z]->∃ b,F_Q0J [L s,.int k0,.int m]=.ok (L b) true/\LB b:=λ {xs z} h q=>by
  obtain⟨b',e1,e2⟩:=e8 (s:=s) (k0:=k0) (m:=m) (kd:=kd) (A:=.sh (.int n)) (B:=.sh (L b)) (E:=.sh (.int kd)) (z:=z) hm hm2 h;refine⟨b',?_,e2⟩;rw[e1] at q;have:=pre _ q;simp only[F_Q0J,Dv.fn,wm,wK,wA,xN,List.replicate,xT,xA,Nat.reduceAdd,Nat.reduceSub,this]
 have cases4:kd=0\/kd=1\/kd=2\/kd=3:=⋯
 rcases cases4 with rfl|rfl|rfl|rfl
 ·refine fin (z:=.no) hR (t2.trans ?_)
  simp! only[b_Q0J_t3,b_Q0J_t4,b_Q0J_t5,show decide ((0:Int)=1)=false from rfl,show decide ((0:Int)=2)=false from rfl,show decide ((0:Int)=3)=false from rfl]
 ·refine fin (z:=.no) hRb (t2.trans ?_)
  have hc2:c_Q0J_2 [some (L s),some (.int k0),some (.int m),some (.int n),some (L (a.map λ x=>x-a.getD 0 0)),some (L b),some (.int 1),none]=.ok (L (b.map λ x=>x-b.getD 0 0)) true:=by
   unfold c_Q0J_2;refine aJ (f:=false) rfl (by have:=hb.len;omega) λ x hx=>?_
   simp! only[Dv.ixD,dJ hb.ne]
  simp! only[b_Q0J_t3,b_Q0J_t4,b_Q0J_t5,show decide ((1:Int)=1)=true from rfl,show decide ((1:Int)=2)=false from rfl,show decide ((1:Int)=3)=false from rfl,hc2]
 ·have hq:=bj (n:=12) (a:=aD s (k0+8)/4) (by decide)
  have hR0:Ri [0]:=⟨by simp,⟨[],rfl⟩,by simp⟩;obtain⟨ys,z',e1,hy⟩:=eV (s:=s) hk0 hsl (.sh (.int m)) (.sh (.int n)) (.sh (L b)) (.sh (.int 2)) .no (upto (aD s (k0+8)/4%12).toNat) [0] .no hR0 (λ k hk=>by have:=mem_upto.mp hk;omega) (by rw[bR];simp;omega);refine fin (z:=z') hy (t2.trans ?_);simp only[L,wm,wK] at e1;simp! only[b_Q0J_t3,b_Q0J_t4,b_Q0J_t5,show decide ((2:Int)=1)=false from rfl,show decide ((2:Int)=2)=true from rfl,show decide ((2:Int)=3)=false from rfl,hcell,be (i:=aD s (k0+8)) (j:=4) (by decide) (by decide),av (i:=aD s (k0+8)/4) (j:=12) (by decide),qf hq.1 ⋯,bB,e1]
 ·have hq:=bj (n:=3) (a:=aD s (k0+9)) (by decide)
  refine fin (z:=.no) (far hR hq.1) (t2.trans ?_);have hc3:c_Q0J_3 [some (L s),some (.int k0),some (.int m),some (.int n),some (L (a.map λ x=>x-a.getD 0 0)),some (L b),some (.int 3),none]=.ok (L ((a.map λ x=>x-a.getD 0 0).map λ x=>x+aD s (k0+9)%3*(if decide (0<x)=true then 1 else 0))) true:=by
   unfold c_Q0J_3;refine aJ (f:=false) rfl (by rw[wj];have:=ha.len;omega) λ x hx=>?_
   simp! only[aX (s:=s) (k:=k0+9) ⋯ ⋯,av (i:=aD s (k0+9)) (j:=3) (by decide),bA (cu (i:=aD s (k0+9)%3) (j:=if decide (0<x)=true then 1 else 0) ⋯ ⋯)]
  simp! only[b_Q0J_t3,b_Q0J_t4,b_Q0J_t5,show decide ((3:Int)=1)=false from rfl,show decide ((3:Int)=2)=false from rfl,show decide ((3:Int)=3)=true from rfl,hc3]
structure Cas (b:List Int)(W:Int):Prop where
 lb:LB b
 w0:0<=W
 w1:W<2 ^ (b.getLast lb.ne).toNat
theorem qz {n:Int}{xs:List Int}(h:Beat n xs)(hn:n<=60)(hl:xs.length<=12):LB (xs.map λ x=>x-xs.getD 0 0):=by
 have r:=sJ h hn;refine⟨r.up,r.hd,λ x hx=>?_,by rw[wj];exact hl⟩;have h0:=r.nn x hx;obtain⟨y,hy,rfl⟩:=List.mem_map.mp hx;have h1:=h.rg y hy;have h2:=h.rg (xs.getD 0 0) (getD_mem (by have:=List.length_pos_iff.mpr h.ne;omega));omega
theorem mq {s:List Int}(hs:(s.length:Int)=32):∃ b W f,F_Q07 [L s]=.ok (.lst [L b,.int W]) f/\Cas b W:=by
 obtain⟨b,eb,hb⟩:=eN (s:=s) (k0:=1) (m:=14) (by decide) (by decide) ⋯ (by decide) (by decide);have hb60:=hb.rg _ (xZ hb.ne);have hsh:=il (i:=1) (j:=b.getLast hb.ne) hb60.1 ⋯ (by decide);rw[yK] at hsh;have hpos:(0:Int)<2 ^ (b.getLast hb.ne).toNat:=zt (by decide);have hmod:=av (i:=aD s 30) (j:=2 ^ (b.getLast hb.ne).toNat) hpos;have c0:=aX (s:=s) (k:=0) (by decide) ⋯;have c30:=aX (s:=s) (k:=30) (by decide) ⋯;have c31:=aX (s:=s) (k:=31) (by decide) ⋯;have m4:=av (i:=aD s 0) (j:=4) (by decide);have m2:=av (i:=aD s 0) (j:=2) (by decide);have hw:=bj (n:=2 ^ (b.getLast hb.ne).toNat) (a:=aD s 30) hpos;generalize aD s 30%2 ^ (b.getLast hb.ne).toNat=W at hmod hw;have cas:Cas b W:=⟨hb,hw.1,hw.2⟩;have start:∀ r,b_Q07_t2 [.sh (L s),.ow (L b),.sh (.int W),.no,.no,.no]=r->b_Q07 [.sh (L s),.no,.no,.no,.no,.no]=r:=λ r h=>by
  rw[<- h];simp! only[b_Q07,b_Q07_t1,Dv.ixD,eb,c30,dN hb.ne,hsh,hmod]
 have done:∀ {b' W' f},b_Q07_t2 [.sh (L s),.ow (L b),.sh (.int W),.no,.no,.no]=.ret (.lst [L b',.int W']) f->F_Q07 [L s]=.ok (.lst [L b',.int W']) f:=λ h=>by
  have:=start _ h;simp only[F_Q07,Dv.fn,wm,wK,wA,xN,List.replicate,xT,xA,Nat.reduceAdd,Nat.reduceSub,this]
 by_cases k1:aD s 0%4=1
 ·refine⟨b,0,false,done ?_,hb,by decide,hpos⟩
  simp! only[b_Q07_t2,c0,m4,decide_eq_true k1,L,Dv.flatL]
 by_cases k2:aD s 0%2=1
 ·refine⟨b,W,false,done ?_,cas⟩
  simp! only[b_Q07_t2,b_Q07_t3,c0,m4,decide_eq_false k1,m2,decide_eq_true k2,L,Dv.flatL]
 obtain⟨n,a,o,f,ep,hf,hn⟩:=jR (s:=s) (k0:=1) (by decide) (by decide) ⋯;have go:∀ a o:List Int,Fill n a o->a.length<=12->∃ b' W' f,b_Q07_t6 [.sh (L s),.ow (L b),.sh (.int W),.sh (.int n),.sh (L a),.sh (L o)]=.ret (.lst [L b',.int W']) f/\Cas b' W':=λ a o hf hl=>by
  have hA:=hf.one;have hB:=hf.oth;have hnp:0<n:=by have:=hA.pos;omega
  have hla:=hA.len;have hlb:=hB.len;have hc:c_Q07_1 [some (L s),some (L b),some (.int W),some (.int n),some (L a),some (L o)]=.ok (L (a.map λ x=>x-a.getD 0 0)) true:=by
   unfold c_Q07_1;refine aJ (f:=false) rfl ⋯ λ x hx=>?_
   simp! only[Dv.ixD,dJ hA.ne]
  have lb:=qz hA hn hl;have ht:=eB (by_:=aD s 31%n) (xs:=o) hnp ⋯;generalize Dv.isort (o.map λ x=>(x+aD s 31%n)%n)=T at ht;obtain⟨x,ex,x0,xb⟩:=ll lb hnp T;have hl2:¬ ((12:Int)<((a.map λ x=>x-a.getD 0 0).length:Int)):=by rw[wj];omega
  refine⟨_,x,false,?_,lb,x0,rS x0 λ k hk=>?_⟩
  ·simp only[L] at hc ex ht
   simp! only[b_Q07_t6,b_Q07_t7,b_Q07_t8,Dv.lenD,L,hc,decide_eq_false (show ¬ ((12:Int)<(a.length:Int)) by omega),c31,av hnp,ht,ex,Dv.flatL]
  ·cases q:bt x k with
   | false=>rfl
   | true=>
    obtain⟨p,hp,h1,_⟩:=(xb k).mp q;have:=lb.le_last p hp;omega
 by_cases c:(12:Int)<(a.length:Int)
 ·have hlen:=hf.len
  have hb12:o.length<=12:=by
   rcases yB 12 o.length with q|q
   ·have:13*13<=a.length*o.length:=zw ⋯ ⋯
    omega
   ·exact q
  obtain⟨b',W',f',e2,h2⟩:=go o a hf.swap hb12;refine⟨b',W',f',done ?_,h2⟩;rw[<- e2];simp! only[b_Q07_t2,b_Q07_t3,b_Q07_t4,b_Q07_t5,Dv.lenD,c0,m4,decide_eq_false k1,m2,decide_eq_false k2,ep,decide_eq_true c]
 ·obtain⟨b',W',f',e2,h2⟩:=go a o hf ⋯
  refine⟨b',W',f',done ?_,h2⟩;rw[<- e2];simp! only[b_Q07_t2,b_Q07_t3,b_Q07_t4,b_Q07_t5,Dv.lenD,c0,m4,decide_eq_false k1,m2,decide_eq_false k2,ep,decide_eq_false c]
section
variable {b:List Int}{w m:Nat}{X:Nat->Int}{c:Nat->Bool}
theorem n0 (n:Nat):Dv.upL 0 n=upto n:=by
 have:∀ (n lo:Nat),Dv.upL (lo:Int) n=(List.range' lo n).map λ (i:Nat)=>(i:Int):=by
  intro n
  induction n with
  | zero=>intro lo;rfl
  | succ n ih=>
   intro lo;rw[Dv.upL,List.range'_succ,wm];congr 1;rw[show (lo:Int)+1=((lo+1:Nat):Int) by omega];exact ih (lo+1)
 have h:=this n 0;rw[show ((0:Nat):Int)=0 from rfl] at h;rw[h];unfold upto;rw[List.range_eq_range']
theorem fL {xs:List Int}(h:xs.length<=100000)(f:Bool):Dv.sortedSD (L xs) f=.ok (L (Dv.isort xs)) true:=by
 unfold Dv.sortedSD;simp only[L,gc];rw[if_pos h]
theorem f9 (hb:b.length<=12)(hm:0<(m:Int))(W S:D):∀ (ss acc:List Int) (z:Sl),acc.length+ss.length*12<=100000->∃ z',forGo 5 b_Q0A_l1 (ss.map .int) [.sh (L b),.sh W,.sh (.int m),.sh S,.ow (L acc),z] =
  .nx [.sh (L b),.sh W,.sh (.int m),.sh S,.ow (L (acc++rests m b ss)),z']
 | [],acc,z,_=>⟨z,by simp[forGo,rests]⟩
 | s::r,acc,z,hl=>by
  rw[wA] at hl;have hc:c_Q0A_1 [some (L b),some W,some (.int m),some S,some (L acc),some (.int s)]=.ok (L (b.map λ p=>(s+p)%(m:Int))) true:=by
   unfold c_Q0A_1;refine aJ (f:=false) rfl ⋯ λ x hx=>?_
   simp! only[av hm]
  have hcat:=gj (a:=acc) (b:=b.map λ p=>(s+p)%(m:Int)) (by rw[wj];omega);obtain⟨z',e⟩:=f9 hb hm W S r (acc++b.map λ p=>(s+p)%(m:Int)) (.sh (.int s)) (by rw[wB,wj];omega);refine⟨z',?_⟩;rw[wm,aN (st':=[.sh (L b),.sh W,.sh (.int m),.sh S,.ow (L (acc++b.map λ p=>(s+p)%(m:Int))),.sh (.int s)]),e]
  ·rw[show rests m b (s::r)=(b.map λ p=>(s+p)%(m:Int))++rests m b r by unfold rests;rw[zJ],wR]
  ·simp! only[b_Q0A_l1,hc,hcat]
theorem Ran.ne (r:Ran b w m X c):begs m c≠[]:=λ z=>by
 obtain⟨p,_,h⟩:=r.ex 0;rw[z] at h;cases h
theorem Ran.comes (r:Ran b w m X c)(hm:m<=2000):F_Q0A [L b,.int (X 0),.int m,L (begs m c)]=.ok (.bl true) true:=by
 have m1:=r.m1;have hne:=r.ne;have hset:=nS m c hm;have hbi:=kD (begs m c) (begs m c);rw[decide_eq_true rfl] at hbi;have hl:=cR m c;have h0:0<=(begs m c).getD 0 0/\(begs m c).getD 0 0<(m:Int)/\_:=mem_begs.mp (getD_mem (by have:=List.length_pos_iff.mpr hne;omega));have h9:=mem_begs.mp (xZ hne);obtain⟨z,e⟩:=f9 r.lb.ln (m:=m) ⋯ (.int (X 0)) (L (begs m c)) (begs m c) [] .no (by simp;omega);rw[xA] at e;have hs:=fL (xs:=rests m b (begs m c)) (by rw[r.rests_len];omega);rw[r.rests_all] at hs;have hlr:=iq (n:=(m:Int)) ⋯ ⋯;rw[wL,n0] at hlr;have hq:=iO (upto m) (upto m);rw[decide_eq_true rfl] at hq;have hn:=tj (begs m c);rw[show decide (begs m c=[])=false from decide_eq_false hne] at hn;have hlf:=r.left;have e0:(List.map D.int ([]:List Int))=[]:=rfl;simp only[L,e0] at e hn;simp! only[F_Q0A,b_Q0A,b_Q0A_t4,b_Q0A_t3,b_Q0A_t2,b_Q0A_t1,Dv.ixD,dC,decide_eq_false (show ¬ ((m:Int)<1) by omega),decide_eq_false (show ¬ ((2000:Int)<(m:Int)) by omega),hset,hbi,hn,dJ hne,dN hne,decide_eq_false (show ¬ ((begs m c).getD 0 0<0) by omega),decide_eq_false (show ¬ ((m:Int)<=(begs m c).getLast hne) by omega),e,hs,hlr,hq,hlf,L]
theorem kg {m s z y:Int}(h:(s+y)%m=(z+y)%m):s%m=z%m:=by
 have h2:=iu h
 rwa [show s+y-y=s by omega] at h2
theorem Ran.no_turn (r:Ran b w m X c){t:Nat}(h0:0<t)(h1:t<m):Dv.isort ((begs m c).map λ s=>(s+(t:Int))%(m:Int))≠begs m c:=λ e=>by
 refine r.least h0 h1 λ z=>⟨λ h=>?_,λ h=>?_⟩
 ·rw[<- e] at h
  obtain⟨s,hs,e2⟩:=List.mem_map.mp ((ao _).mem_iff.mp h);have:=kg e2;rw[dQ hs] at this;rw[<- this];exact hs
 ·rw[<- e]
  refine(ao _).mem_iff.mpr (List.mem_map.mpr ⟨_,h,?_⟩);rw[yW]
theorem gf (r:Ran b w m X c)(hm:m<=2000):∀ (k t:Nat) (z:Sl),0<t->t+k<=m->∃ z',forGo 2 b_Q0G_l1 (Dv.rangeL (t:Int) k) [.sh (.int m),.sh (L (begs m c)),z]=.nx [.sh (.int m),.sh (L (begs m c)),z']
 | 0,t,z,_,_=>⟨z,rfl⟩
 | k+1,t,z,h0,h1=>by
  obtain⟨z',e⟩:=gf r hm k (t+1) (.sh (.int t)) ⋯ ⋯;refine⟨z',?_⟩;have hl:=cR m c;have hc:c_Q0G_1 [some (.int m),some (L (begs m c)),some (.int t)]=.ok (L ((begs m c).map λ s=>(s+(t:Int))%(m:Int))) true:=by
   unfold c_Q0G_1;refine aJ (f:=false) rfl ⋯ λ x hx=>?_
   simp! only[av (show (0:Int)<(m:Int) by omega)]
  have hs:=fL (xs:=(begs m c).map λ s=>(s+(t:Int))%(m:Int)) (by rw[wj];omega);have hq:=iO (Dv.isort ((begs m c).map λ s=>(s+(t:Int))%(m:Int))) (begs m c);rw[decide_eq_false (r.no_turn h0 ⋯)] at hq;unfold Dv.rangeL;rw[aN (st':=[.sh (.int m),.sh (L (begs m c)),.sh (.int t)]),show (t:Int)+1=((t+1:Nat):Int) by omega,e];simp only[wN,wM];by_cases c1:(m:Int)%(t:Int)=0
  ·simp! only[b_Q0G_l1,av (i:=(m:Int)) (j:=(t:Int)) ⋯,decide_eq_true c1,hc,hs,hq]
  ·simp! only[b_Q0G_l1,av (i:=(m:Int)) (j:=(t:Int)) ⋯,decide_eq_false c1]
theorem Ran.least_ok (r:Ran b w m X c)(hm:m<=2000):F_Q0G [.int m,L (begs m c)]=.ok (.bl true) true:=by
 have m1:=r.m1;obtain⟨z,e⟩:=gf r hm (m-1) 1 .no ⋯ ⋯;have h1:((m:Int)-1).toNat=m-1:=⋯
 have hr1:rngOk 1=true:=by decide
 have hr2:rngOk (m:Int)=true:=by unfold rngOk;simp;omega
 rw[show ((1:Nat):Int)=1 from rfl] at e;simp! only[F_Q0G,b_Q0G,b_Q0G_t1,hr1,hr2,h1,e]
theorem Ran.good (r:Ran b w m X c)(hm:m<=2000):F_Q0D [.tup [.str agD,.int m,L (begs m c)],L b,.int (X 0)]=.ok (.bl true) true:=by
 have h1:=r.comes hm;have h2:=r.least_ok hm;have h0:decide (Dv.clipS agD=Dv.clipS [97,103,97,105,110])=true:=by decide
 have h3:Dv.ninTD (.int 3) (.tup [.int 2,.int 3])=.ok (.bl false) true:=by rfl
 simp! only[F_Q0D,b_Q0D,b_Q0D_t3,b_Q0D_t2,b_Q0D_t1,Dv.lenD,Dv.ixD,h3,vf,vq,uL,h0,h1,h2,show ((3:Nat):Int)=3 from rfl,show decide ((3:Int)=2)=false from rfl]
theorem kH {W:Int}{p:Nat}(e:F_Q0E [L b,.int W,.int 2000]=.ok (.int p) true):F_Q0D [.tup [.str stD,.int p],L b,.int W]=.ok (.bl true) true:=by
 have h3:Dv.ninTD (.int 2) (.tup [.int 2,.int 3])=.ok (.bl false) true:=by rfl
 have h4:decide (Dv.clipS stD=Dv.clipS [115,116,117,99,107])=true:=by decide
 simp! only[F_Q0D,b_Q0D,b_Q0D_t3,b_Q0D_t2,b_Q0D_t1,Dv.lenD,Dv.ixD,h3,jy,jV,h4,e,dC,show ((2:Nat):Int)=2 from rfl,show decide ((2:Int)=2)=true from rfl]
end
theorem vC (z:List Nat)(p:Int):cmD .eq (.lst [.str z,.int p]) (.lst [.str z,.int p])=.ok (.bl true) true:=by
 simp[Dv.cmD_eq,Dv.cmD_ne,Dv.cmD_lt,Dv.cmD_le,Dv.cmD_gt,Dv.cmD_ge,Dv.cmD_in,Dv.cmD_ni,Dv.cmD_it,Dv.cmD_nt,Dv.depthD,Dv.depthL,Dv.eqD,Dv.eqDL,Dv.optB]
theorem vT (z:List Nat)(p:Int)(S:List Int):cmD .eq (.lst [.str z,.int p,L S]) (.lst [.str z,.int p,L S])=.ok (.bl true) true:=by
 have h1:=ot S;have h2:Dv.eqDL (S.map D.int) (S.map D.int)=some true:=by
  have:=sI S S;rw[decide_eq_true rfl] at this;exact this
 simp[Dv.cmD_eq,Dv.cmD_ne,Dv.cmD_lt,Dv.cmD_le,Dv.cmD_gt,Dv.cmD_ge,Dv.cmD_in,Dv.cmD_ni,Dv.cmD_it,Dv.cmD_nt,Dv.depthD,Dv.depthL,Dv.eqD,Dv.eqDL,Dv.optB,L,h1,h2]
theorem law52_ok {s:List Int}(hs:s.length<=63):F_Q0F [L s]=.ok (.bl true) true:=by
 obtain⟨ds,ed,hdl,hdg⟩:=pO (s:=s) hs (m:=32) ⋯ ⋯;obtain⟨b,W,f,ec,cas⟩:=mq hdl;have h:=cas.lb;have hb60:=h.rg _ (xZ h.ne);have hw:(((b.getLast h.ne).toNat:Nat):Int)=b.getLast h.ne:=⋯
 have en:=qJ h hw cas.w0 cas.w1;generalize (b.getLast h.ne).toNat=w at en;have k46:(decide ((4:Nat)≠6)&&decide ((6:Nat)<7))=true:=rfl;have hdb:∀ f,Dv.listD (L b) f=.ok (L b) true:=λ f=>by simp only[Dv.listD,L,di,zd]
 have hne:=oz b b;rw[decide_eq_true rfl] at hne;cases en with
 | again m r hm e1 e2=>
  have hg:=r.good hm;rw[show xs b W 0=W from rfl] at hg;have hmx:(begs m (cs b W)).length<Dv.mx:=by have:=cR m (cs b W);unfold Dv.mx;omega
  have hfl:Dv.flatL ((begs m (cs b W)).map D.int)=true:=di _;have heq:cmD .eq (.lst [.str agD,.int m,L (begs m (cs b W))]) (.lst [.str agD,.int m,L (begs m (cs b W))])=.ok (.bl true) true:=vT agD m (begs m (cs b W));simp only[L] at ed ec e1 hg hdb hne heq;simp! only[F_Q0F,b_Q0F,b_Q0F_t8,b_Q0F_t7,b_Q0F_t6,b_Q0F_t5,b_Q0F_t4,b_Q0F_t3,b_Q0F_t2,b_Q0F_t1,Dv.listD,L,ed,ec,hdb,sTry,e1,hg,hne,sHeld,decide_eq_true hmx,hfl,heq,show decide ((4:Nat)≠6)=true from rfl,show decide ((6:Nat)<7)=true from rfl]
 | stuck p hp e1 e2=>
  have hg:=kH e2;have heq:cmD .eq (.lst [.str stD,.int p]) (.lst [.str stD,.int p])=.ok (.bl true) true:=vC stD p;simp only[L] at ed ec e1 hg hdb hne heq;simp! only[F_Q0F,b_Q0F,b_Q0F_t8,b_Q0F_t7,b_Q0F_t6,b_Q0F_t5,b_Q0F_t4,b_Q0F_t3,b_Q0F_t2,b_Q0F_t1,Dv.listD,L,ed,ec,hdb,sTry,e1,hg,hne,sHeld,heq,Dv.flatL,k46]
 | more e1 e2=>
  simp only[L] at ed ec e1 e2 hdb hne;simp! only[F_Q0F,b_Q0F,b_Q0F_t8,b_Q0F_t7,b_Q0F_t6,b_Q0F_t5,b_Q0F_t4,b_Q0F_t3,b_Q0F_t2,b_Q0F_t1,Dv.listD,L,ed,ec,hdb,sTry,e1,e2,Dv.isNonD,show (["WheelError","NoBeat","NoWindow","TooMany"].contains "TooMany"&&Dv.subX "TooMany" "TooMany")=true from rfl,Dv.noX]
end Cw
noncomputable def PySem.W.Fast.tw12770644227400854386:PySem.Program:=PySem.Challenge.pw_canonwheel_k52_whole_runs
theorem PySem.W.Fast.te12770644227400854386:PySem.Challenge.pw_canonwheel_k52_whole_runs=PySem.W.Fast.tw12770644227400854386:=rfl
namespace PySem.W.Fast
def tw965450709558256332:=()
def tw8480557418308023360:=()
def tw6907858716625957041:=()
def tw11166644562402644411:=()
def tw4589510395524792436:=()
def tw11261237898427220198:=()
def tw6935151509896734000:=()
def tw12994492045103997137:=()
def tw9210173642278537167:=()
def tw1165429523080158690:=()
def tw7368841834421306837:=()
def tw15989358694449594038:=()
def tw4239523756930656063:=()
def tw14033465520150866391:=()
def tw15180559597748674844:=()
def tw8495130796656823321:=()
def tw17471719175453670297:=()
def tw17176875540527822496:=()
def tw11852082385710833619:=()
def tw2007162754744285423:=()
def tw15719731558986304577:=()
def tw12988726133481289317:=()
def tw9838754458431324706:=()
def tw14082982794118817242:=()
def tw1595231507734727233:=()
def tw17340291026841604008:=()
def tw13866672467365424135:=()
def tw5858698055187356798:=()
def tw15230001367139475584:=()
def tw5564271397686922809:=()
def tw10983788958312396931:=()
def tw9717741336864164191:=()
def tw11028622951799769083:=()
def tw14927479074109373852:=()
def tw3337060564776890480:=()
def tw10012180070230811266:=()
def tw13460838970156738813:=()
def tw7987088232480350742:=()
def tw4584575930736437880:=()
def tw3842689840575022518:=()
def tw14462559229146054763:=()
def tw7259148439349533897:=()
def tw7325322328637764194:=()
def tw13524500730984900941:=()
def tw4481670009749949339:=()
def tw561462361841913181:=()
def tw18378179898325325456:=()
def tw5819381995906452985:=()
def tw15076111608106836283:=()
def tw9743680563182831399:=()
def tw17173516306610767162:=()
def tw5630564703549773735:=()
def tw7775816256075827624:=()
def tw8643142175311837753:=()
def tw8117942881913631415:=()
def tw9153451114758836348:=()
def tw3840000433018643731:=()
def tw18080195865356892747:=()
def tw14745789826092679717:=()
def tw6441510699980475769:=()
def tw2182673118337432953:=()
def tw15260892679467451640:=()
def tw14706163027630304860:=()
def tw11840152649566813668:=()
def tw6081080302398709738:=()
def tw9385125914374550205:=()
def tw17839881543192484688:=()
def tw17545942390248425575:=()
def tw12458025686010836519:=()
def tw10396733048720781015:=()
def tw7999296210977616613:=()
def tw4367709360023151701:=()
def tw11213686610261547625:=()
def tw493003602657731345:=()
def tw13359861826168687760:=()
def tw4667538524230213628:=()
def tw2710744878787578231:=()
def tw13412379046618351549:=()
def tw14202876627764636868:=()
def tw6157950478510718733:=()
def tw7278274187679474222:=()
def tw3742189437357913032:=()
def tw11393516081341458689:=()
def tw16300244920429982620:=()
def tw1570854710866834938:=()
def tw4238644078225215753:=()
def tw14362217494592999582:=()
def tw17992314918235002148:=()
def tw12721255005704169490:=()
def tw15171512395658471931:=()
def tw15843760264554519700:=()
def tw7193112057989197766:=()
def tw8772471343289350883:=()
def tw4148326931414698814:=()
def tw4102514256307328852:=()
def tw11378412036706954829:=()
def tw16283936728131449512:=()
def tw4000239401270593634:=()
def tw14072323793322579735:=()
def tw3899534173302448717:=()
def tw9266162578830335902:=()
def tw12512767191044481459:=()
def tw12247092835925935497:=()
def tw2448234811741103539:=()
def tw8400852288265099248:=()
def tw54928527837185603:=()
def tw13674085162224990715:=()
def tw14995369019830094274:=()
def tw9371814940579436956:=()
def tw16855642911338188820:=()
def tw4977657357076824366:=()
def tw6091133984910964559:=()
def tw16700654332404486108:=()
def tw6003238452919180174:=()
def tw14467195052692090175:=()
def tw12364618227264145705:=()
def tw6352264034822906017:=()
def tw17669630894441645124:=()
def tw15835542038750310028:=()
def tw1616265258440129012:=()
def tw1905680688565694668:=()
def tw16919883739761709263:=()
def tw2204203879033519958:=()
def tw3389688419736436756:=()
def tw16140778107950041700:=()
def tw14072501376469603482:=()
def tw8832794515516508305:=()
def tw5760063969995698008:=()
def tw7696369569200352378:=()
def tw12593025916269392562:=()
def tw2795984909385602648:=()
def tw2768861463772885580:=()
def tw3713659495505641089:=()
def tw1461297946952596838:=()
def tw15143975243091813060:=()
def tw3364363995716978089:=()
def tw1956174455659376344:=()
def tw10539997494481146583:=()
def tw9870686556713304366:=()
def tw6557711388068388274:=()
def tw1886361912785131680:=()
def tw1320144947221986306:=()
def tw15781306274776934586:=()
def tw109300791031570164:=()
def tw7176298012176821356:=()
def tw11179804269014426695:=()
def tw5436702436245398951:=()
def tw15855319992450968409:=()
def tw527696119480605826:=()
def tw4382504901359173199:=()
def tw14470041820338302366:=()
def tw7855820285124543347:=()
def tw8574935106254024659:=()
def tw9454004544538410433:=()
def tw6983573034653805894:=()
def tw248519418925771084:=()
def tw1203564037571637915:=()
def tw13173898014095919502:=()
def tw6551541859373633133:=()
def tw16822717079648495985:=()
def tw17989819810528461712:=()
def tw17123292842423650530:=()
def tw17289545483567870316:=()
def tw10087657443177136384:=()
def tw5366668791301178391:=()
def tw16775073112351751162:=()
def tw595689886045654413:=()
def tw11577522902555685223:=()
def tw54529125750233823:=()
def tw11870933887003830994:=()
def tw16769044105346955559:=()
def tw7618823993121277075:=()
def tw8719320289702990869:=()
def tw549510244603909601:=()
def tw4559476138506426733:=()
def tw8254631556043696627:=()
def tw17747949487103804070:=()
def tw10201530545619170647:=()
def tw15578450848296498353:=()
def tw9880421244384530692:=()
def tw5976703522826977709:=()
def tw6918665138305317565:=()
def tw15637124114594746137:=()
def tw16896620202028501833:=()
end PySem.W.Fast
open PySem PySem.W PyProof.Rows
set_option maxRecDepth 100000 in
set_option maxHeartbeats 0 in
theorem PySem.Challenge.cw_canonwheel_k52_whole_runs_holds : PySem.Challenge.rw_canonwheel_k52_whole_runs.Holds := by
 w_on; o_law; k_head; (case hw => w_witness2)
 k_fill
 refine Sd.walkD (l := PySem.Challenge.rw_canonwheel_k52_whole_runs) (k := 6) (x := "_law_script") (CX := fun w => Sd.CXe PySem.Challenge.rw_canonwheel_k52_whole_runs.prog w) (Fl := Cw.F_Q0F) rfl rfl ⟨rfl,by decide,by decide⟩ (fun w h Y => PySem.W.kIn_of Y) (fun w => Sd.cxe_ok) ?F ?S
 case F =>
  intro w mg fa h KX G hmg
  refine' Lk52.all_mk KX G hmg ?Y0 ?Y1 ?Y2 ?Y3 ?Y4 ?Y5 ?Y6 ?Y7 ?Y8 ?Y9 ?Y10 ?Y11 ?Y12 ?Y13 ?Y14 ?Y15 ?Y16 ?Y17 ?Y18 ?Y19 ?Y20 ?Y21 ?Y22 ?Y23 ?Y24 ?Y25 ?Y26 ?Y27 ?Y28 ?Y29 ?Y30 ?Y31 ?Y32 ?Y33 ?Y34 ?Y35 ?Y36 ?Y37 ?Y38
  (case Y0|Y1|Y2|Y3|Y4|Y5|Y6|Y7|Y8|Y9|Y10|Y11|Y12|Y13|Y14|Y15|Y16|Y17|Y18|Y19=>exact ⟨_,_,_,_,_,_,_,_,_,_,by k_is,by k_is,by k_is,by k_is⟩)
  (case Y20|Y21|Y22|Y23|Y24|Y25|Y26|Y27|Y28|Y29|Y30|Y31|Y32|Y33|Y34|Y35|Y36|Y37=>show _ = _; k_is)
  (case Y38=>(constructor; (refine' Sd.hx_cons ?_ (Sd.hx_cons ?_ (Sd.hx_cons ?_ (Sd.hx_cons ?_ (Sd.fm_nil)))) <;> first | exact ⟨by k_is,by kit_is,by k_exc,⟨_,_,_,_,_,_,_,_,_,_,_,_,_,_,_,_,by k_is⟩,by k_is,by k_is,by k_is⟩ | skip); repeat' first | apply Sd.sxx_cons | apply Sd.sx_cons | exact Sd.fm_nil | exact Sd.sx_nil | kit_is))
 case S => exact fun ns hl _ => Cw.law52_ok hl
