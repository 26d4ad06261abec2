import PyProof.Rows.All
import Wide.All
import OpenK.AllK
import Wide.FinOn
import Lean
import PyProof.EqAt
import PyProof.EqKinds
import PyProof.TupleCall
import KE.BitLaws
import KE.KRevIter
import PyProof.P3In
import PySem.SetTable
import PyProof.TupleKey
import PyProof.SetRoads
import PyProof.IsRules
import PyProof.Rows.SetFrom
import KE.KDictSum
import PySem.Challenge.RW_canonwheel_k63_torus_partners
set_option Elab.async false
set_option linter.all false
set_option maxRecDepth 100000
set_option maxHeartbeats 4000000
set_option compiler.extract_closed false
set_option genSizeOf false
set_option genSizeOfSpec false
set_option bootstrap.genMatcherCode false
noncomputable section
local macro_rules|`(⋯)=>`(by omega)
theorem Zf {C:Prop}(h:False):C:=h.elim
open List renaming length_map → uR, map_cons → uS, getD_eq_getElem?_getD → uT, mem_cons_of_mem → uU, getElem?_eq_getElem → uV, getElem?_cons_zero → uW, length_cons → uX, mem_cons_self → uY, getElem?_cons_succ → uZ, size_toArray → u0, getElem?_set_ne → u6, length_nil → u7, map_nil → va, foldl_cons → vb, length_append → vd, set_cons_zero → ve, set_cons_succ → vf, nil_append → vg, cons_append → vj, mem_append_right → vk, map_map → vm, getElem?_set_self → vp, map_congr_left → vt, lookup_cons → vx, getElem?_append_left → vz, getElem?_map → vA, foldl_nil → vB, getElem_of_mem → vC, append_assoc → vD, getElem?_append_right → vE, length_take → vG, length_range → vH, length_set → vL, eq_nil_of_length_eq_zero → vM, getElem_mem → vN, flatMap_cons → vR, replicate_succ → vS, nodup_cons → vT, mem_of_find?_eq_some → vV, mem_append_left → vW, mem_of_getElem? → vX, getElem_map → v5, take_append_drop → v7, flatten_cons → v8, drop_eq_getElem_cons → wb, find?_cons → wd, take_of_length_le → wg, length_replicate → wj, getElem?_eq_none → wm, perm_ext_iff_of_nodup → wu, length_eraseIdx_of_lt → wx, filterMap_cons → wA, getElem?_range → wB, mem_append → wD, map_append → wF, getElem?_replicate → wH, range_succ_eq_map → wL, length_drop → wM, eraseIdx_eq_take_drop_succ → wN, append_nil → wR, mem_map → wY, mem_singleton → w4, any_cons → w8, ext_getElem? → w9, mem_cons → xb, pairwise_iff_getElem → xc, getElem_append_right → xg, pairwise_map → xh, getElem_append_left → xi, ext_getElem → xj, nodup_range → xl, of_mem_zip → xw, length_singleton → xB, countP_mono_left → xD, pairwise_flatMap → xG, length_flatMap → xO, find?_eq_none → xR, take_sublist → xV, foldl_append → xW, drop_length → xY, countP_cons → xZ, mem_toArray → x5, take_length → ya, mem_flatMap → yb, zip_append → ye, find?_some → yf, mem_filter → yg, drop_zero → yi, sum_cons → yo, map_id → yz
open Bool renaming false_eq_true → u4, and_eq_true → vi, false_ne_true → vq, and_true → vw, eq_iff_iff → vJ, not_true → vO, and_false → vP, and_self → vY, false_and → wq, not_false → wJ, beq_eq_decide_eq → xC, true_and → xP, or_true → xT, or_eq_true → yc, false_or → yk, or_false → yn
open Nat renaming le_refl → u5, ne_of_lt → u9, lt_of_lt_of_le → vo, le_trans → vF, lt_irrefl → vI, zero_le → vK, lt_succ_of_lt → vQ, lt_succ_self → vZ, le_succ_of_le → wo, le_of_lt → wG, mul_comm → wI, lt_trans → wW, zero_add → wX, mul_succ → wZ, lt_of_le_of_lt → w5, le_succ → w6, lt_trichotomy → xf, ne_of_gt → xo, add_comm → xp, lt_or_ge → xq, le_mul_of_pos_right → xu, min_le_left → xy, le_mul_of_pos_left → xA, log2_lt → xF, mul_pos → xH, mod_lt → xJ, add_sub_cancel' → xK, mul_le_mul_left → xM, add_le_add_left → xN, succ_add → xS, add_assoc → ym, mul_assoc → yq, succ_mul → yr, le_of_eq → yt, sub_self → yv, add_mul → yA
open Option renaming getD_some → vn, map_eq_some_iff → we, map_some → wU, getD_none → xX
open Int renaming mul_le_mul_of_nonneg_left → vy, toNat_of_nonneg → vU, le_refl → wc, mul_comm → wt, natCast_succ → wz, emod_eq_emod_iff_emod_sub_eq_zero → wC, toNat_natCast → wK, ediv_lt_of_lt_mul → wO, mul_le_mul_of_nonneg_right → wQ, natCast_mul → wV, natCast_zero → xn, dvd_of_emod_eq_zero → xr, add_zero → xt, add_mul_ediv_left → xE, le_of_lt_add_one → xI, emod_lt_of_pos → xQ, add_comm → xU, emod_nonneg → yd, natCast_add → yh, mul_nonneg → yj, add_assoc → yp, le_trans → yu, mul_one → yw, add_mul → yx, one_mul → yy
open PySem renaming wpAny_bind → yB, wpAny_pure → yD, wpAny_mono → yT, sizeLine_eq → yZ, wpAny_holding → y0, Env → za, wpAny_Call_Name_kw → zb, wpAny_call_entry → ze, wpAny_newObj_type → zl, wpAny_setState_of → zt, wpAny_typeNameOfWhole_valiter → zB, wpAny_passesOwn → zE, mem_of_lookup → zK, wpAny_callSpecial?_slot → zN, wpAny_rule → zW, wpAny_askSetting → z0, wpAny_ite_split → Ae, wpAny_dictEntries → Am, wpAny_pyNext_list_item → Ao, wpAny_newList → As, plainId_quiet → Av, wpAny_attempt → Aw, wpAny_isInstance → Az, wpAny_pyNext_list_end → AA, wpAny_isOneOf_valiter → AF, wpAny_execs_nil → AG, codeAny_mono → AJ, wpAny_specialOf → AL, codeAny_builtin → AM, lookup_relabel_local → AO, wpAny_setEntries_of → AR, isSubtype_type → AV, wpAny_fieldsOf → AW, wpAny_standAt → A3, wpAny_truthy_bool → A7, wpAny_pyIter_list → A8, wpAny_pyIter_slot → Bb, call_meets → Bd, call_meetsIn → Bf, wpAny_typeOf → Bl, wpAny_forIn_list → Bm, wpAny_dictEpoch → Bx, wpAny_updateSeq → By, call_list_range → BD, wpAny_eqIsQuiet_tuple → BH, builtinLookup_eq_fast → BJ, wpAny_setField → BK, tupleKind_room_in1 → BZ, putSet_of → Cd, wpAny_setField_rec → Cf, list_append → Ci, intItems_at → Cn, wpAny_of_eq → Cq, numAt_eq → Cu, boot_len → CF
open PySem.W renaming Frag → yC, nsIn → yX, mg_none_of → zd, fnOf → zf, kitOne → zv, kas_desc → zy, kas_descPart → zC, kia_one → zF, codeIn → zH, keepIn → zI, findIn → zR, kas_tail3 → zU, kas_sort → zY, hideAll_get → Ab, mg_of → Ax, kas_count → AC, kas_place → AD, nsOkIn → AU, excIn → A4, methodObj → A6, hideAll → Bu, cellsFrom_some → Bz, of_hideAll → BW, tail_of_in → B6, plainGet → Cr, tailIn → CG
open PySem.Heap renaming get?_push_of_some → yE, lt_size → yG, get?_push_size → yL, get?_update_other → yR, get?_update_self → zw, SameBut → zQ, size_push → zS, ExtBut → Co, size_update → Cv
open PyProof.Rows renaming wpS_bind → yF, wpS_pure → yH, callWith_type1 → yS, wpS_forRange → yY, wpS_mono → zo, listUpdate_at → Aa, boot_sorted → Ah, wpS_modify → Aj, seqEpoch_at → Aq, callWith_builtin1 → AH, wpS_lift → AX, assignInOrder_cons → AY, entry_list_sort → Bw, subscriptTail_builtinR → BA, slot_list_sort → BE, args_list_sort → BF, boot_range → BN, plain_sorted → B8, entry_sorted → B9, args_sorted1 → Cb, kind_sorted → Cp
open Array renaming length_toList → yI, getElem?_eq_getElem → yJ, size_extract → yM, size_push → yN, size_append → yO, getD → yU, getElem?_setIfInBounds_ne → yV, size_reverse → y4, getElem?_toList → zc, getElem?_setIfInBounds_self_of_lt → zg, getElem?_eq_none → zk, getElem_of_mem → z7, getElem?_map → Ai, mem_of_getElem? → AE, getElem_mem → Bc, size_setIfInBounds → Bi, getElem?_replicate → Bj, getElem?_push → BU, append_assoc → BX, forIn_toList → Cc, toList_map → Cz
open PySem.Value renaming none → yK, ref → yQ, type → zr, int → zA, isInt_shape → Al, str → CI, isStrOf → CJ
open PySem.Obj renaming mapSeq → yP, putSet → zZ, data_mapFields → Cg
open PySem.Calls renaming spliced_cons → yW, spliced_nil → zm, call_function_entry → Ad, callWith_builtin → Ap, evalArgs_plain → AI, Name_function_global → A2
open PySem.Str renaming ofString → y7
open PySem.PyData renaming canLay0 → zh, depth → zu, eqv → zX, eqvAll → Ar, depthAll → AK, canLayAll0 → A9
open PySem.F renaming slot_dict_valueiterator_next → zp, args_dict_valueiterator_next_1 → Ac, entry_dict_valueiterator_next → Af, plainAttrs_list → Ak, slot_dict_get → AB, slot_dict_values_iter → AQ, plain_extend_loop → Be, slot_list_append → Bg, type_list_append → Bh, slot_dict_values → Bn, args_dict_get_3 → Bq, plainAttrs_dict → Br, entry_dict_get → BB, slot_dict_len → BL, args_list_append_2 → BO, entry_list_append → BR, slot_list_append → BY
open PySem.NameKind renaming free → zq, cell → BQ
open False renaming elim → zx
open PySem.Builtin.List renaming listLengthHint → zD, listTooLong → zJ, listExtendWith → zV, listSameRef → Bo, listItems → BC
open Classical renaming byContradiction → zG, choose_spec → BG, choose → Cy
open PySem.Builtin.Range renaming rangeSize → zL, small → BV
open PyProof.Rows.F renaming plain_set_update_loop → zM, entry_set_update_loop → Bs
open True renaming intro → zO
open ForInStep renaming yield → zP
open PySem.Builtin.Dict_items renaming ownsTuple → zT, newIterator → CD, dictOf → CN
open PySem.W.WData renaming int → Ag, weightAll → Bv, weight → B7, list → CA
open Function renaming comp → Ay
open PySem.Around renaming under_plainId → AN
open PySem.Heap.SameBut renaming update → AS
open PySem.Paired renaming length → AZ, snoc → CS
open Prod.mk renaming injEq → A5
open PySem.PassesOwn renaming leaving → Ba
open Prod renaming ext → Bp
open PySem.Value.type renaming inj → BI
open PySem.Builtin.Dict renaming showsAll → BM
open PyProof.Rows.SortSt renaming mk' → BP
open PySem.Builtin.Int renaming intBits → BS
open PySem.pickOrder renaming go → Ce
open PySem.IsRange renaming new → Cj
open PySem.IsL renaming update → Ct
open StateT renaming run_pure → CB
open PySem.Builtin.Frozenset renaming updateFrom → CH, newClass → CM, sizeOf → CP, slot0 → CQ
open PySem.SetTable renaming fits → CK, fill → CL
open PySem.W.KasT renaming ret → CO
open PySem.Heap.IsSliceOf renaming new → CT
theorem ZB (h:True:=by first|exact .inl rfl|exact .inr rfl|assumption):True:=h
theorem ZC (h:True:=by decide):True:=h
theorem ZD (h:True:=by intro _;rfl):True:=h
theorem ZE (h:True:=by rfl):True:=h
theorem ZF (h:True:=by first|exact Or.inl rfl|exact Or.inr (Or.inl rfl)|exact Or.inr (Or.inr rfl)):True:=h
theorem ZG (h:True:=by intro _ _ z;cases z):True:=h
theorem ZH (h:True:=by intro _ _;rfl):True:=h
theorem ZI (h:True:=by with_unfolding_all rfl):True:=h
theorem ZJ (h:True:=by first|exact nobehind _ (by decide) (by decide)|rfl):True:=h
namespace L2
open PySem PySem.Spec PyProof.Rows
abbrev Key:=Sum Int Str
def gC:Key->Value->Bool
 | .inl k,v=>Value.isInt k v
 | .inr x,v=>CJ x v
def uA (w:World):Key->Int
 | .inl k=>hashInt k
 | .inr x=>hashStr w x
theorem aH:∀ {k:Key} {v:Value},gC k v=true->(∃ i t,k=Sum.inl i/\v=zA i t)\/(∃ x t,k=Sum.inr x/\v=CI x t)
 | .inl i,v,h=>by
  obtain⟨t,e⟩:=Al (k:=i) (v:=v) h;exact .inl ⟨i,t,rfl,e⟩
 | .inr x,v,h=>by
  obtain⟨t,e⟩:=Value.isStrOf_shape (x:=x) (v:=v) h;exact .inr ⟨x,t,rfl,e⟩
theorem mB (i:Int)(t:Tok):gC (.inl i) (.int i t)=true:=by simp[gC,Value.isInt]
theorem mf (x:Str)(t:Tok):gC (.inr x) (.str x t)=true:=by simp[gC,CJ]
theorem sx (a b:Int):decide ((Sum.inl a:Key)=Sum.inl b)=(a == b):=by
 by_cases e:a=b
 ·subst e;simp
 ·have h:¬ (Sum.inl a:Key)=Sum.inl b:=λ q=>e (Sum.inl.inj q)
  rw[decide_eq_false h];exact(beq_eq_false_iff_ne.mpr e).symm
theorem rO (a b:Str):decide ((Sum.inr a:Key)=Sum.inr b)=decide (a=b):=by
 by_cases e:a=b
 ·subst e;simp
 ·have h:¬ (Sum.inr a:Key)=Sum.inr b:=λ q=>e (Sum.inr.inj q)
  rw[decide_eq_false h,decide_eq_false e]
theorem sq (a:Int)(b:Str):decide ((Sum.inl a:Key)=Sum.inr b)=false:=decide_eq_false (λ q=>nomatch q)
theorem rC (a:Str)(b:Int):decide ((Sum.inr a:Key)=Sum.inl b)=false:=decide_eq_false (λ q=>nomatch q)
def aJ (prog:Program)(w:World):PySem.KeyKind prog w Key where
 is:=gC
 hash:=uA w
 inj:=λ v a b ha hb=>by
  rcases aH ha with ⟨i,t,rfl,rfl⟩|⟨x,t,rfl,rfl⟩
  ·rcases aH hb with ⟨j,u,rfl,e⟩|⟨y,u,rfl,e⟩
   ·injection e with e1 _;rw[e1]
   ·exact nomatch e
  ·rcases aH hb with ⟨j,u,rfl,e⟩|⟨y,u,rfl,e⟩
   ·exact nomatch e
   ·injection e with e1 _;rw[e1]
 byValue:=λ k v h=>by
  rcases aH h with ⟨i,t,rfl,rfl⟩|⟨x,t,rfl,rfl⟩ <;>rfl
 pyHash:=λ hv h=>by
  rcases aH hv with ⟨i,t,rfl,rfl⟩|⟨x,t,rfl,rfl⟩
  ·exact wpAny_pyHash_int h
  ·exact wpAny_pyHash_str h
 eqBool:=λ hu hv h=>by
  rcases aH hu with ⟨i,t,rfl,rfl⟩|⟨x,t,rfl,rfl⟩
  ·rcases aH hv with ⟨j,u,rfl,rfl⟩|⟨y,u,rfl,rfl⟩
   ·rw[sx] at h;exact wpAny_eqBool_int h
   ·rw[sq] at h;exact SeqAt.EqAt.int_str i t y u _ _ _ _ h
  ·rcases aH hv with ⟨j,u,rfl,rfl⟩|⟨y,u,rfl,rfl⟩
   ·rw[rC] at h;exact SeqAt.EqAt.str_int x t j u _ _ _ _ h
   ·rw[rO] at h;exact wpAny_eqBool_str h
 «strs»:=λ k x t v h=>by
  rcases aH h with ⟨i,u,rfl,e⟩|⟨y,u,rfl,e⟩
  ·exact nomatch e
  ·injection e with e1 _
   subst e1;cases v <;>rfl
theorem js (prog:Program)(w:World)(i:Int)(t:Tok):(aJ prog w).is (.inl i) (.int i t)=true:=mB i t
theorem jj (prog:Program)(w:World)(x:Str)(t:Tok):(aJ prog w).is (.inr x) (.str x t)=true:=mf x t
inductive V where
 | non|bl (b:Bool)|int (i:Int)|str (x:Str)|byt (b:Array UInt8)|flt (b:UInt64)|ref (a:Addr)|ty (n:String)
 deriving DecidableEq
def RelV:V->Value->Prop
 | .non,u=>u=yK
 | .bl b,u=>u=Value.bool b
 | .int i,u=>∃ t,u=zA i t
 | .str x,u=>∃ t,u=CI x t
 | .byt b,u=>∃ t,u=Value.bytes b t
 | .flt b,u=>∃ t,u=Value.float b t
 | .ref a,u=>u=yQ a
 | .ty n,u=>u=zr n
abbrev Vals:List V->List Value->Prop:=Paired RelV
theorem Vals.length {xs:List V}{us:List Value}(r:Vals xs us):xs.length=us.length:=AZ r
theorem Vals.get:∀ {xs:List V} {us:List Value} {i:Nat} {x:V},Vals xs us->xs[i]?=some x->∃ u,us[i]?=some u/\RelV x u
 | _,_,_,_,.nil,e=>by simp at e
 | _,_,0,_,.cons r _,e=>by simp at e;subst e;exact⟨_,rfl,r⟩
 | _,_,i+1,x,.cons _ t,e=>by
  obtain⟨u,h1,h2⟩:=Vals.get (i:=i) (x:=x) t (by simpa using e);exact⟨u,by simpa using h1,h2⟩
theorem Vals.append {xs ys:List V}{us ws:List Value}(q:Vals xs us)(s:Vals ys ws):Vals (xs++ys) (us++ws):=by
 induction q with
 | nil=>exact s
 | cons r t ih=>exact .cons r ih
theorem Vals.take:∀ {xs:List V} {us:List Value} (n:Nat),Vals xs us->Vals (xs.take n) (us.take n)
 | _,_,0,_=>.nil
 | _,_,_+1,.nil=>.nil
 | _,_,n+1,.cons r t=>.cons r (Vals.take n t)
theorem Vals.drop:∀ {xs:List V} {us:List Value} (n:Nat),Vals xs us->Vals (xs.drop n) (us.drop n)
 | _,_,0,r=>r
 | _,_,_+1,.nil=>.nil
 | _,_,n+1,.cons _ t=>Vals.drop n t
def RelO:Option V->Option Value->Prop
 | some v,some u=>RelV v u
 | none,none=>True
 | _,_=>False
def KV {κ:Type}:List (κ×V)->List (κ×Value)->Prop:=Paired λ (p:κ×V) (q:κ×Value)=>p.1=q.1/\RelV p.2 q.2
def kV:Key->V
 | .inl i=>.int i
 | .inr x=>.str x
inductive HO where
  | lst (xs:List V)
  | tup (xs:List V)
  | dK (kvs:List (Key×V))|dT (kvs:List (List Key×V))
  | set (S:Int->Bool) (n:Nat)
  | ins (C dx:Addr) (fs:List (Str×V))
  | own (x:Addr)
  | xd (fs:List (Str×V))
  | met (f x:Addr)
  | rng (lo hi:Int)
  | frz (o:Obj) (u:HO)
  | tbl (ps:Array Value)
  | ext (φ:Heap->Prop)
abbrev Hp:=Addr->Option HO
def upd (H:Hp)(a:Addr)(o:HO):Hp:=λ b=>if b=a then some o else H b
theorem av {H:Hp}{a:Addr}{o:HO}:upd H a o a=some o:=by unfold upd;rw[if_pos rfl]
theorem ao {H:Hp}{a b:Addr}{o:HO}(h:b≠a):upd H a o b=H b:=by unfold upd;rw[if_neg h]
theorem t4 {H:Hp}{a b:Addr}{o u:HO}(h:H a=some o)(h':H b=some u)(d:o≠u):a≠b:=by
 intro e;subst e;rw[h] at h';exact d (Option.some.inj h')
theorem ay {H:Hp}{a b:Addr}{o:HO}(h:H a=some o)(h':H b=none):a≠b:=by
 intro e;subst e;rw[h] at h';cases h'
section
variable (P:Program)(w:World)
def ObjOk (H:Hp)(h:Heap)(a:Addr):HO->Prop
 | .lst xs=>xs.length<=sizeLine/\∃ (its:List Value) (n:Nat),Vals xs its/\h.get? a=some { cls:=.type "list",data:=.seq its.toArray n }
 | .tup xs=>xs.length<=sizeLine/\∃ its:List Value,Vals xs its/\IsTup h a its.toArray
 | .dK kvs=>kvs.length<=sizeLine/\(a == sysModules)=false/\∃ vs,KV kvs vs/\h.DictOf (aJ P w) a vs
 | .dT kvs=>kvs.length<=sizeLine/\(a == sysModules)=false/\∃ xs:List (List Key×Addr×Value),
   Paired (λ (p:List Key×V) (q:List Key×Addr×Value)=>p.1=q.1/\H q.2.1=some (.tup (p.1.map kV))/\RelV p.2 q.2.2) kvs xs /\
   ∃ o es ep,h.get? a=some o/\o.ExactDict/\o.data=.dict es ep/\es.toList=xs.map (entryOfKey (tupleKind (aJ P w)))/\(xs.map (·.1)).Nodup
 | .set S n=>h.SetOf (intKind P w) a S n
 | .ins C dx fs=>H dx=some (.own a)/\fs.length<=1000/\dx≠a/\h.get? a=some (PySem.W.instObj C dx) /\
   ∃ mA,h.Ns1 dx mA/\(∀ f,RelO (fs.lookup f) (mA f))/\PySem.Within mA (fs.map (·.1))
 | .own _=>∃ o,h.get? a=some o
 | .xd fs=>∃ mA,h.Ns1 a mA/\∀ f,RelO (fs.lookup f) (mA f)
 | .rng lo hi=>∃ t u v,h.get? a=some { cls:=.type "range",data:=.fields #[.int lo t,.int hi u,.int 1 v] }
 | .frz o u=>h.get? a=some o/\ObjOk H h a u
 | .tbl ps=>h.get? a=some { cls:=.none,data:=.fields ps }
 | .met f x=>h.get? a=some (A6 (.ref f) (.ref x))
 | .ext φ=>φ h/\(∃ o,h.get? a=some o)/\∀ h1 h2:Heap,φ h1->(∀ o,h1.get? a=some o->h2.get? a=some o)->φ h2
def HOk (H:Hp)(h:Heap):Prop:=∀ a o,H a=some o->ObjOk P w H h a o
end
section
variable {P:Program}{w:World}{H H':Hp}{h h':Heap}{a:Addr}{o:HO}
theorem ObjOk.lt (x:ObjOk P w H h a o):a<h.objs.size:=by
 cases o with
 | lst xs=>obtain⟨_,_,_,_,e⟩:=x;exact yG e
 | tup xs=>obtain⟨_,_,_,p⟩:=x;exact p.lt
 | dK kvs=>obtain⟨_,_,_,_,o,_,_,e,_⟩:=x;exact yG e
 | dT kvs=>obtain⟨_,_,_,_,o,_,_,e,_⟩:=x;exact yG e
 | set S n=>obtain⟨o,_,_,_,e,_⟩:=x;exact yG e
 | ins C dx fs=>obtain⟨_,_,_,e,_⟩:=x;exact yG e
 | own y=>obtain⟨_,e⟩:=x;exact yG e
 | xd fs=>obtain⟨_,⟨_,_,_,e,_⟩,_⟩:=x;exact yG e
 | rng lo hi=>obtain⟨_,_,_,e⟩:=x;exact yG e
 | frz ob u=>obtain⟨e,_⟩:=x;exact yG e
 | tbl ps=>exact yG (show h.get? a=some _ from x)
 | met f y=>exact yG (show h.get? a=some _ from x)
 | ext φ=>obtain⟨_,⟨_,e⟩,_⟩:=x;exact yG e
theorem Paired.mapP {α β:Type}{F G:α->β->Prop}{l₁:List α}{l₂:List β}(q:Paired F l₁ l₂)(f:∀ a b,F a b->G a b):Paired G l₁ l₂:=by
 induction q with
 | nil=>exact .nil
 | cons r t ih=>exact .cons (f _ _ r) ih
theorem ObjOk.stay (x:ObjOk P w H h a o)(k:∀ b u,(b=a\/H b=some (.own a))->h.get? b=some u->h'.get? b=some u)
  (ho:∀ b,H b=some (.own a)->H' b=some (.own a)) (ht:∀ b xs,H b=some (.tup xs)->H' b=some (.tup xs)):ObjOk P w H' h' a o:=by
 induction o with
 | lst xs=>obtain⟨z,its,n,r,e⟩:=x;exact⟨z,its,n,r,k _ _ (.inl rfl) e⟩
 | tup xs=>obtain⟨z,its,r,ob,e,c⟩:=x;exact⟨z,its,r,ob,k _ _ (.inl rfl) e,c⟩
 | dK kvs=>obtain⟨z,y,vs,r,ob,es,ep,e,c⟩:=x;exact⟨z,y,vs,r,ob,es,ep,k _ _ (.inl rfl) e,c⟩
 | dT kvs=>
  obtain⟨z,y,xs,r,ob,es,ep,e,c⟩:=x;exact⟨z,y,xs,Paired.mapP r λ p q z=>⟨z.1,ht _ _ z.2.1,z.2.2⟩,ob,es,ep,k _ _ (.inl rfl) e,c⟩
 | set S n=>obtain⟨ob,es,ep,t,e,c⟩:=x;exact⟨ob,es,ep,t,k _ _ (.inl rfl) e,c⟩
 | ins C dx fs=>
  obtain⟨d,z,ne,e,mA,⟨od,es,ep,e2,c⟩,r⟩:=x;exact⟨ho _ d,z,ne,k _ _ (.inl rfl) e,mA,⟨od,es,ep,k _ _ (.inr d) e2,c⟩,r⟩
 | own y=>obtain⟨ob,e⟩:=x;exact⟨ob,k _ _ (.inl rfl) e⟩
 | xd fs=>obtain⟨mA,⟨od,es,ep,e,c⟩,r⟩:=x;exact⟨mA,⟨od,es,ep,k _ _ (.inl rfl) e,c⟩,r⟩
 | rng lo hi=>obtain⟨t,u,v,e⟩:=x;exact⟨t,u,v,k _ _ (.inl rfl) e⟩
 | frz ob u ih=>obtain⟨e,q⟩:=x;exact⟨k _ _ (.inl rfl) e,ih q⟩
 | tbl ps=>
  have e:h.get? a=some { cls:=.none,data:=.fields ps }:=x;show h'.get? a=some { cls:=.none,data:=.fields ps }
  exact k a _ (.inl rfl) e
 | met f y=>
  have e:h.get? a=some (A6 (.ref f) (.ref y)):=x;show h'.get? a=some (A6 (.ref f) (.ref y))
  exact k a _ (.inl rfl) e
 | ext φ=>obtain⟨p,⟨o,e⟩,st⟩:=x;exact⟨st _ _ p λ o q=>k _ _ (.inl rfl) q,⟨o,k _ _ (.inl rfl) e⟩,st⟩
theorem HOk.lt (x:HOk P w H h)(e:H a=some o):a<h.objs.size:=(x a o e).lt
theorem HOk.fresh (x:HOk P w H h)(e:h.objs.size<=a):H a=none:=by
 cases q:H a with
 | none=>rfl
 | some u=>exact absurd (vo (x.lt q) e) (vI _)
theorem HOk.kept (x:HOk P w H h)(k:∀ b u,h.get? b=some u->h'.get? b=some u):HOk P w H h':=λ a o e=>
 (x a o e).stay (λ b u _ q=>k b u q) (λ _ q=>q) λ _ _ q=>q
theorem HOk.laid (x:HOk P w H h)(k:∀ b u,h.get? b=some u->h'.get? b=some u)(hp:h.objs.size<=a)(new:ObjOk P w (upd H a o) h' a o):HOk P w (upd H a o) h':=λ b u e=>by
 have hn:=x.fresh hp;by_cases hb:b=a
 ·subst hb;rw[av] at e;cases e;exact new
 ·rw[ao hb] at e
  exact(x b u e).stay (λ c v _ q=>k c v q) (λ c q=>by rw[ao (ay q hn)];exact q) λ c xs q=>by rw[ao (ay q hn)];exact q
end
def Rd (H:Hp)(a:Addr)(u:HO):Prop:=H a=some u\/∃ o,H a=some (.frz o u)
theorem Rd.ok {P:Program}{w:World}{H:Hp}{h:Heap}{a:Addr}{u:HO}(r:Rd H a u)(x:HOk P w H h):ObjOk P w H h a u:=by
 rcases r with r|⟨o,r⟩
 ·exact x a u r
 ·obtain⟨_,q⟩:=x a _ r
  exact q
def Mut:Option HO->Prop
 | some (.lst _)=>True
 | some (.dK _)=>True
 | some (.dT _)=>True
 | some (.set _ _)=>True
 | some (.ins _ _ _)=>True
 | some (.ext _)=>True
 | _=>False
section
variable {P:Program}{w:World}{H:Hp}{h h':Heap}{x e:Addr}{o':HO}
theorem HOk.write (ok:HOk P w H h)(mu:Mut (H x))(he:e=x\/H e=some (.own x))(k:∀ b u,b≠e->h.get? b=some u->h'.get? b=some u)(heo:∃ u,h'.get? e=some u)
  (new:ObjOk P w (upd H x o') h' x o'):HOk P w (upd H x o') h':=λ b u q=>by
 have nown:∀ c y,H c=some (.own y)->c≠x:=λ c y r z=>by subst z;rw[r] at mu;exact mu
 have ntup:∀ c xs,H c=some (.tup xs)->c≠x:=λ c xs r z=>by subst z;rw[r] at mu;exact mu
 by_cases hb:b=x
 ·subst hb;rw[av] at q;cases q;exact new
 ·rw[ao hb] at q
  by_cases hbe:b=e
  ·have q':H b=some (.own x):=by
    rcases he with z|z
    ·exact absurd (hbe.trans z) hb
    ·rw[hbe];exact z
   rw[q] at q';cases q';obtain⟨v,hv⟩:=heo;exact⟨v,by rw[hbe];exact hv⟩
  ·refine(ok b u q).stay (λ c v hc r=>k c v ?_ r) (λ c r=>by rw[ao (nown c b r)];exact r) λ c xs r=>by rw[ao (ntup c xs r)];exact r
   rcases hc with rfl|hc
   ·exact hbe
   ·rintro rfl
    rcases he with z|z
    ·exact nown c b hc z
    ·rw[hc] at z;cases z;exact hb rfl
end
structure Un (fs ex:List Addr)(H H':Hp)(h h':Heap):Prop where
 keep:∀ b o,h.get? b=some o->H b=none->b∉fs->b∉ex->h'.get? b=some o
 slot:∀ b o,h.get? b=some o->H b=none->b∈fs->b∉ex->∃ sl,h'.get? b=some { o with slots:=sl }
 free:∀ b o,h.get? b=some o->H b=none->b∉ex->H' b=none
 there:∀ b o,h.get? b=some o->b∉ex->∃ o',h'.get? b=some o'
 tups:∀ b xs,H b=some (.tup xs)->H' b=some (.tup xs)
 frzs:∀ b o u,H b=some (.frz o u)->H' b=some (.frz o u)
 tbls:∀ b ps,H b=some (.tbl ps)->∃ more,H' b=some (.tbl (ps++more))
section
variable {fs fs' ex ex':List Addr}{H H1 H2:Hp}{h h1 h2 h':Heap}{a x e:Addr}{o:HO}
theorem Un.any (u:Un fs ex H H1 h h1){b:Addr}{ob:Obj}(q:h.get? b=some ob)(n:H b=none)(hx:b∉ex):∃ sl,h1.get? b=some { ob with slots:=sl }:=by
 by_cases hb:b∈fs
 ·exact u.slot b ob q n hb hx
 ·exact⟨ob.slots,u.keep b ob q n hb hx⟩
theorem Un.kept (k:∀ b u,h.get? b=some u->h'.get? b=some u):Un fs ex H H h h':=
 ⟨λ b ob q _ _ _=>k b ob q,λ b ob q _ _ _=>⟨ob.slots,k b ob q⟩,λ _ _ _ n _=>n,λ b ob q _=>⟨ob,k b ob q⟩,λ _ _ q=>q,λ _ _ _ q=>q,λ _ ps q=>⟨#[],by rw[q];simp⟩⟩
theorem Un.refl:Un fs ex H H h h:=Un.kept λ _ _ q=>q
theorem Un.laid (k:∀ b u,h.get? b=some u->h'.get? b=some u)(hp:h.objs.size<=a)(hn:H a=none):Un fs ex H (upd H a o) h h' where
 keep:=λ b u q _ _ _=>k b u q
 slot:=λ b u q _ _ _=>⟨u.slots,k b u q⟩
 free:=λ b u q n _=>by rw[ao (u9 (vo (yG q) hp))];exact n
 there:=λ b u q _=>⟨u,k b u q⟩
 tups:=λ b xs q=>by rw[ao (ay q hn)];exact q
 frzs:=λ b u xs q=>by rw[ao (ay q hn)];exact q
 tbls:=λ b ps q=>⟨#[],by rw[ao (ay q hn),q];simp⟩
theorem Un.write (mu:Mut (H x))(he:e=x\/H e=some (.own x))(k:∀ b u,b≠e->h.get? b=some u->h'.get? b=some u)(heo:∃ u,h'.get? e=some u):Un fs ex H (upd H x o) h h':=by
 have hx:∀ b,H b=none->b≠x:=λ b n z=>by subst z;rw[n] at mu;exact mu
 have hb:∀ b,H b=none->b≠e:=λ b n z=>by
  subst z
  rcases he with r|r
  ·exact hx b n r
  ·rw[n] at r;cases r
 have hm:∀ b u,H b=some u->¬ Mut (some u)->b≠x:=λ b u q nm z=>by subst z;rw[q] at mu;exact nm mu
 refine⟨λ b u q n _ _=>k b u (hb b n) q,λ b u q n _ _=>⟨u.slots,k b u (hb b n) q⟩,λ b u q n _=>by rw[ao (hx b n)];exact n,λ b u q _=>?_,
  λ b xs q=>by rw[ao (hm b _ q λ z=>z)];exact q,λ b u xs q=>by rw[ao (hm b _ q λ z=>z)];exact q,λ b ps q=>⟨#[],by rw[ao (hm b _ q λ z=>z),q];simp⟩⟩
 by_cases hbe:b=e
 ·subst hbe;exact heo
 ·exact⟨u,k b u hbe q⟩
end
def trk (h:Heap)(H:Hp):List Addr:=(List.range h.objs.size).filter λ a=>(H a).isSome
def iC (h:Heap)(H:Hp):Heap:=Bu h (trk h H)
theorem lY (h:Heap)(H:Hp):(iC h H).objs.size=h.objs.size:=PySem.W.hideAll_size _ _
theorem nC {h:Heap}{H:Hp}{b:Addr}{o:Obj}(e:h.get? b=some o)(n:H b=none):(iC h H).get? b=some o:=
 Ab _ e λ hm=>by
  have q:(H b).isSome=true:=(List.mem_filter.mp hm).2;rw[n] at q;simp at q
theorem qB {h:Heap}{H:Hp}{b:Addr}{o:Obj}(e:(iC h H).get? b=some o):h.get? b=some o/\H b=none:=by
 have e':h.get? b=some o:=BW (trk h H) e;refine⟨e',?_⟩;cases q:H b with
 | none=>rfl
 | some x=>
  have hm:b∈trk h H:=List.mem_filter.mpr ⟨List.mem_range.mpr (yG e'),by simp[q]⟩;have z:(iC h H).get? b=none:=PySem.W.hideAll_none (trk h H) hm;rw[z] at e;cases e
def qy (g h:Heap)(L:Addr):List (Addr×Obj):=(List.range h.objs.size).filterMap λ a=>if a=L\/(g.get? a).isSome=true then none else (h.get? a).map λ o=>(a,o)
def rest (g h:Heap)(L d:Addr):List (Addr×Obj):=(qy g h L).filter λ p=>decide (p.1≠d)
structure Mod (K:yC)(mg:Str->Option Value)(base:Heap):Prop where
 kin:K.In base
 glob:base.Ns mainGlobals mg
 blt:∃ mb,base.Ns builtinsNs mb/\∀ x:Str,x≠"__name__"->mb x=bootBuiltins x
 nolimit:base.NoLimit
/-- the context: a def's body (or a comprehension's block) running. base: fixed through the whole law;s₀,H₀: the entry;outer: the frames whose slots others may change (a def's callers);stack: all frames that run;
   ex: iterators that were made ahead of the entry and are walked here (a comprehension's);fn: the names whose cells were made at the entry (a def: all;a comprehension's block: its own);calm: not within an except suite;pn: pins that every state bears;xe: what is wanted of an exception that leaves the code -/
structure Cx where
 prog:Program
 w:World
 K:yC
 mg:Str->Option Value
 base:Heap
 A:Around
 N:List Str
 s₀:Shared
 H₀:Hp
 env:Env
 outer:List Env
 stack:List Env
 ex:List Addr
 fn:Str->Bool
 calm:Bool
 pn:List (Addr×Obj)
 xe:Value->Shared->Prop
def frs (l:List Env):List Addr:=l.filterMap (·.frame)
abbrev Cx.fs (X:Cx):List Addr:=frs X.outer
def Vis (sc:Scope)(x:Str):Prop:=sc.names.lookup x=some .local\/sc.names.lookup x=some .cell\/sc.names.lookup x=some .free
def Loc (sc:Scope)(x:Str):Prop:=sc.names.lookup x=some .local\/sc.names.lookup x=some .cell
def Look (env:Env)(h:Heap)(m:Str->Option Value)(x:Str)(u:Value):Prop:=
 (env.kindOf x=some .local/\m x=some u)\/((env.kindOf x=some .cell\/env.kindOf x=some .free)/\∃ c,env.cells.lookup x=some c/\h.IsCell c (some u))
structure Cx.Ok (X:Cx):Prop where
 mod:Mod X.K X.mg X.base
 kind:X.env.scope.kind=.function
 glob:X.env.globals=mainGlobals
 blt:X.env.builtins=builtinsNs
 above:X.s₀.heap.objs.size<=X.env.locals
 inj:∀ x y c,X.env.cells.lookup x=some c->X.env.cells.lookup y=some c->x=y
 has:∀ x,(X.env.kindOf x=some .cell\/X.env.kindOf x=some .free)->∃ c,X.env.cells.lookup x=some c
 cab:∀ x c,X.fn x=true->X.env.cells.lookup x=some c->X.s₀.heap.objs.size<=c
 hd:X.calm=true->X.A.handled=none
 frames:X.A.frames=some X.stack
 stk:X.stack=X.outer\/(X.stack=X.env::X.outer/\X.env.frame=some X.env.locals)
 exf:∀ b∈X.ex,b≠X.env.locals/\∀ x c,X.env.cells.lookup x=some c->c≠b
 bs:∀ b o,X.base.get? b=some o->X.s₀.heap.get? b=some o/\X.H₀ b=none
 bsz:X.base.objs.size<=X.s₀.heap.objs.size
 noex:∀ b o,X.base.get? b=some o->b∉X.ex
 exfs:∀ b∈X.ex,b∉X.fs
 funs:X.s₀.heap.FunFrames X.base X.outer
 frf:∀ b∈X.fs,X.H₀ b=none
structure Inv (X:Cx)(pins:List (Addr×Obj))(σ:List (Option V))(H:Hp)(s:Shared):Prop where
 ok:X.Ok
 os:s.os=X.s₀.os
 bare:AllBare s.gens
 base:Un X.fs X.ex X.H₀ H X.s₀.heap s.heap
 loc:∃ m,s.heap.Ns X.env.locals m/\∀ (i:Nat) (x:Str) (v:V),X.N[i]?=some x->σ[i]?=some (some v)->Vis X.env.scope x->∃ u,RelV v u/\Look X.env s.heap m x u
 cell:∀ x c,X.env.cells.lookup x=some c->∃ v,s.heap.IsCell c v
 free:H X.env.locals=none
 freeC:∀ x c,X.env.cells.lookup x=some c->H c=none
 pin:∀ p∈X.pn++pins,s.heap.get? p.1=some p.2/\H p.1=none/\p.1≠X.env.locals/\p.1∉X.fs/\∀ v,p.2.data≠.cell v
 hok:HOk X.prog X.w H s.heap
 len:σ.length=X.N.length
section
variable {X:Cx}{pins:List (Addr×Obj)}{σ:List (Option V)}{H H':Hp}{s:Shared}{h':Heap}
theorem Cx.Ok.nofr (ok:X.Ok){b:Addr}{o:Obj}(e:X.base.get? b=some o):b∉X.fs:=λ hb=>by
 have:=(ok.funs.mem hb).1;rw[e] at this;cases this
theorem Inv.bs (I:Inv X pins σ H s):∀ b o,X.base.get? b=some o->s.heap.get? b=some o/\H b=none:=λ b o e=>
 ⟨I.base.keep b o (I.ok.bs b o e).1 (I.ok.bs b o e).2 (I.ok.nofr e) (I.ok.noex b o e),I.base.free b o (I.ok.bs b o e).1 (I.ok.bs b o e).2 (I.ok.noex b o e)⟩
theorem Inv.bk (I:Inv X pins σ H s):∀ b o,X.base.get? b=some o->s.heap.get? b=some o:=λ b o e=>(I.bs b o e).1
theorem Inv.mod (I:Inv X pins σ H s):Mod X.K X.mg X.base:=I.ok.mod
theorem Inv.kIn (I:Inv X pins σ H s):X.K.In s.heap:=I.ok.mod.kin.keeps I.bk
theorem Inv.lt (I:Inv X pins σ H s):X.env.locals<s.heap.objs.size:=let ⟨_,hn,_⟩:=I.loc;hn.lt
theorem Inv.sz (I:Inv X pins σ H s):X.s₀.heap.objs.size<=s.heap.objs.size:=vF I.ok.above (wG I.lt)
theorem Inv.nofs (I:Inv X pins σ H s){a:Addr}(h:s.heap.objs.size<=a):a∉X.fs:=λ hb=>by
 obtain⟨_,o,ho,_⟩:=I.ok.funs.mem hb;exact absurd (vo (yG ho) (vF I.sz h)) (vI _)
theorem Inv.cne (I:Inv X pins σ H s):∀ x c,X.env.cells.lookup x=some c->c≠X.env.locals:=λ x c e z=>by
 obtain⟨v,o,ho,hd⟩:=I.cell x c e;obtain⟨m,⟨o',es,ep,ho',hd',_⟩,_⟩:=I.loc;rw[z,ho'] at ho;cases ho;rw[hd'] at hd;cases hd
theorem Inv.funs (I:Inv X pins σ H s):s.heap.FunFrames X.base X.outer:=by
 have all:∀ (l:List Env),(∀ b∈frs l,b∈X.fs)->X.s₀.heap.FunFrames X.base l->s.heap.FunFrames X.base l:=by
  intro l
  induction l with
  | nil=>intro _ _;trivial
  | cons env r ih=>
   intro hs hl;obtain⟨hk,⟨L,o,hf,hn,ho,hd⟩,hr⟩:=hl;have hL:L∈X.fs:=hs L (by unfold frs;rw[wA,hf];exact uY);obtain⟨sl,e⟩:=I.base.slot L o ho (I.ok.frf L hL) hL λ z=>I.ok.exfs L z hL
   exact⟨hk,⟨L,_,hf,hn,e,hd⟩,ih (λ b hb=>hs b (by unfold frs;rw[wA,hf];exact uU _ hb)) hr⟩
 exact all X.outer (λ _ hb=>hb) I.ok.funs
theorem Inv.stack (I:Inv X pins σ H s):s.heap.FunFrames X.base X.stack:=by
 rcases I.ok.stk with e|⟨e,hf⟩
 ·rw[e];exact I.funs
 ·rw[e]
  obtain⟨m,hn,_⟩:=I.loc;refine .cons (by rw[I.ok.kind];decide) hf hn ?_ I.funs
  exact Heap.get?_none_of_le (vF I.ok.bsz I.ok.above)
theorem Inv.stkSub (I:Inv X pins σ H s):∀ b∈frs X.stack,b∈X.env.locals::X.fs:=λ b hb=>by
 rcases I.ok.stk with e|⟨e,hf⟩
 ·rw[e] at hb;exact uU _ hb
 ·rw[e] at hb
  unfold frs at hb;rw[wA,hf] at hb;exact hb
theorem Inv.stkFree (I:Inv X pins σ H s):∀ b∈frs X.stack,H b=none:=λ b hb=>by
 rcases List.mem_cons.mp (I.stkSub b hb) with e|hb
 ·rw[e];exact I.free
 ·obtain⟨_,o,ho,_⟩:=I.ok.funs.mem hb
  exact I.base.free b o ho (I.ok.frf b hb) λ z=>I.ok.exfs b z hb
theorem Inv.step {g':Array GenState}{t':Nat}{d':Drawn}{ch:List Addr}(I:Inv X pins σ H s)
  (hch:∀ b∈ch,(b∈X.ex\/X.s₀.heap.objs.size<=b)/\b≠X.env.locals/\(∀ x c,X.env.cells.lookup x=some c->c≠b)/\∀ p∈X.pn++pins,p.1≠b)
  (keep:∀ b o,b≠X.env.locals->b∉X.fs->b∉ch->s.heap.get? b=some o->H b=none->h'.get? b=some o)
  (slot:∀ b o,b≠X.env.locals->b∈X.fs->b∉ch->s.heap.get? b=some o->H b=none->∃ sl,h'.get? b=some { o with slots:=sl }) (free:∀ b o,b∉ch->s.heap.get? b=some o->H b=none->H' b=none)
  (there:∀ b o,b∉ch->s.heap.get? b=some o->∃ o',h'.get? b=some o')
  (tups:∀ b xs,H b=some (.tup xs)->H' b=some (.tup xs)) (frzs:∀ b o u,H b=some (.frz o u)->H' b=some (.frz o u)) (tbls:∀ b ps,H b=some (.tbl ps)->∃ more,H' b=some (.tbl (ps++more)))
  (ns:∀ m,s.heap.Ns X.env.locals m->h'.Ns X.env.locals m) (hok:HOk X.prog X.w H' h') (hg:AllBare g'):
  Inv X pins σ H' { s with heap:=h',gens:=g',drawn:=d',toks:=t' }:=by
 have neL:∀ b o,X.s₀.heap.get? b=some o->b≠X.env.locals:=λ b o e=>u9 (vo (yG e) I.ok.above)
 have neC:∀ b o,X.s₀.heap.get? b=some o->b∉X.ex->b∉ch:=λ b o e hx hb=>by
  rcases (hch b hb).1 with z|z
  ·exact hx z
  ·exact absurd (vo (yG e) z) (vI _)
 have cellK:∀ x c,X.env.cells.lookup x=some c->∀ v,s.heap.IsCell c v->h'.IsCell c v:=λ x c e v ⟨o,ho,hd⟩=>by
  have nch:c∉ch:=λ z=>(hch c z).2.2.1 x c e rfl
  by_cases hc:c∈X.fs
  ·obtain⟨sl,q⟩:=slot c o (I.cne x c e) hc nch ho (I.freeC x c e)
   exact⟨_,q,hd⟩
  ·exact⟨o,keep c o (I.cne x c e) hc nch ho (I.freeC x c e),hd⟩
 refine⟨I.ok,I.os,hg,⟨λ b o e n hb hx=>?_,λ b o e n hb hx=>?_,λ b o e n hx=>?_,λ b o e hx=>?_,λ b xs e=>tups b xs (I.base.tups b xs e),λ b o xs e=>frzs b o xs (I.base.frzs b o xs e),λ b ps e=>?_⟩,?_,λ x c e=>?_,?_,λ x c e=>?_,λ p hp=>?_,hok,I.len⟩
 ·exact keep b o (neL b o e) hb (neC b o e hx) (I.base.keep b o e n hb hx) (I.base.free b o e n hx)
 ·obtain⟨sl,e1⟩:=I.base.slot b o e n hb hx
  obtain⟨sl',e2⟩:=slot b _ (neL b o e) hb (neC b o e hx) e1 (I.base.free b o e n hx);exact⟨sl',e2⟩
 ·obtain⟨o',e1⟩:=I.base.there b o e hx
  exact free b o' (neC b o e hx) e1 (I.base.free b o e n hx)
 ·obtain⟨o',e1⟩:=I.base.there b o e hx
  exact there b o' (neC b o e hx) e1
 ·obtain⟨m1,e1⟩:=I.base.tbls b ps e
  obtain⟨m2,e2⟩:=tbls b _ e1;exact⟨m1++m2,by rw[e2,BX]⟩
 ·obtain⟨m,hn,hl⟩:=I.loc
  refine⟨m,ns m hn,λ i x v e1 e2 e3=>?_⟩;obtain⟨u,r,l⟩:=hl i x v e1 e2 e3;refine⟨u,r,?_⟩
  rcases l with l|⟨k,c,e,z⟩
  ·exact .inl l
  ·exact .inr ⟨k,c,e,cellK x c e _ z⟩
 ·obtain⟨v,z⟩:=I.cell x c e
  exact⟨v,cellK x c e v z⟩
 ·obtain⟨m,⟨o,_,_,ho,_⟩,_⟩:=I.loc
  exact free _ o (λ z=>(hch _ z).2.1 rfl) ho I.free
 ·obtain⟨v,o,ho,hd⟩:=I.cell x c e
  exact free c o (λ z=>(hch c z).2.2.1 x c e rfl) ho (I.freeC x c e)
 ·obtain⟨e,n,ne,nf,d⟩:=I.pin p hp
  have nch:p.1∉ch:=λ z=>(hch p.1 z).2.2.2 p hp rfl
  exact⟨keep p.1 p.2 ne nf nch e n,free p.1 p.2 nch e n,ne,nf,d⟩
theorem Inv.un {t':Nat}(I:Inv X pins σ H s)(u:Un X.fs [] H H' s.heap h')(hok:HOk X.prog X.w H' h'):Inv X pins σ H' { s with heap:=h',toks:=t' }:=by
 obtain⟨m,⟨o,es,ep,ho,r⟩,_⟩:=id I.loc;obtain⟨sl,hL⟩:=u.any ho I.free (by simp);exact I.step (g':=s.gens) (d':=s.drawn) (ch:=[]) (λ _ z=>nomatch z) (λ b o _ hb _ e n=>u.keep b o e n hb (by simp)) (λ b o _ hb _ e n=>u.slot b o e n hb (by simp)) (λ b o _ e n=>u.free b o e n (by simp)) (λ b o _ e=>u.there b o e (by simp)) u.tups u.frzs u.tbls (λ m' hm=>by
  obtain⟨o',es',ep',ho',r'⟩:=hm;rw[ho] at ho';cases ho';exact⟨_,es',ep',hL,r'⟩) hok I.bare
theorem Inv.call {g':Array GenState}{t':Nat}{d':Drawn}{ch:List Addr}(I:Inv X pins σ H s)(u:Un (frs X.stack) ch H H' s.heap h')(hok:HOk X.prog X.w H' h')(hg:AllBare g')
  (hch:∀ b∈ch,(b∈X.ex\/X.s₀.heap.objs.size<=b)/\b≠X.env.locals/\(∀ x c,X.env.cells.lookup x=some c->c≠b)/\∀ p∈X.pn++pins,p.1≠b):
  Inv X pins σ H' { s with heap:=h',gens:=g',drawn:=d',toks:=t' }:=by
 obtain⟨m,⟨o,es,ep,ho,r⟩,_⟩:=id I.loc;obtain⟨sl,hL⟩:=u.any ho I.free λ z=>(hch _ z).2.1 rfl
 exact I.step (ch:=ch) hch (λ b o hL hb hc e n=>u.keep b o e n (λ z=>(List.mem_cons.mp (I.stkSub b z)).elim hL hb) hc) (λ b o _ _ hc e n=>u.any e n hc) (λ b o hc e n=>u.free b o e n hc) (λ b o hc e=>u.there b o e hc) u.tups u.frzs u.tbls (λ m' hm=>by
  obtain⟨o',es',ep',ho',r'⟩:=hm;rw[ho] at ho';cases ho';exact⟨_,es',ep',hL,r'⟩) hok hg
theorem Inv.turned {t':Nat}{it:Addr}(I:Inv X pins σ H s)(k:∀ b o,b≠it->s.heap.get? b=some o->h'.get? b=some o)(hn:H it=none)(hL:it≠X.env.locals)
  (h1:it∈X.ex\/X.s₀.heap.objs.size<=it) (h2:∀ x c,X.env.cells.lookup x=some c->c≠it) (h3:∀ p∈X.pn++pins,p.1≠it):Inv X pins σ H { s with heap:=h',toks:=t' }:=by
 have nit:∀ b u,H b=some u->b≠it:=λ b u e z=>by rw[z,hn] at e;cases e
 refine I.step (g':=s.gens) (d':=s.drawn) (ch:=[it]) (λ b hb=>?_) (λ b o _ _ hc e _=>k b o (λ z=>hc (by simp[z])) e) (λ b o _ _ hc e _=>⟨o.slots,k b o (λ z=>hc (by simp[z])) e⟩) (λ _ _ _ _ n=>n)
  (λ b o hc e=>⟨o,k b o (λ z=>hc (by simp[z])) e⟩) (λ _ _ e=>e) (λ _ _ _ e=>e) (λ b ps e=>⟨#[],by rw[e];simp⟩) (λ m hm=>?_) (λ b u e=>?_) I.bare
 ·have e:b=it:=by simpa using hb
  subst e;exact⟨h1,hL,h2,h3⟩
 ·obtain⟨o,es,ep,ho,r⟩:=hm
  exact⟨o,es,ep,k _ o (Ne.symm hL) ho,r⟩
 ·refine(I.hok b u e).stay (λ c v hc q=>k c v ?_ q) (λ _ q=>q) λ _ _ q=>q
  rcases hc with z|z
  ·rw[z];exact nit b u e
  ·exact nit c _ z
theorem Inv.tok (I:Inv X pins σ H s)(t:Nat):Inv X pins σ H { s with toks:=t }:=I.un (h':=s.heap) (t':=t) Un.refl I.hok
theorem Inv.kept {t':Nat}(I:Inv X pins σ H s)(k:∀ b u,s.heap.get? b=some u->h'.get? b=some u):Inv X pins σ H { s with heap:=h',toks:=t' }:=I.un (Un.kept k) (I.hok.kept k)
theorem Inv.laid {a:Addr}{o:HO}{t':Nat}(I:Inv X pins σ H s)(k:∀ b u,s.heap.get? b=some u->h'.get? b=some u)(hp:s.heap.objs.size<=a)(new:ObjOk X.prog X.w (upd H a o) h' a o):
  Inv X pins σ (upd H a o) { s with heap:=h',toks:=t' }:=I.un (Un.laid k hp (I.hok.fresh hp)) (I.hok.laid k hp new)
theorem Inv.write {x e:Addr}{o:HO}{t':Nat}(I:Inv X pins σ H s)(mu:Mut (H x))(he:e=x\/H e=some (.own x))(k:∀ b u,b≠e->s.heap.get? b=some u->h'.get? b=some u)(heo:∃ u,h'.get? e=some u)
  (new:ObjOk X.prog X.w (upd H x o) h' x o):Inv X pins σ (upd H x o) { s with heap:=h',toks:=t' }:=I.un (Un.write mu he k heo) (I.hok.write mu he k heo new)
theorem Inv.pins_of {pins':List (Addr×Obj)}(I:Inv X pins σ H s)(h:∀ p∈pins',s.heap.get? p.1=some p.2/\H p.1=none/\p.1≠X.env.locals/\p.1∉X.fs/\∀ v,p.2.data≠.cell v):Inv X pins' σ H s:=
 ⟨I.ok,I.os,I.bare,I.base,I.loc,I.cell,I.free,I.freeC,λ p hp=>(List.mem_append.mp hp).elim (λ z=>I.pin p (vW _ z)) (h p),I.hok,I.len⟩
theorem jw {N:List Str}(hN:N.Nodup){i j:Nat}{x:Str}(a:N[i]?=some x)(b:N[j]?=some x):i=j:=by
 obtain⟨h1,e1⟩:=List.getElem?_eq_some_iff.mp a;obtain⟨h2,e2⟩:=List.getElem?_eq_some_iff.mp b;exact(List.getElem_inj hN).mp (e1.trans e2.symm)
theorem gM {M:Model}{A:Around}{E:Value->Shared->Prop}{i:Nat}{x:Str}{v:V}{u:Value}{Q:Unit->Shared->Prop}(I:Inv X pins σ H s)(hN:X.N.Nodup)(hi:X.N[i]?=some x)(hx:Loc X.env.scope x)(r:RelV v u)
  (h:∀ s',Inv X pins (σ.set i (some v)) H s'->(∃ a,zQ a s.heap s'.heap/\(a=X.env.locals\/X.env.cells.lookup x=some a))->Q () s') (hf:autoParam (X.fn x=true\/X.env.scope.names.lookup x=some .local) ZB._auto_1):wpAny M A (storeName X.env x u) Q E s:=by
 obtain⟨m,hn,hl⟩:=id I.loc;have hcls:(X.env.scope.kind == .class || (X.env.scope.kind == .module&&X.env.locals != X.env.globals))=false:=by rw[I.ok.kind];rfl
 have hiσ:i<σ.length:=by rw[I.len];exact(List.getElem?_eq_some_iff.mp hi).1
 have cne:=I.cne;have tracked:∀ {a:Addr} {h':Heap},(∃ o,s.heap.get? a=some o/\H a=none)->zQ a s.heap h'->HOk X.prog X.w H h':=λ {a h'} ha hs b ob e=>by
  obtain⟨_,_,hfree⟩:=ha;refine(I.hok b ob e).stay (λ c w' hc q=>(hs.2 c ?_).trans q) (λ _ q=>q) λ _ _ q=>q
  rintro rfl
  rcases hc with rfl|hc
  ·rw[hfree] at e;cases e
  ·rw[hfree] at hc;cases hc
 rcases hx with hk|hk
 ·refine wpAny_storeName_local hk hn (λ h' hn' hs=>?_) hcls
  obtain⟨oL,_,_,hoL,_⟩:=id hn;refine h _ ⟨I.ok,I.os,I.bare,⟨λ b o e n hb hx=>?_,λ b o e n hb hx=>?_,I.base.free,λ b o e hx=>?_,I.base.tups,I.base.frzs,I.base.tbls⟩,⟨_,hn',λ j y v' e1 e2 e3=>?_⟩,λ y c e=>?_,I.free,I.freeC,λ p hp=>?_,tracked ⟨oL,hoL,I.free⟩ hs,by simpa using I.len⟩ ⟨_,hs,.inl rfl⟩
  ·exact(hs.2 b (u9 (vo (yG e) I.ok.above))).trans (I.base.keep b o e n hb hx)
  ·obtain⟨sl,e1⟩:=I.base.slot b o e n hb hx
   exact⟨sl,(hs.2 b (u9 (vo (yG e) I.ok.above))).trans e1⟩
  ·obtain⟨o',e1⟩:=I.base.there b o e hx
   exact⟨o',(hs.2 b (u9 (vo (yG e) I.ok.above))).trans e1⟩
  ·by_cases hj:j=i
   ·subst hj
    rw[hi] at e1;cases e1;rw[vp hiσ] at e2;cases e2;exact⟨u,r,.inl ⟨hk,by simp⟩⟩
   ·rw[u6 (Ne.symm hj)] at e2
    obtain⟨u',r',q⟩:=hl j y v' e1 e2 e3;refine⟨u',r',?_⟩
    rcases q with ⟨k,e⟩|⟨k,c,e,z⟩
    ·refine .inl ⟨k,?_⟩
     have:y≠x:=λ e=>hj (jw hN e1 (e▸hi))
     simp[this,e]
    ·exact .inr ⟨k,c,e,z.sameBut hs (cne y c e)⟩
  ·obtain⟨w',z⟩:=I.cell y c e
   exact⟨w',z.sameBut hs (cne y c e)⟩
  ·obtain⟨e,n,ne,nf,d⟩:=I.pin p hp
   exact⟨(hs.2 p.1 ne).trans e,n,ne,nf,d⟩
 ·have hfn:X.fn x=true:=by
   rcases hf with z|z
   ·exact z
   ·rw[z] at hk;cases hk
  obtain⟨c,hc⟩:=I.ok.has x (.inl hk);obtain⟨w',z⟩:=I.cell x c hc;refine wpAny_storeName_cell I.ok.kind hk hc z (λ h' hc' hs=>?_);obtain⟨oc,hoc,hocd⟩:=id z;refine h { s with heap:=h' } ⟨I.ok,I.os,I.bare,⟨λ b o e n hb hx=>?_,λ b o e n hb hx=>?_,I.base.free,λ b o e hx=>?_,I.base.tups,I.base.frzs,I.base.tbls⟩,⟨m,hn.sameBut hs (Ne.symm (cne x c hc)),λ j y v' e1 e2 e3=>?_⟩,λ y c' e=>?_,I.free,I.freeC,λ p hp=>?_,tracked ⟨oc,hoc,I.freeC x c hc⟩ hs,by simpa using I.len⟩ ⟨c,hs,.inr hc⟩
  ·exact(hs.2 b (u9 (vo (yG e) (I.ok.cab x c hfn hc)))).trans (I.base.keep b o e n hb hx)
  ·obtain⟨sl,e1⟩:=I.base.slot b o e n hb hx
   exact⟨sl,(hs.2 b (u9 (vo (yG e) (I.ok.cab x c hfn hc)))).trans e1⟩
  ·obtain⟨o',e1⟩:=I.base.there b o e hx
   exact⟨o',(hs.2 b (u9 (vo (yG e) (I.ok.cab x c hfn hc)))).trans e1⟩
  ·by_cases hj:j=i
   ·subst hj
    rw[hi] at e1;cases e1;rw[vp hiσ] at e2;cases e2;exact⟨u,r,.inr ⟨.inl hk,c,hc,hc'⟩⟩
   ·rw[u6 (Ne.symm hj)] at e2
    obtain⟨u',r',q⟩:=hl j y v' e1 e2 e3;refine⟨u',r',?_⟩
    rcases q with q|⟨k,c',e,z'⟩
    ·exact .inl q
    ·refine .inr ⟨k,c',e,z'.sameBut hs ?_⟩
     rintro rfl
     exact hj (jw hN e1 (I.ok.inj _ _ _ e hc▸hi))
  ·by_cases hcc:c'=c
   ·subst hcc;exact⟨_,hc'⟩
   ·obtain⟨w2,z2⟩:=I.cell y c' e
    exact⟨w2,z2.sameBut hs hcc⟩
  ·obtain⟨e,n,ne,nf,d⟩:=I.pin p hp
   refine⟨(hs.2 p.1 ?_).trans e,n,ne,nf,d⟩;intro q;rw[q,hoc] at e;have q':oc=p.2:=Option.some.inj e;exact d w' (by rw[<- q'];exact hocd)
theorem dJ {M:Model}{A:Around}{E:Value->Shared->Prop}{i:Nat}{x:Str}{v:V}{u:Value}{Q:Unit->Shared->Prop}(I:Inv X pins σ H s)(hN:X.N.Nodup)(hi:X.N[i]?=some x)(hx:Loc X.env.scope x)(r:RelV v u)
  (h:∀ s',Inv X pins (σ.set i (some v)) H s'->Q () s') (hf:autoParam (X.fn x=true\/X.env.scope.names.lookup x=some .local) ZB._auto_1):wpAny M A (storeName X.env x u) Q E s:=
 gM I hN hi hx r (λ s' I' _=>h s' I') hf
theorem Inv.call' {s':Shared}{ch:List Addr}(I:Inv X pins σ H s)(ho:s'.os=s.os)(u:Un (frs X.stack) ch H H' s.heap s'.heap)(hok:HOk X.prog X.w H' s'.heap)(hg:AllBare s'.gens)
  (hch:∀ b∈ch,(b∈X.ex\/X.s₀.heap.objs.size<=b)/\b≠X.env.locals/\(∀ x c,X.env.cells.lookup x=some c->c≠b)/\∀ p∈X.pn++pins,p.1≠b):Inv X pins σ H' s':=by
 obtain⟨h',g',d',t',o'⟩:=s';have e:o'=s.os:=ho;subst e;exact I.call (g':=g') (t':=t') (d':=d') u hok hg hch
end
abbrev XK:=Value->Option Addr->Hp->Prop
abbrev St:=List (Option V)
abbrev VK:=V->Hp->Prop
abbrev TE:=St->Hp->VK->Prop
abbrev TT:=St->Hp->(Bool->Hp->Prop)->Prop
abbrev TA:=St->Hp->(List V->Hp->Prop)->Prop
structure Ends where
 nx:St->Hp->Prop
 rt:VK
 bk:St->Hp->Prop:=λ _ _=>False
 ct:St->Hp->Prop:=λ _ _=>False
abbrev TS:=Ends->St->Hp->Prop
def EP (X:Cx)(pins:List (Addr×Obj))(σ:St)(Q:VK)(u:Value)(s':Shared):Prop:=∃ v H',Inv X pins σ H' s'/\RelV v u/\Q v H'
def TP (X:Cx)(pins:List (Addr×Obj))(σ:St)(Q:Bool->Hp->Prop)(b:Bool)(s':Shared):Prop:=∃ H',Inv X pins σ H' s'/\Q b H'
def AP (X:Cx)(pins:List (Addr×Obj))(σ:St)(Q:List V->Hp->Prop)(us:List Value)(s':Shared):Prop:=∃ vs H',Inv X pins σ H' s'/\Vals vs us/\Q vs H'
def SP (X:Cx)(pins:List (Addr×Obj))(D:Ends)(f:Flow)(s':Shared):Prop:=
 match f with
 | .next=>∃ σ' H',Inv X pins σ' H' s'/\D.nx σ' H'
 | .brk=>∃ σ' H',Inv X pins σ' H' s'/\D.bk σ' H'
 | .cont=>∃ σ' H',Inv X pins σ' H' s'/\D.ct σ' H'
 | .ret u=>∃ v σ' H',Inv X pins σ' H' s'/\RelV v u/\D.rt v H'
def PE (X:Cx)(e:Expr)(t:TE):Prop:=
 ∀ (pins:List (Addr×Obj)) (s:Shared) (σ:St) (H:Hp) (Q:VK),Inv X pins σ H s->t σ H Q->wpAny (model X.prog X.w) X.A (eval e X.env) (EP X pins σ Q) X.xe s
def PT (X:Cx)(e:Expr)(t:TT):Prop:=
 ∀ (pins:List (Addr×Obj)) (s:Shared) (σ:St) (H:Hp) (Q:Bool->Hp->Prop),Inv X pins σ H s->t σ H Q->wpAny (model X.prog X.w) X.A (isTrue e X.env (eval e X.env)) (TP X pins σ Q) X.xe s
def PW (X:Cx)(e:Expr)(t:TT):Prop:=
 ∀ (whole:Sem Value) (pins:List (Addr×Obj)) (s:Shared) (σ:St) (H:Hp) (Q:Bool->Hp->Prop),Inv X pins σ H s->t σ H Q->wpAny (model X.prog X.w) X.A (isTrue e X.env whole) (TP X pins σ Q) X.xe s
theorem PW.pt {X:Cx}{e:Expr}{t:TT}(h:PW X e t):PT X e t:=h _
def PA (X:Cx)(es:List Expr)(t:TA):Prop:=
 ∀ (pos:Pos) (pins:List (Addr×Obj)) (s:Shared) (σ:St) (H:Hp) (Q:List V->Hp->Prop),Inv X pins σ H s->t σ H Q->wpAny (model X.prog X.w) X.A (spliced (backTo pos (starEach es X.env))) (AP X pins σ Q) X.xe s
def PS (X:Cx)(st:Stmt)(t:TS):Prop:=
 ∀ (pins:List (Addr×Obj)) (s:Shared) (σ:St) (H:Hp) (D:Ends),Inv X pins σ H s->t D σ H->wpAny (model X.prog X.w) X.A (exec st X.env) (SP X pins D) X.xe s
def PSs (X:Cx)(st:List Stmt)(t:TS):Prop:=
 ∀ (pins:List (Addr×Obj)) (s:Shared) (σ:St) (H:Hp) (D:Ends),Inv X pins σ H s->t D σ H->wpAny (model X.prog X.w) X.A (execs st X.env) (SP X pins D) X.xe s
theorem thn {α:Type}{t:Sem α}{Q Q':α->Shared->Prop}{M:Model}{A:Around}{E:Value->Shared->Prop}{s:Shared}(h:wpAny M A t Q E s)(hQ:∀ a s,Q a s->Q' a s):wpAny M A t Q' E s:=yT h hQ λ _ _ x=>x
section
variable {X:Cx}
def fP (i:Nat):TE:=λ σ H Q=>∃ v,σ[i]?=some (some v)/\Q v H
def tC (v:V):TE:=λ _ H Q=>Q v H
theorem dZ {i:Nat}{x:Str}{pos:Pos}(hN:X.N[i]?=some x)(hv:Vis X.env.scope x)(hd:autoParam ((x == ("__debug__":Str))=false) ZC._auto_1)(hcd:autoParam ((x == ("__classdict__":Str))=false) ZC._auto_1):PE X (.Name x pos) (fP i):=by
 intro pins s σ H Q I h;obtain⟨v,e,h⟩:=h;obtain⟨m,hn,hl⟩:=I.loc;obtain⟨u,r,l⟩:=hl i x v hN e hv;have fin:EP X pins σ Q u s:=⟨v,H,I,r,h⟩
 rcases l with ⟨hk,hm⟩|⟨hk,c,hc,hcell⟩
 ·exact wpAny_Name (wpAny_loadName_local I.ok.kind hk hn hm fin) hd
 ·rcases hk with hk|hk
  ·exact wpAny_Name (wpAny_loadName_cell I.ok.kind hk hc hcell fin) hd
  ·exact wpAny_Name (wpAny_loadName_free I.ok.kind hk hc hcell fin hcd) hd
theorem iD {i j pos}:PE X (.Constant (.int i) j pos) (tC (.int i)):=λ _ _ _ H _ I h=>wpAny_Constant_int ⟨.int i,H,I.tok _,⟨_,rfl⟩,h⟩
theorem uj {b j pos}:PE X (.Constant (.bool b) j pos) (tC (.bl b)):=λ _ _ _ H _ I h=>Constant_bool ⟨.bl b,H,I,rfl,h⟩
theorem sY {x j pos}:PE X (.Constant (.str x) j pos) (tC (.str x)):=λ _ _ _ H _ I h=>Calls.Constant_str ⟨.str x,H,I.tok _,⟨_,rfl⟩,h⟩
def Gl (X:Cx)(x:Str):Prop:=X.env.kindOf x=some .globalImplicit
theorem kH {E:Value->Shared->Prop}{pins:List (Addr×Obj)}{s:Shared}{σ:St}{H:Hp}{x:Str}{u:Value}{pos:Pos}{Q:Value->Shared->Prop}(I:Inv X pins σ H s)(hg:Gl X x)(hm:X.mg x=some u)(h:Q u s)
  (hd:autoParam ((x == ("__debug__":Str))=false) ZC._auto_1):wpAny (model X.prog X.w) X.A (eval (.Name x pos) X.env) Q E s:=
 A2 I.ok.kind hg (Calls.loadGlobal_global (by rw[I.ok.glob];exact I.mod.glob.keeps I.bk) hm h) hd
theorem bE {E:Value->Shared->Prop}{pins:List (Addr×Obj)}{s:Shared}{σ:St}{H:Hp}{x:Str}{u:Value}{pos:Pos}{Q:Value->Shared->Prop}(I:Inv X pins σ H s)(hg:Gl X x)(hm:X.mg x=none)(hv:bootBuiltins x=some u)(h:Q u s)
  (hn:autoParam (x≠"__name__") ZC._auto_1) (hd:autoParam ((x == ("__debug__":Str))=false) ZC._auto_1):wpAny (model X.prog X.w) X.A (eval (.Name x pos) X.env) Q E s:=by
 obtain⟨mb,h1,h2⟩:=I.mod.blt;exact A2 I.ok.kind hg (Calls.loadGlobal_builtin (by rw[I.ok.glob];exact I.mod.glob.keeps I.bk) hm (by rw[I.ok.blt];exact h1.keeps I.bk) ((h2 x hn).trans hv) h) hd
theorem kD {x:Str}{v:V}{u:Value}{pos:Pos}(hg:Gl X x)(hm:X.mg x=some u)(r:RelV v u)(hd:autoParam ((x == ("__debug__":Str))=false) ZC._auto_1):PE X (.Name x pos) (tC v):=
 λ _ _ _ H _ I h=>kH I hg hm ⟨v,H,I,r,h⟩ hd
theorem qP {x:Str}{v:V}{u:Value}{pos:Pos}(hg:Gl X x)(hm:X.mg x=none)(hv:bootBuiltins x=some u)(r:RelV v u)(hn:autoParam (x≠"__name__") ZC._auto_1)(hd:autoParam ((x == ("__debug__":Str))=false) ZC._auto_1):PE X (.Name x pos) (tC v):=
 λ _ _ _ H _ I h=>bE I hg hm hv ⟨v,H,I,r,h⟩ hn hd
variable {a b:Expr}{ta tb:TE}{pos:Pos}
theorem nobehind (b:Expr){op:CmpOp}(h:op≠.In)(h2:op≠.NotIn):behindInMarks op b=false:=by
 have e1:(op == CmpOp.In)=false:=by cases op <;>first|rfl|exact absurd rfl h
 have e2:(op == CmpOp.NotIn)=false:=by cases op <;>first|rfl|exact absurd rfl h2
 cases b <;>simp[behindInMarks,e1,e2]
def tB (t:TE):TT:=λ σ H Q=>t σ H λ x H1=>∃ c,x=.bl c/\Q c H1
theorem rT {e:Expr}{t:TE}(h:PE X e t)(he:autoParam (∀ whole,isTrue e X.env whole=(do let v <- whole;standAt e.pos;holding [v] (truthy v))) ZD._auto_1):PT X e (tB t):=by
 intro pins s σ H Q I hw;refine isTrue_plain (thn (h pins s σ H _ I hw) λ v s1 ⟨x,H1,I1,r1,q1⟩=>?_) (he _);obtain⟨d,rfl,q⟩:=q1;cases r1;exact A7 ⟨H1,I1,q⟩
variable {tA tB':TT}{rest:List Expr}
def tOr (t u:TT):TT:=λ σ H Q=>t σ H λ c H1=>if c=true then Q true H1 else u σ H1 Q
def uz (t:TT):TT:=λ σ H Q=>t σ H λ c H1=>Q (!c) H1
theorem qO (ha:PT X a tA):PW X (.BoolOp .And [a] pos) tA:=by
 intro wh pins s σ H Q I h;refine isTrue_and (thn (ha pins s σ H Q I h) λ c s1 e=>?_);cases c with
 | true=>exact isTrue_and_nil e
 | false=>exact e
theorem rE (ha:PT X a tA):PW X (.BoolOp .Or [a] pos) tA:=by
 intro wh pins s σ H Q I h;refine isTrue_or (thn (ha pins s σ H Q I h) λ c s1 e=>?_);cases c with
 | false=>exact isTrue_or_nil e
 | true=>exact e
theorem tQ (ha:PT X a tA)(hb:PW X (.BoolOp .Or (b::rest) pos) tB'):PW X (.BoolOp .Or (a::b::rest) pos) (tOr tA tB'):=by
 intro wh pins s σ H Q I h;refine isTrue_or (thn (ha pins s σ H _ I h) λ c s1 ⟨H1,I1,q1⟩=>?_);cases c with
 | true=>exact⟨H1,I1,q1⟩
 | false=>exact hb wh pins s1 σ H1 Q I1 q1
theorem sy (ha:PT X a tA):PT X (.UnaryOp .Not a pos) (uz tA):=by
 intro pins s σ H Q I h;exact isTrue_not (ha pins s σ H (λ c H1=>Q (!c) H1) I h)
def qS (ta tb:TE):TE:=λ σ H Q=>ta σ H λ x H1=>∃ c,x=.bl c/\if c=true then tb σ H1 Q else Q (.bl false) H1
theorem nK {op}{t:TE}(h:PE X a t):PE X (.BoolOp op [a] pos) t:=λ pins s σ H Q I hw=>BoolOp_one (h pins s σ H Q I hw)
theorem nq (ha:PE X a ta)(hb:PE X (.BoolOp .And (b::rest) pos) tb):PE X (.BoolOp .And (a::b::rest) pos) (qS ta tb):=by
 intro pins s σ H Q I h;refine BoolOp_and (thn (ha pins s σ H _ I h) λ v s1 ⟨x,H1,I1,r1,q1⟩=>?_);obtain⟨c,rfl,q1⟩:=q1;cases r1;refine A7 ?_
 cases c with
 | true=>exact hb pins s1 σ H1 Q I1 q1
 | false=>exact⟨.bl false,H1,I1,rfl,q1⟩
end
def SqL (K:yC)(H:Hp)(a:Addr)(xs:List V):Prop:=
 Rd H a (.lst xs) \/
  ∃ (o:Obj) (its:Array Value) (n:Nat),K.lookup a=some o/\o.cls=.type "list"/\o.dict=none/\o.data=.seq its n/\its.size<=sizeLine/\Vals xs its.toList
def SqT (K:yC)(H:Hp)(a:Addr)(xs:List V):Prop:=
 Rd H a (.tup xs) \/
  ∃ (o:Obj) (its:Array Value) (n:Nat),K.lookup a=some o/\o.cls=.type "tuple"/\o.data=.seq its n/\its.size<=sizeLine/\Vals xs its.toList
def uI:Value->Option V
 | .none=>some .non
 | .bool b=>some (.bl b)
 | .int i _=>some (.int i)
 | .str x _=>some (.str x)
 | .bytes b _=>some (.byt b)
 | .float b _=>some (.flt b)
 | .ref a=>some (.ref a)
 | .type n=>some (.ty n)
 | _=>none
theorem RelV.abs {x:V}{u:Value}(r:RelV x u):uI u=some x:=by
 cases x with
 | non=>cases r;rfl
 | bl _=>cases r;rfl
 | int _=>obtain⟨t,rfl⟩:=r;rfl
 | str _=>obtain⟨t,rfl⟩:=r;rfl
 | byt _=>obtain⟨t,rfl⟩:=r;rfl
 | flt _=>obtain⟨t,rfl⟩:=r;rfl
 | ref _=>cases r;rfl
 | ty _=>cases r;rfl
theorem RelV.inj {x y:V}{u:Value}(r:RelV x u)(q:RelV y u):x=y:=Option.some.inj (r.abs.symm.trans q.abs)
theorem Vals.inj {xs ys:List V}{us:List Value}(q:Vals xs us)(p:Vals ys us):xs=ys:=by
 induction q generalizing ys with
 | nil=>cases p;rfl
 | cons r t ih=>
  cases p with
  | cons r' t'=>rw[r.inj r',ih t']
section
variable {X:Cx}{pins:List (Addr×Obj)}{σ:St}{H:Hp}{s:Shared}{a:Addr}{xs ys:List V}
theorem SqL.of {K:yC}(h:H a=some (.lst xs)):SqL K H a xs:=.inl (.inl h)
theorem Inv.list (I:Inv X pins σ H s)(h:SqL X.K H a xs):∃ its:List Value,Vals xs its/\PlainL s.heap a its.toArray/\xs.length<=sizeLine:=by
 rcases h with h|⟨o,its,n,hk,hc,hd,hs,hz,r⟩
 ·obtain⟨z,its,n,r,e⟩:=h.ok I.hok
  exact⟨its,r,⟨_,n,e,rfl,rfl,rfl⟩,z⟩
 ·refine⟨its.toList,r,⟨o,n,I.kIn a o hk,hc,hd,by simpa using hs⟩,?_⟩
  have e:=r.length;simp only[yI] at e;omega
theorem Inv.tuple (I:Inv X pins σ H s)(h:SqT X.K H a xs):∃ its:List Value,Vals xs its/\IsTup s.heap a its.toArray/\xs.length<=sizeLine:=by
 rcases h with h|⟨o,its,n,hk,hc,hs,hz,r⟩
 ·obtain⟨z,its,r,p⟩:=h.ok I.hok
  exact⟨its,r,p,z⟩
 ·refine⟨its.toList,r,⟨o,I.kIn a o hk,hc,n,by simpa using hs⟩,?_⟩
  have e:=r.length;simp only[yI] at e;omega
theorem Inv.list_inj (I:Inv X pins σ H s)(h:SqL X.K H a xs)(h':SqL X.K H a ys):xs=ys:=by
 obtain⟨its,r,⟨o,n,e,_,_,d⟩,_⟩:=I.list h;obtain⟨its',r',⟨o',n',e',_,_,d'⟩,_⟩:=I.list h';rw[e] at e';cases e';rw[d] at d';injection d' with d1 _
 have:its=its':=by simpa using congrArg Array.toList d1
 subst this;exact r.inj r'
end
abbrev Cx.wish (X:Cx)(E:Value->Shared->Prop):Cx:={ X with xe:=E }
abbrev Cx.nox (X:Cx):Cx:=X.wish λ _ _=>False
theorem Cx.Ok.wish {X:Cx}(ok:X.Ok)(E:Value->Shared->Prop):(X.wish E).Ok:=
 ⟨ok.mod,ok.kind,ok.glob,ok.blt,ok.above,ok.inj,ok.has,ok.cab,ok.hd,ok.frames,ok.stk,ok.exf,ok.bs,ok.bsz,ok.noex,ok.exfs,ok.funs,ok.frf⟩
theorem Cx.Ok.unwish {X:Cx}{E:Value->Shared->Prop}(ok:(X.wish E).Ok):X.Ok:=
 ⟨ok.mod,ok.kind,ok.glob,ok.blt,ok.above,ok.inj,ok.has,ok.cab,ok.hd,ok.frames,ok.stk,ok.exf,ok.bs,ok.bsz,ok.noex,ok.exfs,ok.funs,ok.frf⟩
section
variable {X:Cx}{pins:List (Addr×Obj)}{σ:St}{H:Hp}{s:Shared}{E:Value->Shared->Prop}
theorem Inv.wish (I:Inv X pins σ H s)(E:Value->Shared->Prop):Inv (X.wish E) pins σ H s:=⟨I.ok.wish E,I.os,I.bare,I.base,I.loc,I.cell,I.free,I.freeC,I.pin,I.hok,I.len⟩
theorem Inv.unwish (I:Inv (X.wish E) pins σ H s):Inv X pins σ H s:=⟨I.ok.unwish,I.os,I.bare,I.base,I.loc,I.cell,I.free,I.freeC,I.pin,I.hok,I.len⟩
theorem SP.unwish {D:Ends}{f:Flow}{s':Shared}(h:SP (X.wish E) pins D f s'):SP X pins D f s':=by
 cases f with
 | next=>obtain⟨σ',H',I,q⟩:=h;exact⟨σ',H',I.unwish,q⟩
 | brk=>obtain⟨σ',H',I,q⟩:=h;exact⟨σ',H',I.unwish,q⟩
 | cont=>obtain⟨σ',H',I,q⟩:=h;exact⟨σ',H',I.unwish,q⟩
 | ret u=>obtain⟨v,σ',H',I,r,q⟩:=h;exact⟨v,σ',H',I.unwish,r,q⟩
theorem PE.nox {e:Expr}{t:TE}(h:PE X.nox e t):PE X e t:=λ pins s σ H Q I hw=>
 yT (h pins s σ H Q (I.wish _) hw) (λ _ _ ⟨v,H',I',r,q⟩=>⟨v,H',I'.unwish,r,q⟩) λ _ _ z=>zx z
theorem PT.nox {e:Expr}{t:TT}(h:PT X.nox e t):PT X e t:=λ pins s σ H Q I hw=>
 yT (h pins s σ H Q (I.wish _) hw) (λ _ _ ⟨H',I',q⟩=>⟨H',I'.unwish,q⟩) λ _ _ z=>zx z
theorem PSs.nox {st:List Stmt}{t:TS}(h:PSs X.nox st t):PSs X st t:=λ pins s σ H D I hw=>
 yT (h pins s σ H D (I.wish _) hw) (λ _ _ q=>q.unwish) λ _ _ z=>zx z
end
section
variable {X:Cx}{st:Stmt}{rest:List Stmt}{t u:TS}{e:Expr}{te:TE}{pos:Pos}
def tU:TS:=λ D σ H=>D.nx σ H
def pI (t u:TS):TS:=λ D σ H=>t { D with nx:=u D } σ H
theorem pz:PSs X [] tU:=λ _ _ σ H _ I h=>AG ⟨σ,H,I,h⟩
theorem dm (h1:PS X st t)(h2:PSs X rest u):PSs X (st::rest) (pI t u):=by
 intro pins s σ H D I h;refine wpAny_execs_cons (thn (h1 pins s σ H { D with nx:=u D } I h) λ f s1 q=>?_);cases f with
 | next=>
  obtain⟨σ',H',I',q⟩:=q;exact h2 pins s1 σ' H' D I' q
 | ret v=>exact q
 | brk=>exact q
 | cont=>exact q
theorem dH (h1:PS X st t):PSs X [st] t:=by
 intro pins s σ H D I h;refine wpAny_execs_cons (thn (h1 pins s σ H D I h) λ f s1 q=>?_);cases f with
 | next=>exact AG q
 | ret v=>exact q
 | brk=>exact q
 | cont=>exact q
theorem Inv.quiet {pins:List (Addr×Obj)}{σ:St}{H:Hp}{s:Shared}(I:Inv X pins σ H s):interactive X.env=false:=by simp[interactive,I.ok.kind]
def tX (te:TE):TS:=λ D σ H=>te σ H λ _ H1=>D.nx σ H1
theorem eM (he:PE X e te)(hs:autoParam (swapsWith e none pos.line X.env=pure false) ZE._auto_1):PS X (.Expr e pos) (tX te):=by
 intro pins s σ H D I h;exact wpAny_Expr_any (thn (he pins s σ H _ I h) λ v s1 ⟨x,H1,I1,r1,q1⟩=>⟨σ,H1,I1,q1⟩) I.quiet hs
def t9 (te:TE):TS:=λ D σ H=>te σ H D.rt
theorem jX (he:PE X e te):PS X (.Return (some e) pos) (t9 te):=by
 intro pins s σ H D I h;exact wpAny_Return_some (thn (he pins s σ H _ I h) λ v s1 ⟨x,H1,I1,r1,q1⟩=>⟨x,σ,H1,I1,r1,q1⟩)
def uD (c:TT)(t u:TS):TS:=λ D σ H=>c σ H λ b H1=>if b=true then t D σ H1 else u D σ H1
theorem ua {c:Expr}{a b:List Stmt}{tc:TT}(hc:PT X c tc)(ha:PSs X a t)(hb:PSs X b u):PS X (.If c a b pos) (uD tc t u):=by
 intro pins s σ H D I h;refine wpAny_If (thn (hc pins s σ H _ I h) λ d s1 ⟨H1,I1,q1⟩=>?_);cases d with
 | true=>exact ha pins s1 σ H1 D I1 q1
 | false=>exact hb pins s1 σ H1 D I1 q1
end
abbrev TG:=V->St->Hp->(St->Hp->Prop)->Prop
abbrev TGs:=List V->St->Hp->(St->Hp->Prop)->Prop
def PG (X:Cx)(target:Expr)(t:TG):Prop:=
 ∀ (pins:List (Addr×Obj)) (s:Shared) (σ:St) (H:Hp) (v:V) (u:Value) (Q:St->Hp->Prop),Inv X pins σ H s->RelV v u->t v σ H Q ->
  wpAny (model X.prog X.w) X.A (assign target X.env u) (λ _ s'=>∃ σ' H',Inv X pins σ' H' s'/\Q σ' H') X.xe s
def PGs (X:Cx)(ts:List Expr)(t:TGs):Prop:=
 ∀ (pins:List (Addr×Obj)) (s:Shared) (σ:St) (H:Hp) (vs:List V) (us:List Value) (Q:St->Hp->Prop),Inv X pins σ H s->Vals vs us->t vs σ H Q ->
  wpAny (model X.prog X.w) X.A (assignInOrder ((assignEach ts X.env).map (·.2)) us) (λ _ s'=>∃ σ' H',Inv X pins σ' H' s'/\Q σ' H') X.xe s
section
variable {X:Cx}{pos:Pos}
def en (i:Nat):TG:=λ v σ H Q=>Q (σ.set i (some v)) H
theorem bU {i:Nat}{x:Str}(hN:X.N.Nodup)(hi:X.N[i]?=some x)(hx:Loc X.env.scope x)(hf:autoParam (X.fn x=true\/X.env.scope.names.lookup x=some .local) ZB._auto_1):PG X (.Name x pos) (en i):=by
 intro pins s σ H v u Q I r h;exact wpAny_assign_Name (dJ I hN hi hx r (λ s' I'=>⟨_,H,I',h⟩) hf)
def sP:TGs:=λ vs σ H Q=>vs=[]/\Q σ H
def k6 (t:TG)(u:TGs):TGs:=λ vs σ H Q=>∃ v r,vs=v::r/\t v σ H λ σ' H'=>u r σ' H' Q
theorem e8:PGs X [] sP:=by
 intro pins s σ H vs us Q I r h;obtain⟨e,h⟩:=h;subst e;cases r;exact assignInOrder_nil ⟨σ,H,I,h⟩
theorem b5 {e:Expr}{es:List Expr}{t:TG}{u:TGs}(h1:PG X e t)(h2:PGs X es u)
  (hs:autoParam ((assignEach (e::es) X.env).map (·.2)=assign e X.env::(assignEach es X.env).map (·.2)) ZE._auto_1):PGs X (e::es) (k6 t u):=by
 intro pins s σ H vs us Q I r h;obtain⟨v,vr,e1,h⟩:=h;subst e1;cases r with
 | cons r rr=>
  rw[hs];refine AY (thn (h1 pins s σ H _ _ _ I r h) λ _ s1 ⟨σ1,H1,I1,q1⟩=>?_);exact h2 pins s1 σ1 H1 _ _ Q I1 rr q1
def sf (K:yC)(n:Nat)(t:TGs):TG:=λ v σ H Q=>∃ a xs,v=.ref a/\SqT K H a xs/\xs.length=n/\t xs σ H Q
theorem ik {es:List Expr}{k:Nat}{t:TGs}{n:Nat}(hc:X.calm=true)(h:PGs X es t)
  (hn:autoParam ((assignEach es X.env).length=n) ZE._auto_1) (hst:autoParam ((assignEach es X.env).findIdx? (·.1)=none) ZE._auto_1):PG X (.Tuple es k pos) (sf X.K n t):=by
 intro pins s σ H v u Q I r hw;obtain⟨a,xs,e1,hq,hl,hw⟩:=hw;subst e1;cases r;obtain⟨its,rv,ht,hz⟩:=I.tuple hq;refine assign_Tuple_tuple (I.ok.hd hc) ht (by simp[hn,<- hl,rv.length]) hst λ h' hx=>?_
 have I1:Inv X pins σ H { s with heap:=h' }:=I.kept (t':=s.toks) λ b o e=>hx b o (u9 (yG e)) e
 exact h pins _ σ H xs _ Q I1 (by simpa using rv) hw
def p9 (te:TE)(g:TG):TS:=λ D σ H=>te σ H λ x H1=>g x σ H1 D.nx
theorem sJ {tg e:Expr}{te:TE}{g:TG}(he:PE X e te)(hg:PG X tg g)(hs:autoParam (swapsWithSole [tg] e pos.line X.env=pure false) ZE._auto_1)(hw:autoParam (swappedStores [tg] e X.env=pure none) ZE._auto_1)
  (h1:autoParam ((assignEach [tg] X.env).map (·.2)=[assign tg X.env]) ZE._auto_1):PS X (.Assign [tg] e pos) (p9 te g):=by
 intro pins s σ H D I h;refine wpAny_Assign_stores (thn (he pins s σ H _ I h) λ v s1 ⟨x,H1,I1,r1,q1⟩=>?_) hs hw;rw[h1];exact thn (hg pins s1 σ H1 x v _ I1 r1 q1) λ _ s2 q=>q
theorem iE {i:Nat}{x:Str}{e:Expr}{te:TE}{pos':Pos}(hN:X.N.Nodup)(hi:X.N[i]?=some x)(hx:Loc X.env.scope x)(he:PE X e te)(hs:autoParam (swapsWith e (some (.Name x pos')) pos.line X.env=pure false) ZE._auto_1)(hf:autoParam (X.fn x=true\/X.env.scope.names.lookup x=some .local) ZB._auto_1):
  PS X (.Assign [.Name x pos'] e pos) (p9 te (en i)):=by
 intro pins s σ H D I h;refine wpAny_Assign_Name (thn (he pins s σ H _ I h) λ v s1 ⟨y,H1,I1,r1,q1⟩=>?_) hs;exact dJ I1 hN hi hx r1 (λ s2 I2=>⟨_,H1,I2,q1⟩) hf
def uP (i j:Nat)(ta:TA):TS:=λ D σ H=>ta σ H λ vs H1=>∃ v w,vs=[v,w]/\D.nx ((σ.set i (some v)).set j (some w)) H1
theorem sE {i j:Nat}{x y:Str}{a b:Expr}{ta:TA}{px py pt:Pos}{kt k2 pt2}(hc:X.calm=true)(hN:X.N.Nodup)(hi:X.N[i]?=some x)(hj:X.N[j]?=some y)(hij:i≠j)
  (hx:X.env.scope.names.lookup x=some .local) (hy:X.env.scope.names.lookup y=some .local) (ha:PA X [a,b] ta)
  (hw:swappedStores [.Tuple [.Name x px,.Name y py] kt pt] (.Tuple [a,b] k2 pt2) X.env=pure (some [x,y]))
  (hs:autoParam (swapsWithSole [.Tuple [.Name x px,.Name y py] kt pt] (.Tuple [a,b] k2 pt2) pos.line X.env=pure false) ZE._auto_1):
  PS X (.Assign [.Tuple [.Name x px,.Name y py] kt pt] (.Tuple [a,b] k2 pt2) pos) (uP i j ta):=by
 intro pins s σ H D I h;rw[exec_Assign_arm];refine yB (A3 ?_);rw[hs];refine yB (yD ?_);rw[if_neg (by decide)];refine yB (Tuple_ (thn (ha _ pins s σ H _ I h) λ us s1 ⟨vs,H1,I1,r1,q1⟩=>?_));obtain⟨v,w,e1,q1⟩:=q1;subst e1;obtain⟨u1,u2,rfl,rv,rw'⟩:∃ u1 u2,us=[u1,u2]/\RelV v u1/\RelV w u2:=by
  cases r1 with
  | cons p q=>
   cases q with
   | cons p' q'=>
    cases q';exact⟨_,_,rfl,p,p'⟩
 refine zl ?_ (by show 2<=sizeLine;decide)
 have I2:Inv X pins σ H1 { s1 with heap:=s1.heap.push { cls:=.type "tuple",data:=.seq [u1,u2].toArray } }:=I1.kept (t':=s1.toks) λ b o e=>yE _ e
 rw[hw];refine yB (yD ?_);show wpAny (model X.prog X.w) X.A (do rule "assign.swapped-stores";let items <- unpackItems (.ref s1.heap.objs.size) 2 none;assignInOrder [λ v=>bindName X.env y v,λ v=>bindName X.env x v] items.reverse;pure Flow.next) _ _ _
 refine yB (zW (yB (unpackItems_tuple (items:=#[u1,u2]) (I.ok.hd hc) (IsTup.new s1.heap _) λ h' hx'=>?_)));have I3:=I2.kept (h':=h') (t':=s1.toks) λ b o e=>hx' b o (u9 (yG e)) e
 show wpAny _ _ (assignInOrder [λ v=>bindName X.env y v,λ v=>bindName X.env x v] [u2,u1] >>= λ _=>pure Flow.next) _ _ _
 refine yB (AY (wpAny_bindName (dJ I3 hN hj (.inl hy) rw' (λ s2 I4=>?_) (.inr hy))));refine AY (wpAny_bindName (dJ I4 hN hi (.inl hx) rv (λ s3 I5=>assignInOrder_nil (yD ?_)) (.inr hx)));rw[List.set_comm _ _ (Ne.symm hij)] at I5;exact⟨_,H1,I5,q1⟩
end
section
variable {X:Cx}{pos:Pos}
def sD (c:TT)(tb:TS):TS:=λ D σ H=>∃ W:Nat->St->Hp->Prop,(∃ m,W m σ H)/\∀ m σ H,W m σ H ->
 c σ H λ b H1=>if b=true then ∃ N:St->Hp->Prop,(∀ σ' H',N σ' H'->∃ m',m'<m/\W m' σ' H')/\tb { D with nx:=N,ct:=N,bk:=D.nx } σ H1 else D.nx σ H1
theorem oM {c:Expr}{body:List Stmt}{tc:TT}{tb:TS}(hp:PassesOwn (model X.prog X.w) X.A X.env X.xe)(hc:PT X c tc)(hb:PSs X body tb):PS X (.While c body [] pos) (sD tc tb):=by
 intro pins s σ H D I h;obtain⟨W,⟨m0,w0⟩,turn⟩:=h;refine wpAny_While (codeAny_whileLoop (λ n s'=>∃ σ' H',Inv X pins σ' H' s'/\W n σ' H') ?_ m0 ⟨σ,H,I,w0⟩)
 rintro n s1 ⟨σ1,H1,I1,w1⟩
 refine zE hp (thn (hc pins s1 σ1 H1 _ I1 (turn n σ1 H1 w1)) λ b s2 ⟨H2,I2,q2⟩=>?_);cases b with
 | true=>
  obtain⟨N,hN,q2⟩:=q2;rw[if_pos rfl];refine zE hp (thn (hb pins s2 σ1 H2 _ I2 q2) λ f s3 q3=>?_);cases f with
  | next=>
   obtain⟨σ3,H3,I3,n3⟩:=q3;obtain⟨m',hm,w3⟩:=hN σ3 H3 n3;exact⟨m',hm,σ3,H3,I3,w3⟩
  | cont=>
   obtain⟨σ3,H3,I3,n3⟩:=q3;obtain⟨m',hm,w3⟩:=hN σ3 H3 n3;exact⟨m',hm,σ3,H3,I3,w3⟩
  | brk=>exact q3
  | ret v=>exact q3
 | false=>
  rw[if_neg vq];exact AG ⟨σ1,H2,I2,q2⟩
end
structure It where
 go:Nat->Hp->Prop
 yld:Nat->Hp->V->Hp->Prop
 stop:Nat->Hp->Prop
def gh (X:Cx)(pins:List (Addr×Obj))(H:Hp)(b:Addr):Prop:=
 H b=none/\b≠X.env.locals/\b∉X.fs/\(b∈X.ex\/X.s₀.heap.objs.size<=b)/\(∀ x c,X.env.cells.lookup x=some c->c≠b)/\∀ p∈X.pn++pins,p.1≠b
theorem Inv.fpOk {X:Cx}{pins:List (Addr×Obj)}{σ:St}{H H':Hp}{s:Shared}{b:Addr}(I:Inv X pins σ H s)(hb:s.heap.objs.size<=b)(hn:H' b=none):gh X pins H' b:=by
 refine⟨hn,xo (vo I.lt hb),I.nofs hb,.inr (vF I.sz hb),λ x c e z=>?_,λ p hp z=>?_⟩
 ·obtain⟨v,q⟩:=I.cell x c e
  exact absurd (vo q.lt (by rw[z];exact hb)) (vI _)
 ·exact absurd (vo (yG (I.pin p hp).1) (by rw[z];exact hb)) (vI _)
structure Turn (P:Program)(w:World)(K:yC)(tg:Expr)(J:It)(fp:List Addr)(it:Addr)(tn:Nat->Heap->Prop):Prop where
 mem:it∈fp
 obj:∀ i h,tn i h->∀ b∈fp,∃ o,h.get? b=some o/\∀ v,o.data≠.cell v
 keep:∀ i h h',tn i h->(∀ b∈fp,∀ o,h.get? b=some o->h'.get? b=some o)->tn i h'
 item:∀ (X:Cx),X.prog=P->X.w=w->X.K=K->X.calm=true->∀ (i:Nat) (pins:List (Addr×Obj)) (s:Shared) (σ:St) (H:Hp) (E:Value->Shared->Prop),Inv X pins σ H s->(∀ b∈fp,gh X pins H b)->tn i s.heap->J.go i H ->
  wpAny (model P w) X.A (pyNext (.ref it)) (λ r s1=>∃ u,r=some u /\
   wpAny (model P w) X.A (letOwnedTupleGo tg (.ref it) u) (λ _ s2=>∃ x H',Inv X pins σ H' s2/\RelV x u/\J.yld i H x H'/\tn (i+1) s2.heap/\∀ b∈fp,H' b=none) E s1) E s
 done:∀ (X:Cx),X.prog=P->X.w=w->X.K=K->X.calm=true->∀ (i:Nat) (pins:List (Addr×Obj)) (s:Shared) (σ:St) (H:Hp) (E:Value->Shared->Prop),Inv X pins σ H s->(∀ b∈fp,gh X pins H b)->tn i s.heap->J.stop i H ->
  wpAny (model P w) X.A (pyNext (.ref it)) (λ r s1=>r=none/\Inv X pins σ H s1) E s
 self:∀ (A:Around) (i:Nat) (s:Shared) (Q:Value->Shared->Prop) (E:Value->Shared->Prop),tn i s.heap->Q (.ref it) s->wpAny (model P w) A (pyIter (.ref it)) Q E s
abbrev TI:=St->Hp->(It->Hp->Prop)->Prop
def PIE (X:Cx)(pins:List (Addr×Obj))(σ:St)(tg:Expr)(R:It->Hp->Prop)(itv:Value)(s2:Shared):Prop:=
 ∃ (it:Addr) (fp:List Addr) (tn:Nat->Heap->Prop) (J:It) (H':Hp),itv=.ref it/\Inv X pins σ H' s2/\Turn X.prog X.w X.K tg J fp it tn/\tn 0 s2.heap/\(∀ b∈fp,gh X pins H' b)/\R J H'
def PI (X:Cx)(tg iter:Expr)(wi:TI):Prop:=
 ∀ (pins:List (Addr×Obj)) (s:Shared) (σ:St) (H:Hp) (R:It->Hp->Prop),Inv X pins σ H s->wi σ H R ->
  wpAny (model X.prog X.w) X.A (eval iter X.env) (λ v s1=>wpAny (model X.prog X.w) X.A (pyIter v) (PIE X pins σ tg R) X.xe s1) X.xe s
theorem qY {M:Model}{A:Around}{E:Value->Shared->Prop}{s:Shared}{tg:Expr}{it:Addr}{u:Value}{o:Obj}{n:String}{vs:Array Value}{Q:Unit->Shared->Prop}(ho:s.heap.get? it=some o)(hc:o.cls=.type n)(hd:o.data=.fields vs)
    (hn:["enumerate","zip","dict_itemiterator","dict_reverseitemiterator","odict_iterator","itertools.zip_longest","itertools.pairwise"].contains n=false) (hQ:Q () s):wpAny M A (letOwnedTupleGo tg (.ref it) u) Q E s:=by
  unfold letOwnedTupleGo;cases tg <;>first
    | exact yD hQ
    | (cases u <;>first
        | exact yD hQ
        | (refine yB (wpAny_load ho ?_)
           rw[hc,hd];show wpAny M A (if (["enumerate","zip","dict_itemiterator","dict_reverseitemiterator","odict_iterator","itertools.zip_longest","itertools.pairwise"].contains n&&vs[0]? == some (rawInt _))=true then _ else _) Q E s
           rw[if_neg (by intro h;rw[hn,wq] at h;cases h)];exact yD hQ))
def Itl (K:yC)(a:Addr):It:=
 ⟨λ i H=>∃ xs x,SqL K H a xs/\xs[i]?=some x,λ i H x H'=>H'=H/\∀ xs,SqL K H a xs->xs[i]?=some x,λ i H=>∃ xs,SqL K H a xs/\xs.length<=i⟩
def Itr (lo:Int)(n:Nat):It:=⟨λ i _=>i<n,λ i H x H'=>H'=H/\x=.int (lo+i),λ i _=>n<=i⟩
theorem lA {P:Program}{w:World}{K:yC}{tg:Expr}(a it:Addr):Turn P w K tg (Itl K a) [it] it (λ i h=>h.IsListIter it a i) where
 mem:=by simp
 obj:=λ i h st b hb=>by
  have e:b=it:=by simpa using hb
  subst e;obtain⟨o,e,c,d⟩:=st;exact⟨o,e,λ v z=>by rw[d] at z;cases z⟩
 keep:=λ i h h' st k=>st.at λ o e=>k it (by simp) o e
 item:=by
  intro X hP hw hK hc i pins s σ H E I hf st hg;subst hP hw hK;obtain⟨xs,x,hq,hx⟩:=hg;obtain⟨its,rv,p,hz⟩:=I.list hq;obtain⟨u,hu,ru⟩:=rv.get hx;obtain⟨f0,f1,f2,f3,f4,f5⟩:=hf it (by simp);refine Ao st p.isList (x:=u) (by simpa using hu) λ h' st' sb=>?_
  have I1:Inv X pins σ H { s with heap:=h' }:=I.turned (t':=s.toks) (λ b o hb e=>(sb.2 b hb).trans e) f0 f1 f3 f4 f5;obtain⟨o,e,c,d⟩:=id st';exact⟨u,rfl,qY (s:={ s with heap:=h' }) e c d (by decide) ⟨x,H,I1,ru,⟨rfl,λ ys hy=>by rw[I.list_inj hy hq];exact hx⟩,st',λ b hb=>(hf b hb).1⟩⟩
 done:=by
  intro X hP hw hK hc i pins s σ H E I hf st hg;subst hP hw hK;obtain⟨xs,hq,hx⟩:=hg;obtain⟨its,rv,p,hz⟩:=I.list hq;obtain⟨f0,f1,f2,f3,f4,f5⟩:=hf it (by simp);have hl:=rv.length;exact AA (I.ok.hd hc) st p.isList (by simp;omega) λ h' eb=>⟨rfl,I.turned (t':=s.toks) (λ b o hb e=>eb b o hb e) f0 f1 f3 f4 f5⟩
 self:=λ _ _ _ _ _ st h=>wpAny_pyIter_listiter st h
theorem kb {P:Program}{w:World}{K:yC}{tg:Expr}(it:Addr)(lo:Int)(n:Nat):Turn P w K tg (Itr lo n) [it] it (λ i h=>IsRangeIter h it (lo+(i:Nat)*1) ((n:Int)-(i:Nat)) 1) where
 mem:=by simp
 obj:=λ i h st b hb=>by
  have e:b=it:=by simpa using hb
  subst e;exact⟨_,st,λ v z=>by
   have z':Data.fields _=Data.cell v:=z;cases z'⟩
 keep:=λ i h h' st k=>k it (by simp) _ st
 item:=by
  intro X hP hw hK hc i pins s σ H E I hf st hg;subst hP hw hK;obtain⟨f0,f1,f2,f3,f4,f5⟩:=hf it (by simp);have W:=Walks.range (prog:=X.prog) (w:=X.w) (I.ok.hd hc) it lo 1 n;refine W.item i s _ _ hg st λ v h' tk hv st' kk=>?_
  obtain⟨t,rfl⟩:=hv;have I1:Inv X pins σ H { s with heap:=h',toks:=tk }:=I.turned (λ b o hb e=>kk b o (by simpa using hb) e) f0 f1 f3 f4 f5;refine⟨_,rfl,qY (s:={ s with heap:=h',toks:=tk }) (n:="range_iterator") st' rfl rfl (by decide) ⟨.int (lo+i),H,I1,⟨t,?_⟩,⟨rfl,rfl⟩,st',λ b hb=>(hf b hb).1⟩⟩;rw[yw]
 done:=by
  intro X hP hw hK hc i pins s σ H E I hf st hg;subst hP hw hK;obtain⟨f0,f1,f2,f3,f4,f5⟩:=hf it (by simp);exact wpAny_pyNext_range_end (I.ok.hd hc) st (by have:n<=i:=hg;omega) λ h' eb=>⟨rfl,I.turned (t':=s.toks) (λ b o hb e=>eb b o hb e) f0 f1 f3 f4 f5⟩
 self:=λ _ _ _ _ _ st h=>wpAny_pyIter_rangeiter st h
section
variable {X:Cx}{tg:Expr}
def ni (K:yC)(tl:TE):TI:=λ σ H R=>tl σ H λ x H1=>∃ a,x=.ref a/\(∃ xs,SqL K H1 a xs)/\R (Itl K a) H1
theorem ip {l:Expr}{tl:TE}(hl:PE X l tl):PI X tg l (ni X.K tl):=by
 intro pins s σ H R I h;refine thn (hl pins s σ H _ I h) λ v s1 ⟨x,H1,I1,r1,q1⟩=>?_
 obtain⟨a,e,⟨xs,hq⟩,q⟩:=q1;subst e;cases r1;obtain⟨its,rv,p,hz⟩:=I1.list hq;refine A8 p.isList ?_
 refine⟨s1.heap.objs.size,[s1.heap.objs.size],_,_,H1,rfl,I1.kept (t':=s1.toks) λ b o e=>yE _ e,lA a _,⟨_,yL _ rfl,rfl,rfl⟩,λ b hb=>?_,q⟩;have e:b=s1.heap.objs.size:=by simpa using hb
 subst e;exact I1.fpOk (u5 _) (I1.hok.fresh (u5 _))
theorem ju {pins:List (Addr×Obj)}{σ:St}{H:Hp}{s:Shared}{R:It->Hp->Prop}{E:Value->Shared->Prop}{lo hi:Int}{t u v:Tok}{tk:Nat}(I:Inv X pins σ H s)(h1:-(2 ^ 62)<=lo)(h2:lo<2 ^ 62)(h3:-(2 ^ 62)<=hi)(h4:hi<2 ^ 62)
  (q:R (Itr lo (hi-lo).toNat) H):wpAny (model X.prog X.w) X.A (pyIter (.ref s.heap.objs.size)) (PIE X pins σ tg R) E { s with heap:=s.heap.push { cls:=.type "range",data:=.fields #[.int lo t,.int hi u,.int 1 v] },toks:=tk }:=by
 refine wpAny_pyIter_range (Cj ..) (small_one h1 h2 h3 h4) ?_
 have I1:Inv X pins σ H { s with heap:=s.heap.push { cls:=.type "range",data:=.fields #[.int lo t,.int hi u,.int 1 v] },toks:=tk }:=I.kept λ b o e=>yE _ e
 refine⟨(s.heap.push { cls:=.type "range",data:=.fields #[.int lo t,.int hi u,.int 1 v] }).objs.size,[(s.heap.push { cls:=.type "range",data:=.fields #[.int lo t,.int hi u,.int 1 v] }).objs.size],_,_,H,rfl,
  I1.kept (t':=tk) λ b o e=>yE _ e,kb _ lo (hi-lo).toNat,?_,λ b hb=>?_,q⟩
 ·have e1:lo+((0:Nat):Int)*1=lo:=by simp
  have e2:(((hi-lo).toNat:Nat):Int)-((0:Nat):Int)=zL lo hi 1:=by rw[rangeSize_one];split <;>omega
  show IsRangeIter _ _ (lo+((0:Nat):Int)*1) ((((hi-lo).toNat:Nat):Int)-((0:Nat):Int)) 1
  rw[e1,e2];exact yL _ rfl
 ·have e:b=(s.heap.push { cls:=.type "range",data:=.fields #[.int lo t,.int hi u,.int 1 v] }).objs.size:=by simpa using hb
  subst e;exact I1.fpOk (u5 _) (I1.hok.fresh (u5 _))
def t7 (ta:TA):TI:=λ σ H R=>ta σ H λ vs H1=>∃ j:Int,vs=[.int j]/\-(2 ^ 62)<=j/\j<2 ^ 62/\R (Itr 0 j.toNat) H1
def uc (ta:TA):TI:=λ σ H R=>ta σ H λ vs H1=>∃ i j:Int,vs=[.int i,.int j]/\(-(2 ^ 62)<=i/\i<2 ^ 62/\-(2 ^ 62)<=j/\j<2 ^ 62)/\R (Itr i (j-i).toNat) H1
theorem lQ {a:Expr}{ta:TA}{p pos:Pos}(hg:Gl X "range")(hm:X.mg "range"=none)(ha:PA X [a] ta)(hs:autoParam (starEach [a] X.env=[(false,eval a X.env)]) ZE._auto_1):PI X tg (.Call (.Name "range" p) [a] [] pos) (t7 ta):=by
 intro pins s σ H R I h;refine Call_ (bE I hg hm BN (yS (thn (ha pos pins s σ H _ I h) λ us s1 ⟨vs,H1,I1,r1,q1⟩=>?_) hs rfl));obtain⟨j,e,q1,q2,q⟩:=q1;subst e;cases r1 with
 | cons r rr=>
  cases rr;obtain⟨t,rfl⟩:=r;exact call_range_1 (ju I1 ⋯ ⋯ q1 q2 (by simpa using q))
theorem lB {a b:Expr}{ta:TA}{p pos:Pos}(hg:Gl X "range")(hm:X.mg "range"=none)(ha:PA X [a,b] ta)(hs:autoParam (starEach [a,b] X.env=[(false,eval a X.env),(false,eval b X.env)]) ZE._auto_1)(hs2:autoParam (starEach [b] X.env=[(false,eval b X.env)]) ZE._auto_1):
  PI X tg (.Call (.Name "range" p) [a,b] [] pos) (uc ta):=by
 intro pins s σ H R I h;refine Call_ (bE I hg hm BN (yS (thn (ha pos pins s σ H _ I h) λ us s1 ⟨vs,H1,I1,r1,q1⟩=>?_) (by rw[hs,hs2]) (by rw[hs2];rfl)));obtain⟨i,j,e,⟨q1,q2,q3,q4⟩,q⟩:=q1;subst e;cases r1 with
 | cons r rr=>
  cases rr with
  | cons r' rr=>
   cases rr;obtain⟨t,rfl⟩:=r;obtain⟨t',rfl⟩:=r';exact call_range_2 (ju I1 q1 q2 q3 q4 q)
def sR (wi:TI)(g:TG)(tb:TS):TS:=λ D σ H=>wi σ H λ J H1=>∃ W:Nat->Nat->St->Hp->Prop,(∃ m,W 0 m σ H1)/\∀ i m σ H,W i m σ H ->
 (J.stop i H/\D.nx σ H)\/(J.go i H/\∃ N:St->Hp->Prop,(∀ σ' H',N σ' H'->∃ m',m'<m/\W (i+1) m' σ' H')/\∀ x H',J.yld i H x H'->g x σ H' λ σ2 H2=>tb { D with nx:=N,ct:=N,bk:=D.nx } σ2 H2)
def fS (fp:List Addr)(h:Heap):List (Addr×Obj):=fp.filterMap λ b=>(h.get? b).map λ o=>(b,o)
theorem cj {fp:List Addr}{h:Heap}{b:Addr}{o:Obj}(hb:b∈fp)(e:h.get? b=some o):(b,o)∈fS fp h:=List.mem_filterMap.mpr ⟨b,hb,by rw[e];rfl⟩
theorem lM {fp:List Addr}{h:Heap}{p:Addr×Obj}(hp:p∈fS fp h):p.1∈fp/\h.get? p.1=some p.2:=by
 obtain⟨b,hb,e⟩:=List.mem_filterMap.mp hp;cases q:h.get? b with
 | none=>rw[q] at e;cases e
 | some o=>
  rw[q] at e;have e':(b,o)=p:=Option.some.inj e;subst e';exact⟨hb,q⟩
theorem Inv.pinned {pins:List (Addr×Obj)}{σ:St}{H:Hp}{s:Shared}{fp:List Addr}(I:Inv X pins σ H s)(hf:∀ b∈fp,gh X pins H b)(ho:∀ b∈fp,∃ o,s.heap.get? b=some o/\∀ v,o.data≠.cell v):Inv X (pins++fS fp s.heap) σ H s:=
 I.pins_of λ p hp=>(List.mem_append.mp hp).elim (λ z=>I.pin p (vk _ z)) λ z=>by
  obtain⟨hb,e⟩:=lM z;obtain⟨f0,f1,f2,_⟩:=hf p.1 hb;obtain⟨o,e',d⟩:=ho p.1 hb;rw[e] at e';cases e';exact⟨e,f0,f1,f2,d⟩
theorem Inv.unpinned {pins pl:List (Addr×Obj)}{σ:St}{H:Hp}{s:Shared}(I:Inv X (pins++pl) σ H s):Inv X pins σ H s:=I.pins_of λ p hp=>I.pin p (vk _ (vW _ hp))
theorem kg {iter:Expr}{body:List Stmt}{wi:TI}{g:TG}{tb:TS}{pos:Pos}(hp:PassesOwn (model X.prog X.w) X.A X.env X.xe)(hc:X.calm=true)(hi:PI X tg iter wi)(hg:PG X tg g)(hb:PSs X body tb)
  (hs:autoParam (∀ x,foldedSetIterable iter X.env x=pure x) ZD._auto_1):PS X (.For tg iter body [] pos) (sR wi g tb):=by
 intro pins s σ H D I h;refine wpAny_For (thn (hi pins s σ H _ I h) λ v s1 h1=>thn h1 λ itv s2 h2=>?_) hs;obtain⟨it,fp,tn,J,H2,e,I2,T,st2,f2,W,⟨m0,w0⟩,turn⟩:=h2;subst e;have stat:∀ {H':Hp},(∀ b∈fp,H' b=none)->∀ b∈fp,gh X pins H' b:=λ hn b hb=>⟨hn b hb,(f2 b hb).2⟩
 refine codeAny_forLoop_any (λ n s'=>∃ i σ' H',Inv X pins σ' H' s'/\tn i s'.heap/\(∀ b∈fp,H' b=none)/\W i n σ' H') ?_ m0 ⟨0,σ,H2,I2,st2,λ b hb=>(f2 b hb).1,w0⟩
 rintro n s3 ⟨i,σ3,H3,I3,st3,fr3,w3⟩
 rcases turn i n σ3 H3 w3 with ⟨stop,qn⟩|⟨go,N,hN,step⟩
 ·refine zE hp (thn (T.done X rfl rfl rfl hc i pins s3 σ3 H3 X.xe I3 (stat fr3) st3 stop) λ r s4 ⟨hr,I4⟩=>?_)
  subst hr;exact AG ⟨σ3,H3,I4,qn⟩
 ·refine zE hp (thn (T.item X rfl rfl rfl hc i pins s3 σ3 H3 X.xe I3 (stat fr3) st3 go) λ r s4 ⟨u,hr,h4⟩=>?_)
  subst hr;refine zE hp (thn h4 λ _ s5 ⟨x,H5,I5,r5,y5,st5,fr5⟩=>?_);have I5':=I5.pinned (stat fr5) (T.obj _ _ st5);refine zE hp (thn (hg _ s5 σ3 H5 x u _ I5' r5 (step x H5 y5)) λ _ s6 ⟨σ6,H6,I6,q6⟩=>?_);refine zE hp (thn (hb _ s6 σ6 H6 _ I6 q6) λ f s7 q7=>?_);have again:∀ {σ7:St} {H7:Hp},Inv X (pins++fS fp s5.heap) σ7 H7 s7->N σ7 H7->∃ m,m<n/\∃ i σ' H',Inv X pins σ' H' s7/\tn i s7.heap/\(∀ b∈fp,H' b=none)/\W i m σ' H':=λ {σ7 H7} I7 n7=>by
   obtain⟨m',hm,w7⟩:=hN σ7 H7 n7;refine⟨m',hm,i+1,σ7,H7,I7.unpinned,T.keep _ _ _ st5 λ b hb o e=>(I7.pin (b,o) (vk _ (vk _ (cj hb e)))).1,λ b hb=>?_,w7⟩;obtain⟨o,e,d⟩:=T.obj _ _ st5 b hb;exact(I7.pin (b,o) (vk _ (vk _ (cj hb e)))).2.1
  cases f with
  | next=>obtain⟨σ7,H7,I7,n7⟩:=q7;exact again I7 n7
  | cont=>obtain⟨σ7,H7,I7,n7⟩:=q7;exact again I7 n7
  | brk=>obtain⟨σ7,H7,I7,q7⟩:=q7;exact⟨σ7,H7,I7.unpinned,q7⟩
  | ret v=>obtain⟨x7,σ7,H7,I7,r7,q7⟩:=q7;exact⟨x7,σ7,H7,I7.unpinned,r7,q7⟩
end
theorem jq {K:yC}{a:Addr}{xs:List V}{g:TG}{tb:TS}{D:Ends}{σ:St}{H:Hp}(Pv:Nat->St->Hp->Prop)(h0:Pv 0 σ H)(hl:∀ i σ H,i<=xs.length->Pv i σ H->SqL K H a xs)
  (hs:∀ i x σ H,xs[i]?=some x->Pv i σ H->g x σ H λ σ2 H2=>tb { D with nx:=Pv (i+1),ct:=Pv (i+1),bk:=D.nx } σ2 H2) (hd:∀ σ H,Pv xs.length σ H->D.nx σ H):
  ∃ W:Nat->Nat->St->Hp->Prop,(∃ m,W 0 m σ H)/\∀ i m σ H,W i m σ H ->
   ((Itl K a).stop i H/\D.nx σ H)\/((Itl K a).go i H/\∃ N:St->Hp->Prop,(∀ σ' H',N σ' H'->∃ m',m'<m/\W (i+1) m' σ' H')/\∀ x H',(Itl K a).yld i H x H'->g x σ H' λ σ2 H2=>tb { D with nx:=N,ct:=N,bk:=D.nx } σ2 H2):=by
 refine⟨λ i m σ H=>m=xs.length-i/\i<=xs.length/\Pv i σ H,⟨xs.length,by simp,vK _,h0⟩,?_⟩
 rintro i m σ H ⟨rfl,hi,p⟩
 have q:=hl i σ H hi p;by_cases hlt:i<xs.length
 ·refine .inr ⟨⟨xs,xs[i],q,by simp[hlt]⟩,Pv (i+1),λ σ' H' p'=>⟨xs.length-(i+1),⋯,rfl,hlt,p'⟩,λ x H' y=>?_⟩
  obtain⟨e,y⟩:=y;subst e;exact hs i x σ _ (y xs q) p
 ·have e:i=xs.length:=⋯
  subst e;exact .inl ⟨⟨xs,q,u5 _⟩,hd σ H p⟩
abbrev R2:=V->V->Hp->VK->Prop
def OpR (X:Cx)(f:Value->Value->Sem Value)(r:R2):Prop:=
 ∀ (pins:List (Addr×Obj)) (s:Shared) (σ:St) (H:Hp) (x y:V) (v u:Value) (Q:VK),Inv X pins σ H s->RelV x v->RelV y u->r x y H Q ->
  wpAny (model X.prog X.w) X.A (f v u) (EP X pins σ Q) X.xe s
def cy (X:Cx)(f:Value)(r:List V->Hp->VK->Prop):Prop:=
 ∀ (pins:List (Addr×Obj)) (s:Shared) (σ:St) (H:Hp) (xs:List V) (us:List Value) (Q:VK),Inv X pins σ H s->Vals xs us->r xs H Q ->
  wpAny (model X.prog X.w) X.A (call f us) (EP X pins σ Q) X.xe s
def tOp (r:R2)(ta tb:TE):TE:=λ σ H Q=>ta σ H λ x H1=>tb σ H1 λ y H2=>r x y H2 Q
def rI (C:Int->Int->Prop)(g:Int->Int->V):R2:=λ x y H Q=>∃ i j,x=.int i/\y=.int j/\C i j/\Q (g i j) H
def rI0 (g:Int->Int->V):R2:=λ x y H Q=>∃ i j,x=.int i/\y=.int j/\Q (g i j) H
section
variable {X:Cx}{a b c:Expr}{ta tb tc:TE}{pos:Pos}
theorem sQ (ha:PE X a ta)(hb:PE X b tb){pins:List (Addr×Obj)}{s:Shared}{σ:St}{H:Hp}{R:V->V->Hp->Prop}(I:Inv X pins σ H s)
  (h:ta σ H λ x H1=>tb σ H1 λ y H2=>R x y H2) {Q:Value->Shared->Prop} {f:Value->Value->Sem Value}
  (hf:∀ v u s2 x y H2,Inv X pins σ H2 s2->RelV x v->RelV y u->R x y H2->wpAny (model X.prog X.w) X.A (f v u) Q X.xe s2):
  wpAny (model X.prog X.w) X.A (eval a X.env) (λ v s₁=>wpAny (model X.prog X.w) X.A (eval b X.env) (λ u s₂=>wpAny (model X.prog X.w) X.A (f v u) Q X.xe s₂) X.xe s₁) X.xe s:=by
 refine thn (ha pins s σ H _ I h) λ v s1 ⟨x,H1,I1,r1,q1⟩=>?_
 refine thn (hb pins s1 σ H1 _ I1 q1) λ u s2 ⟨y,H2,I2,r2,q2⟩=>?_
 exact hf v u s2 x y H2 I2 r1 r2 q2
theorem rh {op:Operator}{r:R2}(ho:OpR X (binaryOp op) r)(ha:PE X a ta)(hb:PE X b tb):PE X (.BinOp a op b pos) (tOp r ta tb):=by
 intro pins s σ H Q I h;exact wpAny_BinOp (sQ ha hb I h λ v u s2 x y H2 I2 rx ry q=>ho pins s2 σ H2 x y v u Q I2 rx ry q)
theorem opI {f:Value->Value->Sem Value}{C:Int->Int->Prop}{g:Int->Int->Int}
  (rule:∀ (i j:Int) (t u:Tok) (s:Shared) (Q:Value->Shared->Prop) (E:Value->Shared->Prop),C i j->Q (.int (g i j) s.toks) { s with toks:=s.toks+1 }->wpAny (model X.prog X.w) X.A (f (.int i t) (.int j u)) Q E s):
  OpR X f (rI C λ i j=>.int (g i j)):=by
 intro pins s σ H x y v u Q I rx ry h;obtain⟨i,j,rfl,rfl,hc,q⟩:=h;obtain⟨t,rfl⟩:=rx;obtain⟨t',rfl⟩:=ry;exact rule i j t t' s _ _ hc ⟨.int (g i j),H,I.tok _,⟨_,rfl⟩,q⟩
theorem uK {f:Value->Value->Sem Value}{g:Int->Int->Int}
  (rule:∀ (i j:Int) (t u:Tok) (s:Shared) (Q:Value->Shared->Prop) (E:Value->Shared->Prop),Q (.int (g i j) s.toks) { s with toks:=s.toks+1 }->wpAny (model X.prog X.w) X.A (f (.int i t) (.int j u)) Q E s):
  OpR X f (rI0 λ i j=>.int (g i j)):=by
 intro pins s σ H x y v u Q I rx ry h;obtain⟨i,j,rfl,rfl,q⟩:=h;obtain⟨t,rfl⟩:=rx;obtain⟨t',rfl⟩:=ry;exact rule i j t t' s _ _ ⟨.int (g i j),H,I.tok _,⟨_,rfl⟩,q⟩
theorem tT {f:Value->Value->Sem Value}{g:Int->Int->Bool}
  (rule:∀ (i j:Int) (t u:Tok) (s:Shared) (Q:Value->Shared->Prop) (E:Value->Shared->Prop),Q (.bool (g i j)) s->wpAny (model X.prog X.w) X.A (f (.int i t) (.int j u)) Q E s):
  OpR X f (rI0 λ i j=>.bl (g i j)):=by
 intro pins s σ H x y v u Q I rx ry h;obtain⟨i,j,rfl,rfl,q⟩:=h;obtain⟨t,rfl⟩:=rx;obtain⟨t',rfl⟩:=ry;exact rule i j t t' s _ _ ⟨.bl (g i j),H,I,rfl,q⟩
def CMul (i j:Int):Prop:=(-(2 ^ 64)<i/\i<2 ^ 64)\/(-(2 ^ 64)<j/\j<2 ^ 64)
theorem CMul.ok {i j:Int}(h:CMul i j):IntMulOk i j:=by
 rcases h with ⟨h1,h2⟩|⟨h1,h2⟩
 ·exact .of_left (intBits_le_64 h1 h2)
 ·exact .of_right (intBits_le_64 h1 h2)
theorem nN:OpR X (binaryOp .Add) (rI0 λ i j=>.int (i+j)):=uK λ _ _ _ _ _ _ _ q=>add_int q
theorem sI:OpR X (binaryOp .Mod) (rI (λ _ j=>0<j) λ i j=>.int (i%j)):=opI λ i j _ _ _ _ _ hc q=>by
 have h1:(0:Int)<j:=hc;exact mod_int' ⋯ (by rw[Int.fmod_eq_emod_of_nonneg i ⋯];exact q)
end
def scal:V->V->Bool
 | .non,.non=>true | .non,.int _=>true | .int _,.non=>true | .non,.bl _=>true | .bl _,.non=>true | .non,.str _=>true | .str _,.non=>true
 | .int _,.int _=>true | .bl _,.bl _=>true | .str _,.str _=>true | .byt _,.byt _=>true
 | .int _,.str _=>true | .str _,.int _=>true | .bl _,.str _=>true | .str _,.bl _=>true
 | _,_=>false
def rEq:R2:=λ x y H Q=>scal x y=true/\Q (.bl (decide (x=y))) H
theorem qj {i j:Int}:decide (V.int i=V.int j)=(i == j):=by
 rw[vJ];simp
theorem rZ {i j:Bool}:decide (V.bl i=V.bl j)=(i == j):=by
 rw[vJ];simp
theorem qv {i j:Str}:decide (V.str i=V.str j)=(i == j):=by
 rw[vJ];simp
theorem p7 {i j:Array UInt8}:decide (V.byt i=V.byt j)=(i.toList == j.toList):=by
 rw[vJ];cases i;cases j;simp
section
variable {X:Cx}{a b c:Expr}{ta tb tc:TE}{pos:Pos}
theorem aY {pins:List (Addr×Obj)}{σ:St}{H:Hp}{s:Shared}{Q:VK}{k k':Bool}(I:Inv X pins σ H s)(q:Q (.bl k) H)(e:k=k'):EP X pins σ Q (.bool k') s:=by
 subst e;exact⟨.bl k,H,I,rfl,q⟩
theorem rj:OpR X (compareOp .Eq) rEq:=by
 intro pins s σ H x y v u Q I rx ry h;obtain⟨hs,q⟩:=h;cases x with
 | non=>
  cases rx;cases y with
  | non=>cases ry;exact PySem.EqNone.eq_none_none (aY I q (by simp))
  | bl j=>cases ry;exact PySem.EqNone.eq_none_bool (aY I q (by simp))
  | int j=>obtain⟨t',rfl⟩:=ry;exact PySem.EqNone.eq_none_int (aY I q (by simp))
  | str j=>obtain⟨t',rfl⟩:=ry;exact PySem.EqNone.eq_none_str (aY I q (by simp))
  | _=>exact absurd (show false=true from hs) vq
 | bl i=>
  cases rx;cases y with
  | non=>cases ry;exact PySem.EqNone.eq_bool_none (aY I q (by simp))
  | bl j=>cases ry;exact eq_bool (aY I q rZ)
  | str j=>obtain⟨t',rfl⟩:=ry;exact PySem.EqMixed.eq_bool_str (aY I q (by simp))
  | _=>exact absurd (show false=true from hs) vq
 | int i=>
  obtain⟨t,rfl⟩:=rx;cases y with
  | non=>cases ry;exact PySem.EqNone.eq_int_none (aY I q (by simp))
  | int j=>obtain⟨t',rfl⟩:=ry;exact eq_int (aY I q qj)
  | str j=>obtain⟨t',rfl⟩:=ry;exact PySem.EqMixed.eq_int_str (aY I q (by simp))
  | _=>exact absurd (show false=true from hs) vq
 | str i=>
  obtain⟨t,rfl⟩:=rx;cases y with
  | non=>cases ry;exact PySem.EqNone.eq_str_none (aY I q (by simp))
  | bl j=>cases ry;exact PySem.EqMixed.eq_str_bool (aY I q (by simp))
  | int j=>obtain⟨t',rfl⟩:=ry;exact PySem.EqMixed.eq_str_int (aY I q (by simp))
  | str j=>obtain⟨t',rfl⟩:=ry;exact eq_str (aY I q qv)
  | _=>exact absurd (show false=true from hs) vq
 | byt i=>
  obtain⟨t,rfl⟩:=rx;cases y with
  | byt j=>obtain⟨t',rfl⟩:=ry;exact PySem.W.eq_bytes (aY I q p7)
  | _=>exact absurd (show false=true from hs) vq
 | _=>cases y <;>exact absurd (show false=true from hs) vq
theorem uk:OpR X (compareOp .Lt) (rI0 λ i j=>.bl (decide (i<j))):=tT λ _ _ _ _ _ _ _ q=>lt_int q
theorem tM:OpR X (compareOp .Gt) (rI0 λ i j=>.bl (decide (j<i))):=tT λ _ _ _ _ _ _ _ q=>gt_int q
theorem OpR.or {f:Value->Value->Sem Value}{r r':R2}(h:OpR X f r)(h':OpR X f r'):OpR X f (λ x y H Q=>r x y H Q\/r' x y H Q):=by
 intro pins s σ H x y v u Q I rx ry q
 rcases q with q|q
 ·exact h pins s σ H x y v u Q I rx ry q
 ·exact h' pins s σ H x y v u Q I rx ry q
theorem nomark (b:Expr){op:CmpOp}(h:autoParam (op≠.In) ZC._auto_1)(h2:autoParam (op≠.NotIn) ZC._auto_1):behindInMarks op b=false:=by
 have e1:(op == CmpOp.In)=false:=by cases op <;>first|rfl|exact absurd rfl h
 have e2:(op == CmpOp.NotIn)=false:=by cases op <;>first|rfl|exact absurd rfl h2
 cases b <;>simp[behindInMarks,e1,e2]
theorem eU {op:CmpOp}{r:R2}(ho:OpR X (compareOp op) r)(ha:PE X a ta)(hb:PE X b tb)(hm:behindInMarks op b=false):PE X (.Compare a [op] [b] pos) (tOp r ta tb):=by
 intro pins s σ H Q I h;exact wpAny_Compare1 (sQ ha hb I h λ v u s2 x y H2 I2 rx ry q=>ho pins s2 σ H2 x y v u Q I2 rx ry q) hm
def tj (t:TE):TT:=λ σ H Q=>t σ H λ x H'=>∃ k,x=.bl k/\Q k H'
theorem qM {op:CmpOp}{r:R2}(ho:OpR X (compareOp op) r)(ha:PE X a ta)(hb:PE X b tb)(hm:behindInMarks op b=false):PT X (.Compare a [op] [b] pos) (tj (tOp r ta tb)):=by
 intro pins s σ H Q I h;refine wpAny_isTrue_Compare1 (thn (ha pins s σ H _ I h) λ v s1 ⟨x,H1,I1,r1,q1⟩=>thn (hb pins s1 σ H1 _ I1 q1) λ u s2 ⟨y,H2,I2,r2,q2⟩=>
  thn (ho pins s2 σ H2 x y v u _ I2 r1 r2 q2) λ c s3 ⟨z,H3,I3,r3,k,e,q3⟩=>?_) hm
 subst e;cases r3;exact A7 ⟨H3,I3,q3⟩
theorem j7:(sizeLine:Nat)<2 ^ 63:=by rw[yZ];decide
theorem vals1 {x:V}{us:List Value}(r:Vals [x] us):∃ u,us=[u]/\RelV x u:=by
 cases r with
 | cons r1 r2=>cases r2;exact⟨_,rfl,r1⟩
theorem vals2 {x y:V}{us:List Value}(r:Vals [x,y] us):∃ u w',us=[u,w']/\RelV x u/\RelV y w':=by
 cases r with
 | cons r1 r2=>
  cases r2 with
  | cons r3 r4=>cases r4;exact⟨_,_,rfl,r1,r3⟩
end
structure Cls (K:yC)(C:Addr):Prop where
 pg:Cr K C Str.empty=true
 hd:PySem.W.hasDictIn K C=true
 po:PySem.W.plainOver K C=true
 sa:zR K (.ref C) "__setattr__"=some (some (.builtin "object.__setattr__"))
theorem Cls.get {K:yC}{C:Addr}(c:Cls K C)(f:Str):Cr K C f=true:=c.pg
def tf (K:yC)(C:Addr)(f:Str):Prop:=zR K (.ref C) f=some none
structure Room (k:Nat)(A:Around):Prop where
 hd:A.handled=none
 dp:A.depth+3*k+5<recursionLimit
 un:A.units+16*k+200<cLine
theorem Room.mono {j k:Nat}{A:Around}(r:Room k A)(h:j<=k):Room j A:=⟨r.hd,by have:=r.dp;omega,by have:=r.un;omega⟩
theorem Room.deeper {k:Nat}{A:Around}(r:Room (k+1) A)(env:Env):Room k (A.deeper env):=
 ⟨r.hd,by have:=r.dp;show A.depth+1+3*k+5<_;omega,by have:=r.un;show A.units+3+16*k+200<_;omega⟩
theorem Room.depth {k:Nat}{A:Around}(r:Room k A):A.depth<recursionLimit:=by have:=r.dp;omega
theorem Room.units {k:Nat}{A:Around}(r:Room k A):A.units+64<cLine:=by have:=r.un;omega
def sj:TA:=λ _ H Q=>Q [] H
def n5 (ta:TE)(tr:TA):TA:=λ σ H Q=>ta σ H λ x H1=>tr σ H1 λ xs H2=>Q (x::xs) H2
section
variable {X:Cx}{e:Expr}{es:List Expr}{te:TE}{t:TA}{pos:Pos}
theorem bj:PA X [] sj:=λ _ _ _ _ H Q I h=>zm ⟨[],H,I,.nil,h⟩
theorem aI (ha:PE X e te)(hr:PA X es t)(hs:autoParam (starEach (e::es) X.env=(false,eval e X.env)::starEach es X.env) ZE._auto_1):PA X (e::es) (n5 te t):=by
 intro pos pins s σ H Q I h;rw[hs];show wpAny _ _ (spliced ((false,eval e X.env)::backTo pos (starEach es X.env))) _ _ s
 refine yW (thn (ha pins s σ H _ I h) λ u s1 ⟨x,H1,I1,r1,q1⟩=>?_);exact thn (hr pos pins s1 σ H1 _ I1 q1) λ us s2 ⟨xs,H2,I2,r2,q2⟩=>⟨x::xs,H2,I2,.cons r1 r2,q2⟩
def ur (t:TA):TE:=λ σ H Q=>t σ H λ xs H1=>xs.length<=sizeLine/\∀ p,H1 p=none->Q (.ref p) (upd H1 p (.tup xs))
def uJ (t:TA):TE:=λ σ H Q=>t σ H λ xs H1=>xs.length<=sizeLine/\∀ p,H1 p=none->Q (.ref p) (upd H1 p (.lst xs))
theorem sH {x1}(h:PA X es t):PE X (.Tuple es x1 pos) (ur t):=by
 intro pins s σ H Q I hq;refine wpAny_Tuple_spliced (thn (h pos pins s σ H _ I hq) λ us s1 ⟨xs,H1,I1,r,z,q⟩=>⟨by rw[<- r.length];exact z,?_⟩);have hf:H1 s1.heap.objs.size=none:=I1.hok.fresh (u5 _);refine⟨.ref s1.heap.objs.size,upd H1 s1.heap.objs.size (.tup xs),I1.laid (t':=s1.toks) (λ b u e=>yE _ e) (u5 _) ?_,rfl,q _ hf⟩;exact⟨z,us,r,⟨_,yL _ rfl,rfl,_,rfl⟩⟩
theorem rD (h:PA X es t):PE X (.List es pos) (uJ t):=by
 intro pins s σ H Q I hq;refine wpAny_List_spliced (thn (h pos pins s σ H _ I hq) λ us s1 ⟨xs,H1,I1,r,z,q⟩=>⟨by rw[<- r.length];exact z,?_⟩);have hf:H1 s1.heap.objs.size=none:=I1.hok.fresh (u5 _);refine⟨.ref s1.heap.objs.size,upd H1 s1.heap.objs.size (.lst xs),I1.laid (t':=s1.toks) (λ b u e=>yE _ e) (u5 _) ?_,rfl,q _ hf⟩;exact⟨z,us,0,r,yL _ rfl⟩
end
abbrev Sp:=List V->Hp->VK->XK->Prop
abbrev CXT:=List Env->Hp->Shared->XK->Value->Shared->Prop
structure Env0 (P:Program)(w:World)(K:yC)(mg:Str->Option Value)(base:Heap)(A:Around)(outer:List Env)(s:Shared)(H:Hp):Prop where
 frames:A.frames=some outer
 mod:Mod K mg base
 bs:∀ b o,base.get? b=some o->s.heap.get? b=some o/\H b=none
 bsz:base.objs.size<=s.heap.objs.size
 funs:s.heap.FunFrames base outer
 frf:∀ b∈frs outer,H b=none
 hok:HOk P w H s.heap
 bare:AllBare s.gens
def CE (outer:List Env)(P:Program)(w:World)(H:Hp)(s:Shared)(Q:VK)(u:Value)(s':Shared):Prop:=
 ∃ v H',s'.os=s.os/\AllBare s'.gens/\Un (frs outer) [] H H' s.heap s'.heap/\HOk P w H' s'.heap/\RelV v u/\Q v H'
def CR (CX:CXT)(outer:List Env)(P:Program)(w:World)(H:Hp)(s:Shared)(Q:VK)(E:XK)(r:Result)(s':Shared):Prop:=
 match r with
 | .ok (.ret u)=>CE outer P w H s Q u s'
 | .ok _=>False
 | .error e=>CX outer H s E e s'
structure FnOk (P:Program)(w:World)(K:yC)(mg:Str->Option Value)(base:Heap)(CX:CXT)(k:Nat)(f:Addr)(fd:FuncData)(ps:List Str)(sp:Sp):Prop where
 len:∀ vs H Q E,sp vs H Q E->vs.length=ps.length
 run:∀ (A:Around) (outer:List Env) (s:Shared) (H:Hp) (args:Args) (us:List Value) (vs:List V) (Q:VK) (E:XK),Room k A->Env0 P w K mg base A outer s H->BindsTo s fd args (ps.zip us)->Vals vs us->sp vs H Q E ->
  codeAny (model P w) A (.call (.ref f) args) (CR CX outer P w H s Q E) s
theorem FnOk.mono {P:Program}{w:World}{K:yC}{mg:Str->Option Value}{base:Heap}{CX:CXT}{j k:Nat}{f:Addr}{fd:FuncData}{ps:List Str}{sp:Sp}(F:FnOk P w K mg base CX j f fd ps sp)(h:j<=k):
  FnOk P w K mg base CX k f fd ps sp:=⟨F.len,λ A outer s H args us vs Q E hr=>F.run A outer s H args us vs Q E (hr.mono h)⟩
theorem FnOk.imp {P:Program}{w:World}{K:yC}{mg:Str->Option Value}{base:Heap}{CX:CXT}{k:Nat}{f:Addr}{fd:FuncData}{ps:List Str}{sp sp':Sp}(F:FnOk P w K mg base CX k f fd ps sp)
  (h:∀ vs H Q E,sp' vs H Q E->sp vs H Q E):FnOk P w K mg base CX k f fd ps sp':=
 ⟨λ vs H Q E q=>F.len vs H Q E (h _ _ _ _ q),λ A outer s H args us vs Q E hr he hb hv hs=>F.run A outer s H args us vs Q E hr he hb hv (h _ _ _ _ hs)⟩
section
variable {X:Cx}{pins:List (Addr×Obj)}{σ:St}{H:Hp}{s s':Shared}
theorem Inv.env0 (I:Inv X pins σ H s):Env0 X.prog X.w X.K X.mg X.base X.A X.stack s H:=
 ⟨I.ok.frames,I.ok.mod,I.bs,vF I.ok.bsz I.sz,I.stack,I.stkFree,I.hok,I.bare⟩
theorem Inv.after {Q:VK}{u:Value}(I:Inv X pins σ H s)(h:CE X.stack X.prog X.w H s Q u s'):EP X pins σ Q u s':=by
 obtain⟨v,H',os,bare,un,hok,r,q⟩:=h;obtain⟨hh,g,d,t,os'⟩:=s';obtain rfl:os'=s.os:=os;exact⟨v,H',I.call (h':=hh) (g':=g) (d':=d) (t':=t) (ch:=[]) un hok bare (λ b z=>absurd z (by simp)),r,q⟩
end
def Binds (K:yC)(fd:FuncData)(ps:List Str)(ds:List Value):Prop:=
 ∀ (s:Shared) (us:List Value),K.In s.heap->(us++ds).length=ps.length->BindsTo s fd ⟨us,[]⟩ (ps.zip (us++ds))
theorem Binds.all {K:yC}{fd:FuncData}{ps:List Str}(h:∀ us:List Value,us.length=ps.length->bindArgs fd ⟨us,[]⟩=pure (ps.zip us)):Binds K fd ps []:=λ s us _ hl=>by
 rw[wR] at hl ⊢;exact .of_eq (h us hl)
structure FnScope (N P:List Str)(sc:Scope):Prop where
 kind:sc.kind=.function
 co:sc.isCoroutine=false
 gen:sc.isGenerator=false
 nd:N.Nodup
 pre:N.take P.length=P
 par:∀ x∈P,sc.names.lookup x=some .local\/sc.names.lookup x=some .cell
 nofree:∀ y∈sc.names,y.2≠.free
theorem gL {kindOf:Str->Option NameKind}{x:Str}:∀ {binds:List (Str×Value)} {m:Str->Option Value},(∀ v,(x,v)∉binds)->bindL kindOf binds m x=m x
 | [],_,_=>rfl
 | (n,v)::r,m,h=>by
  unfold bindL;rw[gL λ w hw=>h w (uU _ hw)]
  split
  ·have:x≠n:=by rintro rfl;exact h v uY
   simp[this]
  ·rfl
theorem gP {kindOf:Str->Option NameKind}{x:Str}:∀ {binds:List (Str×Value)} {m:Str->Option Value},(∀ v,(x,v)∉binds)->bindC kindOf binds m x=m x
 | [],_,_=>rfl
 | (n,v)::r,m,h=>by
  unfold bindC;rw[gP λ w hw=>h w (uU _ hw)]
  split
  ·rfl
  ·have:x≠n:=by rintro rfl;exact h v uY
   simp[this]
theorem gJ {kindOf:Str->Option NameKind}{x:Str}{v:Value}:∀ {P:List Str} {vs:List Value} {i:Nat} {m:Str->Option Value},P.Nodup->P[i]?=some x->vs[i]?=some v->kindOf x=some .local ->
  bindL kindOf (P.zip vs) m x=some v
 | [],_,_,_,_,h,_,_=>by simp at h
 | _::_,[],_,_,_,_,h,_=>by simp at h
 | p::P,w::vs,0,m,nd,h1,h2,hk=>by
  simp at h1 h2;subst h1;subst h2;show bindL kindOf ((p,w)::P.zip vs) m p=_
  unfold bindL;rw[gL λ v hv=>(List.nodup_cons.mp nd).1 (xw hv).1,if_pos hk];simp
 | p::P,w::vs,i+1,m,nd,h1,h2,hk=>by
  show bindL kindOf ((p,w)::P.zip vs) m x=_
  unfold bindL;exact gJ (i:=i) (List.nodup_cons.mp nd).2 (by simpa using h1) (by simpa using h2) hk
theorem gY {kindOf:Str->Option NameKind}{x:Str}{v:Value}:∀ {P:List Str} {vs:List Value} {i:Nat} {m:Str->Option Value},P.Nodup->P[i]?=some x->vs[i]?=some v->kindOf x≠some .local ->
  bindC kindOf (P.zip vs) m x=some v
 | [],_,_,_,_,h,_,_=>by simp at h
 | _::_,[],_,_,_,_,h,_=>by simp at h
 | p::P,w::vs,0,m,nd,h1,h2,hk=>by
  simp at h1 h2;subst h1;subst h2;show bindC kindOf ((p,w)::P.zip vs) m p=_
  unfold bindC;rw[gP λ v hv=>(List.nodup_cons.mp nd).1 (xw hv).1,if_neg hk];simp
 | p::P,w::vs,i+1,m,nd,h1,h2,hk=>by
  show bindC kindOf ((p,w)::P.zip vs) m x=_
  unfold bindC;exact gY (i:=i) (List.nodup_cons.mp nd).2 (by simpa using h1) (by simpa using h2) hk
def start (N:List Str)(vs:List V):St:=vs.map some++List.replicate (N.length-vs.length) none
def bR (CX:CXT)(P:Program)(w:World)(K:yC)(mg:Str->Option Value)(base:Heap)(N:List Str)(qual:Str)(scope:Scope)(f:Addr)(cd:Value)(A:Around)(outer:List Env)(s:Shared)(H:Hp)(E:XK):Cx where
 prog:=P
 w:=w
 K:=K
 mg:=mg
 base:=base
 A:=A.deeper (envOfC qual scope s.heap.objs.size f cd)
 N:=N
 s₀:=s
 H₀:=H
 env:=envOfC qual scope s.heap.objs.size f cd
 outer:=outer
 stack:=envOfC qual scope s.heap.objs.size f cd::outer
 ex:=[]
 calm:=true
 fn:=λ _=>true
 pn:=[]
 xe:=λ e s'=>wpAny (model P w) (A.deeper (envOfC qual scope s.heap.objs.size f cd)) (leaving (envOfC qual scope s.heap.objs.size f cd) e) (λ _ s''=>CX outer H s E e s'') (λ e' s''=>CX outer H s E e' s'') s'
theorem jI {sc:Scope}{n:Nat}{x:Str}(h:sc.names.lookup x=some .cell):∃ c,(cellsFrom n sc.names []).lookup x=some c:=by
 have q:=Bz sc.names n [] (.inl h);exact Option.isSome_iff_exists.mp q
theorem lX {CX:CXT}{P:Program}{w:World}{K:yC}{mg:Str->Option Value}{base:Heap}{N ps:List Str}{qual:Str}{scope:Scope}{f:Addr}{cd:Value}{A:Around}{outer:List Env}{s s1:Shared}{H:Hp}{E:XK}{us:List Value}{vs:List V}
  (S:FnScope N ps scope) (hd:A.handled=none) (e0:Env0 P w K mg base A outer s H) (hl:vs.length=ps.length) (r:Vals vs us)
  (x:InCallC s s.heap.objs.size (bindL (envOfC qual scope s.heap.objs.size f cd).kindOf (ps.zip us) λ _=>none) (cellsFrom (s.heap.objs.size+1) scope.names []) (bindC (envOfC qual scope s.heap.objs.size f cd).kindOf (ps.zip us) λ _=>none) s1):
  Inv (bR CX P w K mg base N qual scope f cd A outer s H E) [] (start N vs) H s1:=by
 have hpl:ps.length<=N.length:=by have:=congrArg List.length S.pre;rw[vG] at this;omega
 obtain⟨h1,tk,rfl,hk⟩:=x.done;have noA:∀ b:Addr,b∉(bR CX P w K mg base N qual scope f cd A outer s H E).ex:=λ b z=>absurd (show b∈([]:List Addr) from z) (by simp)
 refine⟨⟨e0.mod,S.kind,rfl,rfl,u5 _,λ y z c h1 h2=>?_,λ y hy=>?_,λ y c _ h=>?_,λ _=>hd,Around.frames_deeper e0.frames,.inr ⟨rfl,rfl⟩,λ b z=>absurd z (noA b),e0.bs,e0.bsz,λ b _ _=>noA b,λ b z=>absurd z (noA b),e0.funs,e0.frf⟩,
  rfl,e0.bare,Un.kept hk,⟨_,x.toInCall.ns,λ i y v h1 h2 h3=>?_⟩,λ y c h=>⟨_,x.cell y c h⟩,e0.hok.fresh (u5 _),λ y c h=>?_,λ p hp=>absurd (show p∈([]:List (Addr×Obj)) from hp) (by simp),e0.hok.kept hk,?_⟩
 ·exact name_of_addr x.apart (zK h1) (zK h2)
 ·have hy:scope.names.lookup y=some .cell\/scope.names.lookup y=some .free:=hy
  rcases hy with hy|hy
  ·exact jI hy
  ·exact absurd rfl (S.nofree _ (zK hy))
 ·exact wG (x.above y c (zK h))
 ·have hi:i<vs.length:=by
   unfold start at h2;by_cases hi:i<vs.length
   ·exact hi
   ·rw[vE (by simpa using hi)] at h2
    rw[wH] at h2
    split at h2 <;>cases h2
  have ha:vs[i]?=some v:=by
   unfold start at h2;rw[vz (by simpa using hi),vA] at h2;cases e:vs[i]? with
   | none=>rw[e] at h2;cases h2
   | some a=>rw[e] at h2;cases h2;rfl
  obtain⟨u,hu,rv⟩:=r.get ha;have hp:ps[i]?=some y:=by
   rw[<- S.pre,List.getElem?_take_of_lt ⋯];exact h1
  have ndP:ps.Nodup:=by rw[<- S.pre];exact S.nd.sublist (xV _ _)
  refine⟨u,rv,?_⟩
  rcases S.par y (vX hp) with k|k
  ·exact .inl ⟨k,gJ ndP hp hu k⟩
  ·obtain⟨c,e⟩:=jI (n:=s.heap.objs.size+1) k
   refine .inr ⟨.inl k,c,e,?_⟩;have q:=x.cell y c e;rw[gY ndP hp hu (by show scope.names.lookup y≠_;rw[k];decide)] at q;exact q
 ·exact e0.hok.fresh (wG (x.above y c (zK h)))
 ·unfold start
  show _=N.length
  rw[vd,uR,wj];omega
theorem rm {CX:CXT}{P:Program}{w:World}{K:yC}{mg:Str->Option Value}{base:Heap}{k:Nat}{f:Addr}{name qual:Str}{params:Arguments}{body:List Stmt}{scope:Scope}{dV kV doc pm cdv ct oc:Value}{an od:Option Addr}
  {osl:Array (Option Value)} {N ps:List Str} {sp:Sp} (lk:K.lookup f=some ⟨oc,od,.func (zf name qual params body scope dV kV doc pm an cdv ct),osl⟩) (hcd:zH K cdv qual=true) (S:FnScope N ps scope)
  (len:∀ vs H Q E,sp vs H Q E->vs.length=ps.length)
  (hbody:∀ (A:Around) (outer:List Env) (s:Shared) (H:Hp) (vs:List V) (Q:VK) (E:XK),Room k (A.deeper (envOfC qual scope s.heap.objs.size f cdv))->sp vs H Q E ->
   ∃ t,PSs (bR CX P w K mg base N qual scope f cdv A outer s H E) body t/\t { nx:=λ _ H'=>Q .non H',rt:=Q } (start N vs) H):
  FnOk P w K mg base CX (k+1) f (zf name qual params body scope dV kV doc pm an cdv ct) ps sp:=by
 refine⟨len,λ A outer s H args us vs Q E hr e0 hb r hsp=>?_⟩;have hl:=len _ _ _ _ hsp;have KX:K.In s.heap:=e0.mod.kin.keeps λ b o e=>(e0.bs b o e).1
 have lim:s.heap.NoLimit:=e0.mod.nolimit.keeps λ b o e=>(e0.bs b o e).1
 have hkind:∀ y∈ps.zip us,scope.names.lookup y.1=some .local\/(scope.names.lookup y.1=some .cell/\((cellsFrom (s.heap.objs.size+1) scope.names []).lookup y.1).isSome=true):=λ⟨n,v⟩ hy=>by
  rcases S.par n (xw hy).1 with q|q
  ·exact .inl q
  ·exact .inr ⟨q,Bz _ _ _ (.inl q)⟩
 refine codeAny_call_function hr.depth (KX _ _ lk) rfl S.co S.gen rfl (PySem.W.codeRec_of KX hcd) (hb _ _ _ _ ?_);refine wpAny_newFunctionEnv_cells S.kind hkind λ env he s1 x=>?_
 subst he;refine⟨lim.keeps x.toInCall.keep,codeAny_func ?_⟩;obtain⟨t,ht,hq⟩:=hbody A outer s H vs Q E (hr.deeper _) hsp;have I:Inv (bR CX P w K mg base N qual scope f cdv A outer s H E) [] (start N vs) H s1:=lX S hr.hd e0 hl r x;refine yT (ht [] s1 (start N vs) H _ I hq) (λ fl s' hs=>?_) λ e s' hs=>hs
 have fin:∀ {σ':St} {H':Hp} {v:V} {u:Value},Inv (bR CX P w K mg base N qual scope f cdv A outer s H E) [] σ' H' s'->RelV v u->Q v H'->CE outer P w H s Q u s':=
  λ {σ' H' v u} J rv q=>⟨v,H',J.os,J.bare,J.base,J.hok,rv,q⟩
 cases fl with
 | ret u=>
  obtain⟨v,σ',H',J,rv,q⟩:=hs;exact fin J rv q
 | next=>
  obtain⟨σ',H',J,q⟩:=hs;exact fin (v:=V.non) (u:=yK) J rfl q
 | brk=>
  obtain⟨_,_,_,q⟩:=hs;exact zx q
 | cont=>
  obtain⟨_,_,_,q⟩:=hs;exact zx q
section
variable {X:Cx}{x:Str}{p pos:Pos}{e:Expr}{es:List Expr}{t:TA}{id T:String}{r:List V->Hp->VK->Prop}
def tCB (r:List V->Hp->VK->Prop)(t:TA):TE:=λ σ H Q=>t σ H λ vs H1=>r vs H1 Q
theorem cC (hc:cy X (.builtin id) r)(hg:Gl X x)(hm:X.mg x=none)(hv:bootBuiltins x=some (.builtin id))(ha:PA X (e::es) t)(hn:autoParam (x≠"__name__") ZC._auto_1)(hdb:autoParam ((x == ("__debug__":Str))=false) ZC._auto_1)
  (he:autoParam (starEach (e::es) X.env=(false,eval e X.env)::starEach es X.env) ZE._auto_1) (hpl:autoParam ((backTo pos (starEach es X.env)).any (·.1)=false) ZE._auto_1):PE X (.Call (.Name x p) (e::es) [] pos) (tCB r t):=by
 intro pins s σ H Q I h;refine zb (bE I hg hm hv ?_ hn hdb);exact AH (thn (ha pos pins s σ H _ I h) λ us s1 ⟨vs,H1,I1,r1,q1⟩=>hc pins s1 σ H1 vs us Q I1 r1 q1) he hpl
theorem mq (hc:cy X (.type T) r)(hg:Gl X x)(hm:X.mg x=none)(hv:bootBuiltins x=some (.type T))(ha:PA X (e::es) t)(hn:autoParam (x≠"__name__") ZC._auto_1)(hdb:autoParam ((x == ("__debug__":Str))=false) ZC._auto_1)
  (he:autoParam (starEach (e::es) X.env=(false,eval e X.env)::starEach es X.env) ZE._auto_1) (hpl:autoParam ((backTo pos (starEach es X.env)).any (·.1)=false) ZE._auto_1):PE X (.Call (.Name x p) (e::es) [] pos) (tCB r t):=by
 intro pins s σ H Q I h;refine zb (bE I hg hm hv ?_ hn hdb);exact yS (thn (ha pos pins s σ H _ I h) λ us s1 ⟨vs,H1,I1,r1,q1⟩=>hc pins s1 σ H1 vs us Q I1 r1 q1) he hpl
end
end L2
namespace HT
open PySem PyProof.Rows
section
open PySem.SeqAt
open PySem.AutoSeq1 (wpAny_loadPart')
open PySem.MeetsSeq PySem.MeetsSeq2 PySem.MeetsSeq3
end
section
variable {prog:Program}{w:World}{A:Around}{E:Value->Shared->Prop}{s:Shared}
def sIx (n d:Nat):Option Int->Nat
 | none=>d
 | some v=>if v<0 then (v+(n:Int)).toNat else min v.toNat n
end
end HT
namespace L2
open PySem PySem.Spec PyProof.Rows
abbrev TO:=St->Hp->(Option Int->Hp->Prop)->Prop
def PO (X:Cx)(e:Option Expr)(t:TO):Prop:=
 ∀ (pins:List (Addr×Obj)) (s:Shared) (σ:St) (H:Hp) (Q:Option Int->Hp->Prop),Inv X pins σ H s->t σ H Q ->
  wpAny (model X.prog X.w) X.A (evalPart e X.env) (λ u s'=>∃ o H',Inv X pins σ H' s'/\IsPart u o/\Q o H') X.xe s
def pS:TO:=λ _ H Q=>Q none H
def ud (t:TE):TO:=λ σ H Q=>t σ H λ x H1=>∃ i,x=.int i/\Q (some i) H1
theorem intsAre_of {ns:List Int}:∀ {us:List Value},Vals (ns.map V.int) us->IntsAre us ns:=by
 induction ns with
 | nil=>intro us r;rw[va] at r;cases r;exact .nil
 | cons n ns ih=>
  intro us r;rw[uS] at r;cases r with
  | cons r1 r2=>
   obtain⟨t,e⟩:=r1;subst e;exact .cons n t (ih r2)
section
variable {X:Cx}{e:Expr}{te:TE}{lo hi:Option Expr}{tl th:TO}{pos p2:Pos}
theorem qF:PO X none pS:=by
 intro pins s σ H Q I h;rw[evalPart_none];exact yD ⟨none,H,I,.none,h⟩
theorem pj (h:PE X e te):PO X (some e) (ud te):=by
 intro pins s σ H Q I hw;rw[evalPart_some];refine thn (h pins s σ H _ I hw) λ u s1 ⟨x,H1,I1,r1,q1⟩=>?_
 obtain⟨i,rfl,q⟩:=q1;obtain⟨t,rfl⟩:=r1;exact⟨some i,H1,I1,.int i t,q⟩
def SlR (X:Cx)(r:V->Option Int->Option Int->Hp->VK->Prop):Prop:=
 ∀ (pins:List (Addr×Obj)) (s:Shared) (σ:St) (H:Hp) (x:V) (v vl vu:Value) (lo hi:Option Int) (sl:Addr) (Q:VK),Inv X pins σ H s->RelV x v->s.heap.IsSliceOf sl vl vu .none->IsPart vl lo->IsPart vu hi->r x lo hi H Q ->
  ∃ T id,typeLookup (.type T) "__getitem__"=pure (some (.builtin id))/\s.TypeIs v T/\wpAny (model X.prog X.w) X.A (getItem v (.ref sl)) (EP X pins σ Q) X.xe s
def tSl (r:V->Option Int->Option Int->Hp->VK->Prop)(te:TE)(tl th:TO):TE:=λ σ H Q=>te σ H λ x H1=>tl σ H1 λ l H2=>th σ H2 λ u H3=>r x l u H3 Q
theorem mK {r:V->Option Int->Option Int->Hp->VK->Prop}(hr:SlR X r)(he:PE X e te)(hl:PO X lo tl)(hu:PO X hi th):PE X (.Subscript e (.Slice lo hi none p2) pos) (tSl r te tl th):=by
 intro pins s σ H Q I h;refine Subscript_ (thn (he pins s σ H _ I h) λ v s1 ⟨x,H1,I1,r1,q1⟩=>?_);refine wpAny_Slice (thn (hl pins s1 σ H1 _ I1 q1) λ vl s2 ⟨l,H2,I2,pl,q2⟩=>thn (hu pins s2 σ H2 _ I2 q2) λ vu s3 ⟨u,H3,I3,pu,q3⟩=>?_);rw[evalPart_none];refine yD ?_
 have I4:Inv X pins σ H3 { s3 with heap:=s3.heap.push { cls:=.type "slice",data:=.fields #[vl,vu,.none] } }:=I3.kept (t':=s3.toks) λ b ob q=>yE _ q
 obtain⟨T,id,hT,ht,hg⟩:=hr pins { s3 with heap:=s3.heap.push { cls:=.type "slice",data:=.fields #[vl,vu,.none] } } σ H3 x v vl vu l u s3.heap.objs.size Q I4 r1 (CT ..) pl pu q3;show wpAny (model X.prog X.w) X.A (subscriptTail e (.Slice lo hi none p2) v (.ref s3.heap.objs.size)) (EP X pins σ Q) X.xe { s3 with heap:=s3.heap.push { cls:=.type "slice",data:=.fields #[vl,vu,.none] } }
 exact tail_any (ops:=[.ref s3.heap.objs.size,v]) ht hT hg (by with_unfolding_all rfl)
def lC (xs:List V)(lo hi:Option Int):List V:=(xs.drop (HT.sIx xs.length 0 lo)).take (HT.sIx xs.length xs.length hi-HT.sIx xs.length 0 lo)
theorem jH (xs:List V)(lo hi:Option Int):(lC xs lo hi).length<=xs.length:=by
 unfold lC;rw[vG,wM];omega
end
def ixN (n:Nat)(i:Int):Option Nat:=if 0<=i then (if i<n then some i.toNat else none) else if -(n:Int)<=i then some (i+n).toNat else none
def atI {α:Type}(xs:List α)(i:Int):Option α:=(ixN xs.length i).bind λ j=>xs[j]?
theorem pP {n:Nat}{i:Int}{j:Nat}(h:ixN n i=some j):seqIndex? i n=some j/\j<n/\-(n:Int)<=i/\i<n:=by
 unfold ixN at h;by_cases h0:0<=i
 ·rw[if_pos h0] at h
  by_cases h1:i<n
  ·rw[if_pos h1] at h
   have e:i.toNat=j:=Option.some.inj h;exact⟨by rw[seqIndex_of h0 h1,e],⋯,⋯,h1⟩
  ·rw[if_neg h1] at h;cases h
 ·rw[if_neg h0] at h
  by_cases h1:-(n:Int)<=i
  ·rw[if_pos h1] at h
   have e:(i+n).toNat=j:=Option.some.inj h;exact⟨by rw[seqIndex_neg ⋯ h1,e],⋯,h1,⋯⟩
  ·rw[if_neg h1] at h;cases h
theorem kI {α:Type}{xs:List α}{i:Int}{v:α}(h:atI xs i=some v):∃ j,seqIndex? i xs.length=some j/\xs[j]?=some v/\j<xs.length/\-(xs.length:Int)<=i/\i<xs.length:=by
 unfold atI at h;cases e:ixN xs.length i with
 | none=>rw[e] at h;cases h
 | some j=>
  rw[e] at h;obtain⟨h1,h2,h3,h4⟩:=pP e;exact⟨j,h1,h,h2,h3,h4⟩
def kF (b:Expr):Prop:=∀ o i,subscripted b false o i=operate [o,i] (getItem o i)
def IxR (X:Cx)(r:R2):Prop:=
 ∀ (value slice:Expr) (pins:List (Addr×Obj)) (s:Shared) (σ:St) (H:Hp) (x y:V) (v u:Value) (Q:VK),Inv X pins σ H s->RelV x v->RelV y u->r x y H Q ->
  subscripted slice false v u=operate [v,u] (getItem v u)->wpAny (model X.prog X.w) X.A (subscriptTail value slice v u) (EP X pins σ Q) X.xe s
def MtR (X:Cx)(id:String)(r:V->List V->Hp->VK->Prop):Prop:=
 ∀ (pins:List (Addr×Obj)) (s:Shared) (σ:St) (H:Hp) (x:V) (xs:List V) (v:Value) (us:List Value) (Q:VK),Inv X pins σ H s->RelV x v->Vals xs us->r x xs H Q ->
  wpAny (model X.prog X.w) X.A (call (.builtin id) (v::us)) (EP X pins σ Q) X.xe s
section
variable {X:Cx}{a b:Expr}{ta tb:TE}{pos:Pos}
theorem IxR.or {r r':R2}(h:IxR X r)(h':IxR X r'):IxR X (λ x y H Q=>r x y H Q\/r' x y H Q):=by
 intro value slice pins s σ H x y v u Q I rx ry q hs
 rcases q with q|q
 ·exact h value slice pins s σ H x y v u Q I rx ry q hs
 ·exact h' value slice pins s σ H x y v u Q I rx ry q hs
theorem tK {r:R2}(hr:IxR X r)(ha:PE X a ta)(hb:PE X b tb)(hs:kF b):PE X (.Subscript a b pos) (tOp r ta tb):=by
 intro pins s σ H Q I h;exact Subscript_ (sQ ha hb I h λ v u s2 x y H2 I2 rx ry q=>hr a b pins s2 σ H2 x y v u Q I2 rx ry q (hs _ _))
def uE (K:yC):R2:=λ x y H Q=>∃ p xs i v,x=.ref p/\y=.int i/\SqL K H p xs/\atI xs i=some v/\Q v H
def uH (K:yC):R2:=λ x y H Q=>∃ p xs i v,x=.ref p/\y=.int i/\SqT K H p xs/\atI xs i=some v/\Q v H
theorem ix_list:IxR X (uE X.K):=by
 intro value slice pins s σ H x y v u Q I rx ry h hs;obtain⟨p,xs,i,z,rfl,rfl,hq,he,q⟩:=h;cases rx;obtain⟨t,rfl⟩:=ry;obtain⟨its,r,pl,hz⟩:=I.list hq;obtain⟨j,h1,h2,h3,h4,h5⟩:=kI he;obtain⟨w,ew,rw'⟩:=r.get h2;have hl:=r.length;have hn:=j7;have fin:EP X pins σ Q w s:=⟨z,H,I,rw',q⟩;by_cases h0:0<=i
 ·have hj:i.toNat=j:=by
   rw[seqIndex_of h0 h5] at h1;exact Option.some.inj h1
  exact item_listR pl.isList h0 ⋯ (by rw[hj];simpa using ew) fin hs
 ·have hj:(i+(its.toArray.size:Int)).toNat=j:=by
   rw[seqIndex_neg ⋯ h4] at h1;rw[u0,<- hl];exact Option.some.inj h1
  exact BA (x:=w) pl.isList.typeIs slot_list_getitem.lookup
   (wpAny_getItem_list_neg (Q:=λ r s'=>r=w/\EP X pins σ Q r s') pl.isList ⋯ (by rw[u0] <;>omega) ⋯ (by rw[hj];simpa using ew) ⟨rfl,fin⟩) hs
theorem su:IxR X (uH X.K):=by
 intro value slice pins s σ H x y v u Q I rx ry h hs;obtain⟨p,xs,i,z,rfl,rfl,hq,he,q⟩:=h;cases rx;obtain⟨t,rfl⟩:=ry;obtain⟨its,r,pl,hz⟩:=I.tuple hq;obtain⟨j,h1,h2,h3,h4,h5⟩:=kI he;obtain⟨w,ew,rw'⟩:=r.get h2;have hl:=r.length;have hn:=j7;have fin:EP X pins σ Q w s:=⟨z,H,I,rw',q⟩;exact BA (x:=w) pl.typeIs slot_tuple_getitem.lookup
  (getItem_tuple (j:=j) (Q:=λ r s'=>r=w/\EP X pins σ Q r s') pl ⋯ ⋯ (by rw[u0,<- hl];exact h1) (by simpa using ew) ⟨rfl,fin⟩) hs
theorem Inv.lst {pins:List (Addr×Obj)}{σ:St}{H:Hp}{s:Shared}{p:Addr}{xs:List V}(I:Inv X pins σ H s)(h:H p=some (.lst xs)):
  ∃ (its:List Value) (n:Nat),Vals xs its/\s.heap.get? p=some { cls:=.type "list",data:=.seq its.toArray n }/\xs.length<=sizeLine:=by
 obtain⟨z,its,n,r,e⟩:=I.hok p _ h;exact⟨its,n,r,e,z⟩
theorem iJ (lo hi:Option Int)(n:Nat):(sliceBounds lo hi none n).1=((HT.sIx n 0 lo:Nat):Int)/\(sliceBounds lo hi none n).2.1=((HT.sIx n n hi:Nat):Int)/\(sliceBounds lo hi none n).2.2=1:=by
 refine⟨?_,?_,rfl⟩
 ·cases lo with
  | none=>simp[sliceBounds,HT.sIx]
  | some i=>
   simp only[sliceBounds,HT.sIx,xX,show (1:Int) > 0 by decide,if_true];by_cases h:i<0
   ·simp only[h,if_true] <;>omega
   ·simp only[h,if_false] <;>omega
 ·cases hi with
  | none=>simp[sliceBounds,HT.sIx]
  | some i=>
   simp only[sliceBounds,HT.sIx,xX,show (1:Int) > 0 by decide,if_true];by_cases h:i<0
   ·simp only[h,if_true] <;>omega
   ·simp only[h,if_false] <;>omega
theorem gg (its:List Value)(lo hi:Option Int):slicePick its.toArray lo hi none=((its.drop (HT.sIx its.length 0 lo)).take (HT.sIx its.length its.length hi-HT.sIx its.length 0 lo)).toArray:=by
 obtain⟨h1,h2,h3⟩:=iJ lo hi its.toArray.size;unfold slicePick;rw[h1,h2,h3];simp only[sliceRange_one,pick_run,u0] <;>rfl
def uG (K:yC):V->Option Int->Option Int->Hp->VK->Prop:=λ x lo hi H Q=>∃ a xs,x=.ref a/\SqL K H a xs/\∀ p,H p=none->Q (.ref p) (upd H p (.lst (lC xs lo hi)))
theorem pB:SlR X (uG X.K):=by
 intro pins s σ H x v vl vu lo hi sl Q I rx hs pl pu h;obtain⟨a,xs,rfl,hx,q⟩:=h;cases rx;obtain⟨its,r,ht,hz⟩:=I.list hx;have hlen:=r.length;refine⟨"list",_,slot_list_getitem.lookup,ht.isList.typeIs,?_⟩;refine wpAny_getItem_list_slice ht.isList hs pl pu .none (by simp) ?_ (by rw[u0] <;>omega)
 rw[gg,<- hlen];refine⟨.ref s.heap.objs.size,_,I.laid (t':=s.toks) (o:=.lst (lC xs lo hi)) (λ b ob q=>yE _ q) (u5 _) ?_,rfl,q _ (I.hok.fresh (u5 _))⟩;exact⟨vF (jH xs lo hi) hz,_,0,(r.drop (HT.sIx xs.length 0 lo)).take (HT.sIx xs.length xs.length hi-HT.sIx xs.length 0 lo),yL _ rfl⟩
theorem iG:cy X (.builtin "len") (λ xs H Q=>∃ p ys,xs=[.ref p]/\(SqL X.K H p ys\/SqT X.K H p ys)/\Q (.int ys.length) H):=by
 intro pins s σ H xs us Q I r h;obtain⟨p,ys,rfl,hq,q⟩:=h;obtain⟨u,rfl,rx⟩:=vals1 r;cases rx;have hn:=j7
 rcases hq with hq|hq
 ·obtain⟨its,r',pl,hz⟩:=I.list hq
  have hlen:=r'.length;exact Calls.call_len_list pl.isList (by simp only[u0] <;>omega) ⟨.int ys.length,H,I.tok _,⟨s.toks+1,by rw[u0,hlen]⟩,q⟩
 ·obtain⟨its,r',pl,hz⟩:=I.tuple hq
  have hlen:=r'.length;exact len_tuple pl (by simp only[u0] <;>omega) ⟨.int ys.length,H,I.tok _,⟨s.toks+1,by rw[u0,hlen]⟩,q⟩
theorem iF:cy X (.type "list") (λ xs H Q=>∃ p ys,xs=[.ref p]/\(SqL X.K H p ys\/SqT X.K H p ys)/\∀ l,H l=none->Q (.ref l) (upd H l (.lst ys))):=by
 intro pins s σ H xs us Q I r h;obtain⟨p,ys,rfl,hq,q⟩:=h;obtain⟨u,rfl,rx⟩:=vals1 r;cases rx;have fin:∀ (its:List Value),Vals ys its->ys.length<=sizeLine->∀ (h':Heap) (c':Nat),(∀ b o',s.heap.get? b=some o'->h'.get? b=some o') ->
   h'.get? s.heap.objs.size=some { cls:=.type "list",dict:=none,data:=.seq its.toArray c',slots:=#[] }->EP X pins σ Q (.ref s.heap.objs.size) { s with heap:=h' }:=λ its r' hz h' c' kp e=>
  ⟨.ref s.heap.objs.size,_,I.laid (t':=s.toks) kp (u5 _) (show ObjOk X.prog X.w _ h' _ (.lst ys) from ⟨hz,its,c',r',e⟩),rfl,q _ (I.hok.fresh (u5 _))⟩
 rcases hq with hq|hq
 ·obtain⟨its,r',pl,hz⟩:=I.list hq
  have hlen:=r'.length;obtain⟨o,ho,hc,n,hd⟩:=pl.isList;exact call_list_seq p (.inl rfl) ho hc hd (λ h' c' kp e=>fin its r' hz h' c' kp e) (by simp only[u0] <;>omega)
 ·obtain⟨its,r',pl,hz⟩:=I.tuple hq
  have hlen:=r'.length;obtain⟨o,ho,hc,n,hd⟩:=pl;exact call_list_seq p (.inr rfl) ho hc hd (λ h' c' kp e=>fin its r' hz h' c' kp e) (by simp only[u0] <;>omega)
def tyV (K:yC)(T:String)(x:V)(H:Hp):Prop:=match x with
 | .str _=>T="str"
 | .int _=>T="int"
 | .ref p=>(T="list"/\∃ xs,SqL K H p xs)\/(T="tuple"/\∃ o,K.lookup p=some o/\o.cls=.type "tuple"/\o.dict=none) \/
   (T="dict"/\((∃ kvs,H p=some (.dK kvs))\/∃ kvs,H p=some (.dT kvs)))\/(T="set"/\∃ S n,H p=some (.set S n))
 | _=>False
theorem rL {pins:List (Addr×Obj)}{σ:St}{H:Hp}{s:Shared}{T:String}{x:V}{v:Value}(I:Inv X pins σ H s)(r:RelV x v)(ty:tyV X.K T x H):
  s.TypeIs v T/\∀ a,v=.ref a->∃ ob,s.heap.get? a=some ob/\ob.dict=none:=by
 cases x with
 | str z=>
  obtain⟨t,rfl⟩:=r;cases (show T="str" from ty);exact⟨typeIs_str s z t,λ _ e=>nomatch e⟩
 | int i=>
  obtain⟨t,rfl⟩:=r;cases (show T="int" from ty);exact⟨typeIs_int s i t,λ _ e=>nomatch e⟩
 | ref p=>
  cases r
  rcases ty with ⟨rfl,xs,hq⟩|⟨rfl,o,hk,hc,hd⟩|⟨rfl,hk⟩|⟨rfl,S,n,hk⟩
  ·obtain⟨its,_,pl,_⟩:=I.list hq
   refine⟨pl.isList.typeIs,λ a e=>?_⟩;cases e;obtain⟨o,n,e,c,hd,_⟩:=pl;exact⟨o,e,hd⟩
  ·refine⟨⟨o,I.kIn p o hk,hc⟩,λ a e=>?_⟩
   cases e;exact⟨o,I.kIn _ o hk,hd⟩
  ·have z:∃ o,s.heap.get? p=some o/\o.ExactDict:=by
    rcases hk with ⟨kvs,hk⟩|⟨kvs,hk⟩
    ·obtain⟨_,_,_,_,o,_,_,e,ex,_⟩:=I.hok p _ hk
     exact⟨o,e,ex⟩
    ·obtain⟨_,_,_,_,o,_,_,e,ex,_⟩:=I.hok p _ hk
     exact⟨o,e,ex⟩
   obtain⟨o,e,ex⟩:=z;refine⟨⟨o,e,ex.1⟩,λ a e2=>?_⟩;cases e2;exact⟨o,e,ex.2.1⟩
  ·obtain⟨o,_,_,_,e,ex,_⟩:=I.hok p _ hk
   refine⟨⟨o,e,ex.1⟩,λ a e2=>?_⟩;cases e2;exact⟨o,e,ex.2.1⟩
 | _=>exact zx ty
def tBM (K:yC)(T:String)(r:V->List V->Hp->VK->Prop)(to:TE)(t:TA):TE:=λ σ H Q=>to σ H λ x H1=>tyV K T x H1/\t σ H1 λ xs H2=>r x xs H2 Q
variable {o e:Expr}{es:List Expr}{to:TE}{t:TA}{name:Str}{apos cpos:Pos}{T id:String}{r:V->List V->Hp->VK->Prop}
theorem oQ (pa:PlainAttrs T)(slot:Slot T name id)(hty:typeOf (.builtin id)=pure (.type "method_descriptor"))(hm:MtR X id r)(ho:PE X o to)(ha:PA X (e::es) t)
  (hbase:autoParam (attributeBase o name X.env (eval o X.env)=eval o X.env) ZE._auto_1)
  (hfew:autoParam (((backTo cpos (starEach (e::es) X.env)).all (λ x=>!x.1)&&(backToKw cpos (keywordEach [] X.env)).all (λ x=>x.1.isSome)
   && decide ((e::es).length+([]:List Keyword).length+(if ([]:List Keyword).isEmpty then 0 else 1)<30))=true) ZE._auto_1)
  (hline:autoParam ((apos.endLine == cpos.line)=true) ZE._auto_1) (hs:autoParam (starEach (e::es) X.env=(false,eval e X.env)::starEach es X.env) ZE._auto_1) (hplain:autoParam ((backTo cpos (starEach es X.env)).any (·.1)=false) ZE._auto_1):
  PE X (.Call (.Attribute o name apos) (e::es) [] cpos) (tBM X.K T r to t):=by
 intro pins s σ H Q I h;refine wpAny_Call_method_late hbase hfew hline rfl (thn (ho pins s σ H _ I h) λ v s1 ⟨x,H1,I1,r1,ty,q1⟩=>?_);obtain⟨h1,h2⟩:=rL I1 r1 ty;refine⟨T,id,pa,slot,hty,h1,h2,?_⟩;have hA:=ha cpos pins s1 σ H1 _ I1 q1;rw[hs] at hA ⊢;refine Ap (by show (false || (backTo cpos (starEach es X.env)).any (·.1))=false;rw[hplain] <;>rfl) (AI ?_);exact thn hA λ us s2 ⟨vs,H2,I2,r2,q2⟩=>hm pins s2 σ H2 x vs v us Q I2 r1 r2 q2
end
def MtM (X:Cx)(id:String)(r:V->List V->Hp->VK->Prop):Prop:=
 ∀ (pins:List (Addr×Obj)) (s:Shared) (σ:St) (H:Hp) (x:V) (xs:List V) (v:Value) (us:List Value) (Q:VK),Inv X pins σ H s->RelV x v->Vals xs us->r x xs H Q ->
  wpAny (model X.prog X.w) X.A (call (.builtin id) (v::us)) (EP X pins σ Q) X.xe s
theorem Vals.one {x:V}{us:List Value}(r:Vals [x] us):∃ u,us=[u]/\RelV x u:=by
 cases r with
 | cons r1 r2=>cases r2;exact⟨_,rfl,r1⟩
theorem Vals.rep {xs:List V}{us:List Value}(h:Vals xs us):∀ k:Nat,Vals (List.replicate k xs).flatten (List.replicate k us).flatten
 | 0=>.nil
 | k+1=>by
  rw[vS,vS,v8,v8];exact Vals.append h (Vals.rep h k)
theorem foldl_rep (its:List Value):∀ (k:Nat) (acc:List Value),
  List.foldl (λ x1 x2=>x1++x2) acc.toArray (List.replicate k its.toArray)=(acc++(List.replicate k its).flatten).toArray
 | 0,acc=>by simp
 | k+1,acc=>by
  have e:acc.toArray++its.toArray=(acc++its).toArray:=by simp
  have e2:(acc++its)++(List.replicate k its).flatten=acc++(List.replicate (k+1) its).flatten:=by
   rw[vS,v8,vD]
  rw[<- e2,<- foldl_rep its k (acc++its),<- e,vS,vb]
section
variable {X:Cx}{pins:List (Addr×Obj)}{σ:St}{H:Hp}{s:Shared}{l b:Addr}{xs ys zs:List V}
theorem Inv.lset {its its':List Value}{n:Nat}{f:Array Value->Array Value}{t':Nat}(I:Inv X pins σ H s)(hH:H l=some (.lst xs))
  (e:s.heap.get? l=some { cls:=.type "list",data:=.seq its.toArray n }) (hf:f its.toArray=its'.toArray) (hv:Vals ys its') (hz:ys.length<=sizeLine):
  Inv X pins σ (upd H l (.lst ys)) { s with heap:=s.heap.update l (yP f),toks:=t' }:=by
 have q:=Ct e f;rw[hf] at q;refine I.write (x:=l) (e:=l) (by rw[hH];exact trivial) (.inl rfl) (λ b' u hb hu=>(yR s.heap (yP f) (Ne.symm hb)).trans hu) ⟨_,q⟩ ?_
 exact⟨hz,its',_,hv,q⟩
theorem Inv.lnew {its:List Value}{t':Nat}(I:Inv X pins σ H s)(hv:Vals ys its)(hz:ys.length<=sizeLine):
  Inv X pins σ (upd H s.heap.objs.size (.lst ys)) { s with heap:=s.heap.push { cls:=.type "list",data:=.seq its.toArray },toks:=t' }:=
 I.laid (λ _ _ q=>yE _ q) (u5 _) ⟨hz,its,0,hv,yL _ rfl⟩
theorem Inv.fresh (I:Inv X pins σ H s):H s.heap.objs.size=none:=I.hok.fresh (u5 _)
theorem Inv.lstM (I:Inv X pins σ H s)(hH:H l=some (.lst xs)):xs.length<=sizeLine/\∃ (its:List Value) (n:Nat),Vals xs its/\xs.length=its.length/\s.heap.get? l=some { cls:=.type "list",data:=.seq its.toArray n }:=by
 obtain⟨z,its,n,r,e⟩:=I.hok l _ hH;exact⟨z,its,n,r,r.length,e⟩
theorem jN {n:Nat}(h:n<=sizeLine):zJ n=false:=by
 unfold zJ;exact decide_eq_false ⋯
end
section
variable {X:Cx}
def pN:V->List V->Hp->VK->Prop:=λ x vs H Q=>∃ l xs y,x=.ref l/\vs=[y]/\H l=some (.lst xs)/\xs.length<sizeLine/\Q .non (upd H l (.lst (xs++[y])))
theorem gU:MtM X "list.append" pN:=by
 intro pins s σ H x vs v us Q I rx rv h;obtain⟨l,xs,y,rfl,rfl,hH,hz,q⟩:=h;cases rx;obtain⟨u,rfl,ru⟩:=rv.one;obtain⟨z,its,n,r,hl,e⟩:=I.lstM hH;refine Bd BY ⟨_,e,rfl⟩ BR (BO _ _) (Ci l its.toArray n u (by rw[u0];omega)) ⟨e,?_⟩;refine⟨.non,_,I.lset (its':=its++[u]) hH e (by simp) (r.append (.cons ru .nil)) ?_,rfl,q⟩;rw[vd,xB];omega
def pR:V->List V->Hp->VK->Prop:=λ x vs H Q=>∃ l b xs zs,x=.ref l/\vs=[.ref b]/\H l=some (.lst xs)/\H b=some (.lst zs)/\xs.length+zs.length<=sizeLine/\Q .non (upd H l (.lst (xs++zs)))
theorem l9:MtM X "list.extend" pR:=by
 intro pins s σ H x vs v us Q I rx rv h;obtain⟨l,b,xs,zs,rfl,rfl,hH,hB,hz,q⟩:=h;cases rx;obtain⟨u,rfl,ru⟩:=rv.one;cases ru;obtain⟨z,its,n,r,hl,e⟩:=I.lstM hH;obtain⟨z2,its2,n2,r2,hl2,e2⟩:=I.lstM hB;have hsz:its.toArray.size+its2.toArray.size<=sizeLine:=by rw[u0,u0];omega
 have hlong:¬ (!its.toArray.isEmpty&&zJ (its.toArray.size+its2.toArray.size))=true:=by
  rw[jN hsz,vP];exact vq
 refine Bd F.slot_list_extend ⟨_,e,rfl⟩ F.entry_list_extend (F.args_list_extend_2 _ _)
  (AutoSeq1.list_extend_list_list_0 l its.toArray n b its2.toArray n2 hlong (by rw[u0];omega) ⋯) ⟨e,e2,?_⟩
 refine⟨.non,_,I.lset (its':=its++its2) hH e (by simp) (r.append r2) ?_,rfl,q⟩;rw[vd];omega
theorem len_rep {α:Type}(xs:List α)(k:Nat):(List.replicate k xs).flatten.length=k*xs.length:=by
 induction k with
 | zero=>simp
 | succ k ih=>rw[vS,v8,vd,ih,yr,xp]
end
end L2
namespace Att
open PySem PySem.W PySem.Calls PyProof.Rows
theorem eI {P:Params}{h:Heap}:∀ (ns:List Int) (vs:List Value),WellAll P h vs (ns.map Ag)->IntsAre vs ns:=by
 intro ns
 induction ns with
 | nil=>
  intro vs w;rw[va] at w;cases w;exact .nil
 | cons n ns ih=>
  intro vs w;rw[uS] at w;cases w with
  | cons a b=>
   cases a;exact .cons _ _ (ih _ b)
theorem script_of {l:OpenLaw}{n:Nat}(hn:l.most=some n){P:Params}{h:Heap}{args:List WData}{vals:List Value}
  (hpre:l.row.toRowW.claim.pre args=true) (hwl:WellAll P h vals args):
  ∃ a vs ns,vals=[yQ a]/\args=[CA (ns.map Ag)]/\h.get? a=some { cls:=.type "list",data:=.seq vs.toArray }/\IntsAre vs ns/\ns.length<=n:=by
 have hsh:WShape.hasAll [] args [.list .int]=true:=(pre_splitW hpre).1;have hc:l.pre.holds [] { args:=args }=true:=(pre_splitW hpre).2;obtain⟨d,r,rfl,h1,h2⟩:=hasAllW_cons hsh;obtain rfl:=hasAllW_nil h2;obtain⟨xs,rfl,h3⟩:=hasW_list h1;obtain⟨ns,rfl⟩:=items_int h3;have hlen:ns.length<=n:=by
  unfold OpenLaw.pre at hc;have h4:(WTm.not (.lt (.lit (.int (n:Int))) (.len (.arg 0)))).holds [] { args:=[.list (ns.map .int)] }=true:=by
   have h4:=(holds_andW hc).1;rw[hn] at h4;exact h4
  have h5:=condW_of h4 (w_not (w_lt w_lit (w_len_list (w_arg rfl))));rw[uR] at h5;refine Nat.le_of_not_lt λ q=>?_
  have q':(n:Int)<((ns.length:Nat):Int):=⋯
  first
   | (rw[decide_eq_true q'] at h5;exact absurd h5 (by decide))
   | (simp at h5;omega)
 cases hwl with
 | cons w1 w2=>
  cases w2;cases w1 with
  | list ho hall=>exact⟨_,_,ns,rfl,rfl,ho,eI ns _ hall,hlen⟩
theorem post_true (l:OpenLaw)(args:List WData):l.row.toRowW.claim.post args (.bool true) args=true:=
 postW_of (r:=l.row.toRowW) (X:=(true == true))
  (show WShape.has [] (.bool true) .bool=true by first|rfl|decide|simp[WShape.has,WShape.arms,WShape.armsAll])
  (show (WTm.eq .res (.lit (.bool true))).value [] { args:=args,res:=some (.bool true),after:=args }=some (.bool (true == true)) from w_eq_bool (w_res rfl) w_lit) rfl
section
variable {prog:Program}{w:World}{A:Around}{E:Value->Shared->Prop}{s:Shared}{K:Frag}
def ledger (h:Heap)(L d:Addr):List (Addr×Obj):=(List.range h.objs.size).filterMap λ a=>if a=L\/a=d then none else (h.get? a).map λ o=>(a,o)
end
end Att
namespace L2
open PySem PySem.Spec PyProof.Rows
theorem gq:∀ {vs:List Value} {ns:List Int},IntsAre vs ns->Vals (ns.map V.int) vs
 | _,_,.nil=>.nil
 | _,_,.cons n t h=>.cons ⟨t,rfl⟩ (gq h)
def tL (H:Hp):Prop:=∀ b,H b=none\/∃ o xs,H b=some (.frz o (.lst xs))
theorem law_call {P:Program}{w:World}{K:yC}{mg mb:Str->Option Value}{CX:CXT}{k:Nat}{fa a:Addr}{fd:FuncData}{x:Str}{sp:Sp}{s₁:Shared}{vs:List Value}{ns:List Int}
  (KX:K.In s₁.heap) (hns:s₁.heap.Ns mainGlobals mg) (hb:s₁.heap.Ns builtinsNs mb) (hbb:∀ x:Str,x≠"__name__"->mb x=bootBuiltins x) (hlim:s₁.heap.NoLimit) (hg:s₁.gens=#[])
  (ha:s₁.heap.get? a=some { cls:=.type "list",data:=.seq vs.toArray }) (hi:IntsAre vs ns) (hl:ns.length<=sizeLine) (hr:Room k callerA)
  (F:∀ base:Heap,K.In base->base.Ns mainGlobals mg->FnOk P w K mg base CX k fa fd [x] sp) (hbind:∀ (s:Shared) (u:Value),BindsTo s fd ⟨[u],[]⟩ [(x,u)])
  (hsp:∀ H:Hp,tL H->SqL K H a (ns.map V.int)->sp [.ref a] H (λ v _=>v=.bl true) λ _ _ _=>False)
  (hCX:∀ H e s',CX [] H s₁ (λ _ _ _=>False) e s'->False):
  codeAny (model P w) callerA (.call (.ref fa) ⟨[.ref a],[]⟩) (λ r s'=>r=.ok (.ret (.bool true))/\OldK s₁.heap s'.heap/\s'.os=s₁.os/\AllBare s'.gens) s₁:=by
 have rv:=gq hi;have lenV:=hi.length;have core:∀ H:Hp,tL H->SqL K H a (ns.map V.int)->HOk P w H s₁.heap->(∀ b,H b≠none->b=a)->(H a≠none->K.lookup a=none) ->
   codeAny (model P w) callerA (.call (.ref fa) ⟨[.ref a],[]⟩) (λ r s'=>r=.ok (.ret (.bool true))/\OldK s₁.heap s'.heap/\s'.os=s₁.os/\AllBare s'.gens) s₁:=by
  intro H hO hS hok hA hK;have base_of:∀ {b:Addr} {o:Obj},s₁.heap.get? b=some o->H b=none->(iC s₁.heap H).get? b=some o:=λ e n=>nC e n
  have noA:∀ {b:Addr} {o:Obj} {es:Array DictEntry} {ep:Nat},s₁.heap.get? b=some o->o.data=.dict es ep->H b=none:=λ {b o es ep} e d=>by
   cases q:H b with
   | none=>rfl
   | some u=>
    have e':b=a:=hA b (by rw[q];simp);subst e';rw[ha] at e;cases e;have d':Data.seq vs.toArray _=Data.dict es ep:=d;cases d'
  have nsK:∀ {b:Addr} {m:Str->Option Value},s₁.heap.Ns b m->(iC s₁.heap H).Ns b m:=λ {b m} ⟨o,es,ep,e,d,r⟩=>⟨o,es,ep,base_of e (noA e d),d,r⟩
  have hKb:K.In (iC s₁.heap H):=λ b o e=>base_of (KX b o e) (by
   cases q:H b with
   | none=>rfl
   | some u=>
    have e':b=a:=hA b (by rw[q];simp);subst e';rw[hK (by rw[q];simp)] at e;cases e)
  have hM:Mod K mg (iC s₁.heap H):=⟨hKb,nsK hns,⟨mb,nsK hb,hbb⟩,let ⟨mc,h1,h2⟩:=hlim;⟨mc,nsK h1,h2⟩⟩;have e0:Env0 P w K mg (iC s₁.heap H) callerA [] s₁ H:=⟨rfl,hM,λ b o e=>qB e,yt (lY _ _),trivial,λ b hb=>absurd (show b∈([]:List Addr) from hb) (by simp),hok,.of_eq hg⟩;refine AJ ((F _ hKb (nsK hns)).run callerA [] s₁ H ⟨[.ref a],[]⟩ [.ref a] [.ref a] _ _ hr e0 (hbind s₁ (.ref a)) (.cons rfl .nil) (hsp H hO hS)) λ r s' h=>?_
  cases r with
  | error e=>exact(hCX H e s' h).elim
  | ok fl=>
   cases fl with
   | next=>exact zx h
   | brk=>exact zx h
   | cont=>exact zx h
   | ret u=>
    obtain⟨v,H',os,bare,un,hok',r',q⟩:=h;have q':v=.bl true:=q;subst q';obtain rfl:u=Value.bool true:=r';refine⟨rfl,OldK.of_keep λ b o e=>?_,os,bare⟩;cases q:H b with
    | none=>exact un.keep b o e q (by intro z;exact absurd (show b∈([]:List Addr) from z) (by simp)) (by simp)
    | some u=>
     rcases hO b with z|⟨ob,xs,z⟩
     ·rw[q] at z;cases z
     ·have z2:=un.frzs b ob _ z
      obtain⟨e1,_⟩:=hok b _ z;obtain⟨e2,_⟩:=hok' b _ z2;rw[e] at e1;cases e1;exact e2
 cases hk:K.lookup a with
 | some o=>
  have e:=KX a o hk;rw[ha] at e;cases e;refine core (λ _=>none) (λ _=>.inl rfl) (.inr ⟨_,vs.toArray,_,hk,rfl,rfl,rfl,by rw[u0,lenV];exact hl,by simpa using rv⟩) (λ b u z=>by have z':(none:Option HO)=some u:=z;cases z') (λ b z=>absurd rfl z) λ z=>absurd rfl z
 | none=>
  refine core (λ b=>if b=a then some (.frz { cls:=.type "list",data:=.seq vs.toArray } (.lst (ns.map V.int))) else none) (λ b=>?_) (.inl (.inr ⟨{ cls:=.type "list",data:=.seq vs.toArray },if_pos rfl⟩)) (λ b u z=>?_) (λ b z=>?_) λ _=>hk
  ·by_cases hb:b=a
   ·exact .inr ⟨_,_,if_pos hb⟩
   ·exact .inl (if_neg hb)
  ·by_cases hb:b=a
   ·have z':=(if_pos hb).symm.trans z
    cases z';subst hb;exact⟨ha,by rw[uR];exact hl,vs,_,rv,ha⟩
   ·have z':=(if_neg hb).symm.trans z
    cases z'
  ·by_cases hb:b=a
   ·exact hb
   ·exact absurd (if_neg hb) z
def bf (s:Stmt):Arguments:=match s with
 | .FunctionDef _ a _ _ _ _ _ _ _ _=>a
 | _=>{ posonlyargs:=[],args:=[],vararg:=none,kwonlyargs:=[],kw_defaults:=[],kwarg:=none,defaults:=[] }
def aN (s:Stmt):List Stmt:=match s with
 | .FunctionDef _ _ b _ _ _ _ _ _ _=>b
 | _=>[]
def ah (s:Stmt):Scope:=match s with
 | .FunctionDef _ _ _ _ _ _ sc _ _ _=>sc
 | _=>{ kind:=.function,names:=[],isGenerator:=false,isCoroutine:=false }
abbrev CX0:CXT:=λ _ _ _ _ _ _=>False
structure Fun (K:yC)(x qual:Str)(st:Stmt)(f:Addr)(fd:FuncData):Prop where
 ex:∃ (oc:Value) (od:Option Addr) (kV doc pm:Value) (an:Option Addr) (cdv ct:Value) (osl:Array (Option Value)),
  fd=zf x qual (bf st) (aN st) (ah st) .none kV doc pm an cdv ct/\K.lookup f=some ⟨oc,od,.func fd,osl⟩/\zH K cdv qual=true
 kp:zI K (.ref f)=true
section
variable {P:Program}{w:World}{K:yC}{mg:Str->Option Value}{base:Heap}
theorem Fun.ok {x qual:Str}{st:Stmt}{f:Addr}{fd:FuncData}{N ps:List Str}{k:Nat}{sp:Sp}(F:Fun K x qual st f fd)(S:FnScope N ps (ah st))(len:∀ vs H Q E,sp vs H Q E->vs.length=ps.length)
  (hbody:∀ (cdv:Value) (A:Around) (outer:List Env) (s:Shared) (H:Hp) (vs:List V) (Q:VK) (E:XK),Room k (A.deeper (envOfC qual (ah st) s.heap.objs.size f cdv))->sp vs H Q E ->
   ∃ t,PSs (bR CX0 P w K mg base N qual (ah st) f cdv A outer s H E).nox (aN st) t/\t { nx:=λ _ H'=>Q .non H',rt:=Q } (start N vs) H):FnOk P w K mg base CX0 (k+1) f fd ps sp:=by
 obtain⟨oc,od,kV,doc,pm,an,cdv,ct,osl,rfl,lk,hcd⟩:=F.ex;refine rm lk hcd S len λ A outer s H vs Q E hr hsp=>?_
 obtain⟨t,h,q⟩:=hbody cdv A outer s H vs Q E hr hsp;exact⟨t,h.nox,q⟩
end
section
variable {X:Cx}
theorem pv (i:Nat){x:Str}{pos:Pos}(hN:autoParam (X.N[i]?=some x) ZE._auto_1)(hv:autoParam (Vis X.env.scope x) ZF._auto_1)(hd:autoParam ((x == ("__debug__":Str))=false) ZC._auto_1)
  (hcd:autoParam ((x == ("__classdict__":Str))=false) ZC._auto_1):PE X (.Name x pos) (fP i):=dZ hN hv hd hcd
end
theorem qH {A B:Prop}(h:B):if false=true then A else B:=by
 rw[if_neg vq];exact h
theorem qz {A B:Prop}(h:A):if true=true then A else B:=by
 rw[if_pos rfl];exact h
def Same (H H':Hp):Prop:=∀ b o,H b=some o->H' b=some o
theorem Same.refl (H:Hp):Same H H:=λ _ _ h=>h
theorem Same.trans {H H1 H2:Hp}(a:Same H H1)(b:Same H1 H2):Same H H2:=λ c o h=>b c o (a c o h)
theorem Same.free {H H':Hp}(e:Same H H'){l:Addr}(h:H' l=Option.none):H l=Option.none:=by
 cases q:H l with
 | none=>rfl
 | some o=>
  rw[e l o q] at h;cases h
theorem Same.seq {K:yC}{H H':Hp}{a:Addr}{xs:List V}(e:Same H H')(h:SqL K H a xs):SqL K H' a xs:=by
 rcases h with (h|⟨o,h⟩)|h
 ·exact .inl (.inl (e _ _ h))
 ·exact .inl (.inr ⟨o,e _ _ h⟩)
 ·exact .inr h
section
variable {κ:Type}[DecidableEq κ]
def cZ (kvs:List (κ×V))(k:κ):Option V:=(kvs.find? λ kv=>decide (kv.1=k)).map (·.2)
def putK (kvs:List (κ×V))(k:κ)(v:V):List (κ×V):=
 if (kvs.any λ kv=>decide (kv.1=k))=true then kvs.map (λ kv=>if kv.1=k then (kv.1,v) else kv) else kvs++[(k,v)]
theorem di {p:κ×V}{r:List (κ×V)}{k:κ}(e:p.1=k):cZ (p::r) k=some p.2:=by simp[cZ,wd,e]
theorem de {p:κ×V}{r:List (κ×V)}{k:κ}(e:¬ p.1=k):cZ (p::r) k=cZ r k:=by simp[cZ,wd,e]
theorem dC (k:κ):∀ kvs:List (κ×V),(kvs.any λ kv=>decide (kv.1=k))=(cZ kvs k).isSome
 | []=>rfl
 | p::r=>by
  rw[w8];by_cases e:p.1=k
  ·simp only[di e,decide_eq_true e,Bool.true_or,Option.isSome_some]
  ·rw[de e,decide_eq_false e,yk];exact dC k r
theorem eA (kvs:List (κ×V))(k:κ)(v:V):(putK kvs k v).length<=kvs.length+1:=by
 unfold putK
 split
 ·rw[uR];omega
 ·rw[vd,uX,u7];omega
theorem ox {kvs:List (κ×V)}{k:κ}(v:V)(h:cZ kvs k=none):putK kvs k v=kvs++[(k,v)]:=by
 unfold putK;rw[dC,h];exact if_neg (by decide)
theorem RelO.isSome_eq {o:Option V}{u:Option Value}(r:RelO o u):o.isSome=u.isSome:=by
 cases o with
 | none=>cases u with
  | none=>rfl
  | some _=>exact Zf r
 | some _=>cases u with
  | none=>exact Zf r
  | some _=>rfl
theorem RelO.getD {o:Option V}{u:Option Value}{d:V}{d':Value}(r:RelO o u)(rd:RelV d d'):RelV (o.getD d) (u.getD d'):=by
 cases o with
 | none=>cases u with
  | none=>exact rd
  | some _=>exact Zf r
 | some _=>cases u with
  | none=>exact Zf r
  | some _=>exact r
theorem KV.val {kvs:List (κ×V)}{vs:List (κ×Value)}(r:KV kvs vs)(k:κ):RelO (cZ kvs k) (valueAt vs k):=by
 unfold KV at r
 induction r with
 | nil=>exact zO
 | @cons p q ps qs h t ih=>
  obtain⟨h1,h2⟩:=h;by_cases e:p.1=k
  ·have e':q.1=k:=h1.symm.trans e
   have b:valueAt (q::qs) k=some q.2:=by simp[valueAt,wd,e']
   rw[di e,b];exact h2
  ·have e':¬ q.1=k:=λ z=>e (h1.trans z)
   have b:valueAt (q::qs) k=valueAt qs k:=by simp[valueAt,wd,e']
   rw[de e,b];exact ih
theorem KV.any {kvs:List (κ×V)}{vs:List (κ×Value)}(r:KV kvs vs)(k:κ):(kvs.any λ kv=>decide (kv.1=k))=vs.any λ kv=>decide (kv.1=k):=by
 unfold KV at r
 induction r with
 | nil=>rfl
 | cons h t ih=>rw[w8,w8,ih,h.1]
theorem KV.repl {kvs:List (κ×V)}{vs:List (κ×Value)}(r:KV kvs vs)(k:κ){y:V}{u:Value}(ry:RelV y u):
  KV (kvs.map λ kv=>if kv.1=k then (kv.1,y) else kv) (vs.map λ kv=>if kv.1=k then (kv.1,u) else kv):=by
 unfold KV at r ⊢
 induction r with
 | nil=>exact .nil
 | @cons p q ps qs h t ih=>
  rw[uS,uS];refine .cons ?_ ih
  obtain⟨h1,h2⟩:=h;by_cases e:p.1=k
  ·rw[if_pos e,if_pos (h1.symm.trans e)];exact⟨h1,ry⟩
  ·rw[if_neg e,if_neg (λ z=>e (h1.trans z))];exact⟨h1,h2⟩
theorem KV.put {kvs:List (κ×V)}{vs:List (κ×Value)}(r:KV kvs vs)(k:κ){y:V}{u:Value}(ry:RelV y u):KV (putK kvs k y) (stored vs k u):=by
 unfold putK stored;rw[r.any k];by_cases e:(vs.any λ kv=>decide (kv.1=k))=true
 ·rw[if_pos e,if_pos e];exact r.repl k ry
 ·rw[if_neg e,if_neg e];exact CS r ⟨rfl,ry⟩
theorem KV.length {kvs:List (κ×V)}{vs:List (κ×Value)}(r:KV kvs vs):kvs.length=vs.length:=AZ r
end
theorem ng {P:Program}{w:World}{k:Key}{u:Value}(r:RelV (kV k) u):(aJ P w).is k u=true:=by
 cases k with
 | inl i=>obtain⟨t,e⟩:=(show ∃ t,u=zA i t from r);subst e;exact js P w i t
 | inr x=>obtain⟨t,e⟩:=(show ∃ t,u=CI x t from r);subst e;exact jj P w x t
theorem gw {P:Program}{w:World}:∀ {ks:List Key} {us:List Value},Vals (ks.map kV) us->ItemsAre (aJ P w) ks us
 | [],_,r=>by rw[va] at r;cases r;exact .nil
 | k::ks,_,r=>by
  rw[uS] at r;cases r with
  | cons h t=>exact .cons (ng h) (gw t)
abbrev KT (H:Hp):List (List Key×V)->List (List Key×Addr×Value)->Prop:=Paired λ p q=>p.1=q.1/\H q.2.1=some (.tup (p.1.map kV))/\RelV p.2 q.2.2
theorem KT.val {H:Hp}{kvs:List (List Key×V)}{xs:List (List Key×Addr×Value)}(r:KT H kvs xs)(k:List Key):RelO (cZ kvs k) ((atKey xs k).map (·.2)):=by
 induction r with
 | nil=>exact zO
 | @cons p q ps qs h t ih=>
  obtain⟨h1,_,h2⟩:=h;by_cases e:p.1=k
  ·have e':q.1=k:=h1.symm.trans e
   have b:atKey (q::qs) k=some q.2:=by simp[atKey,wd,e']
   rw[di e,b];exact h2
  ·have e':¬ q.1=k:=λ z=>e (h1.trans z)
   have b:atKey (q::qs) k=atKey qs k:=by simp[atKey,wd,e']
   rw[de e,b];exact ih
theorem KT.repl {H:Hp}{kvs:List (List Key×V)}{xs:List (List Key×Addr×Value)}(r:KT H kvs xs)(k:List Key){y:V}{u:Value}(ry:RelV y u):
  KT H (kvs.map λ kv=>if kv.1=k then (kv.1,y) else kv) (xs.map (putAt k u)):=by
 induction r with
 | nil=>exact .nil
 | @cons p q ps qs h t ih=>
  rw[uS,uS];refine .cons ?_ ih
  obtain⟨h1,h2,h3⟩:=h;unfold putAt;by_cases e:p.1=k
  ·rw[if_pos e,if_pos (h1.symm.trans e)];exact⟨h1,h2,ry⟩
  ·rw[if_neg e,if_neg (λ z=>e (h1.trans z))];exact⟨h1,h2,h3⟩
theorem KT.put {H:Hp}{kvs:List (List Key×V)}{xs:List (List Key×Addr×Value)}(r:KT H kvs xs)(k:List Key){b:Addr}{y:V}{u:Value}(hb:H b=some (.tup (k.map kV)))(ry:RelV y u):
  KT H (putK kvs k y) (storedH xs k b u):=by
 have e:(kvs.any λ kv=>decide (kv.1=k))=(atKey xs k).isSome:=by
  rw[dC,(r.val k).isSome_eq,Option.isSome_map]
 unfold putK storedH;rw[e];by_cases q:(atKey xs k).isSome=true
 ·rw[if_pos q,if_pos q];exact r.repl k ry
 ·rw[if_neg q,if_neg q];exact CS r ⟨rfl,hb,ry⟩
theorem KT.keeps {H H':Hp}{kvs:List (List Key×V)}{xs:List (List Key×Addr×Value)}(r:KT H kvs xs)(ht:∀ b ys,H b=some (.tup ys)->H' b=some (.tup ys)):KT H' kvs xs:=
 Paired.mapP r λ _ _ z=>⟨z.1,ht _ _ z.2.1,z.2.2⟩
section
variable {P:Program}{w:World}{H:Hp}{h:Heap}{a:Addr}
theorem qQ {u:HO}(ok:HOk P w H h)(e:Rd H a u):ObjOk P w H h a u:=e.ok ok
theorem oR {kvs:List (Key×V)}(ok:HOk P w H h)(e:Rd H a (.dK kvs)):kvs.length<=sizeLine/\(a == sysModules)=false/\∃ vs,KV kvs vs/\h.DictOf (aJ P w) a vs:=
 show ObjOk P w H h a (.dK kvs) from qQ ok e
theorem tD {kvs:List (Key×V)}(ok:HOk P w H h)(e:H a=some (.dK kvs)):kvs.length<=sizeLine/\(a == sysModules)=false/\∃ vs,KV kvs vs/\h.DictOf (aJ P w) a vs:=oR ok (.inl e)
theorem j9 {ks:List Key}(ok:HOk P w H h)(e:H a=some (.tup (ks.map kV))):(tupleKind (aJ P w)).is h ks a:=by
 obtain⟨_,its,r,o,h1,h2,n,h3⟩:=(show ObjOk P w H h a (.tup (ks.map kV)) from ok a _ e);exact⟨o,its.toArray,n,h1,h2,h3,by simpa using gw r⟩
theorem nZ {kvs:List (List Key×V)}(ok:HOk P w H h)(e:Rd H a (.dT kvs)):kvs.length<=sizeLine/\(a == sysModules)=false /\
  ∃ xs,KT H kvs xs/\h.DictOfH (tupleKind (aJ P w)) a xs:=by
 obtain⟨z,y,xs,r,o,es,ep,h1,h2,h3,h4,h5⟩:=(show ObjOk P w H h a (.dT kvs) from qQ ok e);refine⟨z,y,xs,r,o,es,ep,h1,h2,h3,h4,λ x hx=>?_,h5⟩;have all:∀ {l:List (List Key×V)} {m:List (List Key×Addr×Value)},KT H l m->∀ x∈m,(tupleKind (aJ P w)).is h x.1 x.2.1:=by
  intro l m q
  induction q with
  | nil=>intro x hx;exact nomatch hx
  | @cons p q ps qs hq t ih=>
   intro x hx
   rcases List.mem_cons.mp hx with e|hx
   ·subst e
    exact j9 ok (by rw[<- hq.1];exact hq.2.1)
   ·exact ih x hx
 exact all r x hx
theorem qT {kvs:List (List Key×V)}(ok:HOk P w H h)(e:H a=some (.dT kvs)):kvs.length<=sizeLine/\(a == sysModules)=false /\
  ∃ xs,KT H kvs xs/\h.DictOfH (tupleKind (aJ P w)) a xs:=nZ ok (.inl e)
end
def DGet (H:Hp)(a:Addr)(y:V)(r:Option V):Prop:=
 (∃ kvs k,Rd H a (.dK kvs)/\y=kV k/\r=cZ kvs k)\/∃ kvs k b,Rd H a (.dT kvs)/\y=.ref b/\H b=some (.tup (k.map kV))/\r=cZ kvs k
def DPut (H:Hp)(a:Addr)(y v:V)(H':Hp):Prop:=
 (∃ kvs k,H a=some (.dK kvs)/\y=kV k/\kvs.length<sizeLine/\H'=upd H a (.dK (putK kvs k v))) \/
 ∃ kvs k b,H a=some (.dT kvs)/\y=.ref b/\H b=some (.tup (k.map kV))/\kvs.length<sizeLine/\H'=upd H a (.dT (putK kvs k v))
theorem DGet.t {H:Hp}{a b:Addr}{kvs:List (List Key×V)}{k:List Key}(e:H a=some (.dT kvs))(eb:H b=some (.tup (k.map kV))):DGet H a (.ref b) (cZ kvs k):=.inr ⟨kvs,k,b,.inl e,rfl,eb,rfl⟩
theorem DPut.t {H:Hp}{a b:Addr}{kvs:List (List Key×V)}{k:List Key}{v:V}(e:H a=some (.dT kvs))(eb:H b=some (.tup (k.map kV)))(hl:kvs.length<sizeLine):
  DPut H a (.ref b) v (upd H a (.dT (putK kvs k v))):=.inr ⟨kvs,k,b,e,rfl,eb,hl,rfl⟩
section
variable {X:Cx}{pins:List (Addr×Obj)}{σ:St}{H:Hp}{s:Shared}{a:Addr}{y v:V}{u r:Value}{o:Option V}{A:Around}{E:Value->Shared->Prop}
theorem Inv.big (I:Inv X pins σ H s):sysModules<s.heap.objs.size:=by
 have h:mainGlobals<s.heap.objs.size:=(I.mod.glob.keeps I.bk).lt;exact wW (by decide) h
theorem lh {h':Heap}{t':Nat}{ob:HO}(I:Inv X pins σ H s)(mu:Mut (H a))(hs:zQ a s.heap h')(he:∃ q,h'.get? a=some q)(new:ObjOk X.prog X.w (upd H a ob) h' a ob):
  Inv X pins σ (upd H a ob) { s with heap:=h',toks:=t' }:=
 I.write (x:=a) (e:=a) mu (.inl rfl) (λ b q hb z=>(hs.2 b hb).trans z) he new
theorem rQ {P:Program}{w:World}{H':Hp}{h':Heap}{kvs:List (Key×V)}{vs:List (Key×Value)}(z:kvs.length<=sizeLine)(hd:(a == sysModules)=false)(rel:KV kvs vs)(dd:h'.DictOf (aJ P w) a vs):
  ObjOk P w H' h' a (.dK kvs):=⟨z,hd,vs,rel,dd⟩
theorem mz {H':Hp}{Q:Unit->Shared->Prop}(hu:A.units+1<cLine)(I:Inv X pins σ H s)(g:DPut H a y v H')(ry:RelV y u)(rv:RelV v r)(h:∀ s',Inv X pins σ H' s'->Q () s'):
  wpAny (model X.prog X.w) A (setItem (.ref a) u r) Q E s:=by
 rcases g with ⟨kvs,k,e,ey,l,eH⟩|⟨kvs,k,b,e,ey,eb,l,eH⟩
 ·subst ey eH
  obtain⟨z,hd,vs,rel,dd⟩:=tD I.hok e;have hz:vs.length<=sizeLine:=by rw[<- rel.length];exact z
  have hl:(putK kvs k v).length<=sizeLine:=by have:=eA kvs k v;omega
  refine wpAny_setItem_pairs (hsz:=hz) (ng ry) dd λ h' dd' hs=>h _ ?_
  have he:∃ q,h'.get? a=some q:=let ⟨q,_,_,hq,_⟩:=dd';⟨q,hq⟩
  exact lh I (by rw[e];exact zO) hs he (rQ hl hd (rel.put k rv) dd')
 ·subst ey eH
  cases (show u=yQ b from ry);obtain⟨z,hd,xs,rel,dd⟩:=qT I.hok e;have hz:xs.length<=sizeLine:=by rw[<- AZ rel];exact z
  have hl:(putK kvs k v).length<=sizeLine:=by have:=eA kvs k v;omega
  refine wpAny_setItem_heap (hsz:=hz) (BZ hu) (j9 I.hok eb) dd λ h' dd' hs=>h _ ?_
  obtain⟨q,es,ep,hq,h2,h3,h4,_,h5⟩:=dd';refine lh I (by rw[e];exact zO) hs ⟨q,hq⟩ ⟨hl,hd,_,(rel.put k eb rv).keeps λ c ys ec=>?_,q,es,ep,hq,h2,h3,h4,h5⟩;rw[ao (t4 ec e (λ z=>nomatch z))];exact ec
end
def nG (td ty tv:TE):TS:=λ D σ H=>tv σ H λ v H1=>td σ H1 λ x H2=>ty σ H2 λ y H3=>∃ a H4,x=.ref a/\DPut H3 a y v H4/\D.nx σ H4
section
variable {X:Cx}{o i e value:Expr}{pos pos' tpos:Pos}{td ty tv:TE}
theorem qw (hu:X.A.units+1<cLine)(ho:PE X o td)(hi:PE X i ty)(hv:PE X value tv)(hs:swapsWith value (some (.Subscript o i pos')) pos.line X.env=pure false):
  PS X (.Assign [.Subscript o i pos'] value pos) (nG td ty tv):=by
 intro pins s σ H D I h;refine wpAny_Assign_Subscript (thn (hv pins s σ H _ I h) λ r s1 ⟨v,H1,I1,rv,q1⟩=>thn (ho pins s1 σ H1 _ I1 q1) λ u s2 ⟨x,H2,I2,rx,q2⟩=>thn (hi pins s2 σ H2 _ I2 q2) λ iv s3 ⟨y,H3,I3,ry,a,H4,ex,g,q3⟩=>?_) hs;subst ex;obtain rfl:u=yQ a:=rx;exact mz hu I3 g ry rv λ s4 I4=>⟨σ,H4,I4,q3⟩
end
theorem oP {P:Program}{w:World}{H:Hp}(h:Heap)(hb:sysModules<h.objs.size):ObjOk P w H (h.push { cls:=.type "dict",data:=.dict #[] }) h.objs.size (.dT []):=
 ⟨vK _,beq_eq_false_iff_ne.mpr (Ne.symm (u9 hb)),[],.nil,_,#[],0,yL _ rfl,⟨rfl,rfl,rfl⟩,rfl,rfl,List.nodup_nil⟩
def mO:TE:=λ _ H Q=>∀ p,H p=none->Q (.ref p) (upd H p (.dT []))
section
variable {X:Cx}{pos:Pos}
theorem nE:PE X (.Dict [] [] pos) mO:=λ pins s σ H Q I h=>
 wpAny_Dict_empty ⟨.ref s.heap.objs.size,_,I.laid (a:=s.heap.objs.size) (o:=.dT []) (t':=s.toks) (λ _ _ q=>yE _ q) (u5 _) (oP s.heap I.big),rfl,h _ (I.hok.fresh (u5 _))⟩
end
structure M1 (X:Cx)(o:Expr)(m:Str)(apos:Pos)(e:Expr)(cpos:Pos):Prop where
 base:attributeBase o m X.env (eval o X.env)=eval o X.env
 few:((backTo cpos (starEach [e] X.env)).all (λ x=>!x.1)&&(backToKw cpos (keywordEach [] X.env)).all (λ x=>x.1.isSome)
  && decide (([e]:List Expr).length+([]:List Keyword).length+(if ([]:List Keyword).isEmpty then 0 else 1)<30))=true
 line:(apos.endLine == cpos.line)=true
 trees:backTo cpos (starEach [e] X.env)=[(false,eval e X.env)]
structure M2 (X:Cx)(o:Expr)(m:Str)(apos:Pos)(e f:Expr)(cpos:Pos):Prop where
 base:attributeBase o m X.env (eval o X.env)=eval o X.env
 few:((backTo cpos (starEach [e,f] X.env)).all (λ x=>!x.1)&&(backToKw cpos (keywordEach [] X.env)).all (λ x=>x.1.isSome)
  && decide (([e,f]:List Expr).length+([]:List Keyword).length+(if ([]:List Keyword).isEmpty then 0 else 1)<30))=true
 line:(apos.endLine == cpos.line)=true
 trees:backTo cpos (starEach [e,f] X.env)=[(false,eval e X.env),(false,eval f X.env)]
def IsD (H:Hp)(a:Addr):Prop:=(∃ kvs,Rd H a (.dK kvs))\/∃ kvs,Rd H a (.dT kvs)
theorem m9 {X:Cx}{pins:List (Addr×Obj)}{σ:St}{H:Hp}{s:Shared}{a:Addr}(I:Inv X pins σ H s)(d:IsD H a):
  s.TypeIs (.ref a) "dict"/\(∀ b,yQ a=.ref b->∃ ob,s.heap.get? b=some ob/\ob.dict=none)/\(a == sysModules)=false:=by
 rcases d with ⟨kvs,e⟩|⟨kvs,e⟩
 ·obtain⟨_,hd,vs,_,dd⟩:=oR I.hok e
  refine⟨dd.typeIs,λ b q=>?_,hd⟩;cases q;obtain⟨ob,_,_,h1,h2,_⟩:=dd;exact⟨ob,h1,h2.2.1⟩
 ·obtain⟨_,hd,xs,_,dd⟩:=nZ I.hok e
  refine⟨dd.typeIs,λ b q=>?_,hd⟩;cases q;obtain⟨ob,_,_,h1,h2,_⟩:=dd;exact⟨ob,h1,h2.2.1⟩
section
variable {X:Cx}{pins:List (Addr×Obj)}{σ:St}{H:Hp}{s:Shared}{a:Addr}{y d:V}{u r:Value}{o:Option V}{A:Around}{E:Value->Shared->Prop}
theorem rS {Q:Value->Shared->Prop}(hu:A.units+1<cLine)(I:Inv X pins σ H s)(g:DGet H a y o)(ry:RelV y u)(rd:RelV d r)(h:∀ w' s',Inv X pins σ H s'->RelV (o.getD d) w'->Q w' s'):
  wpAny (model X.prog X.w) A (call (.builtin "dict.get") [.ref a,u,r]) Q E s:=by
 rcases g with ⟨kvs,k,e,ey,l⟩|⟨kvs,k,b,e,ey,eb,l⟩
 ·subst ey
  obtain⟨z,hd,vs,rel,dd⟩:=oR I.hok e;refine Bf AB dd.typeIs BB (Bq _ _ _) (meets_dict_get_default (aJ X.prog X.w) a (ng ry) hd r) ⟨_,dd.mapOf,h _ _ (I.tok _) ?_⟩;rw[l];exact(rel.val k).getD rd
 ·subst ey
  cases (show u=yQ b from ry);obtain⟨z,hd,xs,rel,dd⟩:=nZ I.hok e;refine Bf AB dd.typeIs BB (Bq _ _ _) (meetsH_dict_get_default (tupleKind (aJ X.prog X.w)) a b hd r) ⟨BZ hu,k,xs,j9 I.hok eb,dd,h _ _ (I.tok _) ?_⟩;rw[l];exact(rel.val k).getD rd
end
def mH (td ty tx:TE):TE:=λ σ H Q=>td σ H λ x H1=>∃ a,x=.ref a/\IsD H1 a/\ty σ H1 λ y H2=>tx σ H2 λ z H3=>∃ o,DGet H3 a y o/\Q (o.getD z) H3
section
variable {X:Cx}{o e f:Expr}{apos cpos:Pos}{td ty tx:TE}
theorem oa (hu:X.A.units+1<cLine)(ho:PE X o td)(he:PE X e ty)(hf:PE X f tx)(m:M2 X o "get" apos e f cpos):PE X (.Call (.Attribute o "get" apos) [e,f] [] cpos) (mH td ty tx):=by
 intro pins s σ H Q I h;refine wpAny_Call_method m.base m.few m.line Br AB PySem.F.type_dict_get (thn (ho pins s σ H _ I h) λ u s1 ⟨x,H1,I1,rx,a,ex,d,q1⟩=>?_);subst ex;obtain rfl:u=yQ a:=rx;obtain⟨t1,t2,_⟩:=m9 I1 d;refine⟨t1,t2,?_⟩;rw[m.trees];refine Ap rfl (AI (yW (thn (he pins s1 σ H1 _ I1 q1) λ iv s2 ⟨y,H2,I2,ry,q2⟩=>
  yW (thn (hf pins s2 σ H2 _ I2 q2) λ fv s3 ⟨z,H3,I3,rz,ov,g,q3⟩=>zm ?_))))
 exact rS hu I3 g ry rz λ w' s4 I4 rw'=>⟨_,H3,I4,rw',q3⟩
end
end L2
namespace Dv
inductive D where
 | non
 | bl (b:Bool)
 | int (i:Int)
  | str (x:List Nat)
 | lst (ds:List D)
 | tup (ds:List D)
  | exn (c:String)
  | raw (a:Nat)
  | tab (rows:List (List Int))
  | dct (ks:List Int) (ds:List D)
  | ins (ns:List String) (ds:List D)
def scal:D->Bool
 | .lst _=>false
 | .tup _=>false
 | .exn _=>false
 | .raw _=>false
 | .tab _=>false
 | .dct _ _=>false
 | .ins _ _=>false
 | _=>true
def noTy:D->Bool
 | .exn _=>true
 | .raw _=>true
 | .tab _=>true
 | .ins _ _=>true
 | _=>false
def flatL:List D->Bool
 | []=>true
 | d::r=>scal d&&flatL r
def clipS (x:List Nat):List Nat:=x.map (·%1114112)
mutual
def eqD:D->D->Option Bool
 | .non,.non=>some true
 | .bl a,.bl b=>some (a == b)
 | .int a,.int b=>some (decide (a=b))
 | .str a,.str b=>some (decide (clipS a=clipS b))
 | .lst a,.lst b=>eqDL a b
 | .tup a,.tup b=>eqDL a b
 | _,_=>none
def eqDL:List D->List D->Option Bool
 | [],[]=>some true
 | [],_::_=>some false
 | _::_,[]=>some false
 | a::x,b::y=>
  match eqD a b,eqDL x y with
  | some p,some q=>some (p&&q)
  | _,_=>none
end
mutual
def depthD:D->Nat
 | .lst ds=>depthL ds+1
 | .tup ds=>depthL ds+1
 | .exn _=>100
 | .raw _=>100
 | .tab _=>100
 | .dct _ _=>100
 | .ins _ _=>100
 | _=>0
def depthL:List D->Nat
 | []=>0
 | d::r=>max (depthD d) (depthL r)
end
def intsOf:List D->Option (List Int)
 | []=>some []
 | .int i::r=>(intsOf r).map (i::·)
 | _::_=>none
def bits (a:Int):Nat:=if a=0 then 0 else a.natAbs.log2+1
def mulOk (i j:Int):Bool:=decide (bits i<=64) || decide (bits j<=64) || (decide (bits i<=1048576)&&decide (bits j<=1048576))
def divOk (j:Int):Bool:=decide (0<j)&&decide (j.natAbs.log2<9000)
def ins (i:Int):List Int->List Int
 | []=>[i]
 | j::r=>if i<=j then i::j::r else j::ins i r
def isort:List Int->List Int
 | []=>[]
 | i::r=>ins i (isort r)
inductive R where
 | ok (d:D) (fr:Bool)
 | exc (c:String)
 | bad
inductive RL where
 | ok (ds:List D) (fr:Bool)
 | exc (c:String)
 | bad
abbrev R.bind (r:R)(k:D->Bool->R):R:=match r with
 | .ok d fr=>k d fr
 | .exc c=>.exc c
 | .bad=>.bad
abbrev RL.bind (r:RL)(k:List D->Bool->R):R:=match r with
 | .ok d fr=>k d fr
 | .exc c=>.exc c
 | .bad=>.bad
abbrev R.bindL (r:R)(k:D->Bool->RL):RL:=match r with
 | .ok d fr=>k d fr
 | .exc c=>.exc c
 | .bad=>.bad
abbrev RL.bindL (r:RL)(k:List D->Bool->RL):RL:=match r with
 | .ok d fr=>k d fr
 | .exc c=>.exc c
 | .bad=>.bad
abbrev Env:=List (Option D)
abbrev EE:=Env->R
abbrev EL:=Env->RL
inductive Op where
 | add|sub|mul|mod|fdiv|pow|shr|band
inductive Cm where
 | lt|le|gt|ge|eq|ne|isin|notin|isT|isNotT
def mx:Nat:=100000
def opD:Op->D->D->R
 | .add,.int i,.int j=>.ok (.int (i+j)) true
 | .add,.lst a,.lst b=>if a.length+b.length<=mx then .ok (.lst (a++b)) (flatL a&&flatL b) else .bad
 | .sub,.int i,.int j=>.ok (.int (i-j)) true
 | .mul,.int i,.int j=>if mulOk i j then .ok (.int (i*j)) true else .bad
 | .mul,.lst a,.int j=>if decide (-100000<=j)&&decide (j<=mx)&&decide (a.length*j.toNat<=mx) then .ok (.lst (List.replicate j.toNat a).flatten) (flatL a) else .bad
 | .mod,.int i,.int j=>if decide (0<j) then .ok (.int (i%j)) true else .bad
 | .fdiv,.int i,.int j=>if divOk j then .ok (.int (i/j)) true else .bad
 | .pow,.int i,.int j=>if decide (0<=j)&&decide (j<=1000)&&decide (i.natAbs<1000000) then .ok (.int (i ^ j.toNat)) true else .bad
 | .band,.int i,.int j=>if decide (j=1) then .ok (.int (i%2)) true else .bad
 | .shr,.int i,.int j=>if decide (0<=j) then .ok (.int (i/2 ^ j.toNat)) true else .bad
 | _,_,_=>.bad
theorem opD_ai (i j:Int):opD .add (.int i) (.int j)=.ok (.int (i+j)) true:=rfl
theorem opD_al (a b:List D):opD .add (.lst a) (.lst b)=if a.length+b.length<=mx then .ok (.lst (a++b)) (flatL a&&flatL b) else .bad:=rfl
theorem opD_su (i j:Int):opD .sub (.int i) (.int j)=.ok (.int (i-j)) true:=rfl
theorem opD_mi (i j:Int):opD .mul (.int i) (.int j)=if mulOk i j then .ok (.int (i*j)) true else .bad:=rfl
theorem opD_ml (a:List D)(j:Int):opD .mul (.lst a) (.int j)=if decide (-100000<=j)&&decide (j<=mx)&&decide (a.length*j.toNat<=mx) then .ok (.lst (List.replicate j.toNat a).flatten) (flatL a) else .bad:=rfl
theorem opD_mo (i j:Int):opD .mod (.int i) (.int j)=if decide (0<j) then .ok (.int (i%j)) true else .bad:=rfl
theorem opD_fd (i j:Int):opD .fdiv (.int i) (.int j)=if divOk j then .ok (.int (i/j)) true else .bad:=rfl
theorem opD_po (i j:Int):opD .pow (.int i) (.int j)=if decide (0<=j)&&decide (j<=1000)&&decide (i.natAbs<1000000) then .ok (.int (i ^ j.toNat)) true else .bad:=rfl
theorem opD_ba (i j:Int):opD .band (.int i) (.int j)=if decide (j=1) then .ok (.int (i%2)) true else .bad:=rfl
theorem opD_sh (i j:Int):opD .shr (.int i) (.int j)=if decide (0<=j) then .ok (.int (i/2 ^ j.toNat)) true else .bad:=rfl
def inD (i:Int):List D->Option Bool
 | []=>some false
 | .int j::r=>(inD i r).map (decide (j=i) || ·)
 | _::_=>none
def optB:Option Bool->R
 | some b=>.ok (.bl b) true
 | none=>.bad
def cmD:Cm->D->D->R
 | .eq,a,b=>if decide (depthD a<=9)&&decide (depthD b<=9) then optB (eqD a b) else .bad
 | .ne,a,b=>if decide (depthD a<=9)&&decide (depthD b<=9) then optB ((eqD a b).map (!·)) else .bad
 | .lt,.int i,.int j=>.ok (.bl (decide (i<j))) true
 | .le,.int i,.int j=>.ok (.bl (decide (i<=j))) true
 | .gt,.int i,.int j=>.ok (.bl (decide (j<i))) true
 | .ge,.int i,.int j=>.ok (.bl (decide (j<=i))) true
 | .isin,.int i,.lst b=>optB (inD i b)
 | .notin,.int i,.lst b=>optB ((inD i b).map (!·))
 | .isT,.bl a,.bl true=>.ok (.bl a) true
 | .isNotT,.bl a,.bl true=>.ok (.bl (!a)) true
 | _,_,_=>.bad
theorem cmD_eq (a b:D):cmD .eq a b=if decide (depthD a<=9)&&decide (depthD b<=9) then optB (eqD a b) else .bad:=rfl
theorem cmD_ne (a b:D):cmD .ne a b=if decide (depthD a<=9)&&decide (depthD b<=9) then optB ((eqD a b).map (!·)) else .bad:=rfl
theorem cmD_lt (i j:Int):cmD .lt (.int i) (.int j)=.ok (.bl (decide (i<j))) true:=rfl
theorem cmD_le (i j:Int):cmD .le (.int i) (.int j)=.ok (.bl (decide (i<=j))) true:=rfl
theorem cmD_gt (i j:Int):cmD .gt (.int i) (.int j)=.ok (.bl (decide (j<i))) true:=rfl
theorem cmD_ge (i j:Int):cmD .ge (.int i) (.int j)=.ok (.bl (decide (j<=i))) true:=rfl
theorem cmD_in (i:Int)(b:List D):cmD .isin (.int i) (.lst b)=optB (inD i b):=rfl
theorem cmD_ni (i:Int)(b:List D):cmD .notin (.int i) (.lst b)=optB ((inD i b).map (!·)):=rfl
theorem cmD_it (a:Bool):cmD .isT (.bl a) (.bl true)=.ok (.bl a) true:=rfl
theorem cmD_nt (a:Bool):cmD .isNotT (.bl a) (.bl true)=.ok (.bl (!a)) true:=rfl
def eVar (i:Nat):EE:=λ ρ=>match ρ[i]? with
 | some (some d)=>.ok d (scal d)
 | _=>.bad
def eInt (i:Int):EE:=λ _=>.ok (.int i) true
def eBl (b:Bool):EE:=λ _=>.ok (.bl b) true
def eOp (o:Op)(a b:EE):EE:=λ ρ=>(a ρ).bind λ x _=>(b ρ).bind λ y _=>opD o x y
def eCm (o:Cm)(a b:EE):EE:=λ ρ=>(a ρ).bind λ x _=>(b ρ).bind λ y _=>cmD o x y
def eAnd (a b:EE):EE:=λ ρ=>(a ρ).bind λ x _=>match x with
 | .bl true=>b ρ
 | .bl false=>.ok (.bl false) true
 | _=>.bad
def eOr (a b:EE):EE:=λ ρ=>(a ρ).bind λ x _=>match x with
 | .bl true=>.ok (.bl true) true
 | .bl false=>b ρ
 | _=>.bad
def eNot (a:EE):EE:=λ ρ=>(a ρ).bind λ x _=>match x with
 | .bl b=>.ok (.bl (!b)) true
 | _=>.bad
def lNil:EL:=λ _=>.ok [] true
def lCons (a:EE)(r:EL):EL:=λ ρ=>(a ρ).bindL λ d f=>(r ρ).bindL λ ds g=>.ok (d::ds) (f&&g)
def eLst (a:EL):EE:=λ ρ=>(a ρ).bind λ ds f=>.ok (.lst ds) f
def eTup (a:EL):EE:=λ ρ=>(a ρ).bind λ ds f=>.ok (.tup ds) f
def at? (ds:List D)(i:Int):Option D:=if 0<=i then ds[i.toNat]? else if -(ds.length:Int)<=i then ds[(i+ds.length).toNat]? else none
def ixD (a i:D)(f:Bool):R:=match a,i with
 | .lst ds,.int k=>match at? ds k with
  | some d=>.ok d (f || scal d)
  | none=>.bad
 | .tup ds,.int k=>match at? ds k with
  | some d=>.ok d (f || scal d)
  | none=>.bad
 | _,_=>.bad
def eIx (a i:EE):EE:=λ ρ=>(a ρ).bind λ x f=>(i ρ).bind λ y _=>ixD x y f
def eCall (F:List D->R)(a:EL):EE:=λ ρ=>(a ρ).bind λ ds _=>F ds
def eB1 (F:D->Bool->R)(a:EE):EE:=λ ρ=>(a ρ).bind F
def lenD:D->Bool->R
 | .lst ds,_=>.ok (.int ds.length) true
 | .tup ds,_=>.ok (.int ds.length) true
 | _,_=>.bad
def listD:D->Bool->R
 | .lst ds,f=>.ok (.lst ds) (f || flatL ds)
 | .tup ds,f=>.ok (.lst ds) (f || flatL ds)
 | _,_=>.bad
def cutI (n:Nat)(dflt:Nat):Option Int->Nat
 | none=>dflt
 | some i=>if i<0 then (i+(n:Int)).toNat else min i.toNat n
def cutL {α:Type}(ds:List α)(lo hi:Option Int):List α:=(ds.drop (cutI ds.length 0 lo)).take (cutI ds.length ds.length hi-cutI ds.length 0 lo)
def sliceD (a:D)(f:Bool)(lo hi:Option Int):R:=match a with
 | .lst ds=>.ok (.lst (cutL ds lo hi)) (f || flatL (cutL ds lo hi))
 | _=>.bad
def ePart (p:Option EE)(ρ:Env)(k:Option Int->R):R:=match p with
 | none=>k none
 | some e=>(e ρ).bind λ d _=>match d with
  | .int i=>k (some i)
  | _=>.bad
def eSlice (a:EE)(lo hi:Option EE):EE:=λ ρ=>(a ρ).bind λ x f=>ePart lo ρ λ i=>ePart hi ρ λ j=>sliceD x f i j
def eB2 (F:D->D->R)(a b:EE):EE:=λ ρ=>(a ρ).bind λ x _=>(b ρ).bind λ y _=>F x y
def isBoolD:D->Bool->R
 | .exn _,_=>.bad
 | .ins _ _,_=>.bad
 | .raw _,_=>.bad
 | .tab _,_=>.bad
 | .bl _,_=>.ok (.bl true) true
 | _,_=>.ok (.bl false) true
def subX (c k:String):Bool:=c == k || k == "WheelError" || k == "ValueError"
inductive RI where
 | ok (ds:List D) (fr:Bool)
 | exc (c:String)
 | bad
abbrev EI:=Env->RI
def rangeL (lo:Int):Nat->List D
 | 0=>[]
 | n+1=>.int lo::rangeL (lo+1) n
def iSeq (a:EE):EI:=λ ρ=>match a ρ with
 | .ok (.lst ds) f=>.ok ds f
 | .exc c=>.exc c
 | _=>.bad
def rngOk (i:Int):Bool:=decide (-1000000<=i)&&decide (i<=1000000)
def iRange (a:EE):EI:=λ ρ=>match a ρ with
 | .ok (.int j) _=>if rngOk j then .ok (rangeL 0 j.toNat) true else .bad
 | .exc c=>.exc c
 | _=>.bad
def iRange2 (a b:EE):EI:=λ ρ=>match a ρ with
 | .ok (.int i) _=>match b ρ with
  | .ok (.int j) _=>if rngOk i&&rngOk j then .ok (rangeL i (j-i).toNat) true else .bad
  | .exc c=>.exc c
  | _=>.bad
 | .exc c=>.exc c
 | _=>.bad
def bB (elt:EE)(cond:EE)(free:Env):List D->RL
 | []=>.ok [] true
 | d::r=>match cond (some d::free) with
  | .ok (.bl true) _=>match elt (some d::free) with
   | .ok x f=>match bB elt cond free r with
    | .ok xs g=>.ok (x::xs) (f&&g)
    | _=>.bad
   | _=>.bad
  | .ok (.bl false) _=>bB elt cond free r
  | _=>.bad
def pick (ρ:Env)(is:List Nat):Env:=is.map λ i=>(ρ[i]?).getD none
def eComp (elt cond:EE)(is:List Nat)(it:EI):EE:=λ ρ=>match it ρ with
 | .ok ds _=>if ds.length<=mx then match bB elt cond (pick ρ is) ds with
   | .ok xs f=>.ok (.lst xs) f
   | _=>.bad
  else .bad
 | .exc c=>.exc c
 | .bad=>.bad
inductive Sl where
 | no
 | sh (d:D)
 | ow (d:D)
  | dp (d:D)
  | jk (n m:Nat)
abbrev St:=List Sl
def Sl.get:Sl->Option D
 | .no=>none
 | .sh d=>some d
 | .ow d=>some d
 | .dp d=>some d
 | .jk _ _=>none
def Sl.shared:Sl->Option D
 | .sh d=>some d
 | _=>none
def Sl.give:Sl->Sl
 | .ow d=>.sh d
 | .dp d=>.sh d
 | s=>s
def all (st:St):Env:=st.map Sl.get
def open_ (st:St):Env:=st.map Sl.shared
def give (is:List Nat)(st:St):St:=is.foldl (λ st i=>st.set i ((st[i]?.getD .no).give)) st
inductive Out where
 | nx (st:St)
 | ret (d:D) (nw:Bool)
 | brk (st:St)
 | cont (st:St)
 | exc (c:String) (st:St)
 | bad
abbrev SS:=St->Out
abbrev Out.bind (o:Out)(k:St->Out):Out:=match o with
 | .nx st=>k st
 | o=>o
def sNil:SS:=λ st=>.nx st
def sCons (a r:SS):SS:=λ st=>(a st).bind r
def keepD (d:D)(f:Bool):Option Sl:=match d with
 | .lst ds=>if f&&flatL ds then some (.ow d) else none
 | .tup _=>none
 | .exn _=>none
 | .raw _=>none
 | .tab _=>none
 | .ins _ _=>none
 | .dct ks ds=>if f&&ks.isEmpty&&ds.isEmpty then some (.ow d) else none
 | _=>some (.sh d)
def sSet (i:Nat)(e:EE):SS:=λ st=>match e (all st) with
 | .ok d f=>match keepD d f with
  | some s=>.nx (st.set i s)
  | none=>.bad
 | .exc c=>.exc c st
 | .bad=>.bad
def sSetG (is:List Nat)(i:Nat)(e:EE):SS:=λ st=>match e (open_ (give is st)) with
 | .ok d _=>.nx ((give is st).set i (.sh d))
 | .exc c=>.exc c st
 | .bad=>.bad
def sExpr (e:EE):SS:=λ st=>match e (all st) with
 | .ok _ _=>.nx st
 | .exc c=>.exc c st
 | .bad=>.bad
def sRet (e:EE):SS:=λ st=>match e (all st) with
 | .ok d f=>.ret d f
 | .exc c=>.exc c st
 | .bad=>.bad
def sRetO (i:Nat):SS:=λ st=>match st[i]? with
 | some (.ow (.lst ds))=>.ret (.lst ds) (flatL ds)
 | some (.ow (.dct ks ds))=>.ret (.dct ks ds) false
 | some (.dp d)=>.ret d true
 | some (.sh d)=>.ret d (scal d)
 | _=>.bad
def sIf (c:EE)(a b:SS):SS:=λ st=>match c (all st) with
 | .ok (.bl true) _=>a st
 | .ok (.bl false) _=>b st
 | .exc c=>.exc c st
 | _=>.bad
def sRaise (c:String):SS:=λ st=>.exc c st
def forGo (x:Nat)(body:SS):List D->SS
 | [],st=>.nx st
 | d::r,st=>match body (st.set x (.sh d)) with
  | .nx st'=>forGo x body r st'
  | .cont st'=>forGo x body r st'
  | .brk st'=>.nx st'
  | o=>o
def sFor (is:List Nat)(x:Nat)(it:EI)(body:SS):SS:=λ st=>match it (open_ (give is st)) with
 | .ok ds _=>forGo x body ds (give is st)
 | .exc c=>.exc c st
 | .bad=>.bad
def whileGo (c:EE)(body:SS):Nat->SS
 | 0,_=>.bad
 | n+1,st=>match c (all st) with
  | .ok (.bl true) _=>match body st with
   | .nx st'=>whileGo c body n st'
   | .cont st'=>whileGo c body n st'
   | .brk st'=>.nx st'
   | o=>o
  | .ok (.bl false) _=>.nx st
  | .exc c=>.exc c st
  | _=>.bad
def sWhile (n:Nat)(c:EE)(body:SS):SS:=whileGo c body n
def setAll:List Nat->List D->St->St
 | i::is,d::ds,st=>setAll is ds (st.set i (.sh d))
 | _,_,st=>st
def sPar (is:List Nat)(x y:Nat)(a b:EE):SS:=λ st=>match a (open_ (give is st)) with
 | .ok d _=>match b (open_ (give is st)) with
  | .ok d' _=>.nx (((give is st).set x (.sh d)).set y (.sh d'))
  | .exc c=>.exc c st
  | .bad=>.bad
 | .exc c=>.exc c st
 | .bad=>.bad
def forGoT (tgt:D->St->Option St)(body:SS):List D->SS
 | [],st=>.nx st
 | d::r,st=>match tgt d st with
  | none=>.bad
  | some st1=>match body st1 with
   | .nx st'=>forGoT tgt body r st'
   | .cont st'=>forGoT tgt body r st'
   | .brk st'=>.nx st'
   | o=>o
def sForT (is:List Nat)(tgt:D->St->Option St)(it:EI)(body:SS):SS:=λ st=>match it (open_ (give is st)) with
 | .ok ds _=>forGoT tgt body ds (give is st)
 | .exc c=>.exc c st
 | .bad=>.bad
def tupTo (xs:List Nat)(d:D)(s:St):Option St:=match d with
 | .tup ds=>if ds.length=xs.length then some (setAll xs ds s) else none
 | _=>none
def fn (n:Nat)(body:SS)(ds:List D):R:=match body (ds.map .sh++List.replicate (n-ds.length) .no) with
 | .nx _=>.ok .non true
 | .ret d f=>.ok d f
 | .exc c _=>.exc c
 | _=>.bad
end Dv
namespace Sd
open PySem PySem.Spec PyProof.Rows L2
open Dv (D R RL EE EL EI RI)
abbrev St:=L2.St
def SqX (K:yC)(H:Hp)(a:Addr)(xs:List V):Prop:=
 Rd H a (.lst xs)\/∃ (its:List Value) (n:Nat),K.lookup a=some { cls:=.type "list",data:=.seq its.toArray n }/\xs.length<=sizeLine/\Vals xs its
theorem SqX.seq {K:yC}{H:Hp}{a:Addr}{xs:List V}(h:SqX K H a xs):SqL K H a xs:=by
 rcases h with h|⟨its,n,e,z,r⟩
 ·exact .inl h
 ·refine .inr ⟨_,its.toArray,n,e,rfl,rfl,rfl,?_,by simpa using r⟩
  rw[u0,<- r.length];exact z
theorem SqX.of {K:yC}{H:Hp}{a:Addr}{xs:List V}(h:H a=some (.lst xs)):SqX K H a xs:=.inl (.inl h)
theorem Rd.same {H H':Hp}{a:Addr}{o:HO}(e:Same H H')(h:Rd H a o):Rd H' a o:=by
 rcases h with h|⟨u,h⟩
 ·exact .inl (e _ _ h)
 ·exact .inr ⟨u,e _ _ h⟩
theorem SqX.same {K:yC}{H H':Hp}{a:Addr}{xs:List V}(e:Same H H')(h:SqX K H a xs):SqX K H' a xs:=by
 rcases h with h|h
 ·exact .inl (Rd.same e h)
 ·exact .inr h
theorem Inv.listX {X:Cx}{pins:List (Addr×Obj)}{σ:St}{H:Hp}{s:Shared}{a:Addr}{xs:List V}(I:Inv X pins σ H s)(h:SqX X.K H a xs):
  ∃ (its:List Value) (n:Nat),Vals xs its/\s.heap.get? a=some { cls:=.type "list",data:=.seq its.toArray n }/\xs.length<=sizeLine:=by
 rcases h with h|⟨its,n,e,z,r⟩
 ·obtain⟨z,its,n,r,e⟩:=h.ok I.hok
  exact⟨its,n,r,e,z⟩
 ·exact⟨its,n,r,I.kIn a _ e,z⟩
def tP (a C:Addr):Heap->Prop:=λ h=>∃ o vs,h.get? a=some o/\o.cls=.ref C/\o.data=.fields vs
def Tbr (H:Hp):List Addr->List (List Int)->Prop
 | [],[]=>True
 | b::bs,r::rs=>Rd H b (.lst (r.map V.int))/\Tbr H bs rs
 | _,_=>False
theorem Tbr.same {H H':Hp}(e:∀ {b:Addr} {o:HO},Rd H b o->Rd H' b o):∀ {bs:List Addr} {rows:List (List Int)},Tbr H bs rows->Tbr H' bs rows
 | [],[],_=>zO
 | b::bs,r::rs,h=>⟨e h.1,Tbr.same e h.2⟩
 | [],_::_,h=>h.elim
 | _::_,[],h=>h.elim
mutual
def Rp (K:yC)(H:Hp):D->V->Prop
 | .non,v=>v=.non
 | .bl b,v=>v=.bl b
 | .int i,v=>v=.int i
 | .str x,v=>v=.str ⟨(Dv.clipS x).toArray⟩
 | .lst ds,v=>∃ a vs,v=.ref a/\SqX K H a vs/\RpL K H ds vs
 | .tup ds,v=>∃ a vs,v=.ref a/\Rd H a (.tup vs)/\RpL K H ds vs
 | .exn c,v=>∃ a C,v=.ref a/\yX K mainGlobals (y7 c)=some (some (.ref C))/\H a=some (.ext (tP a C))
 | .raw a,v=>v=.ref a
 | .tab rows,v=>∃ t bs,v=.ref t/\Rd H t (.lst (bs.map V.ref))/\t∉bs/\bs.Nodup/\Tbr H bs rows
 | .dct ks ds,v=>∃ a vs,v=.ref a/\ks.length=ds.length/\Rd H a (.dK ((ks.map Sum.inl).zip vs))/\RpL K H ds vs
 | .ins ns ds,v=>∃ a C dx fs vs,v=.ref a/\H a=some (.ins C dx fs)/\Cls K C/\ns.length=ds.length/\(∀ n u,(n,u)∈ns.zip vs->tf K C (y7 n)/\fs.lookup (y7 n)=some u)/\RpL K H ds vs
def RpL (K:yC)(H:Hp):List D->List V->Prop
 | [],vs=>vs=[]
 | d::r,vs=>∃ v ws,vs=v::ws/\Rp K H d v/\RpL K H r ws
end
mutual
theorem Rp.same {K:yC}{H H':Hp}(e:Same H H'):∀ {d:D} {v:V},Rp K H d v->Rp K H' d v
 | .non,_,h=>by unfold Rp at h ⊢;exact h
 | .bl _,_,h=>by unfold Rp at h ⊢;exact h
 | .int _,_,h=>by unfold Rp at h ⊢;exact h
 | .str _,_,h=>by unfold Rp at h ⊢;exact h
 | .raw _,_,h=>by unfold Rp at h ⊢;exact h
 | .tab _,v,h=>by
  unfold Rp at h ⊢;obtain⟨t,bs,h1,h2,h3,h4,h5⟩:=h;exact⟨t,bs,h1,Rd.same e h2,h3,h4,h5.same λ q=>Rd.same e q⟩
 | .lst ds,v,h=>by
  unfold Rp at h ⊢;obtain⟨a,vs,h1,h2,h3⟩:=h;exact⟨a,vs,h1,h2.same e,RpL.same e h3⟩
 | .tup ds,v,h=>by
  unfold Rp at h ⊢;obtain⟨a,vs,h1,h2,h3⟩:=h;exact⟨a,vs,h1,Rd.same e h2,RpL.same e h3⟩
 | .exn c,v,h=>by
  unfold Rp at h ⊢;obtain⟨a,C,h1,h2,h3⟩:=h;exact⟨a,C,h1,h2,e _ _ h3⟩
 | .dct ks ds,v,h=>by
  unfold Rp at h ⊢;obtain⟨a,vs,h1,h2,h3,h4⟩:=h;exact⟨a,vs,h1,h2,Rd.same e h3,RpL.same e h4⟩
 | .ins ns ds,v,h=>by
  unfold Rp at h ⊢;obtain⟨a,C,dx,fs,vs,h1,h2,h3,h4,h5,h6⟩:=h;exact⟨a,C,dx,fs,vs,h1,e _ _ h2,h3,h4,h5,RpL.same e h6⟩
theorem RpL.same {K:yC}{H H':Hp}(e:Same H H'):∀ {ds:List D} {vs:List V},RpL K H ds vs->RpL K H' ds vs
 | [],_,h=>by unfold RpL at h ⊢;exact h
 | d::r,vs,h=>by
  unfold RpL at h ⊢;obtain⟨v,ws,h1,h2,h3⟩:=h;exact⟨v,ws,h1,Rp.same e h2,RpL.same e h3⟩
end
theorem RpL.length {K:yC}{H:Hp}:∀ {ds:List D} {vs:List V},RpL K H ds vs->vs.length=ds.length
 | [],_,h=>by unfold RpL at h;subst h;rfl
 | d::r,vs,h=>by
  unfold RpL at h;obtain⟨v,ws,rfl,_,h3⟩:=h;rw[uX,uX,RpL.length h3]
theorem Rp.scal {K K':yC}{H H':Hp}{d:D}{v:V}(f:Dv.scal d=true)(h:Rp K H d v):Rp K' H' d v:=by
 cases d with
 | lst ds=>exact absurd f (by simp[Dv.scal])
 | tup ds=>exact absurd f (by simp[Dv.scal])
 | exn c=>exact absurd f (by simp[Dv.scal])
 | raw c=>exact absurd f (by simp[Dv.scal])
 | tab c=>exact absurd f (by simp[Dv.scal])
 | dct ks ds=>exact absurd f (by simp[Dv.scal])
 | ins ks ds=>exact absurd f (by simp[Dv.scal])
 | _=>unfold Rp at h ⊢;exact h
theorem RpL.flat {K K':yC}{H H':Hp}:∀ {ds:List D} {vs:List V},Dv.flatL ds=true->RpL K H ds vs->RpL K' H' ds vs
 | [],_,_,h=>by unfold RpL at h ⊢;exact h
 | d::r,vs,f,h=>by
  unfold Dv.flatL at f;rw[vi] at f;unfold RpL at h ⊢;obtain⟨v,ws,h1,h2,h3⟩:=h;exact⟨v,ws,h1,h2.scal f.1,RpL.flat f.2 h3⟩
theorem RpL.append {K:yC}{H:Hp}:∀ {ds es:List D} {vs ws:List V},RpL K H ds vs->RpL K H es ws->RpL K H (ds++es) (vs++ws)
 | [],_,_,_,h,g=>by unfold RpL at h;subst h;exact g
 | d::r,es,vs,ws,h,g=>by
  unfold RpL at h;obtain⟨v,vs',rfl,h2,h3⟩:=h;rw[vj,vj];unfold RpL;exact⟨v,_,rfl,h2,RpL.append h3 g⟩
theorem RpL.get {K:yC}{H:Hp}:∀ {ds:List D} {vs:List V} {i:Nat} {d:D},RpL K H ds vs->ds[i]?=some d->∃ v,vs[i]?=some v/\Rp K H d v
 | [],_,_,_,_,e=>by simp at e
 | x::r,vs,0,d,h,e=>by
  unfold RpL at h;obtain⟨v,ws,rfl,h2,_⟩:=h;simp at e;subst e;exact⟨v,rfl,h2⟩
 | x::r,vs,i+1,d,h,e=>by
  unfold RpL at h;obtain⟨v,ws,rfl,_,h3⟩:=h;obtain⟨u,h4,h5⟩:=RpL.get (i:=i) (d:=d) h3 (by simpa using e);exact⟨u,by simpa using h4,h5⟩
theorem RpL.cons {K:yC}{H:Hp}{d:D}{v:V}{ds:List D}{vs:List V}(h:Rp K H d v)(g:RpL K H ds vs):RpL K H (d::ds) (v::vs):=by
 unfold RpL;exact⟨v,vs,rfl,h,g⟩
theorem RpL.nil {K:yC}{H:Hp}:RpL K H [] []:=by unfold RpL;rfl
theorem RpL.ints {K:yC}{H:Hp}:∀ {ds:List D} {vs:List V} {ns:List Int},Dv.intsOf ds=some ns->RpL K H ds vs->vs=ns.map V.int
 | [],vs,ns,e,h=>by
  simp[Dv.intsOf] at e;subst e;unfold RpL at h;exact h
 | d::r,vs,ns,e,h=>by
  unfold RpL at h;obtain⟨v,ws,rfl,h2,h3⟩:=h;cases d with
  | int i=>
   simp only[Dv.intsOf,we] at e;obtain⟨ms,e1,rfl⟩:=e;unfold Rp at h2;subst h2;rw[RpL.ints e1 h3,uS]
  | _=>simp[Dv.intsOf] at e
theorem RpL.ofInts {K:yC}{H:Hp}:∀ (ns:List Int),RpL K H (ns.map .int) (ns.map V.int)
 | []=>.nil
 | n::r=>.cons (by unfold Rp;rfl) (RpL.ofInts r)
structure Ext (Hv H Hv' H':Hp):Prop where
 hh:Same H H'
 vv:Same Hv Hv'
 vh:Same Hv' H'
 new:∀ b o,Hv' b=some o->Hv b=none->H b=none
 all:∀ b,H b=none->Hv' b=H' b
 nf:∀ b o u,H b=none->H' b≠some (.frz o u)
theorem Ext.refl {Hv H:Hp}(e:Same Hv H):Ext Hv H Hv H:=⟨.refl _,.refl _,e,λ b o h n=>(by rw[n] at h;cases h),λ b h=>(by rw[h];exact e.free h),λ b o u h=>by rw[h];intro z;cases z⟩
theorem Ext.trans {Hv H Hv1 H1 Hv2 H2:Hp}(a:Ext Hv H Hv1 H1)(b:Ext Hv1 H1 Hv2 H2):Ext Hv H Hv2 H2:=
 ⟨a.hh.trans b.hh,a.vv.trans b.vv,b.vh,λ c o h n=>(by
  cases q:Hv1 c with
  | some u=>exact a.new c u q n
  | none=>exact a.hh.free (b.new c o h q)),λ c h=>by
  cases q:H1 c with
  | none=>exact b.all c q
  | some o=>rw[b.hh c o q];exact b.vv c o ((a.all c h).trans q),λ c o u h=>by
  cases q:H1 c with
  | none=>exact b.nf c o u q
  | some w=>rw[b.hh c w q,<- q];exact a.nf c o u h⟩
theorem du {H:Hp}{p:Addr}(h:H p=none)(o:HO):Same H (upd H p o):=λ b u q=>by rw[ao (ay q h)];exact q
theorem Ext.new1 {Hv H:Hp}(e:Same Hv H){p:Addr}(h:H p=none)(o:HO)(ho:autoParam (∀ a u,o≠.frz a u) ZG._auto_1):Ext Hv H (upd Hv p o) (upd H p o):=by
 refine⟨du h o,du (e.free h) o,λ b u q=>?_,λ b u q n=>?_,λ b q=>?_,λ b a u q=>?_⟩
 ·by_cases hb:b=p
  ·subst hb;rw[av] at q ⊢;exact q
  ·rw[ao hb] at q ⊢;exact e _ _ q
 ·by_cases hb:b=p
  ·subst hb;exact h
  ·rw[ao hb,n] at q;cases q
 ·by_cases hb:b=p
  ·subst hb;rw[av,av]
  ·rw[ao hb,ao hb,q];exact e.free q
 ·by_cases hb:b=p
  ·subst hb;rw[av];exact λ z=>ho a u (Option.some.inj z)
  ·rw[ao hb,q];intro z;cases z
def Hnew (H H':Hp):Hp:=λ b=>match H b with
 | none=>H' b
 | some _=>none
theorem Hnew.mono {H H1 H2 H3:Hp}(a:Same H H1)(c:Same H2 H3):Same (Hnew H1 H2) (Hnew H H3):=λ b o h=>by
 unfold Hnew at h ⊢;cases q:H b with
 | some u=>rw[a b u q] at h;cases h
 | none=>
  cases q1:H1 b with
  | some u=>rw[q1] at h;cases h
  | none=>rw[q1] at h;exact c b o h
theorem Ext.news {Hv H Hv' H':Hp}(x:Ext Hv H Hv' H'):Same (Hnew H H') Hv':=λ b o h=>by
 unfold Hnew at h;cases q:H b with
 | some u=>rw[q] at h;cases h
 | none=>rw[q] at h;rw[x.all b q];exact h
theorem Hnew.sub {H H':Hp}:Same (Hnew H H') H':=λ b o h=>by
 unfold Hnew at h;cases q:H b with
 | some u=>rw[q] at h;cases h
 | none=>rw[q] at h;exact h
mutual
theorem Rp.frag {K:yC}{H:Hp}:∀ {d:D} {v:V},Rp [] H d v->Rp K H d v
 | .non,_,h=>by unfold Rp at h ⊢;exact h
 | .bl _,_,h=>by unfold Rp at h ⊢;exact h
 | .int _,_,h=>by unfold Rp at h ⊢;exact h
 | .str _,_,h=>by unfold Rp at h ⊢;exact h
 | .raw _,_,h=>by unfold Rp at h ⊢;exact h
 | .tab _,_,h=>by unfold Rp at h ⊢;exact h
 | .lst ds,v,h=>by
  unfold Rp at h ⊢;obtain⟨a,vs,h1,h2,h3⟩:=h;refine⟨a,vs,h1,?_,RpL.frag h3⟩
  rcases h2 with h2|⟨its,n,e,_⟩
  ·exact .inl h2
  ·simp at e
 | .tup ds,v,h=>by
  unfold Rp at h ⊢;obtain⟨a,vs,h1,h2,h3⟩:=h;exact⟨a,vs,h1,h2,RpL.frag h3⟩
 | .exn c,v,h=>by
  unfold Rp at h;obtain⟨a,C,h1,h2,h3⟩:=h;simp[yX] at h2
 | .dct ks ds,v,h=>by
  unfold Rp at h ⊢;obtain⟨a,vs,h1,h2,h3,h4⟩:=h;exact⟨a,vs,h1,h2,h3,RpL.frag h4⟩
 | .ins ns ds,v,h=>by
  unfold Rp at h;obtain⟨a,C,dx,fs,vs,h1,h2,h3,h4,h5,h6⟩:=h;exact absurd h3.sa (by simp[zR])
theorem RpL.frag {K:yC}{H:Hp}:∀ {ds:List D} {vs:List V},RpL [] H ds vs->RpL K H ds vs
 | [],_,h=>by unfold RpL at h ⊢;exact h
 | d::r,vs,h=>by
  unfold RpL at h ⊢;obtain⟨v,ws,h1,h2,h3⟩:=h;exact⟨v,ws,h1,Rp.frag h2,RpL.frag h3⟩
end
def Ok (K:yC)(Hv H:Hp)(W:XK)(cls:String->Value)(r:R)(Q:VK):Prop:=match r with
 | .ok d fr=>∀ v Hv' H',Ext Hv H Hv' H'->Rp K Hv' d v->(fr=true->Rp [] (Hnew H H') d v)->Q v H'
 | .exc c=>∀ Hv' H',Ext Hv H Hv' H'->W (cls c) none H'
 | .bad=>False
def OkL (K:yC)(Hv H:Hp)(W:XK)(cls:String->Value)(r:RL)(Q:List V->Hp->Prop):Prop:=match r with
 | .ok ds fr=>∀ vs Hv' H',Ext Hv H Hv' H'->RpL K Hv' ds vs->(fr=true->RpL [] (Hnew H H') ds vs)->Q vs H'
 | .exc c=>∀ Hv' H',Ext Hv H Hv' H'->W (cls c) none H'
 | .bad=>False
def EnvR (K:yC)(Hv:Hp)(ρ:Dv.Env)(σ:St):Prop:=∀ (i:Nat) (d:D),ρ[i]?=some (some d)->∃ v,σ[i]?=some (some v)/\Rp K Hv d v
theorem EnvR.same {K:yC}{Hv Hv':Hp}{ρ:Dv.Env}{σ:St}(e:Same Hv Hv')(h:EnvR K Hv ρ σ):EnvR K Hv' ρ σ:=λ i d q=>
 let ⟨v,h1,h2⟩:=h i d q;⟨v,h1,h2.same e⟩
structure Ctx where
 X:Cx
 W:St->XK
 cls:String->Value
 CX:CXT
 un:X.A.units+64<cLine
 own:PassesOwn (model X.prog X.w) X.A X.env X.xe
 pass:∀ (pins:List (Addr×Obj)) (σ:St) (H:Hp) (s:Shared) (e:Value) (s':Shared),Inv X pins σ H s->CX X.stack H s (W σ) e s'->X.xe e s'
 cxF:∀ (outer:List za) (H:Hp) (s:Shared) (e:Value) (s':Shared),CX outer H s (λ _ _ _=>False) e s'->False
def Tak (C:Ctx)(t:TE)(f:EE):Prop:=∀ σ H Hv ρ Q,EnvR C.X.K Hv ρ σ->Same Hv H->Ok C.X.K Hv H (C.W σ) C.cls (f ρ) Q->t σ H Q
def TakL (C:Ctx)(t:TA)(f:EL):Prop:=∀ σ H Hv ρ Q,EnvR C.X.K Hv ρ σ->Same Hv H->OkL C.X.K Hv H (C.W σ) C.cls (f ρ) Q->t σ H Q
def SE (C:Ctx)(e:Expr)(f:EE):Prop:=∃ t:TE,PE C.X e t/\Tak C t f
def SL (C:Ctx)(es:List Expr)(f:EL):Prop:=∃ t:TA,PA C.X es t/\TakL C t f/\∀ ρ ds fr,f ρ=.ok ds fr->ds.length=es.length
def SC (C:Ctx)(e:Expr)(f:EE):Prop:=
 ∃ t:TT,PT C.X e t/\∀ σ H Hv ρ Q,EnvR C.X.K Hv ρ σ->Same Hv H->Ok C.X.K Hv H (C.W σ) C.cls (f ρ) (λ v H'=>∃ b,v=.bl b/\Q b H')->t σ H Q
theorem Ok.later {K:yC}{Hv H Hv1 H1:Hp}{W:XK}{cls:String->Value}{r:R}{Q:VK}(x:Ext Hv H Hv1 H1)(h:Ok K Hv H W cls r Q):Ok K Hv1 H1 W cls r Q:=by
 cases r with
 | ok d fr=>exact λ v Hv' H' y r n=>h v Hv' H' (x.trans y) r λ z=>(n z).same (Hnew.mono x.hh (.refl _))
 | exc c=>exact λ Hv' H' y=>h Hv' H' (x.trans y)
 | bad=>exact h
theorem Ok.now {K:yC}{Hv H:Hp}{W:XK}{cls:String->Value}{d:D}{fr:Bool}{Q:VK}{v:V}(h:Ok K Hv H W cls (.ok d fr) Q)(e:Same Hv H)(r:Rp K Hv d v)(z:Dv.scal d=true):Q v H:=
 h v Hv H (.refl e) r λ _=>r.scal z
theorem Ok.at {K:yC}{Hv H Hv1 H1:Hp}{W:XK}{cls:String->Value}{d:D}{fr:Bool}{Q:VK}{v:V}(h:Ok K Hv H W cls (.ok d fr) Q)(x:Ext Hv H Hv1 H1)(r:Rp K Hv1 d v)(z:Dv.scal d=true):Q v H1:=
 h v Hv1 H1 x r λ _=>r.scal z
theorem Ok.newL {K:yC}{Hv H Hv1 H1:Hp}{W:XK}{cls:String->Value}{ds:List D}{fr:Bool}{Q:VK}{vs:List V}(h:Ok K Hv H W cls (.ok (.lst ds) fr) Q)(x:Ext Hv H Hv1 H1)(r:RpL K Hv1 ds vs)
  (n:fr=true->RpL [] (Hnew H H1) ds vs) (p:Addr) (hp:H1 p=none):Q (.ref p) (upd H1 p (.lst vs)):=by
 have y:=Ext.new1 x.vh hp (.lst vs);refine h _ _ _ (x.trans y) ?_ λ z=>?_
 ·unfold Rp
  exact⟨p,vs,rfl,SqX.of av,r.same y.vv⟩
 ·unfold Rp
  have hH:H p=none:=x.hh.free hp;refine⟨p,vs,rfl,SqX.of (by unfold Hnew;rw[hH];exact av),(n z).same (Hnew.mono (.refl _) y.hh)⟩
theorem Ok.newT {K:yC}{Hv H Hv1 H1:Hp}{W:XK}{cls:String->Value}{ds:List D}{fr:Bool}{Q:VK}{vs:List V}(h:Ok K Hv H W cls (.ok (.tup ds) fr) Q)(x:Ext Hv H Hv1 H1)(r:RpL K Hv1 ds vs)
  (n:fr=true->RpL [] (Hnew H H1) ds vs) (p:Addr) (hp:H1 p=none):Q (.ref p) (upd H1 p (.tup vs)):=by
 have y:=Ext.new1 x.vh hp (.tup vs);refine h _ _ _ (x.trans y) ?_ λ z=>?_
 ·unfold Rp
  exact⟨p,vs,rfl,.inl av,r.same y.vv⟩
 ·unfold Rp
  have hH:H p=none:=x.hh.free hp;refine⟨p,vs,rfl,.inl (by unfold Hnew;rw[hH];exact av),(n z).same (Hnew.mono (.refl _) y.hh)⟩
section
variable {C:Ctx}{a b c:Expr}{es:List Expr}{f g h:EE}{fl:EL}{ta tb tc:TE}{tl:TA}{pos:Pos}
theorem Tak.step (qa:Tak C ta f){σ:St}{H Hv Hv1 H1:Hp}{ρ:Dv.Env}{Q T:VK}{k:D->Bool->R}(e:EnvR C.X.K Hv ρ σ)(x:Ext Hv H Hv1 H1)(q:Ok C.X.K Hv H (C.W σ) C.cls ((f ρ).bind k) Q)
  (next:∀ v d fr Hv2 H2,f ρ=.ok d fr->Ext Hv H Hv2 H2->Ext Hv1 H1 Hv2 H2->Rp C.X.K Hv2 d v->(fr=true->Rp [] (Hnew H H2) d v)->Ok C.X.K Hv H (C.W σ) C.cls (k d fr) Q->T v H2):ta σ H1 T:=by
 refine qa σ H1 Hv1 ρ _ (e.same x.vv) x.vh ?_
 cases hf:f ρ with
 | bad=>rw[hf] at q;exact q
 | exc c=>rw[hf] at q;exact λ Hv' H' y=>q Hv' H' (x.trans y)
 | ok d fr=>
  rw[hf] at q;exact λ v Hv2 H2 y r n=>next v d fr Hv2 H2 hf (x.trans y) y r (λ z=>(n z).same (Hnew.mono x.hh (.refl _))) q
theorem TakL.step (qa:TakL C tl fl){σ:St}{H Hv Hv1 H1:Hp}{ρ:Dv.Env}{Q:VK}{T:List V->Hp->Prop}{k:List D->Bool->R}(e:EnvR C.X.K Hv ρ σ)(x:Ext Hv H Hv1 H1)(q:Ok C.X.K Hv H (C.W σ) C.cls ((fl ρ).bind k) Q)
  (next:∀ vs ds fr Hv2 H2,fl ρ=.ok ds fr->Ext Hv H Hv2 H2->Ext Hv1 H1 Hv2 H2->RpL C.X.K Hv2 ds vs->(fr=true->RpL [] (Hnew H H2) ds vs)->Ok C.X.K Hv H (C.W σ) C.cls (k ds fr) Q->T vs H2):tl σ H1 T:=by
 refine qa σ H1 Hv1 ρ _ (e.same x.vv) x.vh ?_
 cases hf:fl ρ with
 | bad=>rw[hf] at q;exact q
 | exc c=>rw[hf] at q;exact λ Hv' H' y=>q Hv' H' (x.trans y)
 | ok d fr=>
  rw[hf] at q;exact λ v Hv2 H2 y r n=>next v d fr Hv2 H2 hf (x.trans y) y r (λ z=>(n z).same (Hnew.mono x.hh (.refl _))) q
theorem aa (i:Nat){x:Str}(hN:autoParam (C.X.N[i]?=some x) ZE._auto_1)(hv:autoParam (Vis C.X.env.scope x) ZF._auto_1)(hd:autoParam ((x == ("__debug__":Str))=false) ZC._auto_1)
  (hcd:autoParam ((x == ("__classdict__":Str))=false) ZC._auto_1):SE C (.Name x pos) (Dv.eVar i):=by
 refine⟨fP i,dZ hN hv hd hcd,λ σ H Hv ρ Q e s q=>?_⟩;unfold Dv.eVar at q;cases r:ρ[i]? with
 | none=>rw[r] at q;exact q.elim
 | some o=>
  cases o with
  | none=>rw[r] at q;exact q.elim
  | some d=>
   rw[r] at q;obtain⟨v,h1,h2⟩:=e i d r;exact⟨v,h1,q v Hv H (.refl s) h2 λ z=>h2.scal z⟩
theorem af {i:Int}{j:Nat}:SE C (.Constant (.int i) j pos) (Dv.eInt i):=
 ⟨_,iD,λ _ _ _ _ _ _ s q=>q.now (v:=.int i) s (by unfold Rp;rfl) rfl⟩
theorem oN {i:Bool}{j:Nat}:SE C (.Constant (.bool i) j pos) (Dv.eBl i):=
 ⟨_,uj,λ _ _ _ _ _ _ s q=>q.now (v:=.bl i) s (by unfold Rp;rfl) rfl⟩
def OpS (C:Ctx)(op:Value->Value->Sem Value)(F:D->D->R):Prop:=
 ∃ r:R2,OpR C.X op r/\∀ x y d d' H Hv H1 Hv1 W Q,Ext Hv H Hv1 H1->Rp C.X.K Hv1 d x->Rp C.X.K Hv1 d' y->Ok C.X.K Hv H W C.cls (F d d') Q->r x y H1 Q
theorem ij {op:Value->Value->Sem Value}{F:D->D->R}{r:R2}(hr:∀ x y d d' H Hv H1 Hv1 W Q,Ext Hv H Hv1 H1->Rp C.X.K Hv1 d x->Rp C.X.K Hv1 d' y->Ok C.X.K Hv H W C.cls (F d d') Q->r x y H1 Q)
  (qa:Tak C ta f) (qb:Tak C tb g):Tak C (tOp r ta tb) (λ ρ=>(f ρ).bind λ x _=>(g ρ).bind λ y _=>F x y):=λ σ H Hv ρ Q e s q=>
 qa.step e (.refl s) q λ v d fr Hv1 H1 _ x1 _ rp1 _ q1=>qb.step e x1 q1 λ v2 d2 fr2 Hv2 H2 _ x2 y2 rp2 _ q2=>
  hr v v2 d d2 H Hv H2 Hv2 _ Q x2 (rp1.same y2.vv) rp2 q2
theorem iA {op:Operator}{F:D->D->R}(o:OpS C (binaryOp op) F)(ha:SE C a f)(hb:SE C b g):SE C (.BinOp a op b pos) (λ ρ=>(f ρ).bind λ x _=>(g ρ).bind λ y _=>F x y):=by
 obtain⟨r,ho,hr⟩:=o;obtain⟨ta,pa,qa⟩:=ha;obtain⟨tb,pb,qb⟩:=hb;exact⟨_,rh ho pa pb,ij (op:=binaryOp op) hr qa qb⟩
theorem mU {op:CmpOp}{F:D->D->R}(o:OpS C (compareOp op) F)(ha:SE C a f)(hb:SE C b g)(hm:behindInMarks op b=false):SE C (.Compare a [op] [b] pos) (λ ρ=>(f ρ).bind λ x _=>(g ρ).bind λ y _=>F x y):=by
 obtain⟨r,ho,hr⟩:=o;obtain⟨ta,pa,qa⟩:=ha;obtain⟨tb,pb,qb⟩:=hb;exact⟨_,eU ho pa pb hm,ij (op:=compareOp op) hr qa qb⟩
theorem fk {op:CmpOp}{F:D->D->R}(o:OpS C (compareOp op) F)(ha:SE C a f)(hb:SE C b g)(hm:behindInMarks op b=false):SC C (.Compare a [op] [b] pos) (λ ρ=>(f ρ).bind λ x _=>(g ρ).bind λ y _=>F x y):=by
 obtain⟨r,ho,hr⟩:=o;obtain⟨ta,pa,qa⟩:=ha;obtain⟨tb,pb,qb⟩:=hb;exact⟨_,qM ho pa pb hm,λ σ H Hv ρ Q e s q=>ij (op:=compareOp op) hr qa qb σ H Hv ρ _ e s q⟩
theorem jW (ha:SE C a f)(he:autoParam (∀ whole,isTrue a C.X.env whole=(do let v <- whole;standAt a.pos;holding [v] (truthy v))) ZD._auto_1):SC C a f:=by
 obtain⟨t,p,q⟩:=ha;exact⟨_,rT p he,λ σ H Hv ρ Q e s w=>q σ H Hv ρ _ e s w⟩
def SW (C:Ctx)(e:Expr)(f:EE):Prop:=
 ∃ t:TT,PW C.X e t/\∀ σ H Hv ρ Q,EnvR C.X.K Hv ρ σ->Same Hv H->Ok C.X.K Hv H (C.W σ) C.cls (f ρ) (λ v H'=>∃ b,v=.bl b/\Q b H')->t σ H Q
def TakC (C:Ctx)(t:TT)(f:EE):Prop:=∀ σ H Hv ρ Q,EnvR C.X.K Hv ρ σ->Same Hv H->Ok C.X.K Hv H (C.W σ) C.cls (f ρ) (λ v H'=>∃ b,v=.bl b/\Q b H')->t σ H Q
theorem TakC.step {tt:TT}(qa:TakC C tt f){σ:St}{H Hv Hv1 H1:Hp}{ρ:Dv.Env}{Q:VK}{T:Bool->Hp->Prop}{k:D->Bool->R}(e:EnvR C.X.K Hv ρ σ)(x:Ext Hv H Hv1 H1)(q:Ok C.X.K Hv H (C.W σ) C.cls ((f ρ).bind k) Q)
  (nb:∀ d fr,f ρ=.ok d fr->(∀ b,d≠.bl b)->k d fr=.bad)
  (next:∀ b fr Hv2 H2,f ρ=.ok (.bl b) fr->Ext Hv H Hv2 H2->Ext Hv1 H1 Hv2 H2->Ok C.X.K Hv H (C.W σ) C.cls (k (.bl b) fr) Q->T b H2):tt σ H1 T:=by
 refine qa σ H1 Hv1 ρ _ (e.same x.vv) x.vh ?_
 cases hf:f ρ with
 | bad=>rw[hf] at q;exact q
 | exc c=>rw[hf] at q;exact λ Hv' H' y=>q Hv' H' (x.trans y)
 | ok d fr=>
  intro v Hv2 H2 y r n;cases d with
  | bl b=>
   unfold Rp at r;rw[hf] at q;exact⟨b,r,next b fr Hv2 H2 hf (x.trans y) y q⟩
  | _=>
   have z:=nb _ _ hf (by intro b z;cases z);rw[hf] at q;have q':Ok C.X.K Hv H (C.W σ) C.cls (k _ fr) Q:=q;rw[z] at q';exact q'.elim
theorem fM (op:BoolOp)(ha:SC C a f):SW C (.BoolOp op [a] pos) f:=by
 obtain⟨t,p,q⟩:=ha;cases op with
 | And=>exact⟨t,qO p,q⟩
 | Or=>exact⟨t,rE p,q⟩
theorem jc {rest:List Expr}(ha:SC C a f)(hb:SW C (.BoolOp .Or (b::rest) pos) g):SW C (.BoolOp .Or (a::b::rest) pos) (Dv.eOr f g):=by
 obtain⟨t,p,q⟩:=ha;obtain⟨u,p2,q2⟩:=hb;refine⟨_,tQ p p2,λ σ H Hv ρ Q e s w=>?_⟩;refine TakC.step q e (.refl s) w (λ d fr _ nb=>by cases d <;>first|rfl|exact absurd rfl (nb _)) λ b fr Hv2 H2 hf x y w2=>?_
 cases b with
 | false=>exact qH (q2 σ H2 Hv2 ρ _ (e.same x.vv) x.vh (Ok.later x (show Ok _ _ _ _ _ (g ρ) _ from w2)))
 | true=>
  obtain⟨b,e1,q3⟩:=(show Ok C.X.K Hv H (C.W σ) C.cls (.ok (.bl true) true) (λ v H'=>∃ b,v=.bl b/\Q b H') from w2).at (v:=.bl true) x (by unfold Rp;rfl) rfl;cases e1;exact qz q3
theorem mZ (h:SW C a f):SC C a f:=let ⟨t,p,q⟩:=h;⟨t,p.pt,q⟩
theorem kf (ha:SC C a f):SC C (.UnaryOp .Not a pos) (Dv.eNot f):=by
 obtain⟨t,p,q⟩:=ha;refine⟨_,sy p,λ σ H Hv ρ Q e s w=>?_⟩;refine TakC.step q e (.refl s) w (λ d fr _ nb=>by cases d <;>first|rfl|exact absurd rfl (nb _)) λ b fr Hv2 H2 hf x y w2=>?_
 obtain⟨b',e1,q3⟩:=(show Ok C.X.K Hv H (C.W σ) C.cls (.ok (.bl (!b)) true) (λ v H'=>∃ b,v=.bl b/\Q b H') from w2).at (v:=.bl (!b)) x (by unfold Rp;rfl) rfl;cases e1;exact q3
theorem rF {op:BoolOp}(ha:SE C a f):SE C (.BoolOp op [a] pos) f:=let ⟨t,p,q⟩:=ha;⟨t,nK p,q⟩
theorem sG {rest:List Expr}(ha:SE C a f)(hb:SE C (.BoolOp .And (b::rest) pos) g):SE C (.BoolOp .And (a::b::rest) pos) (Dv.eAnd f g):=by
 obtain⟨t,p,q⟩:=ha;obtain⟨u,p2,q2⟩:=hb;refine⟨_,nq p p2,λ σ H Hv ρ Q e s w=>?_⟩;refine Tak.step q e (.refl s) w λ v d fr Hv2 H2 hf x y rp n w2=>?_
 cases d with
 | bl c=>
  unfold Rp at rp;refine⟨c,rp,?_⟩;cases c with
  | true=>exact qz (q2 σ H2 Hv2 ρ _ (e.same x.vv) x.vh (Ok.later x (show Ok _ _ _ _ _ (g ρ) _ from w2)))
  | false=>exact qH ((show Ok C.X.K Hv H (C.W σ) C.cls (.ok (.bl false) true) Q from w2).at (v:=.bl false) x (by unfold Rp;rfl) rfl)
 | _=>exact Zf w2
theorem aj:SL C [] Dv.lNil:=⟨_,bj,λ σ H Hv ρ Q e s q=>q [] Hv H (.refl s) .nil λ _=>.nil,λ ρ ds fr h=>by cases h;rfl⟩
theorem ae (ha:SE C a f)(hr:SL C es fl)(hs:autoParam (starEach (a::es) C.X.env=(false,eval a C.X.env)::starEach es C.X.env) ZE._auto_1):SL C (a::es) (Dv.lCons f fl):=by
 obtain⟨t,p,q⟩:=ha;obtain⟨u,p2,q2,l2⟩:=hr;refine⟨_,aI p p2 hs,λ σ H Hv ρ Q e s w=>?_,λ ρ ds fr h=>?_⟩
 rotate_left
 ·unfold Dv.lCons at h
  cases hf:f ρ with
  | bad=>rw[hf] at h;cases h
  | exc c=>rw[hf] at h;cases h
  | ok d f1=>
   cases hg:fl ρ with
   | bad=>rw[hf,hg] at h;cases h
   | exc c=>rw[hf,hg] at h;cases h
   | ok d2 f2=>
    rw[hf,hg] at h;cases h;rw[uX,uX,l2 ρ d2 f2 hg]
 unfold Dv.lCons at w;refine q σ H Hv ρ _ e s ?_
 cases hf:f ρ with
 | bad=>rw[hf] at w;exact w
 | exc c=>rw[hf] at w;exact w
 | ok d fr=>
  rw[hf] at w;intro v Hv1 H1 x1 r1 n1;refine q2 σ H1 Hv1 ρ _ (e.same x1.vv) x1.vh ?_
  cases hg:fl ρ with
  | bad=>rw[hg] at w;exact w
  | exc c=>rw[hg] at w;exact λ Hv' H' y=>w Hv' H' (x1.trans y)
  | ok ds fr2=>
   rw[hg] at w;intro vs Hv2 H2 x2 r2 n2;refine w (v::vs) Hv2 H2 (x1.trans x2) (.cons (r1.same x2.vv) r2) λ z=>?_
   have z':fr=true/\fr2=true:=by simpa using z
   exact .cons ((n1 z'.1).same (Hnew.mono (.refl _) x2.hh)) ((n2 z'.2).same (Hnew.mono x1.hh (.refl _)))
theorem ck {n:Nat}(h:n<=Dv.mx):n<=sizeLine:=by
 unfold Dv.mx at h;rw[yZ];omega
theorem bM (h:SL C es fl)(hz:autoParam (es.length<=Dv.mx) ZC._auto_1):SE C (.List es pos) (Dv.eLst fl):=by
 obtain⟨t,p,q,hn⟩:=h;refine⟨_,rD p,λ σ H Hv ρ Q e s w=>?_⟩;refine TakL.step q e (.refl s) w λ vs ds fr Hv2 H2 hf x y rp n w2=>⟨?_,λ p hp=>?_⟩
 ·rw[rp.length,hn ρ ds fr hf];exact ck hz
 ·exact Ok.newL w2 x rp n p hp
theorem bV {k}(h:SL C es fl)(hz:autoParam (es.length<=Dv.mx) ZC._auto_1):SE C (.Tuple es k pos) (Dv.eTup fl):=by
 obtain⟨t,p,q,hn⟩:=h;refine⟨_,sH p,λ σ H Hv ρ Q e s w=>?_⟩;refine TakL.step q e (.refl s) w λ vs ds fr Hv2 H2 hf x y rp n w2=>⟨?_,λ p hp=>?_⟩
 ·rw[rp.length,hn ρ ds fr hf];exact ck hz
 ·exact Ok.newT w2 x rp n p hp
end
section
variable {C:Ctx}{a b c:Expr}{es:List Expr}{f g h:EE}{fl:EL}{pos:Pos}
theorem q5 {op:Value->Value->Sem Value}{K:Int->Int->Prop}{G:Int->Int->V}{F:D->D->R}(o:OpR C.X op (rI K G))
  (hF:∀ d d',(∃ i j x,d=.int i/\d'=.int j/\K i j/\F d d'=.ok x true/\Dv.scal x=true/\∀ K' H',Rp K' H' x (G i j))\/F d d'=.bad):OpS C op F:=by
 refine⟨_,o,λ x y d d' H Hv H1 Hv1 W Q e rx ry q=>?_⟩
 rcases hF d d' with ⟨i,j,z,rfl,rfl,hk,hz,hs,hr⟩|hb
 ·unfold Rp at rx ry
  rw[hz] at q;exact⟨i,j,rx,ry,hk,q.at e (hr _ _) hs⟩
 ·rw[hb] at q;exact q.elim
theorem nk {op:Value->Value->Sem Value}{G:Int->Int->V}{F:D->D->R}(o:OpR C.X op (rI0 G))
  (hF:∀ d d',(∃ i j x,d=.int i/\d'=.int j/\F d d'=.ok x true/\Dv.scal x=true/\∀ K' H',Rp K' H' x (G i j))\/F d d'=.bad):OpS C op F:=by
 refine⟨_,o,λ x y d d' H Hv H1 Hv1 W Q e rx ry q=>?_⟩
 rcases hF d d' with ⟨i,j,z,rfl,rfl,hz,hs,hr⟩|hb
 ·unfold Rp at rx ry
  rw[hz] at q;exact⟨i,j,rx,ry,q.at e (hr _ _) hs⟩
 ·rw[hb] at q;exact q.elim
theorem b9 {K:yC}{H:Hp}{i:Int}:Rp K H (.int i) (.int i):=by unfold Rp;rfl
theorem fR {K:yC}{H:Hp}{i:Bool}:Rp K H (.bl i) (.bl i):=by unfold Rp;rfl
theorem mW {K:yC}{H:Hp}:Rp K H .non .non:=by unfold Rp;rfl
theorem sM:OpS C (binaryOp .Mod) (Dv.opD .mod):=q5 sI λ d d'=>by
 cases d with
 | int i=>
  cases d' with
  | int j=>
   by_cases h:0<j
   ·exact .inl ⟨i,j,.int (i%j),rfl,rfl,h,by simp[Dv.opD_ai,Dv.opD_al,Dv.opD_su,Dv.opD_mi,Dv.opD_ml,Dv.opD_mo,Dv.opD_fd,Dv.opD_po,Dv.opD_ba,Dv.opD_sh,h],rfl,λ _ _=>b9⟩
   ·exact .inr (by simp[Dv.opD_ai,Dv.opD_al,Dv.opD_su,Dv.opD_mi,Dv.opD_ml,Dv.opD_mo,Dv.opD_fd,Dv.opD_po,Dv.opD_ba,Dv.opD_sh,h])
  | _=>exact .inr rfl
 | _=>exact .inr rfl
theorem ny:OpR C.X (binaryOp .FloorDiv) (rI (λ _ j=>0<j/\j.natAbs.log2<9000) λ i j=>.int (i/j)):=opI λ i j _ _ _ _ _ hc q=>by
 have h1:(0:Int)<j:=hc.1;exact floordiv_int ⋯ (by rw[Int.fdiv_eq_ediv_of_nonneg i ⋯];exact q) (.inl (PyProof.noPylong_of_log2 hc.2))
theorem pQ:OpS C (binaryOp .FloorDiv) (Dv.opD .fdiv):=q5 ny λ d d'=>by
 cases d with
 | int i=>
  cases d' with
  | int j=>
   by_cases h:Dv.divOk j=true
   ·refine .inl ⟨i,j,.int (i/j),rfl,rfl,?_,by simp[Dv.opD_ai,Dv.opD_al,Dv.opD_su,Dv.opD_mi,Dv.opD_ml,Dv.opD_mo,Dv.opD_fd,Dv.opD_po,Dv.opD_ba,Dv.opD_sh,h],rfl,λ _ _=>b9⟩
    unfold Dv.divOk at h;simpa using h
   ·exact .inr (by simp[Dv.opD_ai,Dv.opD_al,Dv.opD_su,Dv.opD_mi,Dv.opD_ml,Dv.opD_mo,Dv.opD_fd,Dv.opD_po,Dv.opD_ba,Dv.opD_sh,h])
  | _=>exact .inr rfl
 | _=>exact .inr rfl
def ui (K:yC):R2:=λ x y H Q=>∃ l b xs zs,x=.ref l/\y=.ref b/\SqX K H l xs/\SqX K H b zs/\xs.length+zs.length<=sizeLine/\∀ p,H p=none->Q (.ref p) (upd H p (.lst (xs++zs)))
theorem pf {X:Cx}:OpR X (binaryOp .Add) (ui X.K):=by
 intro pins s σ H x y v u Q I rx ry h;obtain⟨l,b,xs,zs,rfl,rfl,hH,hB,hz,q⟩:=h;cases rx;cases ry;obtain⟨its,n,r,e,z⟩:=Inv.listX I hH;obtain⟨its2,n2,r2,e2,z2⟩:=Inv.listX I hB;have hl:=r.length;have hl2:=r2.length;refine PySem.P.add_list e e2 ?_ (by rw[u0,u0];omega)
 have ea:its.toArray++its2.toArray=(its++its2).toArray:=by simp
 rw[ea];exact⟨.ref _,_,I.lnew (t':=s.toks) (r.append r2) (by rw[vd];omega),rfl,q _ I.fresh⟩
theorem sU:OpS C (binaryOp .Add) (Dv.opD .add):=by
 refine⟨_,OpR.or nN pf,λ x y d d' H Hv H1 Hv1 W Q e rx ry q=>?_⟩;cases d with
 | int i=>
  cases d' with
  | int j=>
   unfold Rp at rx ry;exact .inl ⟨i,j,rx,ry,(show Ok _ _ _ _ _ (.ok (.int (i+j)) true) Q from q).at e b9 rfl⟩
  | _=>exact Zf q
 | lst xs=>
  cases d' with
  | lst ys=>
   unfold Rp at rx ry;obtain⟨l,vs,rfl,h1,h2⟩:=rx;obtain⟨m,ws,rfl,h3,h4⟩:=ry;by_cases hz:xs.length+ys.length<=Dv.mx
   ·have q':Ok C.X.K Hv H W C.cls (.ok (.lst (xs++ys)) (Dv.flatL xs&&Dv.flatL ys)) Q:=by simpa[Dv.opD_ai,Dv.opD_al,Dv.opD_su,Dv.opD_mi,Dv.opD_ml,Dv.opD_mo,Dv.opD_fd,Dv.opD_po,Dv.opD_ba,Dv.opD_sh,hz] using q
    refine .inr ⟨l,m,vs,ws,rfl,rfl,h1.same e.vh,h3.same e.vh,?_,λ p hp=>Ok.newL q' e (h2.append h4) (λ z=>?_) p hp⟩
    ·rw[h2.length,h4.length];exact ck hz
    ·rw[vi] at z
     exact(h2.flat z.1).append (h4.flat z.2)
   ·have q':False:=by simpa[Dv.opD_ai,Dv.opD_al,Dv.opD_su,Dv.opD_mi,Dv.opD_ml,Dv.opD_mo,Dv.opD_fd,Dv.opD_po,Dv.opD_ba,Dv.opD_sh,hz,Ok] using q
    exact q'.elim
  | _=>exact Zf q
 | _=>exact Zf q
theorem qC (i:Int):BS i=Dv.bits i:=by
 unfold BS Dv.bits;by_cases h:i=0
 ·simp[h]
 ·simp[h]
theorem p6:OpR C.X (binaryOp .Mult) (rI (λ i j=>Dv.mulOk i j=true) λ i j=>.int (i*j)):=opI λ i j _ _ _ _ _ hc q=>by
 refine mul_int q ?_
 unfold Dv.mulOk at hc;simp only[yc,vi,decide_eq_true_eq,<- qC] at hc
 rcases hc with (hc|hc)|hc
 ·exact .of_left hc
 ·exact .of_right hc
 ·exact .of_bits (by simpa using hc.1) (by simpa using hc.2)
def ub (K:yC):R2:=λ x y H Q=>∃ l k xs,x=.ref l/\y=.int k/\SqX K H l xs/\-(2 ^ 63)<=k/\k<2 ^ 63/\xs.length*k.toNat<=sizeLine /\
 ∀ p,H p=none->Q (.ref p) (upd H p (.lst (List.replicate k.toNat xs).flatten))
theorem qf {X:Cx}:OpR X (binaryOp .Mult) (ub X.K):=by
 intro pins s σ H x y v u Q I rx ry h;obtain⟨l,k,xs,rfl,rfl,hH,h1,h2,hz,q⟩:=h;cases rx;obtain⟨t,rfl⟩:=ry;obtain⟨its,n,r,e,z⟩:=Inv.listX I hH;have hl:=r.length;have hlen:its.toArray.size*k.toNat<=sizeLine:=by rw[u0,<- hl];exact hz
 have hcap:¬ its.toArray.size*k.toNat > (2 ^ 63-1)/8:=by
  have:(sizeLine:Nat)<=(2 ^ 63-1)/8:=by decide
  omega
 have hfit:¬ (!Builtin.List.listFitsIndex k)=true:=by
  rw[fitsIndex_both h1 h2];exact vq
 have hlong:¬ zJ (its.toArray.size*k.toNat)=true:=by
  rw[jN hlen];exact vq
 have hnew:List.foldl (λ x1 x2=>x1++x2) #[] (List.replicate (if its.toArray.isEmpty=true then 0 else k.toNat) its.toArray)=(List.replicate k.toNat its).flatten.toArray:=by
  have f0:∀ m:Nat,List.foldl (λ x1 x2=>x1++x2) #[] (List.replicate m its.toArray)=(List.replicate m its).flatten.toArray:=λ m=>by
   have:=foldl_rep its m [];rw[vg] at this;exact this
  rw[f0];cases its with
  | nil=>simp
  | cons a r'=>rw[if_neg (by simp)]
 refine wpAny_binaryOp_repeat_ref (T:="list") (U:="int") (by decide) ⟨_,e,rfl⟩ (λ s'=>typeIs_int s' k t) noFill_list_mul F.fills_int_mul F.slot_int_rmul repeat_list F.slot_int_index.lookup
  (Bd F.slot_int_rmul (typeIs_int s k t) F.entry_int_rmul (F.args_int_rmul_2 _ _) (int___rmul___int_list k t l its.toArray n)
   ⟨e,rfl,⟨_,e,rfl⟩,Bd F.slot_list_mul ⟨_,e,rfl⟩ F.entry_list_mul (F.args_list_mul_2 _ _) (AutoListH.list___mul___list_int_3 l its.toArray n k t hfit hcap hlong) ⟨e,?_⟩⟩)
 rw[hnew];exact⟨.ref _,_,I.lnew (t':=s.toks) (r.rep k.toNat) (by rw[len_rep,wI];exact hz),rfl,q _ I.fresh⟩
theorem RpL.rep {K:yC}{H:Hp}{ds:List D}{vs:List V}(h:RpL K H ds vs):∀ k:Nat,RpL K H (List.replicate k ds).flatten (List.replicate k vs).flatten
 | 0=>.nil
 | k+1=>by
  rw[vS,vS,v8,v8];exact h.append (RpL.rep h k)
theorem r8:OpS C (binaryOp .Mult) (Dv.opD .mul):=by
 refine⟨_,OpR.or p6 qf,λ x y d d' H Hv H1 Hv1 W Q e rx ry q=>?_⟩;cases d with
 | int i=>
  cases d' with
  | int j=>
   unfold Rp at rx ry;by_cases h:Dv.mulOk i j=true
   ·have q':Ok C.X.K Hv H W C.cls (.ok (.int (i*j)) true) Q:=by simpa[Dv.opD_ai,Dv.opD_al,Dv.opD_su,Dv.opD_mi,Dv.opD_ml,Dv.opD_mo,Dv.opD_fd,Dv.opD_po,Dv.opD_ba,Dv.opD_sh,h] using q
    exact .inl ⟨i,j,rx,ry,h,q'.at e b9 rfl⟩
   ·have q':False:=by simpa[Dv.opD_ai,Dv.opD_al,Dv.opD_su,Dv.opD_mi,Dv.opD_ml,Dv.opD_mo,Dv.opD_fd,Dv.opD_po,Dv.opD_ba,Dv.opD_sh,h,Ok] using q
    exact q'.elim
  | _=>exact Zf q
 | lst xs=>
  cases d' with
  | int j=>
   unfold Rp at rx ry;obtain⟨l,vs,rfl,h1,h2⟩:=rx;subst ry;by_cases hz:(decide (-100000<=j)&&decide (j<=Dv.mx)&&decide (xs.length*j.toNat<=Dv.mx))=true
   ·have q':Ok C.X.K Hv H W C.cls (.ok (.lst (List.replicate j.toNat xs).flatten) (Dv.flatL xs)) Q:=by
     simp only[Dv.opD_ai,Dv.opD_al,Dv.opD_su,Dv.opD_mi,Dv.opD_ml,Dv.opD_mo,Dv.opD_fd,Dv.opD_po,Dv.opD_ba,Dv.opD_sh,hz,if_true] at q;exact q
    simp only[vi,decide_eq_true_eq] at hz;have hj:j<=100000:=hz.1.2;have hj0:-100000<=j:=hz.1.1;refine .inr ⟨l,j,vs,rfl,rfl,h1.same e.vh,⋯,⋯,?_,λ p hp=>Ok.newL q' e (h2.rep _) (λ z=>?_) p hp⟩
    ·rw[h2.length];exact ck hz.2
    ·exact(h2.flat z).rep _
   ·simp only[Dv.opD_ai,Dv.opD_al,Dv.opD_su,Dv.opD_mi,Dv.opD_ml,Dv.opD_mo,Dv.opD_fd,Dv.opD_po,Dv.opD_ba,Dv.opD_sh,hz] at q
    exact Zf q
  | _=>exact Zf q
 | _=>exact Zf q
theorem uo:OpS C (compareOp .Lt) (Dv.cmD .lt):=nk uk λ d d'=>by
 cases d <;>first
  | exact .inr rfl
  | (cases d' <;>first|exact .inr rfl|exact .inl ⟨_,_,_,rfl,rfl,rfl,rfl,λ _ _=>fR⟩)
theorem tO:OpS C (compareOp .Gt) (Dv.cmD .gt):=nk tM λ d d'=>by
 cases d <;>first
  | exact .inr rfl
  | (cases d' <;>first|exact .inr rfl|exact .inl ⟨_,_,_,rfl,rfl,rfl,rfl,λ _ _=>fR⟩)
mutual
def pd:D->PyData
 | .non=>.none
 | .bl b=>.bool b
 | .int i=>.int i
 | .str x=>.str ⟨(Dv.clipS x).toArray⟩
 | .lst ds=>.list (pdL ds)
 | .tup ds=>.tuple (pdL ds)
 | .exn _=>.none
 | .raw _=>.none
 | .tab _=>.none
 | .dct _ _=>.none
 | .ins _ _=>.none
def pdL:List D->List PyData
 | []=>[]
 | d::r=>pd d::pdL r
end
mutual
theorem ee:∀ d:D,(pd d).canLay0=true
 | .non=>by simp[pd,zh]
 | .bl _=>by simp[pd,zh]
 | .int _=>by simp[pd,zh]
 | .str x=>by
  have:∀ n:Nat,n%1114112<1114112:=λ n=>xJ _ (by decide)
  simp[pd,zh,PyData.strOk,Dv.clipS,this]
 | .lst ds=>by simp[pd,zh,e9 ds]
 | .tup ds=>by simp[pd,zh,e9 ds]
 | .exn _=>by simp[pd,zh]
 | .raw _=>by simp[pd,zh]
 | .tab _=>by simp[pd,zh]
 | .dct _ _=>by simp[pd,zh]
 | .ins _ _=>by simp[pd,zh]
theorem e9:∀ ds:List D,A9 (pdL ds)=true
 | []=>by simp[pdL,A9]
 | d::r=>by simp[pdL,A9,ee d,e9 r]
end
mutual
theorem cz:∀ d:D,(pd d).depth<=Dv.depthD d
 | .non=>by simp[pd,zu,Dv.depthD]
 | .bl _=>by simp[pd,zu,Dv.depthD]
 | .int _=>by simp[pd,zu,Dv.depthD]
 | .str _=>by simp[pd,zu,Dv.depthD]
 | .lst ds=>by have:=cP ds;simp[pd,zu,Dv.depthD];omega
 | .tup ds=>by have:=cP ds;simp[pd,zu,Dv.depthD];omega
 | .exn _=>by simp[pd,zu,Dv.depthD]
 | .raw _=>by simp[pd,zu,Dv.depthD]
 | .tab _=>by simp[pd,zu,Dv.depthD]
 | .dct _ _=>by simp[pd,zu,Dv.depthD]
 | .ins _ _=>by simp[pd,zu,Dv.depthD]
theorem cP:∀ ds:List D,AK (pdL ds)<=Dv.depthL ds
 | []=>by simp[pdL,AK,Dv.depthL]
 | d::r=>by have:=cz d;have:=cP r;simp[pdL,AK,Dv.depthL];omega
end
mutual
theorem ir:∀ (a b:D) (r:Bool),Dv.eqD a b=some r->zX (pd a) (pd b)=r
 | .non,b,r,h=>by
  cases b with
  | non=>cases (show some true=some r from h);simp[pd,zX]
  | _=>exact(nomatch (show (none:Option Bool)=some r from h))
 | .bl p,b,r,h=>by
  cases b with
  | bl q=>cases (show some (p == q)=some r from h);simp[pd,zX]
  | _=>exact(nomatch (show (none:Option Bool)=some r from h))
 | .int p,b,r,h=>by
  cases b with
  | int q=>cases (show some (decide (p=q))=some r from h);simp[pd,zX,xC]
  | _=>exact(nomatch (show (none:Option Bool)=some r from h))
 | .str p,b,r,h=>by
  cases b with
  | str q=>cases (show some (decide (Dv.clipS p=Dv.clipS q))=some r from h);simp[pd,zX,xC]
  | _=>exact(nomatch (show (none:Option Bool)=some r from h))
 | .lst xs,b,r,h=>by
  cases b with
  | lst ys=>
   have h:Dv.eqDL xs ys=some r:=h;simp only[pd,zX];exact hV _ _ _ h
  | _=>exact(nomatch (show (none:Option Bool)=some r from h))
 | .tup xs,b,r,h=>by
  cases b with
  | tup ys=>
   have h:Dv.eqDL xs ys=some r:=h;simp only[pd,zX];exact hV _ _ _ h
  | _=>exact(nomatch (show (none:Option Bool)=some r from h))
 | .exn _,b,r,h=>by cases b <;>exact(nomatch (show (none:Option Bool)=some r from h))
 | .raw _,b,r,h=>by cases b <;>exact(nomatch (show (none:Option Bool)=some r from h))
 | .tab _,b,r,h=>by cases b <;>exact(nomatch (show (none:Option Bool)=some r from h))
 | .dct _ _,b,r,h=>by cases b <;>exact(nomatch (show (none:Option Bool)=some r from h))
theorem hV:∀ (a b:List D) (r:Bool),Dv.eqDL a b=some r->Ar (pdL a) (pdL b)=r
 | [],[],r,h=>by simp[Dv.eqDL] at h;subst h;simp[pdL,Ar]
 | [],_::_,r,h=>by simp[Dv.eqDL] at h;subst h;simp[pdL,Ar]
 | _::_,[],r,h=>by simp[Dv.eqDL] at h;subst h;simp[pdL,Ar]
 | x::xs,y::ys,r,h=>by
  simp only[Dv.eqDL] at h;cases h1:Dv.eqD x y with
  | none=>rw[h1] at h;cases h
  | some p=>
   cases h2:Dv.eqDL xs ys with
   | none=>rw[h1,h2] at h;cases h
   | some q=>
    rw[h1,h2] at h;cases h;simp only[pdL,Ar,ir x y p h1,hV xs ys q h2]
end
mutual
theorem bO {X:Cx}{pins:List (Addr×Obj)}{σ:St}{H:Hp}{s:Shared}(I:Inv X pins σ H s):∀ (d:D) (v:V) (u:Value),Rp X.K H d v->RelV v u->Dv.depthD d<=9->∃ as,Reads s.heap u (pd d) as
 | .non=>λ v u h r _=>by unfold Rp at h;subst h;cases r;unfold pd;exact⟨_,.none⟩
 | .bl b=>λ v u h r _=>by unfold Rp at h;subst h;cases r;unfold pd;exact⟨_,.bool b⟩
 | .int i=>λ v u h r _=>by unfold Rp at h;subst h;obtain⟨t,rfl⟩:=r;unfold pd;exact⟨_,.int i t⟩
 | .str x=>λ v u h r _=>by unfold Rp at h;subst h;obtain⟨t,rfl⟩:=r;unfold pd;exact⟨_,.str _ t⟩
 | .exn _=>λ v u h r hd=>by unfold Dv.depthD at hd;omega
 | .raw _=>λ v u h r hd=>by unfold Dv.depthD at hd;omega
 | .tab _=>λ v u h r hd=>by unfold Dv.depthD at hd;omega
 | .dct _ _=>λ v u h r hd=>by unfold Dv.depthD at hd;omega
 | .ins _ _=>λ v u h r hd=>by unfold Dv.depthD at hd;omega
 | .lst ds=>λ v u h r hd=>by
  unfold Rp at h;unfold Dv.depthD at hd;obtain⟨a,vs,rfl,h1,h2⟩:=h;cases r;obtain⟨its,n,rv,e,_⟩:=Inv.listX I h1;obtain⟨as,ra⟩:=dU I ds vs its h2 rv ⋯;unfold pd;exact⟨_,.list e rfl rfl (by simpa using ra)⟩
 | .tup ds=>λ v u h r hd'=>by
  unfold Rp at h;unfold Dv.depthD at hd';obtain⟨a,vs,rfl,h1,h2⟩:=h;cases r;obtain⟨_,its,rv,o,e,hc,n,hd⟩:=h1.ok I.hok;obtain⟨as,ra⟩:=dU I ds vs its h2 rv ⋯;unfold pd;exact⟨_,.tuple e hc hd (by simpa using ra)⟩
theorem dU {X:Cx}{pins:List (Addr×Obj)}{σ:St}{H:Hp}{s:Shared}(I:Inv X pins σ H s):∀ (ds:List D) (vs:List V) (us:List Value),RpL X.K H ds vs->Vals vs us->Dv.depthL ds<=9->∃ as,ReadsAll s.heap us (pdL ds) as
 | []=>λ vs us h r _=>by unfold RpL at h;subst h;cases r;unfold pdL;exact⟨_,.nil⟩
 | d::ds=>λ vs us h r hd=>by
  unfold RpL at h;unfold Dv.depthL at hd;obtain⟨v,ws,rfl,h1,h2⟩:=h;cases r with
  | cons r1 r2=>
   obtain⟨as,ra⟩:=bO I d v _ h1 r1 ⋯;obtain⟨bs,rb⟩:=dU I ds ws _ h2 r2 ⋯;unfold pdL;exact⟨_,.cons ra rb⟩
end
def tW (K:yC)(neg:Bool):R2:=λ x y H Q=>∃ d d' b,Rp K H d x/\Rp K H d' y/\Dv.depthD d<=9/\Dv.depthD d'<=9/\Dv.eqD d d'=some b/\Q (.bl (if neg then !b else b)) H
theorem sT (hu:C.X.A.units+64<cLine):OpR C.X (compareOp .Eq) (tW C.X.K false):=by
 intro pins s σ H x y v u Q I rx ry h;obtain⟨d,d',b,h1,h2,z1,z2,e,q⟩:=h;obtain⟨as,ra⟩:=bO I d x v h1 rx z1;obtain⟨bs,rb⟩:=bO I d' y u h2 ry z2;refine SeqAt.compareEq_reads ra rb (ee d) (ee d') ?_ ⟨.bl b,H,I,?_,q⟩
 ·have:=cz d
  have:=cz d';have:=xy (pd d).depth (pd d').depth;omega
 ·rw[ir _ _ _ e];rfl
theorem rH (hu:C.X.A.units+64<cLine):OpR C.X (compareOp .NotEq) (tW C.X.K true):=by
 intro pins s σ H x y v u Q I rx ry h;obtain⟨d,d',b,h1,h2,z1,z2,e,q⟩:=h;obtain⟨as,ra⟩:=bO I d x v h1 rx z1;obtain⟨bs,rb⟩:=bO I d' y u h2 ry z2;refine SeqAt.compareNe_reads ra rb (ee d) (ee d') ?_ ⟨.bl (!b),H,I,?_,q⟩
 ·have:=cz d
  have:=cz d';have:=xy (pd d).depth (pd d').depth;omega
 ·rw[ir _ _ _ e];rfl
theorem os_eq:OpS C (compareOp .Eq) (Dv.cmD .eq):=by
 refine⟨_,sT C.un,λ x y d d' H Hv H1 Hv1 W Q e rx ry q=>?_⟩;simp only[Dv.cmD_eq,Dv.cmD_ne,Dv.cmD_lt,Dv.cmD_le,Dv.cmD_gt,Dv.cmD_ge,Dv.cmD_in,Dv.cmD_ni,Dv.cmD_it,Dv.cmD_nt] at q;by_cases hz:(decide (Dv.depthD d<=9)&&decide (Dv.depthD d'<=9))=true
 ·rw[if_pos hz] at q
  simp only[vi,decide_eq_true_eq] at hz;cases he:Dv.eqD d d' with
  | none=>rw[he] at q;exact Zf q
  | some b=>
   rw[he] at q;exact⟨d,d',b,rx.same e.vh,ry.same e.vh,hz.1,hz.2,he,Ok.at (d:=.bl b) (fr:=true) q e fR rfl⟩
 ·rw[if_neg hz] at q;exact Zf q
theorem tG:OpS C (compareOp .NotEq) (Dv.cmD .ne):=by
 refine⟨_,rH C.un,λ x y d d' H Hv H1 Hv1 W Q e rx ry q=>?_⟩;simp only[Dv.cmD_eq,Dv.cmD_ne,Dv.cmD_lt,Dv.cmD_le,Dv.cmD_gt,Dv.cmD_ge,Dv.cmD_in,Dv.cmD_ni,Dv.cmD_it,Dv.cmD_nt] at q;by_cases hz:(decide (Dv.depthD d<=9)&&decide (Dv.depthD d'<=9))=true
 ·rw[if_pos hz] at q
  simp only[vi,decide_eq_true_eq] at hz;cases he:Dv.eqD d d' with
  | none=>rw[he] at q;exact Zf q
  | some b=>
   rw[he] at q;exact⟨d,d',b,rx.same e.vh,ry.same e.vh,hz.1,hz.2,he,Ok.at (d:=.bl (!b)) (fr:=true) q e fR rfl⟩
 ·rw[if_neg hz] at q;exact Zf q
theorem il {ds:List D}{vs:List V}{K:yC}{H:Hp}{i:Int}{d:D}(r:RpL K H ds vs)(h:Dv.at? ds i=some d):∃ v,atI vs i=some v/\Rp K H d v:=by
 unfold Dv.at? at h;unfold atI ixN;have hl:=r.length;by_cases h0:0<=i
 ·rw[if_pos h0] at h
  obtain⟨v,h1,h2⟩:=r.get h;have hlt:i.toNat<vs.length:=(List.getElem?_eq_some_iff.mp h1).1;refine⟨v,?_,h2⟩;rw[if_pos h0,if_pos ⋯];exact h1
 ·rw[if_neg h0] at h
  by_cases h1:-(ds.length:Int)<=i
  ·rw[if_pos h1] at h
   obtain⟨v,h2,h3⟩:=r.get h;refine⟨v,?_,h3⟩;rw[if_neg h0,if_pos ⋯];rw[hl];exact h2
  ·rw[if_neg h1] at h;cases h
theorem kG {K:yC}{H Hv H2 Hv2:Hp}{ds:List D}{v:V}{fr:Bool}{k:Int}{d:D}(x:Ext Hv H Hv2 H2)(hk:Dv.at? ds k=some d):
  (Rp K Hv2 (.lst ds) v->(fr=true->Rp [] (Hnew H H2) (.lst ds) v)->∃ l vs u,v=.ref l/\SqX K H2 l vs/\atI vs k=some u/\Rp K Hv2 d u/\((fr || Dv.scal d)=true->Rp [] (Hnew H H2) d u)) /\
  (Rp K Hv2 (.tup ds) v->(fr=true->Rp [] (Hnew H H2) (.tup ds) v)->∃ l vs u,v=.ref l/\Rd H2 l (.tup vs)/\atI vs k=some u/\Rp K Hv2 d u/\((fr || Dv.scal d)=true->Rp [] (Hnew H H2) d u)):=by
 constructor
 ·intro rp n
  cases fr with
  | true=>
   have rn:=n rfl;unfold Rp at rn;obtain⟨l,vs,rfl,h1,h2⟩:=rn;obtain⟨u,h3,h4⟩:=il h2 hk;refine⟨l,vs,u,rfl,?_,h3,(Rp.frag h4).same x.news,λ _=>h4⟩
   rcases h1 with h1|⟨its,n,e,_⟩
   ·exact .inl (Rd.same Hnew.sub h1)
   ·simp at e
  | false=>
   unfold Rp at rp;obtain⟨l,vs,rfl,h1,h2⟩:=rp;obtain⟨u,h3,h4⟩:=il h2 hk;exact⟨l,vs,u,rfl,h1.same x.vh,h3,h4,λ z=>h4.scal (by simpa using z)⟩
 ·intro rp n
  cases fr with
  | true=>
   have rn:=n rfl;unfold Rp at rn;obtain⟨l,vs,rfl,h1,h2⟩:=rn;obtain⟨u,h3,h4⟩:=il h2 hk;exact⟨l,vs,u,rfl,Rd.same Hnew.sub h1,h3,(Rp.frag h4).same x.news,λ _=>h4⟩
  | false=>
   unfold Rp at rp;obtain⟨l,vs,rfl,h1,h2⟩:=rp;obtain⟨u,h3,h4⟩:=il h2 hk;exact⟨l,vs,u,rfl,Rd.same x.vh h1,h3,h4,λ z=>h4.scal (by simpa using z)⟩
theorem aA (ha:SE C a f)(hb:SE C b g)(hs:autoParam (kF b) ZH._auto_1):SE C (.Subscript a b pos) (Dv.eIx f g):=by
 obtain⟨ta,pa,qa⟩:=ha;obtain⟨tb,pb,qb⟩:=hb;refine⟨_,tK (ix_list.or su) pa pb hs,λ σ H Hv ρ Q e s w=>?_⟩;refine qa.step e (.refl s) w λ v d fr Hv1 H1 _ x1 _ rp1 n1 q1=>qb.step e x1 q1 λ v2 d2 fr2 Hv2 H2 _ x2 y2 rp2 _ q2=>?_
 have rp:=rp1.same y2.vv;have rn:fr=true->Rp [] (Hnew H H2) d v:=λ z=>(n1 z).same (Hnew.mono (.refl _) y2.hh)
 cases d2 with
 | int k=>
  unfold Rp at rp2;cases d with
  | lst ds=>
   have q3:Ok C.X.K Hv H (C.W σ) C.cls (match Dv.at? ds k with|some d=>.ok d (fr || Dv.scal d)|none=>.bad) Q:=q2;cases hk:Dv.at? ds k with
   | none=>rw[hk] at q3;exact Zf q3
   | some d=>
    rw[hk] at q3;obtain⟨l,vs,u,e1,h1,h2,h3,h4⟩:=(kG (fr:=fr) x2 hk).1 rp rn;exact .inl ⟨l,vs,k,u,e1,rp2,h1.seq,h2,q3 u Hv2 H2 x2 h3 h4⟩
  | tup ds=>
   have q3:Ok C.X.K Hv H (C.W σ) C.cls (match Dv.at? ds k with|some d=>.ok d (fr || Dv.scal d)|none=>.bad) Q:=q2;cases hk:Dv.at? ds k with
   | none=>rw[hk] at q3;exact Zf q3
   | some d=>
    rw[hk] at q3;obtain⟨l,vs,u,e1,h1,h2,h3,h4⟩:=(kG (fr:=fr) x2 hk).2 rp rn;exact .inr ⟨l,vs,k,u,e1,rp2,.inl h1,h2,q3 u Hv2 H2 x2 h3 h4⟩
  | _=>exact Zf q2
 | _=>cases d <;>exact Zf q2
def C1S (C:Ctx)(fv:Value)(F:D->Bool->R):Prop:=
 ∃ r,cy C.X fv r/\∀ x d fr H Hv H1 Hv1 W Q,Ext Hv H Hv1 H1->Rp C.X.K Hv1 d x->(fr=true->Rp [] (Hnew H H1) d x)->Ok C.X.K Hv H W C.cls (F d fr) Q->r [x] H1 Q
theorem oS {x:Str}{p:Pos}{id:String}{F:D->Bool->R}(o:C1S C (.builtin id) F)(hg:Gl C.X x)(hm:C.X.mg x=none)(hv:bootBuiltins x=some (.builtin id))(ha:SE C a f)
  (hn:autoParam (x≠"__name__") ZC._auto_1) (hdb:autoParam ((x == ("__debug__":Str))=false) ZC._auto_1) (he:autoParam (starEach [a] C.X.env=[(false,eval a C.X.env)]) ZE._auto_1):SE C (.Call (.Name x p) [a] [] pos) (Dv.eB1 F f):=by
 obtain⟨r,ho,hr⟩:=o;obtain⟨t,pa,qa⟩:=ha;refine⟨_,cC ho hg hm hv (aI pa bj he) hn hdb he rfl,λ σ H Hv ρ Q e s w=>?_⟩;exact qa.step e (.refl s) w λ v d fr Hv1 H1 _ x1 _ rp1 n1 q1=>hr v d fr H Hv H1 Hv1 _ Q x1 rp1 n1 q1
theorem tw {x:Str}{p:Pos}{id:String}{F:D->Bool->R}(o:C1S C (.type id) F)(hg:Gl C.X x)(hm:C.X.mg x=none)(hv:bootBuiltins x=some (.type id))(ha:SE C a f)
  (hn:autoParam (x≠"__name__") ZC._auto_1) (hdb:autoParam ((x == ("__debug__":Str))=false) ZC._auto_1) (he:autoParam (starEach [a] C.X.env=[(false,eval a C.X.env)]) ZE._auto_1):SE C (.Call (.Name x p) [a] [] pos) (Dv.eB1 F f):=by
 obtain⟨r,ho,hr⟩:=o;obtain⟨t,pa,qa⟩:=ha;refine⟨_,mq ho hg hm hv (aI pa bj he) hn hdb he rfl,λ σ H Hv ρ Q e s w=>?_⟩;exact qa.step e (.refl s) w λ v d fr Hv1 H1 _ x1 _ rp1 n1 q1=>hr v d fr H Hv H1 Hv1 _ Q x1 rp1 n1 q1
theorem sO:C1S C (.builtin "len") Dv.lenD:=by
 refine⟨_,iG,λ x d fr H Hv H1 Hv1 W Q e rx n q=>?_⟩;cases d with
 | lst ds=>
  unfold Rp at rx;obtain⟨l,vs,rfl,h1,h2⟩:=rx;refine⟨l,vs,rfl,.inl (h1.same e.vh).seq,?_⟩;rw[h2.length];exact Ok.at (d:=.int ds.length) (fr:=true) q e b9 rfl
 | tup ds=>
  unfold Rp at rx;obtain⟨l,vs,rfl,h1,h2⟩:=rx;refine⟨l,vs,rfl,.inr (.inl (Rd.same e.vh h1)),?_⟩;rw[h2.length];exact Ok.at (d:=.int ds.length) (fr:=true) q e b9 rfl
 | _=>exact Zf q
theorem qG:C1S C (.type "list") Dv.listD:=by
 refine⟨_,iF,λ x d fr H Hv H1 Hv1 W Q e rx n q=>?_⟩;cases d with
 | lst ds=>
  cases fr with
  | true=>
   have rn:=n rfl;unfold Rp at rn;obtain⟨l,vs,rfl,h1,h2⟩:=rn;have h1':SqX C.X.K H1 l vs:=by
    rcases h1 with h1|⟨its,n,e,_⟩
    ·exact .inl (Rd.same Hnew.sub h1)
    ·simp at e
   exact⟨l,vs,rfl,.inl h1'.seq,λ p hp=>Ok.newL q e ((RpL.frag h2).same e.news) (λ _=>h2) p hp⟩
  | false=>
   unfold Rp at rx;obtain⟨l,vs,rfl,h1,h2⟩:=rx;exact⟨l,vs,rfl,.inl (h1.same e.vh).seq,λ p hp=>Ok.newL q e h2 (λ z=>h2.flat (by simpa using z)) p hp⟩
 | tup ds=>
  cases fr with
  | true=>
   have rn:=n rfl;unfold Rp at rn;obtain⟨l,vs,rfl,h1,h2⟩:=rn;exact⟨l,vs,rfl,.inr (.inl (Rd.same Hnew.sub h1)),λ p hp=>Ok.newL q e ((RpL.frag h2).same e.news) (λ _=>h2) p hp⟩
  | false=>
   unfold Rp at rx;obtain⟨l,vs,rfl,h1,h2⟩:=rx;exact⟨l,vs,rfl,.inr (.inl (Rd.same e.vh h1)),λ p hp=>Ok.newL q e h2 (λ z=>h2.flat (by simpa using z)) p hp⟩
 | _=>exact Zf q
end
open Dv (D R RL EE EL EI RI Sl Out SS)
def Nd (K:yC)(Hc:Hp):D->HO->Prop
 | .lst ds,o=>∃ vs,o=.lst vs/\RpL K Hc ds vs
 | .dct ks ds,o=>∃ vs,o=.dK ((ks.map Sum.inl).zip vs)/\ks.length=ds.length/\RpL K Hc ds vs
 | _,_=>False
theorem Nd.same {K:yC}{H H':Hp}{d:D}{o:HO}(e:Same H H')(h:Nd K H d o):Nd K H' d o:=by
 cases d with
 | lst ds=>obtain⟨vs,h1,h2⟩:=h;exact⟨vs,h1,h2.same e⟩
 | dct ks ds=>obtain⟨vs,h1,h2,h3⟩:=h;exact⟨vs,h1,h2,h3.same e⟩
 | _=>exact Zf h
theorem Nd.rp {K:yC}{H:Hp}{d:D}{o:HO}{a:Addr}(h:Nd K H d o)(ha:H a=some o):Rp K H d (.ref a):=by
 cases d with
 | lst ds=>obtain⟨vs,rfl,h2⟩:=h;unfold Rp;exact⟨a,vs,rfl,SqX.of ha,h2⟩
 | dct ks ds=>obtain⟨vs,rfl,h2,h3⟩:=h;unfold Rp;exact⟨a,vs,rfl,h2,.inl ha,h3⟩
 | _=>exact Zf h
def Jk (R:Hp)(n m:Nat)(v:V):Prop:=∃ t vs,v=.ref t/\(R t=some (.lst vs)\/R t=some (.tup vs))/\vs.length=n/\∀ x∈vs,∃ b ws,x=.ref b/\b≠t/\R b=some (.lst ws)/\ws.length<=m
structure RelC (K:yC)(Hv₀ H₀ Hc:Hp)(O:Nat->Hp)(st:Dv.St)(σ:St)(H:Hp):Prop where
 h0:Same H₀ H
 vc:Same Hv₀ Hc
 ch:Same Hc H
 new:∀ b o,Hc b=some o->Hv₀ b=none->H₀ b=none
 nf:∀ b o u,H₀ b=none->H b≠some (.frz o u)
 len:st.length=σ.length
 sh:∀ (i:Nat) (d:D),st[i]?=some (Sl.sh d)->∃ v,σ[i]?=some (some v)/\Rp K Hc d v
 ow:∀ (i:Nat) (d:D),st[i]?=some (Sl.ow d)->∃ (a:Addr) (o:HO),σ[i]?=some (some (V.ref a))/\O i a=some o/\Nd K Hc d o
 dp:∀ (i:Nat) (d:D),st[i]?=some (Sl.dp d)->∃ v,σ[i]?=some (some v)/\Rp [] (O i) d v
 jk:∀ (i n m:Nat),st[i]?=some (Sl.jk n m)->∃ v,σ[i]?=some (some v)/\Jk (O i) n m v
 oh:∀ (i:Nat) (b:Addr) (o:HO),O i b=some o->H b=some o/\Hc b=none/\H₀ b=none
 one:∀ (i j:Nat) (b:Addr) (o o':HO),O i b=some o->O j b=some o'->i=j
def Rel (K:yC)(Hv₀ H₀:Hp)(st:Dv.St)(σ:St)(H:Hp):Prop:=∃ Hc O,RelC K Hv₀ H₀ Hc O st σ H
section
variable {K:yC}{Hv₀ H₀ Hc:Hp}{O:Nat->Hp}{st:Dv.St}{σ:St}{H:Hp}
theorem RelC.less {Hv1:Hp}(r:RelC K Hc H₀ Hv1 O st σ H)(vc:Same Hv₀ Hc)(new:∀ b o,Hc b=some o->Hv₀ b=none->H₀ b=none):RelC K Hv₀ H₀ Hv1 O st σ H:=
 ⟨r.h0,vc.trans r.vc,r.ch,λ b o h n=>(by
  cases q:Hc b with
  | some u=>exact new b u q n
  | none=>exact r.new b o h q),r.nf,r.len,r.sh,r.ow,r.dp,r.jk,r.oh,r.one⟩
def pA (O:Nat->Hp)(b:Addr):Prop:=∃ (i:Nat) (o:HO),O i b=some o
open Classical in
def cY (Hc:Hp)(O:Nat->Hp)(H:Hp):Hp:=λ b=>if pA O b then H b else Hc b
theorem RelC.cAll (r:RelC K Hv₀ H₀ Hc O st σ H):Same Hc (cY Hc O H):=λ b o h=>by
 unfold cY;by_cases q:pA O b
 ·obtain⟨i,u,h1⟩:=q
  rw[(r.oh i b u h1).2.1] at h;cases h
 ·rw[if_neg q];exact h
theorem RelC.oAll (r:RelC K Hv₀ H₀ Hc O st σ H)(i:Nat):Same (O i) (cY Hc O H):=λ b o h=>by
 unfold cY;rw[if_pos ⟨i,o,h⟩];exact(r.oh i b o h).1
theorem RelC.allH (r:RelC K Hv₀ H₀ Hc O st σ H):Same (cY Hc O H) H:=λ b o h=>by
 unfold cY at h;by_cases q:pA O b
 ·rw[if_pos q] at h;exact h
 ·rw[if_neg q] at h;exact r.ch b o h
theorem RelC.allNew (r:RelC K Hv₀ H₀ Hc O st σ H):∀ b o,cY Hc O H b=some o->Hv₀ b=none->H₀ b=none:=λ b o h n=>by
 unfold cY at h;by_cases q:pA O b
 ·obtain⟨i,u,h1⟩:=q
  exact(r.oh i b u h1).2.2
 ·rw[if_neg q] at h;exact r.new b o h n
theorem qA {i:Nat}{d:D}(h:(Dv.all st)[i]?=some (some d)):st[i]?=some (.sh d)\/st[i]?=some (.ow d)\/st[i]?=some (.dp d):=by
 unfold Dv.all at h;rw[vA] at h;cases q:st[i]? with
 | none=>rw[q] at h;cases h
 | some s=>
  rw[q] at h;cases s with
  | no=>cases h
  | sh x=>cases h;exact .inl rfl
  | ow x=>cases h;exact .inr (.inl rfl)
  | dp x=>cases h;exact .inr (.inr rfl)
  | jk n m=>cases h
theorem get_open {i:Nat}{d:D}(h:(Dv.open_ st)[i]?=some (some d)):st[i]?=some (.sh d):=by
 unfold Dv.open_ at h;rw[vA] at h;cases q:st[i]? with
 | none=>rw[q] at h;cases h
 | some s=>
  rw[q] at h;cases s with
  | sh x=>cases h;rfl
  | _=>cases h
theorem RelC.envAll (r:RelC K Hv₀ H₀ Hc O st σ H):EnvR K (cY Hc O H) (Dv.all st) σ:=λ i d h=>by
 rcases qA h with h|h|h
 ·obtain⟨v,h1,h2⟩:=r.sh i d h
  exact⟨v,h1,h2.same r.cAll⟩
 ·obtain⟨a,o,h1,h2,h3⟩:=r.ow i d h
  exact⟨_,h1,(h3.same r.cAll).rp (r.oAll i a o h2)⟩
 ·obtain⟨v,h1,h2⟩:=r.dp i d h
  exact⟨v,h1,Rp.frag (h2.same (r.oAll i))⟩
theorem RelC.envOpen (r:RelC K Hv₀ H₀ Hc O st σ H):EnvR K Hc (Dv.open_ st) σ:=λ i d h=>r.sh i d (get_open h)
theorem RelC.grow {H':Hp}(r:RelC K Hv₀ H₀ Hc O st σ H)(hh:Same H H')(nf:∀ b o u,H b=none->H' b≠some (.frz o u)):RelC K Hv₀ H₀ Hc O st σ H':=
 ⟨r.h0.trans hh,r.vc,r.ch.trans hh,r.new,λ b o u h=>(by
  cases q:H b with
  | none=>exact nf b o u q
  | some w=>rw[hh b w q,<- q];exact r.nf b o u h),r.len,r.sh,r.ow,r.dp,r.jk,λ i b o h=>⟨hh _ _ (r.oh i b o h).1,(r.oh i b o h).2⟩,r.one⟩
theorem RelC.growC {Hc' H':Hp}(r:RelC K Hv₀ H₀ Hc O st σ H)(x:Ext Hc H Hc' H'):RelC K Hv₀ H₀ Hc' O st σ H':=by
 have g:=r.grow x.hh x.nf;refine⟨g.h0,r.vc.trans x.vv,x.vh,λ b o h n=>?_,g.nf,g.len,λ i d h=>?_,λ i d h=>?_,r.dp,r.jk,λ i b o h=>?_,g.one⟩
 ·cases q:Hc b with
  | some u=>exact r.new b u q n
  | none=>exact r.h0.free (x.new b o h q)
 ·obtain⟨v,h1,h2⟩:=r.sh i d h
  exact⟨v,h1,h2.same x.vv⟩
 ·obtain⟨a,o,h1,h2,h3⟩:=r.ow i d h
  exact⟨a,o,h1,h2,h3.same x.vv⟩
 ·obtain⟨h1,h2,h3⟩:=r.oh i b o h
  refine⟨x.hh _ _ h1,?_,h3⟩;cases q:Hc' b with
  | none=>rfl
  | some u=>
   have:=x.new b u q h2;rw[this] at h1;cases h1
theorem bT {α:Type}{l:List α}{i j:Nat}{x y:α}(h:(l.set i x)[j]?=some y):(j=i/\y=x/\i<l.length)\/(j≠i/\l[j]?=some y):=by
 by_cases e:j=i
 ·subst e
  by_cases hl:j<l.length
  ·rw[vp hl] at h
   exact .inl ⟨rfl,(Option.some.inj h).symm,hl⟩
  ·rw[wm (by rw[vL];omega)] at h
   cases h
 ·rw[u6 (Ne.symm e)] at h
  exact .inr ⟨e,h⟩
theorem RelC.setAny {i:Nat}{s:Sl}{v:Option V}{H':Hp}{O':Nat->Hp}(r:RelC K Hv₀ H₀ Hc O st σ H)(h0:Same H₀ H')(ch:Same Hc H')(nf:∀ b o u,H₀ b=none->H' b≠some (.frz o u))(hO:∀ j,j≠i->O' j=O j)
  (sh:∀ d,s=.sh d->∃ w,v=some w/\Rp K Hc d w) (ow:∀ d,s=.ow d->∃ a o,v=some (.ref a)/\O' i a=some o/\Nd K Hc d o) (dp:∀ d,s=.dp d->∃ w,v=some w/\Rp [] (O' i) d w) (jk:∀ n m,s=.jk n m->∃ w,v=some w/\Jk (O' i) n m w)
  (oh:∀ j b o,O' j b=some o->H' b=some o/\Hc b=none/\H₀ b=none) (one:∀ j b o o',O' i b=some o->j≠i->O j b≠some o'):RelC K Hv₀ H₀ Hc O' (st.set i s) (σ.set i v) H':=by
 have at_:∀ {j:Nat},j=i->i<st.length->(σ.set i v)[j]?=some v:=λ {j} e hl=>by subst e;exact vp (by rw[<- r.len];exact hl)
 have no:∀ {j:Nat},j≠i->(σ.set i v)[j]?=σ[j]?:=λ hj=>u6 (Ne.symm hj)
 refine⟨h0,r.vc,ch,r.new,nf,by rw[vL,vL];exact r.len,λ j x h=>?_,λ j x h=>?_,λ j x h=>?_,λ j n m h=>?_,oh,λ j k b o o' h1 h2=>?_⟩
 ·rcases bT h with ⟨e,e2,hl⟩|⟨hj,h⟩
  ·obtain⟨w,e3,rp⟩:=sh x e2.symm
   exact⟨w,by rw[at_ e hl,e3],rp⟩
  ·obtain⟨u,h1,h2⟩:=r.sh j x h
   exact⟨u,by rw[no hj];exact h1,h2⟩
 ·rcases bT h with ⟨e,e2,hl⟩|⟨hj,h⟩
  ·obtain⟨a,o,e3,e4,rp⟩:=ow x e2.symm
   exact⟨a,o,by rw[at_ e hl,e3],by rw[e];exact e4,rp⟩
  ·obtain⟨a,o,h1,h2,h3⟩:=r.ow j x h
   exact⟨a,o,by rw[no hj];exact h1,by rw[hO j hj];exact h2,h3⟩
 ·rcases bT h with ⟨e,e2,hl⟩|⟨hj,h⟩
  ·obtain⟨w,e3,rp⟩:=dp x e2.symm
   exact⟨w,by rw[at_ e hl,e3],by rw[e];exact rp⟩
  ·obtain⟨u,h1,h2⟩:=r.dp j x h
   exact⟨u,by rw[no hj];exact h1,by rw[hO j hj];exact h2⟩
 ·rcases bT h with ⟨e,e2,hl⟩|⟨hj,h⟩
  ·obtain⟨w,e3,rp⟩:=jk n m e2.symm
   exact⟨w,by rw[at_ e hl,e3],by rw[e];exact rp⟩
  ·obtain⟨u,h1,h2⟩:=r.jk j n m h
   exact⟨u,by rw[no hj];exact h1,by rw[hO j hj];exact h2⟩
 ·by_cases e1:j=i
  ·by_cases e2:k=i
   ·rw[e1,e2]
   ·rw[e1] at h1;rw[hO k e2] at h2;exact absurd h2 (one k b o o' h1 e2)
  ·by_cases e2:k=i
   ·rw[e2] at h2;rw[hO j e1] at h1;exact absurd h1 (one j b o' o h2 e1)
   ·rw[hO j e1] at h1;rw[hO k e2] at h2;exact r.one j k b o o' h1 h2
theorem RelC.setSh {i:Nat}{d:D}{v:V}(r:RelC K Hv₀ H₀ Hc O st σ H)(rp:Rp K Hc d v):RelC K Hv₀ H₀ Hc O (st.set i (.sh d)) (σ.set i (some v)) H:=
 r.setAny r.h0 r.ch r.nf (λ _ _=>rfl) (λ x e=>by cases e;exact⟨v,rfl,rp⟩) (λ x e=>nomatch e) (λ x e=>nomatch e) (λ n m e=>nomatch e) r.oh λ j b o o' h hj h2=>hj (r.one j i b o' o h2 h)
def lZ (O:Nat->Hp)(i:Nat)(R:Hp):Nat->Hp:=λ j=>if j=i then R else O j
theorem aO {R:Hp}{i:Nat}:lZ O i R i=R:=if_pos rfl
theorem bC {R:Hp}{i j:Nat}(h:j≠i):lZ O i R j=O j:=if_neg h
def only (a:Addr)(o:HO):Hp:=λ b=>if b=a then some o else none
theorem mh {a:Addr}{o:HO}:only a o a=some o:=if_pos rfl
theorem kK {a b:Addr}{o u:HO}(h:only a o b=some u):b=a/\u=o:=by
 unfold only at h;by_cases e:b=a
 ·rw[if_pos e] at h;exact⟨e,(Option.some.inj h).symm⟩
 ·rw[if_neg e] at h;cases h
theorem RelC.setOw {i:Nat}{d:D}{o:HO}{a:Addr}(r:RelC K Hv₀ H₀ Hc O st σ H)(ha:H a=some o)(hc:Hc a=none)(h0:H₀ a=none)(no:∀ j,j≠i->O j a=none)
  (nd:Nd K Hc d o):RelC K Hv₀ H₀ Hc (lZ O i (only a o)) (st.set i (.ow d)) (σ.set i (some (.ref a))) H:=
 r.setAny r.h0 r.ch r.nf (λ j hj=>bC hj) (λ x e=>nomatch e) (λ x e=>by cases e;exact⟨a,o,rfl,by rw[aO];exact mh,nd⟩) (λ x e=>nomatch e) (λ n m e=>nomatch e)
  (λ j b u h=>by
   by_cases hj:j=i
   ·rw[hj,aO] at h
    obtain⟨rfl,rfl⟩:=kK h;exact⟨ha,hc,h0⟩
   ·rw[bC hj] at h;exact r.oh j b u h)
  λ j b u u' h hj h2=>by
   rw[aO] at h;obtain⟨rfl,rfl⟩:=kK h;rw[no j hj] at h2;cases h2
theorem kj {α:Type}{l:List α}{i:Nat}{x:α}(h:l[i]?=some x):l.set i x=l:=by
 refine w9 λ j=>?_
 by_cases hj:j=i
 ·subst hj;rw[vp (List.getElem?_eq_some_iff.mp h).1,h]
 ·rw[u6 (Ne.symm hj)]
theorem RelC.putAny {i:Nat}{s:Sl}{v:V}{a:Addr}{u o:HO}(r:RelC K Hv₀ H₀ Hc O st σ H)(hσ:σ[i]?=some (some v))(ha:O i a=some u)(ho:∀ q w,o≠.frz q w)
  (ow:∀ d,s=.ow d->v=.ref a/\Nd K Hc d o) (jk:∀ n m,s=.jk n m->Jk (upd (O i) a o) n m v) (hs:∀ d,s≠.sh d/\s≠.dp d):
  RelC K Hv₀ H₀ Hc (lZ O i (upd (O i) a o)) (st.set i s) σ (upd H a o):=by
 obtain⟨h1,h2,h3⟩:=r.oh i a u ha;have hset:σ.set i (some v)=σ:=kj hσ;have key:=r.setAny (i:=i) (s:=s) (v:=some v) (H':=upd H a o) (O':=lZ O i (upd (O i) a o)) (λ b w h=>by rw[ao (ay h h3)];exact r.h0 b w h) (λ b w h=>by rw[ao (ay h h2)];exact r.ch b w h)
  (λ b q w h=>by
   by_cases hb:b=a
   ·subst hb;rw[av];exact λ z=>ho q w (Option.some.inj z)
   ·rw[ao hb];exact r.nf b q w h)
  (λ j hj=>bC hj) (λ d e=>absurd e (hs d).1) (λ d e=>⟨a,o,by rw[(ow d e).1],by rw[aO,av],(ow d e).2⟩) (λ d e=>absurd e (hs d).2) (λ n m e=>⟨v,rfl,by rw[aO];exact jk n m e⟩)
  (λ j b w h=>by
   by_cases hj:j=i
   ·rw[hj,aO] at h
    by_cases hb:b=a
    ·subst hb;rw[av] at h ⊢;exact⟨h,h2,h3⟩
    ·rw[ao hb] at h ⊢;exact r.oh i b w h
   ·rw[bC hj] at h
    have hb:b≠a:=λ z=>hj (r.one j i b w u h (by rw[z];exact ha))
    rw[ao hb];exact r.oh j b w h)
  λ j b w w' h hj h4=>by
   rw[aO] at h;by_cases hb:b=a
   ·exact hj (r.one j i b w' u h4 (by rw[hb];exact ha))
   ·rw[ao hb] at h;exact hj (r.one j i b w' w h4 h)
 rw[hset] at key;exact key
theorem RelC.put {i:Nat}{d:D}{ds:List D}{ws:List V}{a:Addr}(r:RelC K Hv₀ H₀ Hc O st σ H)(hi:st[i]?=some (.ow d))(hσ:σ[i]?=some (some (.ref a)))(rp:RpL K Hc ds ws):
  ∃ O',RelC K Hv₀ H₀ Hc O' (st.set i (.ow (.lst ds))) σ (upd H a (.lst ws)):=by
 obtain⟨a',o,h1,h2,h3⟩:=r.ow i d hi;rw[hσ] at h1;cases h1;exact⟨_,r.putAny hσ h2 (by intro _ _ z;cases z) (λ x e=>by cases e;exact⟨rfl,ws,rfl,rp⟩) (λ n m e=>nomatch e) λ x=>⟨nofun,nofun⟩⟩
def bH (A B:Hp):Hp:=λ b=>match A b with
 | some o=>some o
 | none=>B b
theorem cc {A B:Hp}:Same A (bH A B):=λ b o h=>by unfold bH;rw[h]
theorem eS {A B:Hp}(d:∀ b o,B b=some o->A b=none):Same B (bH A B):=λ b o h=>by unfold bH;rw[d b o h];exact h
theorem bq {A B:Hp}{b:Addr}{o:HO}(h:bH A B b=some o):A b=some o\/(A b=none/\B b=some o):=by
 unfold bH at h;cases q:A b with
 | some u=>rw[q] at h;exact .inl h
 | none=>rw[q] at h;exact .inr ⟨rfl,h⟩
theorem RelC.give1 {i:Nat}(r:RelC K Hv₀ H₀ Hc O st σ H):∃ Hc' O',Same Hc Hc'/\RelC K Hv₀ H₀ Hc' O' (st.set i ((st[i]?.getD .no).give)) σ H:=by
 cases hi:st[i]? with
 | none=>
  refine⟨Hc,O,.refl _,?_⟩;rw[List.set_eq_of_length_le (by have:=List.getElem?_eq_none_iff.mp hi;omega)];exact r
 | some s=>
  have hs:st.set i s=st:=kj hi;have key:∀ (d:D) (v:V),σ[i]?=some (some v)->Rp K (bH Hc (O i)) d v->∃ Hc' O',Same Hc Hc'/\RelC K Hv₀ H₀ Hc' O' (st.set i (.sh d)) σ H:=λ d v hσ rp=>by
   have sm:Same Hc (bH Hc (O i)):=cc;have hset:σ.set i (some v)=σ:=kj hσ;have r1:RelC K Hv₀ H₀ (bH Hc (O i)) (lZ O i λ _=>none) (st.set i .no) σ H:=by
    refine⟨r.h0,r.vc.trans sm,λ b o h=>?_,λ b o h n=>?_,r.nf,by rw[vL];exact r.len,λ j x h=>?_,λ j x h=>?_,λ j x h=>?_,λ j n m h=>?_,λ j b o h=>?_,λ j k b o o' h1 h2=>?_⟩
    ·rcases bq h with h|⟨_,h⟩
     ·exact r.ch b o h
     ·exact(r.oh i b o h).1
    ·rcases bq h with h|⟨_,h⟩
     ·exact r.new b o h n
     ·exact(r.oh i b o h).2.2
    ·rcases bT h with ⟨_,e,_⟩|⟨hj,h⟩
     ·cases e
     ·obtain⟨u,h1,h2⟩:=r.sh j x h
      exact⟨u,h1,h2.same sm⟩
    ·rcases bT h with ⟨_,e,_⟩|⟨hj,h⟩
     ·cases e
     ·obtain⟨a,o,h1,h2,h3⟩:=r.ow j x h
      exact⟨a,o,h1,by rw[bC hj];exact h2,h3.same sm⟩
    ·rcases bT h with ⟨_,e,_⟩|⟨hj,h⟩
     ·cases e
     ·obtain⟨u,h1,h2⟩:=r.dp j x h
      exact⟨u,h1,by rw[bC hj];exact h2⟩
    ·rcases bT h with ⟨_,e,_⟩|⟨hj,h⟩
     ·cases e
     ·obtain⟨u,h1,h2⟩:=r.jk j n m h
      exact⟨u,h1,by rw[bC hj];exact h2⟩
    ·by_cases hj:j=i
     ·rw[hj,aO] at h;cases h
     ·rw[bC hj] at h
      obtain⟨h1,h2,h3⟩:=r.oh j b o h;refine⟨h1,?_,h3⟩;cases q:bH Hc (O i) b with
      | none=>rfl
      | some u=>
       rcases bq q with q|⟨_,q⟩
       ·rw[h2] at q;cases q
       ·exact absurd (r.one j i b o u h q) hj
    ·by_cases hj:j=i
     ·rw[hj,aO] at h1;cases h1
     ·by_cases hk:k=i
      ·rw[hk,aO] at h2;cases h2
      ·rw[bC hj] at h1;rw[bC hk] at h2;exact r.one j k b o o' h1 h2
   have r2:=r1.setSh (i:=i) rp;rw[hset,List.set_set] at r2;exact⟨_,_,sm,r2⟩
  cases s with
  | no=>exact⟨Hc,O,.refl _,by show RelC K Hv₀ H₀ Hc O (st.set i .no) σ H;rw[hs];exact r⟩
  | sh d=>exact⟨Hc,O,.refl _,by show RelC K Hv₀ H₀ Hc O (st.set i (.sh d)) σ H;rw[hs];exact r⟩
  | jk n m=>exact⟨Hc,O,.refl _,by show RelC K Hv₀ H₀ Hc O (st.set i (.jk n m)) σ H;rw[hs];exact r⟩
  | ow d=>
   obtain⟨a,o,h1,h2,h3⟩:=r.ow i d hi;exact key d _ h1 ((h3.same cc).rp (eS (λ b o h=>(r.oh i b o h).2.1) a o h2))
  | dp d=>
   obtain⟨v,h1,h2⟩:=r.dp i d hi;exact key d v h1 (Rp.frag (h2.same (eS λ b o h=>(r.oh i b o h).2.1)))
theorem RelC.give:∀ (is:List Nat) {st:Dv.St} {Hc:Hp} {O:Nat->Hp},RelC K Hv₀ H₀ Hc O st σ H->∃ Hc' O',Same Hc Hc'/\RelC K Hv₀ H₀ Hc' O' (Dv.give is st) σ H
 | [],st,Hc,O,r=>⟨Hc,O,.refl _,r⟩
 | i::is,st,Hc,O,r=>by
  obtain⟨Hc1,O1,s1,r1⟩:=r.give1 (i:=i);obtain⟨Hc2,O2,s2,r2⟩:=RelC.give is r1;exact⟨Hc2,O2,s1.trans s2,r2⟩
end
def OkS (C:Ctx)(Hv₀ H₀:Hp)(E:Ends)(o:Out):Prop:=match o with
 | .nx st=>∀ σ' H',Rel C.X.K Hv₀ H₀ st σ' H'->E.nx σ' H'
 | .ret d nw=>∀ v Hv' H',Ext Hv₀ H₀ Hv' H'->Rp C.X.K Hv' d v->(nw=true->Rp [] (Hnew H₀ H') d v)->E.rt v H'
 | .brk st=>∀ σ' H',Rel C.X.K Hv₀ H₀ st σ' H'->E.bk σ' H'
 | .cont st=>∀ σ' H',Rel C.X.K Hv₀ H₀ st σ' H'->E.ct σ' H'
 | .exc c st=>∀ σ' H',Rel C.X.K Hv₀ H₀ st σ' H'->C.W σ' (C.cls c) none H'
 | .bad=>False
def qL (C:Ctx)(t:TS)(f:SS):Prop:=∀ Hv₀ H₀ E σ H st,Rel C.X.K Hv₀ H₀ st σ H->OkS C Hv₀ H₀ E (f st)->t E σ H
def SSt (C:Ctx)(s:Stmt)(f:SS):Prop:=∃ t:TS,PS C.X s t/\qL C t f
def SSs (C:Ctx)(ss:List Stmt)(f:SS):Prop:=∃ t:TS,PSs C.X ss t/\qL C t f
section
variable {C:Ctx}{a b c:Expr}{e:Expr}{f g h:EE}{F G:SS}{s:Stmt}{ss:List Stmt}{pos pos':Pos}{E:Ends}
theorem bD:SSs C [] Dv.sNil:=⟨_,pz,λ Hv₀ H₀ E σ H st r q=>q σ H r⟩
theorem ai (h1:SSt C s F)(h2:SSs C ss G):SSs C (s::ss) (Dv.sCons F G):=by
 obtain⟨t,p,q⟩:=h1;obtain⟨u,p2,q2⟩:=h2;refine⟨_,dm p p2,λ Hv₀ H₀ E σ H st r w=>?_⟩;refine q Hv₀ H₀ { E with nx:=u E } σ H st r ?_
 have w':OkS C Hv₀ H₀ E ((F st).bind G):=w;cases hf:F st with
 | nx st'=>rw[hf] at w';exact λ σ' H' r'=>q2 Hv₀ H₀ E σ' H' st' r' w'
 | ret d nw=>rw[hf] at w';exact w'
 | brk st=>rw[hf] at w';exact w'
 | cont st=>rw[hf] at w';exact w'
 | exc c st=>rw[hf] at w';exact w'
 | bad=>rw[hf] at w';exact w'
theorem ax (h1:SSt C s F):SSs C [s] F:=by
 obtain⟨t,p,q⟩:=h1;exact⟨t,dH p,q⟩
theorem Tak.all {t:TE}(q:Tak C t f){Hv₀ H₀ Hc H:Hp}{O:Nat->Hp}{σ:St}{st:Dv.St}(r:RelC C.X.K Hv₀ H₀ Hc O st σ H){T:VK}
  (hx:∀ c,f (Dv.all st)=.exc c->∀ H',RelC C.X.K Hv₀ H₀ Hc O st σ H'->C.W σ (C.cls c) none H') (hb:f (Dv.all st)≠.bad)
  (ok:∀ d fr v Hv' H',f (Dv.all st)=.ok d fr->Ext (cY Hc O H) H Hv' H'->RelC C.X.K Hv₀ H₀ Hc O st σ H'->Rp C.X.K Hv' d v->(fr=true->Rp [] (Hnew H H') d v)->T v H'):t σ H T:=by
 refine q σ H (cY Hc O H) (Dv.all st) T r.envAll r.allH ?_
 cases hf:f (Dv.all st) with
 | bad=>exact absurd hf hb
 | exc c=>exact λ Hv' H' x=>hx c hf H' (r.grow x.hh x.nf)
 | ok d fr=>exact λ v Hv' H' x rp n=>ok d fr v Hv' H' hf x (r.grow x.hh x.nf) rp n
theorem Tak.open {t:TE}(q:Tak C t f){Hv₀ H₀ Hc H:Hp}{O:Nat->Hp}{σ:St}{st:Dv.St}(r:RelC C.X.K Hv₀ H₀ Hc O st σ H){T:VK}
  (hx:∀ c,f (Dv.open_ st)=.exc c->∀ Hc' H',Ext Hc H Hc' H'->C.W σ (C.cls c) none H') (hb:f (Dv.open_ st)≠.bad)
  (ok:∀ d fr v Hc' H',f (Dv.open_ st)=.ok d fr->Ext Hc H Hc' H'->RelC C.X.K Hv₀ H₀ Hc' O st σ H'->Rp C.X.K Hc' d v->T v H'):t σ H T:=by
 refine q σ H Hc (Dv.open_ st) T r.envOpen r.ch ?_
 cases hf:f (Dv.open_ st) with
 | bad=>exact absurd hf hb
 | exc c=>exact λ Hv' H' x=>hx c hf Hv' H' x
 | ok d fr=>exact λ v Hv' H' x rp n=>ok d fr v Hv' H' hf x (r.growC x) rp
theorem eY (he:SE C e f)(hs:autoParam (swapsWith e none pos.line C.X.env=pure false) ZE._auto_1):SSt C (.Expr e pos) (Dv.sExpr f):=by
 obtain⟨t,p,q⟩:=he;refine⟨_,eM p hs,λ Hv₀ H₀ E σ H st ⟨Hc,O,r⟩ w=>?_⟩;unfold Dv.sExpr at w;refine q.all r (λ c hf H' r'=>?_) (λ hf=>?_) λ d fr v Hv' H' hf x r' rp n=>?_
 ·rw[hf] at w;exact w σ H' ⟨Hc,O,r'⟩
 ·rw[hf] at w;exact w
 ·rw[hf] at w;exact w σ H' ⟨Hc,O,r'⟩
theorem RelC.ret {Hv₀ H₀ Hc H Hv' H':Hp}{O:Nat->Hp}{σ:St}{st:Dv.St}{K:yC}(r:RelC K Hv₀ H₀ Hc O st σ H)(x:Ext (cY Hc O H) H Hv' H'):∃ Hv2,Ext Hv₀ H₀ Hv2 H'/\Same Hv' Hv2:=by
 have key:∀ b o,Hv' b=some o->Hv₀ b=none->H₀ b=none:=λ b o h n=>by
  cases q:cY Hc O H b with
  | some u=>exact r.allNew b u q n
  | none=>exact r.h0.free (x.new b o h q)
 refine⟨λ b=>match H₀ b with|none=>H' b|some _=>Hv' b,⟨r.h0.trans x.hh,λ b o h=>?_,λ b o h=>?_,λ b o h n=>?_,λ b h=>?_,λ b o u h=>?_⟩,λ b o h=>?_⟩
 ·have h2:Hv' b=some o:=x.vv _ _ (r.cAll _ _ (r.vc b o h))
  show (match H₀ b with|none=>H' b|some _=>Hv' b)=some o
  cases H₀ b with
  | none=>exact x.vh b o h2
  | some _=>exact h2
 ·have h':(match H₀ b with|none=>H' b|some _=>Hv' b)=some o:=h
  cases q:H₀ b with
  | none=>rw[q] at h';exact h'
  | some _=>rw[q] at h';exact x.vh b o h'
 ·have h':(match H₀ b with|none=>H' b|some _=>Hv' b)=some o:=h
  cases q:H₀ b with
  | none=>rfl
  | some u=>
   rw[q] at h';have:=key b o h' n;rw[q] at this;cases this
 ·show (match H₀ b with|none=>H' b|some _=>Hv' b)=H' b
  rw[h]
 ·exact(r.grow x.hh x.nf).nf b o u h
 ·show (match H₀ b with|none=>H' b|some _=>Hv' b)=some o
  cases H₀ b with
  | none=>exact x.vh b o h
  | some _=>exact h
theorem bx (he:SE C e f):SSt C (.Return (some e) pos) (Dv.sRet f):=by
 obtain⟨t,p,q⟩:=he;refine⟨_,jX p,λ Hv₀ H₀ E σ H st ⟨Hc,O,r⟩ w=>?_⟩;unfold Dv.sRet at w;refine q.all r (λ c hf H' r'=>?_) (λ hf=>?_) λ d fr v Hv' H' hf x r' rp n=>?_
 ·rw[hf] at w;exact w σ H' ⟨Hc,O,r'⟩
 ·rw[hf] at w;exact w
 ·rw[hf] at w
  obtain⟨Hv2,x2,s2⟩:=r.ret x;exact w v Hv2 H' x2 (rp.same s2) λ z=>(n z).same (Hnew.mono r.h0 (.refl _))
theorem eQ (i:Nat){x:Str}(hN:autoParam (C.X.N[i]?=some x) ZE._auto_1)(hv:autoParam (Vis C.X.env.scope x) ZF._auto_1)(hd:autoParam ((x == ("__debug__":Str))=false) ZC._auto_1)
  (hcd:autoParam ((x == ("__classdict__":Str))=false) ZC._auto_1):SSt C (.Return (some (.Name x pos')) pos) (Dv.sRetO i):=by
 refine⟨_,jX (dZ hN hv hd hcd),λ Hv₀ H₀ E σ H st ⟨Hc,O,r⟩ w=>?_⟩;unfold Dv.sRetO at w;obtain⟨Hv2,x2,s2⟩:=r.ret (.refl r.allH);cases hi:st[i]? with
 | none=>rw[hi] at w;exact Zf w
 | some s=>
  rw[hi] at w;cases s with
  | no=>exact Zf w
  | sh d=>
   obtain⟨v,h1,h2⟩:=r.sh i d hi;exact⟨v,h1,w v Hv2 H x2 ((h2.same r.cAll).same s2) λ z=>h2.scal z⟩
  | jk n m=>exact Zf w
  | dp d=>
   obtain⟨v,h1,h2⟩:=r.dp i d hi;exact⟨v,h1,w v Hv2 H x2 ((Rp.frag (h2.same (r.oAll i))).same s2) λ _=>h2.same λ b o h=>by
    unfold Hnew;rw[(r.oh i b o h).2.2];exact(r.oh i b o h).1⟩
  | ow d=>
   obtain⟨a,o,h1,h2,h3⟩:=r.ow i d hi;have rp:Rp C.X.K Hv2 d (.ref a):=by
    obtain⟨v,h6,h7⟩:=r.envAll i d (by unfold Dv.all;rw[vA,hi];rfl);rw[h1] at h6;cases h6;exact h7.same s2
   cases d with
   | lst ds=>
    refine⟨_,h1,w (.ref a) Hv2 H x2 rp λ z=>?_⟩;obtain⟨vs,rfl,h5⟩:=h3;unfold Rp;refine⟨a,vs,rfl,SqX.of ?_,h5.flat z⟩;unfold Hnew;rw[(r.oh i a _ h2).2.2];exact(r.oh i a _ h2).1
   | dct ks ds=>exact⟨_,h1,w (.ref a) Hv2 H x2 rp λ z=>nomatch z⟩
   | _=>exact Zf h3
theorem cw {pa pb:List Stmt}(hc:SC C c f)(ha:SSs C pa F)(hb:SSs C pb G):SSt C (.If c pa pb pos) (Dv.sIf f F G):=by
 obtain⟨tc,pc,qc⟩:=hc;obtain⟨t,p,q⟩:=ha;obtain⟨u,p2,q2⟩:=hb;refine⟨_,ua pc p p2,λ Hv₀ H₀ E σ H st ⟨Hc,O,r⟩ w=>?_⟩;unfold Dv.sIf at w;refine qc σ H (cY Hc O H) (Dv.all st) _ r.envAll r.allH ?_
 cases hf:f (Dv.all st) with
 | bad=>rw[hf] at w;exact w
 | exc c=>rw[hf] at w;exact λ Hv' H' x=>w σ H' ⟨Hc,O,r.grow x.hh x.nf⟩
 | ok d fr=>
  rw[hf] at w;intro v Hv' H' x rp n;cases d with
  | bl b=>
   unfold Rp at rp;refine⟨b,rp,?_⟩;cases b with
   | true=>exact qz (q Hv₀ H₀ E σ H' st ⟨Hc,O,r.grow x.hh x.nf⟩ w)
   | false=>exact qH (q2 Hv₀ H₀ E σ H' st ⟨Hc,O,r.grow x.hh x.nf⟩ w)
  | _=>exact Zf w
theorem kE {t:TE}(q:Tak C t f)(i:Nat){Hv₀ H₀ H:Hp}{σ:St}{st:Dv.St}(r:Rel C.X.K Hv₀ H₀ st σ H)(w:OkS C Hv₀ H₀ E (Dv.sSet i f st)):t σ H λ v H'=>E.nx (σ.set i (some v)) H':=by
 obtain⟨Hc,O,r⟩:=r;unfold Dv.sSet at w;refine q.all r (λ c hf H' r'=>?_) (λ hf=>?_) λ d fr v Hv' H' hf x r' rp n=>?_
 ·rw[hf] at w;exact w σ H' ⟨Hc,O,r'⟩
 ·rw[hf] at w;exact w
 ·rw[hf] at w
  cases d with
  | lst ds=>
   simp only[Dv.keepD] at w;by_cases z:(fr&&Dv.flatL ds)=true
   ·simp only[z,if_true] at w
    rw[vi] at z;have rn:=n z.1;unfold Rp at rn;obtain⟨a,vs,rfl,h1,h2⟩:=rn;have h1':Hnew H H' a=some (.lst vs):=by
     rcases h1 with (h1|⟨o,h1⟩)|⟨its,m,e,_⟩
     ·exact h1
     ·exfalso
      have hn:H a=none:=by
       unfold Hnew at h1;cases q:H a with
       | none=>rfl
       | some u=>rw[q] at h1;cases h1
      exact x.nf a o _ hn (Hnew.sub a _ h1)
     ·simp at e
    have hn:H a=none:=by
     unfold Hnew at h1';cases q:H a with
     | none=>rfl
     | some u=>rw[q] at h1';cases h1'
    refine w _ H' ⟨Hc,_,r'.setOw (Hnew.sub a _ h1') (r.ch.free hn) (r.h0.free hn) (λ j _=>?_) ⟨vs,rfl,h2.flat z.2⟩⟩;cases q:O j a with
    | none=>rfl
    | some u=>have:=(r.oh j a u q).1;rw[hn] at this;cases this
   ·simp only[z] at w
    exact Zf w
  | tup ds=>exact Zf w
  | exn c=>exact Zf w
  | raw _=>exact Zf w
  | ins _ _=>exact Zf w
  | tab _=>exact Zf w
  | dct ks ds=>
   simp only[Dv.keepD] at w;by_cases z:(fr&&ks.isEmpty&&ds.isEmpty)=true
   ·simp only[z,if_true] at w
    simp only[vi,List.isEmpty_iff] at z;obtain⟨⟨z1,z2⟩,z3⟩:=z;subst z2 z3;have rn:=n z1;unfold Rp at rn;obtain⟨a,vs,rfl,_,h1,h2⟩:=rn;unfold RpL at h2;subst h2;have h1':Hnew H H' a=some (.dK []):=by
     rcases h1 with h1|⟨o,h1⟩
     ·exact h1
     ·exfalso
      have hn:H a=none:=by
       unfold Hnew at h1;cases q:H a with
       | none=>rfl
       | some u=>rw[q] at h1;cases h1
      exact x.nf a o _ hn (Hnew.sub a _ h1)
    have hn:H a=none:=by
     unfold Hnew at h1';cases q:H a with
     | none=>rfl
     | some u=>rw[q] at h1';cases h1'
    refine w _ H' ⟨Hc,_,r'.setOw (Hnew.sub a _ h1') (r.ch.free hn) (r.h0.free hn) (λ j _=>?_) ⟨[],rfl,rfl,.nil⟩⟩;cases q:O j a with
    | none=>rfl
    | some u=>have:=(r.oh j a u q).1;rw[hn] at this;cases this
   ·simp only[z] at w
    exact Zf w
  | _=>exact w _ H' ⟨Hc,O,r'.setSh (Rp.scal rfl rp)⟩
theorem ba {i:Nat}{x:Str}(he:SE C e f)(hN:C.X.N.Nodup)(hi:C.X.N[i]?=some x)(hx:Loc C.X.env.scope x)(hs:autoParam (swapsWith e (some (.Name x pos')) pos.line C.X.env=pure false) ZE._auto_1)
  (hf:autoParam (C.X.fn x=true\/C.X.env.scope.names.lookup x=some .local) ZB._auto_1):SSt C (.Assign [.Name x pos'] e pos) (Dv.sSet i f):=by
 obtain⟨t,p,q⟩:=he;exact⟨_,iE hN hi hx p hs hf,λ Hv₀ H₀ E σ H st r w=>kE q i r w⟩
theorem o6 {t:TE}(q:Tak C t f)(is:List Nat)(i:Nat){Hv₀ H₀ H:Hp}{σ:St}{st:Dv.St}(r:Rel C.X.K Hv₀ H₀ st σ H)(w:OkS C Hv₀ H₀ E (Dv.sSetG is i f st)):t σ H λ v H'=>E.nx (σ.set i (some v)) H':=by
 obtain⟨Hc0,O0,r0⟩:=r;obtain⟨Hc,O,_,r⟩:=r0.give is;unfold Dv.sSetG at w;refine q.open r (λ c hf Hc' H' x=>?_) (λ hf=>?_) λ d fr v Hc' H' hf x r' rp=>?_
 ·rw[hf] at w;exact w σ H' ⟨Hc0,O0,r0.grow x.hh x.nf⟩
 ·rw[hf] at w;exact w
 ·rw[hf] at w
  exact w _ H' ⟨Hc',O,r'.setSh rp⟩
theorem aM (is:List Nat){i:Nat}{x:Str}(he:SE C e f)(hN:C.X.N.Nodup)(hi:C.X.N[i]?=some x)(hx:Loc C.X.env.scope x)(hs:autoParam (swapsWith e (some (.Name x pos')) pos.line C.X.env=pure false) ZE._auto_1)
  (hf:autoParam (C.X.fn x=true\/C.X.env.scope.names.lookup x=some .local) ZB._auto_1):SSt C (.Assign [.Name x pos'] e pos) (Dv.sSetG is i f):=by
 obtain⟨t,p,q⟩:=he;exact⟨_,iE hN hi hx p hs hf,λ Hv₀ H₀ E σ H st r w=>o6 q is i r w⟩
theorem RelC.own {Hv₀ H₀ Hc H:Hp}{O:Nat->Hp}{σ:St}{st:Dv.St}{K:yC}{i:Nat}{ds:List D}(r:RelC K Hv₀ H₀ Hc O st σ H)(hi:st[i]?=some (.ow (.lst ds))):
  ∃ a vs,σ[i]?=some (some (.ref a))/\H a=some (.lst vs)/\RpL K Hc ds vs:=by
 obtain⟨a,o,h1,h2,vs,rfl,h3⟩:=r.ow i _ hi;exact⟨a,vs,h1,(r.oh i a _ h2).1,h3⟩
end
section
variable {C:Ctx}{a b c e o k:Expr}{f g h:EE}{fl:EL}{F G:SS}{s:Stmt}{ss:List Stmt}{pos pos':Pos}{E:Ends}
def Wlk (K:yC)(J:It)(Hv:Hp)(ds:List D):Prop:=
 ∀ (i:Nat) (H:Hp),Same Hv H->(∀ d,ds[i]?=some d->J.go i H/\∀ x H',J.yld i H x H'->∃ Hv',Ext Hv H Hv' H'/\Rp K Hv' d x)/\(i=ds.length->J.stop i H)
def OkI (K:yC)(Hv H:Hp)(W:XK)(cls:String->Value)(r:RI)(T:It->Hp->Prop):Prop:=match r with
 | .ok ds _=>∀ J Hv' H',Ext Hv H Hv' H'->Wlk K J Hv' ds->T J H'
 | .exc c=>∀ Hv' H',Ext Hv H Hv' H'->W (cls c) none H'
 | .bad=>False
def SI (C:Ctx)(tg it:Expr)(f:EI):Prop:=
 ∃ wi:TI,PI C.X tg it wi/\∀ σ H Hv ρ T,EnvR C.X.K Hv ρ σ->Same Hv H->OkI C.X.K Hv H (C.W σ) C.cls (f ρ) T->wi σ H T
theorem b8 {tg:Expr}(he:SE C e f):SI C tg e (Dv.iSeq f):=by
 obtain⟨t,p,q⟩:=he;refine⟨_,ip p,λ σ H Hv ρ T er s w=>?_⟩;refine q σ H Hv ρ _ er s ?_
 unfold Dv.iSeq at w;cases hf:f ρ with
 | bad=>rw[hf] at w;exact w
 | exc c=>rw[hf] at w;exact w
 | ok d fr=>
  rw[hf] at w;intro v Hv' H' x rp n;cases d with
  | lst ds=>
   unfold Rp at rp;obtain⟨l,vs,rfl,h1,h2⟩:=rp;refine⟨l,rfl,⟨vs,(h1.same x.vh).seq⟩,w _ Hv' H' x λ i H2 s2=>⟨λ d hd=>?_,λ hi=>?_⟩⟩
   ·obtain⟨u,h3,h4⟩:=h2.get hd
    refine⟨⟨vs,u,(h1.same s2).seq,h3⟩,λ x H3 ⟨e1,hy⟩=>?_⟩;subst e1;have:=hy vs (h1.same s2).seq;rw[h3] at this;cases this;exact⟨Hv',.refl s2,h4⟩
   ·exact⟨vs,(h1.same s2).seq,by rw[h2.length,hi];exact u5 _⟩
  | _=>exact Zf w
theorem lH (lo:Int):∀ (n i:Nat) (d:D),(Dv.rangeL lo n)[i]?=some d->i<n/\d=.int (lo+i):=by
 intro n
 induction n generalizing lo with
 | zero=>intro i d h;simp[Dv.rangeL] at h
 | succ n ih=>
  intro i d h;cases i with
  | zero=>simp[Dv.rangeL] at h;subst h;exact⟨⋯,by simp⟩
  | succ i=>
   simp only[Dv.rangeL,uZ] at h;obtain⟨h1,h2⟩:=ih (lo+1) i d h;exact⟨⋯,by rw[h2];congr 1;omega⟩
theorem lT (lo:Int):∀ n:Nat,(Dv.rangeL lo n).length=n:=by
 intro n
 induction n generalizing lo with
 | zero=>rfl
 | succ n ih=>simp[Dv.rangeL,ih]
theorem gF {K:yC}{Hv:Hp}(lo:Int)(n:Nat):Wlk K (Itr lo n) Hv (Dv.rangeL lo n):=λ i H s=>⟨λ d hd=>by
  obtain⟨h1,rfl⟩:=lH lo n i d hd;refine⟨h1,λ x H' ⟨e1,e2⟩=>?_⟩;subst e1 e2;exact⟨Hv,.refl s,b9⟩,λ hi=>by rw[lT] at hi;subst hi;exact u5 _⟩
theorem nA {j:Int}(h:Dv.rngOk j=true):-(2 ^ 62)<=j/\j<2 ^ 62:=by
 unfold Dv.rngOk at h;simp only[vi,decide_eq_true_eq] at h;omega
theorem da {tg:Expr}{p:Pos}(hg:Gl C.X "range")(hm:C.X.mg "range"=none)(he:SE C e f)(hs:autoParam (starEach [e] C.X.env=[(false,eval e C.X.env)]) ZE._auto_1):
  SI C tg (.Call (.Name "range" p) [e] [] pos) (Dv.iRange f):=by
 obtain⟨t,pe,q⟩:=he;refine⟨_,lQ hg hm (aI pe bj hs) hs,λ σ H Hv ρ T er s w=>?_⟩;refine q σ H Hv ρ _ er s ?_
 unfold Dv.iRange at w;cases hf:f ρ with
 | bad=>rw[hf] at w;exact w
 | exc c=>rw[hf] at w;exact w
 | ok d fr=>
  rw[hf] at w;intro v Hv' H' x rp n;cases d with
  | int j=>
   unfold Rp at rp;subst rp;by_cases hr:Dv.rngOk j=true
   ·simp only[hr,if_true] at w
    obtain⟨h1,h2⟩:=nA hr;exact⟨j,rfl,h1,h2,w _ Hv' H' x (gF 0 j.toNat)⟩
   ·simp only[hr] at w
    exact Zf w
  | _=>exact Zf w
theorem lz {tg:Expr}{p:Pos}(hg:Gl C.X "range")(hm:C.X.mg "range"=none)(he:SE C e f)(hb:SE C b g)(hs:autoParam (starEach [e,b] C.X.env=[(false,eval e C.X.env),(false,eval b C.X.env)]) ZE._auto_1)
  (hs2:autoParam (starEach [b] C.X.env=[(false,eval b C.X.env)]) ZE._auto_1):SI C tg (.Call (.Name "range" p) [e,b] [] pos) (Dv.iRange2 f g):=by
 obtain⟨t,pe,q⟩:=he;obtain⟨t2,pe2,q2⟩:=hb;refine⟨_,lB hg hm (aI pe (aI pe2 bj hs2) (by rw[hs,hs2])) hs hs2,λ σ H Hv ρ T er s w=>?_⟩;refine q σ H Hv ρ _ er s ?_
 unfold Dv.iRange2 at w;cases hf:f ρ with
 | bad=>rw[hf] at w;exact w
 | exc c=>rw[hf] at w;exact w
 | ok d fr=>
  rw[hf] at w;intro v Hv' H' x rp n;cases d with
  | int i=>
   unfold Rp at rp;subst rp;refine q2 σ H' Hv' ρ _ (er.same x.vv) x.vh ?_
   cases hg':g ρ with
   | bad=>simp only[hg'] at w;exact w
   | exc c=>simp only[hg'] at w;exact λ Hv2 H2 y=>w Hv2 H2 (x.trans y)
   | ok d2 fr2=>
    simp only[hg'] at w;intro v2 Hv2 H2 y rp2 n2;cases d2 with
    | int j=>
     unfold Rp at rp2;subst rp2;by_cases hr:(Dv.rngOk i&&Dv.rngOk j)=true
     ·simp only[hr,if_true] at w
      rw[vi] at hr;obtain⟨h1,h2⟩:=nA hr.1;obtain⟨h3,h4⟩:=nA hr.2;exact⟨i,j,rfl,⟨h1,h2,h3,h4⟩,w _ Hv2 H2 (x.trans y) (gF i _)⟩
     ·simp only[hr] at w
      exact Zf w
    | _=>exact Zf w
  | _=>exact Zf w
def SG (C:Ctx)(tg:Expr)(st:D->Dv.St->Option Dv.St):Prop:=
 ∃ g:TG,PG C.X tg g/\∀ Hv₀ H₀ Hc O H σ s s' d v T,RelC C.X.K Hv₀ H₀ Hc O s σ H->Rp C.X.K Hc d v->st d s=some s'->(∀ σ' ,RelC C.X.K Hv₀ H₀ Hc O s' σ' H->T σ' H)->g v σ H T
theorem qu {i:Nat}{x:Str}(hN:C.X.N.Nodup)(hi:C.X.N[i]?=some x)(hx:Loc C.X.env.scope x)(hf:autoParam (C.X.fn x=true\/C.X.env.scope.names.lookup x=some .local) ZB._auto_1):
  SG C (.Name x pos) (λ d s=>some (s.set i (.sh d))):=by
 refine⟨_,bU hN hi hx hf,λ Hv₀ H₀ Hc O H σ s s' d v T r rp e h=>?_⟩;cases e;exact h _ (r.setSh rp)
theorem RelC.self {K:yC}{Hv₀ H₀ Hc H:Hp}{O:Nat->Hp}{st:Dv.St}{σ:St}(r:RelC K Hv₀ H₀ Hc O st σ H):RelC K Hc H₀ Hc O st σ H:=
 ⟨r.h0,.refl _,r.ch,λ b o h n=>(by rw[n] at h;cases h),r.nf,r.len,r.sh,r.ow,r.dp,r.jk,r.oh,r.one⟩
theorem OkS.less {Hv₀ Hc H₀:Hp}{o:Out}(h:OkS C Hv₀ H₀ E o)(vc:Same Hv₀ Hc)(new:∀ b o,Hc b=some o->Hv₀ b=none->H₀ b=none):OkS C Hc H₀ E o:=by
 have rl:∀ {st σ H},Rel C.X.K Hc H₀ st σ H->Rel C.X.K Hv₀ H₀ st σ H:=λ⟨Hd,O,r⟩=>⟨Hd,O,r.less vc new⟩
 cases o with
 | nx st=>exact λ σ H r=>h σ H (rl r)
 | ret d nw=>
  refine λ v Hv' H' x rp n=>h v Hv' H' ⟨x.hh,vc.trans x.vv,x.vh,λ b o q m=>?_,x.all,x.nf⟩ rp n
  cases z:Hc b with
  | some u=>exact new b u z m
  | none=>exact x.new b o q z
 | brk st=>exact λ σ H r=>h σ H (rl r)
 | cont st=>exact λ σ H r=>h σ H (rl r)
 | exc c st=>exact λ σ H r=>h σ H (rl r)
 | bad=>exact h
theorem sk {tgt:D->Dv.St->Option Dv.St}{g:TG}{tb:TS}{J:It}{ds:List D}{Hc H₀ H:Hp}{σ:St}{st:Dv.St}
  (qg:∀ Hv₀ H₀ Hc O H σ s s' d v T,RelC C.X.K Hv₀ H₀ Hc O s σ H->Rp C.X.K Hc d v->tgt d s=some s'->(∀ σ' ,RelC C.X.K Hv₀ H₀ Hc O s' σ' H->T σ' H)->g v σ H T)
  (qb:qL C tb F) (wl:Wlk C.X.K J Hc ds) (r:Rel C.X.K Hc H₀ st σ H) (w:OkS C Hc H₀ E (Dv.forGoT tgt F ds st)):
  ∃ W:Nat->Nat->St->Hp->Prop,(∃ m,W 0 m σ H)/\∀ i m σ H,W i m σ H ->
   (J.stop i H/\E.nx σ H)\/(J.go i H/\∃ N:St->Hp->Prop,(∀ σ' H',N σ' H'->∃ m',m'<m/\W (i+1) m' σ' H')/\∀ x H',J.yld i H x H'->g x σ H' λ σ2 H2=>tb { E with nx:=N,ct:=N,bk:=E.nx } σ2 H2):=by
 refine⟨λ i m σ H=>m=ds.length-i/\i<=ds.length/\∃ st,Rel C.X.K Hc H₀ st σ H/\OkS C Hc H₀ E (Dv.forGoT tgt F (ds.drop i) st),⟨_,rfl,vK _,st,r,w⟩,?_⟩
 rintro i m σ H ⟨rfl,hi,st,⟨Hd,O,r⟩,w⟩
 obtain⟨w1,w2⟩:=wl i H (r.vc.trans r.ch);by_cases hlt:i<ds.length
 ·have hd:ds[i]?=some ds[i]:=by simp[hlt]
  have e1:ds.drop i=ds[i]::ds.drop (i+1):=wb hlt;rw[e1] at w;generalize ds[i]=d at hd e1 w;obtain⟨go,yl⟩:=w1 d hd;refine .inr ⟨go,λ σ' H'=>∃ st,Rel C.X.K Hc H₀ st σ' H'/\OkS C Hc H₀ E (Dv.forGoT tgt F (ds.drop (i+1)) st),λ σ' H' h=>⟨ds.length-(i+1),⋯,rfl,hlt,h⟩,λ x H' hy=>?_⟩;obtain⟨Hv',x1,rp⟩:=yl x H' hy;unfold Dv.forGoT at w;cases ht:tgt d st with
  | none=>simp only[ht] at w;exact Zf w
  | some st1=>
   simp only[ht] at w;have x2:Ext Hd H (λ b=>match H b with|none=>H' b|some _=>Hd b) H':=by
    refine⟨x1.hh,λ b o q=>?_,λ b o q=>?_,λ b o q n=>?_,λ b q=>?_,x1.nf⟩
    ·show (match H b with|none=>H' b|some _=>Hd b)=some o
     cases z:H b with
     | none=>rw[r.ch b o q] at z;cases z
     | some _=>exact q
    ·have q':(match H b with|none=>H' b|some _=>Hd b)=some o:=q
     cases z:H b with
     | none=>rw[z] at q';exact q'
     | some u=>rw[z] at q';exact x1.hh _ _ (r.ch b o q')
    ·have q':(match H b with|none=>H' b|some _=>Hd b)=some o:=q
     cases z:H b with
     | none=>rfl
     | some u=>rw[z] at q';rw[n] at q';cases q'
    ·show (match H b with|none=>H' b|some _=>Hd b)=H' b
     rw[q]
   have r2:=r.growC x2;have sub:Same Hv' (λ b=>match H b with|none=>H' b|some _=>Hd b):=λ b o q=>by
    show (match H b with|none=>H' b|some _=>Hd b)=some o
    cases z:H b with
    | none=>exact x1.vh b o q
    | some u=>
     cases z2:Hc b with
     | none=>have:=x1.new b o q z2;rw[z] at this;cases this
     | some u'=>
      have h1:=x1.vv b u' z2;rw[q] at h1;cases h1;exact r.vc b o z2
   refine qg Hc H₀ _ _ H' σ st st1 d x _ r2 (rp.same sub) ht λ σ2 r3=>?_
   refine qb Hc H₀ _ σ2 H' st1 ⟨_,_,r3⟩ ?_
   cases hb:F st1 with
   | nx st'=>simp only[hb] at w;exact λ σ' H' r'=>⟨st',r',w⟩
   | cont st'=>simp only[hb] at w;exact λ σ' H' r'=>⟨st',r',w⟩
   | brk st'=>simp only[hb] at w;exact w
   | ret d nw=>simp only[hb] at w;exact w
   | exc c st'=>simp only[hb] at w;exact w
   | bad=>simp only[hb] at w;exact w
 ·have e:i=ds.length:=⋯
  refine .inl ⟨w2 e,?_⟩;rw[e,xY] at w;exact w σ H ⟨Hd,O,r⟩
theorem lj (is:List Nat){tg it:Expr}{body:List Stmt}{tgt:D->Dv.St->Option Dv.St}{fi:EI}(hi:SI C tg it fi)(hg:SG C tg tgt)(hb:SSs C body F)(hcalm:autoParam (C.X.calm=true) ZE._auto_1)
  (hs:autoParam (∀ x,foldedSetIterable it C.X.env x=pure x) ZD._auto_1):SSt C (.For tg it body [] pos) (Dv.sForT is tgt fi F):=by
 obtain⟨wi,pi,qi⟩:=hi;obtain⟨g,pg,qg⟩:=hg;obtain⟨tb,pb,qb⟩:=hb;refine⟨_,kg C.own hcalm pi pg pb hs,λ Hv₀ H₀ E σ H st ⟨Hc0,O0,r0⟩ w=>?_⟩;obtain⟨Hc,O,_,r⟩:=r0.give is;unfold Dv.sForT at w;refine qi σ H Hc (Dv.open_ (Dv.give is st)) _ r.envOpen r.ch ?_
 cases hf:fi (Dv.open_ (Dv.give is st)) with
 | bad=>simp only[hf] at w;exact w
 | exc c=>simp only[hf] at w;exact λ Hv' H' x=>w σ H' ⟨Hc0,O0,r0.grow x.hh x.nf⟩
 | ok ds fr=>
  simp only[hf] at w;intro J Hc' H' x wl;have r1:=r.growC x;exact sk qg qb wl ⟨Hc',O,r1.self⟩ (w.less r1.vc r1.new)
theorem iz (x:Nat)(body:SS):∀ (ds:List D) (st:Dv.St),Dv.forGoT (λ d s=>some (s.set x (.sh d))) body ds st=Dv.forGo x body ds st
 | [],st=>rfl
 | d::r,st=>by
  unfold Dv.forGoT Dv.forGo;cases h:body (st.set x (.sh d)) with
  | nx st'=>simp only[h];exact iz x body r st'
  | cont st'=>simp only[h];exact iz x body r st'
  | _=>simp only[h]
theorem fA (is:List Nat){i:Nat}{x:Str}{it:Expr}{body:List Stmt}{fi:EI}(hi:SI C (.Name x pos') it fi)(hb:SSs C body F)(hN:C.X.N.Nodup)(hn:C.X.N[i]?=some x)(hx:Loc C.X.env.scope x)
  (hf:autoParam (C.X.fn x=true\/C.X.env.scope.names.lookup x=some .local) ZB._auto_1) (hs:autoParam (∀ x,foldedSetIterable it C.X.env x=pure x) ZD._auto_1) (hcalm:autoParam (C.X.calm=true) ZE._auto_1):
  SSt C (.For (.Name x pos') it body [] pos) (Dv.sFor is i fi F):=by
 obtain⟨t,p,q⟩:=lj (pos:=pos) is hi (qu (pos:=pos') hN hn hx hf) hb hcalm hs;refine⟨t,p,λ Hv₀ H₀ E σ H st r w=>q Hv₀ H₀ E σ H st r ?_⟩;unfold Dv.sForT;unfold Dv.sFor at w;cases hf:fi (Dv.open_ (Dv.give is st)) with
 | bad=>simp only[hf] at w ⊢;exact w
 | exc c=>simp only[hf] at w ⊢;exact w
 | ok ds fr=>simp only[hf] at w ⊢;rw[iz];exact w
theorem mJ (n:Nat){body:List Stmt}(hc:SC C c f)(hb:SSs C body F):SSt C (.While c body [] pos) (Dv.sWhile n f F):=by
 obtain⟨tc,pc,qc⟩:=hc;obtain⟨tb,pb,qb⟩:=hb;refine⟨_,oM C.own pc pb,λ Hv₀ H₀ E σ H st r w=>?_⟩;refine⟨λ m σ H=>∃ st,Rel C.X.K Hv₀ H₀ st σ H/\OkS C Hv₀ H₀ E (Dv.whileGo f F m st),⟨n,st,r,w⟩,?_⟩
 rintro m σ H ⟨st,⟨Hc,O,r⟩,w⟩
 cases m with
 | zero=>exact Zf w
 | succ m=>
  unfold Dv.whileGo at w;refine qc σ H (cY Hc O H) (Dv.all st) _ r.envAll r.allH ?_
  cases hf:f (Dv.all st) with
  | bad=>simp only[hf] at w;exact w
  | exc c=>simp only[hf] at w;exact λ Hv' H' x=>w σ H' ⟨Hc,O,r.grow x.hh x.nf⟩
  | ok d fr=>
   intro v Hv' H' x rp nn;cases d with
   | bl b=>
    unfold Rp at rp;refine⟨b,rp,?_⟩;cases b with
    | true=>
     simp only[hf] at w;refine qz ⟨λ σ' H'=>∃ st,Rel C.X.K Hv₀ H₀ st σ' H'/\OkS C Hv₀ H₀ E (Dv.whileGo f F m st),λ σ' H' h=>⟨m,vZ m,h⟩,?_⟩;refine qb Hv₀ H₀ _ σ H' st ⟨Hc,O,r.grow x.hh x.nf⟩ ?_
     cases hb:F st with
     | nx st'=>simp only[hb] at w;exact λ σ' H' r'=>⟨st',r',w⟩
     | cont st'=>simp only[hb] at w;exact λ σ' H' r'=>⟨st',r',w⟩
     | brk st'=>simp only[hb] at w;exact w
     | ret d nw=>simp only[hb] at w;exact w
     | exc c st'=>simp only[hb] at w;exact w
     | bad=>simp only[hb] at w;exact w
    | false=>
     simp only[hf] at w;exact qH (w σ H' ⟨Hc,O,r.grow x.hh x.nf⟩)
   | _=>simp only[hf] at w;exact Zf w
def spD (K:yC)(cls:String->Value)(F:List D->R)(n:Nat):Sp:=λ vs H Q E=>∃ ds Hv,ds.length=n/\Same Hv H/\RpL K Hv ds vs/\Ok K Hv H E cls (F ds) Q
theorem qE {K:yC}{cls:String->Value}{F:List D->R}{n:Nat}{vs:List V}{H:Hp}{Q:VK}{E:XK}(h:spD K cls F n vs H Q E):vs.length=n:=by
 obtain⟨ds,Hv,h1,_,h2,_⟩:=h;rw[h2.length,h1]
theorem mD {N:List Str}{vs:List V}{i:Nat}{v:V}(h:vs[i]?=some v):(L2.start N vs)[i]?=some (some v):=by
 have hl:i<vs.length:=(List.getElem?_eq_some_iff.mp h).1;unfold L2.start;rw[vz (by simpa using hl),vA,h];rfl
theorem lO {K:yC}{Hv H:Hp}{ds:List D}{vs:List V}{N:List Str}(s:Same Hv H)(rp:RpL K Hv ds vs)(hN:ds.length<=N.length):
  RelC K Hv H Hv (λ _ _=>none) (ds.map Sl.sh++List.replicate (N.length-ds.length) Sl.no) (L2.start N vs) H:=by
 have hl:=rp.length;have get:∀ {i:Nat} {x:Sl},(ds.map Sl.sh++List.replicate (N.length-ds.length) Sl.no)[i]?=some x->(∃ d,x=.sh d/\ds[i]?=some d)\/x=.no:=λ {i x} h=>by
  by_cases hi:i<ds.length
  ·rw[vz (by simpa using hi),vA] at h
   cases q:ds[i]? with
   | none=>rw[q] at h;cases h
   | some d=>rw[q] at h;cases h;exact .inl ⟨d,rfl,rfl⟩
  ·rw[vE (by simpa using hi),wH] at h
   split at h
   ·cases h;exact .inr rfl
   ·cases h
 refine⟨.refl _,.refl _,s,λ b o h n=>(by rw[n] at h;cases h),λ b o u h=>(by rw[h];intro z;cases z),?_,λ i d h=>?_,λ i d h=>?_,λ i d h=>?_,λ i n m h=>?_,(λ i b o h=>nomatch h),(λ i j b o o' h=>nomatch h)⟩
 ·unfold L2.start
  simp only[vd,uR,wj];omega
 ·rcases get h with ⟨d',e,h2⟩|e
  ·cases e
   obtain⟨v,h3,h4⟩:=rp.get h2;exact⟨v,mD h3,h4⟩
  ·cases e
 ·rcases get h with ⟨d',e,_⟩|e <;>cases e
 ·rcases get h with ⟨d',e,_⟩|e <;>cases e
 ·rcases get h with ⟨d',e,_⟩|e <;>cases e
theorem sZ {Hv H:Hp}{ds:List D}{Q:VK}{W:XK}{n:Nat}{body:SS}(hW:C.W=λ _=>W)(h:Ok C.X.K Hv H W C.cls (Dv.fn n body ds) Q):
  OkS C Hv H { nx:=λ _ H'=>Q .non H',rt:=Q } (body (ds.map Sl.sh++List.replicate (n-ds.length) Sl.no)):=by
 unfold Dv.fn at h;have ext:∀ {st σ' H'},Rel C.X.K Hv H st σ' H'->∃ Hv2,Ext Hv H Hv2 H':=λ {st σ' H'} ⟨Hc,O,r⟩=>by
  obtain⟨Hv2,x,_⟩:=r.ret (.refl r.allH);exact⟨Hv2,x⟩
 cases hb:body (ds.map Sl.sh++List.replicate (n-ds.length) Sl.no) with
 | nx st=>
  simp only[hb] at h;intro σ' H' r;obtain⟨Hv2,x⟩:=ext r;exact h .non Hv2 H' x mW λ _=>mW
 | ret d nw=>simp only[hb] at h;exact λ v Hv' H' x rp nn=>h v Hv' H' x rp nn
 | brk st=>simp only[hb] at h;exact Zf h
 | cont st=>simp only[hb] at h;exact Zf h
 | exc c st=>
  simp only[hb] at h;intro σ' H' r;obtain⟨Hv2,x⟩:=ext r;rw[hW];exact h Hv2 H' x
 | bad=>simp only[hb] at h;exact Zf h
end
structure CXok (P:Program)(w:World)(CX:CXT):Prop where
 no:∀ (outer:List za) (H:Hp) (s:Shared) (e:Value) (s':Shared),CX outer H s (λ _ _ _=>False) e s'->False
 leave:∀ (K:yC) (mg:Str->Option Value) (base:Heap) (N:List Str) (qual:Str) (scope:Scope) (f:Addr) (cd:Value) (A:Around) (outer:List za) (s:Shared) (H:Hp) (E:XK)
  (pins:List (Addr×Obj)) (σ:St) (H1:Hp) (s1:Shared) (e:Value) (s':Shared),Inv (bR CX P w K mg base N qual scope f cd A outer s H E) pins σ H1 s1 ->
  CX (bR CX P w K mg base N qual scope f cd A outer s H E).stack H1 s1 E e s'->(bR CX P w K mg base N qual scope f cd A outer s H E).xe e s'
section
variable {P:Program}{w:World}{K:yC}{mg:Str->Option Value}{base:Heap}{CX:CXT}
def fO {P:Program}{w:World}(hC:CXok P w CX)(cls:String->Value)(K:yC)(mg:Str->Option Value)(base:Heap)(N:List Str)(qual:Str)(scope:Scope)(f:Addr)(cd:Value)(A:Around)(outer:List za)(s:Shared)(H:Hp)(E:XK)
  {k:Nat} (hr:Room k (A.deeper (envOfC qual scope s.heap.objs.size f cd))):Ctx where
 X:=bR CX P w K mg base N qual scope f cd A outer s H E
 W:=λ _=>E
 cls:=cls
 CX:=CX
 un:=hr.units
 own:=Ba
 pass:=λ pins σ H1 s1 e s' I h=>hC.leave K mg base N qual scope f cd A outer s H E pins σ H1 s1 e s' I h
 cxF:=hC.no
theorem um (hC:CXok P w CX)(cls:String->Value){x qual:Str}{st:Stmt}{f:Addr}{N ps:List Str}{k:Nat}{body:SS}(oc:Value)(od:Option Addr)(dV kV doc pm:Value)(an:Option Addr)(cdv ct:Value)(osl:Array (Option Value))
  (lk:K.lookup f=some ⟨oc,od,.func (zf x qual (bf st) (aN st) (ah st) dV kV doc pm an cdv ct),osl⟩) (hcd:zH K cdv qual=true) (S:FnScope N ps (ah st))
  (hbody:∀ (A:Around) (outer:List za) (s:Shared) (H:Hp) (E:XK) (hr:Room k (A.deeper (envOfC qual (ah st) s.heap.objs.size f cdv))),
   SSs (fO hC cls K mg base N qual (ah st) f cdv A outer s H E hr) (aN st) body):
  FnOk P w K mg base CX (k+1) f (zf x qual (bf st) (aN st) (ah st) dV kV doc pm an cdv ct) ps (spD K cls (Dv.fn N.length body) ps.length):=by
 refine rm lk hcd S (λ vs H Q E h=>qE h) λ A outer s H vs Q E hr h=>?_
 obtain⟨ds,Hv,hl,sv,rp,ok⟩:=h;obtain⟨t,p,q⟩:=hbody A outer s H E hr;have hpl:ps.length<=N.length:=by
  have:=congrArg List.length S.pre;rw[vG] at this;omega
 exact⟨t,p,q Hv H _ (L2.start N vs) H _ ⟨Hv,_,lO sv rp ⋯⟩ (sZ (C:=fO hC cls K mg base N qual (ah st) f cdv A outer s H E hr) rfl ok)⟩
end
section
variable {C:Ctx}{a b c e o:Expr}{es:List Expr}{f g h:EE}{fl:EL}{F G:SS}{pos pos':Pos}{E:Ends}
theorem o5 {X:Cx}{CX:CXT}{W:St->XK}{k:Nat}{fa:Addr}{fd:FuncData}{ps:List Str}{sp:Sp}{dvs:List V}{ds:List Value}{x:Str}{p:Pos}{t:TA}(Fn:FnOk X.prog X.w X.K X.mg X.base CX k fa fd ps sp)(hr:Room k X.A)(hg:Gl X x)(hm:X.mg x=some (.ref fa))(hk:zI X.K (.ref fa)=true)
  (hb:Binds X.K fd ps ds) (hd:Vals dvs ds) (hx:∀ (pins:List (Addr×Obj)) (σ:St) (H:Hp) (s:Shared) (e:Value) (s':Shared),Inv X pins σ H s->CX X.stack H s (W σ) e s'->X.xe e s')
  (ha:PA X (e::es) t) (hdb:(x == ("__debug__":Str))=false) (he:starEach (e::es) X.env=(false,eval e X.env)::starEach es X.env) (hpl:(backTo pos (starEach es X.env)).any (·.1)=false):
  PE X (.Call (.Name x p) (e::es) [] pos) (λ σ H Q=>t σ H λ vs H1=>sp (vs++dvs) H1 Q (W σ)):=by
 intro pins s σ H Q I h;refine zb (kH I hg hm ?_ hdb);refine PySem.W.callWith_K (h₀:=X.base) I.ok.mod.kin hk (thn (ha pos pins s σ H _ I h) λ us s1 ⟨vs,H1,I1,r,q⟩=>⟨I1.kIn,?_⟩) he hpl;have r2:Vals (vs++dvs) (us++ds):=r.append hd;have hl:(us++ds).length=ps.length:=by rw[<- r2.length];exact Fn.len _ _ _ _ q
 refine wpAny_call (AJ (Fn.run X.A X.stack s1 H1 ⟨us,[]⟩ (us++ds) (vs++dvs) Q (W σ) hr I1.env0 (hb s1 us I1.kIn hl) r2 q) λ rr s' hq=>?_);cases rr with
 | error e=>exact hx pins σ H1 s1 e s' I1 hq
 | ok fl=>
  cases fl with
  | ret u=>exact I1.after hq
  | next=>exact zx hq
  | brk=>exact zx hq
  | cont=>exact zx hq
theorem pT {k j:Nat}{fa:Addr}{fd:FuncData}{ps:List Str}{Fm:List D->R}{dds:List D}{dvs:List V}{dus:List Value}{x:Str}{p:Pos}(Fn:FnOk C.X.prog C.X.w C.X.K C.X.mg C.X.base C.CX j fa fd ps (spD C.X.K C.cls Fm ps.length))(hr:Room k C.X.A)(hj:j<=k)
  (hg:Gl C.X x) (hm:C.X.mg x=some (.ref fa)) (hk:zI C.X.K (.ref fa)=true) (hb:Binds C.X.K fd ps dus) (hd:Vals dvs dus) (hdd:∀ K H,RpL K H dds dvs) (ha:SL C (e::es) fl) (hlen:autoParam ((e::es).length+dds.length=ps.length) ZE._auto_1)
  (hdb:autoParam ((x == ("__debug__":Str))=false) ZC._auto_1) (he:autoParam (starEach (e::es) C.X.env=(false,eval e C.X.env)::starEach es C.X.env) ZE._auto_1) (hpl:autoParam ((backTo pos (starEach es C.X.env)).any (·.1)=false) ZE._auto_1):
  SE C (.Call (.Name x p) (e::es) [] pos) (Dv.eCall (λ ds=>Fm (ds++dds)) fl):=by
 obtain⟨t,pa,qa,hl⟩:=ha;refine⟨_,o5 (W:=C.W) (Fn.mono hj) hr hg hm hk hb hd C.pass pa hdb he hpl,λ σ H Hv ρ Q er s w=>?_⟩;refine qa.step er (.refl s) w λ vs ds fr Hv1 H1 hf x1 _ rp _ w1=>?_
 refine⟨ds++dds,Hv1,?_,x1.vh,rp.append (hdd _ _),Ok.later x1 w1⟩;rw[vd,hl ρ ds fr hf];exact hlen
def aV (X:Cx)(N:List Str)(scope:Scope)(cl:List (Str×Addr))(L:Addr)(s₀:Shared)(H₀:Hp)(ex:List Addr):Cx:=
 { X with N:=N,s₀:=s₀,H₀:=H₀,env:=compEnvC scope cl L X.env,outer:=X.stack,ex:=ex,fn:=λ _=>false,pn:=[],xe:=λ _ _=>False }
def aP (C:Ctx)(N:List Str)(scope:Scope)(cl:List (Str×Addr))(L:Addr)(s₀:Shared)(H₀:Hp)(ex:List Addr):Ctx where
 X:=aV C.X N scope cl L s₀ H₀ ex
 W:=λ _ _ _ _=>False
 cls:=C.cls
 CX:=C.CX
 un:=C.un
 own:=PassesOwn.never
 pass:=λ _ _ _ _ _ _ _ h=>C.cxF _ _ _ _ _ h
 cxF:=C.cxF
theorem c9 {env:za}:∀ (names:List (Str×NameKind)) (acc:List (Str×Addr)),(∀ y∈names,y.2=.free->∃ c,env.cells.lookup y.1=some c) ->
  ∃ cl,(forIn names acc λ (x:Str×NameKind) (cs:List (Str×Addr))=>(if (x.2 == .free)=true then do let a <- cellOf env x.1;pure (zP ((x.1,a)::cs)) else pure (zP cs):Sem (ForInStep (List (Str×Addr)))))=pure cl /\
   (∀ x c,cl.lookup x=some c->acc.lookup x=some c\/env.cells.lookup x=some c)/\(∀ y∈names,y.2=.free->∃ c,cl.lookup y.1=some c)/\(∀ x c,acc.lookup x=some c->∃ c',cl.lookup x=some c')
 | [],acc,_=>⟨acc,rfl,λ _ _ h=>.inl h,(λ _ h=>nomatch h),λ x c h=>⟨c,h⟩⟩
 | (n,k)::r,acc,h=>by
  simp only[List.forIn_cons];by_cases hk:(k == zq)=true
  ·obtain⟨c,hc⟩:=h (n,k) uY (by simpa using hk)
   obtain⟨cl,e,h1,h2,h3⟩:=c9 r ((n,c)::acc) λ y hy=>h y (uU _ hy)
   refine⟨cl,?_,λ x d hx=>?_,λ y hy hf=>?_,λ x d hx=>?_⟩
   ·simp only[hk,if_true]
    have e2:cellOf env n=pure c:=by unfold cellOf;rw[hc]
    rw[e2];exact e
   ·rcases h1 x d hx with q|q
    ·rw[vx] at q
     cases z:x == n with
     | true=>
      rw[z] at q;have:x=n:=by simpa using z
      subst this;cases q;exact .inr hc
     | false=>rw[z] at q;exact .inl q
    ·exact .inr q
   ·rcases List.mem_cons.mp hy with rfl|hy
    ·exact h3 n c (by simp[vx])
    ·exact h2 y hy hf
   ·by_cases z:(x == n)=true
    ·exact h3 x c (by simp[vx,z])
    ·exact h3 x d (by rw[vx];simp only[Bool.not_eq_true] at z;rw[z];exact hx)
  ·obtain⟨cl,e,h1,h2,h3⟩:=c9 r acc λ y hy=>h y (uU _ hy)
   refine⟨cl,?_,h1,λ y hy hf=>?_,h3⟩
   ·simp only[hk]
    exact e
   ·rcases List.mem_cons.mp hy with rfl|hy
    ·exact absurd (by simpa using hf) hk
    ·exact h2 y hy hf
theorem jS {env:za}{scope:Scope}(h:∀ y∈scope.names,y.2=.free->∃ c,env.cells.lookup y.1=some c):
  ∃ cl,closureFor scope env=pure cl/\(∀ x c,cl.lookup x=some c->env.cells.lookup x=some c)/\∀ y∈scope.names,y.2=.free->∃ c,cl.lookup y.1=some c:=by
 obtain⟨cl,e,h1,h2,_⟩:=c9 scope.names [] h;refine⟨cl,?_,λ x c hx=>?_,h2⟩
 ·unfold closureFor
  exact(congrArg (λ m:Sem (List (Str×Addr))=>m >>= λ s=>pure s) e).trans rfl
 ·rcases h1 x c hx with q|q
  ·simp at q
  ·exact q
end
theorem kh {prog:Program}{w:World}{A:Around}{T:Result->Shared->Prop}{s:Shared}{elt target iter:Expr}{ifs:List Expr}{scope:Scope}{pos:Pos}{it acc:Value}{env:za}(J:Nat->Shared->Prop)
  (turn:∀ n s,J n s->wpAny (model prog w) A (pyNext it) (λ r s1=>match r with
   | none=>T (.ok .next) s1
   | some v=>wpAny (model prog w) A (letOwnedTupleGo target it v) (λ _ s2=>wpAny (model prog w) A (assign target env v) (λ _ s3=>
     wpAny (model prog w) A (forIn ifs true λ c r=>if r=true then do let ok <- isTrue c env (eval c env);pure (zP ok) else pure (zP r)) (λ ok s4=>
      if ok=true then wpAny (model prog w) A (eval elt env) (λ x s5=>wpAny (model prog w) A (call (.builtin "list.append") [acc,x]) (λ _ s6=>∃ m,m<n/\J m s6) (λ _ _=>False) s5) (λ _ _=>False) s4
      else ∃ m,m<n/\J m s4) (λ _ _=>False) s3) (λ _ _=>False) s2) (λ _ _=>False) s1) (λ _ _=>False) s)
  (n:Nat) (h:J n s):codeAny (model prog w) A (.compLoop (.ListComp elt [⟨target,iter,ifs,0⟩] scope pos) 0 it acc env) T s:=by
 refine codeAny_loop rfl J (λ n s hJ=>?_) n h;show wpAny _ A ((compTurn (.ListComp elt [⟨target,iter,ifs,0⟩] scope pos) 0 it acc env).onRaise (λ x=>do noteFrame x env;theTreesLotGoes x)) _ _ s
 refine wpAny_noted ?_
 rw[compTurn_list];refine yB (A3 (yB (yT (turn n s hJ) (λ r s1 h1=>?_) λ _ _ z=>z.elim)));cases r with
 | none=>exact yD h1
 | some v=>
  refine yB (yT h1 (λ _ s2 h2=>yB (yT h2 (λ _ s3 h3=>yB (yT h3 (λ ok s4 h4=>?_) λ _ _ z=>z.elim)) λ _ _ z=>z.elim)) λ _ _ z=>z.elim);cases ok with
  | false=>exact yD ⟨rfl,h4⟩
  | true=>
   refine yB (yB (yT h4 (λ x s5 h5=>yB (yT h5 (λ _ s6 h6=>?_) λ _ _ z=>z.elim)) λ _ _ z=>z.elim));exact yD (yD ⟨rfl,h6⟩)
theorem dD {env:za}:∀ {names:List (Str×NameKind)} {x:Str},names.lookup x=some .free ->
  (names.map λ (n,k)=>if (k == zq&&env.scope.kind == .function&&env.kindOf n == some .cell) then (n,BQ) else (n,k)).lookup x=some .cell \/
  (names.map λ (n,k)=>if (k == zq&&env.scope.kind == .function&&env.kindOf n == some .cell) then (n,BQ) else (n,k)).lookup x=some .free
 | [],_,h=>by simp at h
 | (n,k)::r,x,h=>by
  have ih:=@dD env r x;simp only[uS];cases hx:x == n with
  | true=>
   simp only[vx,hx] at h;cases h;by_cases hc:(zq == zq&&env.scope.kind == .function&&env.kindOf n == some .cell)=true
   ·rw[if_pos hc];left;simp[vx,hx]
   ·rw[if_neg hc];right;simp[vx,hx]
  | false=>
   simp only[vx,hx] at h;by_cases hc:(k == zq&&env.scope.kind == .function&&env.kindOf n == some .cell)=true
   ·rw[if_pos hc];simp only[vx,hx];exact ih h
   ·rw[if_neg hc];simp only[vx,hx];exact ih h
theorem cX {env:za}:∀ {names:List (Str×NameKind)} {x:Str} {kd:NameKind},(∀ y∈names,y.2≠.cell)->kd=.cell\/kd=.free ->
  (names.map λ (n,k)=>if (k == zq&&env.scope.kind == .function&&env.kindOf n == some .cell) then (n,BQ) else (n,k)).lookup x=some kd->(x,zq)∈names
 | [],_,_,_,_,h=>by simp at h
 | (n,k)::r,x,kd,nc,hk,h=>by
  have ih:=@cX env r x kd (λ y hy=>nc y (uU _ hy)) hk;simp only[uS] at h;cases hx:x == n with
  | true=>
   have e:x=n:=by simpa using hx
   subst e;by_cases hc:(k == zq&&env.scope.kind == .function&&env.kindOf x == some .cell)=true
   ·have:k=.free:=by
     simp only[vi,beq_iff_eq] at hc;exact hc.1.1
    subst this;exact uY
   ·rw[if_neg hc] at h
    simp only[vx,hx] at h;have e2:k=kd:=by simpa using h
    subst e2
    rcases hk with rfl|rfl
    ·exact absurd rfl (nc (x,.cell) uY)
    ·exact uY
  | false=>
   refine uU _ (ih ?_);by_cases hc:(k == zq&&env.scope.kind == .function&&env.kindOf n == some .cell)=true
   ·rw[if_pos hc] at h;simp only[vx,hx] at h;exact h
   ·rw[if_neg hc] at h;simp only[vx,hx] at h;exact h
theorem mem_lookup {α β:Type}[BEq α][LawfulBEq α]:∀ {l:List (α×β)} {x:α} {y:β},l.lookup x=some y->(x,y)∈l
 | [],_,_,h=>by simp at h
 | (a,b)::r,x,y,h=>by
  rw[vx] at h;cases hx:x == a with
  | true=>
   rw[hx] at h;have e:x=a:=by simpa using hx
   subst e;cases h;exact uY
  | false=>rw[hx] at h;exact uU _ (mem_lookup h)
def STs (C:Ctx)(ifs:List Expr)(f:EE):Prop:=
 ∃ t:TT,(∀ (pins:List (Addr×Obj)) (s:Shared) (σ:St) (H:Hp) (Q:Bool->Hp->Prop),Inv C.X pins σ H s->t σ H Q ->
  wpAny (model C.X.prog C.X.w) C.X.A (forIn ifs true λ c r=>if r=true then do let ok <- isTrue c C.X.env (eval c C.X.env);pure (zP ok) else pure (zP r)) (TP C.X pins σ Q) C.X.xe s)/\TakC C t f
theorem hZ {C:Ctx}:STs C [] (Dv.eBl true):=
 ⟨λ _ H Q=>Q true H,λ pins s σ H Q I h=>wpAny_tests_nil ⟨H,I,h⟩,λ σ H Hv ρ Q e s q=>by
  obtain⟨b,e1,q⟩:=q.now (v:=.bl true) s fR rfl;cases e1;exact q⟩
theorem mM {C:Ctx}{c:Expr}{f:EE}(h:SC C c f):STs C [c] f:=by
 obtain⟨t,p,q⟩:=h;exact⟨t,λ pins s σ H Q I h=>wpAny_tests_one (p pins s σ H Q I h),q⟩
theorem mG {P:Program}{w:World}{H:Hp}{h:Heap}{a:Addr}{o:HO}(x:HOk P w H h)(hn:H a=none)(new:ObjOk P w (upd H a o) h a o):HOk P w (upd H a o) h:=λ b u e=>by
 by_cases hb:b=a
 ·subst hb;rw[av] at e;cases e;exact new
 ·rw[ao hb] at e
  exact(x b u e).stay (λ c v _ q=>q) (λ c q=>by rw[ao (ay q hn)];exact q) λ c xs q=>by rw[ao (ay q hn)];exact q
theorem qx {P:Program}{w:World}{H:Hp}{h h':Heap}{a:Addr}(x:HOk P w H h)(hn:H a=none)(k:∀ b o,b≠a->h.get? b=some o->h'.get? b=some o):HOk P w H h':=λ b u e=>by
 refine(x b u e).stay (λ c v hc q=>k c v ?_ q) (λ c q=>q) λ c xs q=>q
 rcases hc with rfl|hc
 ·exact ay e hn
 ·exact ay hc hn
section
variable {C:Ctx}
theorem oO {ρ:Dv.Env}{is:List Nat}{j:Nat}{d:D}(h:(Dv.pick ρ is)[j]?=some (some d)):∃ i,is[j]?=some i/\ρ[i]?=some (some d):=by
 unfold Dv.pick at h;rw[vA] at h;cases q:is[j]? with
 | none=>rw[q] at h;cases h
 | some i=>
  rw[q] at h;have h':(ρ[i]?).getD none=some d:=Option.some.inj h;refine⟨i,rfl,?_⟩;cases z:ρ[i]? with
  | none=>rw[z] at h';cases h'
  | some o=>rw[z] at h';exact congrArg some h'
def bG (σ:St)(is:List Nat):St:=is.map λ i=>(σ[i]?).getD none
theorem me {σ:St}{is:List Nat}{j i:Nat}{v:V}(hi:is[j]?=some i)(h:σ[i]?=some (some v)):(bG σ is)[j]?=some (some v):=by
 unfold bG;rw[vA,hi];show some ((σ[i]?).getD none)=_
 rw[h];rfl
theorem oy {σ:St}{is:List Nat}{j:Nat}{v:V}(h:(bG σ is)[j]?=some (some v)):∃ i,is[j]?=some i/\σ[i]?=some (some v):=by
 unfold bG at h;rw[vA] at h;cases q:is[j]? with
 | none=>rw[q] at h;cases h
 | some i=>
  rw[q] at h;have h':(σ[i]?).getD none=some v:=Option.some.inj h;refine⟨i,rfl,?_⟩;cases z:σ[i]? with
  | none=>rw[z] at h';cases h'
  | some o=>rw[z] at h';exact congrArg some h'
end
theorem l7 {Hv1 H1 Hvn Hn Hv' H':Hp}(x:Ext Hv1 H1 Hvn Hn)(y:Ext Hv1 Hn Hv' H'):∃ Hvm,Ext Hvn Hn Hvm H'/\Same Hv' Hvm:=by
 refine⟨λ b=>match Hn b with|none=>H' b|some _=>Hvn b,⟨y.hh,λ b o q=>?_,λ b o q=>?_,λ b o q n=>?_,λ b q=>?_,y.nf⟩,λ b o q=>?_⟩
 ·show (match Hn b with|none=>H' b|some _=>Hvn b)=some o
  cases z:Hn b with
  | none=>rw[x.vh b o q] at z;cases z
  | some _=>exact q
 ·have q':(match Hn b with|none=>H' b|some _=>Hvn b)=some o:=q
  cases z:Hn b with
  | none=>rw[z] at q';exact q'
  | some u=>rw[z] at q';exact y.hh _ _ (x.vh b o q')
 ·have q':(match Hn b with|none=>H' b|some _=>Hvn b)=some o:=q
  cases z:Hn b with
  | none=>rfl
  | some u=>rw[z] at q';rw[n] at q';cases q'
 ·show (match Hn b with|none=>H' b|some _=>Hvn b)=H' b
  rw[q]
 ·show (match Hn b with|none=>H' b|some _=>Hvn b)=some o
  cases z:Hn b with
  | none=>exact y.vh b o q
  | some u=>
   cases z2:Hv1 b with
   | none=>have:=y.new b o q z2;rw[z] at this;cases this
   | some u'=>
    have h1:=y.vv b u' z2;rw[q] at h1;cases h1;exact x.vv b o z2
section
variable {C:Ctx}{elt iter:Expr}{x:Str}{px pos:Pos}{ifs:List Expr}{scope:Scope}{fs:List Str}{is:List Nat}{fi:EI}{fe fc:EE}
def kR (C:Ctx)(pins:List (Addr×Obj))(σ:St)(Q:VK)(Da L:Addr)(s5:Shared):Prop:=
 (∃ m,s5.heap.Ns L m)/\L≠C.X.env.locals/\(∀ x c,C.X.env.cells.lookup x=some c->c≠L)/\C.X.s₀.heap.objs.size<=L/\(∀ p∈C.X.pn++pins,p.1≠L) /\
  ∃ H',H' L=none/\Q (.ref Da) H'/\∀ h',(∀ b,b≠L->h'.get? b=s5.heap.get? b)->Inv C.X pins σ H' { s5 with heap:=h' }
end
section
variable {C:Ctx}{a b c e o k:Expr}{es:List Expr}{f g h:EE}{fl:EL}{F G:SS}{pos pos':Pos}{E:Ends}
theorem lx (n d:Nat)(o:Option Int):Dv.cutI n d o=HT.sIx n d o:=by cases o <;>rfl
theorem RpL.drop {K:yC}{H:Hp}:∀ {ds:List D} {vs:List V} (n:Nat),RpL K H ds vs->RpL K H (ds.drop n) (vs.drop n)
 | _,_,0,h=>h
 | [],_,n+1,h=>by unfold RpL at h;subst h;exact .nil
 | d::r,vs,n+1,h=>by
  unfold RpL at h;obtain⟨v,ws,rfl,_,h3⟩:=h;exact RpL.drop n h3
theorem RpL.take {K:yC}{H:Hp}:∀ {ds:List D} {vs:List V} (n:Nat),RpL K H ds vs->RpL K H (ds.take n) (vs.take n)
 | _,_,0,_=>.nil
 | [],_,n+1,h=>by unfold RpL at h;subst h;exact .nil
 | d::r,vs,n+1,h=>by
  unfold RpL at h;obtain⟨v,ws,rfl,h2,h3⟩:=h;exact .cons h2 (RpL.take n h3)
theorem RpL.cut {K:yC}{H:Hp}{ds:List D}{vs:List V}(h:RpL K H ds vs)(lo hi:Option Int):RpL K H (Dv.cutL ds lo hi) (lC vs lo hi):=by
 unfold Dv.cutL lC;rw[h.length,lx,lx];exact(h.drop _).take _
def SO (C:Ctx)(e:Option Expr)(f:Option EE):Prop:=
 ∃ t:TO,PO C.X e t/\∀ σ H Hv ρ (Q:VK) (T:Option Int->Hp->Prop) (k:Option Int->R) Hv1 H1,EnvR C.X.K Hv ρ σ->Ext Hv H Hv1 H1->Ok C.X.K Hv H (C.W σ) C.cls (Dv.ePart f ρ k) Q ->
  (∀ i Hv2 H2,Ext Hv H Hv2 H2->Ext Hv1 H1 Hv2 H2->Ok C.X.K Hv H (C.W σ) C.cls (k i) Q->T i H2)->t σ H1 T
theorem kT:SO C none none:=⟨_,qF,λ σ H Hv ρ Q T k Hv1 H1 e x q n=>n none Hv1 H1 x (.refl x.vh) q⟩
theorem kB (he:SE C e f):SO C (some e) (some f):=by
 obtain⟨t,p,q⟩:=he;refine⟨_,pj p,λ σ H Hv ρ Q T k Hv1 H1 er x w n=>?_⟩;refine Tak.step q er x w λ v d fr Hv2 H2 hf x2 y2 rp _ w2=>?_
 cases d with
 | int i=>
  unfold Rp at rp;exact⟨i,rp,n (some i) Hv2 H2 x2 y2 w2⟩
 | _=>exact Zf w2
theorem i4 {lo hi:Option Expr}{fl fh:Option EE}{p2:Pos}(he:SE C e f)(hl:SO C lo fl)(hh:SO C hi fh):SE C (.Subscript e (.Slice lo hi none p2) pos) (Dv.eSlice f fl fh):=by
 obtain⟨t,p,q⟩:=he;obtain⟨tl,pl,ql⟩:=hl;obtain⟨th,ph,qh⟩:=hh;refine⟨_,mK pB p pl ph,λ σ H Hv ρ Q er s w=>?_⟩;refine Tak.step q er (.refl s) w λ v d fr Hv1 H1 _ x1 _ rp1 n1 w1=>?_
 refine ql σ H Hv ρ Q _ _ Hv1 H1 er x1 w1 λ i Hv2 H2 x2 y2 w2=>?_
 refine qh σ H Hv ρ Q _ _ Hv2 H2 er x2 w2 λ j Hv3 H3 x3 y3 w3=>?_
 have y13:=y2.trans y3;cases d with
 | lst ds=>
  cases fr with
  | true=>
   have rn:=(n1 rfl).same (Hnew.mono (.refl _) y13.hh);unfold Rp at rn;obtain⟨l,vs,rfl,h1,h2⟩:=rn;have h1':SqX C.X.K H3 l vs:=by
    rcases h1 with h1|⟨its,n,e,_⟩
    ·exact .inl (Rd.same Hnew.sub h1)
    ·simp at e
   exact⟨l,vs,rfl,h1'.seq,λ p hp=>Ok.newL (fr:=true || Dv.flatL (Dv.cutL ds i j)) w3 x3 (((RpL.frag h2).same x3.news).cut i j) (λ _=>h2.cut i j) p hp⟩
  | false=>
   have rp:=rp1.same y13.vv;unfold Rp at rp;obtain⟨l,vs,rfl,h1,h2⟩:=rp;exact⟨l,vs,rfl,(h1.same x3.vh).seq,λ p hp=>Ok.newL (fr:=false || Dv.flatL (Dv.cutL ds i j)) w3 x3 (h2.cut i j) (λ z=>(h2.cut i j).flat (by simpa using z)) p hp⟩
 | _=>exact Zf w3
def tyD:D->String
 | .non=>"NoneType"
 | .bl _=>"bool"
 | .int _=>"int"
 | .str _=>"str"
 | .lst _=>"list"
 | .tup _=>"tuple"
 | .exn _=>"BaseException"
 | .raw _=>"BaseException"
 | .tab _=>"BaseException"
 | .ins _ _=>"BaseException"
 | .dct _ _=>"dict"
theorem og {X:Cx}:cy X (.builtin "isinstance") (λ xs H Q=>∃ x d T b,xs=[x,.ty T]/\Rp X.K H d x/\Dv.noTy d=false/\zv X.K (.type (tyD d)) (.type T)=some b/\Q (.bl b) H):=by
 intro pins s σ H xs us Q I r h;obtain⟨x,d,T,b,rfl,rp,hnx,hk,q⟩:=h;obtain⟨u,w',rfl,ru,rw'⟩:=vals2 r;have rw2:w'=zr T:=rw';subst rw2;have fin:∀ tk,EP X pins σ Q (.bool b) { s with toks:=tk }:=λ tk=>⟨.bl b,H,I.tok tk,rfl,q⟩
 cases d with
 | non=>unfold Rp at rp;subst rp;cases ru;exact zF PySem.W.kitx_none I.kIn zO hk (λ z=>nomatch z) fin
 | bl y=>unfold Rp at rp;subst rp;cases ru;exact zF PySem.W.kitx_bool I.kIn zO hk (λ z=>nomatch z) fin
 | int i=>unfold Rp at rp;subst rp;obtain⟨t,rfl⟩:=ru;exact zF PySem.W.kitx_int I.kIn zO hk (λ z=>nomatch z) fin
 | str y=>unfold Rp at rp;subst rp;obtain⟨t,rfl⟩:=ru;exact zF PySem.W.kitx_str I.kIn zO hk (λ z=>nomatch z) fin
 | lst ds=>
  unfold Rp at rp;obtain⟨l,vs,rfl,h1,h2⟩:=rp;cases ru;obtain⟨its,n,rv,e,_⟩:=Inv.listX I h1;exact zF PySem.W.kitx_list I.kIn ⟨_,e,rfl⟩ hk (λ z=>nomatch z) fin
 | tup ds=>
  unfold Rp at rp;obtain⟨l,vs,rfl,h1,h2⟩:=rp;cases ru;obtain⟨_,its,rv,ob,e,hc,n,hd⟩:=h1.ok I.hok;exact zF PySem.W.kitx_tuple I.kIn ⟨ob,e,hc⟩ hk (λ z=>nomatch z) fin
 | exn c=>exact absurd hnx (by simp[Dv.noTy])
 | raw c=>exact absurd hnx (by simp[Dv.noTy])
 | ins c d=>exact absurd hnx (by simp[Dv.noTy])
 | tab c=>exact absurd hnx (by simp[Dv.noTy])
 | dct ks ds=>
  unfold Rp at rp;obtain⟨l,vs,rfl,h0,h1,h2⟩:=rp;cases ru;exact zF PySem.W.kitx_dict I.kIn (m9 I (.inl ⟨_,h1⟩)).1 hk (λ z=>nomatch z) fin
theorem rU {x:Str}{T:String}{p p2:Pos}{F:D->Bool->R}(β:D->Bool)(hF:∀ d fr,Dv.noTy d=false->F d fr=.ok (.bl (β d)) true)(hX:∀ d fr,Dv.noTy d=true->F d fr=.bad)(hβ:∀ K d,zv K (.type (tyD d)) (.type T)=some (β d))(hg:Gl C.X "isinstance")(hm:C.X.mg "isinstance"=none)(hgx:Gl C.X x)(hmx:C.X.mg x=none)
  (hvx:bootBuiltins x=some (.type T)) (ha:SE C a f) (hn:autoParam (x≠"__name__") ZC._auto_1) (hdb:autoParam ((x == ("__debug__":Str))=false) ZC._auto_1) (he:autoParam (starEach [a,.Name x p2] C.X.env=(false,eval a C.X.env)::starEach [.Name x p2] C.X.env) ZE._auto_1)
  (he2:autoParam (starEach [.Name x p2] C.X.env=[(false,eval (.Name x p2) C.X.env)]) ZE._auto_1):SE C (.Call (.Name "isinstance" p) [a,.Name x p2] [] pos) (Dv.eB1 F f):=by
 obtain⟨t,pa,qa⟩:=ha;refine⟨_,cC og hg hm (by decide +kernel) (aI pa (aI (qP (v:=.ty T) hgx hmx hvx rfl hn hdb) bj he2) he) (by decide) (by decide) he (by rw[he2];rfl),λ σ H Hv ρ Q e s w=>?_⟩;refine qa.step e (.refl s) w λ v d fr Hv1 H1 _ x1 _ rp1 _ q1=>?_
 by_cases hd:Dv.noTy d=true
 ·rw[hX d fr hd] at q1
  exact q1.elim
 ·have hd':Dv.noTy d=false:=by simpa using hd
  rw[hF d fr hd'] at q1;exact⟨v,d,T,β d,rfl,rp1.same x1.vh,hd',hβ _ d,q1.at x1 fR rfl⟩
def qW:D->Bool
 | .bl _=>true
 | _=>false
theorem oU (K:yC)(d:D):zv K (.type (tyD d)) (.type "bool")=some (qW d):=by cases d <;>rfl
theorem j8 (d:D)(fr:Bool)(h:Dv.noTy d=false):Dv.isBoolD d fr=.ok (.bl (qW d)) true:=by cases d <;>first|rfl|exact absurd h (by simp[Dv.noTy])
def SGs (C:Ctx)(ts:List Expr)(xs:List Nat):Prop:=
 ∃ t:TGs,PGs C.X ts t/\∀ Hv₀ H₀ Hc O H σ s ds vs T,RelC C.X.K Hv₀ H₀ Hc O s σ H->RpL C.X.K Hc ds vs->ds.length=xs.length->(∀ σ',RelC C.X.K Hv₀ H₀ Hc O (Dv.setAll xs ds s) σ' H->T σ' H)->t vs σ H T
theorem oB:SGs C [] []:=⟨_,e8,λ Hv₀ H₀ Hc O H σ s ds vs T r rp hl h=>by
 cases ds with
 | nil=>unfold RpL at rp;exact⟨rp,h σ r⟩
 | cons d ds=>cases hl⟩
theorem eN {i:Nat}{x:Str}{ts:List Expr}{xs:List Nat}(hs:SGs C ts xs)(hN:C.X.N.Nodup)(hi:C.X.N[i]?=some x)(hx:Loc C.X.env.scope x)(hf:autoParam (C.X.fn x=true\/C.X.env.scope.names.lookup x=some .local) ZB._auto_1)
  (ha:autoParam ((assignEach (.Name x pos::ts) C.X.env).map (·.2)=assign (.Name x pos) C.X.env::(assignEach ts C.X.env).map (·.2)) ZE._auto_1):SGs C (.Name x pos::ts) (i::xs):=by
 obtain⟨t,p,q⟩:=hs;refine⟨_,b5 (bU hN hi hx hf) p ha,λ Hv₀ H₀ Hc O H σ s ds vs T r rp hl h=>?_⟩;cases ds with
 | nil=>cases hl
 | cons d ds=>
  unfold RpL at rp;obtain⟨v,ws,rfl,h1,h2⟩:=rp;exact⟨v,ws,rfl,q Hv₀ H₀ Hc O H _ _ ds ws T (r.setSh h1) h2 (by simpa using hl) h⟩
theorem nv (is:List Nat){i j:Nat}{x y:Str}{px py pt:Pos}{kt k2:Nat}{pt2:Pos}(ha:SE C a f)(hb:SE C b g)(hN:C.X.N.Nodup)(hi:C.X.N[i]?=some x)(hj:C.X.N[j]?=some y)(hij:i≠j)
  (hx:C.X.env.scope.names.lookup x=some .local) (hy:C.X.env.scope.names.lookup y=some .local) (hw:autoParam (swappedStores [.Tuple [.Name x px,.Name y py] kt pt] (.Tuple [a,b] k2 pt2) C.X.env=pure (some [x,y])) ZE._auto_1)
  (hs:autoParam (swapsWithSole [.Tuple [.Name x px,.Name y py] kt pt] (.Tuple [a,b] k2 pt2) pos.line C.X.env=pure false) ZE._auto_1) (he:autoParam (starEach [a,b] C.X.env=(false,eval a C.X.env)::starEach [b] C.X.env) ZE._auto_1) (he2:autoParam (starEach [b] C.X.env=[(false,eval b C.X.env)]) ZE._auto_1) (hcl:autoParam (C.X.calm=true) ZE._auto_1):
  SSt C (.Assign [.Tuple [.Name x px,.Name y py] kt pt] (.Tuple [a,b] k2 pt2) pos) (Dv.sPar is i j f g):=by
 obtain⟨t,p,q⟩:=ha;obtain⟨u,p2,q2⟩:=hb;refine⟨_,sE hcl hN hi hj hij hx hy (aI p (aI p2 bj he2) he) hw hs,λ Hv₀ H₀ E σ H st ⟨Hc0,O0,r0⟩ w=>?_⟩;obtain⟨Hc,O,_,r⟩:=r0.give is;unfold Dv.sPar at w;refine q.open r (λ c hf Hc' H' x=>?_) (λ hf=>?_) λ d fr v Hc' H' hf x r' rp=>?_
 ·simp only[hf] at w;exact w σ H' ⟨Hc0,O0,r0.grow x.hh x.nf⟩
 ·simp only[hf] at w;exact w
 ·simp only[hf] at w
  refine q2.open r' (λ c hg Hc2 H2 x2=>?_) (λ hg=>?_) λ d2 fr2 v2 Hc2 H2 hg x2 r2 rp2=>?_
  ·simp only[hg] at w
   have xx:=x.trans x2;exact w σ H2 ⟨Hc0,O0,r0.grow xx.hh xx.nf⟩
  ·simp only[hg] at w;exact w
  ·simp only[hg] at w
   exact⟨v,v2,rfl,w _ H2 ⟨Hc2,O,(r2.setSh (rp.same x2.vv)).setSh rp2⟩⟩
end
theorem rG {C:Ctx}{ts:List Expr}{xs:List Nat}{kt:Nat}{tpos:Pos}(hg:SGs C ts xs)(hl:ts.length=xs.length)(hn:autoParam ((assignEach ts C.X.env).length=ts.length) ZE._auto_1)(hst:autoParam ((assignEach ts C.X.env).findIdx? (·.1)=none) ZE._auto_1)(hcl:autoParam (C.X.calm=true) ZE._auto_1):
  SG C (.Tuple ts kt tpos) (Dv.tupTo xs):=by
 obtain⟨g,pg,qg⟩:=hg;refine⟨_,ik hcl pg hn hst,λ Hv₀ H₀ Hc O H σ s s' d v T r rp e h=>?_⟩;unfold Dv.tupTo at e;cases d with
 | tup ds=>
  by_cases hz:ds.length=xs.length
  ·simp only[hz,if_true] at e
   cases e;unfold Rp at rp;obtain⟨a,vs,rfl,h2,h3⟩:=rp;exact⟨a,vs,rfl,.inl (Rd.same r.ch h2),by rw[h3.length,hz,hl],qg Hv₀ H₀ Hc O H σ s ds vs _ r h3 hz h⟩
  ·simp only[hz,if_false] at e
   cases e
 | _=>cases e
section
variable {C:Ctx}{a b c e k:Expr}{f g h:EE}{pos pos':Pos}
theorem pX {H H' Hv Hv':Hp}{es:List D}{v:V}(x:Ext Hv H Hv' H')(rn:Rp [] (Hnew H H') (.lst es) v):∃ b zs,v=.ref b/\H' b=some (.lst zs)/\H b=none/\RpL [] (Hnew H H') es zs:=by
 unfold Rp at rn;obtain⟨a,vs,rfl,h1,h2⟩:=rn;have h1':Hnew H H' a=some (.lst vs):=by
  rcases h1 with (h1|⟨o,h1⟩)|⟨its,m,e,_⟩
  ·exact h1
  ·exfalso
   have hn:H a=none:=by
    unfold Hnew at h1;cases q:H a with
    | none=>rfl
    | some u=>rw[q] at h1;cases h1
   exact x.nf a o _ hn (Hnew.sub a _ h1)
  ·simp at e
 have hn:H a=none:=by
  unfold Hnew at h1';cases q:H a with
  | none=>rfl
  | some u=>rw[q] at h1';cases h1'
 exact⟨a,vs,rfl,Hnew.sub a _ h1',hn,h2⟩
end
section
variable {C:Ctx}{a b c e:Expr}{f g h:EE}{pos:Pos}
theorem aF (ha:SE C a f)(hb:SE C b g):SE C (.BinOp a .Add b pos) (Dv.eOp .add f g):=iA sU ha hb
theorem bK (ha:SE C a f)(hb:SE C b g):SE C (.BinOp a .Mult b pos) (Dv.eOp .mul f g):=iA r8 ha hb
theorem aq (ha:SE C a f)(hb:SE C b g):SE C (.BinOp a .Mod b pos) (Dv.eOp .mod f g):=iA sM ha hb
theorem aS (ha:SE C a f)(hb:SE C b g):SE C (.BinOp a .FloorDiv b pos) (Dv.eOp .fdiv f g):=iA pQ ha hb
theorem tV (ha:SE C a f)(hb:SE C b g):SE C (.Compare a [.Eq] [b] pos) (Dv.eCm .eq f g):=mU os_eq ha hb (nomark _)
theorem o4 (ha:SE C a f)(hb:SE C b g):SC C (.Compare a [.Lt] [b] pos) (Dv.eCm .lt f g):=fk uo ha hb (nomark _)
theorem qX (ha:SE C a f)(hb:SE C b g):SC C (.Compare a [.Gt] [b] pos) (Dv.eCm .gt f g):=fk tO ha hb (nomark _)
theorem jy (ha:SE C a f)(hb:SE C b g):SC C (.Compare a [.Eq] [b] pos) (Dv.eCm .eq f g):=fk os_eq ha hb (nomark _)
theorem iT (ha:SE C a f)(hb:SE C b g):SC C (.Compare a [.NotEq] [b] pos) (Dv.eCm .ne f g):=fk tG ha hb (nomark _)
theorem rY {x:Str}{i:Int}{t:Tok}(hg:Gl C.X x)(hm:C.X.mg x=some (.int i t))(hd:autoParam ((x == ("__debug__":Str))=false) ZC._auto_1):SE C (.Name x pos) (Dv.eInt i):=
 ⟨_,kD (v:=.int i) hg hm ⟨t,rfl⟩ hd,λ _ _ _ _ _ _ s q=>q.now (v:=.int i) s b9 rfl⟩
theorem c8 {p:Pos}(hm:C.X.mg "len"=none)(hg:Gl C.X "len")(ha:SE C a f)(he:autoParam (starEach [a] C.X.env=[(false,eval a C.X.env)]) ZE._auto_1):SE C (.Call (.Name "len" p) [a] [] pos) (Dv.eB1 Dv.lenD f):=oS sO hg hm CF ha (by decide) (by decide) he
theorem ll {p:Pos}(hm:C.X.mg "list"=none)(hg:Gl C.X "list")(ha:SE C a f)(he:autoParam (starEach [a] C.X.env=[(false,eval a C.X.env)]) ZE._auto_1):SE C (.Call (.Name "list" p) [a] [] pos) (Dv.eB1 Dv.listD f):=tw qG hg hm (by decide +kernel) ha (by decide) (by decide) he
theorem lN {p p2:Pos}(hm:C.X.mg "isinstance"=none)(hmx:C.X.mg "bool"=none)(hg:Gl C.X "isinstance")(hgx:Gl C.X "bool")(ha:SE C a f)(he:autoParam (starEach [a,.Name "bool" p2] C.X.env=(false,eval a C.X.env)::starEach [.Name "bool" p2] C.X.env) ZE._auto_1)
  (he2:autoParam (starEach [.Name "bool" p2] C.X.env=[(false,eval (.Name "bool" p2) C.X.env)]) ZE._auto_1):SE C (.Call (.Name "isinstance" p) [a,.Name "bool" p2] [] pos) (Dv.eB1 Dv.isBoolD f):=rU _ j8 (λ d fr h=>by cases d <;>first|rfl|exact absurd h (by simp[Dv.noTy])) oU hg hm hgx hmx (by decide +kernel) ha (by decide) (by decide) he he2
end
structure Df (K:yC)(mg:Str->Option Value)(x:Str)(st:Stmt)(ps:List Str)(f:Addr)(fd:FuncData):Prop where
 m:mg x=some (.ref f)
 kp:zI K (.ref f)=true
 ex:∃ (oc:Value) (od:Option Addr) (dV kV doc pm:Value) (an:Option Addr) (cdv ct:Value) (osl:Array (Option Value)),
  fd=zf x x (bf st) (aN st) (ah st) dV kV doc pm an cdv ct/\K.lookup f=some ⟨oc,od,.func fd,osl⟩/\zH K cdv x=true
 bd:Binds K fd ps []
section
variable {P:Program}{w:World}{K:yC}{mg:Str->Option Value}{base:Heap}{CX:CXT}{cls:String->Value}
theorem Df.ok (hC:CXok P w CX){x:Str}{st:Stmt}{f:Addr}{fd:FuncData}{N ps:List Str}{k:Nat}{body:SS}(d:Df K mg x st ps f fd)(S:FnScope N ps (ah st))
  (hbody:∀ (cdv:Value) (A:Around) (outer:List za) (s:Shared) (H:Hp) (E:XK) (hr:Room k (A.deeper (envOfC x (ah st) s.heap.objs.size f cdv))),SSs (fO hC cls K mg base N x (ah st) f cdv A outer s H E hr) (aN st) body):
  FnOk P w K mg base CX (k+1) f fd ps (spD K cls (Dv.fn N.length body) ps.length):=by
 obtain⟨oc,od,dV,kV,doc,pm,an,cdv,ct,osl,rfl,lk,hcd⟩:=d.ex;exact um hC cls oc od dV kV doc pm an cdv ct osl lk hcd S (hbody cdv)
theorem rA {x:Str}{st:Stmt}{ps:List Str}{f:Addr}{oc:Value}{od an:Option Addr}{osl:Array (Option Value)}{dV kV doc pm cdv ct:Value}(m:mg x=some (.ref f))(l:K.lookup f=some ⟨oc,od,.func (zf x x (bf st) (aN st) (ah st) dV kV doc pm an cdv ct),osl⟩)
  (c:zH K cdv x=true) (k:zI K (.ref f)=true)
  (h:∀ (kV doc pm:Value) (an:Option Addr) (cdv ct:Value) (us:List Value),us.length=ps.length->bindArgs (zf x x (bf st) (aN st) (ah st) dV kV doc pm an cdv ct) ⟨us,[]⟩=pure (ps.zip us)):
  Df K mg x st ps f (zf x x (bf st) (aN st) (ah st) dV kV doc pm an cdv ct):=⟨m,k,⟨oc,od,dV,kV,doc,pm,an,cdv,ct,osl,rfl,l,c⟩,.all (h kV doc pm an cdv ct)⟩
end
theorem aC {C:Ctx}{e:Expr}{es:List Expr}{fl:EL}{k j:Nat}{fa:Addr}{fd:FuncData}{st:Stmt}{ps:List Str}{Fm:List D->R}{x:Str}{p pos:Pos}(d:Df C.X.K C.X.mg x st ps fa fd)(Fn:FnOk C.X.prog C.X.w C.X.K C.X.mg C.X.base C.CX j fa fd ps (spD C.X.K C.cls Fm ps.length))(hr:Room k C.X.A)(hj:j<=k)
  (hg:Gl C.X x) (ha:SL C (e::es) fl) (hlen:autoParam ((e::es).length=ps.length) ZE._auto_1) (hdb:autoParam ((x == ("__debug__":Str))=false) ZC._auto_1) (he:autoParam (starEach (e::es) C.X.env=(false,eval e C.X.env)::starEach es C.X.env) ZE._auto_1) (hpl:autoParam ((backTo pos (starEach es C.X.env)).any (·.1)=false) ZE._auto_1):
  SE C (.Call (.Name x p) (e::es) [] pos) (Dv.eCall Fm fl):=by
 have q:=pT (pos:=pos) (p:=p) (dds:=[]) (dvs:=[]) (dus:=[]) Fn hr hj hg d.m d.kp d.bd .nil (λ _ _=>.nil) ha (by simpa using hlen) hdb he hpl;have e1:(λ ds=>Fm (ds++[]))=Fm:=by funext ds;rw[wR]
 rw[e1] at q;exact q
theorem Df.is {P:Program}{w:World}{K:yC}{mg:Str->Option Value}{base:Heap}{CX:CXT}{cls:String->Value}(hC:CXok P w CX){x:Str}{st:Stmt}{f:Addr}{fd:FuncData}{ps:List Str}{F:List D->R}{m j:Nat}(N:List Str)(k:Nat)(body:SS)(d:Df K mg x st ps f fd)(S:FnScope N ps (ah st))
  (hj:j=k+1) (hm:m=ps.length) (hF:F=Dv.fn N.length body)
  (hbody:∀ (cdv:Value) (A:Around) (outer:List za) (s:Shared) (H:Hp) (E:XK) (hr:Room k (A.deeper (envOfC x (ah st) s.heap.objs.size f cdv))),SSs (fO hC cls K mg base N x (ah st) f cdv A outer s H E hr) (aN st) body):
  FnOk P w K mg base CX j f fd ps (spD K cls F m):=by
 subst hj hm hF;exact d.ok hC S hbody
structure Fly (P:Program)(w:World)(outer:List za)(H:Hp)(s:Shared)(a:Addr)(cls:Value)(H':Hp)(B:Heap)(t:Addr)(s':Shared):Prop where
 os:s'.os=s.os
 bare:AllBare s'.gens
 fl:Heap.FlyingW B outer a cls (.ref t) s'.heap
 keepB:∀ b o,s.heap.get? b=some o->H b=none->b∉frs outer->B.get? b=some o
 thereB:∀ b o,s.heap.get? b=some o->b∉frs outer->∃ o',B.get? b=some o'
 slot:∀ b o,s.heap.get? b=some o->H b=none->b∈frs outer->∃ sl,s'.heap.get? b=some { o with slots:=sl }
 free:∀ b o,s.heap.get? b=some o->H b=none->H' b=none
 tups:∀ b xs,H b=some (.tup xs)->H' b=some (.tup xs)
 frzs:∀ b o u,H b=some (.frz o u)->H' b=some (.frz o u)
 tbls:∀ b ps,H b=some (.tbl ps)->∃ more,H' b=some (.tbl (ps++more))
 hokB:HOk P w H' B
def CXe (P:Program)(w:World):CXT:=λ outer H s E e s'=>∃ a cls H' B t,e=.ref a/\Fly P w outer H s a cls H' B t s'/\E cls none H'
theorem qk {P:Program}{w:World}{H:Hp}{h h':Heap}(x:HOk P w H h)(k:∀ b u,H b≠none->h.get? b=some u->h'.get? b=some u):HOk P w H h':=λ a o e=>
 (x a o e).stay (λ b u hb q=>k b u (by
  rcases hb with rfl|hb
  ·rw[e];exact λ z=>nomatch z
  ·rw[hb];exact λ z=>nomatch z) q) (λ _ q=>q) λ _ _ q=>q
theorem cm {B h:Heap}{l:List za}{b:Addr}{o:Obj}(f:h.FunFrames B l)(hb:b∈frs l)(e:h.get? b=some o):∀ vs,o.data≠.fields vs:=by
 obtain⟨_,o',e',n⟩:=f.mem hb;rw[e] at e';cases e';exact n
section
variable {P:Program}{w:World}{K:yC}{mg:Str->Option Value}{base:Heap}{N:List Str}{qual:Str}{scope:Scope}{f:Addr}{cd:Value}{A:Around}{outer:List za}{s:Shared}{H:Hp}{E:XK}
theorem bI {b:Addr}{o:Obj}(e:s.heap.get? b=some o)(hb:b∉frs outer):b∉frs (envOfC qual scope s.heap.objs.size f cd::outer):=λ m=>by
 have m':b∈s.heap.objs.size::frs outer:=m
 rcases List.mem_cons.mp m' with rfl|m'
 ·exact absurd (yG e) (vI _)
 ·exact hb m'
theorem fm {b:Addr}(hb:b∈frs outer):b∈frs (envOfC qual scope s.heap.objs.size f cd::outer):=uU (s.heap.objs.size) hb
theorem mw (pins:List (Addr×Obj))(σ:St)(H1:Hp)(s1:Shared)(e:Value)(s':Shared)(I:Inv (bR (CXe P w) P w K mg base N qual scope f cd A outer s H E) pins σ H1 s1)
  (h:CXe P w (bR (CXe P w) P w K mg base N qual scope f cd A outer s H E).stack H1 s1 E e s'):(bR (CXe P w) P w K mg base N qual scope f cd A outer s H E).xe e s':=by
 obtain⟨a,cls,H',B,t,rfl,F,q⟩:=h;have noex:∀ b:Addr,b∉(bR (CXe P w) P w K mg base N qual scope f cd A outer s H E).ex:=λ b z=>absurd (show b∈([]:List Addr) from z) (by simp)
 refine wpAny_leaves_onW (L:=s.heap.objs.size) I.ok.frames rfl F.fl λ h' x1 x2=>?_
 refine⟨a,cls,H',B,t,rfl,⟨F.os.trans I.os,F.bare,x1,λ b o e n hb=>?_,λ b o e hb=>?_,λ b o e n hb=>?_,λ b o e n=>?_,λ b xs e=>?_,λ b o u e=>?_,λ b ps e=>?_,F.hokB⟩,q⟩
 ·exact F.keepB b o (I.base.keep b o e n hb (noex b)) (I.base.free b o e n (noex b)) (bI e hb)
 ·obtain⟨o1,e1⟩:=I.base.there b o e (noex b)
  exact F.thereB b o1 e1 (bI e hb)
 ·obtain⟨sl,e1⟩:=I.base.slot b o e n hb (noex b)
  obtain⟨sl2,e2⟩:=F.slot b _ e1 (I.base.free b o e n (noex b)) (fm hb);obtain⟨sl3,e3⟩:=x2 b _ e2 (cm F.fl.2.2.1 (fm hb) e2);exact⟨sl3,e3⟩
 ·obtain⟨o1,e1⟩:=I.base.there b o e (noex b)
  exact F.free b o1 e1 (I.base.free b o e n (noex b))
 ·exact F.tups b xs (I.base.tups b xs e)
 ·exact F.frzs b o u (I.base.frzs b o u e)
 ·obtain⟨m1,e1⟩:=I.base.tbls b ps e
  obtain⟨m2,e2⟩:=F.tbls b _ e1;exact⟨m1++m2,by rw[e2,BX]⟩
theorem cxe_ok {P:Program}{w:World}:CXok P w (CXe P w):=⟨λ _ _ _ _ _ ⟨_,_,_,_,_,_,_,q⟩=>q,λ _ _ _ _ _ _ _ _ _ _ _ _ _ pins σ H1 s1 e s' I h=>mw pins σ H1 s1 e s' I h⟩
theorem iK {pins:List (Addr×Obj)}{σ:St}{H1:Hp}{s1:Shared}{h':Heap}{e:Addr}{cls:Value}{vs:List Value}(I:Inv (bR (CXe P w) P w K mg base N qual scope f cd A outer s H E) pins σ H1 s1)
  (hx:Heap.MadeExcOf s1.heap h' e cls vs) (hE:E cls none H1):(bR (CXe P w) P w K mg base N qual scope f cd A outer s H E).xe (.ref e) { s1 with heap:=h' }:=by
 have noex:∀ b:Addr,b∉(bR (CXe P w) P w K mg base N qual scope f cd A outer s H E).ex:=λ b z=>absurd (show b∈([]:List Addr) from z) (by simp)
 have hfr:s1.heap.FunFrames (Bu s1.heap (frs (envOfC qual scope s.heap.objs.size f cd::outer))) (envOfC qual scope s.heap.objs.size f cd::outer):=
  PySem.W.funFrames_hide I.stack λ env he b hb=>List.mem_filterMap.mpr ⟨env,he,hb⟩
 refine wpAny_leaves_madeW (L:=s.heap.objs.size) (base:=Bu s1.heap (frs (envOfC qual scope s.heap.objs.size f cd::outer))) I.ok.frames rfl (λ b o q=>BW _ q) hfr hx λ h2 t x1 x2 x3 x4=>?_
 refine⟨e,cls,H1,_,t,rfl,⟨I.os,I.bare,x1,λ b o q n hb=>?_,λ b o q hb=>?_,λ b o q n hb=>?_,λ b o q n=>I.base.free b o q n (noex b),λ b xs q=>I.base.tups b xs q,λ b o u q=>I.base.frzs b o u q,λ b ps q=>I.base.tbls b ps q,?_⟩,hE⟩
 ·exact Ab _ (I.base.keep b o q n hb (noex b)) (bI q hb)
 ·obtain⟨o1,e1⟩:=I.base.there b o q (noex b)
  exact⟨o1,Ab _ e1 (bI q hb)⟩
 ·obtain⟨sl,e1⟩:=I.base.slot b o q n hb (noex b)
  obtain⟨sl2,e2⟩:=x4 b _ (hx.keeps _ _ e1) (cm hfr (fm hb) e1);exact⟨sl2,e2⟩
 ·refine qk I.hok λ b u hb q=>Ab _ q λ m=>hb ?_
  exact I.stkFree b m
end
structure XCls (K:yC)(mg:Str->Option Value)(c:String)(C:Addr):Prop where
 m:mg (y7 c)=some (.ref C)
 ns:yX K mainGlobals (y7 c)=some (some (.ref C))
 ex:A4 K C [.type "ValueError",.type "Exception",.type "BaseException",.type "object"] "ValueError.__new__"=true
 lk:∃ bm N nm qn bs hd sn sub ab col dd k0 k1 k2 k3 k5,K.lookup C=some (excClassObj nm qn C N bs bm hd sn sub ab col dd k0 k1 k2 k3 k5 "ValueError.__new__")
theorem lG {K:yC}{C:Addr}{bm0:List Value}{newId:String}(q:A4 K C bm0 newId=true)(l:∃ bm N nm qn bs hd sn sub ab col dd k0 k1 k2 k3 k5,K.lookup C=some (excClassObj nm qn C N bs bm hd sn sub ab col dd k0 k1 k2 k3 k5 newId)):
  ∃ bm N nm qn bs hd sn sub ab col dd k0 k1 k2 k3 k5,K.lookup C=some (excClassObj nm qn C N bs bm hd sn sub ab col dd k0 k1 k2 k3 k5 newId)/\AU K N=true/\yX K N "__init__"=some none/\CG K bm0 bm=true:=by
 obtain⟨bm,N,nm,qn,bs,hd,sn,sub,ab,col,dd,k0,k1,k2,k3,k5,l⟩:=l;unfold A4 at q;rw[l] at q;have q:(C == C&&newId == newId&&!false&&CG K bm0 bm&&AU K N&&yX K N "__init__" == some none)=true:=q;simp only[vi,beq_iff_eq] at q;exact⟨bm,N,nm,qn,bs,hd,sn,sub,ab,col,dd,k0,k1,k2,k3,k5,l,q.1.2,q.2,q.1.1.2⟩
theorem pD {K:yC}{h h':Heap}{N:Addr}{m:Str->Option Value}(X:K.In h)(X':K.In h')(e:AU K N=true)(n:h.Ns N m):h'.Ns N m:=by
 obtain⟨o,es,ep,ho,hd,r⟩:=n;unfold AU at e
 split at e
 ·rename_i a b c d q
  have:=X _ _ q;rw[ho] at this;cases this;exact⟨_,es,ep,X' _ _ q,hd,r⟩
 ·cases e
theorem nO {P:Program}{w:World}{K:yC}{mg:Str->Option Value}{base:Heap}{N:List Str}{qual:Str}{scope:Scope}{f:Addr}{cd:Value}{A:Around}{outer:List za}{s:Shared}{H:Hp}{E:XK}{c:String}{Ca:Addr}{tx:Str}{j:Nat}{np p2 cpos pos:Pos}
  (x:XCls K mg c Ca) (hg:Gl (bR (CXe P w) P w K mg base N qual scope f cd A outer s H E) (y7 c)) (hd:(y7 c == ("__debug__":Str))=false) (hh:(A.deeper (envOfC qual scope s.heap.objs.size f cd)).handled=none):
  PS (bR (CXe P w) P w K mg base N qual scope f cd A outer s H E) (.Raise (some (.Call (.Name (y7 c) np) [.Constant (.str tx) j p2] [] cpos)) none pos) (λ _ _ H1=>E (.ref Ca) none H1):=by
 intro pins s1 σ H1 D I hE;obtain⟨bm,Na,nm,qn,bs,hdd,sn,sub,ab,col,dd,k0,k1,k2,k3,k5,hC,hN,hni,hT⟩:=lG x.ex x.lk;have T:=B6 I.kIn hT;refine wpAny_Raise_call_subT (C:=Ca) (nm:=nm) (q:=qn) (N:=Na) (bs:=bs) (bm:=bm) (hdct:=hdd) (sn:=sn) (sub:=sub) (ab:=ab) (col:=col) (dd:=dd) (k0:=k0) (k1:=k1) (k2:=k2) (k3:=k3) (k5:=k5) PySem.F.excBase_ValueError (mN:=s1.heap.nsMap Na) (T.hasType (by decide)) hh rfl (PySem.W.nsMap_none_of_in I.kIn hN hni) ?_
 have pn:=kD (X:=bR (CXe P w) P w K mg base N qual scope f cd A outer s H E) (v:=.ref Ca) (pos:=np) hg x.m rfl hd;refine thn (pn pins s1 σ H1 (λ v H2=>v=.ref Ca/\H2=H1) I ⟨rfl,rfl⟩) ?_
 rintro u s2 ⟨v,H2,I2,r2,rfl,rfl⟩
 obtain rfl:u=yQ Ca:=r2;refine⟨rfl,AI ?_⟩;have pa:=aI (X:=bR (CXe P w) P w K mg base N qual scope f cd A outer s H E) (e:=.Constant (.str tx) j p2) sY bj;refine thn (pa cpos pins s2 σ H2 (λ vs H3=>vs=[.str tx]/\H3=H2) I2 ⟨rfl,rfl⟩) ?_
 rintro us s3 ⟨vs,H3,I3,r3,rfl,rfl⟩
 have hl:us.length=1:=r3.length.symm;refine⟨rfl,by rw[hl];decide,I3.kIn _ _ hC,pD I.kIn I3.kIn hN (.of_isNs (PySem.W.isNs_of_in I.kIn hN)),B6 I3.kIn hT,λ h' e hx=>?_⟩;exact iK I3 hx hE
theorem fX {P:Program}{w:World}{K:yC}{mg:Str->Option Value}{base:Heap}{cls:String->Value}{N:List Str}{qual:Str}{scope:Scope}{f:Addr}{cd:Value}{A:Around}{outer:List za}{s:Shared}{H:Hp}{E:XK}{k:Nat}{hr:Room k (A.deeper (envOfC qual scope s.heap.objs.size f cd))}{c:String}{Ca:Addr}{tx:Str}{j:Nat}{np p2 cpos pos:Pos}
  (x:XCls K mg c Ca) (hcls:cls c=.ref Ca) (hg:Gl (bR (CXe P w) P w K mg base N qual scope f cd A outer s H E) (y7 c)) (hd:autoParam ((y7 c == ("__debug__":Str))=false) ZC._auto_1):
  SSs (fO (cxe_ok (P:=P) (w:=w)) cls K mg base N qual scope f cd A outer s H E hr) [.Raise (some (.Call (.Name (y7 c) np) [.Constant (.str tx) j p2] [] cpos)) none pos] (Dv.sRaise c):=by
 refine⟨_,dH (nO x hg hd hr.hd),λ Hv₀ H₀ E' σ H' st r q=>?_⟩;have q':E (cls c) none H':=q σ H' r;rw[hcls] at q';exact q'
structure XLook (K:yC)(C:Addr):Prop where
 ex:A4 K C [.type "ValueError",.type "Exception",.type "BaseException",.type "object"] "ValueError.__new__"=true
 lk:∃ bm N nm qn bs hd sn sub ab col dd k0 k1 k2 k3 k5,K.lookup C=some (excClassObj nm qn C N bs bm hd sn sub ab col dd k0 k1 k2 k3 k5 "ValueError.__new__")
 ga:zR K (.ref C) "__getattribute__"=some (some (.builtin "BaseException.__getattribute__"))
 gn:zR K (.ref C) "__getattr__"=some none
 kc:zR K (.ref C) "__class__"=some (some (.builtin "object.__class__"))
structure XAll (K:yC)(mg:Str->Option Value)(ad:String->Option Addr):Prop where
 cl:∀ c C,ad c=some C->XCls K mg c C/\XLook K C
 sub:∀ c C k C',ad c=some C->ad k=some C'->zv K (.ref C) (.ref C')=some (Dv.subX c k)
 val:∀ c C,ad c=some C->zv K (.ref C) (.type "ValueError")=some true
theorem Fly.un {P:Program}{w:World}{outer:List za}{H H':Hp}{s s':Shared}{a t:Addr}{cls:Value}{B h:Heap}(F:Fly P w outer H s a cls H' B t s')(sb:B.StaysIn h)(sm:s'.heap.UpToSlots h)(hf:∀ b∈frs outer,H b=none):
  Un (frs outer) [] H H' s.heap h where
 keep:=λ b o e n hb _=>sb b o (F.keepB b o e n hb)
 slot:=λ b o e n hb _=>by
  obtain⟨sl,e1⟩:=F.slot b o e n hb;obtain⟨sl2,e2⟩:=sm b _ e1 (cm F.fl.2.2.1 hb e1);exact⟨sl2,e2⟩
 free:=λ b o e n _=>F.free b o e n
 there:=λ b o e _=>by
  by_cases hb:b∈frs outer
  ·obtain⟨sl,e1⟩:=F.slot b o e (hf b hb) hb
   obtain⟨sl2,e2⟩:=sm b _ e1 (cm F.fl.2.2.1 hb e1);exact⟨_,e2⟩
  ·obtain⟨o1,e1⟩:=F.thereB b o e hb
   exact⟨o1,sb b o1 e1⟩
 tups:=F.tups
 frzs:=F.frzs
 tbls:=F.tbls
theorem Fly.none {P:Program}{w:World}{outer:List za}{H H':Hp}{s s':Shared}{a t:Addr}{cls:Value}{B:Heap}(F:Fly P w outer H s a cls H' B t s'):H' a=Option.none:=by
 cases q:H' a with
 | none=>rfl
 | some o=>
  have e:=F.fl.2.1;obtain⟨o',h1⟩:∃ o',B.get? a=some o':=by
   have:=(F.hokB a o q).lt;have k:=F.hokB a o q;cases o with
   | lst xs=>obtain⟨_,_,_,_,z⟩:=k;exact⟨_,z⟩
   | tup xs=>obtain⟨_,_,_,_,z,_⟩:=k;exact⟨_,z⟩
   | dK kvs=>obtain⟨_,_,_,_,o,_,_,z,_⟩:=k;exact⟨_,z⟩
   | dT kvs=>obtain⟨_,_,_,_,o,_,_,z,_⟩:=k;exact⟨_,z⟩
   | set S n=>obtain⟨o,_,_,_,z,_⟩:=k;exact⟨_,z⟩
   | ins C dx fs=>obtain⟨_,_,_,z,_⟩:=k;exact⟨_,z⟩
   | own y=>obtain⟨_,z⟩:=k;exact⟨_,z⟩
   | xd fs=>obtain⟨_,⟨_,_,_,z,_⟩,_⟩:=k;exact⟨_,z⟩
   | rng lo hi=>obtain⟨_,_,_,z⟩:=k;exact⟨_,z⟩
   | frz ob u=>obtain⟨z,_⟩:=k;exact⟨_,z⟩
   | tbl ps=>exact⟨_,(show B.get? a=some _ from k)⟩
   | met f y=>exact⟨_,(show B.get? a=some _ from k)⟩
   | ext φ=>obtain⟨_,⟨_,z⟩,_⟩:=k;exact⟨_,z⟩
  rw[e] at h1;cases h1
open PySem PySem.W PySem.Calls PyProof.Rows
theorem fJ:∀ {ns:List Int} {x:Int},x∈ns->(Ag x).weight<=Bv (ns.map Ag)
 | [],_,h=>by simp at h
 | n::r,x,h=>by
  rw[uS];unfold Bv
  rcases List.mem_cons.mp h with rfl|h
  ·omega
  ·have:=fJ h
   omega
theorem pM {ns:List Int}(h:WData.layableAll [CA (ns.map Ag)]=true):∀ x∈ns,Dv.bits x<=1048576:=λ x hx=>by
 have h1:=layableW_arg h _ (uY ..);obtain⟨_,_,h2⟩:=layableW_iff.mp h1;have h3:B7 (CA (ns.map Ag))=Bv (ns.map Ag):=by unfold B7;rfl
 have h4:=fJ hx;have h5:(Ag x).weight=Dv.bits x:=by
  unfold B7 Dv.bits;by_cases e:x=0
  ·simp[e]
  ·simp[e]
 rw[h3] at h2;omega
theorem qI {l:OpenLaw}{n:Nat}{q:Program}{loose:List Str}{XP:(Str->Option Value)->Heap->Prop}{YP:World->Heap->Prop}{d:DefRec}(hn:l.most=some n)(hdf:d.params.defaults=[])
  (run:∀ (w:World) (s₀ s₁:Shared) (mg mb:Str->Option Value) (fa:Addr) (a:Addr) (vs:List Value) (ns:List Int),Ground q loose [] XP w s₀ mg mb s₁.heap->YP w s₁.heap->mg d.name=some (.ref fa) ->
   s₁.heap.get? a=some { cls:=.type "list",data:=.seq vs.toArray }->IntsAre vs ns->ns.length<=n->(∀ x∈ns,Dv.bits x<=1048576)->s₁.gens=#[] ->
   codeAny (model l.prog w) callerA (.call (.ref fa) ⟨[.ref a],[]⟩) (λ r s'=>r=.ok (.ret (.bool true))/\OldK s₁.heap s'.heap/\s'.os=s₁.os/\AllBare s'.gens) s₁):
  WalkO q loose XP YP l.row.toRowW d [] (λ f vs=>PySem.call f vs):=by
 intro w s₀ s₁ mg mb G Y fa o pm cd doc dV kV ho hd hcd hD hmg hg args vals as hpre hlay hrd hwl hlo;obtain⟨a,vs,ns,rfl,rfl,hobj,hints,hlen⟩:=Att.script_of hn hpre hwl;have hbits:=pM hlay;refine enter_call (AJ (run w s₀ s₁ mg mb fa a vs ns G Y hmg hobj hints hlen hbits hg) ?_)
 rintro r s' ⟨rfl,h2,h3,h4⟩
 exact⟨.inl ⟨.bool true,.bool true,[],rfl,λ _=>rfl,.bool true,Att.post_true l _,λ _=>⟨List.Pairwise.nil,λ _ hm=>(nomatch hm)⟩⟩,h2,h3,h4⟩
theorem walkD {l:OpenLaw}{k:Nat}{q:Program}{loose:List Str}{XP:(Str->Option Value)->Heap->Prop}{YP:World->Heap->Prop}{d:DefRec}{K:Params->Frag}{CX:World->L2.CXT}{x:Str}{Fl:List Dv.D->Dv.R}
  (hn:l.most=some 63) (hdf:d.params.defaults=[]) (hr:L2.Room k callerA) (hY:∀ (w:World) (h:Heap),YP w h->(K w.params).In h) (hC:∀ w,CXok l.prog w (CX w))
  (F:∀ (w:World) (mg:Str->Option Value) (fa:Addr) (h:Heap),(K w.params).In h->h.Ns mainGlobals mg->mg d.name=some (.ref fa) ->
   ∃ (fd:FuncData) (cls:String->Value),(∀ (s:Shared) (u:Value),BindsTo s fd ⟨[u],[]⟩ [(x,u)])/\∀ base:Heap,(K w.params).In base->base.Ns mainGlobals mg->L2.FnOk l.prog w (K w.params) mg base (CX w) k fa fd [x] (spD (K w.params) cls Fl 1))
  (hF:∀ ns:List Int,ns.length<=63->(∀ x∈ns,Dv.bits x<=1048576)->Fl [.lst (ns.map .int)]=.ok (.bl true) true):
  WalkO q loose XP YP l.row.toRowW d [] (λ f vs=>PySem.call f vs):=by
 refine qI hn hdf λ w s₀ s₁ mg mb fa a vs ns G Y hmg hobj hints hlen hbits hg=>?_
 have KX:=hY w _ Y;obtain⟨fd,cls,hb,hFn⟩:=F w mg fa _ KX G.T.g hmg;have hK:∀ o,(K w.params).lookup a=some o->o={ cls:=.type "list",data:=.seq vs.toArray }:=λ o e=>by
  have:=KX a o e;rw[hobj] at this;exact(Option.some.inj this).symm
 have hl:ns.length<=sizeLine:=vF hlen (by decide);refine L2.law_call KX G.T.g G.T.b G.T.builtins G.T.nolimit hg hobj hints hl hr hFn hb (λ H hO hS=>?_) λ H e s'=>(hC w).no [] H s₁ e s'
 refine⟨[.lst (ns.map .int)],H,rfl,.refl _,?_,?_⟩
 ·refine .cons ?_ .nil
  unfold Rp;refine⟨a,ns.map L2.V.int,rfl,?_,RpL.ofInts ns⟩
  rcases hS with hS|⟨o,its,m,e,_,_,e2,z,v⟩
  ·exact .inl hS
  ·have e3:=hK o e
   subst e3;cases e2;exact .inr ⟨vs,_,e,by rw[uR];exact hl,by simpa using v⟩
 ·rw[hF ns hlen hbits]
  intro v Hv' H' _ rp _;unfold Rp at rp;exact rp
open Dv in
def aU (ad:String->Option Addr)(c:String):Value:=match ad c with
 | some C=>.ref C
 | none=>.none
theorem fV {ad:String->Option Addr}{c:String}{C:Addr}(h:ad c=some C):aU ad c=.ref C:=by unfold aU;rw[h]
def mi (l:List (String×Addr))(c:String):Option Addr:=l.lookup c
theorem cG:∀ {l:List (String×Addr)} {c:String} {C:Addr},mi l c=some C->(c,C)∈l
 | [],c,C,h=>by simp[mi] at h
 | (k,v)::r,c,C,h=>by
  unfold mi at h;rw[vx] at h
  split at h
  ·rename_i q
   cases h;rw[beq_iff_eq.mp q];exact uY ..
  ·exact uU _ (cG (l:=r) h)
theorem qd {K:Frag}{mg:Str->Option Value}(l:List (String×Addr))(h1:∀ p∈l,XCls K mg p.1 p.2/\XLook K p.2/\kitOne K (.ref p.2) (.type "ValueError")=some true)(h2:∀ p∈l,∀ q∈l,kitOne K (.ref p.2) (.ref q.2)=some (Dv.subX p.1 q.1)):XAll K mg (mi l) where
 cl:=λ c C h=>let z:=h1 _ (cG h);⟨z.1,z.2.1⟩
 sub:=λ c C k C' h h'=>h2 _ (cG h) _ (cG h')
 val:=λ c C h=>(h1 _ (cG h)).2.2
theorem fm_nil {α:Type}{p:α->Prop}:∀ x∈([]:List α),p x:=λ x h=>absurd h (by simp)
theorem cJ {α:Type}{p:α->Prop}{a:α}{l:List α}(h:p a)(r:∀ x∈l,p x):∀ x∈a::l,p x:=λ x m=>by
 rcases List.mem_cons.mp m with rfl|m
 ·exact h
 ·exact r x m
end Sd
namespace Dv
def upL (lo:Int):Nat->List Int
 | 0=>[]
 | n+1=>lo::upL (lo+1) n
def listRangeD:D->Bool->R
 | .int j,_=>if decide (0<=j)&&decide (j<=100000) then .ok (.lst ((upL 0 j.toNat).map .int)) true else .bad
 | _,_=>.bad
end Dv
namespace Sd
open PySem PySem.Spec PyProof.Rows L2 HT
open Dv (D R RL EE EL EI RI Sl Out SS)
section
variable {C:Ctx}{a:Expr}{f:EE}{pos:Pos}
theorem kN:∀ (n:Nat) (lo:Int),(Dv.upL lo n).length=n
 | 0,lo=>rfl
 | n+1,lo=>by unfold Dv.upL;rw[uX,kN n]
theorem kW:∀ (n:Nat) (lo:Int) (us:List Value),us.length=n->(∀ (j:Nat) (v:Value),us[j]?=some v->∃ t,v=zA (lo+(j:Int)*1) t)->Vals ((Dv.upL lo n).map V.int) us
 | 0,lo,us,h,_=>by
  have:us=[]:=List.length_eq_zero_iff.mp h;subst this;exact .nil
 | n+1,lo,[],h,_=>by simp at h
 | n+1,lo,u::us,h,k=>by
  obtain⟨t,e⟩:=k 0 u rfl;unfold Dv.upL;rw[uS];refine .cons ⟨t,by rw[e];simp⟩ (kW n (lo+1) us (by simpa using h) λ j v hj=>?_);obtain⟨t',e'⟩:=k (j+1) v (by simpa using hj);refine⟨t',by rw[e'];congr 1;omega⟩
theorem hU {X:Cx}{t:TE}{p p2 pos2:Pos}(hcl:X.calm=true)(hm:X.mg "list"=none)(hg:Gl X "list")(hm2:X.mg "range"=none)(hg2:Gl X "range")(ha:PE X a t)
  (he:starEach [.Call (.Name "range" p2) [a] [] pos2] X.env=[(false,eval (.Call (.Name "range" p2) [a] [] pos2) X.env)]) (he2:starEach [a] X.env=[(false,eval a X.env)]):
  PE X (.Call (.Name "list" p) [.Call (.Name "range" p2) [a] [] pos2] [] pos) (λ σ H Q=>t σ H λ x H1=>∃ j:Int,x=.int j/\0<=j/\j<=100000/\∀ l,H1 l=none->Q (.ref l) (upd H1 l (.lst ((Dv.upL 0 j.toNat).map V.int)))):=by
 intro pins s σ H Q I h;refine zb (bE I hg hm (u:=.type "list") (by decide +kernel) ?_ (by decide) (by decide));refine yS ?_ he rfl
 rw[he];show wpAny _ _ (spliced ((false,eval (.Call (.Name "range" p2) [a] [] pos2) X.env)::backTo pos [])) _ _ s
 refine yW ?_
 refine zb (bE I hg2 hm2 BN ?_ (by decide) (by decide));refine yS ?_ he2 rfl
 rw[he2];show wpAny _ _ (spliced ((false,eval a X.env)::backTo pos2 [])) _ _ s
 refine yW (thn (ha pins s σ H _ I h) λ u s1 ⟨x,H1,I1,r1,j,e1,j0,j1,go⟩=>?_);subst e1;obtain⟨t,rfl⟩:=r1;refine zm ?_
 refine call_range_1 ?_
 refine zm ?_
 have hsz:zL 0 j 1=(j.toNat:Nat):=by rw[rangeSize_one];split <;>omega
 refine BD (I1.ok.hd hcl) (Cj ..) (small_one ⋯ ⋯ ⋯ ⋯) hsz ⋯ λ h' tk acc' c' hk hS hacc=>?_
 have hk2:∀ b u,s1.heap.get? b=some u->h'.get? b=some u:=λ b u q=>hk b u (yE _ q)
 have hle:s1.heap.objs.size<=(s1.heap.push { cls:=.type "range",data:=.fields #[.int 0 s1.toks,.int j t,.int 1 (s1.toks+1)] }).objs.size:=by rw[zS];omega
 refine⟨.ref _,_,I1.laid (t':=tk) (o:=.lst ((Dv.upL 0 j.toNat).map V.int)) hk2 hle ?_,rfl,go _ (I1.hok.fresh hle)⟩;refine⟨?_,acc'.toList,c',kW j.toNat 0 _ (by rw[yI];exact hacc.1) (λ i v hi=>hacc.2 i v (by rw[<- zc];exact hi)),by simpa using hS⟩;rw[uR,kN,yZ];omega
theorem iq {p p2 pos2:Pos}(hm:C.X.mg "list"=none)(hg:Gl C.X "list")(hm2:C.X.mg "range"=none)(hg2:Gl C.X "range")(ha:SE C a f)
  (he:autoParam (starEach [.Call (.Name "range" p2) [a] [] pos2] C.X.env=[(false,eval (.Call (.Name "range" p2) [a] [] pos2) C.X.env)]) ZE._auto_1) (he2:autoParam (starEach [a] C.X.env=[(false,eval a C.X.env)]) ZE._auto_1) (hcl:autoParam (C.X.calm=true) ZE._auto_1):
  SE C (.Call (.Name "list" p) [.Call (.Name "range" p2) [a] [] pos2] [] pos) (Dv.eB1 Dv.listRangeD f):=by
 obtain⟨t,pa,qa⟩:=ha;refine⟨_,hU hcl hm hg hm2 hg2 pa he he2,λ σ H Hv ρ Q e s w=>?_⟩;refine qa.step e (.refl s) w λ v d fr Hv1 H1 _ x1 _ rx n1 q=>?_
 cases d with
 | int j=>
  simp only[Dv.listRangeD] at q;unfold Rp at rx;subst rx;by_cases hj:(decide (0<=j)&&decide (j<=100000))=true
  ·simp only[hj,if_true] at q
   have h2:=hj;rw[vi,decide_eq_true_eq,decide_eq_true_eq] at h2;exact⟨j,rfl,h2.1,h2.2,λ p hp=>Ok.newL q x1 (RpL.ofInts _) (λ _=>RpL.ofInts _) p hp⟩
  ·simp only[hj] at q
   exact Zf q
 | _=>exact Zf q
end
end Sd
namespace Dv
def lexLt:List Int->List Int->Bool
 | [],[]=>false
 | [],_::_=>true
 | _::_,[]=>false
 | x::xs,y::ys=>if x=y then lexLt xs ys else decide (x<y)
def jT (bt:Nat->Nat->Bool):Nat->Nat
 | 0=>0
 | k+1=>if bt (k+1) (jT bt k) then k+1 else jT bt k
def kS:List D->Option (List (List Int))
 | []=>some []
 | .lst ds::r=>match intsOf ds,kS r with
  | some ns,some nss=>some (ns::nss)
  | _,_=>none
 | _::_=>none
def o9 (nss:List (List Int)):Nat:=jT (λ i j=>lexLt (nss.getD i []) (nss.getD j [])) (nss.length-1)
def least (nss:List (List Int)):List Int:=nss.getD (o9 nss) []
end Dv
namespace Sd
open PySem PySem.Spec PyProof.Rows L2 HT
open Dv (D R RL EE EL EI RI Sl Out SS)
section
open PySem.SeqAt
open PySem.AutoSeq1 (wpAny_loadPart')
open PySem.MeetsSeq PySem.MeetsSeq2 PySem.MeetsSeq3
end
end Sd
namespace Dv
def eqsD:List D->D->Option (List Bool)
 | [],_=>some []
 | d::r,b=>match eqD d b,eqsD r b with
  | some p,some q=>some (p::q)
  | _,_=>none
end Dv
namespace Dv
def look:List Int->List D->Int->Option D
 | k::ks,d::ds,j=>if k=j then some d else look ks ds j
 | _,_,_=>none
def qU:List Int->List D->Int->D->List D
 | k::ks,d::ds,j,x=>(if k=j then x else d)::qU ks ds j x
 | _,ds,_,_=>ds
def putL (ks:List Int)(ds:List D)(j:Int)(x:D):List D:=if j∈ks then qU ks ds j x else ds++[x]
def tJ (ks:List Int)(j:Int):List Int:=if j∈ks then ks else ks++[j]
def nG (is:List Nat)(i:Nat)(k e:EE):SS:=λ st=>match (give is st)[i]? with
 | some (.ow (.dct ks ds))=>match e (open_ (give is st)) with
  | .ok d _=>match k (open_ (give is st)) with
   | .ok (.int j) _=>if decide (ks.length<mx)&&decide (ks.length=ds.length) then .nx ((give is st).set i (.ow (.dct (tJ ks j) (putL ks ds j d)))) else .bad
   | .exc c=>.exc c st
   | _=>.bad
  | .exc c=>.exc c st
  | .bad=>.bad
 | _=>.bad
def ot:List D->Bool
 | []=>true
 | .lst es::r=>flatL es&&ot r
 | _::_=>false
def qZ:List D->Option (List Bool)
 | []=>some []
 | .bl b::r=>(qZ r).map (b::·)
 | _::_=>none
def minI:Int->List Int->Int
 | a,[]=>a
 | a,b::r=>minI (if b<a then b else a) r
def sAppG (is:List Nat)(i:Nat)(e:EE):SS:=λ st=>match (give is st)[i]? with
 | some (.ow (.lst ds))=>match e (open_ (give is st)) with
  | .ok d _=>if decide (ds.length<mx) then .nx ((give is st).set i (.ow (.lst (ds++[d])))) else .bad
  | .exc c=>.exc c st
  | .bad=>.bad
 | _=>.bad
def sAppF (i:Nat)(e:EE):SS:=λ st=>match st[i]? with
 | some (.ow (.lst ds))=>match e (all st) with
  | .ok d true=>if decide (ds.length<mx) then .nx (st.set i (.ow (.lst (ds++[d])))) else .bad
  | .ok _ false=>.bad
  | .exc c=>.exc c st
  | .bad=>.bad
 | _=>.bad
end Dv
namespace Sd
open PySem PySem.Spec PyProof.Rows L2
open Dv (D R RL EE EL EI RI Sl Out SS)
section
variable {C:Ctx}{a b c e k:Expr}{f g h:EE}{F G:SS}{pos pos':Pos}{E:Ends}
theorem p5 (is:List Nat){i:Nat}{x:Str}{apos cpos:Pos}{px:Pos}(he:SE C e f)(hN:autoParam (C.X.N[i]?=some x) ZE._auto_1)(hv:autoParam (Vis C.X.env.scope x) ZF._auto_1)
    (hd:autoParam ((x == ("__debug__":Str))=false) ZC._auto_1) (hcd:autoParam ((x == ("__classdict__":Str))=false) ZC._auto_1) (hst:autoParam (starEach [e] C.X.env=[(false,eval e C.X.env)]) ZE._auto_1)
    (hbase:autoParam (attributeBase (.Name x px) "append" C.X.env (eval (.Name x px) C.X.env)=eval (.Name x px) C.X.env) ZE._auto_1)
    (hfew:autoParam (((backTo cpos (starEach [e] C.X.env)).all (λ x=>!x.1)&&(backToKw cpos (keywordEach [] C.X.env)).all (λ x=>x.1.isSome)
      && decide ([e].length+([]:List Keyword).length+(if ([]:List Keyword).isEmpty then 0 else 1)<30))=true) ZE._auto_1)
    (hline:autoParam ((apos.endLine == cpos.line)=true) ZE._auto_1)
    (hs:autoParam (swapsWith (.Call (.Attribute (.Name x px) "append" apos) [e] [] cpos) none pos.line C.X.env=pure false) ZE._auto_1):
    SSt C (.Expr (.Call (.Attribute (.Name x px) "append" apos) [e] [] cpos) pos) (Dv.sAppG is i f):=by
  obtain⟨t,p,q⟩:=he;refine⟨_,eM (oQ Ak Bg Bh gU (dZ hN hv hd hcd) (aI p bj hst) hbase hfew hline hst rfl) hs,λ Hv₀ H₀ E σ H st ⟨Hc0,O0,r0⟩ w=>?_⟩;obtain⟨Hc,O,_,r⟩:=r0.give is;unfold Dv.sAppG at w;generalize hst:Dv.give is st=st1 at r w;cases hi:st1[i]? with
  | none=>simp only[hi] at w;exact Zf w
  | some s=>
    simp only[hi] at w;cases s with
    | ow d0=>
     cases d0 with
     | lst ds=>
      obtain⟨a,vs,h1,h2,h5⟩:=r.own hi;refine⟨_,h1,.inl ⟨rfl,vs,SqL.of h2⟩,?_⟩;refine q.open r (λ c hf Hc' H' x=>?_) (λ hf=>?_) λ d fr v Hc' H' hf x r' rp=>?_
      · simp only[hf] at w;exact w σ H' ⟨Hc0,O0,r0.grow x.hh x.nf⟩
      · simp only[hf] at w;exact w
      · simp only[hf] at w
        by_cases z:decide (ds.length<Dv.mx)=true
        · simp only[z,if_true] at w
          rw[decide_eq_true_eq] at z;obtain⟨O',r2⟩:=r'.put hi h1 ((h5.same x.vv).append (.cons rp .nil));refine⟨a,vs,v,rfl,rfl,x.hh _ _ h2,?_,w σ _ ⟨Hc',O',r2⟩⟩;have:=h5.length;have e1:(100000:Nat)<sizeLine:=by rw[yZ];decide
          have e2:ds.length<100000:=z;omega
        · simp only[z] at w
          exact Zf w
     | _=>exact Zf w
    | _=>exact Zf w
theorem b7 {H H':Hp}{b:Addr}{o:HO}(h:Hnew H H' b=some o):H b=none:=by
 unfold Hnew at h;cases q:H b with
 | none=>rfl
 | some u=>rw[q] at h;cases h
theorem kM {i:Nat}{x:Str}{apos cpos:Pos}{px:Pos}(he:SE C e f)(hN:autoParam (C.X.N[i]?=some x) ZE._auto_1)(hv:autoParam (Vis C.X.env.scope x) ZF._auto_1)
    (hd:autoParam ((x == ("__debug__":Str))=false) ZC._auto_1) (hcd:autoParam ((x == ("__classdict__":Str))=false) ZC._auto_1) (hst:autoParam (starEach [e] C.X.env=[(false,eval e C.X.env)]) ZE._auto_1)
    (hbase:autoParam (attributeBase (.Name x px) "append" C.X.env (eval (.Name x px) C.X.env)=eval (.Name x px) C.X.env) ZE._auto_1)
    (hfew:autoParam (((backTo cpos (starEach [e] C.X.env)).all (λ x=>!x.1)&&(backToKw cpos (keywordEach [] C.X.env)).all (λ x=>x.1.isSome)
      && decide ([e].length+([]:List Keyword).length+(if ([]:List Keyword).isEmpty then 0 else 1)<30))=true) ZE._auto_1)
    (hline:autoParam ((apos.endLine == cpos.line)=true) ZE._auto_1)
    (hs:autoParam (swapsWith (.Call (.Attribute (.Name x px) "append" apos) [e] [] cpos) none pos.line C.X.env=pure false) ZE._auto_1):
    SSt C (.Expr (.Call (.Attribute (.Name x px) "append" apos) [e] [] cpos) pos) (Dv.sAppF i f):=by
  obtain⟨t,p,q⟩:=he;refine⟨_,eM (oQ Ak Bg Bh gU (dZ hN hv hd hcd) (aI p bj hst) hbase hfew hline hst rfl) hs,λ Hv₀ H₀ E σ H st ⟨Hc,O,r⟩ w=>?_⟩;unfold Dv.sAppF at w;cases hi:st[i]? with
  | none=>simp only[hi] at w;exact Zf w
  | some s=>
    simp only[hi] at w;cases s with
    | ow d0=>
     cases d0 with
     | lst ds=>
      obtain⟨a,vs,h1,h2,h5⟩:=r.own hi;refine⟨_,h1,.inl ⟨rfl,vs,SqL.of h2⟩,?_⟩;refine q.all r (λ c hf H' r'=>?_) (λ hf=>?_) λ d fr v Hv' H' hf x r' rp n=>?_
      · simp only[hf] at w;exact w σ H' ⟨Hc,O,r'⟩
      · simp only[hf] at w;exact w
      · simp only[hf] at w
        cases fr with
        | false=>exact Zf w
        | true=>
          by_cases z:decide (ds.length<Dv.mx)=true
          · simp only[z,if_true] at w
            rw[decide_eq_true_eq] at z;have hn:∀ b o,Hnew H H' b=some o->Hc b=none:=λ b o h=>r.ch.free (b7 h)
            have y:Ext Hc H (bH Hc (Hnew H H')) H':=by
              refine⟨x.hh,cc,λ b o h=>?_,λ b o h nn=>?_,λ b h=>?_,x.nf⟩
              · rcases bq h with h|⟨_,h⟩
                · exact x.hh _ _ (r.ch b o h)
                · exact Hnew.sub b o h
              · rcases bq h with h|⟨_,h⟩
                · rw[nn] at h;cases h
                · exact b7 h
              · unfold bH Hnew
                rw[r.ch.free h,h]
            have r1:=r.growC y;obtain⟨O',r2⟩:=r1.put hi h1 ((h5.same cc).append (.cons (Rp.frag ((n rfl).same (eS hn))) .nil));refine⟨a,vs,v,rfl,rfl,x.hh _ _ h2,?_,w σ _ ⟨_,O',r2⟩⟩;have:=h5.length;have e1:(100000:Nat)<sizeLine:=by rw[yZ];decide
            have e2:ds.length<100000:=z;omega
          · simp only[z] at w
            exact Zf w
     | _=>exact Zf w
    | _=>exact Zf w
end
structure RoomH (k:Nat)(A:Around):Prop where
 dp:A.depth+3*k+5<recursionLimit
 un:A.units+16*k+200<cLine
theorem RoomH.deeper {k:Nat}{A:Around}(r:RoomH (k+1) A)(env:za):RoomH k (A.deeper env):=
 ⟨by have:=r.dp;show A.depth+1+3*k+5<_;omega,by have:=r.un;show A.units+3+16*k+200<_;omega⟩
theorem RoomH.depth {k:Nat}{A:Around}(r:RoomH k A):A.depth<recursionLimit:=by have:=r.dp;omega
theorem RoomH.units {k:Nat}{A:Around}(r:RoomH k A):A.units+64<cLine:=by have:=r.un;omega
end Sd
namespace Dv
def compGoT (m:Nat)(elt:EE)(cond:EE)(free:Env):List D->RL
 | []=>.ok [] true
 | d::r=>match d with
  | .tup es=>if es.length=m then match cond (es.map some++free) with
   | .ok (.bl true) _=>match elt (es.map some++free) with
    | .ok x f=>match compGoT m elt cond free r with
     | .ok xs g=>.ok (x::xs) (f&&g)
     | _=>.bad
    | _=>.bad
   | .ok (.bl false) _=>compGoT m elt cond free r
   | _=>.bad
   else .bad
  | _=>.bad
def eCompT (m:Nat)(elt cond:EE)(is:List Nat)(it:EI):EE:=λ ρ=>match it ρ with
 | .ok ds _=>if ds.length<=mx then match compGoT m elt cond (pick ρ is) ds with
   | .ok xs f=>.ok (.lst xs) f
   | _=>.bad
  else .bad
 | .exc c=>.exc c
 | .bad=>.bad
end Dv
namespace Sd
open PySem PySem.Spec PyProof.Rows L2
open Dv (D R RL EE EL EI RI Sl Out SS)
inductive NamesAre:List Expr->List Str->Prop
 | nil:NamesAre [] []
 | cons {x:Str} {p:Pos} {es:List Expr} {ts:List Str}:NamesAre es ts->NamesAre (.Name x p::es) (x::ts)
theorem NamesAre.length {es:List Expr}{ts:List Str}(h:NamesAre es ts):es.length=ts.length:=by
 induction h with
 | nil=>rfl
 | cons _ ih=>rw[uX,uX,ih]
def tgN:Nat->Nat->TGs
 | _,0=>sP
 | k,n+1=>k6 (en k) (tgN (k+1) n)
theorem mY:∀ (n k:Nat) (vs:List V) (pre os fr:St) (H:Hp) (Q:St->Hp->Prop),vs.length=n->os.length=n->pre.length=k->Q (pre++vs.map some++fr) H->tgN k n vs (pre++os++fr) H Q
 | 0,k,vs,pre,os,fr,H,Q,h1,h2,h3,q=>by
  have e1:=vM h1;have e2:=vM h2;subst e1 e2;exact⟨rfl,q⟩
 | n+1,k,v::vs,pre,o::os,fr,H,Q,h1,h2,h3,q=>by
  refine⟨v,vs,rfl,?_⟩;show tgN (k+1) n vs ((pre++(o::os)++fr).set k (some v)) H Q
  have e:(pre++(o::os)++fr).set k (some v)=(pre++[some v])++os++fr:=by
   subst h3;simp[List.set_append]
  rw[e];exact mY n (k+1) vs (pre++[some v]) os fr H Q (by simpa using h1) (by simpa using h2) (by simp[h3]) (by simpa using q)
 | n+1,k,[],pre,os,fr,H,Q,h1,h2,h3,q=>by cases h1
 | n+1,k,v::vs,pre,[],fr,H,Q,h1,h2,h3,q=>by cases h2
theorem mC {X:Cx}(hN:X.N.Nodup){es:List Expr}{ts:List Str}(na:NamesAre es ts):∀ k:Nat,(∀ (j:Nat) (t:Str),ts[j]?=some t->X.N[k+j]?=some t/\X.env.scope.names.lookup t=some .local)->PGs X es (tgN k es.length):=by
 induction na with
 | nil=>intro k _;exact e8
 | @cons x p es ts na ih=>
  intro k h;obtain⟨h1,h2⟩:=h 0 x rfl;exact b5 (bU hN h1 (.inl h2) (.inr h2)) (ih (k+1) λ j t ht=>by
   have:=h (j+1) t (by simpa using ht);have e:k+1+j=k+(j+1):=⋯
   rw[e];exact this) rfl
structure CompNamesT (X:Cx)(scope:Scope)(ts:List Str)(fs:List Str)(is:List Nat):Prop where
 kind:scope.kind=.function
 cell:∀ y∈scope.names,y.2≠.cell
 names:∀ y∈scope.names,y.2=.local->scope.names.lookup y.1=some .local
 tgt:∀ t∈ts,scope.names.lookup t=some .local
 nd:(ts++fs).Nodup
 free:∀ y∈scope.names,y.2=.free->X.env.kindOf y.1=some .cell\/X.env.kindOf y.1=some .free
 fsf:∀ y∈fs,scope.names.lookup y=some .free
 len:is.length=fs.length
 at':∀ (j:Nat) (y:Str),fs[j]?=some y->∃ i,is[j]?=some i/\X.N[i]?=some y
theorem lP {K:yC}{Hv:Hp}{ρ:Dv.Env}{σ:St}{is:List Nat}{ds:List D}{vs:List V}(e:EnvR K Hv ρ σ)(r:RpL K Hv ds vs):EnvR K Hv (ds.map some++Dv.pick ρ is) (vs.map some++bG σ is):=λ j x h=>by
 have hl:=r.length;by_cases hj:j<ds.length
 ·rw[vz (by simpa using hj),vA] at h
  cases q:ds[j]? with
  | none=>rw[q] at h;cases h
  | some d=>
   rw[q] at h;cases h;obtain⟨v,h1,h2⟩:=r.get q;exact⟨v,by rw[vz (by simp;omega),vA,h1];rfl,h2⟩
 ·rw[vE (by simp;omega),uR] at h
  obtain⟨i,h1,h2⟩:=oO h;obtain⟨u,h3,h4⟩:=e i x h2;exact⟨u,by rw[vE (by simp;omega),uR,hl];exact me h1 h3,h4⟩
theorem j4 {X:Cx}{pins:List (Addr×Obj)}{σ:St}{H1:Hp}{s2:Shared}{scope:Scope}{ts:List Str}{fs:List Str}{is:List Nat}{cl:List (Str×Addr)}{fp:List Addr}{L:Addr}(I:Inv X pins σ H1 s2)(S:CompNamesT X scope ts fs is)
  (clsub:∀ x c,cl.lookup x=some c->X.env.cells.lookup x=some c) (clhas:∀ y∈scope.names,y.2=.free->∃ c,cl.lookup y.1=some c) (f2:∀ b∈fp,gh X pins H1 b) (fin:∀ b∈fp,b<s2.heap.objs.size) (hL:s2.heap.objs.size<=L):
  (aV X (ts++fs) scope cl L s2 H1 fp).Ok:=by
 refine⟨I.ok.mod,S.kind,I.ok.glob,I.ok.blt,hL,λ y z c h1 h2=>I.ok.inj y z c (clsub y c h1) (clsub z c h2),λ y hy=>?_,λ y c h=>(by cases h),I.ok.hd,I.ok.frames,.inl rfl,λ b hb=>⟨?_,λ y c h=>?_⟩,I.bs,vF I.ok.bsz I.sz,λ b o e hb=>?_,λ b hb hf=>?_,I.stack,I.stkFree⟩
 ·have:(y,zq)∈scope.names:=by
   rcases hy with hy|hy
   ·exact cX (env:=X.env) S.cell (.inl rfl) hy
   ·exact cX (env:=X.env) S.cell (.inr rfl) hy
  exact clhas _ this rfl
 ·exact u9 (vo (fin b hb) hL)
 ·exact(f2 b hb).2.2.2.2.1 y c (clsub y c h)
 ·obtain⟨_,_,_,h4,_⟩:=f2 b hb
  rcases h4 with h4|h4
  ·exact I.ok.noex b o e h4
  ·exact absurd (yG (I.ok.bs b o e).1) (Nat.not_lt.mpr h4)
 ·obtain⟨_,h2,h3,_⟩:=f2 b hb
  rcases List.mem_cons.mp (I.stkSub b hf) with e|e
  ·exact h2 e
  ·exact h3 e
theorem lS {X:Cx}{pins:List (Addr×Obj)}{σ:St}{H1:Hp}{s2:Shared}{scope:Scope}{ts:List Str}{fs:List Str}{is:List Nat}{cl:List (Str×Addr)}{fp:List Addr}{L:Addr}{h1:Heap}{t1:Nat}{m:Str->Option Value}(I:Inv X pins σ H1 s2)(S:CompNamesT X scope ts fs is)
  (clsub:∀ x c,cl.lookup x=some c->X.env.cells.lookup x=some c) (clhas:∀ y∈scope.names,y.2=.free->∃ c,cl.lookup y.1=some c) (f2:∀ b∈fp,gh X pins H1 b) (fin:∀ b∈fp,b<s2.heap.objs.size) (hL:s2.heap.objs.size<=L)
  (old:∀ b o,s2.heap.get? b=some o->h1.get? b=some o) (hn:h1.Ns L m):Inv (aV X (ts++fs) scope cl L s2 H1 fp) [] (List.replicate ts.length none++bG σ is) H1 { s2 with heap:=h1,toks:=t1 }:=by
 refine⟨j4 I S clsub clhas f2 fin hL,rfl,I.bare,Un.kept old,⟨m,hn,λ i y v e1 e2 e3=>?_⟩,λ y c e=>?_,I.hok.fresh hL,λ y c e=>I.freeC y c (clsub y c e),λ p hp=>absurd (show p∈([]:List (Addr×Obj)) from hp) (by simp),I.hok.kept old,?_⟩
 ·by_cases hi:i<ts.length
  ·have e2':(List.replicate ts.length none++bG σ is)[i]?=some (some v):=e2
   rw[vz (by simpa using hi),wH,if_pos hi] at e2';cases e2'
  ·have e1':fs[i-ts.length]?=some y:=by
    have e1'':(ts++fs)[i]?=some y:=e1
    rw[vE ⋯] at e1'';exact e1''
   have e2':(List.replicate ts.length none++bG σ is)[i]?=some (some v):=e2
   rw[vE (by simp;omega),wj] at e2';generalize i-ts.length=j at e1' e2';obtain⟨i,h1',h2'⟩:=oy e2';obtain⟨i',h3,h4⟩:=S.at' j y e1';rw[h1'] at h3;cases h3;have hfr:=S.fsf y (vX e1');have hk:=S.free (y,.free) (mem_lookup hfr) rfl;obtain⟨mm,hm,hl⟩:=I.loc;have vis:Vis X.env.scope y:=by
    rcases hk with k|k
    ·exact .inr (.inl k)
    ·exact .inr (.inr k)
   obtain⟨u,r,l⟩:=hl i y v h4 h2' vis;refine⟨u,r,?_⟩
   rcases l with ⟨k,_⟩|⟨_,c,hc,hcell⟩
   ·have k:X.env.kindOf y=some .local:=k
    rcases hk with k' | k' <;>rw[k] at k' <;>cases k'
   ·obtain⟨c',hc'⟩:=clhas (y,.free) (mem_lookup hfr) rfl
    have:=clsub y c' hc';rw[hc] at this;cases this;obtain⟨oc,hoc,hod⟩:=hcell;refine .inr ⟨?_,c,hc',oc,old c oc hoc,hod⟩;exact dD (env:=X.env) hfr
 ·obtain⟨v,oc,hoc,hod⟩:=I.cell y c (clsub y c e)
  exact⟨v,oc,old c oc hoc,hod⟩
 ·show (List.replicate ts.length none++bG σ is).length=(ts++fs).length
  rw[vd,vd,wj];unfold bG;rw[uR,S.len]
def k7 (fsc:Scope)(N:List Str)(scope:Scope)(ts:List Str)(fs:List Str)(is:List Nat):Bool:=
 scope.kind == .function&&scope.names.all (λ y=>!(y.2 == .cell))&&scope.names.all (λ y=>!(y.2 == .local) || scope.names.lookup y.1 == some .local)&&ts.all (λ x=>scope.names.lookup x == some .local)&&decide (ts++fs).Nodup &&
 scope.names.all (λ y=>!(y.2 == .free) || (fsc.names.lookup y.1 == some .cell || fsc.names.lookup y.1 == some .free))&&fs.all (λ y=>scope.names.lookup y == some .free)&&is.length == fs.length&&(fs.zip is).all (λ p=>N[p.2]? == some p.1)
theorem be {X:Cx}{fsc:Scope}{N:List Str}{scope:Scope}{ts:List Str}{fs:List Str}{is:List Nat}(h1:X.env.scope=fsc)(h2:X.N=N)(h:k7 fsc N scope ts fs is=true):CompNamesT X scope ts fs is:=by
 subst h1 h2;unfold k7 at h;simp only[vi] at h;obtain⟨⟨⟨⟨⟨⟨⟨⟨a1,a2⟩,a3⟩,a4⟩,a5⟩,a6⟩,a7⟩,a8⟩,a9⟩:=h;refine⟨by simpa using a1,λ y hy=>?_,λ y hy hl=>?_,λ t ht=>(by simpa using List.all_eq_true.mp a4 t ht),by simpa using a5,λ y hy hf=>?_,λ y hy=>?_,by simpa using a8,λ j y hj=>?_⟩
 ·have:=List.all_eq_true.mp a2 y hy
  simpa using this
 ·have:=List.all_eq_true.mp a3 y hy
  simpa[hl] using this
 ·have:=List.all_eq_true.mp a6 y hy
  show X.env.scope.names.lookup y.1=some .cell\/X.env.scope.names.lookup y.1=some .free
  simpa[hf] using this
 ·have:=List.all_eq_true.mp a7 y hy
  simpa using this
 ·have hl:is.length=fs.length:=by simpa using a8
  have hjl:j<fs.length:=(List.getElem?_eq_some_iff.mp hj).1;refine⟨is[j]'⋯,by simp,?_⟩;have hm:(y,is[j]'⋯)∈fs.zip is:=by
   have e1:fs[j]=y:=(List.getElem?_eq_some_iff.mp hj).2;have:(fs.zip is)[j]'(by rw[List.length_zip];omega)=(y,is[j]'⋯):=by rw[List.getElem_zip,e1]
   rw[<- this];exact vN _
  have:=List.all_eq_true.mp a9 _ hm;simpa using this
section
variable {C:Ctx}{a b c e k:Expr}{f g h:EE}{F G:SS}{pos pos':Pos}{E:Ends}
theorem oT {l:List Int}{i:Nat}(h:i<l.length):l.getD i 0∈l:=by
 rw[uT,uV h];exact vN h
theorem oK {l:List Int}{a:Int}(h:a∈l):∃ j,j<l.length/\l.getD j 0=a:=by
 obtain⟨j,hj,rfl⟩:=vC h;exact⟨j,hj,by rw[uT,uV hj];rfl⟩
theorem md {X:Cx}(hc:X.calm=true):cy X (.builtin "max") (λ xs H Q=>∃ p,∃ ns:List Int,xs=[.ref p]/\SqX X.K H p (ns.map V.int)/\0<ns.length/\∀ M,M∈ns->(∀ a∈ns,a<=M)->Q (.int M) H):=by
 intro pins s σ H xs us Q I r h;obtain⟨p,ns,rfl,hq,hne,q⟩:=h;obtain⟨u,rfl,rx⟩:=vals1 r;cases rx;obtain⟨its,n,rv,e,z⟩:=Inv.listX I hq;have hi:=intsAre_of rv;obtain⟨xs,ex⟩:=hi.allInts.items;have hns:ns=xs.toList.map (·.1):=by rw[<- hi.numsOf,<- nums_intItems,<- ex]
 have hsz:0<xs.size:=by
  have h3:=hne;rw[hns,uR,yI] at h3;exact h3
 have hl':s.heap.IsList p (intItems xs):=ex▸⟨_,e,rfl,n,rfl⟩;refine max_intList (I.ok.hd hc) hl' hsz λ v h' tk hv hk=>?_
 obtain⟨t,rfl⟩:=Cn hv;obtain⟨h1,h2⟩:=argBest_gt (numAt xs) (xs.size-1);refine⟨.int _,H,I.kept hk,⟨t,rfl⟩,q _ ?_ λ a ha=>?_⟩
 ·rw[hns,Cu]
  refine oT ?_
  rw[uR,yI];omega
 ·rw[hns] at ha
  obtain⟨j,hj,rfl⟩:=oK ha;rw[uR,yI] at hj;rw[<- Cu];exact h2 j ⋯
theorem iI:∀ (r:List Int) (a:Int),Dv.minI a r∈a::r/\∀ b∈a::r,Dv.minI a r<=b
 | [],a=>⟨uY ..,λ b hb=>by simp at hb;subst hb;exact wc _⟩
 | x::r,a=>by
  unfold Dv.minI;by_cases hx:x<a
  ·rw[if_pos hx]
   obtain⟨h1,h2⟩:=iI r x;refine⟨uU _ h1,λ b hb=>?_⟩;have h0:=h2 _ (uY ..)
   rcases List.mem_cons.mp hb with rfl|hb
   ·omega
   ·exact h2 b hb
  ·rw[if_neg hx]
   obtain⟨h1,h2⟩:=iI r a;refine⟨?_,λ b hb=>?_⟩
   ·rcases List.mem_cons.mp h1 with h|h
    ·rw[h];exact uY ..
    ·exact uU _ (uU _ h)
   ·have h0:=h2 _ (uY ..)
    rcases List.mem_cons.mp hb with rfl|hb
    ·exact h0
    ·rcases List.mem_cons.mp hb with rfl|hb
     ·omega
     ·exact h2 b (uU _ hb)
end
end Sd
namespace Dv
def iRev (a:EE):EI:=λ ρ=>match a ρ with
 | .ok (.lst xs) _=>.ok xs.reverse true
 | .exc c=>.exc c
 | _=>.bad
def inG (neg:Bool):D->D->R
 | a,.lst ds=>if decide (depthL ds<=8)&&decide (depthD a<=8)&&decide (ds.length<=mx) then match eqsD ds a with
   | some bs=>.ok (.bl (if neg then !(bs.any id) else bs.any id)) true
   | none=>.bad
  else .bad
 | _,_=>.bad
def sUnpackL (is:List Nat)(xs:List Nat)(e:EE):SS:=λ st=>match e (open_ (give is st)) with
 | .ok (.lst ds) _=>if ds.length=xs.length then .nx (setAll xs ds (give is st)) else .bad
 | .exc c=>.exc c st
 | _=>.bad
end Dv
namespace Sd
open PySem PySem.Spec PyProof.Rows L2
open Dv (D R RL EE EL EI RI Sl Out SS)
section
variable {C:Ctx}{a b c e:Expr}{f g h:EE}{F:SS}{pos pos':Pos}
theorem kQ:∀ {ds:List D} {d:D} {bs:List Bool},Dv.eqsD ds d=some bs->(pdL ds).any (λ y=>zX y (pd d))=bs.any id
 | [],d,bs,h=>by simp[Dv.eqsD] at h;subst h;simp[pdL]
 | x::r,d,bs,h=>by
  unfold Dv.eqsD at h;cases h1:Dv.eqD x d with
  | none=>rw[h1] at h;cases h
  | some p=>
   cases h2:Dv.eqsD r d with
   | none=>rw[h1,h2] at h;cases h
   | some q=>
    rw[h1,h2] at h;cases h;simp only[pdL,w8,ir x d p h1,kQ h2,id]
def tN (K:yC)(neg:Bool):R2:=λ x y H Q=>∃ d ds bs,Rp K H d x/\Rp K H (.lst ds) y/\Dv.depthD d<=8/\Dv.depthL ds<=8/\Dv.eqsD ds d=some bs/\Q (.bl (if neg then !(bs.any id) else bs.any id)) H
theorem so (hu:C.X.A.units+64<cLine):OpR C.X (compareOp .In) (tN C.X.K false):=by
 intro pins s σ H x y v u Q I rx ry h;obtain⟨d,ds,bs,h1,h2,z1,z2,e,q⟩:=h;obtain⟨as,ra⟩:=bO I d x v h1 rx ⋯;obtain⟨bs',rb⟩:=bO I (.lst ds) y u h2 ry (by unfold Dv.depthD;omega);unfold pd at rb;refine SeqAt.in_list_reads rb ra (e9 ds) (ee d) ?_ ⟨.bl _,H,I,?_,q⟩
 ·have:=cP ds
  have:=xy (AK (pdL ds)) (pd d).depth;omega
 ·rw[kQ e];rfl
theorem mT {neg:Bool}{x y:V}{d d':D}{H Hv H1 Hv1:Hp}{W:XK}{Q:VK}(e:Ext Hv H Hv1 H1)(rx:Rp C.X.K Hv1 d x)(ry:Rp C.X.K Hv1 d' y)(q:Ok C.X.K Hv H W C.cls (Dv.inG neg d d') Q):tN C.X.K neg x y H1 Q:=by
 cases d' with
 | lst ds=>
  simp only[Dv.inG] at q;by_cases hz:(decide (Dv.depthL ds<=8)&&decide (Dv.depthD d<=8)&&decide (ds.length<=Dv.mx))=true
  ·simp only[hz,if_true] at q
   simp only[vi,decide_eq_true_eq] at hz;cases he:Dv.eqsD ds d with
   | none=>rw[he] at q;exact Zf q
   | some bs=>
    rw[he] at q;exact⟨d,ds,bs,rx.same e.vh,ry.same e.vh,hz.1.2,hz.1.1,he,Ok.at (d:=.bl _) (fr:=true) q e fR rfl⟩
  ·simp only[hz] at q
   exact Zf q
 | _=>exact Zf q
theorem sV:OpS C (compareOp .In) (Dv.inG false):=⟨_,so C.un,λ x y d d' H Hv H1 Hv1 W Q e rx ry q=>mT e rx ry q⟩
theorem nP (ha:SE C a f)(hb:SE C b g)(hm:autoParam (behindInMarks .In b=false) ZI._auto_1):SC C (.Compare a [.In] [b] pos) (Dv.eB2 (Dv.inG false) f g):=fk sV ha hb hm
end
section
variable {prog:Program}{w:World}{A:Around}{E:Value->Shared->Prop}
theorem gr {it t:Addr}{items:Array Value}(hne:t≠it):∀ (n i:Nat) (s:Shared) (Q:List Value->Shared->Prop),s.heap.IsListIter it t i->s.heap.IsList t items->i+n<=items.size ->
  (∀ h',h'.IsListIter it t (i+n)->zQ it s.heap h'->Q ((items.toList.drop i).take n) { s with heap:=h' })->wpAny (model prog w) A (draw (.ref it) n) Q E s
 | 0,i,s,Q,hit,_,_,hQ=>by
  show wpAny _ _ (pure []) Q E s
  exact yD (by simpa using hQ s.heap hit (Heap.SameBut.refl ..))
 | n+1,i,s,Q,hit,ht,hle,hQ=>by
  have hlt:i<items.size:=⋯
  show wpAny _ _ (pyNext (.ref it) >>= _) Q E s
  refine yB (Ao hit ht (x:=items[i]) (by simp[hlt]) λ h₁ hit₁ hs₁=>?_);refine yB (y0 (gr hne n (i+1) _ _ hit₁ (ht.at λ o e=>(hs₁.2 t hne).trans e) ⋯ λ h₂ hit₂ hs₂=>yD ?_));have hd:items.toList.drop i=items[i]::items.toList.drop (i+1):=by simp[wb,hlt]
  have:=hQ h₂ (by rw[show i+(n+1)=i+1+n by omega];exact hit₂) (hs₁.trans hs₂);rw[hd,List.take_succ_cons] at this;exact this
theorem dQ {s:Shared}{t:Addr}{items:Array Value}{Q:List Value->Shared->Prop}(hh:A.handled=none)(ht:s.heap.IsList t items)
  (hQ:∀ h',Co s.heap.objs.size s.heap h'->Q items.toList { s with heap:=h' }):wpAny (model prog w) A (unpackItems (.ref t) items.size none) Q E s:=by
 have hlt:t≠s.heap.objs.size:=by obtain⟨o,ho,_⟩:=ht;exact u9 (yG ho)
 unfold unpackItems;refine yB ?_
 ·unfold notIterableAtAll
  refine yB (AL ht.typeIs slot_list_iter.lookup ?_);refine yD ?_
  simp only[u4,if_false];refine yB (y0 (A8 ht ?_));refine yB (y0 (gr hlt items.size 0 _ _ ⟨_,yL _ rfl,rfl,rfl⟩ (ht.at λ o e=>yE _ e) ⋯ λ h₁ hit₁ hs₁=>?_));have hall:List.take items.size (List.drop 0 items.toList)=items.toList:=by
   rw[yi];exact wg (by simp)
  rw[hall];rw[if_neg (by simp)];have ht₁:h₁.IsList t items:=ht.at λ o e=>(hs₁.2 t hlt).trans (yE _ e)
  refine yB (y0 (AA hh hit₁ ht₁ (by simp) λ h₂ he₂=>?_));simp only[Option.isSome_none,u4,if_false];refine yD (hQ h₂ λ b o hb e=>he₂ b o hb (hs₁.extBut b o hb (yE _ e)))
theorem dg {s:Shared}{env:za}{elts:List Expr}{x1}{pos:Pos}{t:Addr}{items:Array Value}{Q:Unit->Shared->Prop}(hh:A.handled=none)(ht:s.heap.IsList t items)
  (hn:(assignEach elts env).length=items.size) (hstar:(assignEach elts env).findIdx? (·.1)=none)
  (h:∀ h',Co s.heap.objs.size s.heap h'->wpAny (model prog w) A (assignInOrder ((assignEach elts env).map (·.2)) items.toList) Q E { s with heap:=h' }):
  wpAny (model prog w) A (assign (.Tuple elts x1 pos) env (.ref t)) Q E s:=by
 rw[assign_Tuple];refine yB (A3 ?_);unfold unpack;rw[hn,hstar];exact yB (y0 (dQ hh ht h))
end
def uF (K:yC)(n:Nat)(t:TGs):TG:=λ v σ H Q=>∃ a xs,v=.ref a/\SqL K H a xs/\xs.length=n/\t xs σ H Q
theorem rV {X:Cx}{es:List Expr}{k:Nat}{t:TGs}{n:Nat}{pos:Pos}(hc:X.calm=true)(h:PGs X es t)
  (hn:autoParam ((assignEach es X.env).length=n) ZE._auto_1) (hst:autoParam ((assignEach es X.env).findIdx? (·.1)=none) ZE._auto_1):PG X (.Tuple es k pos) (uF X.K n t):=by
 intro pins s σ H v u Q I r hw;obtain⟨a,xs,e1,hq,hl,hw⟩:=hw;subst e1;cases r;obtain⟨its,rv,ht,hz⟩:=I.list hq;refine dg (I.ok.hd hc) ht.isList (by simp[hn,<- hl,rv.length]) hst λ h' hx=>?_
 have I1:Inv X pins σ H { s with heap:=h' }:=I.kept (t':=s.toks) λ b o e=>hx b o (u9 (yG e)) e
 exact h pins _ σ H xs _ Q I1 (by simpa using rv) hw
section
variable {C:Ctx}{e:Expr}{f:EE}{pos:Pos}
theorem ko (is:List Nat){ts:List Expr}{xs:List Nat}{kt:Nat}{tpos:Pos}(he:SE C e f)(hg:SGs C ts xs)(hl:ts.length=xs.length)(hn:autoParam ((assignEach ts C.X.env).length=ts.length) ZE._auto_1)(hst:autoParam ((assignEach ts C.X.env).findIdx? (·.1)=none) ZE._auto_1)
  (hs:autoParam (swapsWithSole [.Tuple ts kt tpos] e pos.line C.X.env=pure false) ZE._auto_1) (hw:autoParam (swappedStores [.Tuple ts kt tpos] e C.X.env=pure none) ZE._auto_1) (h1:autoParam ((assignEach [.Tuple ts kt tpos] C.X.env).map (·.2)=[assign (.Tuple ts kt tpos) C.X.env]) ZE._auto_1) (hcl:autoParam (C.X.calm=true) ZE._auto_1):
  SSt C (.Assign [.Tuple ts kt tpos] e pos) (Dv.sUnpackL is xs f):=by
 obtain⟨t,p,q⟩:=he;obtain⟨g,pg,qg⟩:=hg;refine⟨_,sJ p (rV hcl pg hn hst) hs hw h1,λ Hv₀ H₀ E σ H st ⟨Hc0,O0,r0⟩ w=>?_⟩;obtain⟨Hc,O,_,r⟩:=r0.give is;unfold Dv.sUnpackL at w;refine q.open r (λ c hf Hc' H' x=>?_) (λ hf=>?_) λ d fr v Hc' H' hf x r' rp=>?_
 ·simp only[hf] at w;exact w σ H' ⟨Hc0,O0,r0.grow x.hh x.nf⟩
 ·simp only[hf] at w;exact w
 ·simp only[hf] at w
  cases d with
  | lst ds=>
   by_cases hz:ds.length=xs.length
   ·simp only[hz,if_true] at w
    unfold Rp at rp;obtain⟨a,vs,rfl,h2,h3⟩:=rp;exact⟨a,vs,rfl,(h2.same x.vh).seq,by rw[h3.length,hz,hl],qg Hv₀ H₀ Hc' O H' σ _ ds vs _ r' h3 hz λ σ' r2=>w σ' H' ⟨Hc',O,r2⟩⟩
   ·simp only[hz,if_false] at w;exact Zf w
  | _=>exact Zf w
end
end Sd
namespace Dv
structure Wy where
 st:D
 pl:List Int
def Wy.d (w:Wy):D:=.tup [w.st,.lst (w.pl.map .int)]
def wyL (ws:List Wy):D:=.lst (ws.map Wy.d)
def wysD (ws:List (List Wy)):D:=.lst (ws.map wyL)
inductive An where
 | non
 | twi (p:Int)
 | row (k:Nat)
def uB:List Nat:=[116,119,105,99,101]
def uM:List Nat:=[114,111,119]
def An.d:An->D
 | .non=>.non
 | .twi p=>.tup [.str uB,.int p]
 | .row k=>.tup [.str uM,.int k]
structure Cs where
 laid:List Wy
 ix:Nat
 at_:Nat
structure Ws where
 wys:List (List Wy)
 wait:List Cs
 rows:List (Int×Nat)
 sto:List (List An)
 gone:Nat
inductive WR where
 | many
 | bad
 | full (w:Ws) (d:D) (fr:Bool)
 | row (w:Ws)
structure Wk where
 fp:List D->R
 fs:EE
 fl:EE
 ft:EE
def w0 (wys:List (List Wy))(laid:List Wy):Ws:=⟨wys,[⟨laid,0,0⟩],[],[[.non]],0⟩
inductive PR where
 | ok (wys:List (List Wy)) (laid:List Wy)
 | exc (c:String)
 | bad
end Dv
namespace Sd
open PySem PySem.Spec PyProof.Rows L2
open Dv (D R RL EE EL EI RI Sl Out SS Wy An Cs Ws WR Wk)
def wf (wa wl rl:Addr)(g:Int):List (Str×V):=[("ways",.ref wa),("waiting",.ref wl),("rows",.ref rl),("gone",.int g)]
def cf (lb b:Addr)(t:Int):List (Str×V):=[("laid",.ref lb),("answers",.ref b),("at",.int t)]
def uO:Str:="twice"
def uw:Str:="row"
def uN (Hs H₀:Hp):An->V->Prop
 | .non,v=>v=.non
 | .twi p,v=>∃ q,v=.ref q/\Hs q=some (.tup [.str uO,.int p])/\H₀ q=none
 | .row k,v=>∃ q,v=.ref q/\Hs q=some (.tup [.str uw,.int k])/\H₀ q=none
def tF (Hs H₀:Hp)(an:List Addr)(p:Int×Nat)(v:V):Prop:=∃ r b,v=.ref r/\Hs r=some (.tup [.int p.1,.ref b])/\H₀ r=none/\an[p.2]?=some b
def uy (K:yC)(CC:Addr)(Hs:Hp)(an:List Addr)(c:Cs)(v:V):Prop:=∃ x dc lb b,v=.ref x/\Hs x=some (.ins CC dc (cf lb b c.at_))/\Rp K Hs (Dv.wyL c.laid) (.ref lb)/\an[c.ix]?=some b
def uu (Hs H₀ H:Hp)(l:List An)(b:Addr):Prop:=∃ vs,H b=some (.lst vs)/\Paired (uN Hs H₀) l vs
structure WkAt (K:yC)(CW CC:Addr)(Hs H H₀:Hp)(a wl rl:Addr)(an:List Addr)(w:Ws):Prop where
 sv:Same Hs H
 oh:Same H₀ H
 nd:(a::wl::rl::an).Nodup
 no:∀ b∈a::wl::rl::an,Hs b=none/\H₀ b=none
 slf:∃ dx wa,H a=some (.ins CW dx (wf wa wl rl w.gone))/\Rp K Hs (Dv.wysD w.wys) (.ref wa)
 wai:∃ vs,H wl=some (.lst vs)/\Paired (uy K CC Hs an) w.wait vs
 row:∃ vs,H rl=some (.lst vs)/\Paired (tF Hs H₀ an) w.rows vs
 sto:Paired (uu Hs H₀ H) w.sto an
theorem Paired.memR {α β:Type}{F:α->β->Prop}{l:List α}{r:List β}(h:Paired F l r):∀ b∈r,∃ a∈l,F a b:=by
 induction h with
 | nil=>intro b hb;cases hb
 | cons x _ ih=>
  intro b hb
  rcases List.mem_cons.mp hb with rfl|hb
  ·exact⟨_,uY,x⟩
  ·obtain⟨a,h1,h2⟩:=ih b hb
   exact⟨a,uU _ h1,h2⟩
section
variable {K:yC}{CW CC:Addr}{Hs Hs' H H' H₀:Hp}{a wl rl:Addr}{an:List Addr}{w:Ws}
theorem Paired.mapM {α β:Type}{F G:α->β->Prop}{l:List α}{r:List β}(h:Paired F l r)(f:∀ a b,b∈r->F a b->G a b):Paired G l r:=by
 induction h with
 | nil=>exact .nil
 | cons x _ ih=>exact .cons (f _ _ uY x) (ih λ a b hb q=>f a b (uU _ hb) q)
theorem WkAt.has (x:WkAt K CW CC Hs H H₀ a wl rl an w):∀ b∈a::wl::rl::an,∃ o,H b=some o:=by
 intro b hb
 rcases List.mem_cons.mp hb with rfl|hb
 ·obtain⟨_,_,h,_⟩:=x.slf;exact⟨_,h⟩
 rcases List.mem_cons.mp hb with rfl|hb
 ·obtain⟨_,h,_⟩:=x.wai;exact⟨_,h⟩
 rcases List.mem_cons.mp hb with rfl|hb
 ·obtain⟨_,h,_⟩:=x.row;exact⟨_,h⟩
 ·obtain⟨_,_,_,h,_⟩:=Paired.memR x.sto b hb;exact⟨_,h⟩
end
theorem Paired.gets {α β:Type}{F:α->β->Prop}{l:List α}{r:List β}(h:Paired F l r):∀ {i:Nat} {x:α},l[i]?=some x->∃ y,r[i]?=some y/\F x y:=by
 induction h with
 | nil=>intro i x e;simp at e
 | cons q _ ih=>
  intro i x e;cases i with
  | zero=>simp at e;subst e;exact⟨_,rfl,q⟩
  | succ i=>obtain⟨y,h1,h2⟩:=ih (by simpa using e);exact⟨y,by simpa using h1,h2⟩
section
variable {K:yC}{CW CC:Addr}{Hs Hs' H H' H₀:Hp}{a wl rl ab fb:Addr}{an:List Addr}{w:Ws}{as:List An}{fnd:List (List Wy×Nat)}
theorem WkAt.ne (x:WkAt K CW CC Hs H H₀ a wl rl an w):a≠wl/\a≠rl/\wl≠rl/\a∉an/\wl∉an/\rl∉an/\an.Nodup:=by
 have h:=x.nd;simp only[vT,xb,not_or] at h;exact⟨h.1.1,h.1.2.1,h.2.1.1,h.1.2.2,h.2.1.2,h.2.2.1,h.2.2.2⟩
end
open Dv (D R RL EE EL EI RI Sl Out SS Wy An Cs Ws WR Wk PR)
theorem k9:∀ {ds:List D} {ns:List Int},Dv.intsOf ds=some ns->ds=ns.map .int
 | [],ns,h=>by simp[Dv.intsOf] at h;subst h;rfl
 | d::r,ns,h=>by
  cases d with
  | int i=>
   simp only[Dv.intsOf,we] at h;obtain⟨ms,h1,rfl⟩:=h;rw[k9 h1];rfl
  | _=>simp[Dv.intsOf] at h
open PySem PySem.W PyProof.Rows
def ev {α:Type}(c:Nat->Nat->Bool):KasT α->α
 | .ret a=>a
 | .ask i j k=>ev c (k (c i j))
theorem cO {α β:Type}(c:Nat->Nat->Bool)(f:α->KasT β):∀ t:KasT α,ev c (t.bind f)=ev c (f (ev c t))
 | .ret _=>rfl
 | .ask i j k=>cO c f (k (c i j))
def inn {α:Type}(n:Nat)(c:Nat->Nat->Bool):KasT α->Prop
 | .ret _=>True
 | .ask i j k=>i<n/\j<n/\inn n c (k (c i j))
theorem bY {α β:Type}{n:Nat}{c:Nat->Nat->Bool}{f:α->KasT β}:∀ {t:KasT α},inn n c t->inn n c (f (ev c t))->inn n c (t.bind f)
 | .ret _,_,h=>h
 | .ask i j k,⟨h1,h2,h3⟩,h=>⟨h1,h2,bY h3 h⟩
theorem rB {α:Type}{n:Nat}{c:Nat->Nat->Bool}{cmp:Nat->Nat->(Bool->Shared->Prop)->Shared->Prop}{s:Shared}(hc:∀ i j C,i<n->j<n->C (c i j) s->cmp i j C s):∀ {t:KasT α} {Q:α->Shared->Prop},inn n c t->Q (ev c t) s->t.kasWp cmp Q s
 | .ret _,_,_,h=>h
 | .ask i j k,Q,⟨h1,h2,h3⟩,h=>hc i j _ h1 h2 (rB hc h3 h)
section
variable {key:Nat->Int}{n:Nat}
abbrev cK (key:Nat->Int):Nat->Nat->Bool:=λ i j=>decide (key i<key j)
def KA (key:Nat->Int)(p:Array Nat)(k:Nat):Int:=key (p.getD k 0)
def Pm (n:Nat)(p:Array Nat):Prop:=p.size=n/\p.toList.Perm (List.range n)
theorem Pm.lt {p:Array Nat}(h:Pm n p){k:Nat}(hk:k<n):p.getD k 0<n:=by
 have hs:k<p.size:=by rw[h.1];exact hk
 have e:p.getD k 0=p[k]:=by simp[yU,hs]
 rw[e];have:p[k]∈p.toList:=by simp
 exact List.mem_range.mp (h.2.mem_iff.mp this)
theorem Pm.of {p q:Array Nat}(h:Pm n p)(e:q.Perm p):Pm n q:=⟨e.size_eq.trans h.1,(Array.perm_iff_toList_perm.mp e).trans h.2⟩
theorem i7 {p q:Array Nat}{i j:Nat}(h:p[i]?=q[j]?):KA key p i=KA key q j:=by
 unfold KA;congr 1;have g:∀ (r:Array Nat) (k:Nat),r.getD k 0=(r[k]?).getD 0:=λ r k=>by
  by_cases hk:k<r.size <;>simp[yU,hk]
 rw[g,g,h]
theorem ka {p:Array Nat}{i j:Nat}(hj:j<=p.size)(k:Nat):KA key (kas_rev p i j) k=if i<=k/\k<j then KA key p (i+j-1-k) else KA key p k:=by
 have e:=getElem?_mirror_all (i:=i) hj k;unfold kas_rev
 split
 ·rename_i h;rw[if_pos h] at e;exact i7 e
 ·rename_i h;rw[if_neg h] at e;exact i7 e
theorem Pm.rev {p:Array Nat}(h:Pm n p)(i j:Nat):Pm n (kas_rev p i j):=h.of (mirror_perm _ _ _ _)
def Up (key:Nat->Int)(p:Array Nat)(m:Nat):Prop:=∀ i j,i<=j->j<m->KA key p i<=KA key p j
def Dn (key:Nat->Int)(p:Array Nat)(m:Nat):Prop:=∀ i j,i<=j->j<m->KA key p j<=KA key p i
theorem Up.step {p:Array Nat}{m:Nat}(h:Up key p m)(h1:1<=m)(q:KA key p (m-1)<=KA key p m):Up key p (m+1):=λ i j hij hj=>by
 by_cases e:j=m
 ·subst e
  by_cases e2:i=j
  ·subst e2;exact wc _
  ·exact yu (h i (j-1) ⋯ ⋯) q
 ·exact h i j hij ⋯
theorem Dn.step {p:Array Nat}{m:Nat}(h:Dn key p m)(h1:1<=m)(q:KA key p m<=KA key p (m-1)):Dn key p (m+1):=λ i j hij hj=>by
 by_cases e:j=m
 ·subst e
  by_cases e2:i=j
  ·subst e2;exact wc _
  ·exact yu q (h i (j-1) ⋯ ⋯)
 ·exact h i j hij ⋯
theorem ke {p:Array Nat}(hp:Pm n p):∀ (f m:Nat),1<=m->m+f<=n->Up key p m->inn n (cK key) (kas_asc p f m)/\m<=ev (cK key) (kas_asc p f m)/\ev (cK key) (kas_asc p f m)<=m+f/\Up key p (ev (cK key) (kas_asc p f m))/\(ev (cK key) (kas_asc p f m)<m+f->KA key p (ev (cK key) (kas_asc p f m))<KA key p (ev (cK key) (kas_asc p f m)-1))
 | 0,m,_,_,hu=>⟨trivial,u5 _,u5 _,hu,λ h=>absurd h (by simp[kas_asc,ev])⟩
 | f+1,m,h1,hm,hu=>by
  have ha:=hp.lt (k:=m) ⋯;have hb:=hp.lt (k:=m-1) ⋯;unfold kas_asc;simp only[ev,inn];by_cases hc:KA key p m<KA key p (m-1)
  ·have e:cK key (p.getD m 0) (p.getD (m-1) 0)=true:=decide_eq_true hc
   rw[e];simp only[if_true,ev,inn];exact⟨⟨ha,hb,trivial⟩,u5 _,⋯,hu,λ _=>hc⟩
  ·have e:cK key (p.getD m 0) (p.getD (m-1) 0)=false:=decide_eq_false hc
   rw[e];simp only[u4,if_false];obtain⟨a1,a2,a3,a4,a5⟩:=ke hp f (m+1) ⋯ ⋯ (hu.step h1 ⋯);exact⟨⟨ha,hb,a1⟩,⋯,⋯,a4,λ h=>a5 ⋯⟩
theorem fW {p:Array Nat}{i j:Nat}(hj:j<=p.size)(h:∀ k,i<=k->k<j->KA key p k=KA key p (j-1))(k:Nat):KA key (kas_rev p i j) k=KA key p k:=by
 rw[ka hj]
 split
 ·rename_i hk;rw[h _ ⋯ ⋯,h k hk.1 hk.2]
 ·rfl
theorem Dn.congr {p q:Array Nat}{m:Nat}(h:Dn key p m)(e:∀ k,KA key q k=KA key p k):Dn key q m:=λ i j a b=>by rw[e,e];exact h i j a b
theorem eX:∀ (f:Nat) (p:Array Nat) (m q:Nat),Pm n p->1<=m->m+f<=n->q+1<=m->Dn key p m->(∀ k,m-(q+1)<=k->k<m->KA key p k=KA key p (m-1)) ->
  inn n (cK key) (zy f p m q)/\Pm n (ev (cK key) (zy f p m q)).1/\m<=(ev (cK key) (zy f p m q)).2.1/\(ev (cK key) (zy f p m q)).2.1<=m+f/\(ev (cK key) (zy f p m q)).2.2+1<=(ev (cK key) (zy f p m q)).2.1 /\
  Dn key (ev (cK key) (zy f p m q)).1 (ev (cK key) (zy f p m q)).2.1/\∀ k,(ev (cK key) (zy f p m q)).2.1-((ev (cK key) (zy f p m q)).2.2+1)<=k->k<(ev (cK key) (zy f p m q)).2.1->KA key (ev (cK key) (zy f p m q)).1 k=KA key (ev (cK key) (zy f p m q)).1 ((ev (cK key) (zy f p m q)).2.1-1)
 | 0,p,m,q,hp,h1,hm,hq,hd,he=>⟨trivial,hp,u5 _,u5 _,hq,hd,he⟩
 | f+1,p,m,q,hp,h1,hm,hq,hd,he=>by
  have ha:=hp.lt (k:=m) ⋯;have hb:=hp.lt (k:=m-1) ⋯;unfold zy;simp only[ev,inn];by_cases hc:KA key p m<KA key p (m-1)
  ·have e:cK key (p.getD m 0) (p.getD (m-1) 0)=true:=decide_eq_true hc
   rw[e];simp only[if_true];by_cases h0:q > 0
   ·rw[if_pos h0]
    have ek:∀ k,KA key (kas_rev p (m-(q+1)) m) k=KA key p k:=fW (by rw[hp.1];omega) he;obtain⟨a1,a2,a3,a4,a5⟩:=eX f (kas_rev p (m-(q+1)) m) (m+1) 0 (hp.rev _ _) ⋯ ⋯ ⋯ ((hd.congr ek).step h1 (by rw[ek,ek];omega)) λ k k1 k2=>by
     rw[show k=m+1-1 by omega]
    exact⟨⟨ha,hb,a1⟩,a2,⋯,⋯,a5⟩
   ·rw[if_neg h0]
    obtain⟨a1,a2,a3,a4,a5⟩:=eX f p (m+1) 0 hp ⋯ ⋯ ⋯ (hd.step h1 ⋯) λ k k1 k2=>by
     rw[show k=m+1-1 by omega]
    exact⟨⟨ha,hb,a1⟩,a2,⋯,⋯,a5⟩
  ·have e:cK key (p.getD m 0) (p.getD (m-1) 0)=false:=decide_eq_false hc
   rw[e];simp only[u4,if_false,ev,inn];by_cases hc2:KA key p (m-1)<KA key p m
   ·have e2:cK key (p.getD (m-1) 0) (p.getD m 0)=true:=decide_eq_true hc2
    rw[e2];simp only[if_true,ev,inn];exact⟨⟨ha,hb,hb,ha,trivial⟩,hp,u5 _,⋯,hq,hd,he⟩
   ·have e2:cK key (p.getD (m-1) 0) (p.getD m 0)=false:=decide_eq_false hc2
    rw[e2];simp only[u4,if_false];have eq:KA key p m=KA key p (m-1):=⋯
    obtain⟨a1,a2,a3,a4,a5⟩:=eX f p (m+1) (q+1) hp ⋯ ⋯ ⋯ (hd.step h1 ⋯) λ k k1 k2=>by
     by_cases z:k=m
     ·subst z;rfl
     ·rw[he k ⋯ ⋯];exact eq.symm
    exact⟨⟨ha,hb,hb,ha,a1⟩,a2,⋯,⋯,a5⟩
theorem jm {p:Array Nat}{m nr:Nat}(hp:Pm n p)(h1:1<=m)(hm:m<=nr)(hn:nr<=n)(hd:Dn key p m):inn n (cK key) (zU m nr p)/\Pm n (ev (cK key) (zU m nr p)).2/\1<=(ev (cK key) (zU m nr p)).1/\(ev (cK key) (zU m nr p)).1<=nr/\Up key (ev (cK key) (zU m nr p)).2 (ev (cK key) (zU m nr p)).1:=by
 have hr:=hp.rev 0 m;have hu:Up key (kas_rev p 0 m) m:=λ i j hij hj=>by
  rw[ka (by rw[hp.1];omega),ka (by rw[hp.1];omega),if_pos ⋯,if_pos ⋯];exact hd _ _ ⋯ ⋯
 obtain⟨a1,a2,a3,a4,_⟩:=ke hr (nr-m) m h1 ⋯ hu;unfold zU;rw[cO];exact⟨bY a1 trivial,hr,by simp only[ev];omega,by simp only[ev];omega,a4⟩
theorem ej {p:Array Nat}{m nr:Nat}(hp:Pm n p)(h1:1<=m)(hm:m+1<=nr)(hn:nr<=n)(hd:Dn key p m)(hlt:KA key p m<KA key p (m-1)):
  inn n (cK key) (zC m nr p)/\Pm n (ev (cK key) (zC m nr p)).2/\1<=(ev (cK key) (zC m nr p)).1/\(ev (cK key) (zC m nr p)).1<=nr/\Up key (ev (cK key) (zC m nr p)).2 (ev (cK key) (zC m nr p)).1:=by
 obtain⟨a1,a2,a3,a4,a5,a6,a7⟩:=eX (key:=key) (nr-(m+1)) p (m+1) 0 hp ⋯ ⋯ ⋯ (hd.step h1 ⋯) λ k k1 k2=>by rw[show k=m+1-1 by omega]
 have k:∀ r:Array Nat×Nat×Nat,Pm n r.1->m+1<=r.2.1->r.2.1<=m+1+(nr-(m+1))->r.2.2+1<=r.2.1->Dn key r.1 r.2.1->(∀ k,r.2.1-(r.2.2+1)<=k->k<r.2.1->KA key r.1 k=KA key r.1 (r.2.1-1)) ->
   ∀ t,t=(if r.2.2 > 0 then zU r.2.1 nr (kas_rev r.1 (r.2.1-(r.2.2+1)) r.2.1) else zU r.2.1 nr r.1)->inn n (cK key) t/\Pm n (ev (cK key) t).2/\1<=(ev (cK key) t).1/\(ev (cK key) t).1<=nr/\Up key (ev (cK key) t).2 (ev (cK key) t).1:=by
  intro r a2 a3 a4 a5 a6 a7 t ht;subst ht;by_cases h0:r.2.2 > 0
  ·rw[if_pos h0]
   have ek:∀ k,KA key (kas_rev r.1 (r.2.1-(r.2.2+1)) r.2.1) k=KA key r.1 k:=fW (by rw[a2.1];omega) a7;exact jm (a2.rev (r.2.1-(r.2.2+1)) r.2.1) ⋯ (show r.2.1<=nr by omega) hn (a6.congr ek)
  ·rw[if_neg h0]
   exact jm a2 ⋯ (show r.2.1<=nr by omega) hn a6
 obtain⟨b1,b2⟩:=k _ a2 a3 a4 a5 a6 a7 _ rfl;unfold zC;rw[cO];exact⟨bY a1 b1,b2⟩
theorem oY {p:Array Nat}{nr:Nat}(hp:Pm n p)(h1:1<=nr)(hn:nr<=n):inn n (cK key) (AC nr p)/\Pm n (ev (cK key) (AC nr p)).2/\1<=(ev (cK key) (AC nr p)).1/\(ev (cK key) (AC nr p)).1<=nr/\Up key (ev (cK key) (AC nr p)).2 (ev (cK key) (AC nr p)).1:=by
 obtain⟨a1,a2,a3,a4,a5⟩:=ke (key:=key) hp (nr-1) 1 (u5 _) ⋯ (λ i j hij hj=>by rw[show i=j by omega];exact wc _);have k:∀ m,1<=m->m<=1+(nr-1)->Up key p m->(m<1+(nr-1)->KA key p m<KA key p (m-1))->∀ t:KasT (Nat×Array Nat),t=(if (m == nr)=true then CO (m,p) else if m > 1 then KasT.ask (p.getD 0 0) (p.getD (m-1) 0) λ c=>if c=true then CO (m,p) else zC m nr (kas_rev p 0 m) else zC m nr p) ->
   inn n (cK key) t/\Pm n (ev (cK key) t).2/\1<=(ev (cK key) t).1/\(ev (cK key) t).1<=nr/\Up key (ev (cK key) t).2 (ev (cK key) t).1:=by
  intro m m1 m2 mu ml t ht;subst ht;by_cases h0:(m == nr)=true
  ·rw[if_pos h0]
   exact⟨trivial,hp,m1,by simp at h0;simp only[ev];omega,mu⟩
  rw[if_neg h0];have hne:m≠nr:=by simpa using h0
  have hlt:=ml ⋯;by_cases h2:m > 1
  ·rw[if_pos h2]
   simp only[ev,inn];have ha:=hp.lt (k:=0) ⋯;have hb:=hp.lt (k:=m-1) ⋯;by_cases hc:KA key p 0<KA key p (m-1)
   ·have e:cK key (p.getD 0 0) (p.getD (m-1) 0)=true:=decide_eq_true hc
    rw[e];simp only[if_true,ev,inn];exact⟨⟨ha,hb,trivial⟩,hp,m1,⋯,mu⟩
   ·have e:cK key (p.getD 0 0) (p.getD (m-1) 0)=false:=decide_eq_false hc
    rw[e];simp only[u4,if_false];have fl:∀ k,0<=k->k<m->KA key p k=KA key p (m-1):=λ k _ hk=>by
     have z1:=mu 0 k ⋯ hk;have z2:=mu k (m-1) ⋯ ⋯;omega
    have ek:∀ k,KA key (kas_rev p 0 m) k=KA key p k:=fW (by rw[hp.1];omega) fl;obtain⟨b1,b2⟩:=ej (key:=key) (hp.rev 0 m) m1 (show m+1<=nr by omega) hn (λ i j hij hj=>by rw[ek,ek,fl i ⋯ ⋯,fl j ⋯ hj];exact wc _) (by rw[ek,ek];exact hlt);exact⟨⟨ha,hb,b1⟩,b2⟩
  ·rw[if_neg h2]
   exact ej hp m1 (show m+1<=nr by omega) hn (λ i j hij hj=>by rw[show i=j by omega];exact wc _) hlt
 obtain⟨b1,b2⟩:=k _ a2 a3 a4 a5 _ rfl;unfold AC;rw[cO];exact⟨bY a1 b1,b2⟩
theorem fZ {p:Array Nat}{k:Nat}(hp:Pm n p)(hk:k<n)(hu:Up key p k):∀ (f l r:Nat),l<=r->r<=k->r-l<=f->(∀ i,i<l->KA key p i<=KA key p k)->(∀ i,r<=i->i<k->KA key p k<KA key p i) ->
  inn n (cK key) (AD p k f l r)/\ev (cK key) (AD p k f l r)<=k/\(∀ i,i<ev (cK key) (AD p k f l r)->KA key p i<=KA key p k)/\∀ i,ev (cK key) (AD p k f l r)<=i->i<k->KA key p k<KA key p i
 | 0,l,r,h1,h2,h3,lo,hi=>⟨trivial,by simp only[AD,ev];omega,lo,λ i a b=>hi i (by simp only[AD,ev] at a;omega) b⟩
 | f+1,l,r,h1,h2,h3,lo,hi=>by
  unfold AD;by_cases hge:l ≥ r
  ·rw[if_pos hge]
   exact⟨trivial,by simp only[ev];omega,lo,λ i a b=>hi i (by simp only[ev] at a;omega) b⟩
  ·rw[if_neg hge]
   simp only[ev,inn];have ha:=hp.lt (k:=k) hk;have hb:=hp.lt (k:=(l+r)/2) ⋯;by_cases hc:KA key p k<KA key p ((l+r)/2)
   ·have e:cK key (p.getD k 0) (p.getD ((l+r)/2) 0)=true:=decide_eq_true hc
    rw[e];simp only[if_true];obtain⟨b1,b2⟩:=fZ hp hk hu f l ((l+r)/2) ⋯ ⋯ ⋯ lo λ i a b=>by
     have:=hu ((l+r)/2) i a b;omega
    exact⟨⟨ha,hb,b1⟩,b2⟩
   ·have e:cK key (p.getD k 0) (p.getD ((l+r)/2) 0)=false:=decide_eq_false hc
    rw[e];simp only[u4,if_false];obtain⟨b1,b2⟩:=fZ hp hk hu f ((l+r)/2+1) r ⋯ h2 ⋯ (λ i a=>by
     have:=hu i ((l+r)/2) ⋯ ⋯;omega) hi
    exact⟨⟨ha,hb,b1⟩,b2⟩
theorem gv {p:Array Nat}{k l:Nat}(hk:k<p.size)(hl:l<=k)(i:Nat):KA key (bubble p k (k-l)) i=if i=l then KA key p k else if l<i/\i<=k then KA key p (i-1) else KA key p i:=by
 have e:=getElem?_bubble hk (k-l) ⋯ i;rw[show k-(k-l)=l by omega] at e
 split
 ·rename_i h;rw[if_pos h] at e;exact i7 e
 ·rename_i h
  rw[if_neg h] at e
  split
  ·rename_i h2;rw[if_pos h2] at e;exact i7 e
  ·rename_i h2;rw[if_neg h2] at e;exact i7 e
theorem nI:∀ (f:Nat) (p:Array Nat) (k:Nat),Pm n p->k+f<=n->Up key p k->inn n (cK key) (kas_bin f p k)/\Pm n (ev (cK key) (kas_bin f p k))/\Up key (ev (cK key) (kas_bin f p k)) (k+f)
 | 0,p,k,hp,_,hu=>⟨trivial,hp,hu⟩
 | f+1,p,k,hp,hk,hu=>by
  obtain⟨a1,a2,a3,a4⟩:=fZ (key:=key) hp (show k<n by omega) hu k 0 k (vK _) (u5 _) ⋯ (λ i h=>absurd h ⋯) (λ i h1 h2=>absurd h1 ⋯);have q:∀ l,l<=k->(∀ i,i<l->KA key p i<=KA key p k)->(∀ i,l<=i->i<k->KA key p k<KA key p i)->inn n (cK key) (kas_bin f (bubble p k (k-l)) (k+1))/\Pm n (ev (cK key) (kas_bin f (bubble p k (k-l)) (k+1)))/\Up key (ev (cK key) (kas_bin f (bubble p k (k-l)) (k+1))) (k+(f+1)):=by
   intro l hl lo hi;have hs:k<p.size:=by rw[hp.1];omega
   have hu':Up key (bubble p k (k-l)) (k+1):=λ i j hij hj=>by
    rw[gv hs hl,gv hs hl];by_cases i1:i=l
    ·rw[if_pos i1]
     by_cases j1:j=l
     ·rw[if_pos j1];exact wc _
     ·rw[if_neg j1,if_pos ⋯]
      have:=hi (j-1) ⋯ ⋯;omega
    ·rw[if_neg i1]
     by_cases i2:l<i/\i<=k
     ·rw[if_pos i2,if_neg (show ¬ j=l by omega),if_pos ⋯]
      exact hu _ _ ⋯ ⋯
     ·rw[if_neg i2]
      by_cases j1:j=l
      ·rw[if_pos j1];exact lo i ⋯
      ·rw[if_neg j1]
       by_cases j2:l<j/\j<=k
       ·rw[if_pos j2];exact hu _ _ ⋯ ⋯
       ·rw[if_neg j2];exact hu _ _ hij ⋯
   obtain⟨b1,b2,b3⟩:=nI f (bubble p k (k-l)) (k+1) (hp.of (bubble_perm _ _ _)) ⋯ hu';exact⟨b1,b2,by rw[show k+(f+1)=k+1+f by omega];exact b3⟩
  obtain⟨b1,b2⟩:=q _ a2 a3 a4;unfold kas_bin;rw[cO];exact⟨bY a1 b1,b2⟩
theorem pO (h1:1<=n):inn n (cK key) (zY n)/\Pm n (ev (cK key) (zY n))/\Up key (ev (cK key) (zY n)) n:=by
 have h0:Pm n (List.toArray (List.range n)):=⟨by simp,List.Perm.refl _⟩;obtain⟨a1,a2,a3,a4,a5⟩:=oY (key:=key) h0 h1 (u5 n);have k:∀ r:Nat×Array Nat,Pm n r.2->1<=r.1->r.1<=n->Up key r.2 r.1->∀ t:KasT (Array Nat),t=(if r.1<n then kas_bin (n-max r.1 1) r.2 (max r.1 1) else CO r.2)->inn n (cK key) t/\Pm n (ev (cK key) t)/\Up key (ev (cK key) t) n:=by
  intro r b1 b2 b3 b4 t ht;subst ht;by_cases h:r.1<n
  ·rw[if_pos h,show max r.1 1=r.1 by omega]
   obtain⟨c1,c2,c3⟩:=nI (key:=key) (n-r.1) r.2 r.1 b1 ⋯ b4;exact⟨c1,c2,λ i j hij hj=>c3 i j hij ⋯⟩
  ·rw[if_neg h]
   exact⟨trivial,b1,λ i j hij hj=>b4 i j hij ⋯⟩
 obtain⟨b1,b2⟩:=k _ a2 a3 a4 a5 _ rfl;unfold zY;rw[cO];exact⟨bY a1 b1,b2⟩
end
open PySem PySem.W PySem.Calls PyProof.Rows
section
variable {prog:Program}{w:World}{A:Around}{E:Value->Shared->Prop}{s:Shared}
theorem gN {a:Addr}{vs:List Value}{n:Nat}{κ:SortKind}{key:Nat->Int}{P:PySem.Fin->Shared->Prop}(ho:s.heap.get? a=some (seqObj "list" vs.toArray n))(h64:vs.length<64)
  (hk:2<=vs.length->∀ (h':Heap),(∀ b o,b≠a->s.heap.get? b=some o->h'.get? b=some o)->∀ (E':Value->Shared->Prop) (Q':SortKind->Shared->Prop),Q' κ { s with heap:=h' }->wpAny (model prog w) A (keyKind' vs.toArray) Q' E' { s with heap:=h' })
  (hc:2<=vs.length->∀ (h':Heap),(∀ b o,b≠a->s.heap.get? b=some o->h'.get? b=some o)->∀ i j (C:Bool->Shared->Prop),i<vs.length->j<vs.length->C (decide (key i<key j)) { s with heap:=h' }->kas_ask prog w A κ vs i j C { s with heap:=h' })
  (h:∀ out:List Nat,out.Perm (List.range vs.length)->(∀ i j,i<=j->j<vs.length->key (out.getD i 0)<=key (out.getD j 0))->P (.done (.ret .none)) { s with heap:=sortedHeap s.heap a vs (out.map λ i=>vs.getD i yK).toArray }):
  wpAny (model prog w) A (Builtin.«list.sort» ⟨[.ref a],[]⟩) P E s:=by
 have hlt:a<s.heap.objs.size:=yG ho;have ln:vs.length<=sizeLine:=by rw[yZ];omega
 obtain⟨e1,q1⟩:∃ e1,(s.heap.update a (yP λ _=>#[])).get? a=some (seqObj "list" #[] e1):=⟨_,get?_update_seq ho (λ _=>#[])⟩;rw[list_sort_plain];refine yB (listItems_at ho rfl (yB (Aa ho rfl (yB (Aq q1 rfl (yB (wpAny_newTuple (yB (As (y0 ?_) (vK _))) (by show vs.length<=_;exact ln))))) (by rw[u0];exact ln) (vK _))));have old:∀ b o,b≠a->s.heap.get? b=some o->(((s.heap.update a (yP λ _=>#[])).push (seqObj "tuple" vs.toArray 0)).push (seqObj "list" #[] 0)).get? b=some o:=λ b o hb q=>
  yE _ (yE _ ((yR _ _ (Ne.symm hb)).trans q))
 have q6:(((s.heap.update a (yP λ _=>#[])).push (seqObj "tuple" vs.toArray 0)).push (seqObj "list" #[] 0)).get? a=some (seqObj "list" #[] e1):=yE _ (yE _ q1);show wpAny (model prog w) A _ P E { s with heap:=((s.heap.update a (yP λ _=>#[])).push (seqObj "tuple" vs.toArray 0)).push (seqObj "list" #[] 0) }
 dsimp only;have sz:vs.toArray.size=vs.length:=u0 ..;by_cases h2:vs.length<2
 ·rw[if_pos (by rw[sz];exact h2),if_pos (by rw[sz];exact h2)]
  refine yB (yD ?_);rw[CB];refine yB (yD ?_);dsimp only;have e:(arrOf (BP general' (vs.toArray.zip vs.toArray) #[] 7 none)).map (·.2)=((List.range vs.length).map λ i=>vs.getD i yK).toArray:=by
   show (vs.toArray.zip vs.toArray).map (·.2)=_
   refine Array.ext (by simp) λ i h1 h3=>?_
   have hi:i<vs.length:=by simpa using h3
   simp[uT,uV hi]
  rw[e];have zz:((List.range vs.length).map λ i=>vs.getD i yK).toArray.size<=sizeLine:=by rw[u0,uR,vH];exact ln
  refine yB (Aq q6 rfl (yB (Aa q6 rfl ?_ (hsz2:=wo zz))));simp only[bne_self_eq_false,u4,if_false];exact yD (h _ (List.Perm.refl _) λ i j hij hj=>by rw[show i=j by omega];exact wc _)
 ·rw[if_neg (by rw[sz];exact h2),if_neg (by rw[sz];exact h2)]
  have h2':2<=vs.length:=⋯
  refine yB (hk h2' _ old _ _ ?_);obtain⟨i1,i2,i3⟩:=pO (key:=key) (n:=vs.length) ⋯;have run:=kat_run (prog:=prog) (w:=w) (A:=A) (E:=E) (κ:=κ) (ks:=vs) (vs:=vs) (s:={ s with heap:=((s.heap.update a (yP λ _=>#[])).push (seqObj "tuple" vs.toArray 0)).push (seqObj "list" #[] 0) })
   (Q:=λ st' s'=>s'={ s with heap:=((s.heap.update a (yP λ _=>#[])).push (seqObj "tuple" vs.toArray 0)).push (seqObj "list" #[] 0) }/\failedOf st'=none/\arrOf st'=(ev (cK key) (zY vs.length)).map (kas_item (vs.toArray.zip vs.toArray)))
   (G:=λ p s'=>s'={ s with heap:=((s.heap.update a (yP λ _=>#[])).push (seqObj "tuple" vs.toArray 0)).push (seqObj "list" #[] 0) }/\p=ev (cK key) (zY vs.length)) rfl h2' h64
   (λ p st' s' _ a2 a3 ⟨a4,a5⟩=>⟨a4,a3,by rw[<- a5];exact a2⟩) (rB (c:=cK key) (λ i j C hi hj hC=>hc h2' _ old i j C hi hj hC) i1 ⟨rfl,rfl⟩)
  refine yB (yT run ?_ λ _ _ e=>e)
  rintro ⟨⟨⟩,st'⟩ s' ⟨rfl,hf,har⟩
  dsimp only;rw[kat_snds rfl har];have zz:(((ev (cK key) (zY vs.length)).toList.map λ i=>vs.getD i yK).toArray).size<=sizeLine:=by rw[u0,uR,yI,i2.1];exact ln
  refine yB (Aq q6 rfl (yB (Aa q6 rfl ?_ (hsz2:=wo zz))));rw[hf];simp only[bne_self_eq_false,u4,if_false];refine yD (h _ i2.2 λ i j hij hj=>?_);have g:∀ k,(ev (cK key) (zY vs.length)).toList.getD k 0=(ev (cK key) (zY vs.length)).getD k 0:=λ k=>by
   by_cases hk:k<(ev (cK key) (zY vs.length)).size <;>simp[yU,uT,hk]
  rw[g,g];exact i3 i j hij hj
theorem lR {l:Addr}{vs:List Value}{κ:SortKind}{key:Nat->Int}{Q:Value->Shared->Prop}(hl:s.heap.IsList l vs.toArray)(h64:vs.length<64)
  (hk:2<=vs.length->∀ (h':Heap),(∀ b o,s.heap.get? b=some o->h'.get? b=some o)->∀ (E':Value->Shared->Prop) (Q':SortKind->Shared->Prop),Q' κ { s with heap:=h' }->wpAny (model prog w) A.in1.in1 (keyKind' vs.toArray) Q' E' { s with heap:=h' })
  (hc:2<=vs.length->∀ (h':Heap),(∀ b o,s.heap.get? b=some o->h'.get? b=some o)->∀ i j (C:Bool->Shared->Prop),i<vs.length->j<vs.length->C (decide (key i<key j)) { s with heap:=h' }->kas_ask prog w A.in1.in1 κ vs i j C { s with heap:=h' })
  (h:∀ out:List Nat,out.Perm (List.range vs.length)->(∀ i j,i<=j->j<vs.length->key (out.getD i 0)<=key (out.getD j 0))->Q (.ref (s.heap.objs.size+1)) { s with heap:=sortedAll s.heap vs (out.map λ i=>vs.getD i yK).toArray }):
  wpAny (model prog w) A (call (.builtin "sorted") [.ref l]) Q E s:=by
 have ln:vs.length<=sizeLine:=by rw[yZ];omega
 refine Ad Cp B8 B9 (Cb _) ?_
 unfold Builtin.«sorted»;refine yB (m:=checkCount "sorted" 1 1 _) (yD (yB (collect_list hl (yB (As ?_ (by show vs.length<=_;exact ln))) (by exact ln))));have z1:((s.heap.push (seqObj "list" #[] 0)).update s.heap.objs.size (yP (·++vs.toArray))).objs.size=s.heap.objs.size+1:=by rw[Cv,size_push']
 have z2:(((s.heap.push (seqObj "list" #[] 0)).update s.heap.objs.size (yP (·++vs.toArray))).push (seqObj "list" vs.toArray 0)).get? (s.heap.objs.size+1)=some (seqObj "list" vs.toArray 0):=by rw[<- z1];exact yL _ rfl
 have old:∀ b o,s.heap.get? b=some o->b≠s.heap.objs.size+1/\(((s.heap.push (seqObj "list" #[] 0)).update s.heap.objs.size (yP (·++vs.toArray))).push (seqObj "list" vs.toArray 0)).get? b=some o:=λ b o q=>by
  have hb:b<s.heap.objs.size:=yG q;exact⟨u9 (vQ hb),yE _ ((yR _ _ (xo hb)).trans (yE _ q))⟩
 show wpAny _ _ _ _ _ { s with heap:=((s.heap.push (seqObj "list" #[] 0)).update s.heap.objs.size (yP (·++vs.toArray))).push (seqObj "list" vs.toArray 0) }
 rw[z1];refine yB (y0 (ze BE ⟨_,z2,rfl⟩ Bw (gN (s:={ s with heap:=((s.heap.push (seqObj "list" #[] 0)).update s.heap.objs.size (yP (·++vs.toArray))).push (seqObj "list" vs.toArray 0) }) z2 h64 (λ h2 h' k E' Q' q=>hk h2 h' (λ b o e=>k b o (old b o e).1 (old b o e).2) E' Q' q)
  (λ h2 h' k i j C hi hj q=>hc h2 h' (λ b o e=>k b o (old b o e).1 (old b o e).2) i j C hi hj q) λ out a1 a2=>⟨_,rfl,yD ⟨_,rfl,h out a1 a2⟩⟩) (BF _)))
end
end Sd
namespace Dv
theorem iw:∀ a:List Int,lexLt a a=false
 | []=>rfl
 | x::a=>by simp[lexLt,iw a]
theorem lex_tot:∀ {a b:List Int},lexLt a b=false->lexLt b a=false->a=b
 | [],[],_,_=>rfl
 | [],_::_,h,_=>by simp[lexLt] at h
 | _::_,[],_,h=>by simp[lexLt] at h
 | x::a,y::b,h,g=>by
  simp only[lexLt] at h g;by_cases e:x=y
  ·subst e
   simp only[if_true] at h g;rw[lex_tot h g]
  ·rw[if_neg e] at h
   rw[if_neg (Ne.symm e)] at g;simp at h g;omega
theorem lex_trans:∀ {a b c:List Int},lexLt a b=true->lexLt b c=true->lexLt a c=true
 | [],[],_,h,_=>by simp[lexLt] at h
 | [],_::_,[],_,g=>by simp[lexLt] at g
 | [],_::_,_::_,_,_=>rfl
 | _::_,[],_,h,_=>by simp[lexLt] at h
 | _::_,_::_,[],_,g=>by simp[lexLt] at g
 | x::a,y::b,z::c,h,g=>by
  simp only[lexLt] at h g ⊢;by_cases e1:x=y
  ·subst e1
   simp only[if_true] at h;by_cases e2:x=z
   ·subst e2
    simp only[if_true] at g ⊢;exact lex_trans h g
   ·rw[if_neg e2] at g ⊢;exact g
  ·rw[if_neg e1] at h
   simp at h;by_cases e2:y=z
   ·subst e2
    rw[if_neg e1];simpa using h
   ·rw[if_neg e2] at g
    simp at g;rw[if_neg ⋯];simp;omega
def lexLe (a b:List Int):Prop:=lexLt b a=false
theorem le_trans {a b c:List Int}(h:lexLe a b)(g:lexLe b c):lexLe a c:=by
 unfold lexLe at *;cases q:lexLt c a with
 | false=>rfl
 | true=>
  by_cases e:lexLt a b=true
  ·rw[lex_trans q e] at g;cases g
  ·have:a=b:=lex_tot (by simpa using e) h
   subst this;rw[q] at g;cases g
theorem lt_le {a b:List Int}(h:lexLt a b=true):lexLe a b:=by
 unfold lexLe;cases q:lexLt b a with
 | false=>rfl
 | true=>have:=lex_trans h q;rw[iw] at this;cases this
def ky (x:List Int):List (List Int)->List (List Int)
 | []=>[x]
 | y::r=>if lexLt y x then y::ky x r else x::y::r
def lsort:List (List Int)->List (List Int)
 | []=>[]
 | x::r=>ky x (lsort r)
theorem dO (x:List Int):∀ l,(ky x l).Perm (x::l)
 | []=>.refl _
 | y::r=>by
  unfold ky
  split
  ·exact((dO x r).cons y).trans (.swap x y r)
  ·exact .refl _
theorem lsort_perm:∀ l,(lsort l).Perm l
 | []=>.refl _
 | x::r=>(dO x _).trans ((lsort_perm r).cons x)
theorem eE (x:List Int):∀ l,l.Pairwise lexLe->(ky x l).Pairwise lexLe
 | [],_=>by simp[ky]
 | y::r,h=>by
  unfold ky;have h':=List.pairwise_cons.mp h
  split
  ·rename_i q
   refine List.pairwise_cons.mpr ⟨λ z hz=>?_,eE x r h'.2⟩
   rcases List.mem_cons.mp ((dO x r).mem_iff.mp hz) with rfl|hz
   ·exact lt_le q
   ·exact h'.1 z hz
  ·rename_i q
   have q':lexLe x y:=by unfold lexLe;simpa using q
   refine List.pairwise_cons.mpr ⟨λ z hz=>?_,h⟩
   rcases List.mem_cons.mp hz with rfl|hz
   ·exact q'
   ·exact le_trans q' (h'.1 z hz)
theorem lsort_sorted:∀ l,(lsort l).Pairwise lexLe
 | []=>.nil
 | x::r=>eE x _ (lsort_sorted r)
theorem sorted_one:∀ {a b:List (List Int)},a.Perm b->a.Pairwise lexLe->b.Pairwise lexLe->a=b
 | [],b,p,_,_=>by simpa using p.symm.eq_nil
 | x::a,[],p,_,_=>absurd p.eq_nil (by simp)
 | x::a,y::b,p,ha,hb=>by
  have h1:=List.pairwise_cons.mp ha;have h2:=List.pairwise_cons.mp hb;have e:x=y:=by
   have hx:x∈y::b:=p.mem_iff.mp uY;have hy:y∈x::a:=p.mem_iff.mpr uY
   rcases List.mem_cons.mp hx with e|hx
   ·exact e
   rcases List.mem_cons.mp hy with e|hy
   ·exact e.symm
   exact lex_tot (h2.1 x hx) (h1.1 y hy)
  subst e;rw[sorted_one ((List.perm_cons x).mp p) h1.2 h2.2]
def rank (l:List (List Int))(x:List Int):Nat:=l.countP λ z=>lexLt z x
theorem eG {α:Type}{p q:α->Bool}:∀ {l:List α},(∀ z∈l,p z=true->q z=true)->(∃ z∈l,q z=true/\p z=false)->l.countP p<l.countP q
 | [],_,⟨z,hz,_⟩=>by cases hz
 | a::l,h,⟨z,hz,h1,h2⟩=>by
  have mono:l.countP p<=l.countP q:=xD λ z hz=>h z (uU _ hz)
  rw[xZ,xZ]
  rcases List.mem_cons.mp hz with rfl|hz
  ·rw[h1,h2];simp;omega
  ·have ih:=eG (λ z hz=>h z (uU _ hz)) ⟨z,hz,h1,h2⟩
   have:=h a uY;cases q1:p a with
   | true=>rw[this q1];simp;omega
   | false=>cases q2:q a <;>simp <;>omega
theorem rank_lt {l:List (List Int)}{x y:List Int}(hx:x∈l):decide ((rank l x:Int)<(rank l y:Int))=lexLt x y:=by
 cases q:lexLt x y with
 | true=>
  refine decide_eq_true ?_
  have:=eG (p:=λ z=>lexLt z x) (q:=λ z=>lexLt z y) (l:=l) (λ z _ h=>lex_trans h q) ⟨x,hx,q,iw x⟩;unfold rank;omega
 | false=>
  refine decide_eq_false ?_
  have:l.countP (λ z=>lexLt z y)<=l.countP (λ z=>lexLt z x):=xD λ z _ h=>by
   have h:lexLt z y=true:=h;cases e:lexLt z x with
   | true=>rfl
   | false=>
    have:lexLe x z:=e;have h2:lexLe y x:=q;have h3:lexLe y z:=le_trans h2 this;unfold lexLe at h3;rw[h] at h3;cases h3
  unfold rank;omega
def ue:D->Bool->R
 | .lst ds,f=>match kS ds with
  | some nss=>if nss.length<64 then .ok (.lst ((lsort nss).map λ ns=>.lst (ns.map .int))) f else .bad
  | none=>.bad
 | _,_=>.bad
def tupsOf:List D->Option (List (List Int))
 | []=>some []
 | .tup ds::r=>match intsOf ds,tupsOf r with
  | some (n::ns),some nss=>some ((n::ns)::nss)
  | _,_=>none
 | _::_=>none
def sortedTD:D->Bool->R
 | .lst ds,f=>match tupsOf ds with
  | some nss=>if nss.length<64 then .ok (.lst ((lsort nss).map λ ns=>.tup (ns.map .int))) f else .bad
  | none=>.bad
 | _,_=>.bad
end Dv
namespace Sd
open PySem PySem.Spec PySem.W PySem.Calls PyProof.Rows L2
open Dv (D R RL EE EL EI RI Sl Out SS)
section
variable {prog:Program}{w:World}{A:Around}{E:Value->Shared->Prop}{s:Shared}
theorem dv {b fin:Bool}{Q:Bool->Shared->Prop}:∀ (i:Nat) {vs ws:List Value} {ns ms:List Int},IntsAre vs ns->IntsAre ws ms->fin=decide (ns.length<ms.length)->Q (Dv.lexLt ns ms) s->KatLex prog w A b fin Q (vs.zip ws) i s
 | i,_,_,_,_,.nil,.nil,hf,h=>by subst hf;exact h
 | i,_,_,_,_,.nil,.cons m t r,hf,h=>by
  have e:fin=true:=by rw[hf];simp
  subst e;exact kat_nil h
 | i,_,_,_,_,.cons n t r,.nil,hf,h=>by
  have e:fin=false:=by rw[hf];simp
  subst e;exact kat_nil h
 | i,_,_,_,_,.cons n t r,.cons m u q,hf,h=>by
  refine kat_cons (wpAny_eqBool_int ?_);by_cases e:n=m
  ·subst e
   rw[beq_self_eq_true];refine kat_yes (dv (i+1) r q (by rw[hf];simp) ?_);simpa[Dv.lexLt] using h
  ·rw[beq_false_of_ne e]
   have h':Q (decide (n<m)) s:=by simpa[Dv.lexLt,e] using h
   refine kat_no ?_
   cases (b&&i == 0) with
   | true=>exact oneLt_int h'
   | false=>exact kat_one _ _ (lt_int h')
end
def ItT (H:Hp)(v:V)(ns:List Int):Prop:=∃ b,v=.ref b/\Rd H b (.tup (ns.map V.int))/\ns≠[]
theorem dw {xs:List V}{us:List Value}(r:Vals xs us){i:Nat}(hi:i<xs.length):∃ u,us[i]?=some u/\RelV xs[i] u:=r.get (uV hi)
theorem cN {xs:List V}{us:List Value}(r:Vals xs us):∀ out:List Nat,(∀ i∈out,i<xs.length)->Vals (out.map λ i=>xs.getD i .non) (out.map λ i=>us.getD i yK)
 | [],_=>.nil
 | i::o,h=>by
  have hi:=h i uY;obtain⟨u,h1,h2⟩:=dw r hi;refine .cons ?_ (cN r o λ j hj=>h j (uU _ hj))
  show L2.RelV (xs.getD i V.non) (us.getD i yK)
  rw[uT,uV hi,uT,h1];exact h2
theorem jU {X:Cx}{pins:List (Addr×Obj)}{σ:L2.St}{H:Hp}{s:Shared}{vs:List V}{its:List Value}{out:List Nat}{Q:VK}(I:L2.Inv X pins σ H s)(rv:Vals vs its)(hp:out.Perm (List.range its.length))(h64:vs.length<64)
  (q:∀ l,H l=none->Q (.ref l) (upd H l (.lst (out.map λ i=>vs.getD i .non)))):EP X pins σ Q (.ref (s.heap.objs.size+1)) { s with heap:=sortedAll s.heap its (out.map λ i=>its.getD i yK).toArray }:=by
 obtain⟨ep,hat⟩:=sortedAll_at s.heap its (out.map λ i=>its.getD i yK).toArray;have hl:=rv.length;have hf:H (s.heap.objs.size+1)=none:=I.hok.fresh (w6 _);refine⟨.ref (s.heap.objs.size+1),_,I.laid (t':=s.toks) (o:=.lst (out.map λ i=>vs.getD i .non)) (λ b u q=>sortedAll_old q) (w6 _) ?_,rfl,q _ hf⟩;refine⟨?_,out.map λ i=>its.getD i yK,ep,cN rv out λ i hi=>?_,by simpa[seqObj] using hat⟩
 ·have:=hp.length_eq
  rw[vH] at this;rw[uR,yZ];omega
 ·have:=List.mem_range.mp (hp.mem_iff.mp hi)
  omega
theorem fH {α β:Type}{F:α->β->Prop}{l:List α}{r:List β}(h:Paired F l r){i:Nat}(hi:i<l.length)(d:β):F l[i] (r.getD i d):=by
 obtain⟨y,h1,h2⟩:=Paired.gets h (uV hi);rw[uT,h1];exact h2
theorem cE:∀ {vs:List Value} {ns:List Int},IntsAre vs ns->vs.length=ns.length
 | _,_,.nil=>rfl
 | _,_,.cons _ _ r=>by rw[uX,uX,cE r]
theorem gZ {X:Cx}(hu:X.A.units+64<cLine):cy X (.builtin "sorted") (λ xs H Q=>∃ p vs nss,xs=[.ref p]/\SqX X.K H p vs/\vs.length<64/\Paired (ItT H) vs nss /\
  ∀ out:List Nat,out.Perm (List.range vs.length)->(∀ i j,i<=j->j<vs.length->Dv.lexLe (nss.getD (out.getD i 0) []) (nss.getD (out.getD j 0) []))->∀ l,H l=none->Q (.ref l) (upd H l (.lst (out.map λ i=>vs.getD i .non)))):=by
 intro pins s σ H xs us Q I r h;obtain⟨p,vs,nss,rfl,hq,h64,hit,q⟩:=h;obtain⟨u,rfl,rx⟩:=vals1 r;cases rx;obtain⟨its,n,rv,e,z⟩:=Inv.listX I hq;have hl:=rv.length;have hn:=hit.length;have item:∀ i,i<its.length->∃ b ws o m,its.getD i yK=.ref b/\s.heap.get? b=some o/\o.cls=.type "tuple"/\o.data=.seq (List.toArray ws) m/\IntsAre ws (nss.getD i [])/\nss.getD i []≠[]:=λ i hi=>by
  obtain⟨u,h1,h2⟩:=dw rv (i:=i) ⋯;obtain⟨b,hb,hs,hne⟩:=fH hit (i:=i) ⋯ [];rw[hb] at h2;obtain⟨_,ws,rw',o,ew,hc,m,hd⟩:=hs.ok I.hok;refine⟨b,ws,o,m,?_,ew,hc,hd,intsAre_of rw',hne⟩;rw[uT,h1];exact h2
 refine lR (κ:=tuples' true) (key:=λ i=>(Dv.rank nss (nss.getD i []):Int)) ⟨_,e,rfl,n,rfl⟩ ⋯ (λ h2 h' k E' Q' hQ=>?_) (λ h2 h' k i j C hi hj hC=>?_) λ out a1 a2=>?_
 ·have tups:∀ (l:List Value),(∀ v∈l,v∈its)->∃ fs,KatTups h' l fs/\fs.length=l.length/\∀ f∈fs,∃ a t,f=zA a t:=by
   intro l
   induction l with
   | nil=>exact λ _=>⟨[],.nil,rfl,λ f hf=>by cases hf⟩
   | cons v l ih=>
    intro hl;obtain⟨fs,g1,g2,g3⟩:=ih λ v hv=>hl v (uU _ hv)
    obtain⟨i,hi,hv⟩:=vC (hl v uY);obtain⟨b,ws,o,m,e1,e2,e3,e4,e5,e6⟩:=item i hi;rw[uT,uV hi] at e1;have e1:v=.ref b:=by rw[<- hv];exact e1
    subst e1;generalize nss.getD i []=ns at e5 e6;cases e5 with
    | nil=>exact absurd rfl e6
    | cons a t r=>
     refine⟨zA a t::fs,.cons (k _ _ e2) e3 e4 (by simp) g1,by simp[g2],λ f hf=>?_⟩
     rcases List.mem_cons.mp hf with rfl|hf
     ·exact⟨a,t,rfl⟩
     ·exact g3 f hf
  obtain⟨fs,g1,g2,g3⟩:=tups its λ v hv=>hv
  refine kat_kind (T:=.type "int") g1 ⋯ (λ v hv=>?_) (by decide) (show Q' (tuples' (zr "int" != zr "tuple")) _ from hQ);obtain⟨a,t,rfl⟩:=g3 v hv;exact .now
 ·obtain⟨b,ws,o,m,e1,e2,e3,e4,e5,e6⟩:=item i hi
  obtain⟨b',ws',o',m',f1,f2,f3,f4,f5,f6⟩:=item j hj;unfold kas_ask;rw[e1,f1];have hm:nss.getD i []∈nss:=by
   have hi':i<nss.length:=⋯
   rw[uT,uV hi'];exact vN hi'
  rw[Dv.rank_lt hm] at hC;refine kat_lt (k _ _ e2) e4 (k _ _ f2) f4 (dv 0 e5 f5 ?_ hC);have l1:ws.length=(nss.getD i []).length:=cE e5;have l2:ws'.length=(nss.getD j []).length:=cE f5;rw[u0,u0,l1,l2]
 ·refine jU I rv a1 h64 λ l hl'=>q out (by rw[hl];exact a1) (λ i j hij hj=>?_) l hl'
  have:=a2 i j hij ⋯;have ho:out.length=its.length:=by rw[a1.length_eq,vH]
  have mem:∀ k,k<its.length->nss.getD (out.getD k 0) []∈nss:=λ k hk=>by
   have h1:out.getD k 0∈out:=by
    rw[uT,uV ⋯];exact vN _
   have h2:=List.mem_range.mp (a1.mem_iff.mp h1);have h3:out.getD k 0<nss.length:=⋯
   rw[uT,uV h3];exact vN h3
  unfold Dv.lexLe;rw[<- Dv.rank_lt (mem j ⋯)];exact decide_eq_false ⋯
theorem dB:∀ {ds:List D} {nss:List (List Int)},Dv.tupsOf ds=some nss->(ds=nss.map λ ns=>.tup (ns.map .int))/\∀ ns∈nss,ns≠[]
 | [],nss,h=>by simp[Dv.tupsOf] at h;subst h;exact⟨rfl,λ ns h=>by cases h⟩
 | d::r,nss,h=>by
  cases d with
  | tup es=>
   simp only[Dv.tupsOf] at h
   split at h
   ·rename_i n ns ms h1 h2
    cases h;obtain⟨g1,g2⟩:=dB h2;refine⟨by rw[k9 h1,g1];rfl,λ x hx=>?_⟩
    rcases List.mem_cons.mp hx with rfl|hx
    ·simp
    ·exact g2 x hx
   ·cases h
  | _=>simp[Dv.tupsOf] at h
theorem RpL.pick {K:Frag}{H:Hp}{ds:List D}{vs:List V}(r:RpL K H ds vs):∀ out:List Nat,(∀ i∈out,i<ds.length)->RpL K H (out.map λ i=>ds.getD i .non) (out.map λ i=>vs.getD i .non)
 | [],_=>.nil
 | i::o,h=>by
  have hi:=h i uY;obtain⟨v,h1,h2⟩:=r.get (uV hi);refine .cons ?_ (RpL.pick r o λ j hj=>h j (uU _ hj))
  show Rp K H (ds.getD i .non) (vs.getD i .non)
  rw[uT,uV hi,uT,h1];exact h2
theorem picked {nss:List (List Int)}{out:List Nat}(hp:out.Perm (List.range nss.length))(hs:∀ i j,i<=j->j<nss.length->Dv.lexLe (nss.getD (out.getD i 0) []) (nss.getD (out.getD j 0) [])):(out.map λ i=>nss.getD i [])=Dv.lsort nss:=by
 have e:(List.range nss.length).map (λ i=>nss.getD i [])=nss:=by
  refine xj (by simp) λ i h1 h2=>?_
  simp[uT,uV h2]
 refine Dv.sorted_one (((hp.map λ i=>nss.getD i []).trans (by rw[e])).trans (Dv.lsort_perm nss).symm) ?_ (Dv.lsort_sorted nss)
 have ho:out.length=nss.length:=by rw[hp.length_eq,vH]
 rw[xc];intro i j hi hj hij;rw[uR] at hi hj;have:=hs i j (wG hij) ⋯;rw[v5,v5];simpa[uT,uV hi,uV hj] using this
theorem lD {nss:List (List Int)}{out:List Nat}{f:List Int->D}(hp:out.Perm (List.range nss.length)):(out.map λ i=>(nss.map f).getD i .non)=(out.map λ i=>nss.getD i []).map f:=by
 rw[vm];refine vt λ i hi=>?_
 have h:i<nss.length:=List.mem_range.mp (hp.mem_iff.mp hi);simp[uT,uV h]
theorem gy:∀ ns:List Int,Dv.intsOf (ns.map .int)=some ns
 | []=>rfl
 | n::r=>by simp[Dv.intsOf,gy r]
theorem eP {K:Frag}{H:Hp}:∀ {nss:List (List Int)} {vs:List V},(∀ ns∈nss,ns≠[])->RpL K H (nss.map λ ns=>.tup (ns.map .int)) vs->Paired (ItT H) vs nss
 | [],vs,_,h=>by rw[va] at h;unfold RpL at h;subst h;exact .nil
 | ns::r,vs,hn,h=>by
  rw[uS] at h;unfold RpL at h;obtain⟨v,ws,rfl,g1,g2⟩:=h;unfold Rp at g1;obtain⟨b,bs,rfl,g3,g4⟩:=g1;have eb:=RpL.ints (gy ns) g4;subst eb;exact .cons ⟨b,rfl,g3,hn _ uY⟩ (eP (λ x hx=>hn x (uU _ hx)) g2)
theorem ItT.same {H H':Hp}(e:Same H H'){v:V}{ns:List Int}(h:ItT H v ns):ItT H' v ns:=let ⟨b,h1,h2,h3⟩:=h;⟨b,h1,Rd.same e h2,h3⟩
section
variable {C:Ctx}{a:Expr}{f:EE}{pos:Pos}
theorem dR {K:Frag}{Hv H Hv1 H1:Hp}{ds:List D}{x:V}{fr:Bool}(e:Ext Hv H Hv1 H1)(rx:Rp K Hv1 (.lst ds) x)(n:fr=true->Rp [] (Hnew H H1) (.lst ds) x):∃ l vs,x=.ref l/\SqX K H1 l vs/\RpL K Hv1 ds vs/\(fr=true->RpL [] (Hnew H H1) ds vs):=by
 cases fr with
 | true=>
  have rn:=n rfl;unfold Rp at rn;obtain⟨l,vs,rfl,h1,h2⟩:=rn;refine⟨l,vs,rfl,?_,(RpL.frag h2).same e.news,λ _=>h2⟩
  rcases h1 with h1|⟨its,n,e,_⟩
  ·exact .inl (Rd.same Hnew.sub h1)
  ·simp at e
 | false=>
  unfold Rp at rx;obtain⟨l,vs,rfl,h1,h2⟩:=rx;exact⟨l,vs,rfl,h1.same e.vh,h2,λ z=>by cases z⟩
theorem jF:C1S C (.builtin "sorted") Dv.sortedTD:=by
 refine⟨_,gZ C.un,λ x d fr H Hv H1 Hv1 W Q e rx n q=>?_⟩;cases d with
 | lst ds=>
  simp only[Dv.sortedTD] at q;cases hi:Dv.tupsOf ds with
  | none=>rw[hi] at q;exact Zf q
  | some nss=>
   rw[hi] at q;by_cases h64:nss.length<64
   ·simp only[h64,if_true] at q
    obtain⟨ed,hne⟩:=dB hi;subst ed;obtain⟨l,vs,rfl,h1,h2,h3⟩:=dR e rx n;have hl:=h2.length;rw[uR] at hl;refine⟨l,vs,nss,rfl,h1,⋯,Paired.mapM (eP hne h2) λ _ _ _ z=>z.same e.vh,λ out hp hs p hpn=>?_⟩;rw[hl] at hp hs;have hin:∀ i∈out,i<(nss.map λ ns=>D.tup (ns.map .int)).length:=λ i hi=>by rw[uR];exact List.mem_range.mp (hp.mem_iff.mp hi)
    have fin:∀ {K:Frag} {H:Hp},RpL K H (nss.map λ ns=>D.tup (ns.map .int)) vs->RpL K H ((Dv.lsort nss).map λ ns=>D.tup (ns.map .int)) (out.map λ i=>vs.getD i .non):=λ {K H} r=>by
     have r2:=RpL.pick r out hin;rw[lD hp,picked hp hs] at r2;exact r2
    exact Ok.newL q e (fin h2) (λ z=>fin (h3 z)) p hpn
   ·simp only[h64,if_false] at q
    exact Zf q
 | _=>exact Zf q
theorem cg {p:Pos}(hm:C.X.mg "sorted"=none)(hg:Gl C.X "sorted")(ha:SE C a f)(he:autoParam (starEach [a] C.X.env=[(false,eval a C.X.env)]) ZE._auto_1):SE C (.Call (.Name "sorted" p) [a] [] pos) (Dv.eB1 Dv.sortedTD f):=oS jF hg hm Ah ha (by decide) (by decide) he
end
open PySem PySem.Spec PyProof.Rows L2
open Dv (D R RL EE EL EI RI Sl Out SS Wy An Cs Ws WR Wk PR)
section
variable {C:Ctx}{a b c e k:Expr}{f g h:EE}{pos:Pos}
theorem oX {R:Prop}(h:SE C e f)(k:∀ t,PE C.X e t->Tak C t f->R):R:=let ⟨t,p,q⟩:=h;k t p q
end
end Sd
namespace Sts
open PySem PySem.SetTable
def Ris (xs:Array Nat):Prop:=xs.toList.Pairwise (·<·)
theorem Ris.at {xs:Array Nat}(r:Ris xs){i j:Nat}(hj:j<xs.size)(hij:i<j):xs.getD i 0<xs.getD j 0:=by
 have hi:i<xs.size:=⋯
 have:=List.pairwise_iff_getElem.mp r i j (by simpa using hi) (by simpa using hj) hij;simpa[yU,hi,hj] using this
theorem n8 {xs:Array Nat}(r:Ris xs)(j:Nat):∀ (fuel lo hi:Nat),hi<=xs.size->lo<=hi->hi-lo<=fuel->(∀ i,i<lo->xs.getD i 0<j)->(∀ i,hi<=i->i<xs.size->j<=xs.getD i 0) ->
  below.go xs j fuel lo hi<=xs.size/\(∀ i,i<below.go xs j fuel lo hi->xs.getD i 0<j)/\∀ i,below.go xs j fuel lo hi<=i->i<xs.size->j<=xs.getD i 0
 | 0,lo,hi,h1,h2,h3,h4,h5=>by
  have:lo=hi:=⋯
  subst this;exact⟨h1,h4,h5⟩
 | fuel+1,lo,hi,h1,h2,h3,h4,h5=>by
  unfold below.go;by_cases hl:lo<hi
  ·rw[if_pos hl]
   have hm:(lo+hi)/2<xs.size:=⋯
   have eg:xs.getD ((lo+hi)/2) j=xs.getD ((lo+hi)/2) 0:=by simp[yU,hm]
   simp only[eg];by_cases hc:xs.getD ((lo+hi)/2) 0<j
   ·rw[if_pos hc]
    refine n8 r j fuel _ _ h1 ⋯ ⋯ (λ i hi'=>?_) h5;by_cases e:i=(lo+hi)/2
    ·subst e;exact hc
    ·exact wW (r.at hm ⋯) hc
   ·rw[if_neg hc]
    refine n8 r j fuel _ _ ⋯ ⋯ ⋯ h4 λ i h6 h7=>?_
    by_cases e:i=(lo+hi)/2
    ·subst e;omega
    ·have:=r.at (i:=(lo+hi)/2) h7 ⋯;omega
  ·rw[if_neg hl]
   have:lo=hi:=⋯
   subst this;exact⟨h1,h4,h5⟩
theorem dA {xs:Array Nat}(r:Ris xs)(j:Nat):below xs j<=xs.size/\(∀ i,i<below xs j->xs.getD i 0<j)/\∀ i,below xs j<=i->i<xs.size->j<=xs.getD i 0:=
 n8 r j xs.size 0 xs.size (u5 _) (vK _) ⋯ (λ i h=>⋯) λ i h1 h2=>⋯
theorem below_at {xs:Array Nat}(r:Ris xs){i:Nat}(hi:i<xs.size):below xs (xs.getD i 0)=i:=by
 obtain⟨h1,h2,h3⟩:=dA r (xs.getD i 0)
 rcases xf (below xs (xs.getD i 0)) i with h|h|h
 ·have a:=h3 _ (u5 _) ⋯
  have b:=r.at hi h;omega
 ·exact h
 ·have:=h2 i h;omega
def Occ (t:SetTable)(j:Nat):Prop:=j∈t.place.toList
theorem kZ (j:Nat):has #[] j=false:=by
 simp[has,below,below.go]
theorem dX {t:SetTable}(r:Ris t.place){i:Nat}(hi:i<t.place.size):t.slot (t.place.getD i 0)=.live i:=by
 unfold slot;simp only[below_at r hi];have:t.place[i]?=some (t.place.getD i 0):=by simp[yU,hi]
 rw[this];simp
theorem km {t:SetTable}(hd:t.dummies=#[]){j:Nat}(h:¬ Occ t j):t.slot j=.empty:=by
 unfold slot;have:¬ (t.place[below t.place j]? == some j)=true:=λ e=>by
  have e:=beq_iff_eq.mp e;exact h (by rw[<- zc] at e;exact vX e)
 rw[if_neg this,hd,kZ];rfl
theorem sg {t:SetTable}{j:Nat}(h:Occ t j):∃ i,i<t.place.size/\t.place.getD i 0=j:=by
 obtain⟨i,hi,e⟩:=vC h;have hi':i<t.place.size:=by simpa using hi
 exact⟨i,hi',by simpa[yU,hi'] using e⟩
def adv (mask:Nat)(p:Probe):Probe:=
 if p.more > 0 then { p with j:=p.j+1,more:=p.more-1 } else
 { p with j:=(leap mask p.i p.perturb).1,more:=runEnd mask (leap mask p.i p.perturb).1-(leap mask p.i p.perturb).1,i:=(leap mask p.i p.perturb).1,perturb:=(leap mask p.i p.perturb).2 }
def adN (mask:Nat):Nat->Probe->Probe
 | 0,p=>p
 | k+1,p=>adN mask k (adv mask p)
theorem bg (mask:Nat):∀ (a b:Nat) (p:Probe),adN mask (a+b) p=adN mask b (adN mask a p)
 | 0,b,p=>by rw[wX];rfl
 | a+1,b,p=>by rw[xS];exact bg mask a b (adv mask p)
theorem jM (mask k:Nat)(p:Probe):adN mask (k+1) p=adv mask (adN mask k p):=bg mask k 1 p
theorem gR (mask:Nat)(p:Probe):(adv mask p).dummy=p.dummy:=by unfold adv;split <;>rfl
theorem gW (mask:Nat):∀ (k:Nat) (p:Probe),(adN mask k p).dummy=p.dummy
 | 0,_=>rfl
 | k+1,p=>by rw[adN,gW mask k,gR]
def at0 (mask i pt:Nat)(d:Option Nat):Probe:={ j:=i,more:=runEnd mask i-i,i:=i,perturb:=pt,dummy:=d }
theorem oo (mask i:Nat):runEnd mask i-i<=9:=by unfold runEnd;split <;>omega
theorem dy (mask:Nat):∀ (m:Nat) (p:Probe),p.more=m->adN mask (m+1) p=at0 mask (leap mask p.i p.perturb).1 (leap mask p.i p.perturb).2 p.dummy
 | 0,p,h=>by
  unfold adN adN adv;rw[if_neg ⋯];rfl
 | m+1,p,h=>by
  rw[adN];have e:adv mask p={ p with j:=p.j+1,more:=p.more-1 }:=by unfold adv;rw[if_pos ⋯]
  rw[e];exact dy mask m _ (by show p.more-1=m;omega)
def lps (mask:Nat):Nat->Nat×Nat->Nat×Nat
 | 0,x=>x
 | l+1,x=>lps mask l (leap mask x.1 x.2)
theorem nR (mask:Nat):∀ (l:Nat) (p:Probe),p.more<=9->∃ k,k<=10*(l+1)/\adN mask k p=at0 mask (lps mask (l+1) (p.i,p.perturb)).1 (lps mask (l+1) (p.i,p.perturb)).2 p.dummy
 | 0,p,h=>⟨p.more+1,⋯,dy mask _ p rfl⟩
 | l+1,p,h=>by
  obtain⟨k,h1,h2⟩:=nR mask l (at0 mask (leap mask p.i p.perturb).1 (leap mask p.i p.perturb).2 p.dummy) (oo _ _);refine⟨p.more+1+k,⋯,?_⟩;rw[bg,dy mask _ p rfl,h2];rfl
theorem kY (mask:Nat):∀ (a b:Nat) (x:Nat×Nat),lps mask (a+b) x=lps mask b (lps mask a x)
 | 0,b,x=>by rw[wX];rfl
 | a+1,b,x=>by rw[xS];exact kY mask a b _
theorem nB (mask:Nat):∀ (a:Nat) (x:Nat×Nat),(lps mask a x).2=x.2/32 ^ a
 | 0,x=>by simp[lps]
 | a+1,x=>by
  rw[lps,nB mask a];show x.2/32/32 ^ a=_
  rw[Nat.div_div_eq_div_mul,Nat.pow_succ,wI]
def g5 (mask i:Nat):Nat:=(i*5+1)%(mask+1)
def g5n (mask:Nat):Nat->Nat->Nat
 | 0,i=>i
 | k+1,i=>g5n mask k (g5 mask i)
theorem iZ (mask:Nat):∀ (a i:Nat),lps mask a (i,0)=(g5n mask a i,0)
 | 0,i=>rfl
 | a+1,i=>by
  rw[lps];have:leap mask i 0=(g5 mask i,0):=by simp[leap,g5]
  show lps mask a (leap mask i 0)=_
  rw[this,iZ mask a];rfl
theorem eW (mask:Nat):∀ (a b i:Nat),g5n mask (a+b) i=g5n mask b (g5n mask a i)
 | 0,b,i=>by rw[wX];rfl
 | a+1,b,i=>by rw[xS];exact eW mask a b _
def Mk (mask:Nat):Prop:=mask=7\/mask=31\/mask=127
def kC (mask:Nat):Bool:=((List.range (mask+1)).all λ s=>(List.range (mask+1)).any λ a=>g5n mask a 0 == s)&&(g5n mask (mask+1) 0 == 0)
theorem n4 {mask:Nat}(h:Mk mask):kC mask=true:=by
 rcases h with rfl|rfl|rfl <;>decide +kernel
theorem l4 {mask:Nat}(h:Mk mask){i s:Nat}(hi:i<=mask)(hs:s<=mask):∃ m,m<=mask/\g5n mask m i=s:=by
 have o:=n4 h;unfold kC at o;rw[vi] at o;have g:=λ x (hx:x<=mask)=>List.any_eq_true.mp (List.all_eq_true.mp o.1 x (List.mem_range.mpr ⋯))
 obtain⟨a,ha,ea⟩:=g i hi;obtain⟨b,hb,eb⟩:=g s hs;have ha:=List.mem_range.mp ha;have hb:=List.mem_range.mp hb;have ea:=beq_iff_eq.mp ea;have eb:=beq_iff_eq.mp eb;have ez:=beq_iff_eq.mp o.2;by_cases q:a<=b
 ·refine⟨b-a,⋯,?_⟩
  rw[<- ea,<- eW,xK q,eb]
 ·refine⟨mask+1-a+b,⋯,?_⟩
  rw[<- ea,<- eW,<- ym,xK ⋯,eW,ez,eb]
theorem iB (mask i pt:Nat):(leap mask i pt).1<=mask:=by
 show (i*5+1+pt/32)%(mask+1)<=mask
 have:=xJ (i*5+1+pt/32) (show 0<mask+1 by omega);omega
theorem oj (mask:Nat):∀ (l:Nat) (x:Nat×Nat),(lps mask (l+1) x).1<=mask
 | 0,x=>iB _ _ _
 | l+1,x=>by rw[lps];exact oj mask l _
theorem lq {mask:Nat}(h:Mk mask){i pt s:Nat}(hp:pt<2 ^ 64)(hs:s<=mask):∃ l,l+1<=mask+13/\(lps mask (l+1) (i,pt)).1=s:=by
 have h0:(lps mask 13 (i,pt)).2=0:=by
  rw[nB];exact Nat.div_eq_of_lt (wW hp (by decide))
 obtain⟨m,hm,e⟩:=l4 h (oj mask 12 (i,pt)) hs;refine⟨12+m,⋯,?_⟩;rw[show 12+m+1=13+m by omega,kY];have:lps mask 13 (i,pt)=((lps mask 13 (i,pt)).1,0):=by rw[<- h0]
 rw[this,iZ];exact e
theorem cover {mask:Nat}(h:Mk mask){p:Probe}(hm:p.more<=9)(hp:p.perturb<2 ^ 64){s:Nat}(hs:s<=mask):∃ k,k<10*turns mask/\(adN mask k p).j=s:=by
 obtain⟨l,h1,h2⟩:=lq h (i:=p.i) hp hs;obtain⟨k,h3,h4⟩:=nR mask l p hm;exact⟨k,by unfold turns;omega,by rw[h4];exact h2⟩
def start (mask:Nat)(h:Int):Probe:=at0 mask (bits h%(mask+1)) (bits h) none
theorem kz (h:Int):bits h<2 ^ 64:=by
 unfold bits;have h1:=yd h (show (2 ^ 64:Int)≠0 by decide);have h2:=xQ h (show (0:Int)<2 ^ 64 by decide);omega
theorem iQ {P:Nat->Prop}[DecidablePred P]:∀ (k:Nat),P k->∃ k0,k0<=k/\P k0/\∀ k',k'<k0->¬ P k'
 | 0,h=>⟨0,u5 _,h,λ k' hk=>⋯⟩
 | k+1,h=>by
  by_cases q:∃ k',k'<=k/\P k'
  ·obtain⟨k',h1,h2⟩:=q
   have:∀ m,m<=k->P m->∃ k0,k0<=k/\P k0/\∀ k',k'<k0->¬ P k':=λ m hm hp=>by
    obtain⟨k0,a,b,c⟩:=iQ m hp;exact⟨k0,⋯,b,c⟩
   obtain⟨k0,a,b,c⟩:=this k' h1 h2;exact⟨k0,⋯,b,c⟩
  ·exact⟨k+1,u5 _,h,λ k' hk hp=>q ⟨k',⋯,hp⟩⟩
instance (t:SetTable)(j:Nat):Decidable (Occ t j):=inferInstanceAs (Decidable (j∈t.place.toList))
theorem oJ {l:List Nat}:∀ {n:Nat},l.Nodup->(∀ x∈l,x<n)->l.length<=n:=λ {n} nd h=>by
 have:=nd.length_le_of_subset (l₂:=List.range n) λ x hx=>List.mem_range.mpr (h x hx)
 simpa using this
theorem ou {t:SetTable}(r:Ris t.place)(hf:t.place.size<=t.mask):∃ s,s<=t.mask/\¬ Occ t s:=by
 refine zG λ hn=>?_
 have all:∀ s∈List.range (t.mask+1),s∈t.place.toList:=λ s hs=>zG λ q=>hn ⟨s,by have:=List.mem_range.mp hs;omega,q⟩
 have:=(xl (n:=t.mask+1)).length_le_of_subset all;simp at this;omega
theorem jV {t:SetTable}(r:Ris t.place)(hk:Mk t.mask)(hf:t.place.size<=t.mask)(h:Int):∃ k0,k0<10*turns t.mask/\¬ Occ t (adN t.mask k0 (start t.mask h)).j/\∀ k',k'<k0->Occ t (adN t.mask k' (start t.mask h)).j:=by
 obtain⟨s,h1,h2⟩:=ou r hf;obtain⟨k,h3,h4⟩:=cover hk (p:=start t.mask h) (oo _ _) (kz h) h1;obtain⟨k0,a,b,c⟩:=iQ (P:=λ k=>¬ Occ t (adN t.mask k (start t.mask h)).j) k (by rw[h4];exact h2);exact⟨k0,⋯,b,λ k' hk'=>Decidable.not_not.mp (c k' hk')⟩
theorem fw {t:SetTable}(r:Ris t.place)(hd:t.dummies=#[]){hashAt:Nat->Int}{h:Int}:∀ (k fuel:Nat) (p:Probe),p.dummy=none->k<fuel->(∀ k',k'<k->∃ i,i<t.place.size/\t.place.getD i 0=(adN t.mask k' p).j/\hashAt i≠h) ->
  (¬ Occ t (adN t.mask k p).j->probe.go t hashAt h fuel p=some (.empty (adN t.mask k p).j none)) /\
  ∀ i,i<t.place.size->t.place.getD i 0=(adN t.mask k p).j->hashAt i=h->probe.go t hashAt h fuel p=some (.candidate (adN t.mask k p).j i (adN t.mask (k+1) p))
 | 0,0,p,_,hf,_=>⋯
 | k+1,0,p,_,hf,_=>⋯
 | 0,fuel+1,p,hn,hf,_=>by
  refine⟨λ ho=>?_,λ i hi e eh=>?_⟩
  ·unfold probe.go
   rw[show t.slot p.j=.empty from km hd ho,hn];rfl
  ·unfold probe.go
   have:t.slot p.j=.live i:=by
    have e:t.place.getD i 0=p.j:=e;rw[<- e];exact dX r hi
   rw[this];simp only[eh,beq_self_eq_true,if_true];rfl
 | k+1,fuel+1,p,hn,hf,hs=>by
  obtain⟨i,hi,e,ne⟩:=hs 0 ⋯;have sl:t.slot p.j=.live i:=by
   have e:t.place.getD i 0=p.j:=e;rw[<- e];exact dX r hi
  have st:probe.go t hashAt h (fuel+1) p=probe.go t hashAt h fuel (adv t.mask p):=by
   rw[probe.go,sl];have:(hashAt i == h)=false:=by simpa using ne
   simp only[this,u4,if_false];rfl
  rw[st];exact fw r hd k fuel (adv t.mask p) (by rw[gR];exact hn) ⋯ λ k' hk'=>hs (k'+1) ⋯
theorem bu {α:Type}(xs:Array α)(p:Nat)(x:α):(insertAt xs p x).toList=xs.toList.take p++x::xs.toList.drop p:=by
 unfold insertAt;simp[Array.toList_extract,wg]
theorem fN {α:Type}(xs:Array α)(p:Nat)(x:α):(insertAt xs p x).size=xs.size+1:=by
 rw[<- yI,bu];simp;omega
theorem pE {xs:Array Nat}(r:Ris xs){j:Nat}(h:j∉xs.toList):Ris (insertAt xs (below xs j) j):=by
 obtain⟨h1,h2,h3⟩:=dA r j;unfold Ris;rw[bu];have tk:∀ x∈xs.toList.take (below xs j),x<j:=λ x hx=>by
  obtain⟨i,hi,rfl⟩:=vC hx;rw[List.getElem_take];rw[vG] at hi;have hi':i<xs.size:=by have:=yI (xs:=xs);omega
  have:=h2 i ⋯;simpa[yU,hi'] using this
 have dr:∀ x∈xs.toList.drop (below xs j),j<x:=λ x hx=>by
  have hm:=List.mem_of_mem_drop hx;obtain⟨i,hi,e⟩:=vC hx;rw[List.getElem_drop] at e;rw[wM] at hi;have hi':below xs j+i<xs.size:=by have:=yI (xs:=xs);omega
  have h4:=h3 (below xs j+i) ⋯ hi';have h5:j<=x:=by rw[<- e];simpa[yU,hi'] using h4
  have h6:j≠x:=λ q=>h (q▸hm)
  omega
 refine List.pairwise_append.mpr ⟨List.Pairwise.sublist (xV _ _) r,List.pairwise_cons.mpr ⟨dr,List.Pairwise.sublist (List.drop_sublist _ _) r⟩,λ x hx y hy=>?_⟩
 rcases List.mem_cons.mp hy with rfl|hy
 ·exact tk x hx
 ·exact wW (tk x hx) (dr y hy)
theorem ins_mem {α:Type}{xs:Array α}{p:Nat}{x y:α}:y∈(insertAt xs p x).toList ↔ y=x\/y∈xs.toList:=by
 rw[bu,wD,xb];have:y∈xs.toList ↔ y∈xs.toList.take p\/y∈xs.toList.drop p:=by
  conv=>lhs;rw[<- v7 p xs.toList]
  exact wD
 rw[this]
 constructor
 ·rintro (a|a|a)
  ·exact .inr (.inl a)
  ·exact .inl a
  ·exact .inr (.inr a)
 ·rintro (a|a|a)
  ·exact .inr (.inl a)
  ·exact .inl a
  ·exact .inr (.inr a)
theorem pY {α β:Type}{xs:Array α}{ys:Array β}(hl:xs.size=ys.size)(p:Nat)(x:α)(y:β)(q:α×β):q∈(insertAt xs p x).toList.zip (insertAt ys p y).toList ↔ q=(x,y)\/q∈xs.toList.zip ys.toList:=by
 have hl':xs.toList.length=ys.toList.length:=by simpa using hl
 rw[bu,bu,ye (by rw[vG,vG,hl']),List.zip_cons_cons,wD,xb];have e:xs.toList.zip ys.toList=(xs.toList.take p).zip (ys.toList.take p)++(xs.toList.drop p).zip (ys.toList.drop p):=by
  rw[<- ye (by rw[vG,vG,hl']),v7,v7]
 rw[e,wD]
 constructor
 ·rintro (a|a|a)
  ·exact .inr (.inl a)
  ·exact .inl a
  ·exact .inr (.inr a)
 ·rintro (a|a|a)
  ·exact .inr (.inl a)
  ·exact .inl a
  ·exact .inr (.inr a)
def Fits (mask n:Nat):Prop:=(mask=7/\n<5)\/(mask=31/\n<19)\/(mask=127/\n<77)
theorem Fits.mk {mask n:Nat}(h:Fits mask n):Mk mask:=by rcases h with h|h|h <;>simp[Mk,h.1]
theorem Fits.le {mask n:Nat}(h:Fits mask n):n+1<=mask:=by rcases h with h|h|h <;>omega
def Way (mask:Nat)(occ:Nat->Prop)(h:Int)(j:Nat):Prop:=∃ k,(adN mask k (start mask h)).j=j/\∀ k',k'<k->occ (adN mask k' (start mask h)).j
theorem Way.mono {mask:Nat}{o o':Nat->Prop}{h:Int}{j:Nat}(w:Way mask o h j)(m:∀ x,o x->o' x):Way mask o' h j:=let ⟨k,a,b⟩:=w;⟨k,a,λ k' hk=>m _ (b k' hk)⟩
structure TI {α:Type}(t:SetTable)(es:Array (Int×α)):Prop where
 size:t.place.size=es.size
 ris:Ris t.place
 le:∀ j,Occ t j->j<=t.mask
 dum:t.dummies=#[]
 way:∀ q∈es.toList.zip t.place.toList,Way t.mask (Occ t) q.1.1 q.2
theorem TI.fresh {α:Type}(f m:Nat)(l:Bool):TI (α:=α) (.fresh f m l) #[]:=⟨rfl,List.Pairwise.nil,λ j h=>(by cases h),rfl,λ q h=>(by simp at h)⟩
theorem TI.put {α:Type}{t:SetTable}{es:Array (Int×α)}(T:TI t es){h:Int}{x:α}{j:Nat}(hj:j<=t.mask)(ho:¬ Occ t j)(w:Way t.mask (Occ t) h j):
  (t.put j).2=below t.place j/\TI (t.put j).1 (insertAt es (below t.place j) (h,x))/\(t.put j).1.mask=t.mask/\(t.put j).1.plain=t.plain/\(t.put j).1.led=t.led/\(t.put j).1.moves=t.moves/\(t.put j).1.finger=t.finger:=by
 have ed:(if has t.dummies j then eraseAt t.dummies (below t.dummies j) else t.dummies)=#[]:=by
  rw[T.dum,kZ];rfl
 have ep:(t.put j).1.place=insertAt t.place (below t.place j) j:=rfl;refine⟨rfl,⟨?_,?_,λ k hk=>?_,ed,λ q hq=>?_⟩,rfl,rfl,rfl,rfl,rfl⟩
 ·rw[ep,fN,fN,T.size]
 ·rw[ep];exact pE T.ris ho
 ·have hk:k∈(insertAt t.place (below t.place j) j).toList:=hk
  rcases ins_mem.mp hk with rfl|hk
  ·exact hj
  ·exact T.le k hk
 ·have mo:∀ x,Occ t x->Occ (t.put j).1 x:=λ x hx=>ins_mem.mpr (.inr hx)
  rcases (pY T.size.symm _ _ _ q).mp hq with rfl|hq
  ·exact w.mono mo
  ·exact(T.way q hq).mono mo
def own (o:Array (Option Nat))(j:Nat):Prop:=((o.getD j (some 0)).isNone)=false
instance (o:Array (Option Nat))(j:Nat):Decidable (own o j):=inferInstanceAs (Decidable (_=_))
theorem eK (mask i pt:Nat)(d:Option Nat):∀ (k:Nat),k<=runEnd mask i-i->(adN mask k (at0 mask i pt d)).j=i+k/\(adN mask k (at0 mask i pt d)).more=runEnd mask i-i-k/\(adN mask k (at0 mask i pt d)).i=i/\(adN mask k (at0 mask i pt d)).perturb=pt
 | 0,_=>⟨rfl,rfl,rfl,rfl⟩
 | k+1,h=>by
  obtain⟨a,b,c,e⟩:=eK mask i pt d k ⋯;rw[jM];unfold adv;rw[if_pos ⋯];refine⟨?_,?_,c,e⟩
  ·show (adN mask k (at0 mask i pt d)).j+1=_;omega
  ·show (adN mask k (at0 mask i pt d)).more-1=_;omega
theorem kP {mask:Nat}{o:Array (Option Nat)}:∀ (fuel i pt:Nat),(∃ l,l<fuel/\¬ own o (lps mask l (i,pt)).1)->i<=runEnd mask i ->
  ∃ j,layClean.free mask o fuel i pt=some j/\¬ own o j/\∃ k,(adN mask k (at0 mask i pt none)).j=j/\∀ k',k'<k->own o (adN mask k' (at0 mask i pt none)).j
 | 0,i,pt,⟨l,h,_⟩,_=>⋯
 | fuel+1,i,pt,⟨l,h,hl⟩,hr=>by
  unfold layClean.free;cases hf:(List.range (runEnd mask i+1-i)).find? λ k=>(o.getD (i+k) (some 0)).isNone with
  | some k=>
   refine⟨i+k,rfl,?_,k,?_,λ k' hk'=>?_⟩
   ·have:=yf hf
    unfold own;rw[this];simp
   ·have hk:=List.mem_range.mp (vV hf)
    exact(eK mask i pt none k ⋯).1
   ·have hk:=List.mem_range.mp (vV hf)
    rw[(eK mask i pt none k' ⋯).1];obtain⟨_,as,bs,e,h2⟩:=List.find?_eq_some_iff_append.mp hf;have hm:k'∈as:=by
     have h3:as.length=k:=by
      have:(List.range (runEnd mask i+1-i))[as.length]?=some k:=by rw[e];simp
      rw[wB (by
       have:=congrArg List.length e;simp at this;omega)] at this
      exact Option.some.inj this
     have:(List.range (runEnd mask i+1-i))[k']?=as[k']?:=by rw[e,vz ⋯]
     rw[wB ⋯] at this;exact vX this.symm
    have:=h2 k' hm;unfold own;simp only[Bool.not_eq_true'] at this;exact this
  | none=>
   have hn:=List.find?_eq_none.mp hf;have occ:∀ k,k<=runEnd mask i-i->own o (i+k):=λ k hk=>by
    have:=hn k (List.mem_range.mpr ⋯);unfold own;exact Bool.eq_false_iff.mpr this
   obtain⟨l',rfl⟩:∃ l',l=l'+1:=by
    cases l with
    | zero=>exact absurd (occ 0 ⋯) (by simpa[lps] using hl)
    | succ l'=>exact⟨l',rfl⟩
   have rl:(leap mask i pt).1<=runEnd mask (leap mask i pt).1:=by unfold runEnd;split <;>omega
   obtain⟨j,h1,h2,k,h3,h4⟩:=kP fuel (leap mask i pt).1 (leap mask i pt).2 ⟨l',⋯,hl⟩ rl;refine⟨j,h1,h2,runEnd mask i-i+1+k,?_,λ k' hk'=>?_⟩
   ·rw[bg,show adN mask (runEnd mask i-i+1) (at0 mask i pt none)=at0 mask (leap mask i pt).1 (leap mask i pt).2 none from dy mask _ (at0 mask i pt none) rfl]
    exact h3
   ·by_cases q:k'<=runEnd mask i-i
    ·rw[(eK mask i pt none k' q).1];exact occ k' q
    ·obtain⟨k'',rfl⟩:∃ k'',k'=runEnd mask i-i+1+k'':=⟨k'-(runEnd mask i-i+1),⋯⟩
     rw[bg,show adN mask (runEnd mask i-i+1) (at0 mask i pt none)=at0 mask (leap mask i pt).1 (leap mask i pt).2 none from dy mask _ (at0 mask i pt none) rfl];exact h4 k'' ⋯
structure OI (mask:Nat)(o:Array (Option Nat))(hs:List Int):Prop where
 size:o.size=mask+1
 rg:∀ (j i:Nat),o[j]?=some (some i)->i<hs.length/\Way mask (own o) (hs.getD i 0) j
 one:∀ (j j' i:Nat),o[j]?=some (some i)->o[j']?=some (some i)->j=j'
 all:∀ i,i<hs.length->∃ j:Nat,o[j]?=some (some i)
theorem iy {mask:Nat}{o:Array (Option Nat)}(hs:o.size=mask+1){j:Nat}(hj:j<=mask):¬ own o j ↔ o[j]?=some none:=by
 have h:j<o.size:=⋯
 unfold own;rw[yJ h];simp only[yU,h,dif_pos];show ¬ (o[j]).isNone=false ↔ some o[j]=some none
 generalize o[j]=v;cases v <;>simp
theorem OI.room {mask:Nat}{o:Array (Option Nat)}{hs:List Int}(O:OI mask o hs)(hl:hs.length<=mask):∃ s,s<=mask/\¬ own o s:=by
 refine zG λ hn=>?_
 have all:∀ s,s<=mask->∃ i,o[s]?=some (some i):=λ s hs'=>by
  have h1:own o s:=zG λ q=>hn ⟨s,hs',q⟩
  have h2:s<o.size:=by have:=O.size;omega
  cases h3:o[s]? with
  | none=>simp[h2] at h3
  | some v=>
   cases v with
   | none=>exact absurd h1 ((iy O.size hs').mpr h3)
   | some i=>exact⟨i,rfl⟩
 have mp:∀ s,∃ i,s<=mask->o[s]?=some (some i):=λ s=>by
  by_cases q:s<=mask
  ·obtain⟨i,e⟩:=all s q;exact⟨i,λ _=>e⟩
  ·exact⟨0,λ z=>absurd z q⟩
 let f:=λ s=>Cy (mp s)
 have hf:∀ s,s<=mask->o[s]?=some (some (f s)):=λ s=>BG (mp s)
 have nd:((List.range (mask+1)).map f).Nodup:=by
  refine List.pairwise_map.mpr (List.Pairwise.imp_of_mem ?_ (xl (n:=mask+1)));intro a b ha hb hab e;have ha:=List.mem_range.mp ha;have hb:=List.mem_range.mp hb;have h1:=hf a ⋯;have h2:=hf b ⋯;rw[<- e] at h2;exact hab (O.one _ _ _ h1 h2)
 have:=oJ nd (n:=hs.length) λ x hx=>by
  obtain⟨s,hs',rfl⟩:=List.mem_map.mp hx;exact(O.rg s _ (hf s (by have:=List.mem_range.mp hs';omega))).1
 rw[uR,vH] at this;omega
theorem kr {mask:Nat}(h:Int):∀ k,(adN mask k (start mask h)).j<=mask/\(adN mask k (start mask h)).j+(adN mask k (start mask h)).more<=mask:=by
 have rl:∀ i,i<=mask->i+(runEnd mask i-i)<=mask:=λ i hi=>by unfold runEnd;split <;>omega
 intro k
 induction k with
 | zero=>
  have:bits h%(mask+1)<=mask:=by have:=xJ (bits h) (show 0<mask+1 by omega);omega
  exact⟨this,rl _ this⟩
 | succ k ih=>
  rw[jM];unfold adv
  split
  ·refine⟨?_,?_⟩
   ·show (adN mask k (start mask h)).j+1<=mask;omega
   ·show (adN mask k (start mask h)).j+1+((adN mask k (start mask h)).more-1)<=mask;omega
  ·exact⟨iB _ _ _,rl _ (iB _ _ _)⟩
theorem OI.step {mask:Nat}(hk:Mk mask){o:Array (Option Nat)}{hs:List Int}(O:OI mask o hs)(hl:hs.length<=mask)(h:Int):∃ j,layClean.free mask o (turns mask) (bits h%(mask+1)) (bits h)=some j/\OI mask (o.setIfInBounds j (some hs.length)) (hs++[h]):=by
 obtain⟨s,h1,h2⟩:=O.room hl;obtain⟨l,h3,h4⟩:=lq hk (i:=bits h%(mask+1)) (kz h) h1;obtain⟨j,e,hj,k,e2,e3⟩:=kP (mask:=mask) (o:=o) (turns mask) (bits h%(mask+1)) (bits h) ⟨l+1,by unfold turns;omega,by rw[h4];exact h2⟩ (by unfold runEnd;split <;>omega);have hjm:j<=mask:=by rw[<- e2];exact(kr h k).1
 have hjs:j<o.size:=by have:=O.size;omega
 have mo:∀ x,own o x->own (o.setIfInBounds j (some hs.length)) x:=λ x hx=>by
  by_cases q:j=x
  ·subst q;exact absurd hx hj
  ·unfold own at hx ⊢
   have:(o.setIfInBounds j (some hs.length)).getD x (some 0)=o.getD x (some 0):=by
    simp only[Array.getD_eq_getD_getElem?];rw[yV q]
   rw[this];exact hx
 have hno:=(iy O.size hjm).mp hj;refine⟨j,e,by rw[Bi];exact O.size,λ j' i hi=>?_,λ a b i ha hb=>?_,λ i hi=>?_⟩
 ·by_cases q:j=j'
  ·subst q
   rw[zg hjs] at hi;have hi:hs.length=i:=Option.some.inj (Option.some.inj hi);subst hi;refine⟨by simp,?_⟩;rw[uT,vE (u5 _)];simp only[yv,uW,vn];exact Way.mono ⟨k,e2,e3⟩ mo
  ·rw[yV q] at hi
   obtain⟨a,b⟩:=O.rg j' i hi;refine⟨by simp;omega,?_⟩;rw[uT,vz a,<- uT];exact b.mono mo
 ·by_cases qa:j=a <;>by_cases qb:j=b
  ·omega
  ·subst qa
   rw[zg hjs] at ha;rw[yV qb] at hb;have ha:hs.length=i:=Option.some.inj (Option.some.inj ha);have:=(O.rg b i hb).1;omega
  ·subst qb
   rw[zg hjs] at hb;rw[yV qa] at ha;have hb:hs.length=i:=Option.some.inj (Option.some.inj hb);have:=(O.rg a i ha).1;omega
  ·rw[yV qa] at ha
   rw[yV qb] at hb;exact O.one a b i ha hb
 ·by_cases q:i=hs.length
  ·subst q;exact⟨j,zg hjs⟩
  ·obtain⟨j',e'⟩:=O.all i (by simp at hi;omega)
   have:j≠j':=λ z=>by subst z;rw[hno] at e';cases e'
   exact⟨j',by rw[yV this];exact e'⟩
theorem OI.fold {mask:Nat}(hk:Mk mask):∀ (r hs:List Int) (o:Array (Option Nat)),OI mask o hs->hs.length+r.length<=mask+1 ->
  ∃ o',r.foldl (λ (acc:Option (Array (Option Nat)×Nat)) h=>do let (owner,k) <- acc;let j <- layClean.free mask owner (turns mask) (bits h%(mask+1)) (bits h);pure (owner.setIfInBounds j (some k),k+1)) (some (o,hs.length))=some (o',hs.length+r.length)/\OI mask o' (hs++r)
 | [],hs,o,O,_=>⟨o,rfl,by rw[wR];exact O⟩
 | h::r,hs,o,O,hl=>by
  simp only[uX] at hl;obtain⟨j,e,O'⟩:=O.step hk ⋯ h;obtain⟨o',e',O''⟩:=OI.fold hk r (hs++[h]) _ O' (by simp;omega);refine⟨o',?_,by rw[vD] at O'';exact O''⟩;rw[vb];have:(do let (owner,k) <- some (o,hs.length);let j <- layClean.free mask owner (turns mask) (bits h%(mask+1)) (bits h);pure (owner.setIfInBounds j (some k),k+1):Option (Array (Option Nat)×Nat))=some (o.setIfInBounds j (some hs.length),hs.length+1):=by
   simp[e]
  rw[this];have e1:(hs++[h]).length=hs.length+1:=by simp
  rw[e1] at e';rw[e',uX];congr 2;omega
theorem nV {mask:Nat}(hk:Mk mask)(hs:Array Int)(hl:hs.size<=mask):∃ o,layClean mask hs=some o/\OI mask o hs.toList:=by
 have O0:OI mask (Array.replicate (mask+1) none) []:=⟨by simp,λ j i h=>by simp[Bj] at h,λ j j' i h=>by simp[Bj] at h,λ i h=>by simp at h⟩;obtain⟨o,e,O⟩:=OI.fold hk hs.toList [] _ O0 (by simp;omega);refine⟨o,?_,by simpa using O⟩;unfold layClean;rw[<- Array.foldl_toList];have:([]:List Int).length=0:=rfl;rw[this] at e;rw[e];rfl
def aW (mask:Nat)(o:Array (Option Nat)):List (Nat×Nat):=(List.range (mask+1)).filterMap λ j=>(o.getD j none).map (j,·)
theorem bN {mask:Nat}{o:Array (Option Nat)}(hs:o.size=mask+1){j i:Nat}:(j,i)∈aW mask o ↔ o[j]?=some (some i):=by
 unfold aW;rw[List.mem_filterMap]
 constructor
 ·rintro ⟨j',hj,e⟩
  have hj:=List.mem_range.mp hj;have h:j'<o.size:=⋯
  simp only[yU,h,dif_pos] at e;cases hv:o[j'] with
  | none=>
   have e:(o[j']).map (λ x=>(j',x))=some (j,i):=e;rw[hv] at e;cases e
  | some v=>
   have e:(o[j']).map (λ x=>(j',x))=some (j,i):=e;rw[hv] at e;simp at e;obtain⟨rfl,rfl⟩:=e;rw[yJ h,hv]
 ·intro e
  have h:j<o.size:=by
   rcases xq j o.size with q|q
   ·exact q
   ·simp[zk q] at e
  refine⟨j,List.mem_range.mpr ⋯,?_⟩;rw[yJ h] at e;have e:o[j]=some i:=Option.some.inj e;simp only[yU,h,dif_pos];show (o[j]).map (λ x=>(j,x))=some (j,i)
  rw[e];rfl
theorem jh (mask:Nat)(o:Array (Option Nat)):((aW mask o).map (·.1)).Pairwise (·<·):=by
 unfold aW;refine List.pairwise_map.mpr (List.Pairwise.filterMap _ (λ a a' h b hb b' hb'=>?_) List.pairwise_lt_range);cases hv:o.getD a none with
 | none=>rw[hv] at hb;simp at hb
 | some v=>
  cases hv':o.getD a' none with
  | none=>rw[hv'] at hb';simp at hb'
  | some v'=>
   rw[hv] at hb;rw[hv'] at hb';simp at hb hb';subst hb;subst hb';exact h
theorem lE {mask:Nat}{o:Array (Option Nat)}{hs:List Int}(O:OI mask o hs):((aW mask o).map (·.2)).Perm (List.range hs.length):=by
 have nd:(aW mask o).Nodup:=by
  have:=jh mask o;have h2:=List.pairwise_map.mp this;exact h2.imp λ {a b} h e=>by subst e;omega
 have nd2:((aW mask o).map (·.2)).Nodup:=by
  refine List.pairwise_map.mpr (List.Pairwise.imp_of_mem ?_ nd);intro a b ha hb hab e;obtain⟨j,i⟩:=a;obtain⟨j',i'⟩:=b;have e:i=i':=e;subst e;have:=O.one j j' i ((bN O.size).mp ha) ((bN O.size).mp hb);subst this;exact hab rfl
 refine(wu nd2 xl).mpr λ i=>?_
 rw[List.mem_range,wY]
 constructor
 ·rintro ⟨⟨j,i'⟩,h,rfl⟩
  exact(O.rg j i' ((bN O.size).mp h)).1
 ·intro h
  obtain⟨j,e⟩:=O.all i h;exact⟨(j,i),(bN O.size).mpr e,rfl⟩
theorem eR {α:Type}(es:Array α)(d:α):∀ (l:List Nat),(∀ i∈l,i<es.size)->l.filterMap (es[·]?)=l.map λ i=>es.getD i d
 | [],_=>rfl
 | i::l,h=>by
  have hi:=h i uY;rw[wA,yJ hi,uS,eR es d l λ x hx=>h x (uU _ hx)];simp[yU,hi]
theorem lW {α:Type}{t:SetTable}{es:Array (Int×α)}{wanted mask':Nat}(hk:Mk mask')(hl:es.size<=mask')(hw:sizeAbove wanted-1=mask'):
  ∃ t' order,t.relaid (es.map (·.1)) wanted=some (t',order)/\(order.filterMap (es[·]?)).toList.Perm es.toList/\TI t' (order.filterMap (es[·]?))/\t'.mask=mask'/\t'.plain=t.plain/\t'.led=t.led:=by
 obtain⟨o,e,O⟩:=nV hk (es.map (·.1)) (by simpa using hl);have hn:(es.map (·.1)).toList.length=es.size:=by simp
 have lp:=lE O;rw[hn] at lp;have inr:∀ i∈(aW mask' o).map (·.2),i<es.size:=λ i hi=>List.mem_range.mp (lp.mem_iff.mp hi)
 refine⟨{ mask:=mask',place:=((aW mask' o).map (·.1)).toArray,dummies:=#[],finger:=t.finger,led:=t.led,moves:=t.movedTo mask',plain:=t.plain },((aW mask' o).map (·.2)).toArray,?_,?_⟩
 ·unfold relaid laid
  rw[hw,e];rfl
 have ef:((((aW mask' o).map (·.2)).toArray).filterMap (es[·]?)).toList=((aW mask' o).map (·.2)).filterMap (es[·]?):=by
  rw[Array.toList_filterMap]
 refine⟨?_,⟨?_,jh mask' o,λ j hj=>?_,rfl,λ q hq=>?_⟩,rfl,rfl,rfl⟩
 ·rw[ef]
  have h1:=lp.filterMap (es[·]?);refine h1.trans ?_
  refine List.Perm.of_eq ?_
  refine w9 λ i=>?_
  by_cases z:es.size=0
  ·have:es=#[]:=by simpa using z
   subst this;simp
  ·have d:=es[0]'⋯
   rw[eR es d _ λ i hi=>List.mem_range.mp hi];rw[vA];by_cases hi:i<es.size
   ·rw[wB hi]
    simp[yU,hi]
   ·rw[wm (by simp;omega),zc,zk ⋯]
    rfl
 ·have h2:((((aW mask' o).map (·.2)).toArray).filterMap (es[·]?)).size=(((aW mask' o).map (·.2)).filterMap (es[·]?)).length:=by rw[<- yI,ef]
  rw[h2];show ((aW mask' o).map (·.1)).toArray.size=_
  rw[u0,uR];by_cases z:es.size=0
  ·have:aW mask' o=[]:=by
    have:=lp.length_eq;rw[z] at this;simpa using this
   rw[this];rfl
  ·have d:=es[0]'⋯
   rw[eR es d _ inr];simp
 ·have hj:j∈((aW mask' o).map (·.1)).toArray.toList:=hj
  obtain⟨i,h⟩:∃ i,(j,i)∈aW mask' o:=by simpa using hj
  have:=(bN O.size).mp h;have h3:j<o.size:=by
   rcases xq j o.size with q|q
   ·exact q
   ·simp[zk q] at this
  have:=O.size;show j<=mask'
  omega
 ·have d:Int×α:=by
   have:q∈_:=hq;exact q.1
  have hq:q∈((((aW mask' o).map (·.2)).toArray).filterMap (es[·]?)).toList.zip ((aW mask' o).map (·.1)):=by simpa using hq
  rw[ef,eR es d _ inr,vm,List.zip_map',wY] at hq;obtain⟨⟨j,i⟩,hm,rfl⟩:=hq;have hO:=(bN O.size).mp hm;obtain⟨a,w⟩:=O.rg j i hO;have hi:i<es.size:=by simpa using a
  have eh:(es.map (·.1)).toList.getD i 0=(es.getD i d).1:=by
   simp[uT,yU,hi]
  rw[eh] at w;obtain⟨k,ek,wk⟩:=w;refine⟨k,ek,λ k' hk'=>?_⟩;have hx:=wk k' hk';have hb:=(kr (mask:=mask') (es.getD i d).1 k').1;show Occ _ (adN mask' k' (start mask' (es.getD i d).1)).j
  generalize (adN mask' k' (start mask' (es.getD i d).1)).j=x at hx hb;show x∈((aW mask' o).map (·.1)).toArray.toList
  have q:x<o.size:=by have:=O.size;omega
  cases hv:o[x]? with
  | none=>simp[q] at hv
  | some v=>
   cases v with
   | none=>
    have:=O.size;exact absurd hx ((iy O.size ⋯).mpr hv)
   | some i'=>
    simp only[wY];exact⟨(x,i'),(bN O.size).mpr hv,rfl⟩
section
variable {prog:Program}{w:World}{A:Around}{E:Value->Shared->Prop}{s:Shared}
abbrev byT (w:World):Bool:=w.params.followText "set-order"
abbrev tk (prog:Program)(w:World)(ks:List Int):Int:=tupleKeyHash (intKind prog w) ks
abbrev IsK (prog:Program)(w:World)(h:Heap)(ks:List Int)(b:Addr):Prop:=IsTupleKey (intKind prog w) h ks b
def Ent (prog:Program)(w:World)(h:Heap)(e:Int×Value)(ks:List Int):Prop:=∃ b,e=(tk prog w ks,.ref b)/\IsK prog w h ks b
structure SetV (prog:Program)(w:World)(h:Heap)(a:Addr)(es:Array (Int×Value))(ep:Nat)(t:SetTable):Prop where
 obj:h.get? a=some { cls:=.type "set",dict:=none,data:=.set es ep t }
 ti:TI t es
 fit:Fits t.mask es.size
 plain:t.plain=true
 led:t.led=!byT w
 ent:∀ e∈es.toList,∃ ks,Ent prog w h e ks
theorem SetV.fits {h:Heap}{a:Addr}{es:Array (Int×Value)}{ep:Nat}{t:SetTable}(S:SetV prog w h a es ep t):t.fits es.size=true:=by
 have:=S.fit.le;unfold CK CL;rw[S.ti.dum,S.ti.size];simp;omega
theorem i6 (n:Nat){v:Value}(h:∃ i t,v=.int i t):ofAClassStatement n v=pure false:=by
 obtain⟨i,t,rfl⟩:=h;cases n <;>rfl
theorem items_int {ks:List Int}:∀ {vs:List Value},ItemsAre (intKind prog w) ks vs->∀ v∈vs,∃ i t,v=.int i t:=λ {vs} h=>by
 induction h with
 | nil=>intro v hv;cases hv
 | @cons k v ks vs h1 _ ih=>
  intro u hu
  rcases List.mem_cons.mp hu with rfl|hu
  ·obtain⟨t,e⟩:=Al h1
   exact⟨_,t,e⟩
  ·exact ih u hu
theorem cU {ks:List Int}{a:Addr}{Q:Bool->Shared->Prop}(hk:IsK prog w s.heap ks a)(h:Q false s):wpAny (model prog w) A (ofAClassStatement 8 (.ref a)) Q E s:=by
 have hT:=hk.typeIs;obtain⟨o,items,n,ho,_,hd,hi⟩:=hk;unfold ofAClassStatement;refine yB (Bl hT ?_);dsimp only;rw[if_pos (by decide)];refine yB (yD ?_);simp only[vO,u4,if_false];refine yB ?_
 unfold seqItems?;refine yB (wpAny_load ho ?_);rw[hd];refine yD ?_
 dsimp only;refine yB ?_
 rw[<- Cc];refine Bm _ (λ rest r s'=>r.1=none/\s'=s/\∀ v∈rest,∃ i t,v=zA i t) _ ?_ ?_ _ _ ⟨rfl,rfl,items_int hi⟩
 ·rintro v rest r s' ⟨hr,rfl,hall⟩
  rw[i6 _ (hall v uY)];refine yB (yD ?_);simp only[u4,if_false];exact yD ⟨rfl,rfl,λ u hu'=>hall u (uU _ hu')⟩
 ·rintro ⟨r1,r2⟩ s' ⟨hr,rfl,_⟩
  simp only at hr;subst hr;exact yD h
theorem oW {ks:List Int}{a:Addr}{Q:Bool->Shared->Prop}(hk:IsK prog w s.heap ks a)(stored:List Value)(hs:∀ v∈stored,∃ b ks',v=.ref b/\IsK prog w s.heap ks' b)(h:Q false s):
  wpAny (model prog w) A (searchCouldBeSeen (.ref a) stored) Q E s:=by
 unfold searchCouldBeSeen;refine yB ?_
 refine Bm _ (λ rest r s'=>r.1=none/\s'=s/\∀ v∈rest,∃ b ks',v=yQ b/\IsK prog w s.heap ks' b) _ ?_ ?_ _ _ ⟨rfl,rfl,hs⟩
 ·rintro v rest r s' ⟨hr,rfl,hall⟩
  obtain⟨b,ks',rfl,hb⟩:=hall v uY;have fin:(none:Option Bool)=none/\s'=s'/\∀ v∈rest,∃ b ks',v=yQ b/\IsK prog w s'.heap ks' b:=⟨rfl,rfl,λ u hu=>hall u (uU _ hu)⟩;dsimp only
  split
  ·exact yD fin
  ·refine yB (BH hk ?_)
   simp only[vO,u4,if_false];refine yB (BH hb ?_);simp only[vO,u4,if_false];refine yB (cU hk ?_);simp only[u4,if_false];refine yB (cU hb ?_);simp only[u4,if_false];exact yD fin
 ·rintro ⟨r1,r2⟩ s' ⟨hr,rfl,_⟩
  simp only at hr;subst hr;exact yD h
theorem f9 {es:Array (Int×Value)}{h:Int}{v:Value}(hv:v∈((es.filter (·.1 == h)).toList.map (·.2))):∃ e∈es.toList,e.2=v:=by
 obtain⟨e,he,rfl⟩:=List.mem_map.mp hv;have he:e∈es/\e.1=h:=by simpa using he
 exact⟨e,by simpa using he.1,rfl⟩
theorem mS {mask n:Nat}(h:Fits mask n):(mask%2 == 0)=false:=by rcases h with h|h|h <;>rw[h.1] <;>rfl
theorem iL {P:Nat->Prop}[DecidablePred P]{k0:Nat}:∀ (m k:Nat),k<=k0->k0-k=m->∃ k1,k<=k1/\k1<=k0/\(∀ k',k<=k'->k'<k1->¬ P k')/\(k1=k0\/P k1)
 | 0,k,h1,h2=>⟨k0,h1,u5 _,λ k' a b=>⋯,.inl rfl⟩
 | m+1,k,h1,h2=>by
  by_cases q:P k
  ·exact⟨k,u5 k,h1,λ (k':Nat) (a:k<=k') (b:k'<k)=>absurd a (Nat.not_le.mpr b),.inr q⟩
  ·obtain⟨k1,a,b,c,d⟩:=iL (P:=P) (k0:=k0) m (k+1) ⋯ ⋯
   refine⟨k1,⋯,b,λ k' h3 h4=>?_,d⟩;by_cases e:k'=k
   ·subst e;exact q
   ·exact c k' ⋯ h4
section
variable {a:Addr}{es:Array (Int×Value)}{ep:Nat}{t:SetTable}{x:Addr}{ks:List Int}{k0:Nat}{Q:SetFound->Shared->Prop}
theorem gX (S:SetV prog w s.heap a es ep t)(hx:IsK prog w s.heap ks x)(hu:A.units<cLine)
  (hk0:k0<10*turns t.mask) (he0:¬ Occ t (adN t.mask k0 (start t.mask (tk prog w ks))).j) (hoc:∀ k',k'<k0->Occ t (adN t.mask k' (start t.mask (tk prog w ks))).j)
  (q1:(∃ e∈es.toList,Ent prog w s.heap e ks)->Q (.there none) s) (q2:(¬ ∃ e∈es.toList,Ent prog w s.heap e ks)->Q (.free (adN t.mask k0 (start t.mask (tk prog w ks))).j false) s)
  (k fuel:Nat) (stand:Option Probe) (h1:k<=k0) (h4:stand.getD (t.probeStart (tk prog w ks))=adN t.mask k (start t.mask (tk prog w ks)))
  (h5:∀ i,i<es.size->(∃ k',k'<k/\t.place.getD i 0=(adN t.mask k' (start t.mask (tk prog w ks))).j)->∀ e,es[i]?=some e->¬ Ent prog w s.heap e ks)
  (rec:∀ k',k<k'->k'<=k0->(∀ i,i<es.size->(∃ k'',k''<k'/\t.place.getD i 0=(adN t.mask k'' (start t.mask (tk prog w ks))).j)->∀ e,es[i]?=some e->¬ Ent prog w s.heap e ks) ->
   wpAny (model prog w) A (setSearchFrom a (.ref x) (tk prog w ks) true fuel (some (adN t.mask k' (start t.mask (tk prog w ks))))) Q E s):
  wpAny (model prog w) A (setSearchFrom a (.ref x) (tk prog w ks) true (fuel+1) stand) Q E s:=by
 have hsz:=S.ti.size;obtain⟨k1,a1,a2,a3,a4⟩:=iL (P:=λ k=>∃ i,i<es.size/\t.place.getD i 0=(adN t.mask k (start t.mask (tk prog w ks))).j/\(es.getD i (0,.none)).1=tk prog w ks) (k0-k) k h1 rfl;have pr:∀ F:Nat->Int,(∀ i,i<es.size->F i=(es.getD i (0,.none)).1)->(∀ k',k'<k1-k->∃ i,i<t.place.size/\t.place.getD i 0=(adN t.mask k' (adN t.mask k (start t.mask (tk prog w ks)))).j/\F i≠tk prog w ks):=λ F hF k' hk'=>by
  rw[<- bg];obtain⟨i,hi,e⟩:=sg (hoc (k+k') ⋯);refine⟨i,hi,e,λ z=>a3 (k+k') ⋯ ⋯ ⟨i,⋯,e,?_⟩⟩;rw[<- hF i ⋯];exact z
 have hd:(adN t.mask k (start t.mask (tk prog w ks))).dummy=none:=by rw[gW];rfl
 have hkk:k+(k1-k)=k1:=⋯
 unfold setSearchFrom;refine yB (zt S.obj rfl S.fits ?_);dsimp only;rw[show t.gaveWay=false from mS S.fit];simp only[u4,if_false];rw[h4]
 rcases a4 with rfl|⟨i,hi,ei,eh⟩
 ·-- an empty place
  have key:∀ F:Nat->Int,(∀ i,i<es.size->F i=(es.getD i (0,.none)).1)->t.probe F (tk prog w ks) (adN t.mask k (start t.mask (tk prog w ks)))=some (.empty (adN t.mask k1 (start t.mask (tk prog w ks))).j none):=λ F hF=>by
   have:=(fw (h:=tk prog w ks) S.ti.ris S.ti.dum (k1-k) (10*turns t.mask) _ hd ⋯ (pr F hF)).1 (by rw[<- bg,hkk];exact he0);rw[<- bg,hkk] at this;exact this
  rw[key _ λ i hi=>by show (es[i]?.map (·.1)).getD 0=_;simp[yU,hi]];dsimp only;refine yD (q2 λ⟨e,he,hE⟩=>?_);obtain⟨i,hi,rfl⟩:=vC he;have hi':i<es.size:=by simpa using hi
  have hip:i<t.place.size:=⋯
  obtain⟨b,eb,_⟩:=hE;have wy:=S.ti.way (es.toList[i],t.place.getD i 0) (by
   have:(es.toList.zip t.place.toList)[i]?=some (es.toList[i],t.place.getD i 0):=by
    rw[List.getElem?_zip_eq_some];exact⟨uV hi,by simp[yU,hip]⟩
   exact vX this)
  obtain⟨k2,e2,o2⟩:=wy;have hh:es.toList[i].1=tk prog w ks:=by rw[eb]
  simp only[hh] at e2 o2;have lt:k2<k1:=by
   rcases xf k2 k1 with z|z|z
   ·exact z
   ·subst z
    exact absurd (show Occ t _ by rw[e2];unfold Occ;simp[yU,hip]) he0
   ·exact absurd (o2 k1 z) he0
  have eg:(es.getD i (0,yK)).1=tk prog w ks:=by
   rw[<- hh];simp[yU,hi']
  by_cases z:k<=k2
  ·exact a3 k2 z lt ⟨i,hi',e2.symm,eg⟩
  ·exact h5 i hi' ⟨k2,⋯,e2.symm⟩ es.toList[i] (by simp[hi']) ⟨b,eb,by assumption⟩
 ·-- an entry of this hash
  have lt:k1<k0:=by
   rcases xq k1 k0 with z|z
   ·exact z
   ·have:k1=k0:=⋯
    subst this;exact absurd (show Occ t _ by rw[<- ei];unfold Occ;simp[yU,show i<t.place.size by omega]) he0
  have key:∀ F:Nat->Int,(∀ i,i<es.size->F i=(es.getD i (0,.none)).1)->t.probe F (tk prog w ks) (adN t.mask k (start t.mask (tk prog w ks)))=some (.candidate (adN t.mask k1 (start t.mask (tk prog w ks))).j i (adN t.mask (k1+1) (start t.mask (tk prog w ks)))):=λ F hF=>by
   have:=(fw (h:=tk prog w ks) S.ti.ris S.ti.dum (k1-k) (10*turns t.mask) _ hd ⋯ (pr F hF)).2 i ⋯ (by rw[<- bg,hkk];exact ei) (by rw[hF i hi];exact eh);rw[<- bg,<- bg,hkk,<- ym,hkk] at this;exact this
  rw[key _ λ i hi=>by show (es[i]?.map (·.1)).getD 0=_;simp[yU,hi]];dsimp only;have hm:es[i]∈es.toList:=by simp
  obtain⟨ks',b,eb,hb⟩:=S.ent _ hm;have eg:es[i]?=some (es[i].1,es[i].2):=by simp[hi]
  have sl:t.slot (adN t.mask k1 (start t.mask (tk prog w ks))).j=.live i:=by rw[<- ei];exact dX S.ti.ris ⋯
  have hid:i<es.size:=hi;have tail:wpAny (model prog w) A (do
    let some (_,y):=es[i]? | unsupported "internal:set-entry"
    let equal <- holding [y] (eqBool y (.ref x))
    let (es',_,t') <- setState a
    if true&&equal then return SetFound.there none
    let some same:=t'.sameMemory t.moves t.mask|unsupported "set.changed-during-lookup:is-the-new-block-at-the-old-address"
    let still <- match (if same then t'.slot (adN t.mask k1 (start t.mask (tk prog w ks))).j else .empty) with
     | .live i'=>match es'[i']? with
      | some (_,y')=>do pure (if <- isSame y' y then some i' else none)
      | none=>pure none
     | _=>pure none
    match still with
    | none=>rule "set.search.anew";setSearchFrom a (.ref x) (tk prog w ks) true fuel none
    | some i'=>if equal then return .there (some i') else setSearchFrom a (.ref x) (tk prog w ks) true fuel (some (adN t.mask (k1+1) (start t.mask (tk prog w ks))))) Q E s:=by
   rw[eg];dsimp only;have ey:es[i].2=.ref b:=by rw[eb]
   rw[ey];refine yB (y0 (wpAny_eqBool_tuple hu hb hx ?_));refine yB (zt S.obj rfl S.fits ?_);dsimp only;by_cases hkk':ks'=ks
   ·subst hkk'
    rw[decide_eq_true rfl];simp only[vY,if_true];exact yD (q1 ⟨_,hm,b,eb,hb⟩)
   ·rw[decide_eq_false hkk']
    simp only[vP,u4,if_false];have sm:t.sameMemory t.moves t.mask=some true:=by unfold SetTable.sameMemory;simp
    rw[sm];dsimp only;simp only[if_true];rw[sl];dsimp only;rw[eg];dsimp only;rw[ey];refine yB (wpAny_isSame_ref_self (yB (yD ?_)));simp only[if_true];refine rec (k1+1) ⋯ ⋯ λ i' hi' ⟨k'',h6,h7⟩ e he hE=>?_
    by_cases z:k''<k
    ·exact h5 i' hi' ⟨k'',z,h7⟩ e he hE
    ·by_cases z2:k''=k1
     ·subst z2
      have:i'=i:=by
       have h8:t.place.getD i' 0=t.place.getD i 0:=by rw[h7,ei]
       have h9:=below_at S.ti.ris (i:=i') ⋯;have h10:=below_at S.ti.ris (i:=i) ⋯;rw[h8,h10] at h9;exact h9.symm
      subst this;rw[eg] at he;have he:es[i']=e:=Option.some.inj he;subst he;obtain⟨b2,e3,hb2⟩:=hE;rw[eb] at e3;have:b=b2:=by injection e3 with _ e4;injection e4
      subst this;exact hkk' (hb.inj hb2)
     ·obtain⟨b2,e3,_⟩:=hE
      refine a3 k'' ⋯ ⋯ ⟨i',hi',h7,?_⟩;have:es[i']=e:=by
       rw[yJ hi'] at he;exact Option.some.inj he
      simp only[yU,hi',dif_pos];show (es[i']).1=_
      rw[this,e3]
  by_cases hl:t.led=true
  ·rw[hl]
   simp only[vO,u4,if_false];exact tail
  ·rw[Bool.eq_false_iff.mpr hl]
   simp only[wJ,if_true];refine yB (oW hx _ (λ v hv=>?_) ?_)
   ·obtain⟨e,he,rfl⟩:=f9 hv
    obtain⟨ks'',b'',e1,e2⟩:=S.ent e he;exact⟨b'',ks'',by rw[e1],e2⟩
   ·simp only[u4,if_false]
    exact tail
theorem qD (S:SetV prog w s.heap a es ep t)(hx:IsK prog w s.heap ks x)(hu:A.units<cLine)
  (hk0:k0<10*turns t.mask) (he0:¬ Occ t (adN t.mask k0 (start t.mask (tk prog w ks))).j) (hoc:∀ k',k'<k0->Occ t (adN t.mask k' (start t.mask (tk prog w ks))).j)
  (q1:(∃ e∈es.toList,Ent prog w s.heap e ks)->Q (.there none) s) (q2:(¬ ∃ e∈es.toList,Ent prog w s.heap e ks)->Q (.free (adN t.mask k0 (start t.mask (tk prog w ks))).j false) s):
  ∀ (m k fuel:Nat) (stand:Option Probe),k<=k0->k0-k<=m->m<fuel->stand.getD (t.probeStart (tk prog w ks))=adN t.mask k (start t.mask (tk prog w ks)) ->
   (∀ i,i<es.size->(∃ k',k'<k/\t.place.getD i 0=(adN t.mask k' (start t.mask (tk prog w ks))).j)->∀ e,es[i]?=some e->¬ Ent prog w s.heap e ks) ->
   wpAny (model prog w) A (setSearchFrom a (.ref x) (tk prog w ks) true fuel stand) Q E s:=by
 intro m
 induction m with
 | zero=>
  intro k fuel stand h1 h2 h3 h4 h5;obtain⟨fuel,rfl⟩:∃ f,fuel=f+1:=⟨fuel-1,⋯⟩;exact gX S hx hu hk0 he0 hoc q1 q2 k fuel stand h1 h4 h5 λ k' a b=>⋯
 | succ m ih=>
  intro k fuel stand h1 h2 h3 h4 h5;obtain⟨fuel,rfl⟩:∃ f,fuel=f+1:=⟨fuel-1,⋯⟩;exact gX S hx hu hk0 he0 hoc q1 q2 k fuel stand h1 h4 h5 λ k' a b h6=>ih k' fuel _ b ⋯ ⋯ rfl h6
theorem lF (S:SetV prog w s.heap a es ep t)(hx:IsK prog w s.heap ks x)(hu:A.units<cLine)
  (q1:(∃ e∈es.toList,Ent prog w s.heap e ks)->Q (.there none) s) (q2:(¬ ∃ e∈es.toList,Ent prog w s.heap e ks)->∀ j,j<=t.mask->¬ Occ t j->Way t.mask (Occ t) (tk prog w ks) j->Q (.free j false) s):
  wpAny (model prog w) A (setSearch a (.ref x) (tk prog w ks) true) Q E s:=by
 have hf:=S.fit.le;have hsz:=S.ti.size;obtain⟨k0,h1,h2,h3⟩:=jV S.ti.ris S.fit.mk ⋯ (tk prog w ks);have hb:turns t.mask<=142:=by unfold turns;rcases S.fit with h|h|h <;>omega
 exact qD S hx hu h1 h2 h3 q1 (λ n=>q2 n _ (kr _ k0).1 h2 ⟨k0,rfl,h3⟩) k0 0 100000 none (vK _) ⋯ ⋯ rfl λ i hi ⟨k',z,_⟩=>⋯
end
end
section
variable {prog:Program}{w:World}{A:Around}{E:Value->Shared->Prop}{s:Shared}{a:Addr}{es:Array (Int×Value)}{ep:Nat}{t:SetTable}{x:Addr}{ks:List Int}
theorem IsK.keep {h h':Heap}{b:Addr}{o:Obj}(hk:IsK prog w h ks b)(ha:h.get? a=some o)(hc:o.cls=.type "set")(e:∀ c u,c≠a->h.get? c=some u->h'.get? c=some u):IsK prog w h' ks b:=by
 obtain⟨o',items,n,ho',hc',hd',hi⟩:=hk;have hne:b≠a:=by
  rintro rfl
  obtain rfl:o'=o:=Option.some.inj (ho'.symm.trans ha);rw[hc] at hc';exact absurd (BI hc') (by decide)
 exact⟨o',items,n,e b o' hne ho',hc',hd',hi⟩
theorem iV (n:Nat){v:Value}(h:∃ i t,v=.int i t):hashByValue n v=pure true:=by
 obtain⟨i,t,rfl⟩:=h;cases n <;>rfl
theorem gc {Q:Bool->Shared->Prop}(hk:IsK prog w s.heap ks x)(h:Q true s):wpAny (model prog w) A (hashByValue 8 (.ref x)) Q E s:=by
 have hT:=hk.typeIs;obtain⟨o,items,n,ho,_,hd,hi⟩:=hk;unfold hashByValue;refine yB (AL hT F.slot_tuple_hash.lookup ?_);dsimp only;refine yB ?_
 unfold seqItems?;refine yB (wpAny_load ho ?_);rw[hd];refine yD ?_
 refine yB ?_
 show wpAny _ _ (forIn items _ _) _ _ s
 rw[<- Cc];refine Bm _ (λ rest r s'=>r.1=none/\s'=s/\∀ v∈rest,∃ i t,v=zA i t) _ ?_ ?_ _ _ ⟨rfl,rfl,items_int hi⟩
 ·rintro v rest r s' ⟨hr,rfl,hall⟩
  rw[iV _ (hall v uY)];refine yB (yD ?_);simp only[vO,u4,if_false];exact yD ⟨rfl,rfl,λ u hu'=>hall u (uU _ hu')⟩
 ·rintro ⟨r1,r2⟩ s' ⟨hr,rfl,_⟩
  simp only at hr;subst hr;exact yD h
theorem stored {h:Heap}(S:SetV prog w h a es ep t)(es':Array (Int×Value))(t':SetTable):(h.update a (zZ es' t')).get? a=some { cls:=.type "set",dict:=none,data:=.set es' (ep+1) t' }/\∀ c u,c≠a->h.get? c=some u->(h.update a (zZ es' t')).get? c=some u:=by
 refine⟨?_,λ c u hc e=>(yR _ _ (Ne.symm hc)).trans e⟩;have:=zw (zZ es' t') S.obj (by rw[Cd es' t' rfl];rfl);rw[Cd es' t' rfl] at this;exact this
theorem SetV.store {h:Heap}(S:SetV prog w h a es ep t){es':Array (Int×Value)}{t':SetTable}(T:TI t' es')(hf:Fits t'.mask es'.size)(hp:t'.plain=true)(hl:t'.led=t.led)
  (he:∀ e∈es'.toList,∃ ks,Ent prog w h e ks):SetV prog w (h.update a (zZ es' t')) a es' (ep+1) t':=by
 obtain⟨g1,g2⟩:=stored S es' t';refine⟨g1,T,hf,hp,hl.trans S.led,λ e hm=>?_⟩;obtain⟨ks,b,e1,hb⟩:=he e hm;exact⟨ks,b,e1,hb.keep S.obj rfl g2⟩
theorem aZ {Q:Bool->Shared->Prop}(S:SetV prog w s.heap a es ep t)(hx:IsK prog w s.heap ks x)(hu:A.units<cLine)(hn:es.size<64)
  (h1:(∃ e∈es.toList,Ent prog w s.heap e ks)->Q false { s with toks:=s.toks+(ks.length+1) })
  (h2:(¬ ∃ e∈es.toList,Ent prog w s.heap e ks)->∀ h' es' ep' t',SetV prog w h' a es' ep' t'->es'.toList.Perm ((tk prog w ks,.ref x)::es.toList)->(∀ c u,c≠a->s.heap.get? c=some u->h'.get? c=some u)->Q true { s with heap:=h',toks:=s.toks+(ks.length+1) }):
  wpAny (model prog w) A (setAdd a (.ref x)) Q E s:=by
 unfold setAdd;refine y0 (yB (wpAny_pyHash_tuple (knd:=intKind prog w) hu hx ?_));unfold setAddHashed;refine y0 ?_
 unfold setAddHashedIn;refine yB (zt (s:={ s with toks:=s.toks+(ks.length+1) }) S.obj rfl S.fits ?_);dsimp only;have nb:byScan (.ref x) es=false:=by simp[byScan,Value.scannable]
 rw[nb];simp only[u4,if_false];refine yB (lF (s:={ s with toks:=s.toks+(ks.length+1) }) S hx hu (λ q=>?_) λ q j hj ho hw=>?_)
 ·dsimp only
  exact yD (h1 q)
 ·dsimp only
  refine yB (zt (s:={ s with toks:=s.toks+(ks.length+1) }) S.obj rfl S.fits ?_);obtain⟨e1,T,e2,e3,e4,e5,e6⟩:=S.ti.put (x:=yQ x) hj ho hw;dsimp only;have hp:(t.put j).1.plain=true:=e3.trans S.plain;rw[show (t.put j).1.plain=true from hp];simp only[if_true];refine yB (gc (s:={ s with toks:=s.toks+(ks.length+1) }) hx ?_);simp only[if_true];rw[show (t.put j).2=below t.place j from e1];have sz:(insertAt es (below t.place j) (tk prog w ks,yQ x)).size=es.size+1:=fN _ _ _;have pm:(insertAt es (below t.place j) (tk prog w ks,yQ x)).toList.Perm ((tk prog w ks,.ref x)::es.toList):=by
   rw[bu];refine List.perm_middle.trans ?_
   rw[v7]
  have ent:∀ e∈(insertAt es (below t.place j) (tk prog w ks,yQ x)).toList,∃ ks,Ent prog w s.heap e ks:=λ e he=>by
   rcases List.mem_cons.mp (pm.mem_iff.mp he) with rfl|he
   ·exact⟨ks,x,rfl,hx⟩
   ·exact S.ent e he
  have ok:∀ n,n<=100->n<=sizeLine:=λ n hn=>by rw[yZ];omega
  refine yB (wpAny_storeSet_of (s:={ s with toks:=s.toks+(ks.length+1) }) S.obj rfl ?_ (ok _ (by rw[sz];omega)));obtain⟨g1,g2⟩:=stored S (insertAt es (below t.place j) (tk prog w ks,yQ x)) (t.put j).1;have fill:(t.put j).1.fill=es.size+1:=by
   unfold CL;rw[T.dum,T.size,sz];rfl
  have full:(t.put j).1.tooFull=decide ((es.size+1)*5 ≥ t.mask*3):=by
   unfold SetTable.tooFull;rw[fill,e2]
  rw[full];by_cases q2:(es.size+1)*5 ≥ t.mask*3
  ·rw[decide_eq_true q2]
   simp only[wJ,vY,if_true];obtain⟨mask',hm,hmk,hw',hfit⟩:∃ mask',es.size+1<=mask'/\Mk mask'/\sizeAbove (grown (es.size+1))-1=mask'/\Fits mask' (es.size+1):=by
    rcases S.fit with ⟨f1,f2⟩|⟨f1,f2⟩|⟨f1,f2⟩
    ·have:es.size=4:=by rw[f1] at q2;omega
     rw[this];exact⟨31,by decide,.inr (.inl rfl),by decide,.inr (.inl ⟨rfl,by decide⟩)⟩
    ·have:es.size=18:=by rw[f1] at q2;omega
     rw[this];exact⟨127,by decide,.inr (.inr rfl),by decide,.inr (.inr ⟨rfl,by decide⟩)⟩
    ·rw[f1] at q2;omega
   obtain⟨t',order,r1,r2,r3,r4,r5,r6⟩:=lW (t:=(t.put j).1) (es:=insertAt es (below t.place j) (tk prog w ks,yQ x)) (wanted:=grown (es.size+1)) hmk (by rw[sz];exact hm) hw';have fits1:(t.put j).1.fits (insertAt es (below t.place j) (tk prog w ks,yQ x)).size=true:=by
    have:=S.fit.le;unfold CK;rw[fill,T.size,e2,sz];simp;omega
   refine yB ?_
   unfold setRelay;refine yB (zt g1 rfl fits1 ?_);dsimp only;have big:¬ sizeAbove (grown (es.size+1)) > sizeLine:=by
    have:sizeAbove (grown (es.size+1))<=128:=by have:=hmk;unfold Mk at this;omega
    have:=ok 100 ⋯;rw[yZ] at this ⊢;omega
   rw[if_neg big,r1];have sz2:(order.filterMap ((insertAt es (below t.place j) (tk prog w ks,yQ x))[·]?)).size=es.size+1:=by rw[<- yI,r2.length_eq,yI,sz]
   refine yB ?_
   show wpAny _ _ (if ((order.filterMap ((insertAt es (below t.place j) (tk prog w ks,yQ x))[·]?)).size != (insertAt es (below t.place j) (tk prog w ks,yQ x)).size)=true then _ else _) _ _ _
   rw[sz2,sz];simp only[bne_self_eq_false,u4,if_false];refine yD ?_
   dsimp only;have S1:SetV prog w (s.heap.update a (zZ (insertAt es (below t.place j) (tk prog w ks,yQ x)) (t.put j).1)) a (insertAt es (below t.place j) (tk prog w ks,yQ x)) (ep+1) (t.put j).1\/True:=.inr trivial;refine wpAny_storeSet_of (s:={ s with heap:=_,toks:=_ }) g1 rfl ?_ (ok _ (by rw[sz2];omega))
   have g3:=zw (zZ (order.filterMap ((insertAt es (below t.place j) (tk prog w ks,yQ x))[·]?)) t') g1 (by rw[Cd _ _ rfl];rfl);rw[Cd _ _ rfl] at g3;have g4:∀ c u,c≠a->s.heap.get? c=some u->((s.heap.update a (zZ (insertAt es (below t.place j) (tk prog w ks,yQ x)) (t.put j).1)).update a (zZ (order.filterMap ((insertAt es (below t.place j) (tk prog w ks,yQ x))[·]?)) t')).get? c=some u:=λ c u hc e=>(yR _ _ (Ne.symm hc)).trans (g2 c u hc e)
   refine yD (h2 q _ _ _ _ ⟨g3,r3,by rw[r4,sz2];exact hfit,r5.trans hp,r6.trans (e4.trans S.led),λ e hm=>?_⟩ (r2.trans pm) g4);obtain⟨ks',b,e1,hb⟩:=ent e (r2.mem_iff.mp hm);exact⟨ks',b,e1,hb.keep S.obj rfl g4⟩
  ·rw[decide_eq_false q2]
   simp only[wJ,vP,u4,if_false];refine yD (h2 q _ _ _ _ (S.store T ?_ hp e4 ent) pm g2);rw[e2,sz]
   rcases S.fit with ⟨f1,f2⟩|⟨f1,f2⟩|⟨f1,f2⟩
   ·rw[f1] at q2;exact .inl ⟨f1,⋯⟩
   ·rw[f1] at q2;exact .inr (.inl ⟨f1,⋯⟩)
   ·rw[f1] at q2;exact .inr (.inr ⟨f1,⋯⟩)
end
open PySem PySem.SetTable PyProof.Rows
def cR (val:Nat->List Int):Nat->List (List Int)
 | 0=>[]
 | i+1=>if (cR val i).any (· == val i) then cR val i else cR val i++[val i]
section
variable {prog:Program}{w:World}{B:List Int->Value->Prop}
def Has (prog:Program)(w:World)(B:List Int->Value->Prop)(h:Heap)(es:Array (Int×Value))(l:List (List Int)):Prop:=∃ p:List (Int×Value),es.toList.Perm p/\p.length=l.length/\∀ i (h1:i<p.length) (h2:i<l.length),Ent prog w h p[i] l[i]/\B l[i] p[i].2
theorem Ent.keep {h h':Heap}{a:Addr}{o:Obj}{e:Int×Value}{ks:List Int}(q:Ent prog w h e ks)(ha:h.get? a=some o)(hc:o.cls=.type "set")(k:∀ c u,c≠a->h.get? c=some u->h'.get? c=some u):Ent prog w h' e ks:=
 let ⟨b,e1,hb⟩:=q
 ⟨b,e1,hb.keep ha hc k⟩
theorem Has.mem {h:Heap}{es:Array (Int×Value)}{l:List (List Int)}(H:Has prog w B h es l){ks:List Int}:(∃ e∈es.toList,Ent prog w h e ks) ↔ ks∈l:=by
 obtain⟨p,p1,p2,p3⟩:=H
 constructor
 ·rintro ⟨e,he,b,rfl,hb⟩
  obtain⟨i,hi,ei⟩:=vC (p1.mem_iff.mp he);obtain⟨⟨b',e',hb'⟩,_⟩:=p3 i hi ⋯;rw[ei] at e';have:b=b':=by injection e' with _ e4;injection e4
  subst this;have:=hb.inj hb';subst this;exact vN _
 ·intro hk
  obtain⟨i,hi,rfl⟩:=vC hk;exact⟨p[i],p1.mem_iff.mpr (vN _),(p3 i ⋯ hi).1⟩
theorem Has.keep {h h':Heap}{a:Addr}{o:Obj}{es:Array (Int×Value)}{l:List (List Int)}(H:Has prog w B h es l)(ha:h.get? a=some o)(hc:o.cls=.type "set")(k:∀ c u,c≠a->h.get? c=some u->h'.get? c=some u):Has prog w B h' es l:=
 let ⟨p,p1,p2,p3⟩:=H
 ⟨p,p1,p2,λ i h1 h2=>⟨(p3 i h1 h2).1.keep ha hc k,(p3 i h1 h2).2⟩⟩
theorem Has.more {h:Heap}{es es':Array (Int×Value)}{l:List (List Int)}(H:Has prog w B h es l){ks:List Int}{x:Addr}(hx:IsK prog w h ks x)(hB:B ks (.ref x))(pm:es'.toList.Perm ((tk prog w ks,.ref x)::es.toList)):Has prog w B h es' (l++[ks]):=by
 obtain⟨p,p1,p2,p3⟩:=H;refine⟨p++[(tk prog w ks,.ref x)],pm.trans ((List.Perm.cons _ p1).trans (List.perm_append_singleton _ _).symm),by simp[p2],λ i h1 h2=>?_⟩;by_cases z:i<p.length
 ·rw[xi z,xi ⋯]
  exact p3 i z ⋯
 ·have:i=p.length:=by simp at h1;omega
  subst this;rw[xg (u5 _),xg ⋯];simp only[p2,yv,List.getElem_cons_zero];exact⟨⟨x,rfl,hx⟩,hB⟩
theorem IsK.keepN {h h':Heap}{I b:Addr}{o:Obj}{ks:List Int}(hk:IsK prog w h ks b)(hI:h.get? I=some o)(hc:o.cls≠.type "tuple")(e:∀ c u,c≠I->h.get? c=some u->h'.get? c=some u):IsK prog w h' ks b:=by
 obtain⟨o',items,n,ho',hc',hd',hi⟩:=hk;have hne:b≠I:=by
  rintro rfl
  obtain rfl:o'=o:=Option.some.inj (ho'.symm.trans hI);exact hc hc'
 exact⟨o',items,n,e b o' hne ho',hc',hd',hi⟩
theorem SetV.keepN {h h':Heap}{I S:Addr}{o:Obj}{es:Array (Int×Value)}{ep:Nat}{t:SetTable}(V:SetV prog w h S es ep t)(hI:h.get? I=some o)(hc:o.cls≠.type "tuple")(hS:S≠I)(e:∀ c u,c≠I->h.get? c=some u->h'.get? c=some u):SetV prog w h' S es ep t:=
 ⟨e S _ hS V.obj,V.ti,V.fit,V.plain,V.led,λ x hx=>let ⟨ks,b,e1,hb⟩:=V.ent x hx;⟨ks,b,e1,IsK.keepN hb hI hc e⟩⟩
theorem Has.keepN {h h':Heap}{I:Addr}{o:Obj}{es:Array (Int×Value)}{l:List (List Int)}(H:Has prog w B h es l)(hI:h.get? I=some o)(hc:o.cls≠.type "tuple")(e:∀ c u,c≠I->h.get? c=some u->h'.get? c=some u):Has prog w B h' es l:=
 let ⟨p,p1,p2,p3⟩:=H
 ⟨p,p1,p2,λ i h1 h2=>let ⟨⟨b,e1,hb⟩,hB⟩:=p3 i h1 h2;⟨⟨b,e1,IsK.keepN hb hI hc e⟩,hB⟩⟩
theorem SetV.size {h:Heap}{S:Addr}{es:Array (Int×Value)}{ep:Nat}{t:SetTable}{l:List (List Int)}(V:SetV prog w h S es ep t)(H:Has prog w B h es l):es.size=l.length:=by
 obtain⟨p,p1,p2,_⟩:=H;rw[<- p2,<- p1.length_eq,yI]
theorem kL (val:Nat->List Int):∀ i,(cR val i).length<=i
 | 0=>u5 _
 | i+1=>by
  have:=kL val i;unfold cR
  split
  ·omega
  ·simp;omega
variable {A:Around}{R:Result->Shared->Prop}
theorem oC (hh:A.handled=none)(hu:A.units+8<cLine){I l S:Addr}(hlI:l≠I)(hSI:S≠I)(hSl:S≠l){items:Array Value}{val:Nat->List Int}(hz:items.size<64):
  ∀ (k i:Nat) (s:Shared),items.size-i=k->i<=items.size->s.heap.IsListIter I l i->s.heap.IsList l items->(∃ es ep t,SetV prog w s.heap S es ep t/\Has prog w B s.heap es (cR val i)) ->
   (∀ j,j<items.size->∃ b,items[j]?=some (.ref b)/\IsK prog w s.heap (val j) b/\B (val j) (.ref b)) ->
   (∀ h' tk,(∀ b o,b≠S->b≠I->s.heap.get? b=some o->h'.get? b=some o)->(∃ es ep t,SetV prog w h' S es ep t/\Has prog w B h' es (cR val items.size))->R (.ok (.ret .none)) { s with heap:=h',toks:=tk }) ->
   codeAny (model prog w) A (.builtin "set.update.loop" ⟨[.ref S,.ref I],[]⟩) R s:=by
 intro k
 induction k with
 | zero=>
  intro i s hk hi hit hl hS hv hR;have hin:i=items.size:=⋯
  subst hin;refine AM Bs (by
   rw[AN zM _];show wpAny _ A.in1 (pyNext (.ref I) >>= _) _ _ s
   refine yB (AA (by simpa using hh) hit hl (by simp) λ h' he=>?_);obtain⟨es,ep,t,V,H⟩:=hS;obtain⟨oI,hoI,hcI,_⟩:=hit;have hc:oI.cls≠.type "tuple":=by rw[hcI];intro z;exact absurd (BI z) (by decide)
   exact yD (hR h' s.toks (λ b o _ hb e=>he b o hb e) ⟨es,ep,t,V.keepN hoI hc hSI he,H.keepN hoI hc he⟩))
 | succ k ih=>
  intro i s hk hi hit hl hS hv hR;have hlt:i<items.size:=⋯
  obtain⟨b,eb,hb,hB⟩:=hv i hlt;refine AM Bs (by
   rw[AN zM _];show wpAny _ A.in1 (pyNext (.ref I) >>= _) _ _ s
   refine yB (Ao hit hl (x:=.ref b) eb λ h' hit' hs'=>?_);obtain⟨es,ep,t,V,H⟩:=hS;obtain⟨oI,hoI,hcI,_⟩:=hit;have hc:oI.cls≠.type "tuple":=by rw[hcI];intro z;exact absurd (BI z) (by decide)
   have V':=V.keepN hoI hc hSI hs'.extBut;have H':=H.keepN hoI hc hs'.extBut;have hb':=IsK.keepN hb hoI hc hs'.extBut;have hl':=hl.extBut hs'.extBut hlI;have hsz:=V.size H;have hml:=kL val i;show wpAny _ A.in1 (holding [yQ b] (setAdd S (.ref b)) >>= _) _ _ { s with heap:=h' }
   refine yB (y0 (aZ (s:={ s with heap:=h' }) V' hb' (by show A.units+1<cLine;omega) ⋯ (λ q=>?_) λ q h2 es' ep' t' V2 pm k2=>?_))
   ·have hm:=H'.mem.mp q
    refine yD ⟨Av zM _,ih (i+1) _ ⋯ hlt hit' hl' ⟨es,ep,t,V',?_⟩ (λ j hj=>?_) λ h3 tk k3 hS3=>?_⟩
    ·unfold cR
     rw[if_pos (by simpa using hm)];exact H'
    ·obtain⟨b2,e2,hb2,hB2⟩:=hv j hj
     exact⟨b2,e2,IsK.keepN hb2 hoI hc hs'.extBut,hB2⟩
    ·exact hR h3 tk (λ c o h4 h5 e=>k3 c o h4 h5 (hs'.extBut c o h5 e)) hS3
   ·have hm:¬ val i∈cR val i:=λ z=>q (H'.mem.mpr z)
    have hSc:({ cls:=.type "set",dict:=none,data:=.set es ep t }:Obj).cls=.type "set":=rfl;refine yD ⟨Av zM _,ih (i+1) _ ⋯ hlt ?_ ?_ ⟨es',ep',t',V2,?_⟩ (λ j hj=>?_) λ h3 tk k3 hS3=>?_⟩
    ·exact hit'.at λ o e=>k2 I o (Ne.symm hSI) e
    ·exact hl'.at λ o e=>k2 l o (Ne.symm hSl) e
    ·unfold cR
     rw[if_neg (by simpa using hm)];exact Has.keep (H'.more hb' hB pm) V'.obj hSc k2
    ·obtain⟨b2,e2,hb2,hB2⟩:=hv j hj
     exact⟨b2,e2,(IsK.keepN hb2 hoI hc hs'.extBut).keep V'.obj hSc k2,hB2⟩
    ·exact hR h3 tk (λ c o h4 h5 e=>k3 c o h4 h5 (k2 c o h4 (hs'.extBut c o h5 e))) hS3)
end
section
variable {prog:Program}{w:World}{A:Around}{E:Value->Shared->Prop}{s:Shared}{B:List Int->Value->Prop}
abbrev fU (w:World):Obj:={ cls:=.type "set",dict:=none,data:=.set #[] 0 (.fresh 0 0 (!byT w)) }
theorem pH (a:Value){Q₁:Value->Shared->Prop}(h:Q₁ (.ref s.heap.objs.size) { s with heap:=s.heap.push (fU w) }):
  codeAny (model prog w) A (.call (.builtin "set.__new__") ⟨[.type "set",a],[]⟩) (wants Q₁ E) s:=by
 refine codeAny_of_tree (show wpAny _ A.in1 (do checkBuiltinCall "set.__new__" ⟨[.type "set",a],[]⟩;again (.builtin "set.__new__" ⟨[.type "set",a],[]⟩)) _ _ s from ?_);refine yB (Cq (PySem.F.newCall_set_1 a) (yD ⟨Av F.plain_set_new _,AM F.entry_set_new (by
  rw[AN F.plain_set_new _];unfold Builtin.«set.__new__» CM;have hsub:=sub_set_self;obtain⟨hp,g,d,tk,os⟩:=s;dsimp only;wp_walk;refine z0 (yD ?_);dsimp only;simp only[newObj];refine yB (wpAny_alloc (yD (yD h))))⟩))
theorem oD {h:Heap}{a:Addr}(e:h.get? a=some (fU w)):SetV prog w h a #[] 0 (.fresh 0 0 (!byT w)):=⟨e,TI.fresh _ _ _,.inl ⟨rfl,by decide⟩,rfl,rfl,λ e he=>by cases he⟩
theorem mP {h:Heap}:Has prog w B h #[] []:=⟨[],.refl _,rfl,λ i h1=>by simp at h1⟩
set_option maxHeartbeats 3200000 in
theorem mn {l:Addr}{items:Array Value}{val:Nat->List Int}{Q:Value->Shared->Prop}(hh:A.handled=none)(hu:A.units+64<cLine)(hl:s.heap.IsList l items)(hz:items.size<64)
  (hv:∀ j,j<items.size->∃ b,items[j]?=some (.ref b)/\IsK prog w s.heap (val j) b/\B (val j) (.ref b))
  (h:∀ (h':Heap) (tk:Nat),(∃ es ep t,SetV prog w h' s.heap.objs.size es ep t/\Has prog w B h' es (cR val items.size))->(∀ b o,s.heap.get? b=some o->h'.get? b=some o)->Q (.ref s.heap.objs.size) { s with heap:=h',toks:=tk }):
  wpAny (model prog w) A (call (.type "set") [.ref l]) Q E s:=by
 obtain⟨c,tl,hmro⟩:=F.called_set.mro;have ⟨hmade,hsub,h1,h2,hct⟩:_/\_/\_/\_/\_:=⟨F.called_set.made,F.called_set.sub,F.called_set.notType,F.called_set.canCreate,PySem.F.typeCall_set_1 (.ref l)⟩;refine wpAny_call (codeAny_of_tree (show wpAny _ _ (callAny (.type "set") _) _ _ _ from yD ⟨Code.quiet_builtin _ (by decide +kernel),AM F.entry_type_call ?_⟩));rw[Around.under_plain (weight_type_call_type "set" [.ref l] []) rfl]
 repeat (any_goals (first|assumption|wp_step))
 refine AJ (pH (.ref l) (E:=E) (Q₁:=λ obj s₁=>obj=.ref s.heap.objs.size/\s₁={ s with heap:=s.heap.push (fU w) }) ⟨rfl,rfl⟩) λ r s₁ hr=>?_
 match r,hr with
 | .error e,hr=>exact hr
 | .ok (.ret obj),hr=>
  obtain⟨rfl,rfl⟩:=hr;have hS:(s.heap.push (fU w)).get? s.heap.objs.size=some (fU w):=yL _ rfl;have hT:Shared.TypeIs { s with heap:=s.heap.push (fU w) } (.ref s.heap.objs.size) "set":=⟨_,hS,rfl⟩;have ⟨hli,hbi⟩:_/\_:=⟨F.called_set.init.lookup,F.called_set.init.bind (.ref s.heap.objs.size)⟩
  repeat (any_goals (first|assumption|wp_step))
  refine AJ (codeAny_call_builtin (R:=wants (λ r s₂=>r=.none/\∃ h' tk,s₂={ s with heap:=h',toks:=tk }/\(∃ es ep t,SetV prog w h' s.heap.objs.size es ep t/\Has prog w B h' es (cR val items.size)) /\
   (∀ b o,s.heap.get? b=some o->h'.get? b=some o)) E) F.called_set.init.plain F.entry_set_init (check_set_init_1 hT ?_)) λ r₂ s₂ hr₂=>?_
  ·obtain⟨ol,hol,hcl,nl,hdl⟩:=hl
   obtain⟨ocls,odict,odata,oslots⟩:=ol;simp only at hcl hdl;subst hcl;subst hdl;have hol':(s.heap.push (fU w)).get? l=some { cls:=.type "list",dict:=odict,data:=.seq items nl,slots:=oslots }:=yE _ hol;have ⟨hsls,hslf,hne⟩:_/\_/\(zr "list" == zr "dict")=false:=⟨PySem.F.sub_list_set,PySem.F.sub_list_frozenset,by decide⟩;have hl1:(s.heap.push (fU w)).IsList l items:=⟨_,hol',rfl,nl,rfl⟩;unfold Builtin.«set.__init__» noKeywords CH;generalize hPI:pyIter=PI
   wp_walk
   subst hPI;have hlS:l<s.heap.objs.size:=yG hol;refine A8 hl1 (yB (wpAny_runValue ?_));have zs:(s.heap.push (fU w)).objs.size=s.heap.objs.size+1:=zS ..;have up:∀ b o,s.heap.get? b=some o->((s.heap.push (fU w)).push { cls:=.type "list_iterator",data:=.fields #[.ref l,.int 0 0] }).get? b=some o:=λ b o e=>yE _ (yE _ e)
   refine oC (B:=B) (I:=(s.heap.push (fU w)).objs.size) (l:=l) (val:=val) (by simp[hh]) (by show A.units+1+1+8<cLine;omega) (by rw[zs];exact u9 (vQ hlS)) (by rw[zs];exact u9 (vZ _)) (xo hlS) hz (items.size-0) 0 _ ⋯ (vK _)
    ⟨_,yL _ rfl,rfl,rfl⟩ (hl1.push _) ⟨#[],0,_,oD (yE _ hS),mP⟩ (λ j hj=>?_) λ h' tk k' hS'=>?_
   ·obtain⟨b,e1,⟨o,its,n,ho,r⟩,hB⟩:=hv j hj
    exact⟨b,e1,⟨o,its,n,up b o ho,r⟩,hB⟩
   ·show wpAny _ _ _ _ _ _
    refine yD ?_
    show wpAny _ _ (ret yK) _ _ _
    refine yD ⟨rfl,h',tk,rfl,hS',λ b o e=>k' b o ?_ ?_ (up b o e)⟩
    ·exact u9 (yG e)
    ·rw[zs];exact u9 (vQ (yG e))
  ·match r₂,hr₂ with
   | .error e,hr₂=>exact hr₂
   | .ok (.ret r),hr₂=>
    obtain⟨rfl,h',tk,rfl,hS',hk'⟩:=hr₂
    repeat (any_goals (first|assumption|wp_step))
    exact h _ _ hS' hk'
   | .ok .next,hr₂=>exact hr₂.elim
   | .ok .brk,hr₂=>exact hr₂.elim
   | .ok .cont,hr₂=>exact hr₂.elim
 | .ok .next,hr=>exact hr.elim
 | .ok .brk,hr=>exact hr.elim
 | .ok .cont,hr=>exact hr.elim
end
open PySem PySem.SetTable PyProof.Rows PySem.W
theorem nj:entryFor table "set.__iter__"=some Builtin.«frozenset.__iter__»:=entryFor_alias (id':="frozenset.__iter__") (by kernel_rfl) rfl (by decide +kernel) (by kernel_rfl)
theorem jA:Slot "set_iterator" "__iter__" "set_iterator.__iter__":=
 .of (owner:="set_iterator") (n:="__iter__") (by rw[typeLookup_type,BJ];kernel_rfl) (by decide +kernel) (by decide +kernel) (by decide +kernel) (by first|exact .inl (by decide +kernel)|exact .inr (by decide +kernel)) (by rw[AV];kernel_rfl)
theorem slot_sin:Slot "set_iterator" "__next__" "set_iterator.__next__":=
 .of (owner:="set_iterator") (n:="__next__") (by rw[typeLookup_type,BJ];kernel_rfl) (by decide +kernel) (by decide +kernel) (by decide +kernel) (by first|exact .inl (by decide +kernel)|exact .inr (by decide +kernel)) (by rw[AV];kernel_rfl)
theorem gK:entryFor table "set_iterator.__next__"=some Builtin.«set_iterator.__next__»:=entryFor_of_tree (by kernel_rfl)
theorem mE:entryFor table "set_iterator.__iter__"=some Builtin.«dict_keyiterator.__iter__»:=entryFor_alias (id':="dict_keyiterator.__iter__") (by kernel_rfl) rfl (by decide +kernel) (by kernel_rfl)
theorem oE (a:Value):argsOk "set_iterator.__iter__" ⟨[a],[]⟩:=by unfold argsOk;kernel_rfl
theorem jG (a:Value):argsOk "set_iterator.__next__" ⟨[a],[]⟩:=by unfold argsOk;kernel_rfl
theorem k8 {α:Type}(next:Nat->Nat):∀ (fuel k:Nat) (left:List α) (out:Array α),fuel=left.length->(Ce next fuel k left out).toList.Perm (out.toList++left)
 | 0,k,left,out,h=>by
  have:left=[]:=by simpa using h.symm
  subst this;unfold Ce;simp
 | fuel+1,k,left,out,h=>by
  have hl:next k%left.length<left.length:=xJ _ ⋯
  unfold Ce;rw[uV hl];refine(k8 next fuel (k+1) (left.eraseIdx (next k%left.length)) (out.push left[next k%left.length]) (by rw[wx hl];omega)).trans ?_
  rw[Array.toList_push,vD];refine List.Perm.append_left _ ?_
  generalize next k%left.length=i at hl
  rw[wN];refine(List.perm_middle (l₁:=left.take i) (a:=left[i]) (l₂:=left.drop (i+1))).symm.trans ?_
  rw[<- wb hl,v7]
theorem lJ {α:Type}(next:Nat->Nat)(xs:Array α):(pickOrder next xs).toList.Perm xs.toList:=by
 have:=k8 next xs.size 0 xs.toList #[] (by simp)
 simpa[pickOrder] using this
section
variable {prog:Program}{w:World}{A:Around}{E:Value->Shared->Prop}{s:Shared}{a:Addr}{es:Array (Int×Value)}{ep:Nat}{t:SetTable}
def bS (w:World)(a:Addr)(es:Array (Int×Value))(ep:Nat):Array Value:=if byT w then (pickOrder (w.params.setOrder a ep) es).map (·.2) else es.map (·.2)
theorem ord_perm:(bS w a es ep).toList.Perm (es.toList.map (·.2)):=by
 unfold bS
 split
 ·rw[Cz];exact(lJ _ es).map _
 ·rw[Cz]
theorem bL:(bS w a es ep).size=es.size:=by
 have:=(ord_perm (w:=w) (a:=a) (es:=es) (ep:=ep)).length_eq;simpa using this
abbrev mF (es:Array (Int×Value))(ep:Nat)(t:SetTable):Obj:={ cls:=.type "set",dict:=none,data:=.set es ep t }
abbrev itO (slot i n ep:Nat)(a:Addr):Obj:={ cls:=.type "set_iterator",dict:=none,data:=.fields #[.int slot 0,.int i 0,.ref a,.int n 0,.int ep 0],slots:=#[] }
structure Gone (w:World)(es:Array (Int×Value))(t:SetTable):Prop where
 size:t.place.size=es.size
 ris:Ris t.place
 fits:t.fits es.size=true
 plain:t.plain=true
 led:t.led=!byT w
theorem SetV.gone {h:Heap}(V:SetV prog w h a es ep t):Gone w es t:=⟨V.ti.size,V.ti.ris,V.fits,V.plain,V.led⟩
def StS (w:World)(I a:Addr)(es:Array (Int×Value))(ep:Nat)(t:SetTable)(i:Nat)(h:Heap):Prop:=∃ slot,h.get? I=some (itO slot i es.size ep a)/\h.get? a=some (mF es ep t)/\(byT w=false->below t.place slot=i)
theorem kX {i slot:Nat}(G:Gone w es t)(ha:s.heap.get? a=some (mF es ep t))(hs:byT w=false->below t.place slot=i)
  {Q:Option (Value×Nat)->Shared->Prop} (h1:∀ v,(bS w a es ep)[i]?=some v->∀ slot',(byT w=false->below t.place slot'=i+1)->Q (some (v,slot')) s) (h2:(bS w a es ep)[i]?=none->Q none s):
  wpAny (model prog w) A (setNext a slot i ep) Q E s:=by
 unfold setNext;refine yB (zt ha rfl G.fits ?_);dsimp only;refine yB ?_
 unfold setsByText;refine yB (z0 (yD ?_));show wpAny _ _ (if byT w=true then _ else _) _ _ _
 by_cases hb:byT w=true
 ·rw[if_pos hb]
  simp only[bne_self_eq_false,u4,if_false];refine yB ?_
  unfold setWalk;refine yB (zt ha rfl G.fits ?_);dsimp only;refine yB ?_
  unfold setsByText;refine yB (z0 (yD ?_));show wpAny _ _ (if byT w=true then _ else _) _ _ _
  rw[if_pos hb];refine yB (z0 (yD ?_));refine yD ?_
  have eo:bS w a es ep=(pickOrder (w.params.setOrder a ep) es).map (·.2):=by unfold bS;rw[if_pos hb]
  show Q (((pickOrder (w.params.setOrder a ep) es)[i]?).map λ e=>(e.2,slot)) s
  cases hv:(pickOrder (w.params.setOrder a ep) es)[i]? with
  | none=>exact h2 (by rw[eo,Ai,hv];rfl)
  | some e=>exact h1 e.2 (by rw[eo,Ai,hv];rfl) slot λ z=>by rw[hb] at z;cases z
 ·have hb':byT w=false:=Bool.eq_false_iff.mpr hb
  rw[if_neg hb];have eo:bS w a es ep=es.map (·.2):=by unfold bS;rw[if_neg hb]
  have dr:∀ b:Bool,(b=(!t.plain&&decide (es.size > 1)))->b=false:=λ b e=>by rw[e,G.plain];rfl
  show wpAny _ _ (if (!t.plain&&decide (es.size > 1))=true then _ else _) _ _ _
  rw[G.plain];simp only[vO,wq,u4,if_false];refine yB ?_
  show wpAny _ _ (if (!t.led&&!es.isEmpty)=true then _ else _) _ _ _
  rw[G.led,hb'];simp only[wJ,vO,wq,u4,if_false];refine yD ?_
  rw[hs hb'];refine yD ?_
  by_cases hi:i<es.size
  ·have hp:i<t.place.size:=by rw[G.size];exact hi
   rw[yJ hi,yJ hp];dsimp only;refine h1 es[i].2 (by rw[eo,Ai,yJ hi];rfl) _ λ _=>?_
   obtain⟨b1,b2,b3⟩:=dA G.ris (t.place[i]+1);have e1:t.place.getD i 0=t.place[i]:=by simp[yU,hp]
   rcases xf (below t.place (t.place[i]+1)) (i+1) with z|z|z
   ·have:=b3 i ⋯ hp
    rw[e1] at this;omega
   ·exact z
   ·have hz:i+1<t.place.size:=⋯
    have:=b2 (i+1) z;have h3:=G.ris.at hz (vZ i);rw[e1] at h3;omega
  ·rw[zk ⋯]
   dsimp only;exact h2 (by rw[eo,Ai,zk ⋯];rfl)
end
section
variable {prog:Program}{w:World}{A:Around}{E:Value->Shared->Prop}{s:Shared}{a:Addr}{es:Array (Int×Value)}{ep:Nat}{t:SetTable}
theorem qJ {Q:Value->Shared->Prop}(G:Gone w es t)(ha:s.heap.get? a=some (mF es ep t))(h:Q (.ref s.heap.objs.size) { s with heap:=s.heap.push (itO 0 0 es.size ep a) }):wpAny (model prog w) A (pyIter (.ref a)) Q E s:=by
 have hT:s.TypeIs (.ref a) "set":=⟨_,ha,rfl⟩;refine Bb hT F.slot_set_iter (ze F.slot_set_iter hT nj ?_ (F.args_set_iter_1 _));unfold Builtin.«frozenset.__iter__» CQ;refine yB (yD ?_);unfold CP;refine yB (yB (AR ha rfl G.fits (yD ?_)));refine yB (show wpAny _ _ (setState a >>= _) _ _ _ from yB (zt ha rfl G.fits ?_));dsimp only;unfold setsByText;refine yB (yB (z0 (yD (yD ?_))));have dz:∀ b:Bool,(!b&&(!t.plain&&decide (es.size > 1)))=false:=λ b=>by rw[G.plain];cases b <;>rfl
 show wpAny _ _ (if (!(byT w)&&(!t.plain&&decide (es.size > 1)))=true then _ else _) _ _ _
 rw[dz];simp only[u4,if_false];refine yB (yD ?_);refine yB (wpAny_setEpoch_of ha rfl G.fits ?_);unfold newFields;refine yB (zl ?_);exact yD ⟨_,rfl,"set_iterator",_,⟨_,yL _ rfl,rfl⟩,slot_sin.lookup,h⟩
theorem pZ {Q:Option Value->Shared->Prop}{I:Addr}{i slot:Nat}(G:Gone w es t)(hI:s.heap.get? I=some (itO slot i es.size ep a))(ha:s.heap.get? a=some (mF es ep t))(hne:a≠I)(hs:byT w=false->below t.place slot=i)
  (hi:i<es.size) (h1:∀ v h',(bS w a es ep)[i]?=some v->StS w I a es ep t (i+1) h'->(∀ b o,b≠I->s.heap.get? b=some o->h'.get? b=some o)->Q (some v) { s with heap:=h' }):
  wpAny (model prog w) A (pyNext (.ref I)) Q E s:=by
 have hT:s.TypeIs (.ref I) "set_iterator":=⟨_,hI,rfl⟩;unfold pyNext;refine yB (Aw (zN (name:=y7 "__next__") hT slot_sin (ze slot_sin hT gK ?_ (jG _))));unfold Builtin.«set_iterator.__next__»;refine yB (yD ?_);refine yB (AW hI rfl ?_);dsimp only;refine yB (AR ha rfl G.fits ?_);simp only[bne_self_eq_false,u4,if_false];simp only[wK];refine yB (kX G ha hs (λ v hv slot' hs'=>?_) λ hv=>?_)
 ·dsimp only
  refine yB (Cf hI (by simp) λ h₁ he₁ hs₁=>?_);replace hs₁:zQ I s.heap h₁:=hs₁;replace he₁:h₁.get? I=some (itO slot' i es.size ep a):=he₁;refine yB (Cf he₁ (by simp) λ h₂ he₂ hs₂=>?_);replace hs₂:zQ I h₁ h₂:=hs₂;replace he₂:h₂.get? I=some (itO slot' (i+1) es.size ep a):=by
   have e:((i+1:Nat):Int)=(i:Int)+1:=⋯
   unfold itO;rw[e];simpa[rawInt] using he₂
  have kp:∀ b o,b≠I->s.heap.get? b=some o->h₂.get? b=some o:=λ b o hb e=>hs₂.extBut b o hb (hs₁.extBut b o hb e)
  exact yD ⟨_,rfl,yD (h1 v h₂ hv ⟨slot',he₂,kp a _ hne ha,hs'⟩ kp)⟩
 ·rw[yJ (by rw[bL];exact hi)] at hv
  cases hv
theorem se {Q:Option Value->Shared->Prop}{I:Addr}{slot:Nat}(hh:A.handled=none)(G:Gone w es t)(hI:s.heap.get? I=some (itO slot es.size es.size ep a))(ha:s.heap.get? a=some (mF es ep t))(hs:byT w=false->below t.place slot=es.size)
  (h1:∀ h',(∀ b o,b≠I->s.heap.get? b=some o->h'.get? b=some o)->Q none { s with heap:=h' }):
  wpAny (model prog w) A (pyNext (.ref I)) Q E s:=by
 have hT:s.TypeIs (.ref I) "set_iterator":=⟨_,hI,rfl⟩;unfold pyNext;refine yB (Aw (zN (name:=y7 "__next__") hT slot_sin (ze slot_sin hT gK ?_ (jG _))));unfold Builtin.«set_iterator.__next__»;refine yB (yD ?_);refine yB (AW hI rfl ?_);dsimp only;refine yB (AR ha rfl G.fits ?_);simp only[bne_self_eq_false,u4,if_false];simp only[wK];refine yB (kX G ha hs (λ v hv slot' hs'=>?_) λ hv=>?_)
 ·rw[zk (by rw[bL];omega)] at hv
  cases hv
 ·dsimp only
  refine yB (BK hI rfl (by simp) ?_);refine yB ?_
  simp only[newExc,newTuple];refine yB (zl ?_ (by size_fits));refine yB (m:=firstArgMember _ _) (Cq (a:=yK) (by first|rfl|(simp only[firstArgMember];rfl)) ?_);refine zl ?_ (by size_fits)
  simp only[raiseNew];refine yB (wpAny_handled ?_);rw[show A.in1.handled=none from hh];refine yB (yD (wpAny_throw ?_));refine yB (Az (T:="StopIteration") (b:=true) ⟨_,yL _ rfl,rfl⟩ isSubtype_stop ?_);exact yD (h1 _ (((AS ..).extBut.push _).push _))
theorem lI (hh:A.handled=none)(G:Gone w es t)(I:Addr)(hne:a≠I):Walks prog w A I [I,a] [I] es.size (λ i v=>(bS w a es ep)[i]?=some v) (StS w I a es ep t) where
 sub:=λ b hb=>by simp at hb;simp[hb]
 frame:=λ i h h' ⟨slot,h1,h2,h3⟩ hk=>⟨slot,hk I (by simp) _ h1,hk a (by simp) _ h2,h3⟩
 item:=λ i s Q E hi ⟨slot,h1,h2,h3⟩ hQ=>pZ G h1 h2 hne h3 hi λ v h' hv hst hk=>hQ v h' s.toks hv hst λ b o hb e=>hk b o (λ z=>hb (by simp[z])) e
 done:=λ s Q E ⟨slot,h1,h2,h3⟩ hQ=>se hh G h1 h2 h3 λ h' hk=>hQ h' s.toks λ b o hb e=>hk b o (λ z=>hb (by simp[z])) e
 self:=λ i s Q E ⟨slot,h1,h2,h3⟩ hQ=>by
  have hT:s.TypeIs (.ref I) "set_iterator":=⟨_,h1,rfl⟩;exact Bb hT jA (ze jA hT mE (show wpAny _ _ (ret (.ref I)) _ _ s from yD ⟨_,rfl,"set_iterator",_,hT,slot_sin.lookup,hQ⟩) (oE _))
theorem nJ (hT:s.TypeIs (.ref a) "set"){Q:Bool->Shared->Prop}(h:Q false s):wpAny (model prog w) A (zD (.ref a)) Q E s:=by
 unfold zD;refine yB (AL hT F.slot_set_len.lookup ?_);generalize hid:("set.__len__":String)=id0
 wp_delta
 rw[show splitId id0=some ("set","__len__") from by subst hid;decide +kernel];subst hid;refine yB (Az (T:="set") (b:=true) hT (by rw[AV];kernel_rfl) ?_);refine Ae (λ hab=>absurd hab (by decide)) (λ _=>?_);refine Ae (λ _=>?_) (λ hab=>absurd (by decide +kernel) hab);exact yB (Bl hT (yD h))
theorem pW (G:Gone w es t):KdlSrc prog w "set" a a es.size (λ i v=>(bS w a es ep)[i]?=some v) (λ h=>h.get? a=some (mF es ep t)) where
 type:=λ s h=>⟨_,h,rfl⟩
 there:=λ h hok=>⟨yG hok,yG hok⟩
 keep:=λ h h' hok hk=>hk a (.inl rfl) _ hok
 notList:=by decide
 notTuple:=by decide
 hint:=λ A E s Q hok h=>nJ ⟨_,hok,rfl⟩ h
 iter:=λ A s hh hok=>⟨itO 0 0 es.size ep a,StS w s.heap.objs.size a es ep t,λ E Q h=>qJ G hok h,lI hh G _ (u9 (yG hok)),0,yL _ rfl,yE _ hok,λ _=>by
  obtain⟨b1,b2,b3⟩:=dA G.ris 0
  rcases Nat.eq_zero_or_pos (below t.place 0) with z|z
  ·exact z
  ·have:=b2 0 z;omega⟩
end
end Sts
namespace Dv
def ux:D->Bool->R
 | .lst ds,f=>.ok (.tup ds) (f || flatL ds)
 | _,_=>.bad
def onceStepL (σ:List (List Int))(k:List Int):List (List Int):=if σ.any (· == k) then σ else σ++[k]
def onceL (nss:List (List Int)):List (List Int):=nss.foldl onceStepL []
def sortSetTD:D->Bool->R
 | .lst ds,f=>match tupsOf ds with
  | some nss=>if nss.length<64 then .ok (.lst ((lsort (onceL nss)).map λ ns=>.tup (ns.map .int))) f else .bad
  | none=>.bad
 | _,_=>.bad
end Dv
namespace Sd
open PySem PySem.Spec PySem.W PySem.Calls PyProof.Rows L2 Sts
open Dv (D R RL EE EL EI RI Sl Out SS)
theorem cW {prog:Program}{w:World}:∀ {ws:List Value} {ns:List Int},IntsAre ws ns->ItemsAre (intKind prog w) ns ws
 | _,_,.nil=>.nil
 | _,_,.cons n t r=>.cons (intKind_is _ _ _ _) (cW r)
theorem gO (nss:List (List Int)):∀ i,i<=nss.length->cR (λ j=>nss.getD j []) i=(nss.take i).foldl Dv.onceStepL []
 | 0,_=>by simp[cR]
 | i+1,h=>by
  have hi:i<nss.length:=⋯
  unfold cR;rw[gO nss i ⋯,List.take_succ_eq_append_getElem hi,xW];have e:nss.getD i []=nss[i]:=by simp[uT,uV hi]
  simp only[e,vb,vB];rfl
section
variable {prog:Program}{w:World}{A:Around}{E:Value->Shared->Prop}{s:Shared}
theorem kq {T:String}{r d:Addr}{n:Nat}{P:Nat->Value->Prop}{OK:Heap->Prop}{Q:Value->Shared->Prop}{key:Nat->List Int}(Kd:KdlSrc prog w T r d n P OK)(hh:A.handled=none)(hok:OK s.heap)(h64:n<64)
  (hP:∀ i v,i<n->P i v->∃ b,v=.ref b/\IsK prog w s.heap (key i) b/\key i≠[])
  (h:∀ (h':Heap) (tk:Nat) (vs:List Value) (out:List Nat),vs.length=n->(∀ j v,vs[j]?=some v->P j v)->(∀ b o,s.heap.get? b=some o->h'.get? b=some o)->out.Perm (List.range n)->(∀ i j,i<=j->j<n->Dv.lexLe (key (out.getD i 0)) (key (out.getD j 0))) ->
   Q (.ref h'.objs.size) { s with heap:=sortedHeap (h'.push (seqObj "list" vs.toArray 0)) h'.objs.size vs (out.map λ i=>vs.getD i yK).toArray,toks:=tk }):
  wpAny (model prog w) A (call (.builtin "sorted") [.ref r]) Q E s:=by
 have ln:n<=sizeLine:=by rw[yZ];omega
 refine Ad Cp B8 B9 (Cb _) ?_
 unfold Builtin.«sorted»;refine yB (m:=checkCount "sorted" 1 1 _) (yD (yB (kdu_collect (A:=A.in1) Kd hh hok ln λ h' tk acc hk hacc=>?_)));have hl:acc.toList.length=n:=by rw[yI];exact hacc.1
 have hP':∀ j v,acc.toList[j]?=some v->P j v:=λ j v e=>hacc.2 j v (by rw[<- zc];exact e)
 refine yB (As ?_ (by rw[hl];exact ln));generalize acc.toList=vs at hl hP';have z2:(h'.push (seqObj "list" vs.toArray 0)).get? h'.objs.size=some (seqObj "list" vs.toArray 0):=yL _ rfl;have item:∀ i,i<vs.length->∃ b,vs.getD i yK=.ref b/\IsK prog w s.heap (key i) b/\key i≠[]:=λ i hi=>by
  obtain⟨b,e1,e2⟩:=hP i vs[i] ⋯ (hP' i _ (uV hi));exact⟨b,by rw[uT,uV hi];exact e1,e2⟩
 have old:∀ b o,s.heap.get? b=some o->b≠h'.objs.size/\(h'.push (seqObj "list" vs.toArray 0)).get? b=some o:=λ b o q=>
  ⟨u9 (yG (hk b o q)),yE _ (hk b o q)⟩
 let keys:=(List.range n).map key
 have hkey:∀ i,i<n->keys.getD i []=key i:=λ i hi=>by simp[keys,uT,wB hi]
 have hmem:∀ i,i<n->key i∈keys:=λ i hi=>List.mem_map.mpr ⟨i,List.mem_range.mpr hi,rfl⟩
 show wpAny _ _ _ _ _ { s with heap:=h'.push (seqObj "list" vs.toArray 0),toks:=tk }
 refine yB (y0 (ze BE ⟨_,z2,rfl⟩ Bw (gN (s:={ s with heap:=h'.push (seqObj "list" vs.toArray 0),toks:=tk }) (κ:=tuples' true) (key:=λ i=>(Dv.rank keys (key i):Int)) z2 ⋯
  (λ h2 h3 k E' Q' q=>?_) (λ h2 h3 k i j C hi hj q=>?_) λ out a1 a2=>⟨_,rfl,yD ⟨_,rfl,h h' tk vs out hl hP' hk (by rw[<- hl];exact a1) λ i j hij hj=>?_⟩⟩) (BF _)))
 ·have tups:∀ (l:List Value),(∀ v∈l,v∈vs)->∃ fs,KatTups h3 l fs/\fs.length=l.length/\∀ f∈fs,∃ a t,f=zA a t:=by
   intro l
   induction l with
   | nil=>exact λ _=>⟨[],.nil,rfl,λ f hf=>by cases hf⟩
   | cons v l ih=>
    intro hl;obtain⟨fs,g1,g2,g3⟩:=ih λ v hv=>hl v (uU _ hv)
    obtain⟨i,hi,hv⟩:=vC (hl v uY);obtain⟨b,e1,⟨o,its,m,e2,e3,e4,e5⟩,e6⟩:=item i hi;rw[uT,uV hi] at e1;have e1:v=.ref b:=by rw[<- hv];exact e1
    subst e1;generalize key i=ns at e5 e6;have e7:o.data=.seq its.toList.toArray m:=by rw[e4]
    generalize its.toList=ws at e5 e7;cases e5 with
    | nil=>exact absurd rfl e6
    | @cons kk vv ks' vs' hq r=>
     obtain⟨t,et⟩:=Al hq;subst et;refine⟨zA kk t::fs,.cons (k _ _ (old b o e2).1 (old b o e2).2) e3 e7 (by simp) g1,by simp[g2],λ f hf=>?_⟩
     rcases List.mem_cons.mp hf with rfl|hf
     ·exact⟨kk,t,rfl⟩
     ·exact g3 f hf
  obtain⟨fs,g1,g2,g3⟩:=tups vs λ v hv=>hv
  refine kat_kind (T:=.type "int") g1 ⋯ (λ v hv=>?_) (by decide) (show Q' (tuples' (zr "int" != zr "tuple")) _ from q);obtain⟨a,t,rfl⟩:=g3 v hv;exact .now
 ·obtain⟨b,e1,⟨o,its,m,e2,e3,e4,e5⟩,e6⟩:=item i hi
  obtain⟨b',f1,⟨o',its',m',f2,f3,f4,f5⟩,f6⟩:=item j hj;unfold kas_ask;rw[e1,f1];have ii:∀ {ns:List Int} {ws:List Value},ItemsAre (intKind prog w) ns ws->IntsAre ws ns:=λ {ns ws} q=>by
   induction q with
   | nil=>exact .nil
   | cons hq _ ih=>obtain⟨t,et⟩:=Al hq;subst et;exact .cons _ _ ih
  rw[Dv.rank_lt (hmem i ⋯)] at q;refine kat_lt (k _ _ (old b o e2).1 (old b o e2).2) (by rw[e4]) (k _ _ (old b' o' f2).1 (old b' o' f2).2) (by rw[f4]) (dv 0 (ii e5) (ii f5) ?_ q);have l1:(key i).length=its.size:=by have:=e5.length;simpa using this
  have l2:(key j).length=its'.size:=by have:=f5.length;simpa using this
  rw[l1,l2]
 ·have:=a2 i j hij ⋯
  have ho:out.length=vs.length:=by rw[a1.length_eq,vH]
  have rg:∀ k,k<n->out.getD k 0<n:=λ k hk=>by
   have h1:out.getD k 0∈out:=by
    rw[uT,uV ⋯];exact vN _
   have:=List.mem_range.mp (a1.mem_iff.mp h1);omega
  unfold Dv.lexLe;rw[<- Dv.rank_lt (hmem _ (rg j hj))];exact decide_eq_false ⋯
end
theorem oF (nss:List (List Int)):(Dv.onceL nss).length<=nss.length:=by
 have:∀ (l σ:List (List Int)),(l.foldl Dv.onceStepL σ).length<=σ.length+l.length:=by
  intro l
  induction l with
  | nil=>intro σ;simp
  | cons k r ih=>
   intro σ;rw[vb];refine vF (ih _) ?_
   unfold Dv.onceStepL
   split <;>simp <;>omega
 have:=this nss [];rw[u7,wX] at this;exact this
section
variable {C:Ctx}{a:Expr}{f:EE}{pos:Pos}
theorem iW {X:Cx}{t:TE}{p p2 pos2:Pos}(hcl:X.calm=true)(hu:X.A.units+64<cLine)(hm:X.mg "sorted"=none)(hg:Gl X "sorted")(hm2:X.mg "set"=none)(hg2:Gl X "set")(ha:PE X a t)
  (he:starEach [.Call (.Name "set" p2) [a] [] pos2] X.env=[(false,eval (.Call (.Name "set" p2) [a] [] pos2) X.env)]) (he2:starEach [a] X.env=[(false,eval a X.env)]):
  PE X (.Call (.Name "sorted" p) [.Call (.Name "set" p2) [a] [] pos2] [] pos) (λ σ H Q=>t σ H λ x H1=>∃ q vs nss,x=.ref q/\SqX X.K H1 q vs/\vs.length<64/\Paired (ItT H1) vs nss /\
   ∀ out:List Nat,(∀ i∈out,i<vs.length)->(out.map λ i=>nss.getD i [])=Dv.lsort (Dv.onceL nss)->∀ l,H1 l=none->Q (.ref l) (upd H1 l (.lst (out.map λ i=>vs.getD i .non)))):=by
 intro pins s σ H Q I h;refine zb (bE I hg hm Ah ?_ (by decide) (by decide));refine AH ?_ he rfl
 rw[he];show wpAny _ _ (spliced ((false,eval (.Call (.Name "set" p2) [a] [] pos2) X.env)::backTo pos [])) _ _ s
 refine yW (zb (bE I hg2 hm2 PyProof.Rows.boot_set ?_ (by decide) (by decide)));refine yS ?_ he2 rfl
 rw[he2];show wpAny _ _ (spliced ((false,eval a X.env)::backTo pos2 [])) _ _ s
 refine yW (thn (ha pins s σ H _ I h) λ u s1 ⟨x,H1,I1,r1,q,vs,nss,e1,hq,h64,hit,go⟩=>?_);subst e1;cases r1;refine zm ?_
 obtain⟨its,n,rv,e,z⟩:=Inv.listX I1 hq;have hl:=rv.length;have hn:=hit.length;have item:∀ i,i<its.length->∃ b,its[i]?=some (.ref b)/\IsK X.prog X.w s1.heap (nss.getD i []) b/\nss.getD i []≠[]:=λ i hi=>by
  obtain⟨u,h1,h2⟩:=dw rv (i:=i) ⋯;obtain⟨b,hb,hs,hne⟩:=fH hit (i:=i) ⋯ [];rw[hb] at h2;obtain⟨_,ws,rw',o,ew,hc,m,hd⟩:=hs.ok I1.hok;have h2:u=.ref b:=h2;subst h2;exact⟨b,h1,⟨o,ws.toArray,m,ew,hc,hd,by simpa using cW (intsAre_of rw')⟩,hne⟩
 have hz:its.toArray.size=its.length:=u0 ..;refine mn (prog:=X.prog) (w:=X.w) (B:=λ ks v=>∃ j,j<its.length/\its[j]?=some v/\nss.getD j []=ks) (items:=its.toArray) (val:=λ j=>nss.getD j []) (I1.ok.hd hcl) ⋯ ⟨_,e,rfl,n,rfl⟩ (by rw[hz];omega)
  (λ j hj=>?_) λ h' tk hS hk=>?_
 ·rw[hz] at hj
  obtain⟨b,e1,e2,_⟩:=item j hj;exact⟨b,by simpa using e1,e2,j,hj,e1,rfl⟩
 obtain⟨es,ep,tb,V,pl,p1,p2',p3⟩:=hS;rw[hz] at p2' p3;have em:cR (λ j=>nss.getD j []) its.length=Dv.onceL nss:=by
  rw[gO nss its.length ⋯,wg ⋯];rfl
 rw[em] at p2' p3;refine zm ?_
 have po:(bS X.w s1.heap.objs.size es ep).toList.Perm (pl.map (·.2)):=ord_perm.trans (p1.map _);have oz:(bS X.w s1.heap.objs.size es ep).size=(Dv.onceL nss).length:=by
  have:=po.length_eq;rw[yI,uR,p2'] at this;exact this
 have esz:es.size=(Dv.onceL nss).length:=by rw[<- oz,bL]
 have ol:=oF nss;have inx:∀ i,∃ j,i<es.size->∀ v,(bS X.w s1.heap.objs.size es ep)[i]?=some v->j<its.length/\its[j]?=some v:=λ i=>by
  by_cases hi:i<es.size
  ·have hi':i<(bS X.w s1.heap.objs.size es ep).size:=by rw[bL];exact hi
   have hm:(bS X.w s1.heap.objs.size es ep)[i]∈pl.map (·.2):=po.mem_iff.mp (by simp);obtain⟨m,hm',em'⟩:=vC hm;rw[uR] at hm';obtain⟨_,j,j1,j2,_⟩:=p3 m hm' ⋯;refine⟨j,λ _ v hv=>⟨j1,?_⟩⟩;rw[yJ hi'] at hv;rw[j2,<- Option.some.inj hv,<- em',v5]
  ·exact⟨0,λ z=>absurd z hi⟩
 let jx:=λ i=>Cy (inx i)
 have hjx:∀ i,i<es.size->∀ v,(bS X.w s1.heap.objs.size es ep)[i]?=some v->jx i<its.length/\its[jx i]?=some v:=λ i=>BG (inx i)
 have kp:∀ {ks b},IsK X.prog X.w s1.heap ks b->IsK X.prog X.w h' ks b:=λ {ks b} ⟨o,its,n,ho,r⟩=>⟨o,its,n,hk b o ho,r⟩
 have hat:∀ i,i<es.size->∃ v,(bS X.w s1.heap.objs.size es ep)[i]?=some v:=λ i hi=>⟨_,yJ (by rw[bL];exact hi)⟩
 have keyOf:∀ i,i<es.size->∀ v,(bS X.w s1.heap.objs.size es ep)[i]?=some v->∃ b,v=.ref b/\IsK X.prog X.w h' (nss.getD (jx i) []) b/\nss.getD (jx i) []≠[]:=λ i hi v hv=>by
  obtain⟨j1,j2⟩:=hjx i hi v hv;obtain⟨b,e1,e2,e3⟩:=item _ j1;rw[j2] at e1;exact⟨b,Option.some.inj e1,kp e2,e3⟩
 have pk:((List.range es.size).map λ i=>nss.getD (jx i) []).Perm (Dv.onceL nss):=by
  let g:Value->List Int:=λ v=>Classical.epsilon λ ks=>∃ b,v=.ref b/\IsK X.prog X.w h' ks b
  have gk:∀ {b ks},IsK X.prog X.w h' ks b->g (.ref b)=ks:=λ {b ks} hb=>by
   have ex:∃ ks,∃ b',yQ b=.ref b'/\IsK X.prog X.w h' ks b':=⟨ks,b,rfl,hb⟩;obtain⟨b',e1,e2⟩:=Classical.epsilon_spec ex;injection e1 with e1
   subst e1;exact e2.inj hb
  have e1:(List.range es.size).map (λ i=>nss.getD (jx i) [])=(bS X.w s1.heap.objs.size es ep).toList.map g:=by
   refine xj (by simp[bL]) λ i h1 h2=>?_
   rw[uR,vH] at h1;obtain⟨v,hv⟩:=hat i h1;obtain⟨b,rfl,hb,_⟩:=keyOf i h1 v hv;have hi':i<(bS X.w s1.heap.objs.size es ep).size:=by rw[bL];exact h1
   rw[yJ hi'] at hv;simp only[v5,List.getElem_range,Array.getElem_toList];rw[Option.some.inj hv,gk hb]
  have e2:(pl.map (·.2)).map g=Dv.onceL nss:=by
   refine xj (by simp[p2']) λ i h1 h2=>?_
   rw[uR,uR] at h1;obtain⟨⟨b,e3,hb⟩,_⟩:=p3 i h1 h2;simp only[v5,e3];exact gk hb
  rw[e1,<- e2];exact po.map g
 have I2:L2.Inv X pins σ H1 { s1 with heap:=h',toks:=tk }:=I1.kept hk;refine kq (s:={ s1 with heap:=h',toks:=tk }) (key:=λ i=>nss.getD (jx i) []) (pW (prog:=X.prog) V.gone) (I2.ok.hd hcl) V.obj ⋯ (λ i v hi hv=>keyOf i hi v hv) λ h2 tk2 vs2 out hvl hvP hk2 hp hs=>?_
 have rg:∀ i∈out,i<es.size:=λ i hi=>List.mem_range.mp (hp.mem_iff.mp hi)
 have ho:out.length=es.size:=by rw[hp.length_eq,vH]
 have vat:∀ i,i<es.size->vs2.getD i yK=its.getD (jx i) yK:=λ i hi=>by
  have hi':i<vs2.length:=⋯
  obtain⟨j1,j2⟩:=hjx i hi vs2[i] (hvP i _ (uV hi'));rw[uT,uV hi',uT,j2]
 have jr:∀ i∈out.map jx,i<vs.length:=λ i hi=>by
  obtain⟨m,hm,rfl⟩:=List.mem_map.mp hi;obtain⟨v,hv⟩:=hat m (rg m hm);have:=(hjx m (rg m hm) v hv).1;omega
 have fin:((out.map jx).map λ i=>nss.getD i [])=Dv.lsort (Dv.onceL nss):=by
  rw[vm];refine Dv.sorted_one (((hp.map λ i=>nss.getD (jx i) []).trans pk).trans (Dv.lsort_perm _).symm) ?_ (Dv.lsort_sorted _)
  rw[xc];intro i j hi hj hij;rw[uR] at hi hj;have:=hs i j (wG hij) ⋯;rw[v5,v5];simpa[uT,uV hi,uV hj] using this
 have eo:(out.map λ i=>vs2.getD i yK)=(out.map jx).map λ i=>its.getD i yK:=by
  rw[vm];exact vt λ i hi=>vat i (rg i hi)
 have z3:(h2.push (seqObj "list" vs2.toArray 0)).get? h2.objs.size=some (seqObj "list" vs2.toArray 0):=yL _ rfl;obtain⟨ep3,hat3⟩:=sortedHeap_at (out:=(out.map λ i=>vs2.getD i yK).toArray) z3;have old:∀ b o,s1.heap.get? b=some o->(sortedHeap (h2.push (seqObj "list" vs2.toArray 0)) h2.objs.size vs2 (out.map λ i=>vs2.getD i yK).toArray).get? b=some o:=λ b o q=>by
  have q2:=hk2 b o (hk b o q);have hlt:=yG q2;rw[sortedHeap_old (u9 hlt) (by rw[size_push'];exact vQ hlt)];exact yE _ q2
 have hsz:s1.heap.objs.size<=h2.objs.size:=wG (yG (hk2 _ _ V.obj));have hf:H1 h2.objs.size=none:=I1.hok.fresh hsz;refine⟨.ref h2.objs.size,_,I1.laid (t':=tk2) (o:=.lst ((out.map jx).map λ i=>vs.getD i .non)) old hsz ?_,rfl,go (out.map jx) jr fin _ hf⟩;rw[eo] at hat3 ⊢;refine⟨?_,(out.map jx).map λ i=>its.getD i yK,ep3,cN rv (out.map jx) jr,by simpa[seqObj] using hat3⟩;rw[uR,uR,yZ];omega
theorem je {p p2 pos2:Pos}(hm:C.X.mg "sorted"=none)(hg:Gl C.X "sorted")(hm2:C.X.mg "set"=none)(hg2:Gl C.X "set")(ha:SE C a f)
  (he:autoParam (starEach [.Call (.Name "set" p2) [a] [] pos2] C.X.env=[(false,eval (.Call (.Name "set" p2) [a] [] pos2) C.X.env)]) ZE._auto_1) (he2:autoParam (starEach [a] C.X.env=[(false,eval a C.X.env)]) ZE._auto_1) (hcl:autoParam (C.X.calm=true) ZE._auto_1):
  SE C (.Call (.Name "sorted" p) [.Call (.Name "set" p2) [a] [] pos2] [] pos) (Dv.eB1 Dv.sortSetTD f):=by
 obtain⟨t,pa,qa⟩:=ha;refine⟨_,iW hcl C.un hm hg hm2 hg2 pa he he2,λ σ H Hv ρ Q e s w=>?_⟩;refine qa.step e (.refl s) w λ v d fr Hv1 H1 _ x1 _ rx n1 q=>?_
 cases d with
 | lst ds=>
  simp only[Dv.sortSetTD] at q;cases hi:Dv.tupsOf ds with
  | none=>rw[hi] at q;exact Zf q
  | some nss=>
   rw[hi] at q;by_cases h64:nss.length<64
   ·simp only[h64,if_true] at q
    obtain⟨ed,hne⟩:=dB hi;subst ed;obtain⟨l,vs,rfl,h1,h2,h3⟩:=dR x1 rx n1;have hl:=h2.length;rw[uR] at hl;refine⟨l,vs,nss,rfl,h1,⋯,Paired.mapM (eP hne h2) λ _ _ _ z=>z.same x1.vh,λ out hin hp p hpn=>?_⟩;have hin':∀ i∈out,i<(nss.map λ ns=>D.tup (ns.map .int)).length:=λ i hi=>by rw[uR,<- hl];exact hin i hi
    have fin:∀ {K:Frag} {H:Hp},RpL K H (nss.map λ ns=>D.tup (ns.map .int)) vs->RpL K H ((Dv.lsort (Dv.onceL nss)).map λ ns=>D.tup (ns.map .int)) (out.map λ i=>vs.getD i .non):=λ {K H} r=>by
     have r2:=RpL.pick r out hin';have e3:(out.map λ i=>(nss.map λ ns=>D.tup (ns.map .int)).getD i .non)=(out.map λ i=>nss.getD i []).map λ ns=>D.tup (ns.map .int):=by
      rw[vm];refine vt λ i hi=>?_
      have h:i<nss.length:=by have:=hin i hi;omega
      simp[uT,uV h]
     rw[e3,hp] at r2;exact r2
    exact Ok.newL q x1 (fin h2) (λ z=>fin (h3 z)) p hpn
   ·simp only[h64,if_false] at q
    exact Zf q
 | _=>exact Zf q
end
open PySem PySem.Spec PyProof.Rows L2
open Dv (D R)
structure Fo (P:Program)(w:World)(K:yC)(mg:Str->Option Value)(base:Heap)(n:Str)(st:Stmt)(ps:List Str)(k:Nat)(S:Sp) where
 f:Addr
 fd:FuncData
 d:Df K mg n st ps f fd
 o:FnOk P w K mg base (CXe P w) k f fd ps S
abbrev Fu (n:Str)(st:Stmt)(ps:List Str)(k:Nat)(F:List D->R)(m:Nat)(P:Program)(w:World)(K:yC)(mg:Str->Option Value)(base:Heap)(ad:String->Option Addr):=Fo P w K mg base n st ps k (spD K (aU ad) F m)
abbrev hD (K:yC)(n:Str)(s:Stmt):Prop:=∃ (f:Addr) (oc:Value) (od:Option Addr) (kV dc pm:Value) (an:Option Addr) (cd ct:Value) (sl:Array (Option Value)),yX K mainGlobals n=some (some (.ref f)) /\
 K.lookup f=some ⟨oc,od,.func (zf n n (bf s) (aN s) (ah s) .none kV dc pm an cd ct),sl⟩/\zH K cd n=true/\zI K (.ref f)=true
theorem dfE {K:yC}{h:Heap}{mg:Str->Option Value}{n:Str}{st:Stmt}{ps:List Str}(X:K.In h)(G:h.Ns mainGlobals mg)(q:hD K n st)
  (b:∀ (kV doc pm:Value) (an:Option Addr) (cdv ct:Value) (us:List Value),us.length=ps.length->bindArgs (zf n n (bf st) (aN st) (ah st) .none kV doc pm an cdv ct) ⟨us,[]⟩=pure (ps.zip us)):∃ f fd,Df K mg n st ps f fd:=
 let ⟨f,_,_,_,_,_,_,_,_,_,a,l,c,k⟩:=q
 ⟨f,_,rA (Ax X G a) l c k b⟩
abbrev hX (K:yC)(c:String)(C:Addr):Prop:=yX K mainGlobals (y7 c)=some (some (.ref C))/\zv K (.ref C) (.type "ValueError")=some true/\XLook K C
theorem hx_cons {K:yC}{c:String}{C:Addr}{l:List (String×Addr)}(h:hX K c C)(r:∀ p∈l,hX K p.1 p.2):∀ p∈(c,C)::l,hX K p.1 p.2:=cJ h r
def sX (K:yC)(c:String)(C:Addr)(l:List (String×Addr)):Prop:=∀ p∈l,zv K (.ref C) (.ref p.2)=some (Dv.subX c p.1)
theorem sx_cons {K:yC}{c q:String}{C Q:Addr}{l:List (String×Addr)}(h:zv K (.ref C) (.ref Q)=some (Dv.subX c q))(r:sX K c C l):sX K c C ((q,Q)::l):=cJ h r
theorem sx_nil {K:yC}{c:String}{C:Addr}:sX K c C []:=fm_nil
theorem sxx_cons {K:yC}{c:String}{C:Addr}{l l0:List (String×Addr)}(h:sX K c C l0)(r:∀ p∈l,sX K p.1 p.2 l0):∀ p∈(c,C)::l,sX K p.1 p.2 l0:=cJ h r
abbrev hXs (K:yC)(l:List (String×Addr)):Prop:=(∀ p∈l,hX K p.1 p.2)/\∀ p∈l,sX K p.1 p.2 l
theorem tY {K:yC}{h:Heap}{mg:Str->Option Value}(X:K.In h)(G:h.Ns mainGlobals mg){l:List (String×Addr)}(q:hXs K l):XAll K mg (mi l):=
 qd l (λ p hp=>let ⟨a,v,x⟩:=q.1 p hp;⟨⟨Ax X G a,a,x.ex,x.lk⟩,x,v⟩) λ p hp q' hq=>q.2 p hp q' hq
end Sd
namespace Srt
open PySem PySem.W PyProof.Rows
structure Bk (κ:SortKind)(Gd:Keyed->Prop)(N:Nat)(st:SortSt):Prop where
 kind:kindOf st=κ
 size:(arrOf st).size=N
 good:∀ (i:Nat) (p:Keyed),(arrOf st)[i]?=some p->Gd p
 ok:failedOf st=none
section
variable {prog:Program}{w:World}{A:Around}{E:Value->Shared->Prop}{s:Shared}{κ:SortKind}{Gd:Keyed->Prop}{N:Nat}
def Cmp (prog:Program)(w:World)(A:Around)(s:Shared)(κ:SortKind)(Gd:Keyed->Prop):Prop:=
 ∀ x y,Gd x->Gd y->∀ (C:Bool->Shared->Prop) (E':Value->Shared->Prop),(∀ b,C b s)->wpAny (model prog w) A (keyLt' κ x.1 y.1) C E' s
theorem wlt (hc:Cmp prog w A s κ Gd){x y:Keyed}(hx:Gd x)(hy:Gd y){st:SortSt}(hk:kindOf st=κ){Q:Option Bool->SortSt->Prop}(h:∀ b,Q (some b) st):wpS (model prog w) A E s (lt' x y) Q st:=by
 rw[lt'_eq];refine yF (wpS_get ?_);rw[hk];refine yF (AX (Aw (hc x y hx hy _ _ λ b=>⟨rfl,?_⟩)));exact yH (h b)
theorem welem {xs:Array Keyed}{i:Nat}(hi:i<xs.size){st:SortSt}{Q:Keyed->SortSt->Prop}(h:Q xs[i] st):wpS (model prog w) A E s (elem' xs i) Q st:=by
 rw[elem'_eq,yJ hi];exact yH h
theorem gu (hc:Cmp prog w A s κ Gd){st:SortSt}(B:Bk κ Gd N st){i j:Nat}(hi:i<N)(hj:j<N){Q:Option Bool->SortSt->Prop}(h:∀ b,Q (some b) st):wpS (model prog w) A E s (ltAt' i j) Q st:=by
 rw[ltAt'_eq];refine yF (wpS_get ?_);show wpS _ _ _ _ (do let x <- elem' (arrOf st) i;let y <- elem' (arrOf st) j;lt' x y) Q st
 have hi':i<(arrOf st).size:=by rw[B.size];exact hi
 have hj':j<(arrOf st).size:=by rw[B.size];exact hj
 refine yF (welem hi' (yF (welem hj' ?_)));exact wlt hc (B.good i _ (yJ hi')) (B.good j _ (yJ hj')) B.kind h
theorem mv {xs ys:Array Keyed}(h:xs.Perm ys)(g:∀ (i:Nat) (p:Keyed),ys[i]?=some p->Gd p):∀ (i:Nat) (p:Keyed),xs[i]?=some p->Gd p:=λ i p e=>by
 have h1:p∈xs:=AE e;have h2:p∈ys:=h.mem_iff.mp h1;obtain⟨j,hj,e2⟩:=z7 h2;exact g j p (by rw[yJ hj,e2])
theorem Bk.set {st:SortSt}(B:Bk κ Gd N st){xs:Array Keyed}(h:xs.Perm (arrOf st)):Bk κ Gd N (setArr st xs):=
 ⟨B.kind,by show xs.size=N;rw[h.size_eq];exact B.size,mv h B.good,B.ok⟩
theorem wrev {st:SortSt}(B:Bk κ Gd N st){i j:Nat}{Q:Unit->SortSt->Prop}(h:∀ st',Bk κ Gd N st'->pendingOf st'=pendingOf st->Q () st'):wpS (model prog w) A E s (reverseSlice' i j) Q st:=by
 rw[reverseSlice'_eq];exact Aj (h _ (B.set (mirror_perm _ _ _ _)) rfl)
theorem wmove {st:SortSt}(B:Bk κ Gd N st){i j:Nat}{Q:Unit->SortSt->Prop}(h:∀ st',Bk κ Gd N st'->pendingOf st'=pendingOf st->Q () st'):wpS (model prog w) A E s (moveDown' i j) Q st:=by
 rw[moveDown'_eq];exact Aj (h _ (B.set (bubble_perm _ _ _)) rfl)
theorem wcount (hc:Cmp prog w A s κ Gd){st:SortSt}(B:Bk κ Gd N st){lo nr:Nat}(h1:1<=nr)(hn:lo+nr<=N){Q:Option Nat->SortSt->Prop}(h:∀ n st',1<=n->n<=nr->Bk κ Gd N st'->pendingOf st'=pendingOf st->Q (some n) st'):wpS (model prog w) A E s (countRun' lo nr) Q st:=by
 rw[countRun'_eq];refine yF (zo (yY (I:=λ x c st'=>∃ n,c=(none,n)/\1<=n/\n<=x/\st'=st) (Q:=λ c st'=>∃ n,c=(none,n)/\1<=n/\n<=nr/\st'=st) ?_ ?_ ⟨1,rfl,u5 _,u5 _,rfl⟩) ?_)
 ·rintro x c st' hx hx2 ⟨n,rfl,n1,n2,rfl⟩
  dsimp only;refine yF (gu hc B ⋯ ⋯ λ b=>?_);cases b with
  | true=>exact yH ⟨n,rfl,n1,⋯,rfl⟩
  | false=>exact yH ⟨n+1,rfl,⋯,⋯,rfl⟩
 ·rintro c st' ⟨n,rfl,n1,n2,rfl⟩
  exact⟨n,rfl,n1,⋯,rfl⟩
 ·rintro c st' ⟨n,rfl,n1,n2,rfl⟩
  dsimp only;by_cases e:(n == nr)=true
  ·rw[if_pos e];exact yH (h n _ n1 n2 B rfl)
  ·rw[if_neg e]
   have hne:n<nr:=by
    have:n≠nr:=λ z=>e (by rw[z];exact beq_self_eq_true _)
    omega
   by_cases g:n > 1
   rotate_left
   rw[if_neg g];obtain⟨st1,B1,e1,est⟩:∃ st1,Bk κ Gd N st1/\pendingOf st1=pendingOf st'/\st1=st':=⟨st',B,rfl,rfl⟩;rw[<- est]
   rotate_left
   rw[if_pos g];refine yF (gu hc B ⋯ ⋯ λ b=>?_)
   rcases Bool.eq_false_or_eq_true b with rfl|rfl
   exact yH (h n _ n1 n2 B rfl);dsimp only;rw[if_neg (by decide)];refine yF (wrev B λ st1 B1 e1=>?_)
   all_goals
    refine yF (AX (zW ⟨rfl,?_⟩));refine yF (zo (yY (I:=λ x c st2=>∃ m q,c=(none,m,q)/\1<=m/\m<=x/\Bk κ Gd N st2/\pendingOf st2=pendingOf st1) (Q:=λ c st2=>∃ m q,c=(none,m,q)/\1<=m/\m<=nr/\Bk κ Gd N st2/\pendingOf st2=pendingOf st1) ?_ ?_ ⟨n+1,0,rfl,⋯,u5 _,B1,rfl⟩) ?_)
    ·rintro x c st2 hx hx2 ⟨m,q,rfl,m1,m2,B2,e2⟩
     dsimp only;refine yF (gu hc B2 ⋯ ⋯ λ b=>?_);cases b with
     | true=>
      dsimp only;rw[if_pos rfl];by_cases g:q > 0
      ·rw[if_pos g]
       refine yF (wrev B2 λ st3 B3 e3=>?_);exact yH ⟨m+1,0,rfl,⋯,⋯,B3,e3.trans e2⟩
      ·rw[if_neg g]
       exact yH ⟨m+1,0,rfl,⋯,⋯,B2,e2⟩
     | false=>
      dsimp only;rw[if_neg (by decide)];refine yF (gu hc B2 ⋯ ⋯ λ b=>?_);cases b with
      | true=>exact yH ⟨m,q,rfl,m1,⋯,B2,e2⟩
      | false=>exact yH ⟨m+1,q+1,rfl,⋯,⋯,B2,e2⟩
    ·rintro c st2 ⟨m,q,rfl,m1,m2,B2,e2⟩
     exact⟨m,q,rfl,m1,⋯,B2,e2⟩
    ·rintro c st2 ⟨m,q,rfl,m1,m2,B2,e2⟩
     dsimp only;by_cases g:q > 0
     rotate_left
     rw[if_neg g];refine yF (wrev B2 λ st3 B3 e3=>?_);have e4:=e3.trans (e2.trans e1)
     rotate_left
     rw[if_pos g];refine yF (wrev B2 λ st5 B5 e5=>yF (wrev B5 λ st3 B3 e3=>?_));have e4:=e3.trans (e5.trans (e2.trans e1))
     all_goals
      refine yF (zo (yY (I:=λ x c st'=>∃ k,c=(none,k)/\1<=k/\k<=x/\st'=st3) (Q:=λ c st'=>∃ k,c=(none,k)/\1<=k/\k<=nr/\st'=st3) ?_ ?_ ⟨m,rfl,m1,u5 _,rfl⟩) ?_)
      ·rintro x c st' hx hx2 ⟨k,rfl,k1,k2,rfl⟩
       dsimp only;refine yF (gu hc B3 ⋯ ⋯ λ b=>?_);cases b with
       | true=>exact yH ⟨k,rfl,k1,⋯,rfl⟩
       | false=>exact yH ⟨k+1,rfl,⋯,⋯,rfl⟩
      ·rintro c st' ⟨k,rfl,k1,k2,rfl⟩
       exact⟨k,rfl,k1,⋯,rfl⟩
      ·rintro c st' ⟨k,rfl,k1,k2,rfl⟩
       exact yH (h k _ k1 k2 B3 e4)
theorem wbin (hc:Cmp prog w A s κ Gd){st:SortSt}(B:Bk κ Gd N st){lo n ok:Nat}(hn:lo+n<=N){Q:Bool->SortSt->Prop}(h:∀ st',Bk κ Gd N st'->pendingOf st'=pendingOf st->Q true st'):wpS (model prog w) A E s (binarySort' lo n ok) Q st:=by
 rw[binarySort'_eq];refine yF (zo (yY (I:=λ x c st'=>c=(none,())/\Bk κ Gd N st'/\pendingOf st'=pendingOf st) (Q:=λ c st'=>c=(none,())/\Bk κ Gd N st'/\pendingOf st'=pendingOf st) ?_ (λ c st' hh=>hh) ⟨rfl,B,rfl⟩) ?_)
 ·rintro k c st' hk hk2 ⟨rfl,B',e'⟩
  dsimp only;refine yF (zo (yY (I:=λ x c st2=>∃ l r,c=(none,l,r)/\l<=k/\r<=k/\st2=st') (Q:=λ c st2=>∃ l r,c=(none,l,r)/\l<=k/\r<=k/\st2=st') ?_ (λ c st2 hh=>hh) ⟨0,k,rfl,vK _,u5 _,rfl⟩) ?_)
  ·rintro x c st2 _ _ ⟨l,r,rfl,l1,r1,rfl⟩
   dsimp only;by_cases g:l ≥ r
   ·rw[if_pos g];exact yH ⟨l,r,rfl,l1,r1,rfl⟩
   ·rw[if_neg g]
    refine yF (gu hc B' ⋯ ⋯ λ b=>?_);cases b with
    | true=>exact yH ⟨l,(l+r)/2,rfl,l1,⋯,rfl⟩
    | false=>exact yH ⟨(l+r)/2+1,r,rfl,⋯,r1,rfl⟩
  ·rintro c st2 ⟨l,r,rfl,l1,r1,rfl⟩
   dsimp only;refine yF (wmove B' λ st3 B3 e3=>?_);exact yH ⟨rfl,B3,e3.trans e'⟩
 ·rintro c st' ⟨rfl,B',e'⟩
  exact yH (h st' B' e')
end
def gallop':Bool->Keyed->Array Keyed->Nat->Nat->Nat->StateT SortSt Sem (Option Nat):=sortPriv% PySem.Builtin.gallop
def cM:Nat->StateT SortSt Sem Unit:=sortPriv% PySem.Builtin.setMinGallop
def fQ:Array Keyed->Array Keyed->StateT SortSt Sem (Array Keyed):=sortPriv% PySem.Builtin.mergeLo
def fB:Array Keyed->Array Keyed->StateT SortSt Sem (Array Keyed):=sortPriv% PySem.Builtin.mergeHi
def ask' (lf:Bool)(k:Keyed)(xs:Array Keyed)(b i:Nat):StateT SortSt Sem (Option Bool):=do
 let x <- elem' xs (b+i)
 if lf then lt' x k else return (<- lt' k x).map (!·)
theorem jY (lf:Bool)(k:Keyed)(xs:Array Keyed)(b n t:Nat):gallop' lf k xs b n t=(do
  let mut last:=0
  let mut of_:=1
  let mut lo:=0
  let mut hi:=0
  let some rt <- ask' lf k xs b t|return none
  if rt then
   let mx:=n-t
   for _ in [0:n] do
    if of_ ≥ mx then break
    let some more <- ask' lf k xs b (t+of_)|return none
    if !more then break
    last:=of_
    of_:=2*of_+1
   lo:=t+last+1
   hi:=t+min of_ mx
  else
   let mx:=t+1
   for _ in [0:n] do
    if of_ ≥ mx then break
    let some fnd <- ask' lf k xs b (t-of_)|return none
    if fnd then break
    last:=of_
    of_:=2*of_+1
   lo:=t+1-min of_ mx
   hi:=t-last
  for _ in [0:n] do
   if lo ≥ hi then break
   let m:=lo+(hi-lo)/2
   let some more <- ask' lf k xs b m|return none
   if more then lo:=m+1 else hi:=m
  return some hi):=rfl
theorem jZ (g:Nat):cM g=modify λ s=>BP (kindOf s) (arrOf s) (pendingOf s) g (failedOf s):=rfl
section
variable {prog:Program}{w:World}{A:Around}{E:Value->Shared->Prop}{s:Shared}{κ:SortKind}{Gd:Keyed->Prop}{N:Nat}
theorem wask (hc:Cmp prog w A s κ Gd){lf:Bool}{k:Keyed}{xs:Array Keyed}{b i:Nat}(hk:Gd k)(hx:∀ (j:Nat) (p:Keyed),xs[j]?=some p->Gd p)(hi:b+i<xs.size){st:SortSt}(hs:kindOf st=κ){Q:Option Bool->SortSt->Prop}(h:∀ c,Q (some c) st):wpS (model prog w) A E s (ask' lf k xs b i) Q st:=by
 unfold ask';refine yF (welem hi ?_);have g:=hx _ _ (yJ hi);cases lf with
 | true=>exact wlt hc g hk hs h
 | false=>
  rw[if_neg (by decide)];exact yF (wlt hc hk g hs λ c=>yH (h _))
theorem wgallop (hc:Cmp prog w A s κ Gd){lf:Bool}{k:Keyed}{xs:Array Keyed}{b n t:Nat}(hk:Gd k)(hx:∀ (j:Nat) (p:Keyed),xs[j]?=some p->Gd p)(hn:b+n<=xs.size)(ht:t<n){st:SortSt}(hs:kindOf st=κ){Q:Option Nat->SortSt->Prop}(h:∀ m,m<=n->Q (some m) st):wpS (model prog w) A E s (gallop' lf k xs b n t) Q st:=by
 rw[jY];refine yF (wask hc hk hx ⋯ hs λ c=>?_);cases c with
 | true=>
  dsimp only;rw[if_pos rfl];refine yF (zo (yY (I:=λ x c st'=>∃ l o,c=(none,l,o)/\l<n-t/\1<=o/\st'=st) (Q:=λ c st'=>∃ l o,c=(none,l,o)/\l<n-t/\1<=o/\st'=st) ?_ (λ _ _ hh=>hh) ⟨0,1,rfl,⋯,u5 _,rfl⟩) ?_)
  ·rintro x c st' _ _ ⟨l,o,rfl,l1,o1,rfl⟩
   dsimp only;by_cases g:o ≥ n-t
   ·rw[if_pos g];exact yH ⟨l,o,rfl,l1,o1,rfl⟩
   ·rw[if_neg g]
    refine yF (wask hc hk hx ⋯ hs λ c=>?_);cases c with
    | true=>exact yH ⟨o,2*o+1,rfl,⋯,⋯,rfl⟩
    | false=>exact yH ⟨l,o,rfl,l1,o1,rfl⟩
  ·rintro c st' ⟨l,o,rfl,l1,o1,rfl⟩
   dsimp only;refine yF (zo (yY (I:=λ x c st2=>∃ lo hi,c=(none,lo,hi)/\hi<=n/\st2=st') (Q:=λ c st2=>∃ lo hi,c=(none,lo,hi)/\hi<=n/\st2=st') ?_ (λ _ _ hh=>hh) ⟨_,_,rfl,⋯,rfl⟩) ?_)
   ·rintro x c st2 _ _ ⟨lo,hi,rfl,h1,rfl⟩
    dsimp only;by_cases g:lo ≥ hi
    ·rw[if_pos g];exact yH ⟨lo,hi,rfl,h1,rfl⟩
    ·rw[if_neg g]
     refine yF (wask hc hk hx ⋯ hs λ c=>?_);cases c with
     | true=>exact yH ⟨_,hi,rfl,h1,rfl⟩
     | false=>exact yH ⟨lo,_,rfl,⋯,rfl⟩
   ·rintro c st2 ⟨lo,hi,rfl,h1,rfl⟩
    exact yH (h hi h1)
 | false=>
  dsimp only;rw[if_neg (by decide)];refine yF (zo (yY (I:=λ x c st'=>∃ l o,c=(none,l,o)/\1<=o/\st'=st) (Q:=λ c st'=>∃ l o,c=(none,l,o)/\1<=o/\st'=st) ?_ (λ _ _ hh=>hh) ⟨0,1,rfl,u5 _,rfl⟩) ?_)
  ·rintro x c st' _ _ ⟨l,o,rfl,o1,rfl⟩
   dsimp only;by_cases g:o ≥ t+1
   ·rw[if_pos g];exact yH ⟨l,o,rfl,o1,rfl⟩
   ·rw[if_neg g]
    refine yF (wask hc hk hx ⋯ hs λ c=>?_);cases c with
    | true=>exact yH ⟨l,o,rfl,o1,rfl⟩
    | false=>exact yH ⟨o,2*o+1,rfl,⋯,rfl⟩
  ·rintro c st' ⟨l,o,rfl,o1,rfl⟩
   dsimp only;refine yF (zo (yY (I:=λ x c st2=>∃ lo hi,c=(none,lo,hi)/\hi<=n/\st2=st') (Q:=λ c st2=>∃ lo hi,c=(none,lo,hi)/\hi<=n/\st2=st') ?_ (λ _ _ hh=>hh) ⟨_,_,rfl,⋯,rfl⟩) ?_)
   ·rintro x c st2 _ _ ⟨lo,hi,rfl,h1,rfl⟩
    dsimp only;by_cases g:lo ≥ hi
    ·rw[if_pos g];exact yH ⟨lo,hi,rfl,h1,rfl⟩
    ·rw[if_neg g]
     refine yF (wask hc hk hx ⋯ hs λ c=>?_);cases c with
     | true=>exact yH ⟨_,hi,rfl,h1,rfl⟩
     | false=>exact yH ⟨lo,_,rfl,⋯,rfl⟩
   ·rintro c st2 ⟨lo,hi,rfl,h1,rfl⟩
    exact yH (h hi h1)
structure Sm (st st':SortSt):Prop where
 kind:kindOf st'=kindOf st
 arr:arrOf st'=arrOf st
 pend:pendingOf st'=pendingOf st
 ok:failedOf st'=failedOf st
theorem Sm.refl (st:SortSt):Sm st st:=⟨rfl,rfl,rfl,rfl⟩
theorem Sm.trans {a b c:SortSt}(h:Sm a b)(g:Sm b c):Sm a c:=⟨g.kind.trans h.kind,g.arr.trans h.arr,g.pend.trans h.pend,g.ok.trans h.ok⟩
theorem wgal {st:SortSt}{n:Nat}{Q:Unit->SortSt->Prop}(h:∀ st',Sm st st'->Q () st'):wpS (model prog w) A E s (cM n) Q st:=by
 rw[jZ];exact Aj (h _ ⟨rfl,rfl,rfl,rfl⟩)
def Gs (Gd:Keyed->Prop)(xs:Array Keyed):Prop:=∀ p,p∈xs->Gd p
theorem Gs.at {xs:Array Keyed}(h:Gs Gd xs):∀ (j:Nat) (p:Keyed),xs[j]?=some p->Gd p:=λ j p e=>h p (AE e)
theorem Gs.ix {xs:Array Keyed}(h:Gs Gd xs){i:Nat}(hi:i<xs.size):Gd xs[i]:=h _ (Bc hi)
theorem Gs.app {xs ys:Array Keyed}(h:Gs Gd xs)(g:Gs Gd ys):Gs Gd (xs++ys):=λ p hp=>by
 rcases Array.mem_append.mp hp with hp|hp
 ·exact h p hp
 ·exact g p hp
theorem Gs.psh {xs:Array Keyed}(h:Gs Gd xs){x:Keyed}(g:Gd x):Gs Gd (xs.push x):=λ p hp=>by
 rcases Array.mem_push.mp hp with hp|rfl
 ·exact h p hp
 ·exact g
theorem Gs.ext {xs:Array Keyed}(h:Gs Gd xs)(i j:Nat):Gs Gd (xs.extract i j):=λ p hp=>by
 obtain⟨k,hk,e⟩:=z7 hp;rw[Array.getElem_extract] at e;rw[<- e];exact h _ (Bc _)
theorem Gs.rev {xs:Array Keyed}(h:Gs Gd xs):Gs Gd xs.reverse:=λ p hp=>h p (Array.mem_reverse.mp hp)
theorem iM (a b:Array Keyed):fQ a b=(do
  rule "list.sort.merge-lo"
  let tot:=a.size+b.size
  let dn (o:Array Keyed) (i j:Nat):=o++a.extract i a.size++b.extract j b.size
  let la (o:Array Keyed) (i j:Nat):=o++b.extract j b.size++a.extract i a.size
  let mut o:Array Keyed:=#[<- elem' b 0]
  let mut i:=0
  let mut j:=1
  if j == b.size then return dn o i j
  if i+1 == a.size then return la o i j
  let mut mg:=gallopOf (<- get)
  for _ in [0:tot] do
   let mut ac:=0
   let mut bc:=0
   for _ in [0:tot] do
    let some bw <- lt' (<- elem' b j) (<- elem' a i)|return dn o i j
    if bw then
     o:=o.push (<- elem' b j);j:=j+1;bc:=bc+1;ac:=0
     if j == b.size then return dn o i j
     if bc ≥ mg then break
    else
     o:=o.push (<- elem' a i);i:=i+1;ac:=ac+1;bc:=0
     if i+1 == a.size then return la o i j
     if ac ≥ mg then break
   rule "list.sort.gallop"
   mg:=mg+1
   for _ in [0:tot] do
    if mg > 1 then mg:=mg-1
    cM mg
    let some k <- gallop' false (<- elem' b j) a i (a.size-i) 0|return dn o i j
    ac:=k
    if k > 0 then
     o:=o++a.extract i (i+k);i:=i+k
     if i+1 == a.size then return la o i j
     if i == a.size then return dn o i j
    o:=o.push (<- elem' b j);j:=j+1
    if j == b.size then return dn o i j
    let some k <- gallop' true (<- elem' a i) b j (b.size-j) 0|return dn o i j
    bc:=k
    if k > 0 then
     o:=o++b.extract j (j+k);j:=j+k
     if j == b.size then return dn o i j
    o:=o.push (<- elem' a i);i:=i+1
    if i+1 == a.size then return la o i j
    if ac<7&&bc<7 then break
   mg:=mg+1
   cM mg
  unsupported "internal:list.sort.merge-bound"):=rfl
structure Iv (Gd:Keyed->Prop)(a b o:Array Keyed)(i j:Nat):Prop where
 sz:o.size=i+j
 gd:Gs Gd o
 ia:i+1<a.size
 jb:j<b.size
def Ret (Gd:Keyed->Prop)(a b r:Array Keyed):Prop:=r.size=a.size+b.size/\Gs Gd r
theorem wlo (hc:Cmp prog w A s κ Gd){a b:Array Keyed}(ha:Gs Gd a)(hb:Gs Gd b)(a1:1<=a.size)(b1:1<=b.size){st:SortSt}(hs:kindOf st=κ){Q:Array Keyed->SortSt->Prop}(h:∀ r st',Ret Gd a b r->Sm st st'->Q r st'):wpS (model prog w) A E s (fQ a b) Q st:=by
 rw[iM];refine yF (AX (zW ⟨rfl,?_⟩));dsimp only;refine yF (welem ⋯ ?_);have g0:Gs Gd #[b[0]]:=λ p hp=>by
  rw[x5,w4] at hp;subst hp;exact hb.ix _
 by_cases c1:(1 == b.size)=true
 ·rw[if_pos c1]
  rw[beq_iff_eq] at c1;refine yH (h _ _ ⟨?_,(g0.app (ha.ext _ _)).app (hb.ext _ _)⟩ (.refl _));simp only[yO,yM,u0,uX,u7];omega
 rw[if_neg c1];by_cases c2:(0+1 == a.size)=true
 ·rw[if_pos c2]
  rw[beq_iff_eq] at c2;refine yH (h _ _ ⟨?_,(g0.app (hb.ext _ _)).app (ha.ext _ _)⟩ (.refl _));simp only[yO,yM,u0,uX,u7];omega
 rw[if_neg c2];rw[beq_iff_eq] at c1 c2;refine yF (wpS_get ?_);refine yF (zo (yY (I:=λ x c st'=>Sm st st'/\∃ o i j mg,c=(none,o,i,j,mg)/\Iv Gd a b o i j/\x+1<=i+j) (Q:=λ c st'=>Sm st st'/\∃ r c',c=(some r,c')/\Ret Gd a b r) ?_ ?_ ⟨.refl _,_,_,_,_,rfl,⟨rfl,g0,⋯,⋯⟩,u5 _⟩) ?_)
 ·rintro x c st1 _ hx ⟨s1,o,i,j,mg,rfl,I1,p1⟩
  dsimp only;have hs1:kindOf st1=κ:=s1.kind.trans hs;refine yF (zo (yY (I:=λ y c st'=>st'=st1/\∃ o i j ac bc,c=(none,o,i,j,ac,bc)/\Iv Gd a b o i j/\x+1+min y 1<=i+j) (Q:=λ c st'=>st'=st1/\((∃ r c',c=(some r,c')/\Ret Gd a b r)\/∃ o i j ac bc,c=(none,o,i,j,ac,bc)/\Iv Gd a b o i j/\x+2<=i+j)) ?_ ?_ ⟨rfl,_,_,_,_,_,rfl,I1,⋯⟩) ?_)
  ·rintro y c st2 _ hy ⟨rfl,o,i,j,ac,bc,rfl,I2,p2⟩
   dsimp only;have z1:=I2.sz;have z2:=I2.ia;have z3:=I2.jb;refine yF (welem z3 (yF (welem ⋯ (yF (wlt hc (hb.ix _) (ha.ix _) hs1 λ bw=>?_)))));cases bw with
   | true=>
    dsimp only;rw[if_pos rfl];refine yF (welem z3 ?_);by_cases d1:(j+1 == b.size)=true
    ·rw[if_pos d1]
     rw[beq_iff_eq] at d1;refine yH ⟨rfl,.inl ⟨_,_,rfl,?_,((I2.gd.psh (hb.ix _)).app (ha.ext _ _)).app (hb.ext _ _)⟩⟩;simp only[yO,yM,yN];omega
    ·rw[if_neg d1]
     rw[beq_iff_eq] at d1;by_cases d2:bc+1 ≥ mg
     ·rw[if_pos d2]
      exact yH ⟨rfl,.inr ⟨_,_,_,_,_,rfl,⟨by rw[yN];omega,I2.gd.psh (hb.ix _),⋯,⋯⟩,⋯⟩⟩
     ·rw[if_neg d2]
      exact yH ⟨rfl,_,_,_,_,_,rfl,⟨by rw[yN];omega,I2.gd.psh (hb.ix _),⋯,⋯⟩,⋯⟩
   | false=>
    dsimp only;rw[if_neg (by decide)];refine yF (welem ⋯ ?_);by_cases d1:(i+1+1 == a.size)=true
    ·rw[if_pos d1]
     rw[beq_iff_eq] at d1;refine yH ⟨rfl,.inl ⟨_,_,rfl,?_,((I2.gd.psh (ha.ix _)).app (hb.ext _ _)).app (ha.ext _ _)⟩⟩;simp only[yO,yM,yN];omega
    ·rw[if_neg d1]
     rw[beq_iff_eq] at d1;by_cases d2:ac+1 ≥ mg
     ·rw[if_pos d2]
      exact yH ⟨rfl,.inr ⟨_,_,_,_,_,rfl,⟨by rw[yN];omega,I2.gd.psh (ha.ix _),⋯,⋯⟩,⋯⟩⟩
     ·rw[if_neg d2]
      exact yH ⟨rfl,_,_,_,_,_,rfl,⟨by rw[yN];omega,I2.gd.psh (ha.ix _),⋯,⋯⟩,⋯⟩
  ·rintro c st2 ⟨rfl,o,i,j,ac,bc,rfl,I2,p2⟩
   exact⟨rfl,.inr ⟨_,_,_,_,_,rfl,I2,⋯⟩⟩
  ·rintro c st2 ⟨rfl,⟨r,c',rfl,hr⟩|⟨o,i,j,ac,bc,rfl,I2,p2⟩⟩
   ·exact yH ⟨s1,r,_,rfl,hr⟩
   dsimp only;refine yF (AX (zW ⟨rfl,?_⟩));refine yF (zo (yY (I:=λ y c st'=>Sm st st'/\∃ o i j mg ac bc,c=(none,o,i,j,mg,ac,bc)/\Iv Gd a b o i j/\x+2<=i+j) (Q:=λ c st'=>Sm st st'/\((∃ r c',c=(some r,c')/\Ret Gd a b r)\/∃ o i j mg ac bc,c=(none,o,i,j,mg,ac,bc)/\Iv Gd a b o i j/\x+2<=i+j)) ?_ ?_ ⟨s1,_,_,_,_,_,_,rfl,I2,p2⟩) ?_)
   ·rintro y c st3 _ hy ⟨s3,o,i,j,mg,ac,bc,rfl,I3,p3⟩
    dsimp only;have z1:=I3.sz;have z2:=I3.ia;have z3:=I3.jb;have z4:=I3.gd;have hs3:kindOf st3=κ:=s3.kind.trans hs;by_cases d0:mg > 1;rw[if_pos d0]
    rotate_left
    rw[if_neg d0]
    all_goals
     refine yF (wgal λ st4 s4=>?_);have s5:=s3.trans s4;have hs4:kindOf st4=κ:=s5.kind.trans hs;refine yF (welem z3 ?_);refine yF (wgallop hc (hb.ix _) ha.at ⋯ ⋯ hs4 λ k hk=>?_);dsimp only;by_cases d1:k > 0;rw[if_pos d1];by_cases d2:(i+k+1 == a.size)=true
     ·rw[if_pos d2]
      rw[beq_iff_eq] at d2;refine yH ⟨s5,.inl ⟨_,_,rfl,?_,((z4.app (ha.ext _ _)).app (hb.ext _ _)).app (ha.ext _ _)⟩⟩;simp only[yO,yM,yN];omega
     rw[if_neg d2];rw[beq_iff_eq] at d2;by_cases d3:(i+k == a.size)=true
     ·rw[if_pos d3]
      rw[beq_iff_eq] at d3;refine yH ⟨s5,.inl ⟨_,_,rfl,?_,((z4.app (ha.ext _ _)).app (ha.ext _ _)).app (hb.ext _ _)⟩⟩;simp only[yO,yM,yN];omega
     rw[if_neg d3];rw[beq_iff_eq] at d3;have f1:(o++a.extract i (i+k)).size=i+k+j:=by rw[yO,yM];omega
     have f2:=z4.app (ha.ext i (i+k));have f3:i+k+1<a.size:=⋯
     have f4:x+2<=i+k+j:=⋯
     generalize o++a.extract i (i+k)=o' at f1 f2 ⊢;generalize i+k=i' at f1 f3 f4 ⊢
     rotate_left
     rw[if_neg d1];have f1:=z1;have f2:=z4;have f3:=z2;have f4:=p3;generalize o=o' at f1 f2 ⊢;generalize i=i' at f1 f3 f4 ⊢
     all_goals
      refine yF (welem z3 ?_);by_cases d4:(j+1 == b.size)=true
      ·rw[if_pos d4]
       rw[beq_iff_eq] at d4;refine yH ⟨s5,.inl ⟨_,_,rfl,?_,((f2.psh (hb.ix _)).app (ha.ext _ _)).app (hb.ext _ _)⟩⟩;simp only[yO,yM,yN];omega
      rw[if_neg d4];rw[beq_iff_eq] at d4;refine yF (welem ⋯ ?_);refine yF (wgallop hc (ha.ix _) hb.at ⋯ ⋯ hs4 λ k2 hk2=>?_);dsimp only;have e0:(o'.push b[j]).size=i'+(j+1):=by rw[yN];omega
      have e1:=f2.psh (hb.ix z3);generalize o'.push b[j]=o1 at e0 e1 ⊢;by_cases d5:k2 > 0;rw[if_pos d5];by_cases d6:(j+1+k2 == b.size)=true
      ·rw[if_pos d6]
       rw[beq_iff_eq] at d6;refine yH ⟨s5,.inl ⟨_,_,rfl,?_,((e1.app (hb.ext _ _)).app (ha.ext _ _)).app (hb.ext _ _)⟩⟩;simp only[yO,yM,yN];omega
      rw[if_neg d6];rw[beq_iff_eq] at d6;have h1:(o1++b.extract (j+1) (j+1+k2)).size=i'+(j+1+k2):=by rw[yO,yM];omega
      have h2:=e1.app (hb.ext (j+1) (j+1+k2));have h3:j+1+k2<b.size:=⋯
      have h4:x+2<=i'+(j+1+k2):=⋯
      generalize o1++b.extract (j+1) (j+1+k2)=o2 at h1 h2 ⊢;generalize j+1+k2=j2 at h1 h3 h4 ⊢
      rotate_left
      rw[if_neg d5];have h1:=e0;have h2:=e1;have h3:j+1<b.size:=⋯
      have h4:x+2<=i'+(j+1):=⋯
      generalize o1=o2 at h1 h2 ⊢;generalize j+1=j2 at h1 h3 h4 ⊢
      all_goals
       refine yF (welem ⋯ ?_);by_cases d7:(i'+1+1 == a.size)=true
       ·rw[if_pos d7]
        rw[beq_iff_eq] at d7;refine yH ⟨s5,.inl ⟨_,_,rfl,?_,((h2.psh (ha.ix _)).app (hb.ext _ _)).app (ha.ext _ _)⟩⟩;simp only[yO,yM,yN];omega
       rw[if_neg d7];rw[beq_iff_eq] at d7;have iv:Iv Gd a b (o2.push a[i']) (i'+1) j2:=⟨by rw[yN];omega,h2.psh (ha.ix _),⋯,⋯⟩;by_cases d8:(decide (k<7)&&decide (k2<7))=true
       ·rw[if_pos d8]
        exact yH ⟨s5,.inr ⟨_,_,_,_,_,_,rfl,iv,⋯⟩⟩
       ·rw[if_neg d8]
        exact yH ⟨s5,_,_,_,_,_,_,rfl,iv,⋯⟩
   ·rintro c st3 ⟨s3,o,i,j,mg,ac,bc,rfl,I3,p3⟩
    exact⟨s3,.inr ⟨_,_,_,_,_,_,rfl,I3,p3⟩⟩
   ·rintro c st3 ⟨s3,⟨r,c',rfl,hr⟩|⟨o,i,j,mg,ac,bc,rfl,I3,p3⟩⟩
    ·exact yH ⟨s3,r,_,rfl,hr⟩
    dsimp only;refine yF (wgal λ st4 s4=>?_);exact yH ⟨s3.trans s4,_,_,_,_,rfl,I3,⋯⟩
 ·rintro c st1 ⟨s1,o,i,j,mg,rfl,I1,p1⟩
  have:=I1.ia;have:=I1.jb;omega
 ·rintro c st1 ⟨s1,r,c',rfl,hr⟩
  exact yH (h r st1 hr s1)
end
section
variable {prog:Program}{w:World}{A:Around}{E:Value->Shared->Prop}{s:Shared}{κ:SortKind}{Gd:Keyed->Prop}{N:Nat}
theorem jD (a b:Array Keyed):fB a b=(do
  rule "list.sort.merge-hi"
  let tot:=a.size+b.size
  let dn (o:Array Keyed) (i j:Nat):=a.extract 0 i++b.extract 0 j++o.reverse
  let fb (o:Array Keyed) (i j:Nat):=b.extract 0 j++a.extract 0 i++o.reverse
  let mut i:=a.size-1
  let mut j:=b.size
  let mut o:Array Keyed:=#[<- elem' a i]
  if i == 0 then return dn o i j
  if j == 1 then return fb o i j
  let mut mg:=gallopOf (<- get)
  for _ in [0:tot] do
   let mut ac:=0
   let mut bc:=0
   for _ in [0:tot] do
    let some aw <- lt' (<- elem' b (j-1)) (<- elem' a (i-1))|return dn o i j
    if aw then
     i:=i-1;o:=o.push (<- elem' a i);ac:=ac+1;bc:=0
     if i == 0 then return dn o i j
     if ac ≥ mg then break
    else
     j:=j-1;o:=o.push (<- elem' b j);bc:=bc+1;ac:=0
     if j == 1 then return fb o i j
     if bc ≥ mg then break
   rule "list.sort.gallop"
   mg:=mg+1
   for _ in [0:tot] do
    if mg > 1 then mg:=mg-1
    cM mg
    let some p <- gallop' false (<- elem' b (j-1)) a 0 i (i-1)|return dn o i j
    let k:=i-p
    ac:=k
    if k > 0 then
     o:=o++(a.extract p i).reverse;i:=p
     if i == 0 then return dn o i j
    j:=j-1;o:=o.push (<- elem' b j)
    if j == 1 then return fb o i j
    let some p <- gallop' true (<- elem' a (i-1)) b 0 j (j-1)|return dn o i j
    let k:=j-p
    bc:=k
    if k > 0 then
     o:=o++(b.extract p j).reverse;j:=p
     if j == 1 then return fb o i j
     if j == 0 then return dn o i j
    i:=i-1;o:=o.push (<- elem' a i)
    if i == 0 then return dn o i j
    if ac<7&&bc<7 then break
   mg:=mg+1
   cM mg
  unsupported "internal:list.sort.merge-bound"):=rfl
structure Iw (Gd:Keyed->Prop)(a b o:Array Keyed)(i j:Nat):Prop where
 sz:o.size+i+j=a.size+b.size
 gd:Gs Gd o
 i0:0<i
 ia:i<a.size
 j1:1<j
 jb:j<=b.size
theorem whi (hc:Cmp prog w A s κ Gd){a b:Array Keyed}(ha:Gs Gd a)(hb:Gs Gd b)(a1:1<=a.size)(b1:1<=b.size){st:SortSt}(hs:kindOf st=κ){Q:Array Keyed->SortSt->Prop}(h:∀ r st',Ret Gd a b r->Sm st st'->Q r st'):wpS (model prog w) A E s (fB a b) Q st:=by
 rw[jD];refine yF (AX (zW ⟨rfl,?_⟩));dsimp only;refine yF (welem ⋯ ?_);have g0:Gs Gd #[a[a.size-1]]:=λ p hp=>by
  rw[x5,w4] at hp;subst hp;exact ha.ix _
 by_cases c1:(a.size-1 == 0)=true
 ·rw[if_pos c1]
  rw[beq_iff_eq] at c1;refine yH (h _ _ ⟨?_,((ha.ext _ _).app (hb.ext _ _)).app g0.rev⟩ (.refl _));simp only[yO,yM,y4,u0,uX,u7];omega
 rw[if_neg c1];by_cases c2:(b.size == 1)=true
 ·rw[if_pos c2]
  rw[beq_iff_eq] at c2;refine yH (h _ _ ⟨?_,((hb.ext _ _).app (ha.ext _ _)).app g0.rev⟩ (.refl _));simp only[yO,yM,y4,u0,uX,u7];omega
 rw[if_neg c2];rw[beq_iff_eq] at c1 c2;refine yF (wpS_get ?_);refine yF (zo (yY (I:=λ x c st'=>Sm st st'/\∃ o i j mg,c=(none,i,j,o,mg)/\Iw Gd a b o i j/\i+j+x+1<=a.size+b.size) (Q:=λ c st'=>Sm st st'/\∃ r c',c=(some r,c')/\Ret Gd a b r) ?_ ?_ ⟨.refl _,_,_,_,_,rfl,⟨by simp only[u0,uX,u7];omega,g0,⋯,⋯,⋯,u5 _⟩,⋯⟩) ?_)
 ·rintro x c st1 _ hx ⟨s1,o,i,j,mg,rfl,I1,p1⟩
  dsimp only;have hs1:kindOf st1=κ:=s1.kind.trans hs;refine yF (zo (yY (I:=λ y c st'=>st'=st1/\∃ o i j ac bc,c=(none,i,j,o,ac,bc)/\Iw Gd a b o i j/\i+j+x+1+min y 1<=a.size+b.size) (Q:=λ c st'=>st'=st1/\((∃ r c',c=(some r,c')/\Ret Gd a b r)\/∃ o i j ac bc,c=(none,i,j,o,ac,bc)/\Iw Gd a b o i j/\i+j+x+2<=a.size+b.size)) ?_ ?_ ⟨rfl,_,_,_,_,_,rfl,I1,⋯⟩) ?_)
  ·rintro y c st2 _ hy ⟨rfl,o,i,j,ac,bc,rfl,I2,p2⟩
   dsimp only;have z1:=I2.sz;have z2:=I2.ia;have z3:=I2.jb;have z5:=I2.i0;have z6:=I2.j1;refine yF (welem ⋯ (yF (welem ⋯ (yF (wlt hc (hb.ix _) (ha.ix _) hs1 λ bw=>?_)))));cases bw with
   | true=>
    dsimp only;rw[if_pos rfl];refine yF (welem ⋯ ?_);by_cases d1:(i-1 == 0)=true
    ·rw[if_pos d1]
     rw[beq_iff_eq] at d1;refine yH ⟨rfl,.inl ⟨_,_,rfl,?_,((ha.ext _ _).app (hb.ext _ _)).app (I2.gd.psh (ha.ix _)).rev⟩⟩;simp only[yO,yM,yN,y4];omega
    ·rw[if_neg d1]
     rw[beq_iff_eq] at d1;by_cases d2:ac+1 ≥ mg
     ·rw[if_pos d2]
      exact yH ⟨rfl,.inr ⟨_,_,_,_,_,rfl,⟨by rw[yN];omega,I2.gd.psh (ha.ix _),⋯,⋯,⋯,⋯⟩,⋯⟩⟩
     ·rw[if_neg d2]
      exact yH ⟨rfl,_,_,_,_,_,rfl,⟨by rw[yN];omega,I2.gd.psh (ha.ix _),⋯,⋯,⋯,⋯⟩,⋯⟩
   | false=>
    dsimp only;rw[if_neg (by decide)];refine yF (welem ⋯ ?_);by_cases d1:(j-1 == 1)=true
    ·rw[if_pos d1]
     rw[beq_iff_eq] at d1;refine yH ⟨rfl,.inl ⟨_,_,rfl,?_,((hb.ext _ _).app (ha.ext _ _)).app (I2.gd.psh (hb.ix _)).rev⟩⟩;simp only[yO,yM,yN,y4];omega
    ·rw[if_neg d1]
     rw[beq_iff_eq] at d1;by_cases d2:bc+1 ≥ mg
     ·rw[if_pos d2]
      exact yH ⟨rfl,.inr ⟨_,_,_,_,_,rfl,⟨by rw[yN];omega,I2.gd.psh (hb.ix _),⋯,⋯,⋯,⋯⟩,⋯⟩⟩
     ·rw[if_neg d2]
      exact yH ⟨rfl,_,_,_,_,_,rfl,⟨by rw[yN];omega,I2.gd.psh (hb.ix _),⋯,⋯,⋯,⋯⟩,⋯⟩
  ·rintro c st2 ⟨rfl,o,i,j,ac,bc,rfl,I2,p2⟩
   exact⟨rfl,.inr ⟨_,_,_,_,_,rfl,I2,⋯⟩⟩
  ·rintro c st2 ⟨rfl,⟨r,c',rfl,hr⟩|⟨o,i,j,ac,bc,rfl,I2,p2⟩⟩
   ·exact yH ⟨s1,r,_,rfl,hr⟩
   dsimp only;refine yF (AX (zW ⟨rfl,?_⟩));refine yF (zo (yY (I:=λ y c st'=>Sm st st'/\∃ o i j mg ac bc,c=(none,i,j,o,mg,ac,bc)/\Iw Gd a b o i j/\i+j+x+2<=a.size+b.size) (Q:=λ c st'=>Sm st st'/\((∃ r c',c=(some r,c')/\Ret Gd a b r)\/∃ o i j mg ac bc,c=(none,i,j,o,mg,ac,bc)/\Iw Gd a b o i j/\i+j+x+2<=a.size+b.size)) ?_ ?_ ⟨s1,_,_,_,_,_,_,rfl,I2,p2⟩) ?_)
   ·rintro y c st3 _ hy ⟨s3,o,i,j,mg,ac,bc,rfl,I3,p3⟩
    dsimp only;have z1:=I3.sz;have z2:=I3.ia;have z3:=I3.jb;have z4:=I3.gd;have z5:=I3.i0;have z6:=I3.j1;have hs3:kindOf st3=κ:=s3.kind.trans hs;by_cases d0:mg > 1;rw[if_pos d0]
    rotate_left
    rw[if_neg d0]
    all_goals
     refine yF (wgal λ st4 s4=>?_);have s5:=s3.trans s4;have hs4:kindOf st4=κ:=s5.kind.trans hs;refine yF (welem ⋯ ?_);refine yF (wgallop hc (hb.ix _) ha.at ⋯ ⋯ hs4 λ p hp=>?_);dsimp only;by_cases d1:i-p > 0;rw[if_pos d1];by_cases d2:(p == 0)=true
     ·rw[if_pos d2]
      rw[beq_iff_eq] at d2;refine yH ⟨s5,.inl ⟨_,_,rfl,?_,((ha.ext _ _).app (hb.ext _ _)).app (z4.app (ha.ext _ _).rev).rev⟩⟩;simp only[yO,yM,yN,y4];omega
     rw[if_neg d2];rw[beq_iff_eq] at d2;have f1:(o++(a.extract p i).reverse).size+p+j=a.size+b.size:=by rw[yO,y4,yM];omega
     have f2:=z4.app (ha.ext p i).rev;have f3:p<a.size:=⋯
     have f4:p+j+x+2<=a.size+b.size:=⋯
     have f5:0<p:=⋯
     generalize o++(a.extract p i).reverse=o' at f1 f2 ⊢;generalize p=i' at f1 f3 f4 f5 ⊢
     rotate_left
     rw[if_neg d1];have f1:=z1;have f2:=z4;have f3:=z2;have f4:=p3;have f5:=z5;generalize o=o' at f1 f2 ⊢;generalize i=i' at f1 f3 f4 f5 ⊢
     all_goals
      refine yF (welem ⋯ ?_);by_cases d4:(j-1 == 1)=true
      ·rw[if_pos d4]
       rw[beq_iff_eq] at d4;refine yH ⟨s5,.inl ⟨_,_,rfl,?_,((hb.ext _ _).app (ha.ext _ _)).app (f2.psh (hb.ix _)).rev⟩⟩;simp only[yO,yM,yN,y4];omega
      rw[if_neg d4];rw[beq_iff_eq] at d4;refine yF (welem ⋯ ?_);refine yF (wgallop hc (ha.ix _) hb.at ⋯ ⋯ hs4 λ p2 hp2=>?_);dsimp only;have zj:j-1<b.size:=⋯
      have e0:(o'.push b[j-1]).size+i'+(j-1)=a.size+b.size:=by rw[yN];omega
      have e1:=f2.psh (hb.ix zj);generalize o'.push b[j-1]=o1 at e0 e1 ⊢;by_cases d5:j-1-p2 > 0;rw[if_pos d5];by_cases d6:(p2 == 1)=true
      ·rw[if_pos d6]
       rw[beq_iff_eq] at d6;refine yH ⟨s5,.inl ⟨_,_,rfl,?_,((hb.ext _ _).app (ha.ext _ _)).app (e1.app (hb.ext _ _).rev).rev⟩⟩;simp only[yO,yM,yN,y4];omega
      rw[if_neg d6];rw[beq_iff_eq] at d6;by_cases d7:(p2 == 0)=true
      ·rw[if_pos d7]
       rw[beq_iff_eq] at d7;refine yH ⟨s5,.inl ⟨_,_,rfl,?_,((ha.ext _ _).app (hb.ext _ _)).app (e1.app (hb.ext _ _).rev).rev⟩⟩;simp only[yO,yM,yN,y4];omega
      rw[if_neg d7];rw[beq_iff_eq] at d7;have h1:(o1++(b.extract p2 (j-1)).reverse).size+i'+p2=a.size+b.size:=by rw[yO,y4,yM];omega
      have h2:=e1.app (hb.ext p2 (j-1)).rev;have h3:p2<=b.size:=⋯
      have h4:i'+p2+x+2<=a.size+b.size:=⋯
      have h5:1<p2:=⋯
      generalize o1++(b.extract p2 (j-1)).reverse=o2 at h1 h2 ⊢;generalize hj2:p2=j2 at h1 h3 h4 h5 ⊢
      rotate_left
      rw[if_neg d5];have h1:=e0;have h2:=e1;have h3:j-1<=b.size:=⋯
      have h4:i'+(j-1)+x+2<=a.size+b.size:=⋯
      have h5:1<j-1:=⋯
      generalize o1=o2 at h1 h2 ⊢;generalize hj2:j-1=j2 at h1 h3 h4 h5 ⊢
      all_goals
       refine yF (welem ⋯ ?_);by_cases d8:(i'-1 == 0)=true
       ·rw[if_pos d8]
        rw[beq_iff_eq] at d8;refine yH ⟨s5,.inl ⟨_,_,rfl,?_,((ha.ext _ _).app (hb.ext _ _)).app (h2.psh (ha.ix _)).rev⟩⟩;simp only[yO,yM,yN,y4];omega
       rw[if_neg d8];rw[beq_iff_eq] at d8;have zi:i'-1<a.size:=⋯
       have iv:Iw Gd a b (o2.push a[i'-1]) (i'-1) j2:=⟨by rw[yN];omega,h2.psh (ha.ix _),⋯,⋯,⋯,⋯⟩
       split
       ·exact yH ⟨s5,.inr ⟨_,_,_,_,_,_,rfl,iv,⋯⟩⟩
       ·exact yH ⟨s5,_,_,_,_,_,_,rfl,iv,⋯⟩
   ·rintro c st3 ⟨s3,o,i,j,mg,ac,bc,rfl,I3,p3⟩
    exact⟨s3,.inr ⟨_,_,_,_,_,_,rfl,I3,p3⟩⟩
   ·rintro c st3 ⟨s3,⟨r,c',rfl,hr⟩|⟨o,i,j,mg,ac,bc,rfl,I3,p3⟩⟩
    ·exact yH ⟨s3,r,_,rfl,hr⟩
    dsimp only;refine yF (wgal λ st4 s4=>?_);exact yH ⟨s3.trans s4,_,_,_,_,rfl,I3,⋯⟩
 ·rintro c st1 ⟨s1,o,i,j,mg,rfl,I1,p1⟩
  omega
 ·rintro c st1 ⟨s1,r,c',rfl,hr⟩
  exact yH (h r st1 hr s1)
end
abbrev Run:=Nat×Nat×Nat
structure Pd (lo:Nat)(p:Array Run):Prop where
 len:∀ (i:Nat) (r:Run),p[i]?=some r->1<=r.2.1/\r.1+r.2.1<=lo
 nxt:∀ (i:Nat) (r q:Run),p[i]?=some r->p[i+1]?=some q->q.1=r.1+r.2.1
 top:∀ r,p[p.size-1]?=some r->r.1+r.2.1=lo
section
variable {prog:Program}{w:World}{A:Around}{E:Value->Shared->Prop}{s:Shared}{κ:SortKind}{Gd:Keyed->Prop}{N:Nat}
theorem jg (i:Nat):mergeAt' i=(do
  let s <- get
  let (some (sa,na,pw),some (sb,nb,_)):=((pendingOf s)[i]?,(pendingOf s)[i+1]?)|unsupported "internal:list.sort.pending"
  set (setPending s (((pendingOf s).setIfInBounds i (sa,na+nb,pw)).eraseIdxIfInBounds (i+1)))
  let some k <- gallop' false (<- elem' (arrOf s) sb) (arrOf s) sa na 0|return false
  let (sa,na):=(sa+k,na-k)
  if na == 0 then return true
  let some nb <- gallop' true (<- elem' (arrOf s) (sa+na-1)) (arrOf s) sb nb (nb-1)|return false
  if nb == 0 then return true
  let x:=(arrOf s).extract sa sb
  let y:=(arrOf s).extract sb (sb+nb)
  let r <- if na<=nb then fQ x y else fB x y
  modify λ s=>setArr s (r.toList.zipIdx.foldl (λ a (p,j)=>a.setIfInBounds (sa+j) p) (arrOf s))
  return (failedOf (<- get)).isNone):=rfl
theorem wset {st st':SortSt}{Q:PUnit->SortSt->Prop}(h:Q ⟨⟩ st'):wpS (model prog w) A E s (set st':StateT SortSt Sem PUnit) Q st:=by
 unfold wpS;rw[StateT.run_set];exact yD ⟨rfl,h⟩
theorem c4 {p:Array Run}{i:Nat}{v:Run}(hi:i+1<p.size)(j:Nat):((p.setIfInBounds i v).eraseIdxIfInBounds (i+1))[j]?=if j<i then p[j]? else if j=i then some v else p[j+1]?:=by
 have e:((p.setIfInBounds i v).eraseIdxIfInBounds (i+1)).toList=(p.toList.set i v).eraseIdx (i+1):=by simp
 rw[<- zc,e,List.getElem?_eraseIdx];by_cases c:j<i
 ·rw[if_pos ⋯,if_pos c,u6 ⋯,zc]
 ·rw[if_neg c]
  by_cases c2:j=i
  ·subst c2
   rw[if_pos ⋯,if_pos rfl,vp (by rw[yI];omega)]
  ·rw[if_neg c2,if_neg ⋯,u6 ⋯,zc]
theorem eB {p:Array Run}{i:Nat}{v:Run}(hi:i+1<p.size):((p.setIfInBounds i v).eraseIdxIfInBounds (i+1)).size+1=p.size:=by
 have e:((p.setIfInBounds i v).eraseIdxIfInBounds (i+1)).toList=(p.toList.set i v).eraseIdx (i+1):=by simp
 have h:=congrArg List.length e;rw[yI,wx (by rw[vL,yI];exact hi),vL,yI] at h;omega
theorem Pd.merge {lo:Nat}{p:Array Run}(h:Pd lo p){i:Nat}{r q:Run}(hr:p[i]?=some r)(hq:p[i+1]?=some q):Pd lo ((p.setIfInBounds i (r.1,r.2.1+q.2.1,r.2.2)).eraseIdxIfInBounds (i+1)):=by
 have hi:i+1<p.size:=(Array.getElem?_eq_some_iff.mp hq).1;have e:=h.nxt i r q hr hq;have l1:=h.len i r hr;have l2:=h.len _ q hq;refine⟨λ j v hv=>?_,λ j v u hv hu=>?_,λ v hv=>?_⟩
 ·rw[c4 hi] at hv
  split at hv
  ·exact h.len j v hv
  ·split at hv
   ·cases hv;exact⟨by show 1<=r.2.1+q.2.1;omega,by show r.1+(r.2.1+q.2.1)<=lo;omega⟩
   ·exact h.len _ v hv
 ·rw[c4 hi] at hv hu
  by_cases c1:j+1<i
  ·rw[if_pos c1] at hu;rw[if_pos ⋯] at hv
   exact h.nxt j v u hv hu
  ·rw[if_neg c1] at hu
   by_cases c2:j+1=i
   ·rw[if_pos c2] at hu;rw[if_pos ⋯] at hv
    cases hu;subst c2;exact h.nxt j v r hv hr
   ·rw[if_neg c2] at hu
    by_cases c3:j=i
    ·subst c3
     rw[if_neg ⋯,if_pos rfl] at hv;cases hv;have:=h.nxt _ q u hq hu;show u.1=r.1+(r.2.1+q.2.1)
     omega
    ·rw[if_neg ⋯,if_neg c3] at hv
     exact h.nxt _ v u hv hu
 ·have hs:=eB (v:=(r.1,r.2.1+q.2.1,r.2.2)) hi
  rw[c4 hi] at hv
  split at hv
  ·omega
  ·split at hv
   ·cases hv
    have:p[p.size-1]?=some q:=by rw[<- hq];congr 1;omega
    have:=h.top q this;show r.1+(r.2.1+q.2.1)=lo
    omega
   ·refine h.top v ?_
    rw[<- hv];congr 1;omega
theorem gS {N:Nat}:∀ (l:List (Keyed×Nat)) (sa:Nat) (xs:Array Keyed),(∀ p∈l,Gd p.1)->Gs Gd xs->xs.size=N->(l.foldl (λ a p=>a.setIfInBounds (sa+p.2) p.1) xs).size=N/\Gs Gd (l.foldl (λ a p=>a.setIfInBounds (sa+p.2) p.1) xs)
 | [],sa,xs,_,hx,hn=>⟨hn,hx⟩
 | q::l,sa,xs,hl,hx,hn=>by
  rw[vb];refine gS l sa _ (λ p hp=>hl p (uU _ hp)) (λ p hp=>?_) (by rw[Bi];exact hn);obtain⟨k,hk,e⟩:=z7 hp;have hk':k<xs.size:=by simpa using hk
  rw[Array.getElem_setIfInBounds hk'] at e
  split at e
  ·rw[<- e];exact hl q uY
  ·rw[<- e];exact hx _ (Bc _)
theorem Bk.gs {st:SortSt}(B:Bk κ Gd N st):Gs Gd (arrOf st):=λ p hp=>by
 obtain⟨k,hk,e⟩:=z7 hp;exact B.good k p (by rw[yJ hk,e])
theorem i9 (hc:Cmp prog w A s κ Gd){st:SortSt}(B:Bk κ Gd N st){lo i:Nat}(hl:lo<=N)(P:Pd lo (pendingOf st))(hi:i+1<(pendingOf st).size){Q:Bool->SortSt->Prop}(h:∀ st',Bk κ Gd N st'->Pd lo (pendingOf st')->(pendingOf st').size+1=(pendingOf st).size->Q true st'):wpS (model prog w) A E s (mergeAt' i) Q st:=by
 rw[jg];refine yF (wpS_get ?_);have hr:(pendingOf st)[i]?=some (pendingOf st)[i]:=yJ ⋯
 have hq:(pendingOf st)[i+1]?=some (pendingOf st)[i+1]:=yJ hi
 have P':=P.merge hr hq;have sz:=eB (p:=pendingOf st) (v:=((pendingOf st)[i].1,(pendingOf st)[i].2.1+(pendingOf st)[i+1].2.1,(pendingOf st)[i].2.2)) hi;have l1:=P.len i _ hr;have l2:=P.len _ _ hq;have nx:=P.nxt i _ _ hr hq;generalize (pendingOf st)[i]=r at *;generalize (pendingOf st)[i+1]=q at *;obtain⟨sa,na,pw⟩:=r;obtain⟨sb,nb,pq⟩:=q;simp only at l1 l2 nx P' sz;rw[hr,hq];dsimp only;refine yF (wset ?_);have B1:Bk κ Gd N (setPending st (((pendingOf st).setIfInBounds i (sa,na+nb,pw)).eraseIdxIfInBounds (i+1))):=⟨B.kind,B.size,B.good,B.ok⟩;have bs:=B.size;refine yF (welem ⋯ ?_);refine yF (wgallop hc (B.gs.ix _) B.good ⋯ ⋯ B1.kind λ k hk=>?_);dsimp only;by_cases c1:(na-k == 0)=true
 ·rw[if_pos c1];exact yH (h _ B1 P' sz)
 rw[if_neg c1];rw[beq_iff_eq] at c1;refine yF (welem ⋯ ?_);refine yF (wgallop hc (B.gs.ix _) B.good ⋯ ⋯ B1.kind λ nb2 hk2=>?_);dsimp only;by_cases c2:(nb2 == 0)=true
 ·rw[if_pos c2];exact yH (h _ B1 P' sz)
 rw[if_neg c2];rw[beq_iff_eq] at c2;have fin:∀ r st',Ret Gd ((arrOf st).extract (sa+k) sb) ((arrOf st).extract sb (sb+nb2)) r->Sm (setPending st (((pendingOf st).setIfInBounds i (sa,na+nb,pw)).eraseIdxIfInBounds (i+1))) st'->wpS (model prog w) A E s (do
   modify λ s=>setArr s (r.toList.zipIdx.foldl (λ a (p,j)=>a.setIfInBounds (sa+k+j) p) (arrOf s))
   return (failedOf (<- get)).isNone) Q st':=λ r st' hr sm=>by
  refine yF (Aj (yF (wpS_get ?_)));have e0:failedOf st'=none:=sm.ok.trans B.ok;have fg:=gS (N:=N) (Gd:=Gd) r.toList.zipIdx (sa+k) (arrOf st') (λ p hp=>hr.2 p.1 (by
   have:=List.fst_mem_of_mem_zipIdx hp;exact Array.mem_toList_iff.mp this)) (by rw[sm.arr];exact B.gs) (by rw[sm.arr];exact B.size)
  show wpS _ _ _ _ (pure (failedOf st').isNone) Q _
  rw[e0];refine yH (h _ ⟨sm.kind.trans B.kind,fg.1,λ j p hj=>fg.2 p (AE hj),e0⟩ ?_ ?_)
  ·show Pd lo (pendingOf st');rw[sm.pend];exact P'
  ·show (pendingOf st').size+1=_;rw[sm.pend];exact sz
 have x1:1<=((arrOf st).extract (sa+k) sb).size:=by rw[yM];omega
 have y1:1<=((arrOf st).extract sb (sb+nb2)).size:=by rw[yM];omega
 by_cases c3:na-k<=nb2
 ·rw[if_pos c3]
  exact yF (wlo hc (B.gs.ext _ _) (B.gs.ext _ _) x1 y1 B1.kind fin)
 ·rw[if_neg c3]
  exact yF (whi hc (B.gs.ext _ _) (B.gs.ext _ _) x1 y1 B1.kind fin)
end
section
variable {prog:Program}{w:World}{A:Around}{E:Value->Shared->Prop}{s:Shared}{κ:SortKind}{Gd:Keyed->Prop}{N:Nat}
theorem fG:∀ (f n r:Nat),1<=n->n<=f->1<=minRun' f n r
 | 0,n,r,h,g=>⋯
 | f+1,n,r,h,g=>by
  rw[minRun'_succ]
  split
  ·omega
  ·exact fG f (n/2) _ ⋯ ⋯
theorem Pd.push {lo n:Nat}{p:Array Run}(h:Pd lo p)(hn:1<=n)(h0:p.size=0->lo=0\/True):Pd (lo+n) (p.push (lo,n,0)):=by
 refine⟨λ i r hr=>?_,λ i r q hr hq=>?_,λ r hr=>?_⟩
 ·rw[BU] at hr
  split at hr
  ·cases hr;exact⟨hn,u5 _⟩
  ·have:=h.len i r hr;omega
 ·rw[BU] at hr hq
  split at hq
  ·rename_i c
   cases hq;rw[if_neg ⋯] at hr;have:p[p.size-1]?=some r:=by rw[<- hr];congr 1;omega
   exact(h.top r this).symm
  ·split at hr
   ·rename_i c1 c2
    have:=(Array.getElem?_eq_some_iff.mp hq).1;omega
   ·exact h.nxt i r q hr hq
 ·rw[yN,Nat.add_sub_cancel,Array.getElem?_push_size] at hr
  cases hr;rfl
theorem Pd.pow {lo:Nat}{p:Array Run}(h:Pd lo p)(j pw:Nat):Pd lo (p.modify j λ x=>(x.1,x.2.1,pw)):=by
 have g:∀ (i:Nat) (r:Run),(p.modify j λ x=>(x.1,x.2.1,pw))[i]?=some r->∃ r',p[i]?=some r'/\r'.1=r.1/\r'.2.1=r.2.1:=λ i r hr=>by
  rw[Array.getElem?_modify] at hr
  split at hr
  ·rw[we] at hr
   obtain⟨r',e1,rfl⟩:=hr;exact⟨r',e1,rfl,rfl⟩
  ·exact⟨r,hr,rfl,rfl⟩
 refine⟨λ i r hr=>?_,λ i r q hr hq=>?_,λ r hr=>?_⟩
 ·obtain⟨r',e1,e2,e3⟩:=g i r hr
  have:=h.len i r' e1;omega
 ·obtain⟨r',e1,e2,e3⟩:=g i r hr
  obtain⟨q',f1,f2,f3⟩:=g _ q hq;have:=h.nxt i r' q' e1 f1;omega
 ·rw[Array.size_modify] at hr
  obtain⟨r',e1,e2,e3⟩:=g _ r hr;have:=h.top r' e1;omega
theorem wruns (hc:Cmp prog w A s κ Gd){st:SortSt}(B:Bk κ Gd N st)(h0:pendingOf st=#[]){Q:Unit->SortSt->Prop}(h:∀ st',Bk κ Gd N st'->Q () st'):wpS (model prog w) A E s sortRuns' Q st:=by
 rw[sortRuns'_eq];refine yF (wpS_get ?_);dsimp only;have bs:=B.size;rw[bs];refine yF (zo (yY (I:=λ x c st'=>∃ lo,c=(none,lo)/\lo<=N/\Bk κ Gd N st'/\Pd lo (pendingOf st')) (Q:=λ c st'=>∃ lo,c=(none,lo)/\lo<=N/\Bk κ Gd N st'/\Pd lo (pendingOf st')) ?_ (λ _ _ hh=>hh) ⟨0,rfl,vK _,B,by rw[h0];exact⟨λ i r hr=>by simp at hr,λ i r q hr=>by simp at hr,λ r hr=>by simp at hr⟩⟩) ?_)
 ·rintro x c st1 _ hx ⟨lo,rfl,hl,B1,P1⟩
  dsimp only;by_cases c1:lo ≥ N
  ·rw[if_pos c1];exact yH ⟨lo,rfl,hl,B1,P1⟩
  rw[if_neg c1];refine yF (wcount hc B1 ⋯ ⋯ λ m st2 m1 m2 B2 e2=>?_);dsimp only;have mp:=fG N N 0 ⋯ (u5 _);generalize minRun' N N 0=mr at *;have P2:Pd lo (pendingOf st2):=by rw[e2];exact P1
  by_cases c2:m<mr;rw[if_pos c2];refine yF (AX (zW ⟨rfl,?_⟩));refine yF (wbin hc B2 ⋯ λ st3 B3 e3=>?_);rw[if_neg (by decide)];have P3:Pd lo (pendingOf st3):=by rw[e3];exact P2
  have n1:1<=min (N-lo) mr:=⋯
  have n2:lo+min (N-lo) mr<=N:=⋯
  generalize min (N-lo) mr=n at n1 n2 ⊢
  rotate_left
  rw[if_neg c2];have n1:=m1;have n2:lo+m<=N:=⋯
  have B3:=B2;have P3:=P2;generalize m=n at n1 n2 ⊢;generalize st2=st3 at B3 P3 ⊢
  all_goals
   refine yF (wpS_get ?_)
   split
   ·rename_i s1 k1 u1 hb
    refine yF (zo (yY (I:=λ y c st'=>c=(none,())/\Bk κ Gd N st'/\Pd lo (pendingOf st')) (Q:=λ c st'=>c=(none,())/\Bk κ Gd N st'/\Pd lo (pendingOf st')) ?_ (λ _ _ hh=>hh) ⟨rfl,B3,P3⟩) ?_)
    ·rintro y c st4 _ hy ⟨rfl,B4,P4⟩
     refine yF (wpS_get ?_)
     split
     ·rename_i o1 o2 older ho
      have hsz:1<(pendingOf st4).size:=by
       rcases xq 1 (pendingOf st4).size with q|q
       ·exact q
       ·rw[if_neg ⋯] at ho;cases ho
      split
      ·exact yH ⟨rfl,B4,P4⟩
      ·refine yF (i9 hc B4 ⋯ P4 ⋯ λ st5 B5 P5 _=>?_)
       rw[if_neg (by decide)];exact yH ⟨rfl,B5,P5⟩
     ·exact yH ⟨rfl,B4,P4⟩
    ·rintro c st4 ⟨rfl,B4,P4⟩
     dsimp only;refine yF (Aj (yF (Aj (yH ⟨_,rfl,n2,⟨B4.kind,B4.size,B4.good,B4.ok⟩,?_⟩))));exact(P4.pow _ _).push n1 λ _=>.inr trivial
   ·refine yF (Aj (yH ⟨_,rfl,n2,⟨B3.kind,B3.size,B3.good,B3.ok⟩,?_⟩))
    exact P3.push n1 λ _=>.inr trivial
 ·rintro c st1 ⟨lo,rfl,hl,B1,P1⟩
  dsimp only;refine yF (zo (yY (I:=λ y c st'=>c=(none,())/\Bk κ Gd N st'/\Pd lo (pendingOf st')) (Q:=λ c st'=>c=(none,())/\Bk κ Gd N st'/\Pd lo (pendingOf st')) ?_ (λ _ _ hh=>hh) ⟨rfl,B1,P1⟩) ?_)
  ·rintro y c st4 _ hy ⟨rfl,B4,P4⟩
   refine yF (wpS_get ?_);by_cases c1:(pendingOf st4).size<=1
   ·rw[if_pos c1];exact yH ⟨rfl,B4,P4⟩
   ·rw[if_neg c1]
    refine yF (i9 hc B4 hl P4 ?_ λ st5 B5 P5 _=>?_)
    ·(repeat' split) <;>omega
    ·rw[if_neg (by decide)]
     exact yH ⟨rfl,B5,P5⟩
  ·rintro c st4 ⟨rfl,B4,P4⟩
   exact yH (h st4 B4)
end
end Srt
namespace Dv
def compGoG (bn:D->Option (List D))(elt:EE)(cond:EE)(free:Env):List D->RL
 | []=>.ok [] true
 | d::r=>match bn d with
  | some es=>match cond (es.map some++free) with
   | .ok (.bl true) _=>match elt (es.map some++free) with
    | .ok x f=>match compGoG bn elt cond free r with
     | .ok xs g=>.ok (x::xs) (f&&g)
     | _=>.bad
    | _=>.bad
   | .ok (.bl false) _=>compGoG bn elt cond free r
   | _=>.bad
  | none=>.bad
def eCompG (bn:D->Option (List D))(elt cond:EE)(is:List Nat)(it:EI):EE:=λ ρ=>match it ρ with
 | .ok ds _=>if ds.length<=mx then match compGoG bn elt cond (pick ρ is) ds with
   | .ok xs f=>.ok (.lst xs) f
   | _=>.bad
  else .bad
 | .exc c=>.exc c
 | .bad=>.bad
def bn1 (d:D):Option (List D):=some [d]
def bnT (m:Nat):D->Option (List D)
 | .tup es=>if es.length=m then some es else none
 | _=>none
theorem go1 (elt cond:EE)(free:Env):∀ l,compGoG bn1 elt cond free l=bB elt cond free l
 | []=>rfl
 | d::r=>by unfold compGoG bB;simp only[bn1,go1 elt cond free r];all_goals rfl
theorem goT (m:Nat)(elt cond:EE)(free:Env):∀ l,compGoG (bnT m) elt cond free l=compGoT m elt cond free l
 | []=>rfl
 | d::r=>by
  unfold compGoG compGoT;cases d with
  | tup es=>
   by_cases q:es.length=m
   ·simp only[bnT,q,if_true,goT m elt cond free r]
    all_goals rfl
   ·simp only[bnT,q,if_false]
  | _=>rfl
theorem eC1 (elt cond:EE)(is:List Nat)(it:EI):eCompG bn1 elt cond is it=eComp elt cond is it:=by funext ρ;unfold eCompG eComp;simp only[go1];all_goals rfl
theorem eCT (m:Nat)(elt cond:EE)(is:List Nat)(it:EI):eCompG (bnT m) elt cond is it=eCompT m elt cond is it:=by funext ρ;unfold eCompG eCompT;simp only[goT];all_goals rfl
end Dv
namespace Sd
open PySem PySem.Spec PyProof.Rows L2
open Dv (D R RL EE EL EI RI Sl Out SS)
section
variable {C:Ctx}{elt iter:Expr}{tg:Expr}{bn:D->Option (List D)}{T0:TG}{ts:List Str}{pos:Pos}{ifs:List Expr}{scope:Scope}{fs:List Str}{is:List Nat}{fi:EI}{fe fc:EE}
structure CompAtG (C:Ctx)(ts:List Str)(fs:List Str)(is:List Nat)(scope:Scope)(cl:List (Str×Addr))(L Da:Addr)(s2:Shared)(H1 Hv1:Hp)(fp:List Addr)(tn:Nat->Heap->Prop)(σ:St)(ds:List D)(i:Nat)(os:St)(vs:List V)(xs:List D)(f1:Bool)(Hn Hvn:Hp)(s:Shared):Prop where
 le:i<=ds.length
 ol:os.length=ts.length
 inv:Inv (aV C.X (ts++fs) scope cl L s2 H1 fp) [] (os++bG σ is) Hn s
 at_:tn i s.heap
 fpn:∀ b∈fp,Hn b=none
 obj:∃ (its:List Value) (ne:Nat),s.heap.get? Da=some { cls:=.type "list",data:=.seq its.toArray ne }/\Vals vs its
 dn:Hn Da=none
 few:vs.length<=i
 ext:Ext Hv1 H1 Hvn Hn
 rp:RpL C.X.K Hvn xs vs
 fr:f1=true->RpL [] (Hnew H1 Hn) xs vs
theorem my {cl:List (Str×Addr)}{L Da:Addr}{s2:Shared}{H1:Hp}{fp:List Addr}{σ:St}{pins:List (Addr×Obj)}{its:List Value}{ne:Nat}{vs:List V}{Hn:Hp}{s1:Shared}{os:St}{h':Heap}
  (I2:Inv C.X pins σ H1 s2) (f2:∀ b∈fp,gh C.X pins H1 b) (eD:Da=s2.heap.objs.size) (eL:L=s2.heap.objs.size+1)
  (I:Inv (aV C.X (ts++fs) scope cl L s2 H1 fp) [] (os++bG σ is) Hn s1) (obj:s1.heap.get? Da=some { cls:=.type "list",data:=.seq its.toArray ne }) (rv:Vals vs its) (dn:Hn Da=none) (few:vs.length<=sizeLine)
  (sb:∀ b,b≠L->h'.get? b=s1.heap.get? b):Inv C.X pins σ (upd Hn Da (.lst vs)) { s1 with heap:=h' }:=by
 have lt:∀ b o,s2.heap.get? b=some o->b≠Da/\b≠L:=λ b o e=>by
  have hlt:=yG e;rw[eD,eL];exact⟨u9 hlt,u9 (vQ hlt)⟩
 have hDL:Da≠L:=by rw[eD,eL];exact u9 (vZ _)
 have kp:∀ b o,b≠L->s1.heap.get? b=some o->h'.get? b=some o:=λ b o hb e=>(sb b hb).trans e
 refine I2.call' (s':={ s1 with heap:=h' }) (ch:=fp) I.os ⟨λ b ob e n hb hx=>?_,λ b ob e n hb hx=>?_,λ b ob e n hx=>?_,λ b ob e hx=>?_,λ b us e=>?_,λ b ob u e=>?_,λ b ps e=>?_⟩ ?_ I.bare λ b hb=>⟨(f2 b hb).2.2.2.1,(f2 b hb).2.1,(f2 b hb).2.2.2.2.1,(f2 b hb).2.2.2.2.2⟩
 ·exact kp b ob (lt b ob e).2 (I.base.keep b ob e n hb hx)
 ·obtain⟨sl,h1⟩:=I.base.slot b ob e n hb hx
  exact⟨sl,kp b _ (lt b ob e).2 h1⟩
 ·rw[ao (lt b ob e).1];exact I.base.free b ob e n hx
 ·obtain⟨o',h1⟩:=I.base.there b ob e hx
  exact⟨o',kp b _ (lt b ob e).2 h1⟩
 ·have h1:=I.base.tups b us e
  rw[ao (ay h1 dn)];exact h1
 ·have h1:=I.base.frzs b ob u e
  rw[ao (ay h1 dn)];exact h1
 ·obtain⟨more,h1⟩:=I.base.tbls b ps e
  exact⟨more,by rw[ao (ay h1 dn)];exact h1⟩
 ·exact mG (qx I.hok I.free kp) dn ⟨few,its,ne,rv,kp Da _ hDL obj⟩
theorem iH {bn:D->Option (List D)}{elt cond:EE}{free:Dv.Env}{d:D}{r:List D}{xs:List D}{f:Bool}(h:Dv.compGoG bn elt cond free (d::r)=.ok xs f):
  ∃ es,bn d=some es/\((∃ g x fx xs' f',cond (es.map some++free)=.ok (.bl true) g/\elt (es.map some++free)=.ok x fx/\Dv.compGoG bn elt cond free r=.ok xs' f'/\xs=x::xs'/\f=(fx&&f')) \/
  (∃ g,cond (es.map some++free)=.ok (.bl false) g/\Dv.compGoG bn elt cond free r=.ok xs f)):=by
 unfold Dv.compGoG at h;cases hb:bn d with
 | none=>simp only[hb] at h;cases h
 | some es=>
  refine⟨es,rfl,?_⟩;simp only[hb] at h;cases hc:cond (es.map some++free) with
  | bad=>simp only[hc] at h;cases h
  | exc c=>simp only[hc] at h;cases h
  | ok v g=>
   cases v with
   | bl b=>
    cases b with
    | true=>
     simp only[hc] at h;cases he:elt (es.map some++free) with
     | bad=>simp only[he] at h;cases h
     | exc c=>simp only[he] at h;cases h
     | ok x fx=>
      simp only[he] at h;cases hr:Dv.compGoG bn elt cond free r with
      | bad=>simp only[hr] at h;cases h
      | exc c=>simp only[hr] at h;cases h
      | ok xs' f'=>
       simp only[hr] at h;cases h;exact .inl ⟨g,x,fx,xs',f',rfl,rfl,rfl,rfl,rfl⟩
    | false=>simp only[hc] at h;exact .inr ⟨g,rfl,h⟩
   | _=>simp only[hc] at h;cases h
structure TgR (C:Ctx)(tg:Expr)(ts fs:List Str)(scope:Scope)(bn:D->Option (List D))(T:TG):Prop where
 hg:∀ cl L s₀ H₀ ex,PG (aV C.X (ts++fs) scope cl L s₀ H₀ ex) tg T
 ht:∀ {K:yC} {d:D} {des:List D} {Hv H:Hp} {xv:V} {os fr:St} {Q:St->Hp->Prop},bn d=some des->os.length=ts.length->Same Hv H->Rp K Hv d xv->(∀ ws,ws.length=ts.length->RpL K Hv des ws->Q (ws.map some++fr) H)->T xv (os++fr) H Q
theorem fI {pins:List (Addr×Obj)}{s:Shared}{σ:St}{H Hv:Hp}{ρ:Dv.Env}{Q:VK}{use:Option (Value->Sem Unit)}{Q':Value->Shared->Prop}{pos':Pos}(hclm:C.X.calm=true)(S:CompNamesT C.X scope ts fs is)(hG:TgR C tg ts fs scope bn T0)(hi:SI C tg iter fi)(he:∀ cl L s₀ H₀ ex,SE (aP C (ts++fs) scope cl L s₀ H₀ ex) elt fe)(hc:∀ cl L s₀ H₀ ex,STs (aP C (ts++fs) scope cl L s₀ H₀ ex) ifs fc)
  (hs:∀ v,foldedSetIterable iter C.X.env v=pure v) (I:Inv C.X pins σ H s) (er:EnvR C.X.K Hv ρ σ) (sv:Same Hv H) (ok:Ok C.X.K Hv H (C.W σ) C.cls (Dv.eCompG bn fe fc is fi ρ) Q)
  (hfin:∀ Da L s5,kR C pins σ Q Da L s5->compPost (model C.X.prog C.X.w) C.X.A C.X.xe use Q' (.ref Da) L (.ok .next) s5):
  wpAny (model C.X.prog C.X.w) C.X.A (comprehension (.ListComp elt [⟨tg,iter,ifs,0⟩] scope pos) scope C.X.env pos' (newList []) false (eval iter C.X.env) use) Q' C.X.xe s:=by
 obtain⟨wi,pi,qi⟩:=hi;obtain⟨cl,hcl,clsub,clhas⟩:=jS (env:=C.X.env) (scope:=scope) λ y hy hf=>I.ok.has y.1 (S.free y hy hf)
 have h0:wi σ H (λ J H1=>∃ Hv1 ds xs fr,Ext Hv H Hv1 H1/\Wlk C.X.K J Hv1 ds/\ds.length<=Dv.mx/\Dv.compGoG bn fe fc (Dv.pick ρ is) ds=.ok xs fr/\Ok C.X.K Hv H (C.W σ) C.cls (.ok (.lst xs) fr) Q):=by
  refine qi σ H Hv ρ _ er sv ?_
  unfold Dv.eCompG at ok;cases hf:fi ρ with
  | bad=>simp only[hf] at ok;exact ok
  | exc c=>simp only[hf] at ok;exact ok
  | ok ds g=>
   simp only[hf] at ok;by_cases hz:ds.length<=Dv.mx
   ·simp only[hz,if_true] at ok
    cases hgo:Dv.compGoG bn fe fc (Dv.pick ρ is) ds with
    | bad=>simp only[hgo] at ok;exact Zf ok
    | exc c=>simp only[hgo] at ok;exact Zf ok
    | ok xs fr=>
     simp only[hgo] at ok;exact λ J Hv1 H1 x1 wl=>⟨Hv1,ds,xs,fr,x1,wl,hz,hgo,ok⟩
   ·simp only[hz,if_false] at ok
    exact Zf ok
 refine wpAny_comprehension_free (use:=use) rfl hs hcl S.kind S.names (yT (pi pins s σ H _ I h0) (λ v s1 h1=>yT h1 (λ itv s2 h2=>?_) λ _ _ z=>z) λ _ _ z=>z);obtain⟨it,fp,tn,J,H1,rfl,I2,T,st2,f2,Hv1,ds,xs,fr,x1,wl,hz,hgo,okE⟩:=h2;clear ok;have fin:∀ b∈fp,b<s2.heap.objs.size:=λ b hb=>by
  obtain⟨o,e,_⟩:=T.obj 0 _ st2 b hb;exact yG e
 refine zl (wpAny_newFunctionEnv S.cell (by intro y hy;simp at hy) (λ h1 hns hsb=>?_) S.kind);dsimp only at hns hsb ⊢;generalize hH2:s2.heap.push { cls:=.type "list",dict:=none,data:=.seq ([]:List Value).toArray }=G2 at hns hsb ⊢;have hL:G2.objs.size=s2.heap.objs.size+1:=by rw[<- hH2,zS]
 generalize eL:G2.objs.size=L at hns hsb ⊢;rw[eL] at hL;have old:∀ b o,s2.heap.get? b=some o->h1.get? b=some o:=λ b o e=>by
  have hlt:=yG e;exact hsb.extBut b o (by rw[hL];exact u9 (vQ hlt)) (yE _ (hH2▸yE _ e))
 have hacc:h1.get? s2.heap.objs.size=some { cls:=.type "list",data:=.seq ([]:List Value).toArray 0 }:=hsb.extBut _ _ (by rw[hL];exact u9 (vZ _)) (yE _ (hH2▸yL _ rfl));generalize eD:s2.heap.objs.size=Da at hacc hL ⊢;have hDfp:Da∉fp:=λ hb=>by
  have:=fin Da hb;rw[eD] at this;exact vI _ this
 have hDL:Da≠L:=by rw[hL];exact u9 (vZ _)
 have hsL:s2.heap.objs.size<=L:=by rw[hL,eD];exact w6 _
 have hsD:s2.heap.objs.size<=Da:=yt eD;obtain⟨te,pe,qe⟩:=he cl L s2 H1 fp;obtain⟨tt,pt,qt⟩:=hc cl L s2 H1 fp;have hDfs:Da∉frs C.X.stack:=λ hb=>by
  obtain⟨_,ob,hob,_⟩:=I2.stack.mem hb;have:=yG hob;rw[eD] at this;exact vI _ this
 have hcalm:(aV C.X (ts++fs) scope cl L s2 H1 fp).calm=true:=hclm;have start:CompAtG C ts fs is scope cl L Da s2 H1 Hv1 fp tn σ ds 0 (List.replicate ts.length none) [] [] true H1 Hv1 { s2 with heap:=h1,toks:=s2.toks+([]:List (Str×Value)).length }:=
  ⟨vK _,by simp,lS I2 S clsub clhas f2 fin hsL old hns,T.keep 0 _ _ st2 λ b hb o e=>old b o e,λ b hb=>(f2 b hb).1,⟨[],0,hacc,.nil⟩,I2.hok.fresh hsD,u5 _,.refl x1.vh,.nil,λ _=>.nil⟩
 have loop:∀ (T0:Result->Shared->Prop) (s4:Shared),(∀ s',kR C pins σ Q Da L s'->T0 (.ok .next) s')->CompAtG C ts fs is scope cl L Da s2 H1 Hv1 fp tn σ ds 0 (List.replicate ts.length none) [] [] true H1 Hv1 s4 ->
   codeAny (model C.X.prog C.X.w) C.X.A (.compLoop (.ListComp elt [⟨tg,iter,ifs,0⟩] scope pos) 0 (.ref it) (.ref Da) (compEnvC scope cl L C.X.env)) T0 s4:=by
  intro T0 s4 hT hst';refine kh (λ n s=>∃ i os vs xs1 f1 xs2 fr2 Hn Hvn,n=ds.length-i/\CompAtG C ts fs is scope cl L Da s2 H1 Hv1 fp tn σ ds i os vs xs1 f1 Hn Hvn s/\Dv.compGoG bn fe fc (Dv.pick ρ is) (ds.drop i)=.ok xs2 fr2/\xs=xs1++xs2/\fr=(f1&&fr2)) ?_ ds.length ⟨0,List.replicate ts.length none,[],[],true,xs,fr,H1,Hv1,rfl,hst',hgo,rfl,by simp⟩
  rintro n s ⟨i,os,vs,xs1,f1,xs2,fr2,Hn,Hvn,rfl,A,hg2,hxs,hfr⟩
  obtain⟨its,ne,hob,rv⟩:=A.obj;have I1:Inv (aV C.X (ts++fs) scope cl L s2 H1 fp) [(Da,{ cls:=.type "list",data:=.seq its.toArray ne })] (os++bG σ is) Hn s:=A.inv.pins_of λ p hp=>by
   have e:p=(Da,({ cls:=.type "list",data:=.seq its.toArray ne }:Obj)):=by simpa using hp
   subst e;exact⟨hob,A.dn,hDL,hDfs,λ v z=>by cases z⟩
  have hfp:∀ Hx:Hp,(∀ b∈fp,Hx b=none)->∀ b∈fp,gh (aV C.X (ts++fs) scope cl L s2 H1 fp) [(Da,{ cls:=.type "list",data:=.seq its.toArray ne })] Hx b:=λ Hx hx b hb=>by
   refine⟨hx b hb,?_,λ hf=>?_,.inl hb,λ y c e=>(f2 b hb).2.2.2.2.1 y c (clsub y c e),λ p hp=>?_⟩
   ·have:=fin b hb
    exact λ z=>by
     have z':b=L:=z;rw[z'] at this;exact absurd this (Nat.not_lt.mpr hsL)
   ·obtain⟨_,ob,hob',_⟩:=I2.stack.mem hf
    rcases List.mem_cons.mp (I2.stkSub b hf) with e|e
    ·exact(f2 b hb).2.1 e
    ·exact(f2 b hb).2.2.1 e
   ·have e:p=(Da,({ cls:=.type "list",data:=.seq its.toArray ne }:Obj)):=by simpa using (show p∈[]++[(Da,({ cls:=.type "list",data:=.seq its.toArray ne }:Obj))] from hp)
    subst e;exact λ z=>hDfp (by rw[show Da=b from z];exact hb)
  obtain⟨w1,w2⟩:=wl i Hn (A.ext.vv.trans A.ext.vh);by_cases hlt:i<ds.length
  ·have hd:ds[i]?=some ds[i]:=by simp[hlt]
   have e1:ds.drop i=ds[i]::ds.drop (i+1):=wb hlt;rw[e1] at hg2;generalize ds[i]=d at hd e1 hg2;obtain⟨go,yl⟩:=w1 d hd;refine yT (T.item (aV C.X (ts++fs) scope cl L s2 H1 fp) rfl rfl rfl hcalm i _ s _ Hn (λ _ _=>False) I1 (hfp Hn A.fpn) A.at_ go) (λ r s5 h5=>?_) λ _ _ z=>z
   obtain⟨u,rfl,h5⟩:=h5;refine yT h5 (λ _ s6 h6=>?_) λ _ _ z=>z
   obtain⟨xv,H6,I6,ru,y6,tn6,fr6⟩:=h6;obtain⟨Hv6,x6,rp6⟩:=yl xv H6 y6;obtain⟨Hvm,xm,sm⟩:=l7 A.ext x6;have I6p:=I6.pinned (fp:=fp) (hfp H6 fr6) (T.obj _ _ tn6);have dn6:H6 Da=none:=(I6.pin (Da,{ cls:=.type "list",data:=.seq its.toArray ne }) (vk _ (by simp))).2.1;obtain⟨des,ed,hgo3⟩:=iH hg2;refine yT (hG.hg cl L s2 H1 fp _ s6 _ H6 xv u (λ σ' H'=>∃ ws,ws.length=ts.length/\RpL C.X.K Hv6 des ws/\σ'=ws.map some++bG σ is/\H'=H6) I6p ru (hG.ht ed A.ol x6.vh rp6 λ ws h1 h2=>⟨ws,h1,h2,rfl,rfl⟩)) (λ _ s7 h7=>?_) λ _ _ z=>z
   obtain⟨σ7,H7,I7,ws,hwl,hws,e7,e7'⟩:=h7;subst e7 e7';have er7:EnvR C.X.K Hvm (des.map some++Dv.pick ρ is) (ws.map some++bG σ is):=lP (er.same ((x1.vv.trans A.ext.vv).trans xm.vv)) ((hws.same sm));have back:∀ {s':Shared} {H':Hp} {σ':St},Inv (aV C.X (ts++fs) scope cl L s2 H1 fp) ([(Da,{ cls:=.type "list",data:=.seq its.toArray ne })]++fS fp s6.heap) σ' H' s'->tn (i+1) s'.heap/\(∀ b∈fp,H' b=none)/\s'.heap.get? Da=some { cls:=.type "list",data:=.seq its.toArray ne }/\H' Da=none:=λ {s' H' σ'} I'=>by
    refine⟨T.keep _ _ _ tn6 λ b hb o e=>(I'.pin (b,o) (vk _ (vk _ (cj hb e)))).1,λ b hb=>?_,?_,?_⟩
    ·obtain⟨o,e,_⟩:=T.obj _ _ tn6 b hb
     exact(I'.pin (b,o) (vk _ (vk _ (cj hb e)))).2.1
    ·exact(I'.pin (Da,{ cls:=.type "list",data:=.seq its.toArray ne }) (vk _ (vW _ (by simp)))).1
    ·exact(I'.pin (Da,{ cls:=.type "list",data:=.seq its.toArray ne }) (vk _ (vW _ (by simp)))).2.1
   rcases hgo3 with ⟨g,xd,fx,xs',f',hcond,helt,hrest,exs,ef⟩|⟨g,hcond,hrest⟩
   ·-- the item is taken
    refine yT (pt _ s7 _ H7 (λ b H'=>b=true/\∃ Hvq,Ext Hvm H7 Hvq H') I7 (qt _ H7 Hvm (des.map some++Dv.pick ρ is) _ er7 xm.vh ?_)) (λ okb s8 h8=>?_) λ _ _ z=>z
    ·rw[hcond]
     intro v Hv' H' xx rpb _;unfold Rp at rpb;exact⟨true,rpb,rfl,Hv',xx⟩
    obtain⟨H8,I8,rfl,Hv8,x8⟩:=h8;rw[if_pos rfl];refine yT (pe _ s8 _ H8 (λ v H'=>∃ Hv',Ext Hv8 H8 Hv' H'/\Rp C.X.K Hv' xd v/\(fx=true->Rp [] (Hnew H8 H') xd v)) I8 (qe _ H8 Hv8 (des.map some++Dv.pick ρ is) _ (er7.same x8.vv) x8.vh ?_)) (λ uv s9 h9=>?_) λ _ _ z=>z
    ·show Ok C.X.K Hv8 H8 _ C.cls (fe (des.map some++Dv.pick ρ is)) _
     rw[helt];exact λ v Hv' H' xx rpb nn=>⟨Hv',xx,rpb,nn⟩
    obtain⟨v9,H9,I9,r9,Hv9,x9,rp9,n9⟩:=h9;obtain⟨tn9,fpn9,ob9,dn9⟩:=back I9;have hlen:=rv.length;refine Bd BY ⟨_,ob9,rfl⟩ BR (BO _ _) (Ci Da its.toArray ne uv (by rw[u0];have:=A.few;have:=ck hz;omega)) ⟨ob9,?_⟩;refine⟨ds.length-(i+1),⋯,i+1,ws.map some,vs++[v9],xs1++[xd],f1&&fx,xs',f',H9,Hv9,rfl,⟨hlt,by simp[hwl],?_,?_,fpn9,?_,dn9,?_,?_,?_,?_⟩,hrest,by rw[hxs,exs];simp,by rw[hfr,ef,Bool.and_assoc]⟩
    ·have I9':Inv (aV C.X (ts++fs) scope cl L s2 H1 fp) [] (ws.map some++bG σ is) H9 s9:=I9.pins_of λ p hp=>absurd hp (by simp)
     exact I9'.turned (it:=Da) (λ b ob hb e=>(yR _ _ (Ne.symm hb)).trans e) dn9 hDL (.inr hsD) (λ y c e z=>by
      obtain⟨w',oc,hoc,_⟩:=I2.cell y c (clsub y c e);have:=yG hoc;rw[z] at this;exact absurd this (Nat.not_lt.mpr hsD)) (λ p hp=>absurd (show p∈([]:List (Addr×Obj)) from hp) (by simp))
    ·exact T.keep _ _ _ tn9 λ b hb ob e=>(yR _ _ (λ z=>hDfp (by rw[z];exact hb))).trans e
    ·have q:=Ct ob9 (λ a=>a.push uv)
     exact⟨its++[uv],_,by simpa using q,rv.append (.cons r9 .nil)⟩
    ·rw[vd,xB];have:=A.few;omega
    ·exact A.ext.trans (xm.trans (x8.trans x9))
    ·exact(A.rp.same ((xm.vv.trans x8.vv).trans x9.vv)).append (.cons rp9 .nil)
    ·intro z
     rw[vi] at z;refine((A.fr z.1).same (Hnew.mono (.refl _) ((xm.hh.trans x8.hh).trans x9.hh))).append (.cons ((n9 z.2).same (Hnew.mono ((A.ext.hh.trans xm.hh).trans x8.hh) (.refl _))) .nil)
   ·-- the item is left out
    refine yT (pt _ s7 _ H7 (λ b H'=>b=false/\∃ Hvq,Ext Hvm H7 Hvq H') I7 (qt _ H7 Hvm (des.map some++Dv.pick ρ is) _ er7 xm.vh ?_)) (λ okb s8 h8=>?_) λ _ _ z=>z
    ·rw[hcond]
     intro v Hv' H' xx rpb _;unfold Rp at rpb;exact⟨false,rpb,rfl,Hv',xx⟩
    obtain⟨H8,I8,rfl,Hv8,x8⟩:=h8;rw[if_neg vq];obtain⟨tn8,fpn8,ob8,dn8⟩:=back I8;refine⟨ds.length-(i+1),⋯,i+1,ws.map some,vs,xs1,f1,xs2,fr2,H8,Hv8,rfl,⟨hlt,by simp[hwl],I8.pins_of λ p hp=>absurd hp (by simp),tn8,fpn8,⟨its,ne,ob8,rv⟩,dn8,wo A.few,A.ext.trans (xm.trans x8),A.rp.same (xm.vv.trans x8.vv),λ z=>(A.fr z).same (Hnew.mono (.refl _) (xm.hh.trans x8.hh))⟩,hrest,hxs,hfr⟩
  ·have ei:i=ds.length:=Nat.le_antisymm A.le ⋯
   refine yT (T.done (aV C.X (ts++fs) scope cl L s2 H1 fp) rfl rfl rfl hcalm i _ s _ Hn (λ _ _=>False) I1 (hfp Hn A.fpn) A.at_ (w2 ei)) (λ r s5 h5=>?_) λ _ _ z=>z
   obtain⟨rfl,I5⟩:=h5;refine hT s5 ?_
   obtain⟨m5,hn5,_⟩:=I5.loc;rw[ei,xY] at hg2;cases hg2;rw[wR] at hxs;rw[vw] at hfr;subst hxs hfr;have ob5:=(I5.pin (Da,{ cls:=.type "list",data:=.seq its.toArray ne }) (vk _ (by simp))).1;refine⟨⟨m5,hn5⟩,λ z=>absurd I2.lt (by rw[<- z];exact Nat.not_lt.mpr hsL),λ y c e z=>?_,vF I2.sz hsL,λ p hp z=>?_,upd Hn Da (.lst vs),?_,?_,λ h' sb=>?_⟩
   ·obtain⟨w',oc,hoc,_⟩:=I2.cell y c e
    exact absurd (yG hoc) (by rw[z];exact Nat.not_lt.mpr hsL)
   ·exact absurd (yG (I2.pin p hp).1) (by rw[z];exact Nat.not_lt.mpr hsL)
   ·rw[ao (Ne.symm hDL)];exact A.inv.free
   ·exact Ok.newL okE (x1.trans A.ext) A.rp (λ z=>(A.fr z).same (Hnew.mono x1.hh (.refl _))) Da A.dn
   ·exact my I2 f2 eD.symm (by rw[hL,eD]) (I5.pins_of λ p hp=>absurd hp (by simp)) ob5 rv A.dn (by have:=A.few;have:=A.le;have:=ck hz;omega) sb
 refine codeAny_compStart_list (loop _ _ (λ s' h=>hfin Da L s' h) start) ?_
 exact T.self _ 0 _ _ _ start.at_ (loop _ _ (λ s' h=>hfin Da L s' h) start)
theorem jC (S:CompNamesT C.X scope ts fs is)(hG:TgR C tg ts fs scope bn T0)(hi:SI C tg iter fi)(he:∀ cl L s₀ H₀ ex,SE (aP C (ts++fs) scope cl L s₀ H₀ ex) elt fe)(hc:∀ cl L s₀ H₀ ex,STs (aP C (ts++fs) scope cl L s₀ H₀ ex) ifs fc)
  (hs:autoParam (∀ v,foldedSetIterable iter C.X.env v=pure v) ZD._auto_1) (hclm:autoParam (C.X.calm=true) ZE._auto_1):SE C (.ListComp elt [⟨tg,iter,ifs,0⟩] scope pos) (Dv.eCompG bn fe fc is fi):=by
 refine⟨λ σ H Q=>∃ Hv ρ,EnvR C.X.K Hv ρ σ/\Same Hv H/\Ok C.X.K Hv H (C.W σ) C.cls (Dv.eCompG bn fe fc is fi ρ) Q,?_,λ σ H Hv ρ Q e s q=>⟨Hv,ρ,e,s,q⟩⟩;intro pins s σ H Q I ⟨Hv,ρ,er,sv,ok⟩;rw[eval_ListComp];refine fI (use:=none) hclm S hG hi he hc hs I er sv ok λ Da L s5 h=>?_
 obtain⟨⟨m,hn⟩,_,_,_,_,H',hL,q,iv⟩:=h;exact⟨m,hn,λ h' sb=>⟨.ref Da,H',iv h' λ b hb=>sb.2 b hb,rfl,q⟩⟩
theorem jv {i:Nat}{y:Str}{py spos:Pos}(S:CompNamesT C.X scope ts fs is)(hG:TgR C tg ts fs scope bn T0)(hi:SI C tg iter fi)(he:∀ cl L s₀ H₀ ex,SE (aP C (ts++fs) scope cl L s₀ H₀ ex) elt fe)(hc:∀ cl L s₀ H₀ ex,STs (aP C (ts++fs) scope cl L s₀ H₀ ex) ifs fc)
  (hN:C.X.N.Nodup) (hy:C.X.N[i]?=some y) (hl:C.X.env.scope.names.lookup y=some .local) (hsw:swapsWith (.ListComp elt [⟨tg,iter,ifs,0⟩] scope pos) (some (.Name y py)) spos.line C.X.env=pure true) (hs:∀ v,foldedSetIterable iter C.X.env v=pure v) (hclm:C.X.calm=true):
  PS C.X (.Assign [.Name y py] (.ListComp elt [⟨tg,iter,ifs,0⟩] scope pos) spos) (λ E σ H=>∃ Hv ρ,EnvR C.X.K Hv ρ σ/\Same Hv H/\Ok C.X.K Hv H (C.W σ) C.cls (Dv.eCompG bn fe fc is fi ρ) λ v H'=>E.nx (σ.set i (some v)) H'):=by
 intro pins s σ H E I ⟨Hv,ρ,er,sv,ok⟩;rw[exec_Assign_Name_used _ _ _ _ hsw];refine yB (A3 (yB ?_));show wpAny _ _ (do let _ <- comprehension (.ListComp elt [⟨tg,iter,ifs,0⟩] scope pos) scope C.X.env _ (newList []) false (eval iter C.X.env) (some (assign (.Name y py) C.X.env))) _ _ s
 refine yB (yT (fI (use:=some (assign (.Name y py) C.X.env)) (Q':=λ _ s'=>∃ σ' H',Inv C.X pins σ' H' s'/\E.nx σ' H') hclm S hG hi he hc hs I er sv ok λ Da L s5 h=>?_) (λ _ s' hq=>yD (yD hq)) λ _ _ e=>e);obtain⟨⟨m,hn⟩,h1,h2,h3,h4,H',hL,q,iv⟩:=h;have I5:Inv C.X pins σ H' s5:=iv s5.heap λ b _=>rfl
 show wpAny _ _ (assign (.Name y py) C.X.env (.ref Da)) _ _ s5
 refine wpAny_assign_Name (gM (v:=.ref Da) I5 hN hy (.inl hl) rfl (λ s6 I6 ⟨a,sb,ha⟩=>?_) (.inr hl));have hLa:L≠a:=by
  rcases ha with rfl|ha
  ·exact h1
  ·exact λ z=>h2 y a ha z.symm
 refine⟨m,hn.sameBut sb hLa,λ h' sb'=>⟨_,H',?_,q⟩⟩;exact I6.turned (t':=s6.toks) (it:=L) (λ b o hb e=>(sb'.2 b hb).trans e) hL h1 (.inr h3) h2 h4
theorem ib {i:Nat}{y:Str}{py spos:Pos}(S:CompNamesT C.X scope ts fs is)(hG:TgR C tg ts fs scope bn T0)(hi:SI C tg iter fi)(he:∀ cl L s₀ H₀ ex,SE (aP C (ts++fs) scope cl L s₀ H₀ ex) elt fe)(hc:∀ cl L s₀ H₀ ex,STs (aP C (ts++fs) scope cl L s₀ H₀ ex) ifs fc)
  (hN:C.X.N.Nodup) (hy:C.X.N[i]?=some y) (hl:C.X.env.scope.names.lookup y=some .local) (hsw:autoParam (swapsWith (.ListComp elt [⟨tg,iter,ifs,0⟩] scope pos) (some (.Name y py)) spos.line C.X.env=pure true) ZE._auto_1) (hs:autoParam (∀ v,foldedSetIterable iter C.X.env v=pure v) ZD._auto_1) (hclm:autoParam (C.X.calm=true) ZE._auto_1):
  SSt C (.Assign [.Name y py] (.ListComp elt [⟨tg,iter,ifs,0⟩] scope pos) spos) (Dv.sSet i (Dv.eCompG bn fe fc is fi)):=
 ⟨_,jv S hG hi he hc hN hy hl hsw hs hclm,λ Hv₀ H₀ E σ H st r w=>kE (f:=Dv.eCompG bn fe fc is fi) (t:=λ σ H Q=>∃ Hv ρ,EnvR C.X.K Hv ρ σ/\Same Hv H/\Ok C.X.K Hv H (C.W σ) C.cls (Dv.eCompG bn fe fc is fi ρ) Q) (λ σ H Hv ρ Q e s q=>⟨Hv,ρ,e,s,q⟩) i r w⟩
end
section
variable {C:Ctx}{elt iter:Expr}{x:Str}{px pos:Pos}{ifs:List Expr}{scope:Scope}{fs:List Str}{is:List Nat}{fi:EI}{fe fc:EE}
theorem nW (S:CompNamesT C.X scope [x] fs is):TgR C (.Name x px) [x] fs scope Dv.bn1 (en 0):=
  ⟨λ cl L s₀ H₀ ex=>bU (X:=aV C.X ([x]++fs) scope cl L s₀ H₀ ex) (pos:=px) (i:=0) (x:=x) S.nd rfl (.inl (AO (S.tgt x (by simp)))) (.inr (AO (S.tgt x (by simp)))),
   λ {K d des Hv H xv os fr Q} e l _ r h=>by
    cases e
    match os,l with
    | [o],_=>exact h [xv] rfl (.cons r .nil)⟩
theorem rR {es:List Expr}{ts:List Str}{kt:Nat}(hcl:C.X.calm=true)(S:CompNamesT C.X scope ts fs is)(na:NamesAre es ts)(hn:∀ env,(assignEach es env).length=es.length)(hst:∀ env,(assignEach es env).findIdx? (·.1)=none):TgR C (.Tuple es kt px) ts fs scope (Dv.bnT ts.length) (sf C.X.K es.length (tgN 0 es.length)):=by
 have hesl:es.length=ts.length:=na.length;refine⟨λ cl L s₀ H₀ ex=>ik (X:=aV C.X (ts++fs) scope cl L s₀ H₀ ex) (pos:=px) (k:=kt) hcl (mC (X:=aV C.X (ts++fs) scope cl L s₀ H₀ ex) S.nd na 0 (λ j t ht=>⟨by
  show (ts++fs)[0+j]?=some t
  rw[wX,vz (List.getElem?_eq_some_iff.mp ht).1];exact ht,AO (S.tgt t (vX ht))⟩)) (hn _) (hst _),λ {K d des Hv H xv os fr Q} e l sm r h=>?_⟩
 cases d with
 | tup es'=>
  by_cases hdl:es'.length=ts.length
  ·have e':es'=des:=by simpa[Dv.bnT,hdl] using e
   subst e';unfold Rp at r;obtain⟨ta,ws,rfl,hta,hws⟩:=r;have hwl:ws.length=ts.length:=by rw[hws.length,hdl]
   refine⟨ta,ws,rfl,.inl (Rd.same sm hta),by rw[hwl,hesl],?_⟩;rw[hesl];have:=mY ts.length 0 ws [] os fr H Q hwl l rfl (by simpa using h ws hwl hws);simpa using this
  ·simp[Dv.bnT,hdl] at e
 | _=>cases e
theorem eO (S:CompNamesT C.X scope [x] fs is)(hi:SI C (.Name x px) iter fi)(he:∀ cl L s₀ H₀ ex,SE (aP C ([x]++fs) scope cl L s₀ H₀ ex) elt fe)(hc:∀ cl L s₀ H₀ ex,STs (aP C ([x]++fs) scope cl L s₀ H₀ ex) ifs fc)
  (hs:autoParam (∀ v,foldedSetIterable iter C.X.env v=pure v) ZD._auto_1) (hclm:autoParam (C.X.calm=true) ZE._auto_1):SE C (.ListComp elt [⟨.Name x px,iter,ifs,0⟩] scope pos) (Dv.eComp fe fc is fi):=by
 rw[<- Dv.eC1];exact jC S (nW S) hi he hc hs hclm
theorem nH {es:List Expr}{ts:List Str}{kt:Nat}(S:CompNamesT C.X scope ts fs is)(na:NamesAre es ts)(hn:∀ env,(assignEach es env).length=es.length)(hst:∀ env,(assignEach es env).findIdx? (·.1)=none)(hi:SI C (.Tuple es kt px) iter fi)(he:∀ cl L s₀ H₀ ex,SE (aP C (ts++fs) scope cl L s₀ H₀ ex) elt fe)(hc:∀ cl L s₀ H₀ ex,STs (aP C (ts++fs) scope cl L s₀ H₀ ex) ifs fc)
  (hs:autoParam (∀ v,foldedSetIterable iter C.X.env v=pure v) ZD._auto_1) (hclm:autoParam (C.X.calm=true) ZE._auto_1):SE C (.ListComp elt [⟨.Tuple es kt px,iter,ifs,0⟩] scope pos) (Dv.eCompT ts.length fe fc is fi):=by
 rw[<- Dv.eCT];exact jC S (rR hclm S na hn hst) hi he hc hs hclm
theorem kx {i:Nat}{y:Str}{py spos:Pos}(S:CompNamesT C.X scope [x] fs is)(hi:SI C (.Name x px) iter fi)(he:∀ cl L s₀ H₀ ex,SE (aP C ([x]++fs) scope cl L s₀ H₀ ex) elt fe)(hc:∀ cl L s₀ H₀ ex,STs (aP C ([x]++fs) scope cl L s₀ H₀ ex) ifs fc)
  (hN:C.X.N.Nodup) (hy:C.X.N[i]?=some y) (hl:C.X.env.scope.names.lookup y=some .local) (hsw:autoParam (swapsWith (.ListComp elt [⟨.Name x px,iter,ifs,0⟩] scope pos) (some (.Name y py)) spos.line C.X.env=pure true) ZE._auto_1) (hs:autoParam (∀ v,foldedSetIterable iter C.X.env v=pure v) ZD._auto_1) (hclm:autoParam (C.X.calm=true) ZE._auto_1):
  SSt C (.Assign [.Name y py] (.ListComp elt [⟨.Name x px,iter,ifs,0⟩] scope pos) spos) (Dv.sSet i (Dv.eComp fe fc is fi)):=by
 rw[<- Dv.eC1];exact ib S (nW S) hi he hc hN hy hl hsw hs hclm
end
end Sd
namespace Dv
def anyD:D->Bool->R
 | .lst ds,_=>match qZ ds with
  | some bs=>.ok (.bl (bs.any id)) true
  | none=>.bad
 | _,_=>.bad
def minTD:D->Bool->R
 | .tup ds,_=>match intsOf ds with
  | some (n::ns)=>.ok (.int (minI n ns)) true
  | _=>.bad
 | _,_=>.bad
def stepL (lo c:Int):Nat->List Int
 | 0=>[]
 | n+1=>lo::stepL (lo+c) c n
def listRange3D:D->D->D->R
 | .int i,.int j,.int c=>if rngOk i&&rngOk j&&rngOk c&&decide (0<c) then .ok (.lst ((stepL i c ((j-i+c-1)/c).toNat).map .int)) true else .bad
 | _,_,_=>.bad
def eB3 (F:D->D->D->R)(a b c:EE):EE:=λ ρ=>(a ρ).bind λ x _=>(b ρ).bind λ y _=>(c ρ).bind λ z _=>F x y z
def sExtF (i:Nat)(e:EE):SS:=λ st=>match st[i]? with
 | some (.ow (.lst ds))=>match e (all st) with
  | .ok (.lst es) true=>if decide (ds.length+es.length<=mx) then .nx (st.set i (.ow (.lst (ds++es)))) else .bad
  | .exc c=>.exc c st
  | _=>.bad
 | _=>.bad
def prsOf:List D->Option (List (Int×Int))
 | []=>some []
 | .tup [.int x,.int y]::r=>(prsOf r).map ((x,y)::·)
 | _::_=>none
def ag (a b:Int)(beat starts:List (Int×Int)):List (Int×Int):=starts.flatMap λ s=>beat.map λ p=>((p.1+s.1)%a,(p.2+s.2)%b)
def nodupB:List (Int×Int)->Bool
 | []=>true
 | p::r=>!r.contains p&&nodupB r
def fillsR:D->D->D->R
 | .tup [.int a,.int b],.lst ds,.lst es=>match prsOf ds,prsOf es with
  | some ps,some ss=>if decide (0<a)&&decide (0<b)&&decide (a*b<=1000)&&decide (0<ps.length*ss.length)&&decide (ps.length*ss.length<=1000) then
    .ok (.bl (decide (((ps.length*ss.length:Nat):Int)=a*b)&&nodupB (ag a b ps ss))) true
   else .bad
  | _,_=>.bad
 | _,_,_=>.bad
def sFills:SS:=λ st=>if st.length=9 then match st with
 | .sh d0::.sh d1::.sh d2::_=>match fillsR d0 d1 d2 with
  | .ok d f=>.ret d f
  | _=>.bad
 | _=>.bad
 else .bad
end Dv
namespace Sd
open PySem PySem.Spec PyProof.Rows L2
open Dv (D R RL EE EL EI RI Sl Out SS)
theorem ma {X:Cx}(hc:X.calm=true):cy X (.builtin "min") (λ xs H Q=>∃ p,∃ ns:List Int,xs=[.ref p]/\Rd H p (.tup (ns.map V.int))/\0<ns.length/\∀ M,M∈ns->(∀ a∈ns,M<=a)->Q (.int M) H):=by
 intro pins s σ H xs us Q I r h;obtain⟨p,ns,rfl,hq,hne,q⟩:=h;obtain⟨u,rfl,rx⟩:=vals1 r;cases rx;obtain⟨z,its,rv,ob,ho,hcl,hdt⟩:=hq.ok I.hok;have hi:=intsAre_of rv;obtain⟨xs,ex⟩:=hi.allInts.items;have hns:ns=xs.toList.map (·.1):=by rw[<- hi.numsOf,<- nums_intItems,<- ex]
 have hsz:0<xs.size:=by
  have h3:=hne;rw[hns,uR,yI] at h3;exact h3
 have ht:s.heap.IsTuple p (intItems xs):=⟨ob,ho,hcl,by rw[<- ex];exact hdt⟩;have hlt:p<s.heap.objs.size:=yG ho;refine call_min_walk (wpAny_pyIter_tuple ht ?_);refine⟨s.heap.objs.size,[s.heap.objs.size,p],[s.heap.objs.size],(intItems xs).size,_,_,λ i j=>decide (numAt xs i<numAt xs j),rfl,Walks.tuple (A:=X.A.in1) (I.ok.hd hc) _ p (u9 hlt) (intItems xs),⟨⟨_,yL _ rfl,rfl,rfl⟩,ht.push _⟩,λ b hb=>?_,by simpa[intItems] using hsz,CmpOf.ints_lt (numAt xs) (λ _ _=>Cn),λ v h' tk hP hk=>?_⟩
 ·show b<(s.heap.push _).objs.size
  rw[zS]
  rcases List.mem_cons.mp hb with rfl|hb
  ·exact vZ _
  ·rw[List.mem_singleton.mp hb];exact vQ hlt
 ·have hP':(intItems xs)[argBest (λ i j=>decide (numAt xs i<numAt xs j)) (xs.size-1)]?=some v:=by simpa[intItems] using hP
  obtain⟨t,rfl⟩:=Cn hP';obtain⟨h1,h2⟩:=argBest_lt (numAt xs) (xs.size-1);refine⟨.int _,H,I.kept (t':=tk) λ b x e=>hk b x (λ hm=>by rw[List.mem_singleton.mp hm] at e;exact vI _ (yG e)) (yE _ e),⟨t,rfl⟩,q _ ?_ λ a ha=>?_⟩
  ·rw[hns,Cu]
   refine oT ?_
   rw[uR,yI];omega
  ·rw[hns] at ha
   obtain⟨j,hj,rfl⟩:=oK ha;rw[uR,yI] at hj;rw[<- Cu];exact h2 j ⋯
section
variable {C:Ctx}{a b c e k:Expr}{f g h:EE}{F G:SS}{pos pos':Pos}{E:Ends}
theorem pU (hc:C.X.calm=true):C1S C (.builtin "min") Dv.minTD:=by
 refine⟨_,ma hc,λ x d fr H Hv H1 Hv1 W Q e rx n q=>?_⟩;cases d with
 | tup ds=>
  simp only[Dv.minTD] at q;cases hi:Dv.intsOf ds with
  | none=>rw[hi] at q;exact Zf q
  | some ns=>
   rw[hi] at q;cases ns with
   | nil=>exact Zf q
   | cons m ns=>
    unfold Rp at rx;obtain⟨l,vs,rfl,h1,h2⟩:=rx;have e1:=RpL.ints hi h2;subst e1;refine⟨l,m::ns,rfl,Rd.same e.vh h1,by simp,λ M hM hle=>?_⟩;obtain⟨k1,k2⟩:=iI ns m;have:M=Dv.minI m ns:=Int.le_antisymm (hle _ k1) (k2 _ hM);rw[this];exact Ok.at (d:=.int (Dv.minI m ns)) (fr:=true) q e b9 rfl
 | _=>exact Zf q
theorem p8 {p:Pos}(hm:C.X.mg "min"=none)(hg:Gl C.X "min")(ha:SE C a f)(he:autoParam (starEach [a] C.X.env=[(false,eval a C.X.env)]) ZE._auto_1)(hcl:autoParam (C.X.calm=true) ZE._auto_1):SE C (.Call (.Name "min" p) [a] [] pos) (Dv.eB1 Dv.minTD f):=
 oS (pU hcl) hg hm (by decide +kernel) ha (by decide) (by decide) he
theorem bJ (c:Int):∀ (n:Nat) (lo:Int),(Dv.stepL lo c n).length=n
 | 0,_=>rfl
 | n+1,lo=>by rw[Dv.stepL,uX,bJ]
theorem gE (c:Int):∀ (n:Nat) (lo:Int) (us:List Value),us.length=n->(∀ (i:Nat) (v:Value),us[i]?=some v->∃ t,v=zA (lo+(i:Int)*c) t)->Vals ((Dv.stepL lo c n).map V.int) us
 | 0,lo,us,hl,_=>by
  rw[List.length_eq_zero_iff.mp hl];exact .nil
 | n+1,lo,us,hl,hv=>by
  cases us with
  | nil=>simp at hl
  | cons u us=>
   rw[Dv.stepL,uS];refine .cons ?_ (gE c n (lo+c) us (by simpa using hl) λ i v hi=>?_)
   ·obtain⟨t,e⟩:=hv 0 u rfl
    exact⟨t,by simpa using e⟩
   ·obtain⟨t,e⟩:=hv (i+1) v (by simpa using hi)
    refine⟨t,e.trans ?_⟩;congr 1;rw[wz,yx,yy];omega
theorem step_size {i j c:Int}(hc:0<c):zL i j c=(((j-i+c-1)/c).toNat:Nat):=by
 unfold zL;rw[if_pos hc];by_cases h:i<j
 ·rw[if_pos h]
  have e:(j-i+c-1)/c=(j-i-1)/c+1:=by
   rw[show j-i+c-1=(j-i-1)+c*1 by omega,xE _ _ ⋯]
  have:0<=(j-i-1)/c:=Int.ediv_nonneg ⋯ ⋯;rw[e];omega
 ·rw[if_neg h]
  have:(j-i+c-1)/c<=0:=by
   have h1:(j-i+c-1)/c<1:=wO hc ⋯;omega
  omega
theorem mV {i j c:Int}(i0:-1000000<=i)(i1:i<=1000000)(j0:-1000000<=j)(j1:j<=1000000)(c0:0<c)(c1:c<=1000000):BV i j c=true:=by
 have hz:=step_size (i:=i) (j:=j) c0;have h1:((j-i+c-1)/c).toNat<=4000000:=by
  have h1:(j-i+c-1)/c<=4000000:=by
   refine xI (wO c0 ?_);have:4000001*1<=(4000001:Int)*c:=vy ⋯ ⋯;omega
  omega
 have hc':(c > 0)=True:=eq_true c0;unfold BV;rw[hz];simp only[Builtin.Range.rangeFitsLong,vi,yc,decide_eq_true_eq,beq_iff_eq,hc',if_true];omega
theorem gj {X:Cx}{t t2 t3:TE}{p p2 pos2:Pos}(hcl:X.calm=true)(hm:X.mg "list"=none)(hg:Gl X "list")(hm2:X.mg "range"=none)(hg2:Gl X "range")(ha:PE X a t)(hb:PE X b t2)(hcc:PE X c t3)
  (he:starEach [.Call (.Name "range" p2) [a,b,c] [] pos2] X.env=[(false,eval (.Call (.Name "range" p2) [a,b,c] [] pos2) X.env)]) (he2:starEach [a,b,c] X.env=(false,eval a X.env)::starEach [b,c] X.env) (he3:starEach [b,c] X.env=[(false,eval b X.env),(false,eval c X.env)]):
  PE X (.Call (.Name "list" p) [.Call (.Name "range" p2) [a,b,c] [] pos2] [] pos) (λ σ H Q=>t σ H λ x H1=>t2 σ H1 λ y H2=>t3 σ H2 λ z H3=>∃ i j k:Int,x=.int i/\y=.int j/\z=.int k/\-1000000<=i/\i<=1000000/\-1000000<=j/\j<=1000000/\0<k/\k<=1000000/\∀ l,H3 l=none->Q (.ref l) (upd H3 l (.lst ((Dv.stepL i k ((j-i+k-1)/k).toNat).map V.int)))):=by
 intro pins s σ H Q I h;refine zb (bE I hg hm (u:=.type "list") (by decide +kernel) ?_ (by decide) (by decide));refine yS ?_ he rfl
 rw[he];show wpAny _ _ (spliced ((false,eval (.Call (.Name "range" p2) [a,b,c] [] pos2) X.env)::backTo pos [])) _ _ s
 refine yW ?_
 refine zb (bE I hg2 hm2 BN ?_ (by decide) (by decide));refine yS ?_ (by rw[he2,he3]) (by rw[he3];rfl)
 rw[he2,he3];show wpAny _ _ (spliced ((false,eval a X.env)::(false,eval b X.env)::(false,eval c X.env)::backTo pos2 [])) _ _ s
 refine yW (thn (ha pins s σ H _ I h) λ u s1 ⟨x,H1,I1,r1,q1⟩=>?_);refine yW (thn (hb pins s1 σ H1 _ I1 q1) λ u2 s2 ⟨y,H2,I2,r2,q2⟩=>?_);refine yW (thn (hcc pins s2 σ H2 _ I2 q2) λ u3 s3 ⟨z,H3,I3,r3,i,j,k,e1,e2,e3,i0,i1,j0,j1,k0,k1,go⟩=>?_);subst e1 e2 e3;obtain⟨t,rfl⟩:=r1;obtain⟨t',rfl⟩:=r2;obtain⟨t'',rfl⟩:=r3;refine zm ?_
 refine call_range_3 ⋯ ?_ (Or.inl (PyProof.noPylong_small ⋯))
 refine zm ?_
 have hd:((j-i+k-1)/k).toNat<=4000000:=by
  have h1:(j-i+k-1)/k<=4000000:=by
   refine xI (wO k0 ?_);have:4000001*1<=(4000001:Int)*k:=vy ⋯ ⋯;omega
  omega
 refine BD (I3.ok.hd hcl) (Cj ..) (mV i0 i1 j0 j1 k0 k1) (step_size k0) ⋯ λ h' tk acc' c' hk hS hacc=>?_
 have hk2:∀ b u,s3.heap.get? b=some u->h'.get? b=some u:=λ b u q=>hk b u (yE _ q)
 have hle:s3.heap.objs.size<=(s3.heap.push { cls:=.type "range",data:=.fields #[.int i t,.int j t',.int k t''] }).objs.size:=by rw[zS];omega
 refine⟨.ref _,_,I3.laid (t':=tk) (o:=.lst ((Dv.stepL i k ((j-i+k-1)/k).toNat).map V.int)) hk2 hle ?_,rfl,go _ (I3.hok.fresh hle)⟩;refine⟨?_,acc'.toList,c',gE k _ i _ (by rw[yI];exact hacc.1) (λ n v hi=>?_),by simpa using hS⟩
 ·rw[uR,bJ,yZ];omega
 ·exact hacc.2 n v (by rw[<- zc];exact hi)
theorem gm {p p2 pos2:Pos}(hm:C.X.mg "list"=none)(hg:Gl C.X "list")(hm2:C.X.mg "range"=none)(hg2:Gl C.X "range")(ha:SE C a f)(hb:SE C b g)(hcc:SE C c h)
  (he:autoParam (starEach [.Call (.Name "range" p2) [a,b,c] [] pos2] C.X.env=[(false,eval (.Call (.Name "range" p2) [a,b,c] [] pos2) C.X.env)]) ZE._auto_1) (he2:autoParam (starEach [a,b,c] C.X.env=(false,eval a C.X.env)::starEach [b,c] C.X.env) ZE._auto_1) (he3:autoParam (starEach [b,c] C.X.env=[(false,eval b C.X.env),(false,eval c C.X.env)]) ZE._auto_1) (hcl:autoParam (C.X.calm=true) ZE._auto_1):
  SE C (.Call (.Name "list" p) [.Call (.Name "range" p2) [a,b,c] [] pos2] [] pos) (Dv.eB3 Dv.listRange3D f g h):=by
 obtain⟨t,pa,qa⟩:=ha;obtain⟨t2,pb,qb⟩:=hb;obtain⟨t3,pc,qc⟩:=hcc;refine⟨_,gj hcl hm hg hm2 hg2 pa pb pc he he2 he3,λ σ H Hv ρ Q e s w=>?_⟩;refine qa.step e (.refl s) w λ v d fr Hv1 H1 _ x1 _ rx n1 q=>?_
 refine qb.step e x1 q λ v2 d2 fr2 Hv2 H2 _ x2 y2 ry n2 q2=>?_
 refine qc.step e x2 q2 λ v3 d3 fr3 Hv3 H3 _ x3 y3 rz n3 q3=>?_
 cases d with
 | int i=>
  cases d2 with
  | int j=>
   cases d3 with
   | int k=>
    simp only[Dv.listRange3D] at q3;have rx':=rx.scal (K':=[]) (H':=Hv) rfl;have ry':=ry.scal (K':=[]) (H':=Hv) rfl;unfold Rp at rx' ry' rz;subst rx' ry' rz;by_cases hj:(Dv.rngOk i&&Dv.rngOk j&&Dv.rngOk k&&decide (0<k))=true
    ·simp only[hj,if_true] at q3
     have h2:=hj;simp only[vi,decide_eq_true_eq,Dv.rngOk] at h2;exact⟨i,j,k,rfl,rfl,rfl,h2.1.1.1.1,h2.1.1.1.2,h2.1.1.2.1,h2.1.1.2.2,h2.2,h2.1.2.2,λ p hp=>Ok.newL q3 x3 (RpL.ofInts _) (λ _=>RpL.ofInts _) p hp⟩
    ·simp only[hj] at q3
     exact Zf q3
   | _=>exact Zf q3
  | _=>exact Zf q3
 | _=>exact Zf q3
theorem kU {i:Nat}{x:Str}{apos cpos:Pos}{px:Pos}(he:SE C e f)(hN:autoParam (C.X.N[i]?=some x) ZE._auto_1)(hv:autoParam (Vis C.X.env.scope x) ZF._auto_1)
    (hd:autoParam ((x == ("__debug__":Str))=false) ZC._auto_1) (hcd:autoParam ((x == ("__classdict__":Str))=false) ZC._auto_1) (hst:autoParam (starEach [e] C.X.env=[(false,eval e C.X.env)]) ZE._auto_1)
    (hbase:autoParam (attributeBase (.Name x px) "extend" C.X.env (eval (.Name x px) C.X.env)=eval (.Name x px) C.X.env) ZE._auto_1)
    (hfew:autoParam (((backTo cpos (starEach [e] C.X.env)).all (λ x=>!x.1)&&(backToKw cpos (keywordEach [] C.X.env)).all (λ x=>x.1.isSome)
      && decide ([e].length+([]:List Keyword).length+(if ([]:List Keyword).isEmpty then 0 else 1)<30))=true) ZE._auto_1)
    (hline:autoParam ((apos.endLine == cpos.line)=true) ZE._auto_1)
    (hs:autoParam (swapsWith (.Call (.Attribute (.Name x px) "extend" apos) [e] [] cpos) none pos.line C.X.env=pure false) ZE._auto_1):
    SSt C (.Expr (.Call (.Attribute (.Name x px) "extend" apos) [e] [] cpos) pos) (Dv.sExtF i f):=by
  obtain⟨t,p,q⟩:=he;refine⟨_,eM (oQ Ak PySem.F.slot_list_extend PySem.F.type_list_extend l9 (dZ hN hv hd hcd) (aI p bj hst) hbase hfew hline hst rfl) hs,λ Hv₀ H₀ E σ H st ⟨Hc,O,r⟩ w=>?_⟩;unfold Dv.sExtF at w;cases hi:st[i]? with
  | none=>simp only[hi] at w;exact Zf w
  | some s=>
    simp only[hi] at w;cases s with
    | ow d0=>
     cases d0 with
     | lst ds=>
      obtain⟨a,vs,h1,h2,h5⟩:=r.own hi;refine⟨_,h1,.inl ⟨rfl,vs,SqL.of h2⟩,?_⟩;refine q.all r (λ c hf H' r'=>?_) (λ hf=>?_) λ d fr v Hv' H' hf x r' rp n=>?_
      · simp only[hf] at w;exact w σ H' ⟨Hc,O,r'⟩
      · simp only[hf] at w;exact w
      · cases d with
        | lst es=>
          simp only[hf] at w;cases fr with
          | false=>exact Zf w
          | true=>
            by_cases z:decide (ds.length+es.length<=Dv.mx)=true
            · simp only[z,if_true] at w
              rw[decide_eq_true_eq] at z;obtain⟨b,zs,rfl,hb,_,rl⟩:=pX x (n rfl);have hn:∀ b o,Hnew H H' b=some o->Hc b=none:=λ b o h=>r.ch.free (b7 h)
              have y:Ext Hc H (bH Hc (Hnew H H')) H':=by
                refine⟨x.hh,cc,λ b o h=>?_,λ b o h nn=>?_,λ b h=>?_,x.nf⟩
                · rcases bq h with h|⟨_,h⟩
                  · exact x.hh _ _ (r.ch b o h)
                  · exact Hnew.sub b o h
                · rcases bq h with h|⟨_,h⟩
                  · rw[nn] at h;cases h
                  · exact b7 h
                · unfold bH Hnew
                  rw[r.ch.free h,h]
              have r1:=r.growC y;obtain⟨O',r2⟩:=r1.put hi h1 ((h5.same cc).append (RpL.frag (rl.same (eS hn))));refine⟨a,b,vs,zs,rfl,rfl,x.hh _ _ h2,hb,?_,w σ _ ⟨_,O',r2⟩⟩;have e1:=h5.length;have e2:=rl.length;have:=ck z;omega
            · simp only[z] at w
              exact Zf w
        | _=>simp only[hf] at w;exact Zf w
     | _=>exact Zf w
    | _=>exact Zf w
end
def RawD (h:Heap)(d:Addr)(es:Array DictEntry)(ep:Nat):Prop:=∃ o,h.get? d=some o/\o.ExactDict/\o.data=.dict es ep
theorem RawD.ty {s:Shared}{d:Addr}{es:Array DictEntry}{ep:Nat}(x:RawD s.heap d es ep):s.TypeIs (.ref d) "dict":=let ⟨o,ho,hc,_⟩:=x;⟨o,ho,hc.1⟩
theorem RawD.at {h h':Heap}{d:Addr}{es:Array DictEntry}{ep:Nat}(x:RawD h d es ep)(e:∀ o,h.get? d=some o->h'.get? d=some o):RawD h' d es ep:=let ⟨o,ho,r⟩:=x;⟨o,e _ ho,r⟩
section
variable {prog:Program}{w:World}{A:Around}{E:Value->Shared->Prop}{s:Shared}{d:Addr}{es:Array DictEntry}{ep:Nat}
theorem qr {Q:Value->Shared->Prop}(hd:(d == sysModules)=false)(x:RawD s.heap d es ep)(hz:es.size<=sizeLine)(h:∀ t s',s'={ s with toks:=s.toks+1+1 }->Q (.int es.size t) s'):wpAny (model prog w) A (call (.builtin "len") [.ref d]) Q E s:=by
 refine PyProof.Rows.call_len_slot (n:=(es.size:Int)) x.ty BL (λ Q' hq=>?_) ⋯ (by rw[yZ] at hz;omega) (h _ _ rfl);refine Bf BL x.ty PySem.F.entry_dict_len (PySem.F.args_dict_len_1 _) (S:=λ _ R s=>(∃ es ep,RawD s.heap d es ep/\R (.ok (.ret (.int es.size s.toks))) { s with toks:=s.toks+1 })) (.of_wp λ A R s ⟨es,ep,⟨o,ho,hc,hdat⟩,h⟩=>?_) ⟨es,ep,x,hq⟩;show wpAny _ _ (dictSize d >>= _) _ _ s
 unfold dictSize;refine yB (yB (Am ho hdat (yD ?_)));show wpAny _ _ (Builtin.Dict.pendingCount d >>= _) _ _ s
 refine yB (wpAny_pendingCount_other hd (wpAny_ret_mkInt ?_));rw[Nat.add_zero];exact h
theorem jR {Q:Value->Shared->Prop}(hd:(d == sysModules)=false)(x:RawD s.heap d es ep)(h:Q (.ref s.heap.objs.size) { s with heap:=s.heap.push { cls:=.type "dict_values",data:=.fields #[.ref d] } }):
  wpAny (model prog w) A (call (.builtin "dict.values") [.ref d]) Q E s:=by
 refine Bf Bn x.ty PySem.F.entry_dict_values (PySem.F.args_dict_values_1 _) (S:=λ _ R s=>((∃ es ep,RawD s.heap d es ep)/\R (.ok (.ret (.ref s.heap.objs.size))) { s with heap:=s.heap.push { cls:=.type "dict_values",data:=.fields #[.ref d] } })) (.of_wp λ A R s ⟨⟨es,ep,x⟩,h⟩=>?_) ⟨⟨es,ep,x⟩,h⟩;refine yB ?_
 unfold Builtin.Dict.noArgs;refine yB (wpAny_notOrdered_dict x.ty ?_);show wpAny _ _ (pure d) _ _ s
 refine yD ?_
 show wpAny _ _ (BM d >>= _) _ _ s
 unfold BM;rw[if_neg (by rw[hd];decide)];exact yB (yD (yB (zl (yD ⟨_,rfl,h⟩))))
theorem oZ {v:Addr}{Q:Value->Shared->Prop}(hv:s.heap.IsValuesView v d)(x:RawD s.heap d es ep)
  (hQ:Q (.ref s.heap.objs.size) { s with heap:=s.heap.push { cls:=.type "dict_valueiterator",data:=.fields #[.ref d,.int 0 0,.int es.size 0,.int ep 0] } }):wpAny (model prog w) A (pyIter (.ref v)) Q E s:=by
 obtain⟨ov,hov,hcv,hdv⟩:=id hv;obtain⟨o,ho,hc,hdat⟩:=id x;refine Bb hv.typeIs AQ (ze AQ hv.typeIs PySem.F.entry_dict_values_iter ?_ (PySem.F.args_dict_values_iter_1 _));unfold Builtin.«dict_values.__iter__»;refine yB (yD (yB ?_));unfold CN;refine yB (wpAny_field hov hdv (x:=.ref d) rfl (yD (yB ?_)));unfold CD;refine yB (Am ho hdat (yB (Bx ho hdat ?_)));have hown:zT "dict_valueiterator"=false:=by decide
 simp only[hown,u4,if_false];refine zl (yD ⟨_,rfl,"dict_valueiterator",_,⟨_,yL _ rfl,rfl⟩,PySem.F.slot_dict_valueiterator_next.lookup,?_⟩);simpa[rawInt] using hQ
theorem nu {it:Addr}{i:Nat}{e:DictEntry}{Q:Option Value->Shared->Prop}(hit:s.heap.IsValIter it d i es.size ep)(x:RawD s.heap d es ep)(hx:es[i]?=some e)
  (hQ:∀ h',h'.IsValIter it d (i+1) es.size ep->zQ it s.heap h'->Q (some e.val) { s with heap:=h' }):wpAny (model prog w) A (pyNext (.ref it)) Q E s:=by
 obtain⟨o,ho,hc,hd⟩:=id hit;obtain⟨od,hod,hcd,hdd⟩:=id x;unfold pyNext;refine yB (Aw (zN (name:=y7 "__next__") hit.typeIs zp (ze zp hit.typeIs Af ?_ (Ac _))));refine yB (yD (yB (yB (yB (zB hit.typeIs (yD (yB (AW ho hd ?_))))))));have hown:zT "dict_valueiterator"=false:=by decide
 simp only[hown,u4,if_false];have hn0:¬ ((yQ d == yK)=true):=vq;show wpAny _ _ (if (yQ d == yK)=true then _ else _) _ _ s
 rw[if_neg hn0];refine yB (yD (yB (Am hod hdd ?_)));rw[if_neg (by simp)];refine yB (yD (yB (Bx hod hdd ?_)));rw[if_neg (by simp)];refine yD ?_
 have n0:¬ ((i:Int)<0):=⋯
 simp only[n0,if_false,wK,hx];refine yB (yB (zB hit.typeIs (yD (yB (AF hit.typeIs ?_)))));show wpAny _ _ (setField (.ref it) 1 (rawInt ((i:Int)+1)) >>= _) _ _ s
 refine yB (BK ho hd (by simp) ?_);have hit':(s.heap.update it (Obj.mapFields (·.setIfInBounds 1 (rawInt ((i:Int)+1))))).IsValIter it d (i+1) es.size ep:=
  ⟨_,zw _ ho (Obj.isFreed_of_fields (Cg hd _)),(Obj.cls_mapFields ..).trans hc,by rw[Cg hd];simp[rawInt]⟩
 refine yB (y0 (yB ?_));refine AF (s:={ s with heap:=_ }) hit'.typeIs (yB ?_);refine AF (s:={ s with heap:=_ }) hit'.typeIs ?_
 show wpAny _ _ (pure e.val) _ _ _
 exact yD (yD ⟨_,rfl,yD (hQ _ hit' (AS ..))⟩)
theorem pL {it:Addr}{Q:Option Value->Shared->Prop}(hh:A.handled=none)(hit:s.heap.IsValIter it d es.size es.size ep)(x:RawD s.heap d es ep)(hQ:∀ h',Co it s.heap h'->Q none { s with heap:=h' }):wpAny (model prog w) A (pyNext (.ref it)) Q E s:=by
 obtain⟨o,ho,hc,hd⟩:=id hit;obtain⟨od,hod,hcd,hdd⟩:=id x;unfold pyNext;refine yB (Aw (zN (name:=y7 "__next__") hit.typeIs zp (ze zp hit.typeIs Af ?_ (Ac _))));refine yB (yD (yB (yB (yB (zB hit.typeIs (yD (yB (AW ho hd ?_))))))));have hown:zT "dict_valueiterator"=false:=by decide
 simp only[hown,u4,if_false];have hn0:¬ ((yQ d == yK)=true):=vq;show wpAny _ _ (if (yQ d == yK)=true then _ else _) _ _ s
 rw[if_neg hn0];refine yB (yD (yB (Am hod hdd ?_)));rw[if_neg (by simp)];refine yB (yD (yB (Bx hod hdd ?_)));rw[if_neg (by simp)];refine yD ?_
 have n0:¬ ((es.size:Int)<0):=⋯
 simp only[n0,if_false,wK,zk (u5 _)];refine yB (yB (zB hit.typeIs (yD ?_)));show wpAny _ _ (setField (.ref it) 0 .none >>= _) _ _ s
 refine yB (BK ho hd (by simp) ?_);show wpAny _ _ (newExc (.type "StopIteration") [] >>= _) _ _ _
 refine yB ?_
 simp only[newExc,newTuple];refine yB (zl ?_ (by size_fits));refine yB (m:=firstArgMember _ _) (Cq (a:=yK) (by first|rfl|(simp only[firstArgMember];rfl)) ?_);refine zl ?_ (by size_fits)
 simp only[raiseNew];have h0:A.in1.handled=none:=hh;refine yB (wpAny_handled ?_);rw[h0];refine yB (yD (wpAny_throw ?_));refine yB (Az (T:="StopIteration") (b:=true) ⟨_,yL _ rfl,rfl⟩ isSubtype_stop ?_);exact yD (hQ _ (((AS ..).extBut.push _).push _))
theorem nF (hh:A.handled=none)(I d:Addr)(hne:d≠I)(es:Array DictEntry)(ep:Nat):
  Walks prog w A I [I,d] [I] es.size (λ i v=>∃ e,es[i]?=some e/\v=e.val) (λ i h=>h.IsValIter I d i es.size ep/\RawD h d es ep) where
 sub:=λ b hb=>by simp at hb;simp[hb]
 frame:=λ _ _ _ st hk=>⟨st.1.at λ o e=>hk I (by simp) o e,st.2.at λ o e=>hk d (by simp) o e⟩
 item:=λ i s Q E hi st hQ=>nu st.1 st.2 (e:=es[i]) (by simp[hi]) λ h' hit' hs'=>
  hQ _ h' s.toks ⟨es[i],by simp[hi],rfl⟩ ⟨hit',st.2.at λ o e=>hs'.extBut d o hne e⟩ λ b o hb e=>hs'.extBut b o (λ h=>hb (by simp[h])) e
 done:=λ s Q E st hQ=>pL hh st.1 st.2 λ h' he'=>hQ h' s.toks λ b o hb e=>he' b o (λ h=>hb (by simp[h])) e
 self:=λ _ _ _ _ st hQ=>wpAny_pyIter_valiter st.1 hQ
theorem mj {v:Addr}{Q:Bool->Shared->Prop}(hT:s.TypeIs (.ref v) "dict_values")(h:Q false s):wpAny (model prog w) A (zD (.ref v)) Q E s:=by
 unfold zD;refine yB (AL hT PySem.F.slot_dict_values_len.lookup ?_);generalize hid:("dict_values.__len__":String)=id0
 wp_delta
 rw[show splitId id0=some ("dict_values","__len__") from by subst hid;decide +kernel];subst hid;refine yB (Az (T:="dict_values") (b:=true) hT (by rw[AV];kernel_rfl) ?_);refine Ae (λ hab=>absurd hab (by decide)) (λ _=>?_);refine Ae (λ _=>?_) (λ hab=>absurd (by decide +kernel) hab);exact yB (Bl hT (yD h))
theorem lK {v:Addr}{Q:Value->Shared->Prop}(hh:A.handled=none)(hv:s.heap.IsValuesView v d)(x:RawD s.heap d es ep)(hz:es.size<=100000)
  (hQ:∀ h' tk acc' c',(∀ b o,s.heap.get? b=some o->h'.get? b=some o)->h'.get? s.heap.objs.size=some { cls:=.type "list",dict:=none,data:=.seq acc' c',slots:=#[] }->acc'.toList=es.toList.map (·.val)->Q (.ref s.heap.objs.size) { s with heap:=h',toks:=tk }):
  wpAny (model prog w) A (call (.type "list") [.ref v]) Q E s:=by
 have hvl:v<s.heap.objs.size:=let ⟨o,ho,_⟩:=hv;yG ho
 have hdl:d<s.heap.objs.size:=let ⟨o,ho,_⟩:=x;yG ho
 refine callType_codes (Q₁:=λ obj s₁=>obj=.ref s.heap.objs.size/\s₁={ s with heap:=s.heap.push { cls:=.type "list",data:=.seq #[] } }) PySem.F.called_list (PySem.F.typeCall_list_1 _) PySem.F.entry_list_init
  (code_list_new _ ⟨rfl,rfl⟩) λ obj s₁ h₁=>?_
 obtain⟨rfl,rfl⟩:=h₁
 let S:=s.heap.objs.size
 have hS:(s.heap.push { cls:=.type "list",data:=.seq #[] }).get? S=some { cls:=.type "list",data:=.seq #[] }:=yL _ rfl;refine⟨⟨_,hS,rfl⟩,PySem.F.args_list_init_2 _ _,?_⟩;show wpAny _ _ (do let old <- BC (.ref S);Builtin.List.listUpdate (.ref S) (λ _=>#[]);letGo old.toList.reverse;zV (.ref S) (.ref v) .none) _ _ _
 refine yB ?_
 unfold BC;refine yB (wpAny_seqItems hS rfl (yD ?_));show wpAny _ _ (updateSeq S (λ _=>#[]) >>= λ _=>letGo (#[]:Array Value).toList.reverse >>= λ _=>zV (.ref S) (.ref v) .none) _ _ _
 refine yB (By hS rfl (yB (wpAny_letGo ?_)));have hS2:=zw (yP (λ _=>(#[]:Array Value))) hS rfl;have up:∀ b o,s.heap.get? b=some o->((s.heap.push { cls:=.type "list",data:=.seq #[] }).update S (yP (λ _=>(#[]:Array Value)))).get? b=some o:=λ b o e=>
  (yR _ _ (λ z:S=b=>vI _ (show b<b by have:=yG e;rw[<- z] at this ⊢;exact this))).trans (yE _ e)
 generalize hh2:((s.heap.push { cls:=.type "list",data:=.seq #[] }).update S (yP (λ _=>(#[]:Array Value))))=h2 at hS2 up;have hv2:h2.IsValuesView v d:=let ⟨o,ho,r⟩:=hv;⟨o,up _ _ ho,r⟩
 have x2:RawD h2 d es ep:=x.at λ o e=>up _ _ e
 have hSl:S<h2.objs.size:=yG hS2;have hdl2:d<h2.objs.size:=let ⟨o,ho,_⟩:=x2;yG ho
 let I:=h2.objs.size
 have hSI:S≠I:=u9 hSl;have hSf:S∉[I,d]:=λ hm=>by
  rcases List.mem_cons.mp hm with e|hm
  ·exact hSI e
  ·have e:=List.mem_singleton.mp hm;exact u9 hdl e.symm
 have W:=(nF (prog:=prog) (w:=w) (A:=A.in1.in1) hh I d (u9 hdl2) es ep).toS;have key:∀ (h:Heap) (c₁ tk:Nat),h.IsValIter I d 0 es.size ep->RawD h d es ep->(∀ b o,b≠S->h2.get? b=some o->h.get? b=some o)->h.get? S=some { cls:=.type "list",data:=.seq #[] c₁ } ->
   codeAny (model prog w) A.in1 (.builtin "list.extend.loop" ⟨[.ref S,.ref I,.none],[]⟩) (wants (λ r s₂=>r=yK/\Q (.ref S) s₂) E) { s with heap:=h,toks:=tk }:=by
  intro h c₁ tk hit hx hk hS₁;refine codeAny_extend_loopS W (by rw[yZ];omega) S hSf .none es.size 0 { s with heap:=h,toks:=tk } #[] c₁ rfl (vK _) ⟨hit,hx⟩ hS₁ (ItemsOf.nil _) λ s' acc' c' hm hS' hacc=>?_
  rw[Moved.eq_with hm];refine⟨rfl,hQ s'.heap s'.toks acc' c' (λ b o e=>hm.heap b o (λ hmem=>?_) (hk b o (λ z=>by rw[z] at e;exact vI _ (yG e)) (up b o e))) hS' ?_⟩
  ·rcases List.mem_cons.mp hmem with e' | hmem
   ·rw[e'] at e;exact vI _ (yG e)
   ·rw[List.mem_singleton.mp hmem] at e
    have:=yG e;have h3:S<I:=hSl;exact vI _ (wW this h3)
  ·refine w9 λ i=>?_
   by_cases hi:i<es.size
   ·have hi2:i<acc'.size:=by rw[hacc.1];exact hi
    obtain⟨e,e1,e2⟩:=hacc.2 i acc'[i] (by simp[hi2]);have e3:es[i]=e:=by simpa[hi] using e1
    simp[hi,hi2,e2,e3]
   ·rw[wm (by rw[yI,hacc.1];omega),wm (by simp;omega)]
 unfold zV;refine yB (Bl (T:="dict_values") hv2.typeIs ?_);have h1:Bo (.ref S) (.ref v)=false:=by simp[Bo];exact λ z=>u9 hvl z.symm
 have h2':(zr "dict_values" == zr "list")=false:=by decide
 have h3:(zr "dict_values" == zr "tuple")=false:=by decide
 simp only[h1,h2',h3,yn,u4,if_false];refine yB (oZ hv2 x2 ?_);have hv3:(h2.push { cls:=.type "dict_valueiterator",data:=.fields #[.ref d,.int 0 0,.int es.size 0,.int ep 0] }).IsValuesView v d:=let ⟨o,ho,r⟩:=hv2;⟨o,yE _ ho,r⟩
 refine yB (y0 (mj hv3.typeIs ?_));have hit₁:(h2.push { cls:=.type "dict_valueiterator",data:=.fields #[.ref d,.int 0 0,.int es.size 0,.int ep 0] }).IsValIter I d 0 es.size ep:=⟨_,yL _ rfl,rfl,rfl⟩;have x3:RawD (h2.push { cls:=.type "dict_valueiterator",data:=.fields #[.ref d,.int 0 0,.int es.size 0,.int ep 0] }) d es ep:=x2.at λ o e=>yE _ e
 have hS₁:=yE { cls:=.type "dict_valueiterator",data:=.fields #[.ref d,.int 0 0,.int es.size 0,.int ep 0] } hS2;have ext4:∀ b o,b≠S->h2.get? b=some o->(h2.push { cls:=.type "dict_valueiterator",data:=.fields #[.ref d,.int 0 0,.int es.size 0,.int ep 0] }).get? b=some o:=λ b o _ e=>yE _ e
 refine Ae (λ _=>?_) (λ _=>yD ⟨Av Be _,key _ _ _ hit₁ x3 ext4 hS₁⟩);refine yB (zW (yB ?_));show wpAny _ _ (updateSeq S (·.push .none) >>= λ _=>updateSeq S (·.pop)) _ _ _
 refine yB (By hS₁ rfl ?_);have hS₂:=zw (yP (·.push yK)) hS₁ rfl;refine By (hz:=by seq_fits) hS₂ rfl ?_
 have hS₃:=zw (yP (·.pop)) hS₂ rfl;have oth:∀ b o,b≠S->(h2.push { cls:=.type "dict_valueiterator",data:=.fields #[.ref d,.int 0 0,.int es.size 0,.int ep 0] }).get? b=some o->_:=λ b o hb e=>(yR _ (yP (·.pop)) (Ne.symm hb)).trans ((yR _ (yP (·.push yK)) (Ne.symm hb)).trans e)
 refine yD ⟨Av Be _,key _ _ _ (hit₁.at λ o e=>oth _ o (Ne.symm hSI) e) (x3.at λ o e=>oth _ o (u9 hdl) e) (λ b o hb e=>oth b o hb (ext4 b o hb e)) hS₃⟩
end
end Sd
namespace Dv
abbrev Pr:=Int×Int
def aK (l:List (Pr×Int))(q:Pr):List (Pr×Int):=match l.find? (λ e=>decide (e.1=q)) with
 | some e=>l.map λ e'=>if e'.1=q then (e'.1,e.2+1) else e'
 | none=>l++[(q,1)]
def br (fs:List Pr):List (Pr×Int):=fs.foldl aK []
theorem nU (l:List (Pr×Int))(q:Pr):(aK l q).length<=l.length+1:=by
 unfold aK;split
 ·rw[uR];omega
 ·rw[vd];simp
theorem pV (l:List (Pr×Int))(q:Pr):aK l q≠[]:=by
 unfold aK;split
 ·rename_i e h
  intro z;rw[List.map_eq_nil_iff] at z;subst z;simp at h
 ·simp
theorem o8 {l:List (Pr×Int)}{q:Pr}(h:∀ e∈l,1<=e.2):∀ e∈aK l q,1<=e.2:=by
 unfold aK;split
 ·rename_i e0 h0
  have h1:=h _ (vV h0);intro e he;obtain⟨e',he',rfl⟩:=List.mem_map.mp he
  split
  ·show 1<=e0.2+1;omega
  ·exact h e' he'
 ·intro e he
  rcases List.mem_append.mp he with he|he
  ·exact h e he
  ·simp at he;subst he;show (1:Int)<=1;omega
theorem mL {l:List (Pr×Int)}{q p:Pr}(h:∃ e∈l,e.1=p):∃ e∈aK l q,e.1=p:=by
 obtain⟨e,he,hp⟩:=h;unfold aK;split
 ·refine⟨_,List.mem_map.mpr ⟨e,he,rfl⟩,?_⟩
  split
  ·exact hp
  ·exact hp
 ·exact⟨e,vW _ he,hp⟩
theorem mQ (l:List (Pr×Int))(q:Pr):∃ e∈aK l q,e.1=q:=by
 unfold aK;split
 ·rename_i e0 h0
  have h1:=yf h0;have h2:e0.1=q:=by simpa using h1
  refine⟨_,List.mem_map.mpr ⟨e0,vV h0,rfl⟩,?_⟩;rw[if_pos h2];exact h2
 ·exact⟨_,vk _ (List.mem_singleton.mpr rfl),rfl⟩
theorem i8 {l:List (Pr×Int)}{q:Pr}(h:∀ e∈l,1<=e.2)(g:∃ e∈l,e.1=q):∃ e∈aK l q,2<=e.2:=by
 obtain⟨e,he,hq⟩:=g;unfold aK;split
 ·rename_i e0 h0
  have h1:=h _ (vV h0);refine⟨_,List.mem_map.mpr ⟨e,he,rfl⟩,?_⟩;rw[if_pos hq];show 2<=e0.2+1;omega
 ·rename_i h0
  rw[xR] at h0;exact absurd hq (by simpa using h0 e he)
theorem lV {l:List (Pr×Int)}{q:Pr}(h:∀ e∈l,1<=e.2)(g:∃ e∈l,2<=e.2):∃ e∈aK l q,2<=e.2:=by
 obtain⟨e,he,h2⟩:=g;by_cases hq:e.1=q
 ·exact i8 h ⟨e,he,hq⟩
 ·unfold aK;split
  ·refine⟨_,List.mem_map.mpr ⟨e,he,rfl⟩,?_⟩
   rw[if_neg hq];exact h2
  ·exact⟨e,vW _ he,h2⟩
theorem lu:∀ (fs:List Pr) (l:List (Pr×Int)),(∀ e∈l,1<=e.2)->(¬ fs.Nodup\/(∃ q∈fs,∃ e∈l,e.1=q)\/∃ e∈l,2<=e.2)->∃ e∈fs.foldl aK l,2<=e.2
 | [],l,_,h=>by
  rcases h with h|⟨q,hq,_⟩|h
  ·exact absurd (by simp) h
  ·cases hq
  ·exact h
 | q::fs,l,hl,h=>by
  rw[vb];refine lu fs _ (o8 hl) ?_
  rcases h with h|⟨p,hp,g⟩|h
  ·by_cases hq:q∈fs
   ·exact .inr (.inl ⟨q,hq,mQ l q⟩)
   ·exact .inl λ z=>h (List.nodup_cons.mpr ⟨hq,z⟩)
  ·rcases List.mem_cons.mp hp with rfl|hp
   ·exact .inr (.inr (i8 hl g))
   ·exact .inr (.inl ⟨p,hp,mL g⟩)
  ·exact .inr (.inr (lV hl h))
theorem ig:∀ (fs:List Pr) (l:List (Pr×Int)),fs.Nodup->(∀ q∈fs,∀ e∈l,e.1≠q)->fs.foldl aK l=l++fs.map λ q=>(q,1)
 | [],l,_,_=>by simp
 | q::fs,l,nd,h=>by
  rw[vT] at nd;have e:aK l q=l++[(q,1)]:=by
   unfold aK;have:l.find? (λ e=>decide (e.1=q))=none:=by
    rw[xR];intro e he;simpa using h q uY e he
   rw[this]
  rw[vb,e,ig fs _ nd.2 λ p hp e he=>?_,vD]
  ·rfl
  ·rcases List.mem_append.mp he with he|he
   ·exact h p (uU _ hp) e he
   ·simp at he;subst he;intro z;subst z;exact nd.1 hp
theorem cnt_len:∀ (fs:List Pr) (l:List (Pr×Int)),(fs.foldl aK l).length<=l.length+fs.length
 | [],l=>by simp
 | q::fs,l=>by
  rw[vb,uX];have:=cnt_len fs (aK l q);have:=nU l q;omega
theorem cnt_ne:∀ (fs:List Pr) (l:List (Pr×Int)),fs≠[]\/l≠[]->fs.foldl aK l≠[]
 | [],l,h=>by
  rcases h with h|h
  ·exact absurd rfl h
  ·exact h
 | q::fs,l,_=>by rw[vb];exact cnt_ne fs _ (.inr (pV l q))
theorem dP:∀ l:List Pr,nodupB l=decide l.Nodup
 | []=>by simp[nodupB]
 | p::l=>by
  unfold nodupB;rw[dP l,vJ];simp[vT]
theorem cnt_says {fs:List Pr}{n:Int}(hm:fs≠[]){M:Int}(hM:M∈(br fs).map (·.2))(hle:∀ a∈(br fs).map (·.2),a<=M)(hl:((br fs).length:Int)=n):decide (M=1)=(decide ((fs.length:Int)=n)&&nodupB fs):=by
 rw[dP];by_cases nd:fs.Nodup
 ·have e:br fs=fs.map λ q=>(q,1):=by
   have:=ig fs [] nd (by simp);simpa[br] using this
  rw[e,vm] at hM;obtain⟨q,_,rfl⟩:=List.mem_map.mp hM;rw[e,uR] at hl;simp[nd,hl]
 ·obtain⟨e,he,h2⟩:=lu fs [] (by simp) (.inl nd)
  have:=hle e.2 (List.mem_map.mpr ⟨e,he,rfl⟩);have h1:¬ M=1:=⋯
  simp[nd,h1]
theorem cnt_no {fs:List Pr}{n:Int}(hl:¬ ((br fs).length:Int)=n):(decide ((fs.length:Int)=n)&&nodupB fs)=false:=by
 rw[dP];by_cases nd:fs.Nodup
 ·have e:br fs=fs.map λ q=>(q,1):=by
   have:=ig fs [] nd (by simp);simpa[br] using this
  rw[e,uR] at hl;simp[hl]
 ·simp[nd]
theorem fills_inv {d0 d1 d2 d:D}{f:Bool}(h:fillsR d0 d1 d2=.ok d f):∃ a b ds es ps ss,d0=.tup [.int a,.int b]/\d1=.lst ds/\d2=.lst es/\prsOf ds=some ps/\prsOf es=some ss/\0<a/\0<b/\a*b<=1000/\0<ps.length*ss.length/\ps.length*ss.length<=1000 /\
  d=.bl (decide (((ps.length*ss.length:Nat):Int)=a*b)&&nodupB (ag a b ps ss))/\f=true:=by
 unfold fillsR at h
 split at h
 ·rename_i a b ds es
  split at h
  ·rename_i ps ss e1 e2
   split at h
   ·rename_i c
    simp only[vi,decide_eq_true_eq] at c;cases h;exact⟨a,b,ds,es,ps,ss,rfl,rfl,rfl,e1,e2,c.1.1.1.1,c.1.1.1.2,c.1.1.2,c.1.2,c.2,rfl,rfl⟩
   ·cases h
  ·cases h
 ·cases h
theorem falls_length (a b:Int)(ps:List Pr):∀ ss:List Pr,(ag a b ps ss).length=ps.length*ss.length
 | []=>by simp[ag]
 | s::ss=>by
  have ih:=falls_length a b ps ss;unfold ag at ih ⊢;rw[vR,vd,ih,uR,uX,wZ,xp]
theorem falls_snoc (a b:Int)(ps ss:List Pr)(s:Pr):ag a b ps (ss++[s])=ag a b ps ss++ps.map λ p=>((p.1+s.1)%a,(p.2+s.2)%b):=by
 unfold ag;rw[List.flatMap_append];simp
theorem cnt_snoc (fs:List Pr)(q:Pr):br (fs++[q])=aK (br fs) q:=by unfold br;rw[xW];rfl
theorem take_snoc {α:Type}{l:List α}{i:Nat}{x:α}(h:l[i]?=some x):l.take (i+1)=l.take i++[x]:=by
 rw[List.take_succ,h];rfl
end Dv
namespace Sd
open PySem PySem.Spec PyProof.Rows L2
open Dv (D R RL EE EL EI RI Sl Out SS Pr aK br ag prsOf)
def cx (q:Pr):List Key:=[Sum.inl q.1,Sum.inl q.2]
def cn (l:List (Pr×Int)):List (List Key×V):=l.map λ e=>(cx e.1,V.int e.2)
theorem jl {p q:Pr}(h:cx p=cx q):p=q:=by
 unfold cx at h;simp only[List.cons.injEq,Sum.inl.injEq,and_true] at h;exact Bp h.1 h.2
theorem dt (q:Pr):∀ l:List (Pr×Int),cZ (cn l) (cx q)=(l.find? λ e=>decide (e.1=q)).map λ e=>V.int e.2
 | []=>rfl
 | e::l=>by
  unfold cn;rw[uS];by_cases h:e.1=q
  ·rw[di (by show cx e.1=cx q;rw[h]),List.find?_cons_of_pos (by simpa using h)];rfl
  ·rw[de (λ z=>h (jl z)),List.find?_cons_of_neg (by simpa using h)]
   exact dt q l
theorem pC {l:List (Pr×Int)}{q:Pr}{n:Int}(h:(cZ (cn l) (cx q)).getD (.int 0)=.int n):putK (cn l) (cx q) (.int (n+1))=cn (aK l q):=by
 rw[dt] at h;unfold aK;cases hf:l.find? (λ e=>decide (e.1=q)) with
 | none=>
  rw[hf] at h;have hn:n=0:=by simpa using h.symm
  subst hn;rw[ox _ (by rw[dt,hf];rfl)];unfold cn;rw[wF];rfl
 | some e=>
  rw[hf] at h;have hn:e.2=n:=by simpa using h
  subst hn;have hany:((cn l).any λ kv=>decide (kv.1=cx q))=true:=by rw[dC,dt,hf];rfl
  unfold putK;rw[hany,if_pos rfl];unfold cn;rw[vm,vm];refine vt λ e' _=>?_
  show (if cx e'.1=cx q then (cx e'.1,V.int (e.2+1)) else (cx e'.1,V.int e'.2))=_
  by_cases hq:e'.1=q
  ·simp only[Ay,hq,if_true]
  ·have:¬ cx e'.1=cx q:=λ z=>hq (jl z)
   simp only[Ay,hq,this,if_false]
theorem qK {P:Program}{w:World}{H:Hp}{kvs:List (List Key×V)}{xs:List (List Key×Addr×Value)}(rel:KT H kvs xs):Vals (kvs.map (·.2)) (xs.map ((λ x=>x.val) ∘ entryOfKey (tupleKind (aJ P w)))):=by
 induction rel with
 | nil=>exact .nil
 | cons r _ ih=>exact .cons r.2.2 ih
theorem m3 {P:Program}{w:World}{H:Hp}{h:Heap}{a:Addr}{kvs:List (List Key×V)}(ok:HOk P w H h)(e:H a=some (.dT kvs)):kvs.length<=sizeLine/\(a == sysModules)=false/\∃ es ep,RawD h a es ep/\es.size=kvs.length/\Vals (kvs.map (·.2)) (es.toList.map (·.val)):=by
 obtain⟨z,hd,xs,rel,o,es,ep,ho,hc,hdat,he,_,_⟩:=qT ok e;refine⟨z,hd,es,ep,⟨o,ho,hc,hdat⟩,?_,?_⟩
 ·have h1:=congrArg List.length he
  rw[yI,uR] at h1;rw[h1];exact(AZ rel).symm
 ·rw[he,vm]
  exact qK rel
theorem lU {X:Cx}:cy X (.builtin "len") (λ xs H Q=>∃ a kvs,xs=[.ref a]/\H a=some (.dT kvs)/\Q (.int kvs.length) H):=by
 intro pins s σ H xs us Q I r h;obtain⟨a,kvs,rfl,ha,q⟩:=h;obtain⟨u,rfl,rx⟩:=vals1 r;cases rx;obtain⟨z,hd,es,ep,x,hz,_⟩:=m3 I.hok ha;refine qr hd x (by rw[hz];exact z) λ t s' e=>?_
 subst e;rw[hz];exact⟨.int _,H,I.tok _,⟨t,rfl⟩,q⟩
def tLV (to:TE):TE:=λ σ H Q=>to σ H λ x H1=>∃ a kvs,x=.ref a/\H1 a=some (.dT kvs)/\kvs.length<=100000/\∀ l,H1 l=none->Q (.ref l) (upd H1 l (.lst (kvs.map (·.2))))
theorem iR {X:Cx}{o:Expr}{to:TE}{p apos cpos pos:Pos}(hcl:X.calm=true)(hm:X.mg "list"=none)(hg:Gl X "list")(ho:PE X o to)
  (hbase:attributeBase o "values" X.env (eval o X.env)=eval o X.env) (hline:(apos.endLine == cpos.line)=true)
  (he:starEach [.Call (.Attribute o "values" apos) [] [] cpos] X.env=[(false,eval (.Call (.Attribute o "values" apos) [] [] cpos) X.env)]):
  PE X (.Call (.Name "list" p) [.Call (.Attribute o "values" apos) [] [] cpos] [] pos) (tLV to):=by
 intro pins s σ H Q I h;refine zb (bE I hg hm (u:=.type "list") (by decide +kernel) ?_ (by decide) (by decide));refine yS ?_ he rfl
 rw[he];show wpAny _ _ (spliced ((false,eval (.Call (.Attribute o "values" apos) [] [] cpos) X.env)::backTo pos [])) _ _ s
 refine yW ?_
 refine wpAny_Call_method0_late hbase hline (thn (ho pins s σ H _ I h) λ v s1 ⟨x,H1,I1,r1,a,kvs,ex,ha,hz,go⟩=>?_);subst ex;cases r1;obtain⟨z,hd,es,ep,rw_,hes,vals⟩:=m3 I1.hok ha;obtain⟨ob,hob,hoc,_⟩:=id rw_;refine⟨"dict","dict.values",Br,Bn,PySem.F.type_dict_values,rw_.ty,λ b q=>(by cases q;exact⟨ob,hob,hoc.2.1⟩),Ap rfl (PySem.evalArgs_none ?_)⟩;refine jR hd rw_ ?_
 refine zm ?_
 have k1:∀ b u,s1.heap.get? b=some u->(s1.heap.push { cls:=.type "dict_values",data:=.fields #[.ref a] }).get? b=some u:=λ b u q=>yE _ q
 have hle:s1.heap.objs.size<=(s1.heap.push { cls:=.type "dict_values",data:=.fields #[.ref a] }).objs.size:=by rw[zS];omega
 refine lK (es:=es) (ep:=ep) (d:=a) (I1.ok.hd hcl) ⟨_,yL _ rfl,rfl,rfl⟩ (rw_.at λ o e=>k1 _ _ e) ⋯ λ h' tk acc' c' hk hS hacc=>?_
 refine⟨.ref _,_,I1.laid (t':=tk) (o:=.lst (kvs.map (·.2))) (λ b u q=>hk b u (k1 b u q)) hle ?_,rfl,go _ (I1.hok.fresh hle)⟩;refine⟨by rw[uR];exact z,acc'.toList,c',by rw[hacc];exact vals,by simpa using hS⟩
theorem sd {A H H':Hp}(e:Same A H)(hh:Same H H')(nf:∀ b o u,H b=none->H' b≠some (.frz o u)):Ext A H (bH A (Hnew H H')) H':=by
 have hn:∀ b o,Hnew H H' b=some o->A b=none:=λ b o h=>e.free (b7 h)
 refine⟨hh,cc,λ b o h=>?_,λ b o h nn=>?_,λ b h=>?_,nf⟩
 ·rcases bq h with h|⟨_,h⟩
  ·exact hh _ _ (e b o h)
  ·exact Hnew.sub b o h
 ·rcases bq h with h|⟨_,h⟩
  ·rw[nn] at h;cases h
  ·exact b7 h
 ·unfold bH Hnew
  rw[e.free h,h]
theorem jP {K:yC}{H:Hp}:∀ {ds:List D} {vs:List V} {ps:List Pr},prsOf ds=some ps->RpL K H ds vs->vs.length=ps.length/\∀ (i:Nat) (p:Pr) (x:V),ps[i]?=some p->vs[i]?=some x->∃ b,x=.ref b/\Rd H b (.tup [.int p.1,.int p.2])
 | [],vs,ps,e,h=>by
  simp[Dv.prsOf] at e;subst e;unfold RpL at h;subst h;exact⟨rfl,λ i p x h=>by simp at h⟩
 | d::ds,vs,ps,e,h=>by
  unfold RpL at h;obtain⟨v,ws,rfl,h1,h2⟩:=h;unfold Dv.prsOf at e
  split at e
  ·rename_i heq;cases heq
  ·rename_i x y r heq
   cases heq;rw[we] at e;obtain⟨qs,e1,rfl⟩:=e;obtain⟨l1,l2⟩:=jP e1 h2;refine⟨by rw[uX,uX,l1],λ i p z hp hz=>?_⟩;cases i with
   | zero=>
    simp at hp hz;subst hp hz;unfold Rp at h1;obtain⟨b,us,rfl,h3,h4⟩:=h1;have:=RpL.ints (ns:=[x,y]) rfl h4;subst this;exact⟨b,rfl,h3⟩
   | succ i=>exact l2 i p z (by simpa using hp) (by simpa using hz)
  ·cases e
def gT (K:yC)(i j:Nat):TG:=sf K 2 (k6 (en i) (k6 (en j) sP))
def uq (K:yC)(tq:TE):TS:=pI (p9 tq (en 8)) (nG (fP 3) (fP 8) (tOp (rI0 λ i j=>.int (i+j)) (mH (fP 3) (fP 8) (tC (.int 0))) (tC (.int 1))))
def pK (K:yC)(tq tp:TE):TS:=pI (p9 mO (en 3)) (pI (sR (ni K (fP 2)) (gT K 4 5) (sR (ni K (fP 1)) (gT K 6 7) (uq K tq)))
 (t9 (qS (tOp rEq (tCB (λ xs H Q=>∃ a kvs,xs=[.ref a]/\H a=some (.dT kvs)/\Q (.int kvs.length) H) (n5 (fP 3) sj)) tp)
  (tOp rEq (tCB (λ xs H Q=>∃ p,∃ ns:List Int,xs=[.ref p]/\SqX K H p (ns.map V.int)/\0<ns.length/\∀ M,M∈ns->(∀ a∈ns,a<=M)->Q (.int M) H) (n5 (tLV (fP 3)) sj)) (tC (.int 1))))))
structure LpI (H0:Hp)(v0 v1 v2:V)(d:Addr)(l:List (Pr×Int))(σ:St)(H:Hp):Prop where
 len:σ.length=9
 s0:σ[0]?=some (some v0)
 s1:σ[1]?=some (some v1)
 s2:σ[2]?=some (some v2)
 s3:σ[3]?=some (some (.ref d))
 sm:Same H0 H
 dn:H0 d=none
 dd:H d=some (.dT (cn l))
 nf:∀ b o u,H0 b=none->H b≠some (.frz o u)
theorem LpI.set {H0 H:Hp}{v0 v1 v2:V}{d:Addr}{l:List (Pr×Int)}{σ:St}(h:LpI H0 v0 v1 v2 d l σ H){i:Nat}(hi:4<=i)(v:V):LpI H0 v0 v1 v2 d l (σ.set i (some v)) H:=
 ⟨by rw[vL];exact h.len,by rw[u6 ⋯];exact h.s0,by rw[u6 ⋯];exact h.s1,by rw[u6 ⋯];exact h.s2,by rw[u6 ⋯];exact h.s3,h.sm,h.dn,h.dd,h.nf⟩
def fqF:EE:=Dv.eTup (Dv.lCons (Dv.eOp .mod (Dv.eOp .add (Dv.eVar 6) (Dv.eVar 4)) (Dv.eIx (Dv.eVar 0) (Dv.eInt 0))) (Dv.lCons (Dv.eOp .mod (Dv.eOp .add (Dv.eVar 7) (Dv.eVar 5)) (Dv.eIx (Dv.eVar 0) (Dv.eInt 1))) Dv.lNil))
def fpF:EE:=Dv.eOp .mul (Dv.eIx (Dv.eVar 0) (Dv.eInt 0)) (Dv.eIx (Dv.eVar 0) (Dv.eInt 1))
theorem tH {a b:Int}(ha:0<a)(hb:0<b)(r u x y:Int):fqF [some (.tup [.int a,.int b]),none,none,none,some (.int r),some (.int u),some (.int x),some (.int y)]=.ok (.tup [.int ((x+r)%a),.int ((y+u)%b)]) true:=by
 have e1:Dv.opD .mod (.int (x+r)) (.int a)=.ok (.int ((x+r)%a)) true:=by simp[Dv.opD_ai,Dv.opD_al,Dv.opD_su,Dv.opD_mi,Dv.opD_ml,Dv.opD_mo,Dv.opD_fd,Dv.opD_po,Dv.opD_ba,Dv.opD_sh,ha]
 have e2:Dv.opD .mod (.int (y+u)) (.int b)=.ok (.int ((y+u)%b)) true:=by simp[Dv.opD_ai,Dv.opD_al,Dv.opD_su,Dv.opD_mi,Dv.opD_ml,Dv.opD_mo,Dv.opD_fd,Dv.opD_po,Dv.opD_ba,Dv.opD_sh,hb]
 have a1:Dv.opD .add (.int x) (.int r)=.ok (.int (x+r)) true:=rfl;have a2:Dv.opD .add (.int y) (.int u)=.ok (.int (y+u)) true:=rfl;have i1:Dv.ixD (.tup [.int a,.int b]) (.int 0) false=.ok (.int a) true:=rfl;have i2:Dv.ixD (.tup [.int a,.int b]) (.int 1) false=.ok (.int b) true:=rfl;have sc:Dv.scal (.tup [.int a,.int b])=false:=rfl;simp only[fqF,Dv.eTup,Dv.lCons,Dv.lNil,Dv.eOp,Dv.eIx,Dv.eVar,Dv.eInt,uW,uZ,Dv.R.bind,Dv.RL.bind,Dv.R.bindL,Dv.RL.bindL,sc,i1,i2,a1,a2,e1,e2,vw]
theorem t8 {a b:Int}(ha:0<a)(hb:0<b)(h:a*b<=1000):fpF [some (.tup [.int a,.int b])]=.ok (.int (a*b)) true:=by
 have q:a<=1000:=by
  have:a*1<=a*b:=vy ⋯ ⋯;omega
 have bt:Dv.bits a<=64:=by
  unfold Dv.bits;rw[if_neg ⋯];have:a.natAbs.log2<64:=(xF ⋯).mpr (w5 (show a.natAbs<=1000 by omega) (by decide));omega
 have m:Dv.mulOk a b=true:=by unfold Dv.mulOk;rw[decide_eq_true bt];rfl
 have e1:Dv.opD .mul (.int a) (.int b)=.ok (.int (a*b)) true:=by simp[Dv.opD_ai,Dv.opD_al,Dv.opD_su,Dv.opD_mi,Dv.opD_ml,Dv.opD_mo,Dv.opD_fd,Dv.opD_po,Dv.opD_ba,Dv.opD_sh,m]
 have i1:Dv.ixD (.tup [.int a,.int b]) (.int 0) false=.ok (.int a) true:=rfl;have i2:Dv.ixD (.tup [.int a,.int b]) (.int 1) false=.ok (.int b) true:=rfl;have sc:Dv.scal (.tup [.int a,.int b])=false:=rfl;simp only[fpF,Dv.eOp,Dv.eIx,Dv.eVar,Dv.eInt,uW,Dv.R.bind,sc,i1,i2,e1]
theorem pF (l:List (Pr×Int))(q:Pr):∃ n,(cZ (cn l) (cx q)).getD (.int 0)=.int n:=by
 rw[dt];cases l.find? (λ e=>decide (e.1=q)) with
 | none=>exact⟨0,rfl⟩
 | some e=>exact⟨e.2,rfl⟩
theorem LpI.grow {H0 H H':Hp}{v0 v1 v2:V}{d:Addr}{l:List (Pr×Int)}{σ:St}(h:LpI H0 v0 v1 v2 d l σ H)(e:Same H H')(nf:∀ b o u,H b=none->H' b≠some (.frz o u)):LpI H0 v0 v1 v2 d l σ H':=
 ⟨h.len,h.s0,h.s1,h.s2,h.s3,h.sm.trans e,h.dn,e _ _ h.dd,λ b o u hb=>by
  cases q:H b with
  | none=>exact nf b o u q
  | some w=>rw[e _ _ q];intro z;cases z;exact h.nf b o u hb q⟩
theorem LpI.put {H0 H:Hp}{v0 v1 v2:V}{d:Addr}{l l':List (Pr×Int)}{σ:St}(h:LpI H0 v0 v1 v2 d l σ H):LpI H0 v0 v1 v2 d l' σ (upd H d (.dT (cn l'))):=
 ⟨h.len,h.s0,h.s1,h.s2,h.s3,λ b o hb=>by rw[ao (λ z=>by rw[z,h.dn] at hb;cases hb)];exact h.sm b o hb,h.dn,av,λ b o u hb=>by
  by_cases z:b=d
  ·subst z;rw[av];intro q;cases q
  ·rw[ao z];exact h.nf b o u hb⟩
theorem kl {C:Ctx}{tq tp:TE}(qq:Tak C tq fqF)(qp:Tak C tp fpF):qL C (pK C.X.K tq tp) Dv.sFills:=by
 intro Hv₀ H₀ E σ H st ⟨Hc,O,r⟩ w;unfold Dv.sFills at w;by_cases hl:st.length=9
 case neg=>rw[if_neg hl] at w;exact Zf w
 rw[if_pos hl] at w
 split at w
 case h_2=>exact Zf w
 rename_i d0 d1 d2 rest;cases hf:Dv.fillsR d0 d1 d2 with
 | exc c=>rw[hf] at w;exact Zf w
 | bad=>rw[hf] at w;exact Zf w
 | ok dr fr=>
  rw[hf] at w;obtain⟨a,b,ds,es,ps,ss,rfl,rfl,rfl,hps,hss,a0,b0,ab,l0,l1,rfl,rfl⟩:=Dv.fills_inv hf;have hl0:σ.length=9:=by rw[<- r.len];exact hl
  obtain⟨v0,s0,rp0⟩:=r.sh 0 _ rfl;obtain⟨v1,s1,rp1⟩:=r.sh 1 _ rfl;obtain⟨v2,s2,rp2⟩:=r.sh 2 _ rfl;unfold Rp at rp1 rp2;obtain⟨a1,vs1,rfl,sq1,rl1⟩:=rp1;obtain⟨a2,vs2,rfl,sq2,rl2⟩:=rp2;obtain⟨n1,at1⟩:=jP hps rl1;obtain⟨n2,at2⟩:=jP hss rl2;have ret:∀ {v:Bool} {H5:Hp},(v=(decide (((ps.length*ss.length:Nat):Int)=a*b)&&Dv.nodupB (ag a b ps ss)))->Same H H5->(∀ b o u,H b=none->H5 b≠some (.frz o u))->E.rt (.bl v) H5:=λ {v H5} e sm nf=>by
   obtain⟨Hv2,x2,_⟩:=r.ret (sd r.allH sm nf);subst e;exact w _ Hv2 H5 x2 (by unfold Rp;rfl) λ _=>by unfold Rp;rfl
  have env0:∀ {σ':St} {H':Hp} {l:List (Pr×Int)} {d:Addr},LpI H v0 (.ref a1) (.ref a2) d l σ' H'->Same Hc H':=λ L=>r.ch.trans L.sm
  refine λ d hd=>?_
  have L0:LpI H v0 (.ref a1) (.ref a2) d [] (σ.set 3 (some (.ref d))) (upd H d (.dT [])):=
   ⟨by rw[vL];exact hl0,by rw[u6 ⋯];exact s0,by rw[u6 ⋯];exact s1,by rw[u6 ⋯];exact s2,by rw[vp ⋯],du hd _,hd,av,λ b o u hb=>by
    by_cases z:b=d
    ·subst z;rw[av];intro q;cases q
    ·rw[ao z,hb];intro q;cases q⟩
  refine⟨.ref a2,L0.s2,a2,rfl,⟨vs2,(sq2.same (env0 L0)).seq⟩,?_⟩;refine jq (xs:=vs2) (λ i σ' H'=>LpI H v0 (.ref a1) (.ref a2) d (br (ag a b ps (ss.take i))) σ' H') (by simpa[ag,br] using L0) (λ i σ' H' _ L=>(sq2.same (env0 L)).seq) (λ i x σ' H' hx L=>?_) λ σ' H' L=>?_
  ·have hi:i<ss.length:=by rw[<- n2];exact(List.getElem?_eq_some_iff.mp hx).1
   obtain⟨bs,rfl,rdb⟩:=at2 i ss[i] x (uV hi) hx;generalize hs:ss[i]=s at *;have hsi:ss[i]?=some s:=by rw[uV hi,hs]
   refine⟨bs,[.int s.1,.int s.2],rfl,.inl (Rd.same (env0 L) rdb),rfl,_,_,rfl,_,_,rfl,rfl,?_⟩;have L4:=(L.set (i:=4) ⋯ (.int s.1)).set (i:=5) ⋯ (.int s.2);have g4:((σ'.set 4 (some (.int s.1))).set 5 (some (.int s.2)))[4]?=some (some (.int s.1)):=by rw[u6 ⋯,vp (by rw[L.len];omega)]
   have g5:((σ'.set 4 (some (.int s.1))).set 5 (some (.int s.2)))[5]?=some (some (.int s.2)):=by rw[vp (by rw[vL,L.len];omega)]
   refine⟨.ref a1,L4.s1,a1,rfl,⟨vs1,(sq1.same (env0 L4)).seq⟩,?_⟩;refine jq (xs:=vs1) (λ j σ2 H2=>LpI H v0 (.ref a1) (.ref a2) d (br (ag a b ps (ss.take i)++(ps.take j).map λ p=>((p.1+s.1)%a,(p.2+s.2)%b))) σ2 H2/\σ2[4]?=some (some (.int s.1))/\σ2[5]?=some (some (.int s.2)))
    ⟨by simpa using L4,g4,g5⟩ (λ j σ2 H2 _ L=>(sq1.same (env0 L.1)).seq) (λ j x σ2 H2 hx L2=>?_) λ σ2 H2 L2=>?_
   ·obtain⟨L2,k4,k5⟩:=L2
    have hj:j<ps.length:=by rw[<- n1];exact(List.getElem?_eq_some_iff.mp hx).1
    obtain⟨bp,rfl,rdp⟩:=at1 j ps[j] x (uV hj) hx;generalize hp:ps[j]=p at *;have hpj:ps[j]?=some p:=by rw[uV hj,hp]
    refine⟨bp,[.int p.1,.int p.2],rfl,.inl (Rd.same (env0 L2) rdp),rfl,_,_,rfl,_,_,rfl,rfl,?_⟩;have L3:=(L2.set (i:=6) ⋯ (.int p.1)).set (i:=7) ⋯ (.int p.2);have m4:((σ2.set 6 (some (.int p.1))).set 7 (some (.int p.2)))[4]?=some (some (.int s.1)):=by rw[u6 ⋯,u6 ⋯];exact k4
    have m5:((σ2.set 6 (some (.int p.1))).set 7 (some (.int p.2)))[5]?=some (some (.int s.2)):=by rw[u6 ⋯,u6 ⋯];exact k5
    have m6:((σ2.set 6 (some (.int p.1))).set 7 (some (.int p.2)))[6]?=some (some (.int p.1)):=by rw[u6 ⋯,vp (by rw[L2.len];omega)]
    have m7:((σ2.set 6 (some (.int p.1))).set 7 (some (.int p.2)))[7]?=some (some (.int p.2)):=by rw[vp (by rw[vL,L2.len];omega)]
    generalize (σ2.set 6 (some (V.int p.1))).set 7 (some (V.int p.2))=σ3 at *;have env:EnvR C.X.K Hc [some (.tup [.int a,.int b]),none,none,none,some (.int s.1),some (.int s.2),some (.int p.1),some (.int p.2)] σ3:=by
     intro i d hid
     match i,hid with
     | 0,hid=>cases hid;exact⟨v0,L3.s0,rp0⟩
     | 4,hid=>cases hid;exact⟨_,m4,by unfold Rp;rfl⟩
     | 5,hid=>cases hid;exact⟨_,m5,by unfold Rp;rfl⟩
     | 6,hid=>cases hid;exact⟨_,m6,by unfold Rp;rfl⟩
     | 7,hid=>cases hid;exact⟨_,m7,by unfold Rp;rfl⟩
    refine qq σ3 H2 Hc _ _ env (env0 L3) ?_
    rw[tH a0 b0];intro v Hv' H3 x rp n;have n':=n rfl;unfold Rp at n';obtain⟨b1,us,rfl,hb1,rlu⟩:=n';have hus:=RpL.ints (ns:=[(p.1+s.1)%a,(p.2+s.2)%b]) rfl rlu;subst hus;have hb2:H3 b1=some (.tup [.int ((p.1+s.1)%a),.int ((p.2+s.2)%b)]):=by
     rcases hb1 with hb1|⟨u,hb1⟩
     ·exact Hnew.sub _ _ hb1
     ·exact absurd (Hnew.sub _ _ hb1) (x.nf b1 _ _ (b7 hb1))
    generalize hq:(((p.1+s.1)%a,(p.2+s.2)%b):Pr)=q at *;have hb3:H3 b1=some (.tup ((cx q).map kV)):=by rw[hb2,<- hq];rfl
    have L5:=(L3.grow x.hh x.nf).set (i:=8) ⋯ (.ref b1);have m8:(σ3.set 8 (some (.ref b1)))[8]?=some (some (.ref b1)):=by rw[vp (by rw[L3.len];omega)]
    have e4:(σ3.set 8 (some (.ref b1)))[4]?=some (some (.int s.1)):=by rw[u6 ⋯];exact m4
    have e5:(σ3.set 8 (some (.ref b1)))[5]?=some (some (.int s.2)):=by rw[u6 ⋯];exact m5
    generalize hfs:(ag a b ps (ss.take i)++(ps.take j).map λ p=>(((p.1+s.1)%a,(p.2+s.2)%b):Pr))=fs at *;have hfl:fs.length<=1000:=by
     have h1:=Dv.falls_length a b ps (ss.take i);have h2:ps.length*(ss.take i).length+ps.length<=ps.length*ss.length:=by
      rw[<- wZ];exact xM _ (by rw[vG];omega)
     have h3:=congrArg List.length hfs;rw[vd,uR,h1,vG (i:=j)] at h3;omega
    obtain⟨n0,hn0⟩:=pF (br fs) q;have hcl:(cn (br fs)).length<sizeLine:=by
     unfold cn;rw[uR,yZ];have:=Dv.cnt_len fs [];unfold br;simp at this;omega
    refine⟨.ref d,L5.s3,d,rfl,.inr ⟨_,.inl L5.dd⟩,.ref b1,m8,_,DGet.t L5.dd hb3,n0,1,hn0,rfl,.ref d,L5.s3,.ref b1,m8,d,_,rfl,DPut.t L5.dd hb3 hcl,?_⟩;rw[pC hn0,<- Dv.cnt_snoc];have e6:ag a b ps (ss.take i)++(ps.take (j+1)).map (λ p=>(((p.1+s.1)%a,(p.2+s.2)%b):Pr))=fs++[q]:=by
     rw[Dv.take_snoc hpj,wF,<- vD,hfs,<- hq];rfl
    exact⟨by rw[e6];exact L5.put,e4,e5⟩
   ·obtain⟨L2,_,_⟩:=L2
    rw[n1,ya] at L2;show LpI H v0 (.ref a1) (.ref a2) d (br (ag a b ps (ss.take (i+1)))) σ2 H2
    rw[Dv.take_snoc hsi,Dv.falls_snoc];exact L2
  ·rw[n2,ya] at L
   refine⟨.ref d,L.s3,d,_,rfl,L.dd,?_⟩;have env:EnvR C.X.K Hc [some (.tup [.int a,.int b])] σ':=by
    intro i d hid
    match i,hid with
    | 0,hid=>cases hid;exact⟨v0,L.s0,rp0⟩
   refine qp σ' H' Hc _ _ env (env0 L) ?_
   rw[t8 a0 b0 ab];intro v Hv' H1 x rp n;unfold Rp at rp;subst rp;have L1:=L.grow x.hh x.nf;have hlen:(cn (br (ag a b ps ss))).length=(br (ag a b ps ss)).length:=by unfold cn;rw[uR]
   have hfl:=Dv.falls_length a b ps ss;have hcl:=Dv.cnt_len (ag a b ps ss) [];have hne:ag a b ps ss≠[]:=λ z=>by rw[z] at hfl;simp at hfl;omega
   refine⟨rfl,_,rfl,?_⟩;by_cases c:((br (ag a b ps ss)).length:Int)=a*b
   ·have c':decide (V.int ((cn (br (ag a b ps ss))).length:Int)=V.int (a*b))=true:=by rw[hlen,c];simp
    rw[c',if_pos rfl];refine⟨.ref d,L1.s3,d,_,rfl,L1.dd,by rw[hlen];simp at hcl;unfold br;omega,λ l hl=>?_⟩;have hvals:(cn (br (ag a b ps ss))).map (·.2)=((br (ag a b ps ss)).map (·.2)).map V.int:=by unfold cn;rw[vm,vm];rfl
    rw[hvals];have hpos:0<((br (ag a b ps ss)).map (·.2)).length:=by
     rw[uR];exact List.length_pos_iff.mpr (Dv.cnt_ne _ _ (.inl hne))
    refine⟨l,_,rfl,SqX.of av,hpos,λ M hM hle=>⟨rfl,?_⟩⟩;have hs:=Dv.cnt_says hne hM hle c;rw[hfl] at hs;refine ret ?_ (L1.sm.trans (du hl _)) λ b o u hb=>?_
    ·rw[<- hs,vJ];simp
    ·by_cases z:b=l
     ·subst z;rw[av];intro q;cases q
     ·rw[ao z];exact L1.nf b o u hb
   ·have c':decide (V.int ((cn (br (ag a b ps ss))).length:Int)=V.int (a*b))=false:=by rw[hlen];simpa using c
    rw[c',if_neg (by decide)];have hs:=Dv.cnt_no c;rw[hfl] at hs;exact ret hs.symm L1.sm L1.nf
open PySem PySem.W PySem.Calls PyProof.Rows
section
variable {prog:Program}{w:World}{A:Around}{E:Value->Shared->Prop}{s:Shared}
theorem ki {a:Addr}{vs:List Value}{n:Nat}{κ:SortKind}{P:PySem.Fin->Shared->Prop}(ho:s.heap.get? a=some (seqObj "list" vs.toArray n))(h64:vs.length<=100000)
  (hk:2<=vs.length->∀ (h':Heap),(∀ b o,b≠a->s.heap.get? b=some o->h'.get? b=some o)->∀ (E':Value->Shared->Prop) (Q':SortKind->Shared->Prop),Q' κ { s with heap:=h' }->wpAny (model prog w) A (keyKind' vs.toArray) Q' E' { s with heap:=h' })
  (hc:2<=vs.length->∀ (h':Heap),(∀ b o,b≠a->s.heap.get? b=some o->h'.get? b=some o)->∀ i j (C:Bool->Shared->Prop),i<vs.length->j<vs.length->(∀ b,C b { s with heap:=h' })->kas_ask prog w A κ vs i j C { s with heap:=h' })
  (h:∀ out:List Nat,out.length=vs.length->(∀ i∈out,i<vs.length)->P (.done (.ret .none)) { s with heap:=sortedHeap s.heap a vs (out.map λ i=>vs.getD i yK).toArray }):
  wpAny (model prog w) A (Builtin.«list.sort» ⟨[.ref a],[]⟩) P E s:=by
 have hlt:a<s.heap.objs.size:=yG ho;have ln:vs.length<=sizeLine:=by rw[yZ];omega
 obtain⟨e1,q1⟩:∃ e1,(s.heap.update a (yP λ _=>#[])).get? a=some (seqObj "list" #[] e1):=⟨_,get?_update_seq ho (λ _=>#[])⟩;rw[list_sort_plain];refine yB (listItems_at ho rfl (yB (Aa ho rfl (yB (Aq q1 rfl (yB (wpAny_newTuple (yB (As (y0 ?_) (vK _))) (by show vs.length<=_;exact ln))))) (by rw[u0];exact ln) (vK _))));have old:∀ b o,b≠a->s.heap.get? b=some o->(((s.heap.update a (yP λ _=>#[])).push (seqObj "tuple" vs.toArray 0)).push (seqObj "list" #[] 0)).get? b=some o:=λ b o hb q=>
  yE _ (yE _ ((yR _ _ (Ne.symm hb)).trans q))
 have q6:(((s.heap.update a (yP λ _=>#[])).push (seqObj "tuple" vs.toArray 0)).push (seqObj "list" #[] 0)).get? a=some (seqObj "list" #[] e1):=yE _ (yE _ q1);show wpAny (model prog w) A _ P E { s with heap:=((s.heap.update a (yP λ _=>#[])).push (seqObj "tuple" vs.toArray 0)).push (seqObj "list" #[] 0) }
 dsimp only;have sz:vs.toArray.size=vs.length:=u0 ..;by_cases h2:vs.length<2
 ·rw[if_pos (by rw[sz];exact h2),if_pos (by rw[sz];exact h2)]
  refine yB (yD ?_);rw[CB];refine yB (yD ?_);dsimp only;have e:(arrOf (BP general' (vs.toArray.zip vs.toArray) #[] 7 none)).map (·.2)=((List.range vs.length).map λ i=>vs.getD i yK).toArray:=by
   show (vs.toArray.zip vs.toArray).map (·.2)=_
   refine Array.ext (by simp) λ i h1 h3=>?_
   have hi:i<vs.length:=by simpa using h3
   simp[uT,uV hi]
  rw[e];have zz:((List.range vs.length).map λ i=>vs.getD i yK).toArray.size<=sizeLine:=by rw[u0,uR,vH];exact ln
  refine yB (Aq q6 rfl (yB (Aa q6 rfl ?_ (hsz2:=wo zz))));simp only[bne_self_eq_false,u4,if_false];exact yD (h _ vH λ i hi=>List.mem_range.mp hi)
 ·rw[if_neg (by rw[sz];exact h2),if_neg (by rw[sz];exact h2)]
  have h2':2<=vs.length:=⋯
  refine yB (hk h2' _ old _ _ ?_)
  let s2:Shared:={ s with heap:=((s.heap.update a (yP λ _=>#[])).push (seqObj "tuple" vs.toArray 0)).push (seqObj "list" #[] 0) }
  let Gd:Keyed->Prop:=λ p=>∃ i,i<vs.length/\p=(vs.getD i yK,vs.getD i yK)
  have cmp:Srt.Cmp prog w A s2 κ Gd:=λ x y ⟨i,hi,hx⟩ ⟨j,hj,hy⟩ C E' hC=>by
   subst hx hy;exact yT (hc h2' _ old i j C hi hj hC) (λ _ _ z=>z) λ _ _ z=>z.elim
  have bk:Srt.Bk κ Gd vs.length (BP κ (vs.toArray.zip vs.toArray) #[] 7 none):=⟨rfl,by show (vs.toArray.zip vs.toArray).size=_;simp,λ i p hp=>by
   have hp':(vs.toArray.zip vs.toArray)[i]?=some p:=hp
   have hi:i<vs.length:=by
    have:=(Array.getElem?_eq_some_iff.mp hp').1;simpa using this
   refine⟨i,hi,?_⟩;have e:(vs.toArray.zip vs.toArray)[i]?=some (vs[i],vs[i]):=by simp[hi]
   rw[e] at hp';cases hp';simp[uT,uV hi],rfl⟩
  have run:=Srt.wruns (prog:=prog) (w:=w) (A:=A) (E:=E) (s:=s2) cmp bk rfl (Q:=λ _ st'=>Srt.Bk κ Gd vs.length st') λ st' B=>B
  refine yB (yT run ?_ λ _ _ e=>e)
  rintro ⟨⟨⟩,st'⟩ s' ⟨rfl,B⟩
  dsimp only;obtain⟨out,o1,o2,o3⟩:∃ out:List Nat,out.length=vs.length/\(∀ i∈out,i<vs.length)/\(arrOf st').map (·.2)=(out.map λ i=>vs.getD i yK).toArray:=by
   have key:∀ l:List Keyed,(∀ p∈l,Gd p)->∃ out:List Nat,out.length=l.length/\(∀ i∈out,i<vs.length)/\l.map (·.2)=out.map λ i=>vs.getD i yK:=by
    intro l
    induction l with
    | nil=>exact λ _=>⟨[],rfl,λ i hi=>(by cases hi),rfl⟩
    | cons p l ih=>
     intro hl;obtain⟨out,a1,a2,a3⟩:=ih λ q hq=>hl q (uU _ hq)
     obtain⟨i,hi,hp⟩:=hl p uY;refine⟨i::out,by simp[a1],λ k hk=>?_,by rw[uS,uS,a3,hp]⟩
     rcases List.mem_cons.mp hk with rfl|hk
     ·exact hi
     ·exact a2 k hk
   obtain⟨out,a1,a2,a3⟩:=key (arrOf st').toList λ p hp=>B.gs p (Array.mem_toList_iff.mp hp)
   refine⟨out,by rw[a1,yI];exact B.size,a2,?_⟩;rw[<- a3];apply Array.ext';simp
  rw[o3];have zz:((out.map λ i=>vs.getD i yK).toArray).size<=sizeLine:=by rw[u0,uR,o1];exact ln
  refine yB (Aq q6 rfl (yB (Aa q6 rfl ?_ (hsz2:=wo zz))));rw[B.ok];simp only[bne_self_eq_false,u4,if_false];exact yD (h out o1 o2)
theorem j3 {l:Addr}{vs:List Value}{κ:SortKind}{Q:Value->Shared->Prop}(hl:s.heap.IsList l vs.toArray)(h64:vs.length<=100000)
  (hk:2<=vs.length->∀ (h':Heap),(∀ b o,s.heap.get? b=some o->h'.get? b=some o)->∀ (E':Value->Shared->Prop) (Q':SortKind->Shared->Prop),Q' κ { s with heap:=h' }->wpAny (model prog w) A.in1.in1 (keyKind' vs.toArray) Q' E' { s with heap:=h' })
  (hc:2<=vs.length->∀ (h':Heap),(∀ b o,s.heap.get? b=some o->h'.get? b=some o)->∀ i j (C:Bool->Shared->Prop),i<vs.length->j<vs.length->(∀ b,C b { s with heap:=h' })->kas_ask prog w A.in1.in1 κ vs i j C { s with heap:=h' })
  (h:∀ out:List Nat,out.length=vs.length->(∀ i∈out,i<vs.length)->Q (.ref (s.heap.objs.size+1)) { s with heap:=sortedAll s.heap vs (out.map λ i=>vs.getD i yK).toArray }):
  wpAny (model prog w) A (call (.builtin "sorted") [.ref l]) Q E s:=by
 have ln:vs.length<=sizeLine:=by rw[yZ];omega
 refine Ad Cp B8 B9 (Cb _) ?_
 unfold Builtin.«sorted»;refine yB (m:=checkCount "sorted" 1 1 _) (yD (yB (collect_list hl (yB (As ?_ (by show vs.length<=_;exact ln))) (by exact ln))));have z1:((s.heap.push (seqObj "list" #[] 0)).update s.heap.objs.size (yP (·++vs.toArray))).objs.size=s.heap.objs.size+1:=by rw[Cv,size_push']
 have z2:(((s.heap.push (seqObj "list" #[] 0)).update s.heap.objs.size (yP (·++vs.toArray))).push (seqObj "list" vs.toArray 0)).get? (s.heap.objs.size+1)=some (seqObj "list" vs.toArray 0):=by rw[<- z1];exact yL _ rfl
 have old:∀ b o,s.heap.get? b=some o->b≠s.heap.objs.size+1/\(((s.heap.push (seqObj "list" #[] 0)).update s.heap.objs.size (yP (·++vs.toArray))).push (seqObj "list" vs.toArray 0)).get? b=some o:=λ b o q=>by
  have hb:b<s.heap.objs.size:=yG q;exact⟨u9 (vQ hb),yE _ ((yR _ _ (xo hb)).trans (yE _ q))⟩
 show wpAny _ _ _ _ _ { s with heap:=((s.heap.push (seqObj "list" #[] 0)).update s.heap.objs.size (yP (·++vs.toArray))).push (seqObj "list" vs.toArray 0) }
 rw[z1];refine yB (y0 (ze BE ⟨_,z2,rfl⟩ Bw (ki (s:={ s with heap:=((s.heap.push (seqObj "list" #[] 0)).update s.heap.objs.size (yP (·++vs.toArray))).push (seqObj "list" vs.toArray 0) }) z2 h64 (λ h2 h' k E' Q' q=>hk h2 h' (λ b o e=>k b o (old b o e).1 (old b o e).2) E' Q' q)
  (λ h2 h' k i j C hi hj q=>hc h2 h' (λ b o e=>k b o (old b o e).1 (old b o e).2) i j C hi hj q) λ out a1 a2=>⟨_,rfl,yD ⟨_,rfl,h out a1 a2⟩⟩) (BF _)))
end
open PySem.Spec L2
open Dv (D R RL EE EL EI RI Sl Out SS)
theorem iN {X:Cx}{pins:List (Addr×Obj)}{σ:L2.St}{H:Hp}{s:Shared}{vs:List V}{its:List Value}{out:List Nat}{Q:VK}(I:L2.Inv X pins σ H s)(rv:Vals vs its)(h1:out.length=its.length)(h2:∀ i∈out,i<its.length)(h64:vs.length<=100000)
  (q:∀ l,H l=none->Q (.ref l) (upd H l (.lst (out.map λ i=>vs.getD i .non)))):EP X pins σ Q (.ref (s.heap.objs.size+1)) { s with heap:=sortedAll s.heap its (out.map λ i=>its.getD i yK).toArray }:=by
 obtain⟨ep,hat⟩:=sortedAll_at s.heap its (out.map λ i=>its.getD i yK).toArray;have hl:=rv.length;have hf:H (s.heap.objs.size+1)=none:=I.hok.fresh (w6 _);refine⟨.ref (s.heap.objs.size+1),_,I.laid (t':=s.toks) (o:=.lst (out.map λ i=>vs.getD i .non)) (λ b u q=>sortedAll_old q) (w6 _) ?_,rfl,q _ hf⟩;refine⟨?_,out.map λ i=>its.getD i yK,ep,cN rv out λ i hi=>?_,by simpa[seqObj] using hat⟩
 ·rw[uR,yZ]
  omega
 ·have:=h2 i hi
  omega
theorem gi {X:Cx}(hu:X.A.units+64<cLine):cy X (.builtin "sorted") (λ xs H Q=>∃ p vs nss,xs=[.ref p]/\SqX X.K H p vs/\vs.length<=100000/\Paired (ItT H) vs nss /\
  ∀ out:List Nat,out.length=vs.length->(∀ i∈out,i<vs.length)->∀ l,H l=none->Q (.ref l) (upd H l (.lst (out.map λ i=>vs.getD i .non)))):=by
 intro pins s σ H xs us Q I r h;obtain⟨p,vs,nss,rfl,hq,h64,hit,q⟩:=h;obtain⟨u,rfl,rx⟩:=vals1 r;cases rx;obtain⟨its,n,rv,e,z⟩:=Inv.listX I hq;have hl:=rv.length;have hn:=hit.length;have item:∀ i,i<its.length->∃ b ws o m,its.getD i yK=.ref b/\s.heap.get? b=some o/\o.cls=.type "tuple"/\o.data=.seq (List.toArray ws) m/\IntsAre ws (nss.getD i [])/\nss.getD i []≠[]:=λ i hi=>by
  obtain⟨u,h1,h2⟩:=dw rv (i:=i) ⋯;obtain⟨b,hb,hs,hne⟩:=fH hit (i:=i) ⋯ [];rw[hb] at h2;obtain⟨_,ws,rw',o,ew,hc,m,hd⟩:=hs.ok I.hok;refine⟨b,ws,o,m,?_,ew,hc,hd,intsAre_of rw',hne⟩;rw[uT,h1];exact h2
 refine j3 (κ:=tuples' true) ⟨_,e,rfl,n,rfl⟩ ⋯ (λ h2 h' k E' Q' hQ=>?_) (λ h2 h' k i j C hi hj hC=>?_) λ out a1 a2=>?_
 ·have tups:∀ (l:List Value),(∀ v∈l,v∈its)->∃ fs,KatTups h' l fs/\fs.length=l.length/\∀ f∈fs,∃ a t,f=zA a t:=by
   intro l
   induction l with
   | nil=>exact λ _=>⟨[],.nil,rfl,λ f hf=>by cases hf⟩
   | cons v l ih=>
    intro hl;obtain⟨fs,g1,g2,g3⟩:=ih λ v hv=>hl v (uU _ hv)
    obtain⟨i,hi,hv⟩:=vC (hl v uY);obtain⟨b,ws,o,m,e1,e2,e3,e4,e5,e6⟩:=item i hi;rw[uT,uV hi] at e1;have e1:v=.ref b:=by rw[<- hv];exact e1
    subst e1;generalize nss.getD i []=ns at e5 e6;cases e5 with
    | nil=>exact absurd rfl e6
    | cons a t r=>
     refine⟨zA a t::fs,.cons (k _ _ e2) e3 e4 (by simp) g1,by simp[g2],λ f hf=>?_⟩
     rcases List.mem_cons.mp hf with rfl|hf
     ·exact⟨a,t,rfl⟩
     ·exact g3 f hf
  obtain⟨fs,g1,g2,g3⟩:=tups its λ v hv=>hv
  refine kat_kind (T:=.type "int") g1 ⋯ (λ v hv=>?_) (by decide) (show Q' (tuples' (zr "int" != zr "tuple")) _ from hQ);obtain⟨a,t,rfl⟩:=g3 v hv;exact .now
 ·obtain⟨b,ws,o,m,e1,e2,e3,e4,e5,e6⟩:=item i hi
  obtain⟨b',ws',o',m',f1,f2,f3,f4,f5,f6⟩:=item j hj;unfold kas_ask;rw[e1,f1];refine kat_lt (k _ _ e2) e4 (k _ _ f2) f4 (dv 0 e5 f5 ?_ (hC _));have l1:ws.length=(nss.getD i []).length:=cE e5;have l2:ws'.length=(nss.getD j []).length:=cE f5;rw[u0,u0,l1,l2]
 ·exact iN I rv a1 a2 h64 λ l hl'=>q out ⋯ (λ i hi=>by have:=a2 i hi;omega) l hl'
end Sd
namespace Dv
def sortEqD (nss:List (List Int))(y:D):R:=if nss.length<64 then cmD .eq (.lst ((lsort nss).map λ ns=>.tup (ns.map .int))) y else match y with
 | .lst es=>match tupsOf es with
  | some mss=>if mss.length=nss.length then .bad else .ok (.bl false) true
  | none=>.bad
 | _=>.bad
def eSortEq (a b:EE):EE:=λ ρ=>(a ρ).bind λ x _=>match x with
 | .lst ds=>match tupsOf ds with
  | some nss=>if nss.length<=100000 then (b ρ).bind λ y _=>sortEqD nss y else .bad
  | none=>.bad
 | _=>.bad
theorem jK (a b:List Int):∃ c,eqDL (a.map .int) (b.map .int)=some c:=by
 induction a generalizing b with
 | nil=>cases b <;>exact⟨_,rfl⟩
 | cons x a ih=>
  cases b with
  | nil=>exact⟨_,rfl⟩
  | cons y b=>
   obtain⟨c,e⟩:=ih b;exact⟨decide (x=y)&&c,by simp only[uS,eqDL,eqD,e]⟩
theorem fK:∀ (a b:List (List Int)),a.length≠b.length->eqDL (a.map λ ns=>.tup (ns.map .int)) (b.map λ ns=>.tup (ns.map .int))=some false
 | [],[],h=>absurd rfl h
 | [],_::_,_=>rfl
 | _::_,[],_=>rfl
 | x::a,y::b,h=>by
  obtain⟨c,e⟩:=jK x y;have ih:=fK a b (by simpa using h);simp only[uS,eqDL,eqD,e,ih,vP]
theorem iU:∀ xs:List Int,depthL (xs.map .int)=0
 | []=>rfl
 | x::xs=>by simp only[uS,depthL,depthD,iU xs];rfl
theorem f7:∀ a:List (List Int),depthL (a.map λ ns=>.tup (ns.map .int))<=1
 | []=>by simp[depthL]
 | x::a=>by have:=f7 a;simp only[uS,depthL,depthD,iU];omega
theorem cm_tups_no {a b:List (List Int)}(h:a.length≠b.length):cmD .eq (.lst (a.map λ ns=>.tup (ns.map .int))) (.lst (b.map λ ns=>.tup (ns.map .int)))=.ok (.bl false) true:=by
 have h1:=f7 a;have h2:=f7 b;have e1:depthD (.lst (a.map λ ns=>.tup (ns.map .int)))<=9:=by unfold depthD;omega
 have e2:depthD (.lst (b.map λ ns=>.tup (ns.map .int)))<=9:=by unfold depthD;omega
 have e3:eqD (.lst (a.map λ ns=>.tup (ns.map .int))) (.lst (b.map λ ns=>.tup (ns.map .int)))=some false:=by unfold eqD;exact fK a b h
 unfold cmD;simp only[decide_eq_true e1,decide_eq_true e2,vY,if_true,e3,optB]
end Dv
namespace Sd
open PySem PySem.Spec PySem.W PySem.Calls PyProof.Rows L2
open Dv (D R RL EE EL EI RI Sl Out SS)
section
variable {C:Ctx}{a b c e k:Expr}{f g h:EE}{pos pos':Pos}
theorem sL {X:Cx}{e:Expr}{t1 t2:TE}(h1:PE X e t1)(h2:PE X e t2):PE X e (λ σ H Q=>t1 σ H Q\/t2 σ H Q):=λ pins s σ H Q I h=>by
 rcases h with h|h
 ·exact h1 pins s σ H Q I h
 ·exact h2 pins s σ H Q I h
theorem ly {p:Pos}(hm:C.X.mg "sorted"=none)(hg:Gl C.X "sorted")(ha:SE C a f)(hb:SE C b g)(he:autoParam (starEach [a] C.X.env=[(false,eval a C.X.env)]) ZE._auto_1)(hmk:autoParam (behindInMarks .Eq b=false) ZJ._auto_1):
  SE C (.Compare (.Call (.Name "sorted" p) [a] [] pos') [.Eq] [b] pos) (Dv.eSortEq f g):=by
 obtain⟨t1,p1,q1⟩:=mU (pos:=pos) os_eq (cg (pos:=pos') (p:=p) hm hg ha he) hb hmk;obtain⟨ta,pa,qa⟩:=ha;obtain⟨tb,pb,qb⟩:=hb;obtain⟨ro,po,qo⟩:=os_eq (C:=C);refine⟨_,sL p1 (eU po (cC (gi C.un) hg hm Ah (aI pa bj he) (by decide) (by decide) he rfl) pb hmk),λ σ H Hv ρ Q e s w=>?_⟩;unfold Dv.eSortEq at w;have left:(∀ d fr,f ρ=.ok d fr->∃ ds nss,d=.lst ds/\Dv.tupsOf ds=some nss/\nss.length<64)->t1 σ H Q:=λ hh=>by
  refine q1 σ H Hv ρ Q e s ?_
  cases hf:f ρ with
  | exc c=>rw[hf] at w;simp only[Dv.eB2,Dv.eB1,hf,Dv.R.bind];exact w
  | bad=>rw[hf] at w;exact Zf w
  | ok d fr=>
   obtain⟨ds,nss,rfl,ht,hl⟩:=hh d fr hf;rw[hf] at w;simp only[Dv.R.bind,ht,if_pos (show nss.length<=100000 by omega)] at w;simp only[Dv.eB2,Dv.eB1,hf,Dv.R.bind,Dv.sortedTD,ht,if_pos hl];cases hgρ:g ρ with
   | exc c=>rw[hgρ] at w;exact w
   | bad=>rw[hgρ] at w;exact w
   | ok y fy=>
    rw[hgρ] at w;simp only[Dv.sortEqD,if_pos hl] at w;exact w
 cases hf:f ρ with
 | exc c=>exact .inl (left λ d fr z=>by rw[hf] at z;cases z)
 | bad=>rw[hf] at w;exact Zf w
 | ok d fr=>
  cases d with
  | lst ds=>
   cases ht:Dv.tupsOf ds with
   | none=>rw[hf] at w;simp only[Dv.R.bind,ht] at w;exact Zf w
   | some nss=>
    by_cases hl:nss.length<64
    ·exact .inl (left λ d fr' z=>by rw[hf] at z;cases z;exact⟨ds,nss,rfl,ht,hl⟩)
    ·right
     have w':=w;refine qa.step e (.refl s) w λ v d1 fr1 Hv1 H1 hf1 x1 _ rx n1 q=>?_
     rw[hf] at hf1;cases hf1;by_cases hz:nss.length<=100000
     case neg=>simp only[ht,if_neg hz] at q;exact Zf q
     simp only[ht,if_pos hz] at q;obtain⟨ed,hne⟩:=dB ht;subst ed;obtain⟨l,vs,rfl,h1,h2,_⟩:=dR x1 rx n1;have hln:=h2.length;rw[uR] at hln;refine⟨l,vs,nss,rfl,h1,⋯,Paired.mapM (eP hne h2) λ _ _ _ z=>z.same x1.vh,λ out o1 o2 p hpn=>?_⟩;have hin:∀ i∈out,i<(nss.map λ ns=>D.tup (ns.map .int)).length:=λ i hi=>by rw[uR];have:=o2 i hi;omega
     have r2:=RpL.pick h2 out hin;have e2:(out.map λ i=>(nss.map λ ns=>D.tup (ns.map .int)).getD i .non)=(out.map λ i=>nss.getD i []).map λ ns=>D.tup (ns.map .int):=by
      rw[vm];refine vt λ i hi=>?_
      have hi':=hin i hi;rw[uR] at hi';simp[uT,uV hi']
     rw[e2] at r2;have y1:=Ext.new1 x1.vh hpn (.lst (out.map λ i=>vs.getD i .non));have x2:=x1.trans y1;have rl:Rp C.X.K (upd Hv1 p (.lst (out.map λ i=>vs.getD i .non))) (.lst ((out.map λ i=>nss.getD i []).map λ ns=>D.tup (ns.map .int))) (.ref p):=by
      unfold Rp;exact⟨p,_,rfl,SqX.of av,r2.same y1.vv⟩
     refine qb.step e x2 q λ v2 d2 fr2 Hv3 H3 _ x3 y3 ry n3 q3=>?_
     unfold Dv.sortEqD at q3;rw[if_neg hl] at q3;refine qo _ _ _ d2 H Hv H3 Hv3 (C.W σ) Q x3 (rl.same y3.vv) ry ?_
     cases d2 with
     | lst es=>
      cases he2:Dv.tupsOf es with
      | none=>simp only[he2] at q3;exact Zf q3
      | some mss=>
       simp only[he2] at q3;obtain⟨em,_⟩:=dB he2;subst em;by_cases hd:mss.length=nss.length
       ·rw[if_pos hd] at q3;exact Zf q3
       ·rw[if_neg hd] at q3
        rw[Dv.cm_tups_no (by rw[uR,o1];omega)];exact q3
     | _=>exact Zf q3
  | _=>rw[hf] at w;exact Zf w
end
end Sd
namespace Cw
open Dv (eAnd eB1 eB2 eB3 eBl eCall eCm eComp eCompT eInt eIx eLst eNot eOp eOr eSlice eSortEq eTup eVar iRange iRange2 iSeq lCons lNil sAppF sAppG sCons sExpr sExtF sFills sFor sForT sIf sNil sPar sRaise sRet sRetO sSet sSetG sUnpackL sWhile)
open Dv (D R)
def b_Q03:Dv.SS:=
 (sIf (eOr (eCm .lt (eVar 0) (eInt 1)) (eCm .gt (eVar 0) (eInt 60))) (sRaise "NoWheel") sNil)
def F_Q03:List D->R:=Dv.fn 1 b_Q03
def b_Q07_t3:Dv.SS:=
 (sRet (eOp .mod (eOp .mul (eVar 2) (eVar 2)) (eInt 2147483629)))
def b_Q07_t2:Dv.SS:=
 (sCons (sIf (eCm .gt (eB1 Dv.lenD (eVar 0)) (eInt 0)) (sSet 2 (eOp .mod (eOp .add (eOp .mul (eIx (eVar 0) (eOp .mod (eVar 1) (eB1 Dv.lenD (eVar 0)))) (eInt 48271)) (eOp .mul (eVar 1) (eInt 7919))) (eInt 2147483647))) sNil) b_Q07_t3)
def b_Q07_t1:Dv.SS:=
 (sCons (sSet 2 (eOp .add (eOp .mul (eInt 7919) (eVar 1)) (eInt 5))) b_Q07_t2)
def b_Q07:Dv.SS:=
 (sCons (sIf (eCm .lt (eVar 1) (eB1 Dv.lenD (eVar 0))) (sRet (eIx (eVar 0) (eVar 1))) sNil) b_Q07_t1)
def F_Q07:List D->R:=Dv.fn 3 b_Q07
def b_Q0C:Dv.SS:=
 (sRet (eAnd (eB1 Dv.isBoolD (eVar 0)) (eCm .eq (eVar 0) (eVar 1))))
def F_Q0C:List D->R:=Dv.fn 2 b_Q0C
def b_Q01_t1:Dv.SS:=
 (sExpr (eCall F_Q03 (lCons (eOp .mul (eIx (eVar 0) (eInt 0)) (eIx (eVar 0) (eInt 1))) lNil)))
def b_Q01:Dv.SS:=
 (sCons (sIf (eOr (eCm .ne (eB1 Dv.lenD (eVar 0)) (eInt 2)) (eCm .lt (eB1 Dv.minTD (eVar 0)) (eInt 1))) (sRaise "NoWheel") sNil) b_Q01_t1)
def F_Q01:List D->R:=Dv.fn 1 b_Q01
def c_Q00_1:Dv.EE:=(eComp (eTup (lCons (eVar 1) (lCons (eVar 0) lNil))) (eBl true) [2] (iRange (eIx (eVar 0) (eInt 1))))
def b_Q00_l1:Dv.SS:=
 (sExtF 1 c_Q00_1)
def b_Q00_t2:Dv.SS:=
 (sRetO 1)
def b_Q00_t1:Dv.SS:=
 (sCons (sFor [0] 2 (iRange (eIx (eVar 0) (eInt 0))) b_Q00_l1) b_Q00_t2)
def b_Q00:Dv.SS:=
 (sCons (sSet 1 (eLst lNil)) b_Q00_t1)
def F_Q00:List D->R:=Dv.fn 3 b_Q00
def c_Q02_1:Dv.EE:=(eComp (eVar 0) (eB2 (Dv.inG false) (eVar 0) (eVar 1)) [1] (iSeq (eCall F_Q00 (lCons (eVar 0) lNil))))
def b_Q02_t1:Dv.SS:=
 (sIf (eOr (eCm .eq (eB1 Dv.lenD (eVar 1)) (eInt 0)) (eCm .ne (eVar 1) c_Q02_1)) (sRaise "NoBeat") sNil)
def b_Q02:Dv.SS:=
 (sCons (sExpr (eCall F_Q01 (lCons (eVar 0) lNil))) b_Q02_t1)
def F_Q02:List D->R:=Dv.fn 2 b_Q02
def c_Q0L_1:Dv.EE:=(eComp (eTup (lCons (eOp .mod (eOp .add (eIx (eVar 0) (eInt 0)) (eIx (eVar 2) (eInt 0))) (eIx (eVar 1) (eInt 0))) (lCons (eOp .mod (eOp .add (eIx (eVar 0) (eInt 1)) (eIx (eVar 2) (eInt 1))) (eIx (eVar 1) (eInt 1))) lNil))) (eBl true) [0,4] (iSeq (eVar 1)))
def b_Q0L_l1:Dv.SS:=
 (sExtF 3 c_Q0L_1)
def c_Q0G_1:Dv.EE:=(eComp (eVar 0) (eCm .eq (eOp .mod (eVar 1) (eVar 0)) (eInt 0)) [0] (iRange2 (eInt 1) (eOp .add (eVar 0) (eInt 1))))
def b_Q0G_t5:Dv.SS:=
 (sRet (eLst (lCons (eVar 4) (lCons (eVar 5) lNil))))
def b_Q0G_t4:Dv.SS:=
 (sCons (sIf (eCm .eq (eOp .mod (eOp .fdiv (eVar 1) (eInt 8)) (eInt 2)) (eInt 1)) (sPar [4,5] 4 5 (eVar 5) (eVar 4)) sNil) b_Q0G_t5)
def b_Q0G_t3:Dv.SS:=
 (sCons (sSetG [0,3] 5 (eB3 Dv.listRange3D (eInt 0) (eVar 0) (eVar 3))) b_Q0G_t4)
def b_Q0G_t2:Dv.SS:=
 (sCons (sSetG [3] 4 (eB1 Dv.listRangeD (eVar 3))) b_Q0G_t3)
def b_Q0G_t1:Dv.SS:=
 (sCons (sSet 3 (eIx (eVar 2) (eOp .mod (eVar 1) (eB1 Dv.lenD (eVar 2))))) b_Q0G_t2)
def b_Q0G:Dv.SS:=
 (sCons (sSet 2 c_Q0G_1) b_Q0G_t1)
def F_Q0G:List D->R:=Dv.fn 6 b_Q0G
def b_Q0A_l1:Dv.SS:=
 (sPar [0,1] 0 1 (eVar 1) (eOp .mod (eVar 0) (eVar 1)))
def b_Q0A_t1:Dv.SS:=
 (sRetO 0)
def b_Q0A:Dv.SS:=
 (sCons (sWhile 100000 (eCm .ne (eVar 1) (eInt 0)) b_Q0A_l1) b_Q0A_t1)
def F_Q0A:List D->R:=Dv.fn 2 b_Q0A
def b_Q0F_l1:Dv.SS:=
 (sAppF 5 (eTup (lCons (eOp .mod (eOp .add (eVar 6) (eVar 2)) (eIx (eVar 0) (eInt 0))) (lCons (eOp .mod (eOp .add (eOp .add (eVar 7) (eVar 3)) (eOp .mul (eVar 4) (eVar 6))) (eIx (eVar 0) (eInt 1))) lNil))))
def b_Q0F_t2:Dv.SS:=
 (sRet (eB1 Dv.sortedTD (eVar 5)))
def b_Q0F_t1:Dv.SS:=
 (sCons (sForT [1] (Dv.tupTo [6,7]) (iSeq (eVar 1)) b_Q0F_l1) b_Q0F_t2)
def b_Q0F:Dv.SS:=
 (sCons (sSet 5 (eLst lNil)) b_Q0F_t1)
def F_Q0F:List D->R:=Dv.fn 8 b_Q0F
def c_Q0J_1:Dv.EE:=(eComp (eTup (lCons (eVar 1) (lCons (eVar 0) lNil))) (eBl true) [10] (iSeq (eIx (eVar 4) (eVar 7))))
def b_Q0J_l1:Dv.SS:=
 (sSetG [4,7,9,10] 9 (eOp .add (eVar 9) c_Q0J_1))
def b_Q0I_t4:Dv.SS:=
 (sRet (eB1 Dv.sortedTD (eOp .add (eVar 4) (eLst (lCons (eVar 5) lNil)))))
def b_Q0I_t3:Dv.SS:=
 (sCons (sIf (eB2 (Dv.inG false) (eVar 5) (eVar 4)) (sRetO 1) sNil) b_Q0I_t4)
def b_Q0I_t2:Dv.SS:=
 (sCons (sSetG [0,2] 5 (eTup (lCons (eOp .mod (eOp .fdiv (eVar 2) (eInt 64)) (eIx (eVar 0) (eInt 0))) (lCons (eOp .mod (eOp .fdiv (eVar 2) (eInt 4096)) (eIx (eVar 0) (eInt 1))) lNil)))) b_Q0I_t3)
def b_Q0I_t1:Dv.SS:=
 (sCons (sSetG [1,3] 4 (eOp .add (eSlice (eVar 1) none (some (eVar 3))) (eSlice (eVar 1) (some (eOp .add (eVar 3) (eInt 1))) none))) b_Q0I_t2)
def b_Q0I:Dv.SS:=
 (sCons (sSet 3 (eOp .mod (eVar 2) (eB1 Dv.lenD (eVar 1)))) b_Q0I_t1)
def F_Q0I:List D->R:=Dv.fn 6 b_Q0I
def b_Q09:Dv.SS:=
 sFills
def F_Q09:List D->R:=Dv.fn 9 b_Q09
def c_Q0M_1:Dv.EE:=(eComp (eTup (lCons (eOp .mod (eOp .add (eIx (eVar 0) (eInt 0)) (eIx (eVar 2) (eInt 0))) (eIx (eVar 1) (eInt 0))) (lCons (eOp .mod (eOp .add (eIx (eVar 0) (eInt 1)) (eIx (eVar 2) (eInt 1))) (eIx (eVar 1) (eInt 1))) lNil))) (eBl true) [0,4] (iSeq (eVar 1)))
def b_Q0M_l1:Dv.SS:=
 (sExtF 3 c_Q0M_1)
def b_Q0M_t4:Dv.SS:=
 (sRet (eSortEq (eVar 3) (eCall F_Q00 (lCons (eVar 0) lNil))))
def b_Q0M_t3:Dv.SS:=
 (sCons (sFor [2] 4 (iSeq (eVar 2)) b_Q0M_l1) b_Q0M_t4)
def b_Q0M_t2:Dv.SS:=
 (sCons (sSet 3 (eLst lNil)) b_Q0M_t3)
def b_Q0M_t1:Dv.SS:=
 (sCons (sExpr (eCall F_Q02 (lCons (eVar 0) (lCons (eVar 2) lNil)))) b_Q0M_t2)
def b_Q0M:Dv.SS:=
 (sCons (sExpr (eCall F_Q02 (lCons (eVar 0) (lCons (eVar 1) lNil)))) b_Q0M_t1)
def F_Q0M:List D->R:=Dv.fn 5 b_Q0M
def c_Q0K_1:Dv.EE:=(eComp (eTup (lCons (eVar 1) (lCons (eVar 0) lNil))) (eBl true) [10] (iSeq (eIx (eVar 4) (eVar 7))))
def b_Q0K_l1:Dv.SS:=
 (sSetG [4,7,9,10] 9 (eOp .add (eVar 9) c_Q0K_1))
def b_Q0K_l2:Dv.SS:=
 (sCons (sSet 8 (eOp .mod (eOp .mul (eCall F_Q07 (lCons (eVar 0) (lCons (eOp .add (eOp .add (eVar 1) (eInt 2)) (eVar 7)) lNil))) (eInt 48271)) (eInt 2147483647))) (sCons (sSetG [] 9 (eLst lNil)) (sCons (sFor [3,7] 10 (iSeq (eIx (eVar 3) (eVar 7))) b_Q0K_l1) (sAppG [2,5,8,9] 6 (eCall F_Q0F (lCons (eVar 2) (lCons (eVar 9) (lCons (eOp .mod (eVar 8) (eInt 61)) (lCons (eOp .mod (eOp .fdiv (eVar 8) (eInt 64)) (eInt 61)) (lCons (eVar 5) lNil))))))))))
def b_Q0K_t5:Dv.SS:=
 (sRetO 6)
def b_Q0K_t4:Dv.SS:=
 (sCons (sFor [] 7 (iRange (eInt 2)) b_Q0K_l2) b_Q0K_t5)
def b_Q0K_t3:Dv.SS:=
 (sCons (sSet 6 (eLst lNil)) b_Q0K_t4)
def b_Q0K_t2:Dv.SS:=
 (sCons (sSet 5 (eOp .mul (eOp .fdiv (eIx (eVar 2) (eInt 1)) (eCall F_Q0A (lCons (eIx (eVar 2) (eInt 0)) (lCons (eIx (eVar 2) (eInt 1)) lNil)))) (eOp .mod (eCall F_Q07 (lCons (eVar 0) (lCons (eOp .add (eVar 1) (eInt 1)) lNil))) (eInt 7)))) b_Q0K_t3)
def b_Q0K_t1:Dv.SS:=
 (sCons (sSetG [0,1,2] 4 (eCall F_Q0G (lCons (eIx (eVar 2) (eInt 1)) (lCons (eOp .mod (eOp .fdiv (eCall F_Q07 (lCons (eVar 0) (lCons (eVar 1) lNil))) (eInt 16)) (eInt 1000003)) lNil)))) b_Q0K_t2)
def b_Q0K:Dv.SS:=
 (sCons (sSetG [0,1,2] 3 (eCall F_Q0G (lCons (eIx (eVar 2) (eInt 0)) (lCons (eOp .mod (eCall F_Q07 (lCons (eVar 0) (lCons (eVar 1) lNil))) (eInt 1000003)) lNil)))) b_Q0K_t1)
def F_Q0K:List D->R:=Dv.fn 11 b_Q0K
def b_Q06_l1:Dv.SS:=
 (sCons (sSet 6 (eOp .mod (eOp .mul (eCall F_Q07 (lCons (eVar 0) (lCons (eOp .add (eVar 1) (eVar 5)) lNil))) (eInt 69621)) (eInt 2147483629))) (sAppF 4 (eTup (lCons (eOp .mod (eVar 6) (eIx (eVar 3) (eInt 0))) (lCons (eOp .mod (eOp .fdiv (eVar 6) (eInt 64)) (eIx (eVar 3) (eInt 1))) lNil)))))
def b_Q06_t2:Dv.SS:=
 (sRet (eB1 Dv.sortSetTD (eVar 4)))
def b_Q06_t1:Dv.SS:=
 (sCons (sFor [] 5 (iRange (eVar 2)) b_Q06_l1) b_Q06_t2)
def b_Q06:Dv.SS:=
 (sCons (sSet 4 (eLst lNil)) b_Q06_t1)
def F_Q06:List D->R:=Dv.fn 7 b_Q06
def c_Q05_1:Dv.EE:=(eCompT 2 (eTup (lCons (eVar 1) (lCons (eVar 0) lNil))) (eBl true) [] (iSeq (eVar 0)))
def b_Q05:Dv.SS:=
 (sRet (eB1 Dv.sortedTD c_Q05_1))
def F_Q05:List D->R:=Dv.fn 1 b_Q05
def b_Q0D_t13:Dv.SS:=
 (sRet (eCall F_Q0C (lCons (eCall F_Q0M (lCons (eVar 3) (lCons (eVar 9) (lCons (eCall F_Q0F (lCons (eVar 3) (lCons (eVar 5) (lCons (eInt 1) (lCons (eInt 2) (lCons (eInt 0) lNil)))))) lNil)))) (lCons (eVar 6) lNil))))
def b_Q0D_t12:Dv.SS:=
 (sCons (sSetG [1,3,4] 9 (eCall F_Q0F (lCons (eVar 3) (lCons (eVar 4) (lCons (eOp .mod (eVar 1) (eInt 59)) (lCons (eOp .mod (eOp .fdiv (eVar 1) (eInt 59)) (eInt 53)) (lCons (eInt 0) lNil))))))) b_Q0D_t13)
def b_Q0D_t11:Dv.SS:=
 (sCons (sIf (eNot (eCall F_Q0C (lCons (eCall F_Q0M (lCons (eVar 8) (lCons (eCall F_Q05 (lCons (eVar 4) lNil)) (lCons (eCall F_Q05 (lCons (eVar 5) lNil)) lNil)))) (lCons (eVar 6) lNil)))) (sRet (eBl false)) sNil) b_Q0D_t12)
def b_Q0D_t10:Dv.SS:=
 (sCons (sSetG [3] 8 (eTup (lCons (eIx (eVar 3) (eInt 1)) (lCons (eIx (eVar 3) (eInt 0)) lNil)))) b_Q0D_t11)
def b_Q0D_t9:Dv.SS:=
 (sCons (sIf (eOr (eNot (eCall F_Q0C (lCons (eCall F_Q0M (lCons (eVar 3) (lCons (eIx (eVar 7) (eInt 1)) (lCons (eIx (eVar 7) (eInt 0)) lNil)))) (lCons (eVar 6) lNil)))) (eCm .ne (eVar 7) (eLst (lCons (eVar 4) (lCons (eVar 5) lNil))))) (sRet (eBl false)) sNil) b_Q0D_t10)
def b_Q0D_t8:Dv.SS:=
 (sCons (sIf (eOr (eNot (eCall F_Q0C (lCons (eCall F_Q0M (lCons (eVar 3) (lCons (eIx (eVar 7) (eInt 0)) (lCons (eIx (eVar 7) (eInt 1)) lNil)))) (lCons (eVar 6) lNil)))) (eCm .ne (eVar 7) (eLst (lCons (eVar 4) (lCons (eVar 5) lNil))))) (sRet (eBl false)) sNil) b_Q0D_t9)
def b_Q0D_t7:Dv.SS:=
 (sCons (sSetG [4,5] 7 (eLst (lCons (eB1 Dv.listD (eVar 4)) (lCons (eB1 Dv.listD (eVar 5)) lNil)))) b_Q0D_t8)
def b_Q0D_t6:Dv.SS:=
 (sCons (sSet 6 (eCall F_Q09 (lCons (eVar 3) (lCons (eVar 4) (lCons (eVar 5) lNil))))) b_Q0D_t7)
def b_Q0D_t5:Dv.SS:=
 (sCons (sIf (eCm .eq (eOp .mod (eOp .fdiv (eVar 1) (eInt 1440)) (eInt 5)) (eInt 1)) (sCons (sSetG [0,1,3] 4 (eCall F_Q06 (lCons (eVar 0) (lCons (eInt 8) (lCons (eOp .add (eInt 1) (eOp .mod (eOp .fdiv (eVar 1) (eInt 7200)) (eInt 11))) (lCons (eVar 3) lNil)))))) (sSetG [0,1,3] 5 (eCall F_Q06 (lCons (eVar 0) (lCons (eInt 19) (lCons (eOp .add (eInt 1) (eOp .mod (eOp .fdiv (eVar 1) (eInt 79200)) (eInt 11))) (lCons (eVar 3) lNil))))))) sNil) b_Q0D_t6)
def b_Q0D_t4:Dv.SS:=
 (sCons (sIf (eCm .eq (eOp .mod (eOp .fdiv (eVar 1) (eInt 720)) (eInt 2)) (eInt 1)) (sSetG [0,3,5] 5 (eCall F_Q0I (lCons (eVar 3) (lCons (eVar 5) (lCons (eOp .mod (eOp .mul (eCall F_Q07 (lCons (eVar 0) (lCons (eInt 5) lNil))) (eInt 48271)) (eInt 2147483647)) lNil))))) sNil) b_Q0D_t5)
def b_Q0D_t3:Dv.SS:=
 (sCons (sUnpackL [0,3] [4,5] (eCall F_Q0K (lCons (eVar 0) (lCons (eInt 1) (lCons (eVar 3) lNil))))) b_Q0D_t4)
def b_Q0D_t2:Dv.SS:=
 (sCons (sSetG [1,2] 3 (eTup (lCons (eVar 2) (lCons (eOp .add (eInt 1) (eOp .mod (eOp .fdiv (eVar 1) (eInt 12)) (eOp .fdiv (eInt 60) (eVar 2)))) lNil)))) b_Q0D_t3)
def b_Q0D_t1:Dv.SS:=
 (sCons (sSet 2 (eOp .add (eInt 1) (eOp .mod (eVar 1) (eInt 12)))) b_Q0D_t2)
def b_Q0D:Dv.SS:=
 (sCons (sSet 1 (eCall F_Q07 (lCons (eVar 0) (lCons (eInt 0) lNil)))) b_Q0D_t1)
def F_Q0D:List D->R:=Dv.fn 10 b_Q0D
end Cw
namespace Lk63
open PySem PySem.Spec PyProof.Rows L2 Sd Cw
open Dv (D R RL EE EL EI RI Sl Out SS)
def top (i:Nat):Stmt:=PySem.Challenge.pw_canonwheel_k63_torus_partners.main.body.getD i (.Pass ⟨0,0,0,0⟩)
section
variable {P:Program}{w:World}{K:yC}{mg:Str->Option Value}{base:Heap}{ad:String->Option Addr}
abbrev s_Q03:Stmt:=top 6
theorem sc_check_wheel:FnScope ["length"] ["length"] (ah s_Q03):=by constructor<;>first|rfl|decide +kernel
theorem ok_Q03 {f:Addr}{fd:FuncData}(d:Df K mg "check_wheel" s_Q03 ["length"] f fd)(xa:XAll K mg ad){C_1:Addr}(h_NoWheel:ad "NoWheel"=some C_1){t_LONGEST:Tok}(n_LONGEST:mg "LONGEST"=some (.int 60 t_LONGEST)):
  FnOk P w K mg base (CXe P w) 1 f fd ["length"] (spD K (aU ad) F_Q03 1):=by
 have nd:=sc_check_wheel.nd;refine Df.is cxe_ok ["length"] 0 b_Q03 d sc_check_wheel rfl rfl rfl λ cdv A outer s H E hr=>?_
 exact(ax (cw (mZ (jc (o4 (aa 0) af) (fM _ (qX (aa 0) (rY rfl n_LONGEST))))) (fX (xa.cl _ _ h_NoWheel).1 (fV h_NoWheel) rfl) bD))
abbrev cS:=Fu "check_wheel" s_Q03 ["length"] 1 F_Q03 1
abbrev s_Q01:Stmt:=top 8
theorem sc_check_sides:FnScope ["sides"] ["sides"] (ah s_Q01):=by constructor<;>first|rfl|decide +kernel
theorem ok_Q01 {f:Addr}{fd:FuncData}(d:Df K mg "check_sides" s_Q01 ["sides"] f fd)(q_check_wheel:cS P w K mg base ad)(xa:XAll K mg ad){C_1:Addr}(h_NoWheel:ad "NoWheel"=some C_1)(z_len:mg "len"=none)(z_min:mg "min"=none):
  FnOk P w K mg base (CXe P w) 2 f fd ["sides"] (spD K (aU ad) F_Q01 1):=by
 have nd:=sc_check_sides.nd;refine Df.is cxe_ok ["sides"] 1 b_Q01 d sc_check_sides rfl rfl rfl λ cdv A outer s H E hr=>?_
 exact(ai (cw (mZ (jc (iT (c8 z_len rfl (aa 0)) af) (fM _ (o4 (p8 z_min rfl (aa 0)) af)))) (fX (xa.cl _ _ h_NoWheel).1 (fV h_NoWheel) rfl) bD) (ax (eY (aC q_check_wheel.d q_check_wheel.o hr (by decide) rfl (ae (bK (aA (aa 0) af) (aA (aa 0) af)) aj)))))
abbrev cV:=Fu "check_sides" s_Q01 ["sides"] 2 F_Q01 1
abbrev s_Q00:Stmt:=top 9
theorem sc_all_spots:FnScope ["sides","spots","across"] ["sides"] (ah s_Q00):=by constructor<;>first|rfl|decide +kernel
theorem ok_Q00 {f:Addr}{fd:FuncData}(d:Df K mg "all_spots" s_Q00 ["sides"] f fd)(z_range:mg "range"=none):
  FnOk P w K mg base (CXe P w) 1 f fd ["sides"] (spD K (aU ad) F_Q00 1):=by
 have nd:=sc_all_spots.nd;refine Df.is cxe_ok ["sides","spots","across"] 0 b_Q00 d sc_all_spots rfl rfl rfl λ cdv A outer s H E hr=>?_
 exact(ai (ba (i:=1) (bM aj) nd rfl (Or.inl rfl)) (ai (fA [0] (i:=2) (da rfl z_range (aA (aa 0) af)) (ax (kU (i:=1) (eO (fs:=["across"]) (is:=[2]) (fe:=(Dv.eTup (Dv.lCons (Dv.eVar 1) (Dv.lCons (Dv.eVar 0) Dv.lNil)))) (fc:=(Dv.eBl true)) (be (fsc:=ah s_Q00) (N:=["sides","spots","across"]) rfl rfl (by decide +kernel)) (da rfl z_range (aA (aa 0) af)) (λ cl L s₀ H₀ ex=>(bV (ae (aa 1) (ae (aa 0) aj)))) (λ cl L s₀ H₀ ex=>hZ)))) nd rfl (Or.inr rfl)) (ax (eQ 1))))
abbrev cD:=Fu "all_spots" s_Q00 ["sides"] 1 F_Q00 1
abbrev s_Q02:Stmt:=top 10
theorem sc_check_torus_beat:FnScope ["sides","beat"] ["sides","beat"] (ah s_Q02):=by constructor<;>first|rfl|decide +kernel
theorem ok_Q02 {f:Addr}{fd:FuncData}(d:Df K mg "check_torus_beat" s_Q02 ["sides","beat"] f fd)(q_check_sides:cV P w K mg base ad)(q_all_spots:cD P w K mg base ad)(xa:XAll K mg ad){C_0:Addr}(h_NoBeat:ad "NoBeat"=some C_0)(z_len:mg "len"=none):
  FnOk P w K mg base (CXe P w) 3 f fd ["sides","beat"] (spD K (aU ad) F_Q02 2):=by
 have nd:=sc_check_torus_beat.nd;refine Df.is cxe_ok ["sides","beat"] 2 b_Q02 d sc_check_torus_beat rfl rfl rfl λ cdv A outer s H E hr=>?_
 exact(ai (eY (aC q_check_sides.d q_check_sides.o hr (by decide) rfl (ae (aa 0) aj))) (ax (cw (mZ (jc (jy (c8 z_len rfl (aa 1)) af) (fM _ (iT (aa 1) (eO (fs:=["beat"]) (is:=[1]) (fe:=(Dv.eVar 0)) (fc:=(Dv.eB2 (Dv.inG false) (Dv.eVar 0) (Dv.eVar 1))) (be (fsc:=ah s_Q02) (N:=["sides","beat"]) rfl rfl (by decide +kernel)) (b8 (aC q_all_spots.d q_all_spots.o hr (by decide) rfl (ae (aa 0) aj))) (λ cl L s₀ H₀ ex=>(aa 0)) (λ cl L s₀ H₀ ex=>(mM (nP (aa 0) (aa 1))))))))) (fX (xa.cl _ _ h_NoBeat).1 (fV h_NoBeat) rfl) bD)))
abbrev bQ:=Fu "check_torus_beat" s_Q02 ["sides","beat"] 3 F_Q02 2
abbrev s_Q0L:Stmt:=top 11
theorem sc_torus_partner:FnScope ["sides","beat","starts","falls","start"] ["sides","beat","starts"] (ah s_Q0L):=by constructor<;>first|rfl|decide +kernel
theorem ok_Q0L {f:Addr}{fd:FuncData}(d:Df K mg "torus_partner" s_Q0L ["sides","beat","starts"] f fd)(q_check_torus_beat:bQ P w K mg base ad)(q_all_spots:cD P w K mg base ad)(z_sorted:mg "sorted"=none):
  FnOk P w K mg base (CXe P w) 4 f fd ["sides","beat","starts"] (spD K (aU ad) F_Q0M 3):=by
 have nd:=sc_torus_partner.nd;refine Df.is cxe_ok ["sides","beat","starts","falls","start"] 3 b_Q0M d sc_torus_partner rfl rfl rfl λ cdv A outer s H E hr=>?_
 exact(ai (eY (aC q_check_torus_beat.d q_check_torus_beat.o hr (by decide) rfl (ae (aa 0) (ae (aa 1) aj)))) (ai (eY (aC q_check_torus_beat.d q_check_torus_beat.o hr (by decide) rfl (ae (aa 0) (ae (aa 2) aj)))) (ai (ba (i:=3) (bM aj) nd rfl (Or.inl rfl)) (ai (fA [2] (i:=4) (b8 (aa 2)) (ax (kU (i:=3) (eO (fs:=["sides","start"]) (is:=[0,4]) (fe:=(Dv.eTup (Dv.lCons (Dv.eOp .mod (Dv.eOp .add (Dv.eIx (Dv.eVar 0) (Dv.eInt 0)) (Dv.eIx (Dv.eVar 2) (Dv.eInt 0))) (Dv.eIx (Dv.eVar 1) (Dv.eInt 0))) (Dv.lCons (Dv.eOp .mod (Dv.eOp .add (Dv.eIx (Dv.eVar 0) (Dv.eInt 1)) (Dv.eIx (Dv.eVar 2) (Dv.eInt 1))) (Dv.eIx (Dv.eVar 1) (Dv.eInt 1))) Dv.lNil)))) (fc:=(Dv.eBl true)) (be (fsc:=ah s_Q0L) (N:=["sides","beat","starts","falls","start"]) rfl rfl (by decide +kernel)) (b8 (aa 1)) (λ cl L s₀ H₀ ex=>(bV (ae (aq (aF (aA (aa 0) af) (aA (aa 2) af)) (aA (aa 1) af)) (ae (aq (aF (aA (aa 0) af) (aA (aa 2) af)) (aA (aa 1) af)) aj)))) (λ cl L s₀ H₀ ex=>hZ)))) nd rfl (Or.inr rfl)) (ax (bx (ly z_sorted rfl (aa 3) (aC q_all_spots.d q_all_spots.o hr (by decide) rfl (ae (aa 0) aj)))))))))
abbrev cu:=Fu "torus_partner" s_Q0L ["sides","beat","starts"] 4 F_Q0M 3
abbrev s_Q07:Stmt:=top 13
theorem sc_law_cell:FnScope ["_law_script","_law_k","_law_number"] ["_law_script","_law_k"] (ah s_Q07):=by constructor<;>first|rfl|decide +kernel
theorem ok_Q07 {f:Addr}{fd:FuncData}(d:Df K mg "_law_cell" s_Q07 ["_law_script","_law_k"] f fd)(z_len:mg "len"=none):
  FnOk P w K mg base (CXe P w) 1 f fd ["_law_script","_law_k"] (spD K (aU ad) F_Q07 2):=by
 have nd:=sc_law_cell.nd;refine Df.is cxe_ok ["_law_script","_law_k","_law_number"] 0 b_Q07 d sc_law_cell rfl rfl rfl λ cdv A outer s H E hr=>?_
 exact(ai (cw (o4 (aa 1) (c8 z_len rfl (aa 0))) (ax (bx (aA (aa 0) (aa 1)))) bD) (ai (ba (i:=2) (aF (bK af (aa 1)) af) nd rfl (Or.inl rfl)) (ai (cw (qX (c8 z_len rfl (aa 0)) af) (ax (ba (i:=2) (aq (aF (bK (aA (aa 0) (aq (aa 1) (c8 z_len rfl (aa 0)))) af) (bK (aa 1) af)) af) nd rfl (Or.inl rfl))) bD) (ax (bx (aq (bK (aa 2) (aa 2)) af))))))
abbrev cp:=Fu "_law_cell" s_Q07 ["_law_script","_law_k"] 1 F_Q07 2
abbrev s_Q0G:Stmt:=top 14
theorem sc_law_side_pair:FnScope ["_law_side","_law_number","_law_some","_law_step","_law_one","_law_other"] ["_law_side","_law_number"] (ah s_Q0G):=by constructor<;>first|rfl|decide +kernel
theorem ok_Q0G {f:Addr}{fd:FuncData}(d:Df K mg "_law_side_pair" s_Q0G ["_law_side","_law_number"] f fd)(z_range:mg "range"=none)(z_len:mg "len"=none)(z_list:mg "list"=none):
  FnOk P w K mg base (CXe P w) 1 f fd ["_law_side","_law_number"] (spD K (aU ad) F_Q0G 2):=by
 have nd:=sc_law_side_pair.nd;refine Df.is cxe_ok ["_law_side","_law_number","_law_some","_law_step","_law_one","_law_other"] 0 b_Q0G d sc_law_side_pair rfl rfl rfl λ cdv A outer s H E hr=>?_
 exact(ai (kx (i:=2) (fs:=["_law_side"]) (is:=[0]) (fe:=(Dv.eVar 0)) (fc:=(Dv.eCm .eq (Dv.eOp .mod (Dv.eVar 1) (Dv.eVar 0)) (Dv.eInt 0))) (be (fsc:=ah s_Q0G) (N:=["_law_side","_law_number","_law_some","_law_step","_law_one","_law_other"]) rfl rfl (by decide +kernel)) (lz rfl z_range af (aF (aa 0) af)) (λ cl L s₀ H₀ ex=>(aa 0)) (λ cl L s₀ H₀ ex=>(mM (jy (aq (aa 1) (aa 0)) af))) nd rfl rfl) (ai (ba (i:=3) (aA (aa 2) (aq (aa 1) (c8 z_len rfl (aa 2)))) nd rfl (Or.inl rfl)) (ai (aM [3] (i:=4) (iq z_list rfl z_range rfl (aa 3)) nd rfl (Or.inl rfl)) (ai (aM [0,3] (i:=5) (gm z_list rfl z_range rfl af (aa 0) (aa 3)) nd rfl (Or.inl rfl)) (ai (cw (jy (aq (aS (aa 1) af) af) af) (ax (nv [4,5] (i:=4) (j:=5) (aa 5) (aa 4) nd rfl rfl (by decide) rfl rfl)) bD) (ax (bx (bM (ae (aa 4) (ae (aa 5) aj))))))))))
abbrev cq:=Fu "_law_side_pair" s_Q0G ["_law_side","_law_number"] 1 F_Q0G 2
abbrev s_Q0A:Stmt:=top 15
theorem sc_law_gcd:FnScope ["_law_one","_law_other"] ["_law_one","_law_other"] (ah s_Q0A):=by constructor<;>first|rfl|decide +kernel
theorem ok_Q0A {f:Addr}{fd:FuncData}(d:Df K mg "_law_gcd" s_Q0A ["_law_one","_law_other"] f fd):
  FnOk P w K mg base (CXe P w) 1 f fd ["_law_one","_law_other"] (spD K (aU ad) F_Q0A 2):=by
 have nd:=sc_law_gcd.nd;refine Df.is cxe_ok ["_law_one","_law_other"] 0 b_Q0A d sc_law_gcd rfl rfl rfl λ cdv A outer s H E hr=>?_
 exact(ai (mJ 100000 (iT (aa 1) af) (ax (nv [0,1] (i:=0) (j:=1) (aa 1) (aq (aa 0) (aa 1)) nd rfl rfl (by decide) rfl rfl))) (ax (eQ 0)))
abbrev gI:=Fu "_law_gcd" s_Q0A ["_law_one","_law_other"] 1 F_Q0A 2
abbrev s_Q0E:Stmt:=top 16
theorem sc_law_moved:FnScope ["_law_sides","_law_beat","_law_right","_law_up","_law_lean","_law_found","_law_x","_law_y"] ["_law_sides","_law_beat","_law_right","_law_up","_law_lean"] (ah s_Q0E):=by constructor<;>first|rfl|decide +kernel
theorem ok_Q0E {f:Addr}{fd:FuncData}(d:Df K mg "_law_moved" s_Q0E ["_law_sides","_law_beat","_law_right","_law_up","_law_lean"] f fd)(z_sorted:mg "sorted"=none):
  FnOk P w K mg base (CXe P w) 1 f fd ["_law_sides","_law_beat","_law_right","_law_up","_law_lean"] (spD K (aU ad) F_Q0F 5):=by
 have nd:=sc_law_moved.nd;refine Df.is cxe_ok ["_law_sides","_law_beat","_law_right","_law_up","_law_lean","_law_found","_law_x","_law_y"] 0 b_Q0F d sc_law_moved rfl rfl rfl λ cdv A outer s H E hr=>?_
 exact(ai (ba (i:=5) (bM aj) nd rfl (Or.inl rfl)) (ai (lj [1] (b8 (aa 1)) (rG (xs:=[6,7]) (eN (i:=6) (eN (i:=7) oB nd rfl (Or.inl rfl)) nd rfl (Or.inl rfl)) rfl) (ax (kM (i:=5) (bV (ae (aq (aF (aa 6) (aa 2)) (aA (aa 0) af)) (ae (aq (aF (aF (aa 7) (aa 3)) (bK (aa 4) (aa 6))) (aA (aa 0) af)) aj)))))) (ax (bx (cg z_sorted rfl (aa 5))))))
abbrev cH:=Fu "_law_moved" s_Q0E ["_law_sides","_law_beat","_law_right","_law_up","_law_lean"] 1 F_Q0F 5
abbrev s_Q0J:Stmt:=top 17
theorem sc_law_torus_pair:FnScope ["_law_script","_law_start","_law_sides","_law_across","_law_along","_law_lean","_law_found","_law_k","_law_number","_law_beat","_law_x"] ["_law_script","_law_start","_law_sides"] (ah s_Q0J):=by constructor<;>first|rfl|decide +kernel
theorem ok_Q0J {f:Addr}{fd:FuncData}(d:Df K mg "_law_torus_pair" s_Q0J ["_law_script","_law_start","_law_sides"] f fd)(q_law_side_pair:cq P w K mg base ad)(q_law_cell:cp P w K mg base ad)(q_law_gcd:gI P w K mg base ad)(q_law_moved:cH P w K mg base ad)(z_range:mg "range"=none):
  FnOk P w K mg base (CXe P w) 2 f fd ["_law_script","_law_start","_law_sides"] (spD K (aU ad) F_Q0K 3):=by
 have nd:=sc_law_torus_pair.nd;refine Df.is cxe_ok ["_law_script","_law_start","_law_sides","_law_across","_law_along","_law_lean","_law_found","_law_k","_law_number","_law_beat","_law_x"] 1 b_Q0K d sc_law_torus_pair rfl rfl rfl λ cdv A outer s H E hr=>?_
 exact(ai (aM [0,1,2] (i:=3) (aC q_law_side_pair.d q_law_side_pair.o hr (by decide) rfl (ae (aA (aa 2) af) (ae (aq (aC q_law_cell.d q_law_cell.o hr (by decide) rfl (ae (aa 0) (ae (aa 1) aj))) af) aj))) nd rfl (Or.inl rfl)) (ai (aM [0,1,2] (i:=4) (aC q_law_side_pair.d q_law_side_pair.o hr (by decide) rfl (ae (aA (aa 2) af) (ae (aq (aS (aC q_law_cell.d q_law_cell.o hr (by decide) rfl (ae (aa 0) (ae (aa 1) aj))) af) af) aj))) nd rfl (Or.inl rfl)) (ai (ba (i:=5) (bK (aS (aA (aa 2) af) (aC q_law_gcd.d q_law_gcd.o hr (by decide) rfl (ae (aA (aa 2) af) (ae (aA (aa 2) af) aj)))) (aq (aC q_law_cell.d q_law_cell.o hr (by decide) rfl (ae (aa 0) (ae (aF (aa 1) af) aj))) af)) nd rfl (Or.inl rfl)) (ai (ba (i:=6) (bM aj) nd rfl (Or.inl rfl)) (ai (fA [] (i:=7) (da rfl z_range af) (ai (ba (i:=8) (aq (bK (aC q_law_cell.d q_law_cell.o hr (by decide) rfl (ae (aa 0) (ae (aF (aF (aa 1) af) (aa 7)) aj))) af) af) nd rfl (Or.inl rfl)) (ai (aM [] (i:=9) (bM aj) nd rfl (Or.inl rfl)) (ai (fA [3,7] (i:=10) (b8 (aA (aa 3) (aa 7))) (ax (aM [4,7,9,10] (i:=9) (aF (aa 9) (eO (fs:=["_law_x"]) (is:=[10]) (fe:=(Dv.eTup (Dv.lCons (Dv.eVar 1) (Dv.lCons (Dv.eVar 0) Dv.lNil)))) (fc:=(Dv.eBl true)) (be (fsc:=ah s_Q0J) (N:=["_law_script","_law_start","_law_sides","_law_across","_law_along","_law_lean","_law_found","_law_k","_law_number","_law_beat","_law_x"]) rfl rfl (by decide +kernel)) (b8 (aA (aa 4) (aa 7))) (λ cl L s₀ H₀ ex=>(bV (ae (aa 1) (ae (aa 0) aj)))) (λ cl L s₀ H₀ ex=>hZ))) nd rfl (Or.inl rfl))) nd rfl (Or.inr rfl)) (ax (p5 [2,5,8,9] (i:=6) (aC q_law_moved.d q_law_moved.o hr (by decide) rfl (ae (aa 2) (ae (aa 9) (ae (aq (aa 8) af) (ae (aq (aS (aa 8) af) af) (ae (aa 5) aj))))))))))) nd rfl (Or.inl rfl)) (ax (eQ 6)))))))
abbrev bX:=Fu "_law_torus_pair" s_Q0J ["_law_script","_law_start","_law_sides"] 2 F_Q0K 3
abbrev s_Q0H:Stmt:=top 18
theorem sc_law_spoiled:FnScope ["_law_sides","_law_beat","_law_number","_law_at","_law_rest","_law_spot"] ["_law_sides","_law_beat","_law_number"] (ah s_Q0H):=by constructor<;>first|rfl|decide +kernel
theorem ok_Q0H {f:Addr}{fd:FuncData}(d:Df K mg "_law_spoiled" s_Q0H ["_law_sides","_law_beat","_law_number"] f fd)(z_len:mg "len"=none)(z_sorted:mg "sorted"=none):
  FnOk P w K mg base (CXe P w) 1 f fd ["_law_sides","_law_beat","_law_number"] (spD K (aU ad) F_Q0I 3):=by
 have nd:=sc_law_spoiled.nd;refine Df.is cxe_ok ["_law_sides","_law_beat","_law_number","_law_at","_law_rest","_law_spot"] 0 b_Q0I d sc_law_spoiled rfl rfl rfl λ cdv A outer s H E hr=>?_
 exact(ai (ba (i:=3) (aq (aa 2) (c8 z_len rfl (aa 1))) nd rfl (Or.inl rfl)) (ai (aM [1,3] (i:=4) (aF (i4 (aa 1) kT (kB (aa 3))) (i4 (aa 1) (kB (aF (aa 3) af)) kT)) nd rfl (Or.inl rfl)) (ai (aM [0,2] (i:=5) (bV (ae (aq (aS (aa 2) af) (aA (aa 0) af)) (ae (aq (aS (aa 2) af) (aA (aa 0) af)) aj))) nd rfl (Or.inl rfl)) (ai (cw (nP (aa 5) (aa 4)) (ax (eQ 1)) bD) (ax (bx (cg z_sorted rfl (aF (aa 4) (bM (ae (aa 5) aj))))))))))
abbrev cT:=Fu "_law_spoiled" s_Q0H ["_law_sides","_law_beat","_law_number"] 1 F_Q0I 3
abbrev s_Q08:Stmt:=top 19
theorem sc_law_fills:FnScope ["_law_sides","_law_beat","_law_starts","_law_met","_law_right","_law_up","_law_x","_law_y","_law_spot"] ["_law_sides","_law_beat","_law_starts"] (ah s_Q08):=by constructor<;>first|rfl|decide +kernel
theorem ok_Q08 {f:Addr}{fd:FuncData}(d:Df K mg "_law_fills" s_Q08 ["_law_sides","_law_beat","_law_starts"] f fd)(z_len:mg "len"=none)(z_max:mg "max"=none)(z_list:mg "list"=none):
  FnOk P w K mg base (CXe P w) 1 f fd ["_law_sides","_law_beat","_law_starts"] (spD K (aU ad) F_Q09 3):=by
 have nd:=sc_law_fills.nd;refine Df.is cxe_ok ["_law_sides","_law_beat","_law_starts","_law_met","_law_right","_law_up","_law_x","_law_y","_law_spot"] 0 b_Q09 d sc_law_fills rfl rfl rfl λ cdv A outer s H E hr=>?_
 exact oX (C:=fO (cxe_ok (P:=P) (w:=w)) (aU ad) K mg base ["_law_sides","_law_beat","_law_starts","_law_met","_law_right","_law_up","_law_x","_law_y","_law_spot"] "_law_fills" (ah s_Q08) f cdv A outer s H E hr) (bV (ae (aq (aF (aa 6) (aa 4)) (aA (aa 0) af)) (ae (aq (aF (aa 7) (aa 5)) (aA (aa 0) af)) aj))) λ tq pq qq=>oX (C:=fO (cxe_ok (P:=P) (w:=w)) (aU ad) K mg base ["_law_sides","_law_beat","_law_starts","_law_met","_law_right","_law_up","_law_x","_law_y","_law_spot"] "_law_fills" (ah s_Q08) f cdv A outer s H E hr) (bK (aA (aa 0) af) (aA (aa 0) af)) λ tp pp qp=>⟨_,dm (iE (i:=3) nd rfl (Or.inl rfl) nE) (dm (kg Ba rfl (ip (pv 2)) (ik rfl (b5 (bU (i:=4) nd rfl (Or.inl rfl)) (b5 (bU (i:=5) nd rfl (Or.inl rfl)) e8))) (dH (kg Ba rfl (ip (pv 1)) (ik rfl (b5 (bU (i:=6) nd rfl (Or.inl rfl)) (b5 (bU (i:=7) nd rfl (Or.inl rfl)) e8))) (dm (iE (i:=8) nd rfl (Or.inl rfl) pq) (dH (qw (w5 (xN (by decide) _) hr.units) (pv 3) (pv 8) (rh nN (oa (w5 (xN (by decide) _) hr.units) (pv 3) (pv 8) iD ⟨rfl,rfl,rfl,rfl⟩) iD) rfl)))))) (dH (jX (nq (eU rj (cC lU rfl z_len CF (aI (pv 3) bj)) pp (nomark _)) (nK (eU rj (cC (md rfl) rfl z_max (by decide +kernel) (aI (iR rfl z_list rfl (pv 3) rfl rfl rfl) bj)) iD (nomark _))))))),kl qq qp⟩
abbrev eF:=Fu "_law_fills" s_Q08 ["_law_sides","_law_beat","_law_starts"] 1 F_Q09 3
abbrev s_Q06:Stmt:=top 20
theorem sc_law_any:FnScope ["_law_script","_law_start","_law_many","_law_sides","_law_found","_law_k","_law_number"] ["_law_script","_law_start","_law_many","_law_sides"] (ah s_Q06):=by constructor<;>first|rfl|decide +kernel
theorem ok_Q06 {f:Addr}{fd:FuncData}(d:Df K mg "_law_any" s_Q06 ["_law_script","_law_start","_law_many","_law_sides"] f fd)(q_law_cell:cp P w K mg base ad)(z_range:mg "range"=none)(z_sorted:mg "sorted"=none)(z_set:mg "set"=none):
  FnOk P w K mg base (CXe P w) 2 f fd ["_law_script","_law_start","_law_many","_law_sides"] (spD K (aU ad) F_Q06 4):=by
 have nd:=sc_law_any.nd;refine Df.is cxe_ok ["_law_script","_law_start","_law_many","_law_sides","_law_found","_law_k","_law_number"] 1 b_Q06 d sc_law_any rfl rfl rfl λ cdv A outer s H E hr=>?_
 exact(ai (ba (i:=4) (bM aj) nd rfl (Or.inl rfl)) (ai (fA [] (i:=5) (da rfl z_range (aa 2)) (ai (ba (i:=6) (aq (bK (aC q_law_cell.d q_law_cell.o hr (by decide) rfl (ae (aa 0) (ae (aF (aa 1) (aa 5)) aj))) af) af) nd rfl (Or.inl rfl)) (ax (kM (i:=4) (bV (ae (aq (aa 6) (aA (aa 3) af)) (ae (aq (aS (aa 6) af) (aA (aa 3) af)) aj)))))) nd rfl (Or.inl rfl)) (ax (bx (je z_sorted rfl z_set rfl (aa 4))))))
abbrev gG:=Fu "_law_any" s_Q06 ["_law_script","_law_start","_law_many","_law_sides"] 2 F_Q06 4
abbrev s_Q0B:Stmt:=top 21
theorem sc_law_is:FnScope ["_law_found","_law_due"] ["_law_found","_law_due"] (ah s_Q0B):=by constructor<;>first|rfl|decide +kernel
theorem ok_Q0B {f:Addr}{fd:FuncData}(d:Df K mg "_law_is" s_Q0B ["_law_found","_law_due"] f fd)(z_isinstance:mg "isinstance"=none)(z_bool:mg "bool"=none):
  FnOk P w K mg base (CXe P w) 1 f fd ["_law_found","_law_due"] (spD K (aU ad) F_Q0C 2):=by
 have nd:=sc_law_is.nd;refine Df.is cxe_ok ["_law_found","_law_due"] 0 b_Q0C d sc_law_is rfl rfl rfl λ cdv A outer s H E hr=>?_
 exact(ax (bx (sG (lN z_isinstance z_bool rfl rfl (aa 0)) (rF (tV (aa 0) (aa 1))))))
abbrev jf:=Fu "_law_is" s_Q0B ["_law_found","_law_due"] 1 F_Q0C 2
abbrev s_Q05:Stmt:=top 22
theorem sc_law_about:FnScope ["_law_beat"] ["_law_beat"] (ah s_Q05):=by constructor<;>first|rfl|decide +kernel
theorem ok_Q05 {f:Addr}{fd:FuncData}(d:Df K mg "_law_about" s_Q05 ["_law_beat"] f fd)(z_sorted:mg "sorted"=none):
  FnOk P w K mg base (CXe P w) 1 f fd ["_law_beat"] (spD K (aU ad) F_Q05 1):=by
 have nd:=sc_law_about.nd;refine Df.is cxe_ok ["_law_beat"] 0 b_Q05 d sc_law_about rfl rfl rfl λ cdv A outer s H E hr=>?_
 exact(ax (bx (cg z_sorted rfl (nH (ts:=["_law_x","_law_y"]) (fs:=[]) (is:=[]) (fe:=(Dv.eTup (Dv.lCons (Dv.eVar 1) (Dv.lCons (Dv.eVar 0) Dv.lNil)))) (fc:=(Dv.eBl true)) (be (fsc:=ah s_Q05) (N:=["_law_beat"]) rfl rfl (by decide +kernel)) (.cons (.cons .nil)) (λ _=>rfl) (λ _=>rfl) (b8 (aa 0)) (λ cl L s₀ H₀ ex=>(bV (ae (aa 1) (ae (aa 0) aj)))) (λ cl L s₀ H₀ ex=>hZ)))))
abbrev eC:=Fu "_law_about" s_Q05 ["_law_beat"] 1 F_Q05 1
abbrev s_Q04:Stmt:=top 23
theorem sc_law:FnScope ["_law_script","_law_cell_here","_law_wide","_law_sides","_law_beat","_law_starts","_law_due","_law_handed","_law_about_here","_law_on"] ["_law_script"] (ah s_Q04):=by constructor<;>first|rfl|decide +kernel
theorem ok_Q04 {f:Addr}{fd:FuncData}(d:Df K mg "law" s_Q04 ["_law_script"] f fd)(q_law_cell:cp P w K mg base ad)(q_law_torus_pair:bX P w K mg base ad)(q_law_spoiled:cT P w K mg base ad)(q_law_any:gG P w K mg base ad)(q_law_fills:eF P w K mg base ad)(q_law_is:jf P w K mg base ad)(q_torus_partner:cu P w K mg base ad)(q_law_about:eC P w K mg base ad)(q_law_moved:cH P w K mg base ad)(z_list:mg "list"=none):
  FnOk P w K mg base (CXe P w) 5 f fd ["_law_script"] (spD K (aU ad) F_Q0D 1):=by
 have nd:=sc_law.nd;refine Df.is cxe_ok ["_law_script","_law_cell_here","_law_wide","_law_sides","_law_beat","_law_starts","_law_due","_law_handed","_law_about_here","_law_on"] 4 b_Q0D d sc_law rfl rfl rfl λ cdv A outer s H E hr=>?_
 exact(ai (ba (i:=1) (aC q_law_cell.d q_law_cell.o hr (by decide) rfl (ae (aa 0) (ae af aj))) nd rfl (Or.inl rfl)) (ai (ba (i:=2) (aF af (aq (aa 1) af)) nd rfl (Or.inl rfl)) (ai (aM [1,2] (i:=3) (bV (ae (aa 2) (ae (aF af (aq (aS (aa 1) af) (aS af (aa 2)))) aj))) nd rfl (Or.inl rfl)) (ai (ko [0,3] (xs:=[4,5]) (aC q_law_torus_pair.d q_law_torus_pair.o hr (by decide) rfl (ae (aa 0) (ae af (ae (aa 3) aj)))) (eN (i:=4) (eN (i:=5) oB nd rfl (Or.inl rfl)) nd rfl (Or.inl rfl)) rfl) (ai (cw (jy (aq (aS (aa 1) af) af) af) (ax (aM [0,3,5] (i:=5) (aC q_law_spoiled.d q_law_spoiled.o hr (by decide) rfl (ae (aa 3) (ae (aa 5) (ae (aq (bK (aC q_law_cell.d q_law_cell.o hr (by decide) rfl (ae (aa 0) (ae af aj))) af) af) aj)))) nd rfl (Or.inl rfl))) bD) (ai (cw (jy (aq (aS (aa 1) af) af) af) (ai (aM [0,1,3] (i:=4) (aC q_law_any.d q_law_any.o hr (by decide) rfl (ae (aa 0) (ae af (ae (aF af (aq (aS (aa 1) af) af)) (ae (aa 3) aj))))) nd rfl (Or.inl rfl)) (ax (aM [0,1,3] (i:=5) (aC q_law_any.d q_law_any.o hr (by decide) rfl (ae (aa 0) (ae af (ae (aF af (aq (aS (aa 1) af) af)) (ae (aa 3) aj))))) nd rfl (Or.inl rfl)))) bD) (ai (ba (i:=6) (aC q_law_fills.d q_law_fills.o hr (by decide) rfl (ae (aa 3) (ae (aa 4) (ae (aa 5) aj)))) nd rfl (Or.inl rfl)) (ai (aM [4,5] (i:=7) (bM (ae (ll z_list rfl (aa 4)) (ae (ll z_list rfl (aa 5)) aj))) nd rfl (Or.inl rfl)) (ai (cw (mZ (jc (kf (jW (aC q_law_is.d q_law_is.o hr (by decide) rfl (ae (aC q_torus_partner.d q_torus_partner.o hr (by decide) rfl (ae (aa 3) (ae (aA (aa 7) af) (ae (aA (aa 7) af) aj)))) (ae (aa 6) aj))))) (fM _ (iT (aa 7) (bM (ae (aa 4) (ae (aa 5) aj))))))) (ax (bx oN)) bD) (ai (cw (mZ (jc (kf (jW (aC q_law_is.d q_law_is.o hr (by decide) rfl (ae (aC q_torus_partner.d q_torus_partner.o hr (by decide) rfl (ae (aa 3) (ae (aA (aa 7) af) (ae (aA (aa 7) af) aj)))) (ae (aa 6) aj))))) (fM _ (iT (aa 7) (bM (ae (aa 4) (ae (aa 5) aj))))))) (ax (bx oN)) bD) (ai (aM [3] (i:=8) (bV (ae (aA (aa 3) af) (ae (aA (aa 3) af) aj))) nd rfl (Or.inl rfl)) (ai (cw (kf (jW (aC q_law_is.d q_law_is.o hr (by decide) rfl (ae (aC q_torus_partner.d q_torus_partner.o hr (by decide) rfl (ae (aa 8) (ae (aC q_law_about.d q_law_about.o hr (by decide) rfl (ae (aa 4) aj)) (ae (aC q_law_about.d q_law_about.o hr (by decide) rfl (ae (aa 5) aj)) aj)))) (ae (aa 6) aj))))) (ax (bx oN)) bD) (ai (aM [1,3,4] (i:=9) (aC q_law_moved.d q_law_moved.o hr (by decide) rfl (ae (aa 3) (ae (aa 4) (ae (aq (aa 1) af) (ae (aq (aS (aa 1) af) af) (ae af aj)))))) nd rfl (Or.inl rfl)) (ax (bx (aC q_law_is.d q_law_is.o hr (by decide) rfl (ae (aC q_torus_partner.d q_torus_partner.o hr (by decide) rfl (ae (aa 3) (ae (aa 9) (ae (aC q_law_moved.d q_law_moved.o hr (by decide) rfl (ae (aa 3) (ae (aa 5) (ae af (ae af (ae af aj)))))) aj)))) (ae (aa 6) aj))))))))))))))))))
end
theorem gD {P:List Value->Prop}(h:P []):∀ us:List Value,us.length=0->P us:=λ us hl=>(vM hl)▸h
theorem aX {P:List Value->Prop}{k:Nat}(h:∀ a (us:List Value),us.length=k->P (a::us)):∀ us:List Value,us.length=k+1->P us:=by
 intro us hl;cases us with
 | nil=>exact absurd hl (Nat.succ_ne_zero k).symm
 | cons a r=>exact h a r (Nat.succ.inj hl)
theorem jz {P:List Value->Prop}(h:∀ a0,P [a0]):∀ us:List Value,us.length=1->P us:=aX (P:=P) λ a0=>gD (P:=λ us=>P (a0:: us)) (h a0)
theorem jt {P:List Value->Prop}(h:∀ a0 a1,P [a0,a1]):∀ us:List Value,us.length=2->P us:=aX (P:=P) λ a0=>aX (P:=λ us=>P (a0:: us)) λ a1=>gD (P:=λ us=>P (a0::a1:: us)) (h a0 a1)
theorem kA {P:List Value->Prop}(h:∀ a0 a1 a2,P [a0,a1,a2]):∀ us:List Value,us.length=3->P us:=aX (P:=P) λ a0=>aX (P:=λ us=>P (a0:: us)) λ a1=>aX (P:=λ us=>P (a0::a1:: us)) λ a2=>gD (P:=λ us=>P (a0::a1::a2:: us)) (h a0 a1 a2)
theorem tS {P:List Value->Prop}(h:∀ a0 a1 a2 a3,P [a0,a1,a2,a3]):∀ us:List Value,us.length=4->P us:=aX (P:=P) λ a0=>aX (P:=λ us=>P (a0:: us)) λ a1=>aX (P:=λ us=>P (a0::a1:: us)) λ a2=>aX (P:=λ us=>P (a0::a1::a2:: us)) λ a3=>gD (P:=λ us=>P (a0::a1::a2::a3:: us)) (h a0 a1 a2 a3)
theorem tm {P:List Value->Prop}(h:∀ a0 a1 a2 a3 a4,P [a0,a1,a2,a3,a4]):∀ us:List Value,us.length=5->P us:=aX (P:=P) λ a0=>aX (P:=λ us=>P (a0:: us)) λ a1=>aX (P:=λ us=>P (a0::a1:: us)) λ a2=>aX (P:=λ us=>P (a0::a1::a2:: us)) λ a3=>aX (P:=λ us=>P (a0::a1::a2::a3:: us)) λ a4=>gD (P:=λ us=>P (a0::a1::a2::a3::a4:: us)) (h a0 a1 a2 a3 a4)
theorem uQ {P:List Value->Prop}(h:∀ a0 a1 a2 a3 a4 a5,P [a0,a1,a2,a3,a4,a5]):∀ us:List Value,us.length=6->P us:=aX (P:=P) λ a0=>aX (P:=λ us=>P (a0:: us)) λ a1=>aX (P:=λ us=>P (a0::a1:: us)) λ a2=>aX (P:=λ us=>P (a0::a1::a2:: us)) λ a3=>aX (P:=λ us=>P (a0::a1::a2::a3:: us)) λ a4=>aX (P:=λ us=>P (a0::a1::a2::a3::a4:: us)) λ a5=>gD (P:=λ us=>P (a0::a1::a2::a3::a4::a5:: us)) (h a0 a1 a2 a3 a4 a5)
abbrev adA (a0 a1 a2:Addr):=mi [("WheelError",a0),("NoWheel",a1),("NoBeat",a2)]
abbrev hA (K:yC)(n:Str)(f:Addr):Prop:=yX K mainGlobals n=some (some (.ref f))
abbrev hL (K:yC)(n:Str)(s:Stmt)(f:Addr)(oc:Value)(od:Option Addr)(kV dc pm:Value)(an:Option Addr)(cd ct:Value)(sl:Array (Option Value)):Prop:=K.lookup f=some ⟨oc,od,.func (zf n n (bf s) (aN s) (ah s) .none kV dc pm an cd ct),sl⟩
abbrev hC (K:yC)(c:Value)(n:Str):Prop:=zH K c n=true
abbrev hK (K:yC)(f:Addr):Prop:=zI K (.ref f)=true
abbrev hS (K:yC)(a b:Addr)(v:Bool):Prop:=zv K (.ref a) (.ref b)=some v
theorem all_mk {l:PySem.W.OpenLaw}{w:World}{K:yC}{h:Heap}{mg:Str->Option Value}{fa:Addr}(X:K.In h)(G:h.Ns mainGlobals mg)(hfa:mg "law"=some (.ref fa))
    {f_Q04:Addr} {od_Q04 an_Q04:Option Addr} {sl_Q04:Array (Option Value)} {oc_Q04 kV_Q04 dc_Q04 pm_Q04 cd_Q04 ct_Q04:Value} {t_LONGEST:Tok} {C_2 C_1 C_0:Addr}
    (D_check_wheel:hD K "check_wheel" s_Q03) (D_check_sides:hD K "check_sides" s_Q01) (D_all_spots:hD K "all_spots" s_Q00) (D_check_torus_beat:hD K "check_torus_beat" s_Q02) (D_torus_partner:hD K "torus_partner" s_Q0L) (D_law_cell:hD K "_law_cell" s_Q07) (D_law_side_pair:hD K "_law_side_pair" s_Q0G) (D_law_gcd:hD K "_law_gcd" s_Q0A) (D_law_moved:hD K "_law_moved" s_Q0E) (D_law_torus_pair:hD K "_law_torus_pair" s_Q0J) (D_law_spoiled:hD K "_law_spoiled" s_Q0H) (D_law_fills:hD K "_law_fills" s_Q08) (D_law_any:hD K "_law_any" s_Q06) (D_law_is:hD K "_law_is" s_Q0B) (D_law_about:hD K "_law_about" s_Q05) (a_Q04:hA K "law" f_Q04) (l_Q04:hL K "law" s_Q04 f_Q04 oc_Q04 od_Q04 kV_Q04 dc_Q04 pm_Q04 an_Q04 cd_Q04 ct_Q04 sl_Q04) (c_Q04:hC K cd_Q04 "law") (k_Q04:hK K f_Q04)
    (z_len:yX K mainGlobals "len"=some none) (z_min:yX K mainGlobals "min"=some none) (z_range:yX K mainGlobals "range"=some none) (z_sorted:yX K mainGlobals "sorted"=some none) (z_list:yX K mainGlobals "list"=some none) (z_max:yX K mainGlobals "max"=some none) (z_set:yX K mainGlobals "set"=some none) (z_isinstance:yX K mainGlobals "isinstance"=some none) (z_bool:yX K mainGlobals "bool"=some none) (n_LONGEST:yX K mainGlobals "LONGEST"=some (some (.int 60 t_LONGEST)))
   (xk:hXs K [("WheelError",C_2),("NoWheel",C_1),("NoBeat",C_0)]):∃ (fd:FuncData) (cls:String->Value),(∀ (s:Shared) (v:Value),BindsTo s fd ⟨[v],[]⟩ [("_law_script",v)])/\∀ base:Heap,K.In base->base.Ns mainGlobals mg->FnOk l.prog w K mg base (CXe l.prog w) 5 fa fd ["_law_script"] (spD K cls F_Q0D 1):=by
  have e:=hfa.symm.trans (Ax X G a_Q04);cases e;obtain⟨f_Q03,fd_check_wheel,d_Q03⟩:=dfE (st:=s_Q03) (ps:=["length"]) X G D_check_wheel λ _ _ _ _ _ _=>jz λ _=>rfl
  obtain⟨f_Q01,fd_check_sides,d_Q01⟩:=dfE (st:=s_Q01) (ps:=["sides"]) X G D_check_sides λ _ _ _ _ _ _=>jz λ _=>rfl
  obtain⟨f_Q00,fd_all_spots,d_Q00⟩:=dfE (st:=s_Q00) (ps:=["sides"]) X G D_all_spots λ _ _ _ _ _ _=>jz λ _=>rfl
  obtain⟨f_Q02,fd_check_torus_beat,d_Q02⟩:=dfE (st:=s_Q02) (ps:=["sides","beat"]) X G D_check_torus_beat λ _ _ _ _ _ _=>jt λ _ _=>rfl
  obtain⟨f_Q0L,fd_torus_partner,d_Q0L⟩:=dfE (st:=s_Q0L) (ps:=["sides","beat","starts"]) X G D_torus_partner λ _ _ _ _ _ _=>kA λ _ _ _=>rfl
  obtain⟨f_Q07,fd_law_cell,d_Q07⟩:=dfE (st:=s_Q07) (ps:=["_law_script","_law_k"]) X G D_law_cell λ _ _ _ _ _ _=>jt λ _ _=>rfl
  obtain⟨f_Q0G,fd_law_side_pair,d_Q0G⟩:=dfE (st:=s_Q0G) (ps:=["_law_side","_law_number"]) X G D_law_side_pair λ _ _ _ _ _ _=>jt λ _ _=>rfl
  obtain⟨f_Q0A,fd_law_gcd,d_Q0A⟩:=dfE (st:=s_Q0A) (ps:=["_law_one","_law_other"]) X G D_law_gcd λ _ _ _ _ _ _=>jt λ _ _=>rfl
  obtain⟨f_Q0E,fd_law_moved,d_Q0E⟩:=dfE (st:=s_Q0E) (ps:=["_law_sides","_law_beat","_law_right","_law_up","_law_lean"]) X G D_law_moved λ _ _ _ _ _ _=>tm λ _ _ _ _ _=>rfl
  obtain⟨f_Q0J,fd_law_torus_pair,d_Q0J⟩:=dfE (st:=s_Q0J) (ps:=["_law_script","_law_start","_law_sides"]) X G D_law_torus_pair λ _ _ _ _ _ _=>kA λ _ _ _=>rfl
  obtain⟨f_Q0H,fd_law_spoiled,d_Q0H⟩:=dfE (st:=s_Q0H) (ps:=["_law_sides","_law_beat","_law_number"]) X G D_law_spoiled λ _ _ _ _ _ _=>kA λ _ _ _=>rfl
  obtain⟨f_Q08,fd_law_fills,d_Q08⟩:=dfE (st:=s_Q08) (ps:=["_law_sides","_law_beat","_law_starts"]) X G D_law_fills λ _ _ _ _ _ _=>kA λ _ _ _=>rfl
  obtain⟨f_Q06,fd_law_any,d_Q06⟩:=dfE (st:=s_Q06) (ps:=["_law_script","_law_start","_law_many","_law_sides"]) X G D_law_any λ _ _ _ _ _ _=>tS λ _ _ _ _=>rfl
  obtain⟨f_Q0B,fd_law_is,d_Q0B⟩:=dfE (st:=s_Q0B) (ps:=["_law_found","_law_due"]) X G D_law_is λ _ _ _ _ _ _=>jt λ _ _=>rfl
  obtain⟨f_Q05,fd_law_about,d_Q05⟩:=dfE (st:=s_Q05) (ps:=["_law_beat"]) X G D_law_about λ _ _ _ _ _ _=>jz λ _=>rfl
  have d_Q04:=rA (st:=s_Q04) (ps:=["_law_script"]) (Ax X G a_Q04) l_Q04 c_Q04 k_Q04 λ _ _ _ _ _ _=>jz λ _=>rfl
  have z_len:=zd X G z_len;have z_min:=zd X G z_min;have z_range:=zd X G z_range;have z_sorted:=zd X G z_sorted;have z_list:=zd X G z_list;have z_max:=zd X G z_max;have z_set:=zd X G z_set;have z_isinstance:=zd X G z_isinstance;have z_bool:=zd X G z_bool;have n_LONGEST:=Ax X G n_LONGEST;have xa:XAll K mg (adA C_2 C_1 C_0):=tY X G xk;have h_WheelError:(adA C_2 C_1 C_0) "WheelError"=some C_2:=rfl;have h_NoWheel:(adA C_2 C_1 C_0) "NoWheel"=some C_1:=rfl;have h_NoBeat:(adA C_2 C_1 C_0) "NoBeat"=some C_0:=rfl;have hkn:∀ c∈(["WheelError","NoWheel","NoBeat"]:List String),∃ Ca,(adA C_2 C_1 C_0) c=some Ca:=cJ ⟨C_2,rfl⟩ (cJ ⟨C_1,rfl⟩ (cJ ⟨C_0,rfl⟩ (fm_nil)));refine⟨zf "law" "law" (bf s_Q04) (aN s_Q04) (ah s_Q04) .none kV_Q04 dc_Q04 pm_Q04 an_Q04 cd_Q04 ct_Q04,aU (adA C_2 C_1 C_0),λ s v=>.of_eq rfl,λ base _ _=>?_⟩;have q_check_wheel:cS l.prog w K mg base (adA C_2 C_1 C_0):=⟨_,_,d_Q03,ok_Q03 d_Q03  xa h_NoWheel  n_LONGEST⟩;have q_check_sides:cV l.prog w K mg base (adA C_2 C_1 C_0):=⟨_,_,d_Q01,ok_Q01 d_Q01 q_check_wheel xa h_NoWheel z_len z_min ⟩;have q_all_spots:cD l.prog w K mg base (adA C_2 C_1 C_0):=⟨_,_,d_Q00,ok_Q00 d_Q00  z_range ⟩;have q_check_torus_beat:bQ l.prog w K mg base (adA C_2 C_1 C_0):=⟨_,_,d_Q02,ok_Q02 d_Q02 q_check_sides q_all_spots xa h_NoBeat z_len ⟩;have q_torus_partner:cu l.prog w K mg base (adA C_2 C_1 C_0):=⟨_,_,d_Q0L,ok_Q0L d_Q0L q_check_torus_beat q_all_spots z_sorted ⟩;have q_law_cell:cp l.prog w K mg base (adA C_2 C_1 C_0):=⟨_,_,d_Q07,ok_Q07 d_Q07  z_len ⟩;have q_law_side_pair:cq l.prog w K mg base (adA C_2 C_1 C_0):=⟨_,_,d_Q0G,ok_Q0G d_Q0G  z_range z_len z_list ⟩;have q_law_gcd:gI l.prog w K mg base (adA C_2 C_1 C_0):=⟨_,_,d_Q0A,ok_Q0A d_Q0A   ⟩;have q_law_moved:cH l.prog w K mg base (adA C_2 C_1 C_0):=⟨_,_,d_Q0E,ok_Q0E d_Q0E  z_sorted ⟩;have q_law_torus_pair:bX l.prog w K mg base (adA C_2 C_1 C_0):=⟨_,_,d_Q0J,ok_Q0J d_Q0J q_law_side_pair q_law_cell q_law_gcd q_law_moved z_range ⟩;have q_law_spoiled:cT l.prog w K mg base (adA C_2 C_1 C_0):=⟨_,_,d_Q0H,ok_Q0H d_Q0H  z_len z_sorted ⟩;have q_law_fills:eF l.prog w K mg base (adA C_2 C_1 C_0):=⟨_,_,d_Q08,ok_Q08 d_Q08  z_len z_max z_list ⟩;have q_law_any:gG l.prog w K mg base (adA C_2 C_1 C_0):=⟨_,_,d_Q06,ok_Q06 d_Q06 q_law_cell z_range z_sorted z_set ⟩;have q_law_is:jf l.prog w K mg base (adA C_2 C_1 C_0):=⟨_,_,d_Q0B,ok_Q0B d_Q0B  z_isinstance z_bool ⟩;have q_law_about:eC l.prog w K mg base (adA C_2 C_1 C_0):=⟨_,_,d_Q05,ok_Q05 d_Q05  z_sorted ⟩;exact ok_Q04 d_Q04 q_law_cell q_law_torus_pair q_law_spoiled q_law_any q_law_fills q_law_is q_torus_partner q_law_about q_law_moved z_list
end Lk63
namespace Bt
open Dv (ins isort)
theorem fD (i:Int):∀ l:List Int,(ins i l).Perm (i::l)
 | []=>.refl _
 | j::r=>by
  unfold ins
  split
  ·exact .refl _
  ·exact((fD i r).cons j).trans (.swap _ _ _)
theorem bP:∀ l:List Int,(isort l).Perm l
 | []=>.refl _
 | i::r=>(fD i _).trans ((bP r).cons i)
theorem fF (i:Int):∀ l:List Int,l.Pairwise (·<=·)->(ins i l).Pairwise (·<=·)
 | [],_=>by unfold ins;simp
 | j::r,h=>by
  unfold ins;obtain⟨h1,h2⟩:=List.pairwise_cons.mp h
  split
  ·rename_i hij
   refine List.pairwise_cons.mpr ⟨λ a ha=>?_,h⟩
   rcases List.mem_cons.mp ha with rfl|ha
   ·exact hij
   ·have:=h1 a ha;omega
  ·rename_i hij
   refine List.pairwise_cons.mpr ⟨λ a ha=>?_,fF i r h2⟩
   rcases List.mem_cons.mp ((fD i r).mem_iff.mp ha) with rfl|ha
   ·omega
   ·exact h1 a ha
theorem dq:∀ l:List Int,(isort l).Pairwise (·<=·)
 | []=>.nil
 | i::r=>fF i _ (dq r)
theorem gQ (l:List Int):(isort l).length=l.length:=(bP l).length_eq
structure Beat (n:Int)(xs:List Int):Prop where
 ne:xs≠[]
 up:xs.Pairwise (·<·)
 rg:∀ x∈xs,0<=x/\x<n
theorem Beat.nd {n:Int}{xs:List Int}(h:Beat n xs):xs.Nodup:=h.up.imp λ {a b} h e=>⋯
theorem j6:∀ {xs:List Int} {lo hi:Int},xs.Pairwise (·<·)->(∀ x∈xs,lo<=x/\x<hi)->(xs.length:Int)<=max 0 (hi-lo)
 | [],lo,hi,_,_=>by simp;omega
 | x::r,lo,hi,h,g=>by
  obtain⟨h1,h2⟩:=List.pairwise_cons.mp h;have gx:=g x (uY ..);have:=j6 (lo:=x+1) (hi:=hi) h2 λ y hy=>⟨h1 y hy,(g y (uU _ hy)).2⟩
  rw[uX];omega
theorem Beat.len {n:Int}{xs:List Int}(h:Beat n xs):(xs.length:Int)<=n:=by
 have:=j6 h.up h.rg;obtain⟨x,hx⟩:=List.exists_mem_of_ne_nil xs h.ne;have:=h.rg x hx;omega
theorem tu {l:List Int}(h1:l.Pairwise (·<=·))(h2:l.Nodup):l.Pairwise (·<·):=by
 induction l with
 | nil=>exact .nil
 | cons a r ih=>
  obtain⟨a1,a2⟩:=List.pairwise_cons.mp h1;obtain⟨b1,b2⟩:=List.nodup_cons.mp h2;refine List.pairwise_cons.mpr ⟨λ x hx=>?_,ih a2 b2⟩;have:=a1 x hx;have:a≠x:=λ e=>b1 (e▸hx)
  omega
theorem gB {n k d:Int}(hn:0<n)(e:d=n*k)(h1:-n<d)(h2:d<n):d=0:=by
 rcases Int.lt_trichotomy k 0 with h|h|h
 ·have:n*k<=n*(-1):=vy ⋯ ⋯
  omega
 ·subst h;omega
 ·have:n*1<=n*k:=vy ⋯ ⋯
  omega
theorem mod_eq_iff {n a b:Int}:a%n=b%n ↔ ∃ k,a-b=n*k:=by
 constructor
 ·intro h
  have:=Int.emod_emod_of_dvd a (Int.dvd_refl n);have h1:(a-b)%n=0:=(wC).mp h;exact xr h1
 ·rintro ⟨k,h⟩
  exact(wC).mpr (Int.emod_eq_zero_of_dvd ⟨k,h⟩)
theorem ff {n x y b:Int}(hn:0<n)(hx:0<=x/\x<n)(hy:0<=y/\y<n)(h:(x+b)%n=(y+b)%n):x=y:=by
 obtain⟨k,e⟩:=mod_eq_iff.mp h;have:=gB (d:=x-y) (k:=k) hn ⋯ ⋯ ⋯;omega
theorem bh {n a:Int}(hn:0<n):0<=a%n/\a%n<n:=⟨yd _ ⋯,xQ _ hn⟩
theorem digits {t y z i j:Int}(ht:0<t)(hi:0<=i/\i<t)(hj:0<=j/\j<t)(e:y*t+i=z*t+j):y=z/\i=j:=by
 have h1:i-j=t*(z-y):=by rw[Int.mul_sub,wt t z,wt t y];omega
 have h2:=gB ht h1 ⋯ ⋯;have h3:y*t=z*t:=⋯
 exact⟨Int.eq_of_mul_eq_mul_right ⋯ h3,⋯⟩
theorem gA {α β:Type}(g:α->β)(h:α->List β):∀ l:List α,(l.flatMap λ b=>g b::h b).Perm (l.map g++l.flatMap h)
 | []=>.refl _
 | b::r=>by
  rw[vR,uS,vR,vj,vj];refine .cons _ ?_
  refine((gA g h r).append_left (h b)).trans ?_
  rw[<- vD,<- vD];exact List.perm_append_comm.append_right _
end Bt
namespace Cw
open Dv (Out R RL cmD bB eB1 eCm eComp eInt eIx eOp eOr eVar forGo keepD opD sCons sIf sNil sRet sSet)
open Dv (D R RL EE EL EI RI Sl Out SS St)
open Bt
abbrev L (xs:List Int):D:=.lst (xs.map .int)
theorem nM:∀ xs:List Int,Dv.flatL (xs.map .int)=true
 | []=>rfl
 | x::r=>by simp[Dv.flatL,Dv.scal,nM r]
theorem eq_int (a b:Int):Dv.eqD (.int a) (.int b)=some (decide (a=b)):=rfl
theorem eZ (i:Int):Dv.depthD (.int i)=0:=by unfold Dv.depthD;rfl
theorem rP {s:List Int}{k:Int}(h:0<=k)(h2:k<s.length):Dv.at? (s.map .int) k=some (.int (s.getD k.toNat 0)):=by
 unfold Dv.at?;rw[if_pos h];have:k.toNat<s.length:=⋯
 simp[vA,uT,uV this]
theorem cB (a b:Int):cmD .eq (.int a) (.int b)=.ok (.bl (decide (a=b))) true:=by
 simp only[Dv.cmD_eq,Dv.cmD_ne,Dv.cmD_lt,Dv.cmD_le,Dv.cmD_gt,Dv.cmD_ge,Dv.cmD_in,Dv.cmD_ni,Dv.cmD_it,Dv.cmD_nt,eZ,eZ,eq_int,Dv.optB,wU];rfl
theorem rW (a b:Int):cmD .ne (.int a) (.int b)=.ok (.bl (!decide (a=b))) true:=by
 simp only[Dv.cmD_eq,Dv.cmD_ne,Dv.cmD_lt,Dv.cmD_le,Dv.cmD_gt,Dv.cmD_ge,Dv.cmD_in,Dv.cmD_ni,Dv.cmD_it,Dv.cmD_nt,eZ,eZ,eq_int,Dv.optB,wU];rfl
theorem ja (a b:Int):cmD .lt (.int a) (.int b)=.ok (.bl (decide (a<b))) true:=rfl
theorem om (a b:Int):cmD .gt (.int a) (.int b)=.ok (.bl (decide (b<a))) true:=rfl
theorem dG {i j:Int}(h:-(2 ^ 64)<i)(h2:i<2 ^ 64):Dv.mulOk i j=true:=by
 have:Dv.bits i<=64:=by
  unfold Dv.bits
  split
  ·omega
  ·have h3:i.natAbs<2 ^ 64:=⋯
   have:=(xF ⋯).mpr h3;omega
 simp[Dv.mulOk,this]
theorem cb {i j:Int}(h:-(2 ^ 64)<j)(h2:j<2 ^ 64):Dv.mulOk i j=true:=by
 have:Dv.bits j<=64:=by
  unfold Dv.bits
  split
  ·omega
  ·have h3:j.natAbs<2 ^ 64:=⋯
   have:=(xF ⋯).mpr h3;omega
 simp[Dv.mulOk,this]
theorem bF {i j:Int}(h:Dv.mulOk i j=true):opD .mul (.int i) (.int j)=.ok (.int (i*j)) true:=by
 simp[Dv.opD_ai,Dv.opD_al,Dv.opD_su,Dv.opD_mi,Dv.opD_ml,Dv.opD_mo,Dv.opD_fd,Dv.opD_po,Dv.opD_ba,Dv.opD_sh,h]
theorem ak {i j:Int}(h:0<j):opD .mod (.int i) (.int j)=.ok (.int (i%j)) true:=by
 simp[Dv.opD_ai,Dv.opD_al,Dv.opD_su,Dv.opD_mi,Dv.opD_ml,Dv.opD_mo,Dv.opD_fd,Dv.opD_po,Dv.opD_ba,Dv.opD_sh,h]
theorem nD {j:Int}(h:0<j)(h2:j<2 ^ 200):Dv.divOk j=true:=by
 have h3:j.natAbs<2 ^ 200:=⋯
 have:=(xF ⋯).mpr h3;simp only[Dv.divOk,vi,decide_eq_true_eq];omega
theorem aB {i j:Int}(h:0<j)(h2:j<2 ^ 200):opD .fdiv (.int i) (.int j)=.ok (.int (i/j)) true:=by
 simp[Dv.opD_ai,Dv.opD_al,Dv.opD_su,Dv.opD_mi,Dv.opD_ml,Dv.opD_mo,Dv.opD_fd,Dv.opD_po,Dv.opD_ba,Dv.opD_sh,nD h h2]
theorem aZ (i j:Int):opD .add (.int i) (.int j)=.ok (.int (i+j)) true:=rfl
theorem bo:Sl.get .no=none:=rfl
theorem aD (d:D):Sl.get (.sh d)=some d:=rfl
theorem bW (d:D):Sl.get (.ow d)=some d:=rfl
theorem aR (d:D):Sl.give (.sh d)=.sh d:=rfl
theorem aE:Sl.shared .no=none:=rfl
theorem az (d:D):Sl.shared (.sh d)=some d:=rfl
theorem bb (d:D):Sl.shared (.ow d)=none:=rfl
theorem au (i:Int):Dv.scal (.int i)=true:=rfl
theorem pJ (i:Bool):Dv.scal (.bl i)=true:=rfl
theorem ar (i:List D):Dv.scal (.lst i)=false:=rfl
theorem aT (i:Int)(f:Bool):keepD (.int i) f=some (.sh (.int i)):=rfl
theorem p4 (i:Bool)(f:Bool):keepD (.bl i) f=some (.sh (.bl i)):=rfl
theorem keep_nil:keepD (.lst []) true=some (.ow (.lst [])):=rfl
theorem oH (xs:List Int):keepD (L xs) true=some (.ow (L xs)):=by simp[keepD,nM]
theorem nh {elt cond:EE}{free:Dv.Env}{c:Int->Bool}{g:Int->Int}:∀ {xs:List Int},(∀ x∈xs,cond (some (.int x)::free)=.ok (.bl (c x)) true)->(∀ x∈xs,c x=true->elt (some (.int x)::free)=.ok (.int (g x)) true) ->
  bB elt cond free (xs.map .int)=.ok (((xs.filter c).map g).map .int) true
 | [],_,_=>rfl
 | x::r,h,k=>by
  rw[uS];unfold bB;rw[h x (uY ..),nh (c:=c) (g:=g) (λ y hy=>h y (uU _ hy)) λ y hy=>k y (uU _ hy)];cases e:c x with
  | true=>rw[k x (uY ..) e];simp[e]
  | false=>simp[e]
theorem n6 {elt cond:EE}{is:List Nat}{it:EI}{ρ:Dv.Env}{c:Int->Bool}{g:Int->Int}{xs:List Int}{f:Bool}(hi:it ρ=.ok (xs.map .int) f)(hl:xs.length<=100000)(h:∀ x∈xs,cond (some (.int x)::Dv.pick ρ is)=.ok (.bl (c x)) true)
  (k:∀ x∈xs,c x=true->elt (some (.int x)::Dv.pick ρ is)=.ok (.int (g x)) true):eComp elt cond is it ρ=.ok (L ((xs.filter c).map g)) true:=by
 unfold eComp;rw[hi];simp only[uR,Dv.mx,hl,if_true,nh h k]
def upto (n:Nat):List Int:=(List.range n).map λ (i:Nat)=>(i:Int)
theorem dM (lo:Int):∀ n:Nat,Dv.rangeL lo n=((List.range n).map λ (i:Nat)=>lo+(i:Int)).map D.int
 | 0=>rfl
 | n+1=>by
  unfold Dv.rangeL;rw[dM (lo+1) n,wL,uS,uS,vm,vm,vm];simp only[xn,xt,List.cons.injEq,true_and];apply vt;intro i _;simp only[Ay,wz];congr 1;omega
theorem c6 (n:Nat):Dv.rangeL 0 n=(upto n).map .int:=by rw[dM];simp[upto]
theorem upto_len (n:Nat):(upto n).length=n:=by simp[upto]
theorem mem_upto {n:Nat}{x:Int}:x∈upto n ↔ 0<=x/\x<n:=by
 unfold upto;rw[wY]
 constructor
 ·rintro ⟨i,hi,rfl⟩;have:=List.mem_range.mp hi;omega
 ·intro h;exact⟨x.toNat,List.mem_range.mpr ⋯,⋯⟩
theorem bZ {x:Nat}{body:SS}{d:D}{r:List D}{st st':St}(h:body (st.set x (.sh d))=.nx st'):forGo x body (d::r) st=forGo x body r st':=by
 conv=>lhs;unfold forGo
 rw[h]
theorem lL {tgt:D->St->Option St}{body:SS}{d:D}{r:List D}{st st1 st':St}(h0:tgt d st=some st1)(h:body st1=.nx st'):Dv.forGoT tgt body (d::r) st=Dv.forGoT tgt body r st':=by
 conv=>lhs;unfold Dv.forGoT
 rw[h0];simp only[h]
theorem fE {n:Int}(h:1<=n)(h2:n<=60):F_Q03 [.int n]=.ok .non true:=by
 simp only[F_Q03,b_Q03,Dv.fn,sNil,sIf,eOr,eCm,eVar,eInt,Dv.all,R.bind,RL.bind,Out.bind,aD,au,uS,va,uX,u7,List.replicate,vj,vg,uW,Nat.reduceAdd,Nat.reduceSub,ja,om,decide_eq_false (show ¬ n<1 by omega),decide_eq_false (show ¬ 60<n by omega)]
def cell (s:List Int)(k:Int):Int:=
 if k<s.length then s.getD k.toNat 0 else
 if 0<s.length then
  (s.getD (k%s.length).toNat 0*48271+k*7919)%2147483647*((s.getD (k%s.length).toNat 0*48271+k*7919)%2147483647)%2147483629
 else (7919*k+5)*(7919*k+5)%2147483629
theorem cQ {s:List Int}{k:Int}(h:0<=k)(h2:k<=1000000):F_Q07 [L s,.int k]=.ok (.int (cell s k)) true:=by
 by_cases hk:k<(s.length:Int)
 ·simp only[F_Q07,b_Q07,b_Q07_t3,b_Q07_t2,b_Q07_t1,Dv.fn,sCons,sIf,sRet,eB1,Dv.lenD,eIx,Dv.ixD,eCm,eVar,Dv.all,R.bind,RL.bind,Out.bind,bo,aD,au,ar,uS,va,uX,u7,List.replicate,vj,vg,uW,uZ,xT,Nat.reduceAdd,Nat.reduceSub,ja,uR,rP h hk,decide_eq_true hk,cell,if_pos hk]
 ·by_cases hs:0<s.length
  ·have hs':(0:Int)<(s.length:Int):=⋯
   have hm:=bh (n:=(s.length:Int)) (a:=k) hs';have hz:=bh (n:=2147483647) (a:=s.getD (k%(s.length:Int)).toNat 0*48271+k*7919) ⋯;simp only[F_Q07,b_Q07,b_Q07_t3,b_Q07_t2,b_Q07_t1,Dv.fn,sCons,sNil,sSet,aT,sIf,sRet,eB1,Dv.lenD,eIx,Dv.ixD,eCm,eOp,eVar,eInt,Dv.all,R.bind,RL.bind,Out.bind,bo,aD,au,ar,uS,va,uX,u7,List.replicate,vj,vg,uW,uZ,ve,vf,xT,Nat.reduceAdd,Nat.reduceSub,aZ,ja,om,uR,decide_eq_false hk,cell,if_neg hk,if_pos hs,decide_eq_true hs',ak hs',rP hm.1 hm.2,bF (cb (j:=48271) (by decide) (by decide)),bF (cb (j:=7919) (by decide) (by decide)),bF (dG (i:=7919) (by decide) (by decide)),ak (j:=2147483647) (by decide),ak (j:=2147483629) (by decide)];simp only[bF (dG (i:=(s.getD (k%(s.length:Int)).toNat 0*48271+k*7919)%2147483647) ⋯ ⋯),ak (j:=2147483629) (by decide)]
  ·have hs':¬ (0:Int)<(s.length:Int):=⋯
   simp only[F_Q07,b_Q07,b_Q07_t3,b_Q07_t2,b_Q07_t1,Dv.fn,sCons,sNil,sSet,aT,sIf,sRet,eB1,Dv.lenD,eCm,eOp,eVar,eInt,Dv.all,R.bind,RL.bind,Out.bind,bo,aD,au,ar,uS,va,uX,u7,List.replicate,vj,vg,uW,uZ,ve,vf,Nat.reduceAdd,Nat.reduceSub,aZ,ja,om,uR,decide_eq_false hk,cell,if_neg hk,if_neg hs,decide_eq_false hs',bF (dG (i:=7919) (by decide) (by decide)),bF (dG (i:=7919*k+5) ⋯ ⋯),ak (j:=2147483629) (by decide)]
def Sm (s:List Int):Prop:=∀ x∈s,Dv.bits x<=1048576
theorem getD_mem {s:List Int}{i:Nat}(h:i<s.length):s.getD i 0∈s:=by
 rw[uT,uV h];exact vN h
end Cw
namespace Ts
open Bt
abbrev Sp:=Int×Int
def f2 (p:Sp):List Int:=[p.1,p.2]
def g2 (l:List Int):Sp:=(l.getD 0 0,l.getD 1 0)
theorem tR (p:Sp):g2 (f2 p)=p:=rfl
theorem nS {p q:Sp}(h:f2 p=f2 q):p=q:=by rw[<- tR p,h,tR]
def lt2 (p q:Sp):Prop:=p.1<q.1\/(p.1=q.1/\p.2<q.2)
theorem rX (p q:Sp):Dv.lexLt (f2 p) (f2 q)=true ↔ lt2 p q:=by
 simp only[f2,Dv.lexLt,lt2];by_cases h:p.1=q.1
 ·rw[if_pos h]
  by_cases g:p.2=q.2
  ·simp[h,g]
  ·rw[if_neg g];simp[h]
 ·rw[if_neg h];simp[h]
theorem rK {p q:Sp}(h:lt2 p q):p≠q:=λ e=>by subst e;rcases h with h|h <;>omega
theorem dY {l:List Sp}(h:l.Pairwise lt2):l.Nodup:=h.imp λ q=>rK q
theorem map_inj {α β:Type}{f:α->β}(hf:∀ {x y},f x=f y->x=y):∀ {a b:List α},a.map f=b.map f->a=b
 | [],[],_=>rfl
 | [],_::_,h=>by simp at h
 | _::_,[],h=>by simp at h
 | x::a,y::b,h=>by
  simp only[uS,List.cons.injEq] at h;rw[hf h.1,map_inj hf h.2]
theorem c7 {α β:Type}{f:α->β}:∀ {l:List α},l.Nodup->(∀ x∈l,∀ y∈l,f x=f y->x=y)->(l.map f).Nodup
 | [],_,_=>by simp
 | a::l,h,g=>by
  rw[vT] at h;rw[uS,vT];refine⟨λ hm=>?_,c7 h.2 λ x hx y hy=>g x (uU _ hx) y (uU _ hy)⟩;obtain⟨x,hx,e⟩:=List.mem_map.mp hm;have:=g x (uU _ hx) a uY e;subst this;exact h.1 hx
theorem dW {α β:Type}{f:α->β}:∀ {l:List α},(l.map f).Nodup->l.Nodup
 | [],_=>by simp
 | a::l,h=>by
  rw[uS,vT] at h;rw[vT];exact⟨λ hm=>h.1 (List.mem_map.mpr ⟨a,hm,rfl⟩),dW h.2⟩
theorem jL {a b:List Sp}(ha:a.Pairwise lt2)(hb:b.Pairwise lt2)(h:∀ p,p∈a ↔ p∈b):a=b:=by
 refine map_inj (f:=f2) nS (Dv.sorted_one (((wu (dY ha) (dY hb)).mpr h).map _) ?_ ?_)
 ·exact List.pairwise_map.mpr (ha.imp λ q=>Dv.lt_le ((rX _ _).mpr q))
 ·exact List.pairwise_map.mpr (hb.imp λ q=>Dv.lt_le ((rX _ _).mpr q))
def psort (ps:List Sp):List Sp:=(Dv.lsort (ps.map f2)).map g2
theorem fL {α:Type}{f:α->α}:∀ {l:List α},(∀ x∈l,f x=x)->l.map f=l
 | [],_=>rfl
 | x::l,h=>by rw[uS,h x uY,fL λ y hy=>h y (uU _ hy)]
theorem dk (ps:List Sp):Dv.lsort (ps.map f2)=(psort ps).map f2:=by
 unfold psort;rw[vm];refine(fL λ l hl=>?_).symm;obtain⟨p,_,rfl⟩:=List.mem_map.mp ((Dv.lsort_perm _).mem_iff.mp hl);rfl
theorem bz (ps:List Sp):(psort ps).Perm ps:=by
 have h:=(Dv.lsort_perm (ps.map f2)).map g2;rw[vm] at h;have e:ps.map (g2 ∘ f2)=ps:=by
  rw[show (g2 ∘ f2:Sp->Sp)=id from rfl,yz]
 rw[e] at h;exact h
theorem aG (ps:List Sp):(psort ps).length=ps.length:=(bz ps).length_eq
theorem psort_mem {ps:List Sp}{p:Sp}:p∈psort ps ↔ p∈ps:=(bz ps).mem_iff
theorem iO {ps:List Sp}(nd:ps.Nodup):(psort ps).Pairwise lt2:=by
 have h:=Dv.lsort_sorted (ps.map f2);rw[dk,xh] at h;have n2:=(bz ps).nodup_iff.mpr nd;refine(h.and n2).imp λ {p q} h=>?_
 rw[<- rX];cases e:Dv.lexLt (f2 p) (f2 q) with
 | true=>rfl
 | false=>exact absurd (nS (Dv.lex_tot e h.1)) h.2
structure TB (a b:Int)(ps:List Sp):Prop where
 ne:ps≠[]
 up:ps.Pairwise lt2
 rg:∀ p∈ps,0<=p.1/\p.1<a/\0<=p.2/\p.2<b
theorem TB.nd {a b:Int}{ps:List Sp}(h:TB a b ps):ps.Nodup:=dY h.up
theorem dj {a b:Int}{ps:List Sp}(ne:ps≠[])(nd:ps.Nodup)(rg:∀ p∈ps,0<=p.1/\p.1<a/\0<=p.2/\p.2<b):TB a b (psort ps) where
 ne:=λ e=>ne (by have:=aG ps;rw[e] at this;exact vM this.symm)
 up:=iO nd
 rg:=λ p hp=>rg p (psort_mem.mp hp)
def spots (a b:Int):List Sp:=(Cw.upto a.toNat).flatMap λ x=>(Cw.upto b.toNat).map λ y=>(x,y)
theorem eJ (n:Nat):(Cw.upto n).Pairwise (·<·):=by
 unfold Cw.upto;rw[xh];exact List.pairwise_lt_range.imp λ h=>⋯
theorem mem_spots {a b:Int}{p:Sp}:p∈spots a b ↔ 0<=p.1/\p.1<a/\0<=p.2/\p.2<b:=by
 unfold spots;rw[yb]
 constructor
 ·rintro ⟨x,hx,hp⟩
  obtain⟨y,hy,rfl⟩:=List.mem_map.mp hp;have:=Cw.mem_upto.mp hx;have:=Cw.mem_upto.mp hy;show 0<=x/\x<a/\0<=y/\y<b
  omega
 ·intro h
  exact⟨p.1,Cw.mem_upto.mpr ⋯,List.mem_map.mpr ⟨p.2,Cw.mem_upto.mpr ⋯,rfl⟩⟩
theorem cI (a b:Int):(spots a b).Pairwise lt2:=by
 unfold spots;rw[xG];refine⟨λ x _=>?_,(eJ _).imp λ {x y} h p hp q hq=>?_⟩
 ·rw[xh]
  exact(eJ _).imp λ h=>.inr ⟨rfl,h⟩
 ·obtain⟨_,_,rfl⟩:=List.mem_map.mp hp
  obtain⟨_,_,rfl⟩:=List.mem_map.mp hq;exact .inl h
theorem cL {a b:Int}(ha:0<=a)(hb:0<=b):((spots a b).length:Int)=a*b:=by
 unfold spots;rw[xO];have:∀ l:List Int,(l.map λ x=>((Cw.upto b.toNat).map λ y=>((x,y):Sp)).length).sum=l.length*b.toNat:=by
  intro l
  induction l with
  | nil=>simp
  | cons x l ih=>rw[uS,yo,ih,uR,Cw.upto_len,uX,yA];omega
 rw[this,Cw.upto_len,wV,vU ha,vU hb]
theorem TB.all {a b:Int}{ps:List Sp}(h:TB a b ps):(spots a b).filter (λ p=>decide (p∈ps))=ps:=
 jL ((cI a b).filter _) h.up λ p=>by
  rw[yg,decide_eq_true_eq,mem_spots];exact⟨λ q=>q.2,λ q=>⟨h.rg p q,q⟩⟩
def uC (a b:Int):Bool:=(Cw.upto a.toNat).all λ x=>(Cw.upto b.toNat).all λ y=>((Cw.upto (a*b).toNat).filter λ k=>decide (k%a=x)&&decide (k%b=y)).length == 1
structure Sd0 (a b:Int):Prop where
 a0:0<a
 b0:0<b
 le:a*b<=60
structure Sides (a b:Int):Prop extends Sd0 a b where
 crt:uC a b=true
instance {a b:Int}:Coe (Sides a b) (Sd0 a b):=⟨Sides.toSd0⟩
theorem ab0 {a b:Int}(h:Sd0 a b):0<a*b:=Int.mul_pos h.a0 h.b0
section
variable {a b:Int}(h:Sides a b)
include h
end
end Ts
namespace Bt
open Dv (ins isort)
structure Fill (n:Int)(a b:List Int):Prop where
 one:Beat n a
 oth:Beat n b
 len:((a.length*b.length:Nat):Int)=n
 inj:∀ x∈a,∀ y∈a,∀ s∈b,∀ t∈b,(x+s)%n=(y+t)%n->x=y/\s=t
theorem mX {a b:List Int}(p:a.Perm b){x:Int}(h:x∈a):x∈b:=p.mem_iff.mp h
theorem oq:∀ {xs:List Int} {lo:Int},xs.Pairwise (·<·)->(∀ x∈xs,lo<=x/\x<lo+xs.length)->xs=(List.range xs.length).map λ (i:Nat)=>lo+(i:Int)
 | [],_,_,_=>rfl
 | x::r,lo,h,g=>by
  obtain⟨h1,h2⟩:=List.pairwise_cons.mp h;have gx:=g x (uY ..);have l:=j6 (lo:=x+1) (hi:=lo+((x::r).length:Int)) h2 λ y hy=>⟨h1 y hy,(g y (uU _ hy)).2⟩
  rw[uX] at l gx;have ex:x=lo:=by
   rw[yh] at l gx;omega
  subst ex;rw[uX,wL,uS,vm];have:=oq (xs:=r) (lo:=x+1) h2 λ y hy=>by
   have g1:=g y (uU _ hy);have g2:=h1 y hy;rw[uX,yh] at g1;omega
  conv=>lhs;rw[this]
  simp only[xn,xt,List.cons.injEq,true_and];apply vt;intro i _;simp only[Ay,wz];omega
theorem o7 {n:Nat}{ps:List Int}(nd:ps.Nodup)(rg:∀ p∈ps,0<=p/\p<n)(hl:ps.length=n):ps.Perm ((List.range n).map λ (i:Nat)=>(i:Int)):=by
 have h1:=tu (dq ps) ((bP ps).nodup_iff.mpr nd);have h2:=oq (lo:=0) h1 λ x hx=>by
  have:=rg x (mX (bP ps) hx);rw[gQ,hl];omega
 rw[gQ,hl] at h2;have h3:=(bP ps).symm;rw[h2] at h3;simpa using h3
end Bt
namespace Ts
open Bt
open Dv (ag nodupB)
def mvd (a b r u:Int)(ps:List Sp):List Sp:=psort (ps.map λ p=>((p.1+r)%a,(p.2+u)%b))
theorem dE {a b:Int}(ha:0<a)(hb:0<b)(x y:Int):0<=((x%a,y%b):Sp).1/\((x%a,y%b):Sp).1<a/\0<=((x%a,y%b):Sp).2/\((x%a,y%b):Sp).2<b:=by
 have h1:=bh (a:=x) ha;have h2:=bh (a:=y) hb;exact⟨h1.1,h1.2,h2.1,h2.2⟩
theorem mR {a b r u:Int}(ha:0<a)(hb:0<b){p q:Sp}(hp:0<=p.1/\p.1<a/\0<=p.2/\p.2<b)(hq:0<=q.1/\q.1<a/\0<=q.2/\q.2<b)
  (e:(((p.1+r)%a,(p.2+u)%b):Sp)=((q.1+r)%a,(q.2+u)%b)):p=q:=by
 simp only[A5] at e;exact Bp (ff ha ⟨hp.1,hp.2.1⟩ ⟨hq.1,hq.2.1⟩ e.1) (ff hb hp.2.2 hq.2.2 e.2)
theorem uf {a b r u:Int}(ha:0<a)(hb:0<b){ps:List Sp}(nd:ps.Nodup)(rg:∀ p∈ps,0<=p.1/\p.1<a/\0<=p.2/\p.2<b):(ps.map λ p=>(((p.1+r)%a,(p.2+u)%b):Sp)).Nodup:=
 c7 nd λ p hp q hq e=>mR ha hb (rg p hp) (rg q hq) e
theorem nt {a b r u:Int}(ha:0<a)(hb:0<b){ps:List Sp}(ne:ps≠[])(nd:ps.Nodup)(rg:∀ p∈ps,0<=p.1/\p.1<a/\0<=p.2/\p.2<b):TB a b (mvd a b r u ps):=
 dj (by simpa using ne) (uf ha hb nd rg) λ p hp=>by
  obtain⟨q,_,rfl⟩:=List.mem_map.mp hp;exact dE ha hb _ _
theorem eV (a b r u:Int)(ps:List Sp):(mvd a b r u ps).length=ps.length:=by unfold mvd;rw[aG,uR]
section
variable {a b:Int}(h:Sides a b)
include h
end
theorem bA:∀ l:List Sp,nodupB l=decide l.Nodup
 | []=>by simp[nodupB]
 | p::l=>by
  unfold nodupB;rw[bA l,vJ];simp[vT]
theorem d9 (a b:Int)(ps:List Sp):∀ ss:List Sp,(ag a b ps ss).length=ps.length*ss.length
 | []=>by simp[ag]
 | s::ss=>by
  have ih:=d9 a b ps ss;unfold ag at ih ⊢;rw[vR,vd,ih,uR,uX,wZ,xp]
theorem fT {a b:Int}(ha:0<a)(hb:0<b){ps ss:List Sp}:∀ p∈ag a b ps ss,0<=p.1/\p.1<a/\0<=p.2/\p.2<b:=λ p hp=>by
 unfold ag at hp;obtain⟨s,_,hp⟩:=List.mem_flatMap.mp hp;obtain⟨q,_,rfl⟩:=List.mem_map.mp hp;exact dE ha hb _ _
theorem cv {α β:Type}{f g:α->List β}:∀ {l:List α},(∀ x∈l,(f x).Perm (g x))->(l.flatMap f).Perm (l.flatMap g)
 | [],_=>.refl _
 | x::l,h=>by
  rw[vR,vR];exact(h x uY).append (cv λ y hy=>h y (uU _ hy))
theorem jQ {a b:Int}{ps qs ss ts:List Sp}(h1:ps.Perm qs)(h2:ss.Perm ts):(ag a b ps ss).Perm (ag a b qs ts):=by
 unfold ag;exact(cv λ s _=>h1.map _).trans (h2.flatMap_right _)
section
variable {a b:Int}(h:Sides a b)
include h
def aL (a b:Int)(ps ss:List Sp):Bool:=decide (((ps.length*ss.length:Nat):Int)=a*b)&&nodupB (ag a b ps ss)
end
section
variable {a b:Int}
theorem Sd0.a60 (h:Sd0 a b):a<=60:=by
 have h1:=h.le;have h2:=h.b0;have h3:=h.a0;have:a*1<=a*b:=vy ⋯ ⋯;omega
theorem Sd0.b60 (h:Sd0 a b):b<=60:=by
 have h1:=h.le;have h2:=h.b0;have h3:=h.a0;have:1*b<=a*b:=wQ ⋯ ⋯;omega
end
end Ts
namespace Cw
open Dv (D R RL EE EL EI RI Sl Out SS St)
open Bt
theorem eJ (n:Nat):(upto n).Pairwise (·<·):=by
 unfold upto;exact List.pairwise_map.mpr (List.pairwise_lt_range.imp λ {a b} h=>⋯)
def Hs (s:Sl)(a:List Int):Prop:=s=.sh (L a)\/s=.ow (L a)
theorem Hs.get {s:Sl}{a:List Int}(h:Hs s a):s.get=some (L a):=by rcases h with h|h <;>(subst h;rfl)
theorem Hs.give {s:Sl}{a:List Int}(h:Hs s a):s.give=.sh (L a):=by rcases h with h|h <;>(subst h;rfl)
structure Fu (n:Int)(a b:List Int):Prop where
 nd:b.Nodup
 rg:∀ x∈b,0<=x/\x<n
 fl:Fill n a (Dv.isort b)
end Cw
namespace Pl
def co (a:List Int)(i:Nat):Int:=a.getD i 0
def sh (f:Nat->Int):Nat->Int
 | 0=>0
 | p+1=>f p
def cf:List Int->(Nat->Int)->Nat->Int
 | [],_,_=>0
 | x::r,g,p=>x*g p+sh (cf r g) p
end Pl
namespace Cw
open Dv (Out R RL cmD bB eB1 eB2 eB3 eBl eCall eCm eComp eInt eIx eLst eOp eOr ePart eSlice eTup eVar forGo iRange iRange2 iSeq lCons lNil opD rngOk sCons sExpr sExtF sFills sFor sIf sNil sPar sRet sRetO sSet sSetG)
open Dv (D R RL EE EL EI RI Sl Out SS St)
open Bt
open Pl (co cf sh)
def gf (n:Int):List Int:=(List.range n.toNat).map λ (i:Nat)=>1+(i:Int)
def divs (n:Int):List Int:=(gf n).filter λ d=>decide (n%d=0)
theorem mem_divs {n d:Int}:d∈divs n ↔ 1<=d/\d<=n/\n%d=0:=by
 unfold divs gf;rw[yg,wY]
 constructor
 ·rintro ⟨⟨i,hi,rfl⟩,h⟩
  have:=List.mem_range.mp hi;simp at h;exact⟨⋯,⋯,h⟩
 ·rintro ⟨h1,h2,h3⟩
  exact⟨⟨(d-1).toNat,List.mem_range.mpr ⋯,⋯⟩,by simp[h3]⟩
open Dv (D R RL EE EL EI RI Sl Out SS St ag)
open Bt Ts
def T (p:Sp):D:=.tup [.int p.1,.int p.2]
abbrev P (ps:List Sp):D:=.lst (ps.map T)
def S (a b:Int):D:=.tup [.int a,.int b]
theorem tE (p q:Sp):Dv.eqD (T p) (T q)=some (decide (p=q)):=by
 simp only[T,Dv.eqD,Dv.eqDL,vw];rw[Option.some.injEq,vJ];simp[Prod.ext_iff]
theorem iP:∀ a b:List Sp,Dv.eqDL (a.map T) (b.map T)=some (decide (a=b))
 | [],[]=>by simp[Dv.eqDL]
 | [],_::_=>by simp[Dv.eqDL]
 | _::_,[]=>by simp[Dv.eqDL]
 | x::a,y::b=>by
  simp only[uS,Dv.eqDL,tE,iP a b];rw[Option.some.injEq,vJ];simp
theorem q9 (p:Sp):Dv.depthD (T p)=1:=by simp[T,Dv.depthD,Dv.depthL]
theorem mI:∀ ps:List Sp,Dv.depthL (ps.map T)<=1
 | []=>by simp[Dv.depthL]
 | p::ps=>by have:=mI ps;simp only[uS,Dv.depthL,q9];omega
theorem dS (ps:List Sp):Dv.depthD (P ps)<=2:=by have:=mI ps;unfold P Dv.depthD;omega
theorem rN (a b:List Sp):cmD .eq (P a) (P b)=.ok (.bl (decide (a=b))) true:=by
 have h1:=dS a;have h2:=dS b;have e:Dv.eqD (P a) (P b)=some (decide (a=b)):=by unfold P;simp only[Dv.eqD];exact iP a b
 unfold cmD;simp only[decide_eq_true (show Dv.depthD (P a)<=9 by omega),decide_eq_true (show Dv.depthD (P b)<=9 by omega),vY,if_true,e,Dv.optB]
theorem sN (a b:List Sp):cmD .ne (P a) (P b)=.ok (.bl (!decide (a=b))) true:=by
 have h1:=dS a;have h2:=dS b;have e:Dv.eqD (P a) (P b)=some (decide (a=b)):=by unfold P;simp only[Dv.eqD];exact iP a b
 unfold cmD;simp only[decide_eq_true (show Dv.depthD (P a)<=9 by omega),decide_eq_true (show Dv.depthD (P b)<=9 by omega),vY,if_true,e,Dv.optB,wU]
theorem rk (p:Sp):∀ ps:List Sp,Dv.eqsD (ps.map T) (T p)=some (ps.map λ q=>decide (q=p))
 | []=>rfl
 | q::ps=>by simp only[uS,Dv.eqsD,tE,rk p ps]
theorem tI {p:Sp}{ps:List Sp}(h:ps.length<=100000):Dv.inG false (T p) (P ps)=.ok (.bl (decide (p∈ps))) true:=by
 have h1:=mI ps;unfold P Dv.inG;simp only[q9,decide_eq_true (show Dv.depthL (ps.map T)<=8 by omega),decide_eq_true (show 1<=8 by omega),decide_eq_true (show (ps.map T).length<=Dv.mx by rw[uR];exact h),vY,if_true,rk];have:((ps.map λ q=>decide (q=p)).any id)=decide (p∈ps):=by
  rw[vJ,List.any_eq_true,decide_eq_true_eq]
  constructor
  ·rintro ⟨b,hb,hb2⟩
   obtain⟨q,hq,rfl⟩:=List.mem_map.mp hb;have:q=p:=by simpa using hb2
   subst this;exact hq
  ·intro hp
   exact⟨true,List.mem_map.mpr ⟨p,hp,by simp⟩,rfl⟩
 rw[this];rfl
theorem fY:∀ ps:List Sp,Dv.tupsOf (ps.map T)=some (ps.map f2)
 | []=>rfl
 | p::ps=>by
  rw[uS,uS];show (match some [p.1,p.2],Dv.tupsOf (ps.map T) with|some (n::ns),some nss=>some ((n::ns)::nss)|_,_=>none)=_
  rw[fY ps];rfl
theorem sC (ps:List Sp):(ps.map f2).map (λ ns=>D.tup (ns.map .int))=ps.map T:=by rw[vm];rfl
theorem jO {ps:List Sp}(h:ps.length<64)(f:Bool):Dv.sortedTD (P ps) f=.ok (P (psort ps)) f:=by
 unfold P Dv.sortedTD;simp only[fY];rw[if_pos (by rw[uR];exact h),dk,sC]
theorem ri:∀ ps:List Sp,Dv.prsOf (ps.map T)=some ps
 | []=>rfl
 | p::ps=>by
  rw[uS];show (Dv.prsOf (ps.map T)).map ((p.1,p.2)::·)=_
  rw[ri ps];rfl
theorem q8 {α β:Type}{e:α->D}{g:α->D}{elt cond:EE}{free:Dv.Env}{c:α->Bool}:∀ {l:List α},(∀ x∈l,∃ f,cond (some (e x)::free)=.ok (.bl (c x)) f)->(∀ x∈l,c x=true->∃ f,elt (some (e x)::free)=.ok (g x) f) ->
  ∃ f,bB elt cond free (l.map e)=.ok ((l.filter c).map g) f
 | [],_,_=>⟨true,rfl⟩
 | x::l,h,k=>by
  obtain⟨f,e1⟩:=q8 (β:=β) (l:=l) (λ y hy=>h y (uU _ hy)) λ y hy=>k y (uU _ hy)
  obtain⟨f1,h1⟩:=h x uY;rw[uS];unfold bB;cases q:c x with
  | false=>
   rw[q] at h1;rw[h1,List.filter_cons_of_neg (by simp[q])];exact⟨f,e1⟩
  | true=>
   rw[q] at h1;obtain⟨f2,h2⟩:=k x uY q;rw[h1,h2,e1,List.filter_cons_of_pos q];exact⟨_,rfl⟩
theorem kO {α:Type}{e:α->D}{g:α->D}{elt:EE}{free:Dv.Env}:∀ {l:List α},(∀ x∈l,elt (some (e x)::free)=.ok (g x) true)->bB elt (eBl true) free (l.map e)=.ok (l.map g) true
 | [],_=>rfl
 | x::l,k=>by
  rw[uS];unfold bB;rw[k x uY,kO λ y hy=>k y (uU _ hy)];rfl
variable {a b:Int}
theorem dI:Dv.ixD (S a b) (.int 0) false=.ok (.int a) true:=rfl
theorem df:Dv.ixD (S a b) (.int 1) false=.ok (.int b) true:=rfl
theorem tz (h:Sd0 a b):opD .mul (.int a) (.int b)=.ok (.int (a*b)) true:=bF (dG (by have:=h.a0;omega) (by
 have h1:=h.le;have h2:=h.b0;have h3:=h.a0;have:a*1<=a*b:=vy ⋯ ⋯;omega))
theorem fu (h:Sd0 a b):F_Q01 [S a b]=.ok .non true:=by
 have h1:=h.a0;have h2:=h.b0;have h3:=h.le;have h4:=ab0 h;have em:Dv.minTD (S a b) false=.ok (.int (if b<a then b else a)) true:=rfl;have e1:¬ ((if b<a then b else a)<1):=by split <;>omega
 have ew:=fE (n:=a*b) ⋯ h3;have el:Dv.lenD (S a b) false=.ok (.int 2) true:=rfl;have e2:(decide ((2:Int)=2))=true:=rfl;have sS:Dv.scal (S a b)=false:=rfl;simp only[F_Q01,b_Q01,b_Q01_t1,Dv.fn,sCons,sIf,eOr,eCm,eB1,eVar,Dv.all,uS,va,uX,u7,List.replicate,vj,vg,uW,aD,R.bind,sS,el,eInt,rW,decide_true,em,ja,decide_eq_false e1,Out.bind,sNil,sExpr,eCall,lCons,lNil,eOp,eIx,dI,df,tz h,ew,RL.bind,Dv.R.bindL,Dv.RL.bindL,Nat.reduceAdd,Nat.reduceSub,vO,wJ]
theorem l8 (h:Sd0 a b){x:Int}{acc:List Sp}(hl:acc.length<=1000):b_Q00_l1 [.sh (S a b),.ow (P acc),.sh (.int x)]=.nx [.sh (S a b),.ow (P (acc++(upto b.toNat).map λ y=>(x,y))),.sh (.int x)]:=by
 have h2:=h.b0;have h3:=h.b60;have hr:rngOk b=true:=by simp[rngOk];omega
 have e:c_Q00_1 [some (S a b),some (P acc),some (.int x)]=.ok (P ((upto b.toNat).map λ y=>(x,y))) true:=by
  unfold c_Q00_1 eComp;have:iRange (eIx (eVar 0) (eInt 1)) [some (S a b),some (P acc),some (.int x)]=.ok ((upto b.toNat).map .int) true:=by
   simp only[iRange,eIx,eVar,eInt,uW,R.bind,show Dv.scal (S a b)=false from rfl,df,hr,if_true,c6]
  rw[this];simp only;rw[if_pos (by rw[uR,upto_len];unfold Dv.mx;omega)];rw[kO (g:=λ y=>T (x,y)) λ y hy=>rfl];simp only[P,vm];rfl
 have hx:decide ((acc.map T).length+(((upto b.toNat).map λ y=>((x,y):Sp)).map T).length<=Dv.mx)=true:=by
  refine decide_eq_true ?_
  rw[uR,uR,uR,upto_len];unfold Dv.mx;omega
 unfold P at e ⊢;simp only[b_Q00_l1,sExtF,Dv.all,uS,va,aD,bW,uW,uZ,e,hx,if_true,ve,vf,wF]
theorem cF (h:Sd0 a b):∀ (xs:List Int) (acc:List Sp) (z:Sl),acc.length+xs.length*60<=4000->acc.length+xs.length*b.toNat<=1000->∃ z',forGo 2 b_Q00_l1 (xs.map .int) [.sh (S a b),.ow (P acc),z]=.nx [.sh (S a b),.ow (P (acc++xs.flatMap λ x=>(upto b.toNat).map λ y=>(x,y))),z']
 | [],acc,z,_,_=>⟨z,by simp[forGo]⟩
 | x::xs,acc,z,hl,hm=>by
  rw[uX] at hl hm;rw[yr] at hm;obtain⟨z',e⟩:=cF h xs (acc++(upto b.toNat).map λ y=>(x,y)) (.sh (.int x)) (by rw[vd,uR,upto_len];have:=h.b60;omega) (by rw[vd,uR,upto_len];omega);refine⟨z',?_⟩;rw[uS,bZ (l8 h ⋯),e,vR,vD]
theorem dh (h:Sd0 a b):∃ f,F_Q00 [S a b]=.ok (P (spots a b)) f:=by
 have h1:=h.a0;have h2:=h.b0;have h3:=h.a60;have h4:=h.le;have hr:rngOk a=true:=by simp[rngOk];omega
 have hm:a.toNat*b.toNat<=60:=by
  have e1:(a.toNat:Int)=a:=vU ⋯;have e2:(b.toNat:Int)=b:=vU ⋯;have:((a.toNat*b.toNat:Nat):Int)=a*b:=by rw[wV,e1,e2]
  omega
 obtain⟨z',e⟩:=cF h (upto a.toNat) [] .no (by rw[upto_len];simp;omega) (by rw[upto_len];simp;omega);rw[vg] at e;have e':forGo 2 b_Q00_l1 ((upto a.toNat).map .int) [.sh (S a b),.ow (.lst []),.no]=.nx [.sh (S a b),.ow (P (spots a b)),z']:=e;have i1:iRange (eIx (eVar 0) (eInt 0)) [some (S a b),none,none]=.ok ((upto a.toNat).map .int) true:=by
  simp only[iRange,eIx,eVar,eInt,uW,R.bind,show Dv.scal (S a b)=false from rfl,dI,hr,if_true,c6]
 refine⟨Dv.flatL ((spots a b).map T),?_⟩;simp only[F_Q00,b_Q00,b_Q00_t1,b_Q00_t2,Dv.fn,sCons,sSet,eLst,lNil,RL.bind,keep_nil,sFor,Dv.give,Dv.open_,aR,az,bb,aE,vb,vB,uS,va,uX,u7,List.replicate,vj,vg,uW,uZ,ve,vf,vn,Nat.reduceAdd,Nat.reduceSub,i1,e',Out.bind,sRetO,P]
open Classical in
open Classical in
variable {a b:Int}
theorem scS:Dv.scal (S a b)=false:=rfl
theorem scP (ps:List Sp):Dv.scal (P ps)=false:=rfl
theorem scT (p:Sp):Dv.scal (T p)=false:=rfl
theorem qR (ps:List Sp)(f:Bool):Dv.lenD (P ps) f=.ok (.int ps.length) true:=by unfold P Dv.lenD;simp only[uR]
theorem cA (h:Sd0 a b){ps:List Sp}(t:TB a b ps)(hl:ps.length<=1000):F_Q02 [S a b,P ps]=.ok .non true:=by
 obtain⟨f,e1⟩:=dh h;have hs:=cL (a:=a) (b:=b) (by have:=h.a0;omega) (by have:=h.b0;omega);have h60:=h.le;obtain⟨f2,e2⟩:=q8 (β:=Unit) (e:=T) (g:=T) (elt:=eVar 0) (cond:=eB2 (Dv.inG false) (eVar 0) (eVar 1)) (free:=[some (P ps)]) (c:=λ p=>decide (p∈ps)) (l:=spots a b)
  (λ p _=>⟨true,by simp only[eB2,eVar,uW,uZ,R.bind,tI (p:=p) (ps:=ps) ⋯]⟩) (λ p _ _=>⟨_,rfl⟩)
 rw[t.all] at e2;have e3:c_Q02_1 [some (S a b),some (P ps)]=.ok (P ps) f2:=by
  have e1':F_Q00 [S a b]=.ok (.lst ((spots a b).map T)) f:=e1;unfold c_Q02_1 eComp;simp only[iSeq,eCall,lCons,lNil,eVar,uW,Dv.R.bindL,Dv.RL.bindL,RL.bind,e1',Dv.pick,uS,va,uZ,vn];rw[if_pos (by rw[uR];unfold Dv.mx;omega),e2]
 have h0:¬ ((ps.length:Int)=0):=λ e=>t.ne (vM ⋯)
 simp only[F_Q02,b_Q02,b_Q02_t1,Dv.fn,sCons,sNil,sIf,sExpr,eB1,eOr,eCm,eVar,eInt,lNil,lCons,eCall,Dv.all,R.bind,RL.bind,Dv.R.bindL,Dv.RL.bindL,Out.bind,aD,ar,uS,va,uX,u7,List.replicate,vj,vg,uW,uZ,vw,vO,Nat.reduceAdd,Nat.reduceSub,decide_true,cB,fu h,qR,decide_eq_false h0,e3,sN,decide_true]
variable {a b:Int}
theorem t5 (p:Sp):Dv.ixD (T p) (.int 0) false=.ok (.int p.1) true:=rfl
theorem uh (p:Sp):Dv.ixD (T p) (.int 1) false=.ok (.int p.2) true:=rfl
theorem ku (h:Sd0 a b){ps:List Sp}{X:D}{s:Sp}{acc:List Sp}(hl:acc.length<=4000)(hp:ps.length<=1000):b_Q0L_l1 [.sh (S a b),.sh (P ps),.sh X,.ow (P acc),.sh (T s)]=.nx [.sh (S a b),.sh (P ps),.sh X,.ow (P (acc++ps.map λ p=>((p.1+s.1)%a,(p.2+s.2)%b))),.sh (T s)]:=by
 have ha:=h.a0;have hb:=h.b0;have e:c_Q0L_1 [some (S a b),some (P ps),some X,some (P acc),some (T s)]=.ok (P (ps.map λ p=>((p.1+s.1)%a,(p.2+s.2)%b))) true:=by
  unfold c_Q0L_1 eComp;have hi:iSeq (eVar 1) [some (S a b),some (P ps),some X,some (P acc),some (T s)]=.ok (ps.map T) false:=rfl;rw[hi];simp only;rw[if_pos (by rw[uR];unfold Dv.mx;omega)];rw[kO (g:=λ p:Sp=>T ((p.1+s.1)%a,(p.2+s.2)%b)) λ p _=>?_]
  ·unfold P;rw[vm];rfl
  ·simp only[eIx,eOp,eVar,eInt,eTup,lNil,lCons,Dv.pick,R.bind,RL.bind,Dv.R.bindL,Dv.RL.bindL,Out.bind,uS,va,uW,uZ,vn,vw,aZ,scT,scS,t5,uh,dI,df,ak ha,ak hb]
   rfl
 have hx:decide ((acc.map T).length+((ps.map λ p=>(((p.1+s.1)%a,(p.2+s.2)%b):Sp)).map T).length<=Dv.mx)=true:=by
  refine decide_eq_true ?_
  rw[uR,uR,uR];unfold Dv.mx;omega
 have e':c_Q0L_1 [some (S a b),some (P ps),some X,some (.lst (acc.map T)),some (T s)]=.ok (.lst ((ps.map λ p=>(((p.1+s.1)%a,(p.2+s.2)%b):Sp)).map T)) true:=e;show b_Q0L_l1 [.sh (S a b),.sh (P ps),.sh X,.ow (.lst (acc.map T)),.sh (T s)]=_
 simp only[b_Q0L_l1,sExtF,Dv.all,uS,va,aD,bW,uW,uZ,e',hx,if_true,ve,vf];rw[<- wF]
theorem fC (h:Sd0 a b){ps:List Sp}{X:D}(hp:ps.length<=1000):∀ (ss:List Sp) (acc:List Sp) (z:Sl),acc.length+ps.length*ss.length<=4000->∃ z',forGo 4 b_Q0L_l1 (ss.map T) [.sh (S a b),.sh (P ps),.sh X,.ow (P acc),z]=.nx [.sh (S a b),.sh (P ps),.sh X,.ow (P (acc++ag a b ps ss)),z']
 | [],acc,z,_=>⟨z,by simp[forGo,ag]⟩
 | s::ss,acc,z,hl=>by
  rw[uX,wZ] at hl;obtain⟨z',e⟩:=fC h hp ss (acc++ps.map λ p=>((p.1+s.1)%a,(p.2+s.2)%b)) (.sh (T s)) (by rw[vd,uR];omega);refine⟨z',?_⟩;rw[uS,bZ (ku h ⋯ hp),e,vD];rfl
theorem gz:∀ (nss σ:List (List Int)) {x:List Int},x∈nss.foldl Dv.onceStepL σ ↔ x∈σ\/x∈nss
 | [],σ,x=>by simp
 | k::r,σ,x=>by
  rw[vb,gz r];unfold Dv.onceStepL
  split
  ·rename_i q
   have:k∈σ:=by simpa using q
   constructor
   ·rintro (a|a)
    ·exact .inl a
    ·exact .inr (uU _ a)
   ·rintro (a|a)
    ·exact .inl a
    ·rcases List.mem_cons.mp a with rfl|a
     ·exact .inl this
     ·exact .inr a
  ·simp only[wD,w4,xb,or_assoc,List.not_mem_nil,false_or]
theorem iY:∀ (nss σ:List (List Int)),σ.Nodup->(nss.foldl Dv.onceStepL σ).Nodup
 | [],_,h=>h
 | k::r,σ,h=>by
  rw[vb];refine iY r _ ?_
  unfold Dv.onceStepL
  split
  ·exact h
  ·rename_i q
   have:k∉σ:=by simpa using q
   exact List.nodup_append.mpr ⟨h,by simp,λ x hx y hy e=>by simp at hy;subst hy;subst e;exact this hx⟩
theorem iS:∀ (nss σ:List (List Int)),(nss.foldl Dv.onceStepL σ).length<=σ.length+nss.length
 | [],_=>by simp
 | k::r,σ=>by
  rw[vb];refine vF (iS r _) ?_
  unfold Dv.onceStepL
  split <;>simp <;>omega
variable {a b:Int}
theorem nY (h:Sd0 a b){ps ss:List Sp}(t:TB a b ps)(t2:TB a b ss)(hl:ps.length*ss.length<=1000):F_Q09 [S a b,P ps,P ss]=.ok (.bl (aL a b ps ss)) true:=by
 have h1:=h.a0;have h2:=h.b0;have h3:=h.le;have l1:0<ps.length:=List.length_pos_iff.mpr t.ne;have l2:0<ss.length:=List.length_pos_iff.mpr t2.ne;have l3:0<ps.length*ss.length:=xH l1 l2;have e:Dv.fillsR (S a b) (P ps) (P ss)=.ok (.bl (aL a b ps ss)) true:=by
  unfold S Dv.fillsR;simp only[ri,decide_eq_true h1,decide_eq_true h2,decide_eq_true (show a*b<=1000 by omega),decide_eq_true l3,decide_eq_true hl,vY,if_true];rfl
 simp only[F_Q09,b_Q09,Dv.fn,sFills,uS,va,vj,vg,uX,u7,List.replicate,Nat.reduceAdd,Nat.reduceSub,if_true,e]
variable {a b:Int}
def dsp (a b c:Int):Sp:=(c*69621%2147483629%a,c*69621%2147483629/64%b)
theorem rq (acc:List Sp)(p:Sp):(acc.map T)++[T p]=(acc++[p]).map T:=by simp
theorem sW {ps:List Sp}(h:ps.length<64)(hn:ps≠[])(hr:∀ p∈ps,0<=p.1/\p.1<a/\0<=p.2/\p.2<b)(f:Bool):∃ qs,Dv.sortSetTD (P ps) f=.ok (P qs) f/\TB a b qs/\qs.length<=ps.length:=by
 have m:∀ x,x∈Dv.onceL (ps.map f2) ↔ x∈ps.map f2:=λ x=>by unfold Dv.onceL;rw[gz];simp
 have e:Dv.onceL (ps.map f2)=((Dv.onceL (ps.map f2)).map g2).map f2:=by
  rw[vm];refine(fL λ l hl=>?_).symm;obtain⟨p,_,rfl⟩:=List.mem_map.mp ((m l).mp hl);rfl
 have nd:((Dv.onceL (ps.map f2)).map g2).Nodup:=dW (f:=f2) (by rw[<- e];exact iY _ _ (by simp));have le:(Dv.onceL (ps.map f2)).length<=ps.length:=by
  have:=iS (ps.map f2) [];simp at this;unfold Dv.onceL;omega
 have m2:∀ p,p∈(Dv.onceL (ps.map f2)).map g2->p∈ps:=λ p hp=>by
  obtain⟨l,hl,rfl⟩:=List.mem_map.mp hp;obtain⟨q,hq,rfl⟩:=List.mem_map.mp ((m l).mp hl);exact hq
 refine⟨psort ((Dv.onceL (ps.map f2)).map g2),?_,dj (λ z=>?_) nd λ p hp=>hr p (m2 p hp),by rw[aG,uR];exact le⟩
 ·unfold P Dv.sortSetTD
  simp only[fY];rw[if_pos (by rw[uR];exact h)];have:=dk ((Dv.onceL (ps.map f2)).map g2);rw[<- e] at this;rw[this,sC]
 ·obtain⟨p,r,q⟩:=List.exists_cons_of_ne_nil hn
  have:f2 p∈Dv.onceL (ps.map f2):=(m _).mpr (List.mem_map.mpr ⟨p,by rw[q];exact uY,rfl⟩);have h2:g2 (f2 p)∈(Dv.onceL (ps.map f2)).map g2:=List.mem_map.mpr ⟨_,this,rfl⟩;rw[z] at h2;cases h2
variable {a b:Int}
theorem bJ (c:Int):∀ (n:Nat) (lo:Int),(Dv.stepL lo c n).length=n
 | 0,_=>rfl
 | n+1,lo=>by rw[Dv.stepL,uX,bJ]
theorem fz {c:Int}(hc:0<c):∀ (n:Nat) (lo:Int),∀ x∈Dv.stepL lo c n,lo<=x/\x<lo+c*n
 | 0,_,x,hx=>by simp[Dv.stepL] at hx
 | n+1,lo,x,hx=>by
  rw[Dv.stepL] at hx;have e:c*((n+1:Nat):Int)=c+c*n:=by rw[wz,Int.mul_add,yw,xU]
  have q:0<=c*(n:Int):=yj ⋯ ⋯
  rcases List.mem_cons.mp hx with rfl|hx
  ·omega
  ·have:=fz hc n (lo+c) x hx;omega
theorem i5 {c:Int}(hc:0<c):∀ (n:Nat) (lo:Int),(Dv.stepL lo c n).Nodup
 | 0,_=>by simp[Dv.stepL]
 | n+1,lo=>by
  rw[Dv.stepL,vT];exact⟨λ hm=>by have:=fz hc n _ _ hm;omega,i5 hc n _⟩
theorem si (n:Nat):Dv.upL 0 n=upto n:=by
 have:∀ (n:Nat) (lo:Int),Dv.upL lo n=(List.range n).map λ (i:Nat)=>lo+(i:Int):=by
  intro n
  induction n with
  | zero=>intro lo;rfl
  | succ n ih=>
   intro lo;rw[Dv.upL,ih,wL,uS,vm];simp only[xn,xt,List.cons.injEq,true_and];exact vt λ i _=>by simp only[Ay,wz];omega
 rw[this];unfold upto;exact vt λ i _=>⋯
structure Sub (s:Int)(A:List Int):Prop where
 nd:A.Nodup
 rg:∀ x∈A,0<=x/\x<s
theorem dF {s m:Int}(h1:1<=s)(h2:s<=60)(hm:0<=m):∃ A B f,F_Q0G [.int s,.int m]=.ok (.lst [L A,L B]) f/\Sub s A/\Sub s B/\((A.length*B.length:Nat):Int)=s:=by
 have hn:s∈divs s:=mem_divs.mpr ⟨h1,wc _,Int.emod_self⟩;have hl:0<(divs s).length:=List.length_pos_of_mem hn;have hl2:(divs s).length<=60:=by
  have:(divs s).length<=(gf s).length:=List.length_filter_le _ _;have e:(gf s).length<=60:=by unfold gf;simp;omega
  omega
 have r0:=bh (a:=m) (show (0:Int)<(divs s).length by omega);generalize hk:m%((divs s).length:Int)=k at *;have hd:(divs s).getD k.toNat 0∈divs s:=getD_mem ⋯;have hat:=rP (s:=divs s) (k:=k) r0.1 r0.2;generalize hdd:(divs s).getD k.toNat 0=d at *;obtain⟨d1,d2,d3⟩:=mem_divs.mp hd;have e1:c_Q0G_1 [some (.int s),some (.int m),none,none,none,none]=.ok (L (divs s)) true:=by
  have hi:iRange2 (eInt 1) (eOp .add (eVar 0) (eInt 1)) [some (.int s),some (.int m),none,none,none,none]=.ok ((gf s).map .int) true:=by
   have hr:(rngOk 1&&rngOk (s+1))=true:=by simp[rngOk];omega
   simp only[iRange2,iRange2,eOp,eVar,eInt,R.bind,RL.bind,Out.bind,au,uW,if_true,aZ,hr];rw[dM];unfold gf;congr 2;rw[show (s+1-1).toNat=s.toNat by omega]
  have hu:(gf s).length<=100000:=by unfold gf;simp;omega
  have:=n6 (elt:=eVar 0) (cond:=eCm .eq (eOp .mod (eVar 1) (eVar 0)) (eInt 0)) (is:=[0]) (c:=λ d=>decide (s%d=0)) (g:=id) hi hu
   (λ x hx=>by
    have:1<=x:=by unfold gf at hx;obtain⟨i,_,rfl⟩:=List.mem_map.mp hx;omega
    simp only[eCm,eOp,eVar,eInt,Dv.pick,R.bind,RL.bind,Out.bind,au,uS,va,uW,uZ,vn,cB,ak (show 0<x by omega)]) (λ k _ _=>rfl)
  unfold c_Q0G_1;rw[this,yz];rfl
 have q1:s/d*d=s:=Int.ediv_mul_cancel (xr d3);have q0:0<s/d:=by
  rcases Int.lt_or_le 0 (s/d) with q|q
  ·exact q
  ·have:s/d*d<=0:=Int.mul_nonpos_of_nonpos_of_nonneg q ⋯
   omega
 have e2:Dv.listRangeD (.int d) true=.ok (L (upto d.toNat)) true:=by
  have:(decide (0<=d)&&decide (d<=100000))=true:=by simp;omega
  simp only[Dv.listRangeD,this,if_true,si]
 have e3:Dv.listRange3D (.int 0) (.int s) (.int d)=.ok (L (Dv.stepL 0 d (s/d).toNat)) true:=by
  have hr:(rngOk 0&&rngOk s&&rngOk d&&decide (0<d))=true:=by simp[rngOk];omega
  have hz:(s-0+d-1)/d=s/d:=by
   have:s-0+d-1=(d-1)+d*(s/d):=by rw[wt,q1];omega
   rw[this,xE _ _ ⋯,Int.ediv_eq_zero_of_lt ⋯ ⋯,Int.zero_add]
  simp only[Dv.listRange3D,hr,if_true,hz]
 have hS1:Sub s (upto d.toNat):=⟨(eJ _).imp λ {x y} h e=>⋯,λ x hx=>by have:=mem_upto.mp hx;omega⟩;have hS2:Sub s (Dv.stepL 0 d (s/d).toNat):=⟨i5 ⋯ _ _,λ x hx=>by
  have:=fz (show 0<d by omega) _ _ x hx;rw[vU ⋯,wt,q1] at this;omega⟩
 have hz:((d.toNat*(s/d).toNat:Nat):Int)=s:=by
  rw[wV,vU ⋯,vU ⋯,wt,q1]
 have hx:Dv.ixD (L (divs s)) (.int k) false=.ok (.int d) true:=by unfold L Dv.ixD;simp only[hat,au,xT]
 have lt2:(2:Int)<2 ^ 200:=by decide
 by_cases c:m/8%2=1
 ·refine⟨Dv.stepL 0 d (s/d).toNat,upto d.toNat,false,?_,hS2,hS1,by rw[upto_len,bJ,wI];exact hz⟩
  simp only[F_Q0G,b_Q0G,b_Q0G_t5,b_Q0G_t4,b_Q0G_t3,b_Q0G_t2,b_Q0G_t1,Dv.fn,sCons,sSet,sSetG,aT,oH,Dv.give,Dv.open_,aR,aE,az,bb,sIf,sRet,sPar,eB1,eIx,eCm,eOp,eVar,eInt,eLst,lNil,lCons,Dv.all,R.bind,RL.bind,Dv.R.bindL,Dv.RL.bindL,Out.bind,bo,aD,bW,au,ar,uS,va,uX,u7,List.replicate,vj,vg,uW,uZ,ve,vf,vb,vB,vn,vw,vP,Nat.reduceAdd,Nat.reduceSub,cB,uR,eB3,e1,ak (show (0:Int)<(divs s).length by omega),Dv.lenD,hk,hx,e2,e3,aB (show (0:Int)<8 by decide) (by decide),ak (show (0:Int)<2 by decide),decide_eq_true c]
 ·refine⟨upto d.toNat,Dv.stepL 0 d (s/d).toNat,false,?_,hS1,hS2,by rw[upto_len,bJ];exact hz⟩
  simp only[F_Q0G,b_Q0G,b_Q0G_t5,b_Q0G_t4,b_Q0G_t3,b_Q0G_t2,b_Q0G_t1,Dv.fn,sCons,sNil,sSet,sSetG,aT,oH,Dv.give,Dv.open_,aR,aE,az,bb,sIf,sRet,eB1,eIx,eCm,eOp,eVar,eInt,eLst,lNil,lCons,Dv.all,R.bind,RL.bind,Dv.R.bindL,Dv.RL.bindL,Out.bind,bo,aD,bW,au,ar,uS,va,uX,u7,List.replicate,vj,vg,uW,uZ,ve,vf,vb,vB,vn,vw,vP,Nat.reduceAdd,Nat.reduceSub,cB,uR,eB3,e1,ak (show (0:Int)<(divs s).length by omega),Dv.lenD,hk,hx,e2,e3,aB (show (0:Int)<8 by decide) (by decide),ak (show (0:Int)<2 by decide),decide_eq_false c]
variable {a b:Int}
def crs (A B:List Int):List Sp:=A.flatMap λ x=>B.map λ y=>(x,y)
theorem iu (A B:List Int):(crs A B).length=A.length*B.length:=by
 unfold crs;rw[xO]
 induction A with
 | nil=>simp
 | cons x A ih=>rw[uS,yo,ih,uR,uX,yA,Nat.one_mul,xp]
theorem crs_mem {A B:List Int}{p:Sp}:p∈crs A B ↔ p.1∈A/\p.2∈B:=by
 unfold crs;rw[yb]
 constructor
 ·rintro ⟨x,hx,hp⟩
  obtain⟨y,hy,rfl⟩:=List.mem_map.mp hp;exact⟨hx,hy⟩
 ·rintro ⟨h1,h2⟩
  exact⟨p.1,h1,List.mem_map.mpr ⟨p.2,h2,rfl⟩⟩
theorem sF {A B:List Int}(ha:A.Nodup)(hb:B.Nodup):(crs A B).Nodup:=by
 unfold crs List.Nodup;rw[xG];refine⟨λ x _=>?_,ha.imp λ {x y} h p hp q hq e=>?_⟩
 ·exact c7 hb λ y _ z _ e=>congrArg Prod.snd e
 ·obtain⟨_,_,rfl⟩:=List.mem_map.mp hp
  obtain⟨_,_,rfl⟩:=List.mem_map.mp hq;exact h (congrArg Prod.fst e)
theorem oG {x y:List Sp}(h:x.length+y.length<=1000):∃ f,opD .add (P x) (P y)=.ok (P (x++y)) f:=by
 refine⟨Dv.flatL (x.map T)&&Dv.flatL (y.map T),?_⟩;unfold opD;simp only[uR,if_pos (show x.length+y.length<=Dv.mx by unfold Dv.mx;omega),<- wF]
theorem qV {ys:List D}{k:Int}{B:List Int}(h:Dv.at? ys k=some (L B)):Dv.ixD (.lst ys) (.int k) false=.ok (L B) false:=by
 unfold Dv.ixD;simp only[h,ar,yn]
theorem rf {X0 X1 X2 X3 n fo:D}{ln k:Int}{B:List Int}{ys:List D}(hY:Dv.at? ys k=some (L B))(hB:B.length<=60):∀ (xs:List Int) (acc:List Sp) (z:Sl),acc.length+B.length*xs.length<=1000 ->
  ∃ z',forGo 10 b_Q0J_l1 (xs.map .int) [.sh X0,.sh X1,.sh X2,.sh X3,.sh (.lst ys),.sh (.int ln),.ow fo,.sh (.int k),.sh n,.sh (P acc),z]=.nx [.sh X0,.sh X1,.sh X2,.sh X3,.sh (.lst ys),.sh (.int ln),.ow fo,.sh (.int k),.sh n,.sh (P (acc++crs xs B)),z']
 | [],acc,z,_=>⟨z,by simp[forGo,crs]⟩
 | x::xs,acc,z,hl=>by
  rw[uX,wZ] at hl;obtain⟨z',e⟩:=rf (X0:=X0) (X1:=X1) (X2:=X2) (X3:=X3) (ln:=ln) (fo:=fo) (n:=n) hY hB xs (acc++B.map λ y=>(x,y)) (.sh (.int x)) (by rw[vd,uR];omega);refine⟨z',?_⟩;have e1:c_Q0J_1 [some X0,some X1,some X2,some X3,some (.lst ys),some (.int ln),none,some (.int k),some n,some (P acc),some (.int x)]=.ok (P (B.map λ y=>(x,y))) true:=by
   unfold c_Q0J_1 eComp;have hi:iSeq (eIx (eVar 4) (eVar 7)) [some X0,some X1,some X2,some X3,some (.lst ys),some (.int ln),none,some (.int k),some n,some (P acc),some (.int x)]=.ok (B.map .int) false:=by
    simp only[iSeq,eIx,eVar,R.bind,RL.bind,Out.bind,au,ar,uW,uZ,qV hY]
   rw[hi];simp only;rw[if_pos (by rw[uR];unfold Dv.mx;omega)];rw[kO (g:=λ y=>T (x,y)) λ y _=>rfl];simp only[P,vm];rfl
  obtain⟨f,e2⟩:=oG (x:=acc) (y:=B.map λ y=>(x,y)) (by rw[uR];omega);have eb:b_Q0J_l1 [.sh X0,.sh X1,.sh X2,.sh X3,.sh (.lst ys),.sh (.int ln),.ow fo,.sh (.int k),.sh n,.sh (P acc),.sh (.int x)]=.nx [.sh X0,.sh X1,.sh X2,.sh X3,.sh (.lst ys),.sh (.int ln),.ow fo,.sh (.int k),.sh n,.sh (P (acc++B.map λ y=>(x,y))),.sh (.int x)]:=by
   simp only[b_Q0J_l1,sSetG,Dv.give,Dv.open_,aR,az,bb,eOp,eVar,R.bind,RL.bind,Out.bind,ar,uS,va,uW,uZ,ve,vf,vb,vB,vn,e1,e2]
  rw[uS,bZ eb,e,vD];rfl
variable {a b:Int}
theorem uL {α β:Type}(g:α->β)(xs:List α)(lo hi:Option Int):Dv.cutL (xs.map g) lo hi=(Dv.cutL xs lo hi).map g:=by
 unfold Dv.cutL;rw[uR,List.map_take,List.map_drop]
theorem ug {α:Type}{xs:List α}{k:Int}(h:0<=k)(h2:k<=xs.length):Dv.cutL xs none (some k)=xs.take k.toNat:=by
 unfold Dv.cutL Dv.cutI;simp only[yi,Nat.sub_zero,if_neg (show ¬ k<0 by omega)];congr 1;omega
theorem p0 {α:Type}{xs:List α}{k:Int}(h:0<=k)(h2:k<=xs.length):Dv.cutL xs (some k) none=xs.drop k.toNat:=by
 unfold Dv.cutL Dv.cutI;simp only[if_neg (show ¬ k<0 by omega)];rw[show min k.toNat xs.length=k.toNat by omega,wg (by rw[wM];omega)]
theorem kJ (ps:List Sp)(f:Bool)(lo hi:Option Int):∃ f',Dv.sliceD (P ps) f lo hi=.ok (P (Dv.cutL ps lo hi)) f':=by
 refine⟨f || Dv.flatL (Dv.cutL (ps.map T) lo hi),?_⟩;unfold Dv.sliceD;simp only[uL]
theorem ie (h:Sd0 a b){ps:List Sp}(t:TB a b ps)(hl:ps.length<=60)(m:Int):∃ qs f,F_Q0I [S a b,P ps,.int m]=.ok (P qs) f/\TB a b qs/\qs.length=ps.length:=by
 have ha:=h.a0;have hb:=h.b0;have l1:0<ps.length:=List.length_pos_iff.mpr t.ne;have r0:=bh (a:=m) (show (0:Int)<ps.length by omega);generalize hk:m%(ps.length:Int)=k at *;obtain⟨f1,s1⟩:=kJ ps false none (some k);obtain⟨f2',s2⟩:=kJ ps false (some (k+1)) none;rw[ug r0.1 ⋯] at s1;rw[p0 ⋯ ⋯] at s2;have hz:(k+1).toNat=k.toNat+1:=⋯
 rw[hz] at s2;obtain⟨f3,s3⟩:=oG (x:=ps.take k.toNat) (y:=ps.drop (k.toNat+1)) (by rw[vG,wM];omega);have er:ps.take k.toNat++ps.drop (k.toNat+1)=ps.eraseIdx k.toNat:=(wN ps k.toNat).symm;rw[er] at s3;have rl:(ps.eraseIdx k.toNat).length=ps.length-1:=wx ⋯;have rs:(ps.eraseIdx k.toNat).Sublist ps:=List.eraseIdx_sublist ps k.toNat
 let q:Sp:=(m/64%a,m/4096%b)
 have eT:D.tup [.int (m/64%a),.int (m/4096%b)]=T q:=rfl;have hi:=tI (p:=q) (ps:=ps.eraseIdx k.toNat) ⋯;have lenP:=qR ps false;by_cases c:q∈ps.eraseIdx k.toNat
 ·refine⟨ps,false,?_,t,rfl⟩
  rw[decide_eq_true c] at hi;simp only[F_Q0I,b_Q0I,b_Q0I_t4,b_Q0I_t3,b_Q0I_t2,b_Q0I_t1,Dv.fn,sCons,sSet,sSetG,aT,Dv.give,Dv.open_,aR,aE,az,sIf,sRetO,eB1,eB2,eIx,eOp,eVar,eInt,eTup,lNil,lCons,eSlice,ePart,Dv.all,R.bind,RL.bind,Dv.R.bindL,Dv.RL.bindL,Out.bind,bo,aD,au,ar,uS,va,uX,u7,List.replicate,vj,vg,uW,uZ,ve,vf,vb,vB,vn,vw,Nat.reduceAdd,Nat.reduceSub,aZ,scP,lenP,ak (show (0:Int)<ps.length by omega),hk,s1,s2,s3,aB (show (0:Int)<64 by decide) (by decide),aB (show (0:Int)<4096 by decide) (by decide),scS,dI,df,ak ha,ak hb,eT,hi]
 ·have nd:(ps.eraseIdx k.toNat++[q]).Nodup:=by
   rw[List.nodup_append];refine⟨t.nd.sublist rs,by simp,λ x hx y hy e=>?_⟩;simp at hy;subst hy;subst e;exact c hx
  have hrg:∀ p∈ps.eraseIdx k.toNat++[q],0<=p.1/\p.1<a/\0<=p.2/\p.2<b:=λ p hp=>by
   rcases List.mem_append.mp hp with hp|hp
   ·exact t.rg p (rs.subset hp)
   ·simp at hp;subst hp;exact dE ha hb _ _
  obtain⟨f4,s4⟩:=oG (x:=ps.eraseIdx k.toNat) (y:=[q]) (by simp;omega);have s4':opD .add (P (ps.eraseIdx k.toNat)) (.lst [T q])=.ok (P (ps.eraseIdx k.toNat++[q])) f4:=s4;have s5:=jO (ps:=ps.eraseIdx k.toNat++[q]) (by simp;omega) f4;refine⟨psort (ps.eraseIdx k.toNat++[q]),f4,?_,dj (by simp) nd hrg,by rw[aG];simp;omega⟩;rw[decide_eq_false c] at hi;simp only[F_Q0I,b_Q0I,b_Q0I_t4,b_Q0I_t3,b_Q0I_t2,b_Q0I_t1,Dv.fn,sCons,sNil,sSet,sSetG,aT,Dv.give,Dv.open_,aR,aE,az,sIf,sRet,eB1,eB2,eIx,eOp,eVar,eInt,eLst,eTup,lNil,lCons,eSlice,ePart,Dv.all,R.bind,RL.bind,Dv.R.bindL,Dv.RL.bindL,Out.bind,bo,aD,au,ar,uS,va,uX,u7,List.replicate,vj,vg,uW,uZ,ve,vf,vb,vB,vn,vw,Nat.reduceAdd,Nat.reduceSub,aZ,scP,lenP,ak (show (0:Int)<ps.length by omega),hk,s1,s2,s3,aB (show (0:Int)<64 by decide) (by decide),aB (show (0:Int)<4096 by decide) (by decide),scS,dI,df,ak ha,ak hb,eT,hi,s4',s5]
end Cw
namespace Ts
open Bt
open Dv (ag nodupB)
theorem fq (a b:Int)(ps:List Sp):∀ ss:List Sp,(ag a b ps ss).Perm (ag a b ss ps)
 | []=>by
  have:ag a b [] ps=[]:=by unfold ag;simp
  rw[this];exact .refl _
 | s::ss=>by
  have ih:=fq a b ps ss;have e1:ag a b ps (s::ss)=(ps.map λ p=>((p.1+s.1)%a,(p.2+s.2)%b))++ag a b ps ss:=by unfold ag;rw[vR]
  have e2:(ag a b (s::ss) ps).Perm ((ps.map λ p=>((s.1+p.1)%a,(s.2+p.2)%b))++ag a b ss ps):=by
   unfold ag;simp only[uS];exact gA _ _ _
  have e3:(ps.map λ p=>(((s.1+p.1)%a,(s.2+p.2)%b):Sp))=ps.map λ p=>((p.1+s.1)%a,(p.2+s.2)%b):=vt λ p _=>by rw[xU s.1,xU s.2]
  rw[e1];rw[e3] at e2;exact(ih.append_left _).trans e2.symm
theorem gb {a b:Int}{ps ss qs ts:List Sp}(h1:ps.length*ss.length=qs.length*ts.length)(h2:(ag a b ps ss).Nodup ↔ (ag a b qs ts).Nodup):aL a b ps ss=aL a b qs ts:=by
 unfold aL;rw[bA,bA,h1];congr 1;exact decide_eq_decide.mpr h2
theorem j5 (a b:Int)(ps ss:List Sp):aL a b ps ss=aL a b ss ps:=gb (wI _ _) (fq a b ps ss).nodup_iff
theorem gH {a b a' b':Int}{g h f:Sp->Sp}{ps ss:List Sp}(hab:a*b=a'*b')(e:∀ p∈ps,∀ s∈ss,(((g p).1+(h s).1)%a',((g p).2+(h s).2)%b')=f ((p.1+s.1)%a,(p.2+s.2)%b))
  (inj:∀ p∈ag a b ps ss,∀ q∈ag a b ps ss,f p=f q->p=q):aL a' b' (psort (ps.map g)) (psort (ss.map h))=aL a b ps ss:=by
 have pm:(ag a' b' (psort (ps.map g)) (psort (ss.map h))).Perm ((ag a b ps ss).map f):=by
  refine(jQ (bz _) (bz _)).trans ?_
  have:ag a' b' (ps.map g) (ss.map h)=(ag a b ps ss).map f:=by
   unfold ag;rw[List.map_flatMap,List.flatMap_map];refine congrArg List.flatten (vt λ s hs=>?_);simp only[vm];exact vt λ p hp=>e p hp s hs
  rw[this]
 unfold aL;rw[bA,bA,aG,aG,uR,uR,hab];congr 1;refine decide_eq_decide.mpr ?_
 rw[pm.nodup_iff];exact⟨dW,λ nd=>c7 nd inj⟩
theorem jE {a b:Int}(ps ss:List Sp):aL b a (psort (ps.map λ p=>(p.2,p.1))) (psort (ss.map λ p=>(p.2,p.1)))=aL a b ps ss:=
 gH (f:=λ p=>(p.2,p.1)) (wt a b) (λ p _ s _=>rfl) λ p _ q _ e=>by
  simp only[A5] at e;exact Bp e.2 e.1
theorem jn {a b r u r' u':Int}(ha:0<a)(hb:0<b)(ps ss:List Sp):aL a b (mvd a b r u ps) (mvd a b r' u' ss)=aL a b ps ss:=
 gH (f:=λ p=>((p.1+(r+r'))%a,(p.2+(u+u'))%b)) rfl (λ p _ s _=>by
  simp only[Int.emod_add_emod,Int.add_emod_emod];rw[show p.1+r+(s.1+r')=p.1+s.1+(r+r') by omega,show p.2+u+(s.2+u')=p.2+s.2+(u+u') by omega]) λ p hp q hq e=>mR ha hb (fT ha hb p hp) (fT ha hb q hq) e
theorem lg {a b:Int}(hb:0<b){p q:Sp}(hp:0<=p.1/\p.1<a/\0<=p.2/\p.2<b)(hq:0<=q.1/\q.1<a/\0<=q.2/\q.2<b)(e:p.1*b+p.2=q.1*b+q.2):p=q:=by
 obtain⟨h1,h2⟩:=digits hb hp.2.2 hq.2.2 e;exact Bp h1 h2
theorem sr {a b:Int}(hb:0<b){p:Sp}(hp:0<=p.1/\p.1<a/\0<=p.2/\p.2<b):0<=p.1*b+p.2/\p.1*b+p.2<a*b:=by
 have h1:0<=p.1*b:=yj hp.1 ⋯;have h2:(p.1+1)*b<=a*b:=wQ ⋯ ⋯;rw[yx,yy] at h2;omega
theorem nQ {a b:Int}(h:Sd0 a b){l:List Sp}(nd:l.Nodup)(rg:∀ p∈l,0<=p.1/\p.1<a/\0<=p.2/\p.2<b)(hl:(l.length:Int)=a*b):l.Perm (spots a b):=by
 have n0:=ab0 h;have hb:=h.b0;have sl:=cL (a:=a) (b:=b) (by have:=h.a0;omega) ⋯;have key:∀ l:List Sp,l.Nodup->(∀ p∈l,0<=p.1/\p.1<a/\0<=p.2/\p.2<b)->(l.length:Int)=a*b->(l.map λ p=>p.1*b+p.2).Perm ((List.range (a*b).toNat).map λ (i:Nat)=>(i:Int)):=λ l nd rg hl=>
  o7 (c7 nd λ p hp q hq e=>lg hb (rg p hp) (rg q hq) e) (λ x hx=>by
   obtain⟨p,hp,rfl⟩:=List.mem_map.mp hx;have:=sr hb (rg p hp);omega) (by rw[uR];omega)
 have p1:=key l nd rg hl;have p2:=key (spots a b) (dY (cI a b)) (λ p hp=>mem_spots.mp hp) sl;have pm:=p1.trans p2.symm;refine(wu nd (dY (cI a b))).mpr λ p=>⟨λ hp=>mem_spots.mpr (rg p hp),λ hp=>?_⟩
 have h1:p.1*b+p.2∈l.map λ p=>p.1*b+p.2:=pm.mem_iff.mpr (List.mem_map.mpr ⟨p,hp,rfl⟩)
 obtain⟨q,hq,e⟩:=List.mem_map.mp h1;rw[<- lg hb (rg q hq) (mem_spots.mp hp) e];exact hq
theorem ic {a b:Int}(h:Sd0 a b)(ps ss:List Sp):decide (psort (ag a b ps ss)=spots a b)=aL a b ps ss:=by
 have hl:=cL (a:=a) (b:=b) (by have:=h.a0;omega) (by have:=h.b0;omega);have fl:=d9 a b ps ss;unfold aL;rw[bA,vJ,vi,decide_eq_true_eq,decide_eq_true_eq,decide_eq_true_eq]
 constructor
 ·intro e
  have pm:=(bz (ag a b ps ss)).symm;rw[e] at pm;have:=pm.length_eq;exact⟨by rw[<- fl,this];exact hl,pm.nodup_iff.mpr (dY (cI a b))⟩
 ·rintro ⟨h1,nd⟩
  have pm:=nQ h nd (fT h.a0 h.b0) (by rw[fl];exact h1);exact jL (iO nd) (cI a b) λ p=>by rw[psort_mem];exact pm.mem_iff
theorem jB {a b:Int}{ps:List Sp}(t:TB a b ps):TB b a (psort (ps.map λ p=>(p.2,p.1))):=
 dj (by simpa using t.ne) (c7 t.nd λ p _ q _ e=>by
  simp only[A5] at e;exact Bp e.2 e.1) λ p hp=>by
  obtain⟨q,hq,rfl⟩:=List.mem_map.mp hp;have:=t.rg q hq;exact⟨this.2.2.1,this.2.2.2,this.1,this.2.1⟩
def mvg (a b r u l:Int)(ps:List Sp):List Sp:=psort (ps.map λ p=>((p.1+r)%a,(p.2+u+l*p.1)%b))
theorem oe (a b r u:Int)(ps:List Sp):mvg a b r u 0 ps=mvd a b r u ps:=by
 unfold mvg mvd;congr 1;exact vt λ p _=>by rw[Int.zero_mul,xt]
theorem rM {a b r u l:Int}(ha:0<a)(hb:0<b){ps:List Sp}(ne:ps≠[])(nd:ps.Nodup)(rg:∀ p∈ps,0<=p.1/\p.1<a/\0<=p.2/\p.2<b):TB a b (mvg a b r u l ps):=
 dj (by simpa using ne) (c7 nd λ p hp q hq e=>by
  simp only[A5] at e;have h1:=rg p hp;have h2:=rg q hq;have e1:p.1=q.1:=ff ha ⟨h1.1,h1.2.1⟩ ⟨h2.1,h2.2.1⟩ e.1;have e2:=e.2;rw[e1,yp,yp] at e2;exact Bp e1 (ff hb h1.2.2 h2.2.2 e2)) λ p hp=>by
  obtain⟨q,_,rfl⟩:=List.mem_map.mp hp;exact dE ha hb _ _
theorem pG (a b r u l:Int)(ps:List Sp):(mvg a b r u l ps).length=ps.length:=by unfold mvg;rw[aG,uR]
end Ts
namespace Cw
open Dv (Out R RL cmD eB1 eBl eCall eCm eCompT eInt eIx eLst eNot eOp eOr eSortEq eTup eVar forGo iRange iSeq lCons lNil opD rngOk sAppF sAppG sCons sExpr sFor sForT sIf sNil sRet sRetO sSet sSetG sUnpackL)
open Dv (D R RL EE EL EI RI Sl Out SS St ag)
open Bt Ts
variable {a b:Int}
theorem jo (h:Sd0 a b){A:D}{r u l:Int}{p:Sp}(hp:0<=p.1/\p.1<a){acc:List Sp}(hl:acc.length<=1000):b_Q0F_l1 [.sh (S a b),.sh A,.sh (.int r),.sh (.int u),.sh (.int l),.ow (P acc),.sh (.int p.1),.sh (.int p.2)]=.nx [.sh (S a b),.sh A,.sh (.int r),.sh (.int u),.sh (.int l),.ow (P (acc++[((p.1+r)%a,(p.2+u+l*p.1)%b)])),.sh (.int p.1),.sh (.int p.2)]:=by
 have ha:=h.a0;have hb:=h.b0;have h6:=h.a60;have hx:decide (acc.length<Dv.mx)=true:=decide_eq_true (by unfold Dv.mx;omega);simp only[b_Q0F_l1,eIx,eOp,eVar,eInt,eTup,lNil,lCons,Dv.all,R.bind,RL.bind,Dv.R.bindL,Dv.RL.bindL,Out.bind,aD,bW,au,uS,va,uW,uZ,ve,vf,vw,if_true,aZ,uR,sAppF,scS,dI,df,ak ha,bF (cb (i:=l) (j:=p.1) ⋯ ⋯),ak hb,hx];show Out.nx [_,_,_,_,_,.ow (.lst (acc.map T++[T ((p.1+r)%a,(p.2+u+l*p.1)%b)])),_,_]=_
 rw[rq]
theorem eu (h:Sd0 a b){A:D}{r u l:Int}:∀ (ps:List Sp) (acc:List Sp) (z y:Sl),(∀ p∈ps,0<=p.1/\p.1<a)->acc.length+ps.length<=1000->∃ z' y',Dv.forGoT (Dv.tupTo [6,7]) b_Q0F_l1 (ps.map T) [.sh (S a b),.sh A,.sh (.int r),.sh (.int u),.sh (.int l),.ow (P acc),z,y]=.nx [.sh (S a b),.sh A,.sh (.int r),.sh (.int u),.sh (.int l),.ow (P (acc++ps.map λ p=>((p.1+r)%a,(p.2+u+l*p.1)%b))),z',y']
 | [],acc,z,y,_,_=>⟨z,y,by simp[Dv.forGoT]⟩
 | p::ps,acc,z,y,hr,hl=>by
  rw[uX] at hl;obtain⟨z',y',e⟩:=eu h (A:=A) (r:=r) (u:=u) (l:=l) ps (acc++[((p.1+r)%a,(p.2+u+l*p.1)%b)]) (.sh (.int p.1)) (.sh (.int p.2)) (λ q hq=>hr q (uU _ hq)) (by rw[vd];simp;omega);refine⟨z',y',?_⟩;have h0:Dv.tupTo [6,7] (T p) [.sh (S a b),.sh A,.sh (.int r),.sh (.int u),.sh (.int l),.ow (P acc),z,y]=some [.sh (S a b),.sh A,.sh (.int r),.sh (.int u),.sh (.int l),.ow (P acc),.sh (.int p.1),.sh (.int p.2)]:=rfl;rw[uS,lL h0 (jo h (hr p uY) ⋯),e,vD];rfl
theorem dN (h:Sd0 a b){ps:List Sp}(hr:∀ p∈ps,0<=p.1/\p.1<a/\0<=p.2/\p.2<b)(hl:ps.length<64)(r u l:Int):F_Q0F [S a b,P ps,.int r,.int u,.int l]=.ok (P (mvg a b r u l ps)) false:=by
 obtain⟨z',y',e⟩:=eu h (A:=P ps) (r:=r) (u:=u) (l:=l) ps [] .no .no (λ p hp=>⟨(hr p hp).1,(hr p hp).2.1⟩) (by simp;omega);rw[vg] at e;have e':Dv.forGoT (Dv.tupTo [6,7]) b_Q0F_l1 (ps.map T) [.sh (S a b),.sh (P ps),.sh (.int r),.sh (.int u),.sh (.int l),.ow (.lst []),.no,.no]=_:=e;have e2:=jO (ps:=ps.map λ p=>(((p.1+r)%a,(p.2+u+l*p.1)%b):Sp)) (by rw[uR];exact hl) false;simp only[F_Q0F,b_Q0F,b_Q0F_t2,b_Q0F_t1,Dv.fn,sCons,sSet,keep_nil,Dv.give,Dv.open_,aR,aE,az,bb,sRet,sForT,iSeq,eB1,eVar,eLst,lNil,Dv.all,R.bind,RL.bind,Out.bind,aD,bW,ar,uS,va,uX,u7,List.replicate,vj,vg,uW,uZ,ve,vf,vb,vB,vn,Nat.reduceAdd,Nat.reduceSub,e',scP,e2];rfl
theorem nX {fs qs:List Sp}(h:fs.length<64\/fs.length≠qs.length):Dv.sortEqD (fs.map f2) (P qs)=.ok (.bl (decide (psort fs=qs))) true:=by
 unfold Dv.sortEqD;by_cases c:fs.length<64
 ·rw[if_pos (by rw[uR];exact c),dk,sC]
  exact rN _ _
 ·rw[if_neg (by rw[uR];exact c)]
  have hn:fs.length≠qs.length:=h.resolve_left c;have hd:¬ psort fs=qs:=λ e=>hn (by rw[<- e,aG])
  simp only[fY,uR];rw[if_neg (λ e=>hn e.symm),decide_eq_false hd]
theorem aQ (h:Sd0 a b){ps ss:List Sp}(t:TB a b ps)(t2:TB a b ss)(hp:ps.length<=1000)(hs:ss.length<=1000)(hl:ps.length*ss.length<=4000):F_Q0M [S a b,P ps,P ss]=.ok (.bl (aL a b ps ss)) true:=by
 obtain⟨z',e⟩:=fC h (X:=P ss) hp ss [] .no (by simp;omega);rw[vg] at e;have e':forGo 4 b_Q0M_l1 (ss.map T) [.sh (S a b),.sh (P ps),.sh (P ss),.ow (.lst []),.no]=.nx [.sh (S a b),.sh (P ps),.sh (P ss),.ow (P (ag a b ps ss)),z']:=e;obtain⟨f,e1⟩:=dh h;have fl:=d9 a b ps ss;have sl:=cL (a:=a) (b:=b) (by have:=h.a0;omega) (by have:=h.b0;omega);have h60:=h.le;have e2:=nX (fs:=ag a b ps ss) (qs:=spots a b) ⋯;rw[ic h] at e2;have e3:eSortEq (eVar 3) (eCall F_Q00 (lCons (eVar 0) lNil)) [some (S a b),some (P ps),some (P ss),some (P (ag a b ps ss)),Dv.Sl.get z']=.ok (.bl (aL a b ps ss)) true:=by
  simp only[eSortEq,eVar,lNil,lCons,eCall,R.bind,RL.bind,Dv.R.bindL,Dv.RL.bindL,Out.bind,ar,uW,uZ,vw,uR,fY,e1,e2];rw[if_pos ⋯]
 simp only[F_Q0M,b_Q0M,b_Q0M_t4,b_Q0M_t3,b_Q0M_t2,b_Q0M_t1,Dv.fn,sCons,sSet,keep_nil,Dv.give,Dv.open_,aR,aE,az,bb,sRet,sExpr,sFor,iSeq,eVar,eLst,lNil,lCons,eCall,Dv.all,R.bind,RL.bind,Dv.R.bindL,Dv.RL.bindL,Out.bind,bo,aD,bW,ar,uS,va,uX,u7,List.replicate,vj,vg,uW,uZ,ve,vf,vb,vB,vn,vw,vP,Nat.reduceAdd,Nat.reduceSub,cA h t hp,cA h t2 hs,e',e3]
def okG:R->Bool
 | .ok (.int y) true=>decide (0<y)&&decide (y<100)
 | _=>false
theorem rJ {r:R}(h:okG r=true):∃ g,r=.ok (.int g) true/\0<g/\g<100:=by
 unfold okG at h
 split at h
 ·rw[vi,decide_eq_true_eq,decide_eq_true_eq] at h
  exact⟨_,rfl,h.1,h.2⟩
 ·cases h
theorem oi:((upto 12).all λ x=>(upto 60).all λ y=>decide (60<(x+1)*(y+1)) || okG (F_Q0A [.int (x+1),.int (y+1)]))=true:=by decide +kernel
theorem qm (h:Sd0 a b)(h12:a<=12):∃ g,F_Q0A [.int a,.int b]=.ok (.int g) true/\0<g/\g<100:=by
 have ha:=h.a0;have hb:=h.b0;have h6:=h.b60;have t1:=List.all_eq_true.mp oi (a-1) (mem_upto.mpr ⋯);have t2:=List.all_eq_true.mp t1 (b-1) (mem_upto.mpr ⋯);rw[show a-1+1=a by omega,show b-1+1=b by omega,decide_eq_false (show ¬ 60<a*b by have:=h.le;omega),yk] at t2;exact rJ t2
theorem jJ (h:Sd0 a b){s:List Int}{l k:Int}(hk:0<=k/\k<2){A B:List Int}{xs ys:List D}(hX:Dv.at? xs k=some (L A))(hY:Dv.at? ys k=some (L B))(sA:Sub a A)(sB:Sub b B)(hA:A≠[])(hB:B≠[])(hl:A.length*B.length<=60){fo:List D}(hf:fo.length<=10){z8 z9 z10:Sl}:
  ∃ ps z8' z9' z10',TB a b ps/\ps.length=A.length*B.length/\b_Q0K_l2 [.sh (L s),.sh (.int 1),.sh (S a b),.sh (.lst xs),.sh (.lst ys),.sh (.int l),.ow (.lst fo),.sh (.int k),z8,z9,z10]=.nx [.sh (L s),.sh (.int 1),.sh (S a b),.sh (.lst xs),.sh (.lst ys),.sh (.int l),.ow (.lst (fo++[P ps])),.sh (.int k),z8',z9',z10']:=by
 have ha:=h.a0;have hb:=h.b0;have a6:=h.a60;have b6:=h.b60;have hla:0<A.length:=List.length_pos_iff.mpr hA;have hlb:0<B.length:=List.length_pos_iff.mpr hB;have q1:A.length*1<=A.length*B.length:=xM _ hlb;have q2:1*B.length<=A.length*B.length:=Nat.mul_le_mul_right _ hla;have q3:=wI A.length B.length;have e0:=cQ (s:=s) (k:=1+2+k) ⋯ ⋯;generalize hn:cell s (1+2+k)*48271%2147483647=n at *;obtain⟨z',e1⟩:=rf (X0:=L s) (X1:=.int 1) (X2:=S a b) (X3:=.lst xs) (n:=.int n) (fo:=.lst fo) (ln:=l) hY ⋯ A [] z10 (by simp;omega);rw[vg] at e1;have e1':forGo 10 b_Q0K_l1 (A.map .int) [.sh (L s),.sh (.int 1),.sh (S a b),.sh (.lst xs),.sh (.lst ys),.sh (.int l),.ow (.lst fo),.sh (.int k),.sh (.int n),.sh (.lst []),z10]=_:=e1;have hr:∀ p∈crs A B,0<=p.1/\p.1<a/\0<=p.2/\p.2<b:=λ p hp=>by
  obtain⟨h1,h2⟩:=crs_mem.mp hp;have:=sA.rg _ h1;have:=sB.rg _ h2;omega
 have hne:crs A B≠[]:=λ z=>by have:=iu A B;have g:=xH hla hlb;rw[z,u7] at this;omega
 have e2:=dN h hr (by rw[iu];omega) (n%61) (n/64%61) l;refine⟨mvg a b (n%61) (n/64%61) l (crs A B),.sh (.int n),.sh (P (crs A B)),z',rM ha hb hne (sF sA.nd sB.nd) hr,by rw[pG,iu],?_⟩;have hx:decide (fo.length<Dv.mx)=true:=decide_eq_true (by unfold Dv.mx;omega);simp only[b_Q0K_l2,sCons,sSet,sSetG,aT,Dv.give,Dv.open_,aR,az,bb,sFor,iSeq,eIx,eOp,eVar,eInt,eLst,lNil,lCons,eCall,Dv.all,R.bind,RL.bind,Dv.R.bindL,Dv.RL.bindL,Out.bind,aD,bW,au,ar,uS,va,uW,uZ,ve,vf,vb,vB,vn,vw,vP,if_true,aZ,sAppG,e0,bF (cb (j:=48271) (by decide) (by decide)),ak (show (0:Int)<2147483647 by decide),hn,qV hX,e1',aB (show (0:Int)<64 by decide) (by decide),ak (show (0:Int)<61 by decide),e2,hx]
theorem fj (h:Sd0 a b)(h12:a<=12){s:List Int}:∃ ps ss f,F_Q0K [L s,.int 1,S a b]=.ok (.lst [P ps,P ss]) f/\TB a b ps/\TB a b ss/\ps.length*ss.length<=60:=by
 have ha:=h.a0;have hb:=h.b0;have a6:=h.a60;have b6:=h.b60;have h6:=h.le;have c0:=cQ (s:=s) (k:=1) ⋯ ⋯;have c1:=cQ (s:=s) (k:=1+1) ⋯ ⋯;obtain⟨A0,A1,fa,ea,sA0,sA1,la⟩:=dF (s:=a) (m:=cell s 1%1000003) ⋯ a6 (bh (by decide)).1;obtain⟨B0,B1,fb,eb,sB0,sB1,lb⟩:=dF (s:=b) (m:=cell s 1/16%1000003) ⋯ b6 (bh (by decide)).1;have nz:∀ {x y:List Int} {s:Int},0<s->((x.length*y.length:Nat):Int)=s->x≠[]/\y≠[]:=λ hs e=>by
  constructor
  ·rintro rfl;simp at e;omega
  ·rintro rfl;simp at e;omega
 obtain⟨nA0,nA1⟩:=nz ha la;obtain⟨nB0,nB1⟩:=nz hb lb;have key:A0.length*B0.length*(A1.length*B1.length)<=60:=by
  have e:((A0.length*B0.length*(A1.length*B1.length):Nat):Int)=a*b:=by
   rw[<- la,<- lb,<- wV];congr 1;rw[yq,yq,Nat.mul_left_comm B0.length]
  omega
 have g0:0<A0.length*B0.length:=xH (List.length_pos_iff.mpr nA0) (List.length_pos_iff.mpr nB0);have g1:0<A1.length*B1.length:=xH (List.length_pos_iff.mpr nA1) (List.length_pos_iff.mpr nB1);have k0:A0.length*B0.length<=60:=vF (xu _ g1) key;have k1:A1.length*B1.length<=60:=vF (xA _ g0) key;obtain⟨g,eg,gp,gl⟩:=qm h h12;have m7:opD .mul (.int (b/g)) (.int (cell s (1+1)%7))=.ok (.int (b/g*(cell s (1+1)%7))) true:=bF (cb (by have:=bh (a:=cell s (1+1)) (show (0:Int)<7 by decide);omega) (by have:=bh (a:=cell s (1+1)) (show (0:Int)<7 by decide);omega));generalize hc:b/g*(cell s (1+1)%7)=l at *;obtain⟨ps,y8,y9,y10,t1,l1,e1⟩:=jJ h (s:=s) (l:=l) (k:=0) ⋯ (xs:=[L A0,L A1]) (ys:=[L B0,L B1]) (A:=A0) (B:=B0) rfl rfl sA0 sB0 nA0 nB0 k0 (fo:=[]) (by simp) (z8:=.no) (z9:=.no) (z10:=.no);obtain⟨ss,x8,x9,x10,t2,l2,e2⟩:=jJ h (s:=s) (l:=l) (k:=1) ⋯ (xs:=[L A0,L A1]) (ys:=[L B0,L B1]) (A:=A1) (B:=B1) rfl rfl sA1 sB1 nA1 nB1 k1 (fo:=[P ps]) (by simp) (z8:=y8) (z9:=y9) (z10:=y10);have el:forGo 7 b_Q0K_l2 (Dv.rangeL 0 2) [.sh (L s),.sh (.int 1),.sh (S a b),.sh (.lst [L A0,L A1]),.sh (.lst [L B0,L B1]),.sh (.int l),.ow (.lst []),.no,.no,.no,.no]=.nx [.sh (L s),.sh (.int 1),.sh (S a b),.sh (.lst [L A0,L A1]),.sh (.lst [L B0,L B1]),.sh (.int l),.ow (.lst [P ps,P ss]),.sh (.int 1),x8,x9,x10]:=by
  show forGo 7 b_Q0K_l2 [.int 0,.int (0+1)] _=_
  rw[bZ (st':=_) e1,bZ (st':=_) e2];rfl
 have hr:rngOk 2=true:=by decide
 refine⟨ps,ss,Dv.flatL [P ps,P ss],?_,t1,t2,by rw[l1,l2];exact key⟩;have z2:(2:Int).toNat=2:=by decide
 simp only[F_Q0K,b_Q0K,b_Q0K_t5,b_Q0K_t4,b_Q0K_t3,b_Q0K_t2,b_Q0K_t1,Dv.fn,sCons,sSet,sSetG,aT,keep_nil,Dv.give,Dv.open_,aR,aE,az,sRetO,sFor,iRange,eIx,eOp,eVar,eInt,eLst,lNil,lCons,eCall,Dv.all,R.bind,RL.bind,Dv.R.bindL,Dv.RL.bindL,Out.bind,bo,aD,au,ar,uS,va,uX,u7,List.replicate,vj,vg,uW,uZ,ve,vf,vb,vB,vn,vw,if_true,Nat.reduceAdd,Nat.reduceSub,aZ,c0,c1,scS,dI,df,ak (show (0:Int)<1000003 by decide),ea,aB (show (0:Int)<16 by decide) (by decide),eb,eg,aB (i:=b) gp ⋯,ak (show (0:Int)<7 by decide),m7,hr,z2,el]
theorem nL (h:Sd0 a b){s:List Int}{st k:Int}{M:D}(h0:0<=st+k)(h1:st+k<=1000){acc:List Sp}{z:Sl}(hl:acc.length<=1000):b_Q06_l1 [.sh (L s),.sh (.int st),.sh M,.sh (S a b),.ow (P acc),.sh (.int k),z]=.nx [.sh (L s),.sh (.int st),.sh M,.sh (S a b),.ow (P (acc++[dsp a b (cell s (st+k))])),.sh (.int k),.sh (.int (cell s (st+k)*69621%2147483629))]:=by
 have ha:=h.a0;have hb:=h.b0;have hx:decide (acc.length<Dv.mx)=true:=decide_eq_true (by unfold Dv.mx;omega);have e0:=cQ (s:=s) (k:=st+k) ⋯ ⋯;simp only[b_Q06_l1,sCons,sSet,aT,eIx,eOp,eVar,eInt,eTup,lNil,lCons,eCall,Dv.all,R.bind,RL.bind,Dv.R.bindL,Dv.RL.bindL,Out.bind,aD,bW,au,ar,uS,va,uW,uZ,ve,vf,vw,if_true,aZ,uR,sAppF,e0,bF (cb (j:=69621) (by decide) (by decide)),ak (show (0:Int)<2147483629 by decide),scS,dI,df,ak ha,aB (show (0:Int)<64 by decide) (by decide),ak hb,hx];show Out.nx [_,_,_,_,.ow (.lst (acc.map T++[T (dsp a b (cell s (st+k)))])),_,_]=_
 rw[rq]
theorem jd (h:Sd0 a b){s:List Int}{st:Int}{M:D}:∀ (ks:List Int) (acc:List Sp) (z y:Sl),(∀ k∈ks,0<=st+k/\st+k<=1000)->acc.length+ks.length<=1000->∃ z' y',forGo 5 b_Q06_l1 (ks.map .int) [.sh (L s),.sh (.int st),.sh M,.sh (S a b),.ow (P acc),z,y]=.nx [.sh (L s),.sh (.int st),.sh M,.sh (S a b),.ow (P (acc++ks.map λ k=>dsp a b (cell s (st+k)))),z',y']
 | [],acc,z,y,_,_=>⟨z,y,by simp[forGo]⟩
 | k::ks,acc,z,y,hk,hl=>by
  rw[uX] at hl;have h1:=hk k uY;obtain⟨z',y',e⟩:=jd h (M:=M) ks (acc++[dsp a b (cell s (st+k))]) (.sh (.int k)) (.sh (.int (cell s (st+k)*69621%2147483629))) (λ j hj=>hk j (uU _ hj)) (by rw[vd];simp;omega);refine⟨z',y',?_⟩;rw[uS,bZ (nL h h1.1 h1.2 ⋯),e,vD];rfl
theorem oA (h:Sd0 a b){s:List Int}{st m:Int}(h0:0<=st)(h1:st<=100)(m0:1<=m)(m1:m<=11):∃ ps,F_Q06 [L s,.int st,.int m,S a b]=.ok (P ps) false/\TB a b ps/\ps.length<=11:=by
 have ha:=h.a0;have hb:=h.b0;obtain⟨z',y',e⟩:=jd h (s:=s) (st:=st) (M:=.int m) (upto m.toNat) [] .no .no (λ k hk=>by have:=mem_upto.mp hk;omega) (by rw[upto_len];simp;omega);rw[vg] at e;have e':forGo 5 b_Q06_l1 ((upto m.toNat).map .int) [.sh (L s),.sh (.int st),.sh (.int m),.sh (S a b),.ow (.lst []),.no,.no]=_:=e;have ul:=upto_len m.toNat;obtain⟨qs,s1,s2,s3⟩:=sW (a:=a) (b:=b) (ps:=(upto m.toNat).map λ k=>dsp a b (cell s (st+k))) (by rw[uR];omega) (λ z=>by have:=congrArg List.length z;rw[uR,ul,u7] at this;omega) (λ p hp=>by obtain⟨c,_,rfl⟩:=List.mem_map.mp hp;exact dE ha hb _ _) false;rw[uR,ul] at s3;refine⟨qs,?_,s2,⋯⟩;have hr:rngOk m=true:=by simp[rngOk];omega
 simp only[F_Q06,b_Q06,b_Q06_t2,b_Q06_t1,Dv.fn,sCons,sSet,keep_nil,Dv.give,Dv.open_,aE,az,bb,sRet,sFor,iRange,eB1,eVar,eLst,lNil,Dv.all,R.bind,RL.bind,Out.bind,aD,bW,au,ar,uS,va,uX,u7,List.replicate,vj,vg,uW,uZ,ve,vf,vB,if_true,Nat.reduceAdd,Nat.reduceSub,hr,c6,e',scP,s1]
theorem iX:∀ ps:List Sp,Dv.compGoT 2 (eTup (lCons (eVar 1) (lCons (eVar 0) lNil))) (eBl true) [] (ps.map T)=.ok ((ps.map λ p=>(p.2,p.1)).map T) true
 | []=>rfl
 | p::ps=>by
  have ih:=iX ps;rw[uS,uS,uS];show Dv.compGoT 2 _ _ [] (.tup [.int p.1,.int p.2]::ps.map T)=_
  unfold Dv.compGoT;rw[ih];rfl
theorem ji {ps:List Sp}(hl:ps.length<=60):F_Q05 [P ps]=.ok (P (psort (ps.map λ p=>(p.2,p.1)))) true:=by
 have e1:c_Q05_1 [some (P ps)]=.ok (P (ps.map λ p=>(p.2,p.1))) true:=by
  unfold c_Q05_1 eCompT;have hi:iSeq (eVar 0) [some (P ps)]=.ok (ps.map T) false:=rfl;rw[hi];simp only;rw[if_pos (by rw[uR];unfold Dv.mx;omega)];have:Dv.pick [some (P ps)] []=[]:=rfl;rw[this,iX]
 have e2:=jO (ps:=ps.map λ p=>((p.2,p.1):Sp)) (by rw[uR];omega) true;simp only[F_Q05,b_Q05,Dv.fn,sRet,eB1,Dv.all,R.bind,RL.bind,Out.bind,aD,uS,va,uX,u7,List.replicate,vj,vg,Nat.reduceAdd,Nat.reduceSub,e1,e2]
theorem tZ (x y:List Sp):cmD .ne (.lst [P x,P y]) (.lst [P x,P y])=.ok (.bl false) true:=by
 have h1:=dS x;have h2:=dS y;have d:Dv.depthD (.lst [P x,P y])<=9:=by
  simp only[Dv.depthD,Dv.depthL] at h1 h2 ⊢;omega
 have ex:Dv.eqD (P x) (P x)=some true:=by unfold P;simp only[Dv.eqD];rw[iP,decide_eq_true rfl]
 have ey:Dv.eqD (P y) (P y)=some true:=by unfold P;simp only[Dv.eqD];rw[iP,decide_eq_true rfl]
 have e:Dv.eqD (.lst [P x,P y]) (.lst [P x,P y])=some true:=by
  show Dv.eqDL [P x,P y] [P x,P y]=some true
  simp only[Dv.eqDL,ex,ey,vY]
 unfold cmD;simp only[decide_eq_true d,vY,if_true,e,Dv.optB,wU,vO]
theorem nT (v:Bool):F_Q0C [.bl v,.bl v]=.ok (.bl true) true:=by cases v <;>rfl
variable {a b:Int}
theorem qN (h:Sd0 a b):Sd0 b a:=⟨h.b0,h.a0,by rw[wt];exact h.le⟩
theorem oV (h:Sd0 a b){s:List Int}{c w:Int}{ps ss:List Sp}(t1:TB a b ps)(t2:TB a b ss)(l1:ps.length<=60)(l2:ss.length<=60)(l3:ps.length*ss.length<=1000):b_Q0D_t6 [.sh (L s),.sh (.int c),.sh (.int w),.sh (S a b),.sh (P ps),.sh (P ss),.no,.no,.no,.no]=.ret (.bl true) true:=by
 have ha:=h.a0;have hb:=h.b0;have g1:=nY h t1 t2 l3;have g2:=aQ h t1 t2 ⋯ ⋯ ⋯;have g3:=aQ h t2 t1 ⋯ ⋯ (by rw[wI];omega);rw[j5] at g3;have g4:=aQ (qN h) (jB t1) (jB t2) (by rw[aG,uR];omega) (by rw[aG,uR];omega) (by rw[aG,uR,aG,uR];omega);rw[jE] at g4;have g5:=dN h t1.rg ⋯ (c%59) (c/59%53) 0;have g6:=dN h t2.rg ⋯ 1 2 0;rw[oe] at g5 g6;have g7:=aQ h (nt (r:=c%59) (u:=c/59%53) ha hb t1.ne t1.nd t1.rg) (nt (r:=1) (u:=2) ha hb t2.ne t2.nd t2.rg) (by rw[eV];omega) (by rw[eV];omega) (by rw[eV,eV];omega);rw[jn ha hb] at g7;have g8:=ji l1;have g9:=ji l2;obtain⟨f1,q1⟩:∃ f,Dv.listD (P ps) false=.ok (P ps) f:=⟨_,rfl⟩;obtain⟨f2,q2⟩:∃ f,Dv.listD (P ss) false=.ok (P ss) f:=⟨_,rfl⟩;have i0:Dv.ixD (.lst [P ps,P ss]) (.int 0) false=.ok (P ps) false:=rfl;have i1:Dv.ixD (.lst [P ps,P ss]) (.int 1) false=.ok (P ss) false:=rfl;have eT:D.tup [.int b,.int a]=S b a:=rfl;generalize aL a b ps ss=v at *;simp only[b_Q0D_t6,b_Q0D_t7,b_Q0D_t8,b_Q0D_t9,b_Q0D_t10,b_Q0D_t11,b_Q0D_t12,b_Q0D_t13,sCons,sNil,sSet,sSetG,p4,Dv.give,Dv.open_,aR,aE,az,sIf,sRet,eB1,eIx,eOr,eNot,eCm,eOp,eVar,eInt,eLst,eTup,lNil,lCons,eCall,Dv.all,R.bind,RL.bind,Dv.R.bindL,Dv.RL.bindL,Out.bind,bo,aD,au,pJ,ar,uS,va,uW,uZ,ve,vf,vb,vB,vn,vw,vP,vO,g1,scP,q1,q2,i0,i1,g2,g3,nT,tZ,scS,dI,df,eT,g8,g9,g4,ak (show (0:Int)<59 by decide),aB (show (0:Int)<59 by decide) (by decide),ak (show (0:Int)<53 by decide),g5,g6,g7]
theorem law63_ok {s:List Int}(hs:Sm s):F_Q0D [L s]=.ok (.bl true) true:=by
 have e0:=cQ (s:=s) (k:=0) ⋯ ⋯;have e5:=cQ (s:=s) (k:=5) ⋯ ⋯;generalize cell s 0=c at *;generalize cell s 5=c5 at *;have r1:=bh (a:=c) (show (0:Int)<12 by decide);generalize hw:1+c%12=w at *;have w0:0<w:=⋯
 have w12:w<=12:=⋯
 have q0:0<60/w:=by
  have h1:w*1<=60:=⋯
  exact Int.lt_of_lt_of_le (by decide) ((Int.le_ediv_iff_mul_le w0).mpr (show 1*w<=60 by omega))
 have r2:=bh (a:=c/12) q0;generalize hv:1+c/12%(60/w)=u at *;have h:Sd0 w u:=⟨w0,⋯,by
  have e1:u<=60/w:=⋯
  have e2:w*u<=w*(60/w):=vy e1 ⋯;have e3:w*(60/w)<=60:=Int.mul_ediv_self_le ⋯;omega⟩
 have eT:D.tup [.int w,.int u]=S w u:=rfl;obtain⟨ps,ss,f3,e3,t1,t2,l5⟩:=fj h w12 (s:=s);have lp:0<ps.length:=List.length_pos_iff.mpr t1.ne;have ls:0<ss.length:=List.length_pos_iff.mpr t2.ne;have lp2:ps.length<=60:=vF (xu _ ls) l5;have ls2:ss.length<=60:=vF (xA _ lp) l5;have rest5:∀ rs:List Sp,TB w u rs->rs.length=ss.length->b_Q0D_t5 [.sh (L s),.sh (.int c),.sh (.int w),.sh (S w u),.sh (P ps),.sh (P rs),.no,.no,.no,.no]=.ret (.bl true) true:=λ rs tr lr=>by
  by_cases k:c/1440%5=1
  ·have m1:=bh (a:=c/7200) (show (0:Int)<11 by decide)
   have m2:=bh (a:=c/79200) (show (0:Int)<11 by decide);obtain⟨xs,a1,a2,a3⟩:=oA h (s:=s) (st:=8) (m:=1+c/7200%11) ⋯ ⋯ ⋯ ⋯;obtain⟨ys,b1,b2,b3⟩:=oA h (s:=s) (st:=19) (m:=1+c/79200%11) ⋯ ⋯ ⋯ ⋯;have er:=oV h (s:=s) (c:=c) (w:=w) a2 b2 ⋯ ⋯ (by have:=Nat.mul_le_mul a3 b3;omega);simp only[b_Q0D_t5,sCons,sSetG,Dv.give,Dv.open_,aR,aE,az,sIf,eCm,eOp,eVar,eInt,lNil,lCons,eCall,Dv.all,R.bind,RL.bind,Dv.R.bindL,Dv.RL.bindL,Out.bind,bo,aD,au,ar,uS,va,uW,uZ,ve,vf,vb,vB,vn,vw,xP,wq,aZ,cB,aB (show (0:Int)<1440 by decide) (by decide),ak (show (0:Int)<5 by decide),decide_eq_true k,aB (show (0:Int)<7200 by decide) (by decide),aB (show (0:Int)<79200 by decide) (by decide),ak (show (0:Int)<11 by decide),a1,b1,er]
  ·have er:=oV h (s:=s) (c:=c) (w:=w) t1 tr lp2 ⋯ (by rw[lr];omega)
   simp only[b_Q0D_t5,sCons,sNil,sIf,eCm,eOp,eVar,eInt,Dv.all,R.bind,RL.bind,Out.bind,bo,aD,au,uS,va,uW,uZ,cB,aB (show (0:Int)<1440 by decide) (by decide),ak (show (0:Int)<5 by decide),decide_eq_false k,er]
 by_cases k:c/720%2=1
 ·obtain⟨rs,f4,e6,t6,l6⟩:=ie h t2 ls2 (c5*48271%2147483647)
  have er:=rest5 rs t6 l6;simp only[F_Q0D,b_Q0D,b_Q0D_t1,b_Q0D_t2,b_Q0D_t3,b_Q0D_t4,Dv.fn,sCons,sSet,sSetG,aT,Dv.give,Dv.open_,aR,aE,az,sIf,sUnpackL,Dv.setAll,eCm,eOp,eVar,eInt,eTup,lNil,lCons,eCall,Dv.all,R.bind,RL.bind,Dv.R.bindL,Dv.RL.bindL,Out.bind,bo,aD,au,ar,uS,va,uX,u7,List.replicate,vj,vg,uW,uZ,ve,vf,vb,vB,vn,vw,xP,vP,wq,if_true,Nat.reduceAdd,Nat.reduceSub,aZ,cB,e0,ak (show (0:Int)<12 by decide),hw,aB (show (0:Int)<12 by decide) (by decide),aB (i:=60) w0 ⋯,ak q0,hv,eT,e3,aB (show (0:Int)<720 by decide) (by decide),ak (show (0:Int)<2 by decide),decide_eq_true k,e5,bF (cb (i:=c5) (j:=48271) (by decide) (by decide)),ak (show (0:Int)<2147483647 by decide),e6,er]
 ·have er:=rest5 ss t2 rfl
  simp only[F_Q0D,b_Q0D,b_Q0D_t1,b_Q0D_t2,b_Q0D_t3,b_Q0D_t4,Dv.fn,sCons,sNil,sSet,sSetG,aT,Dv.give,Dv.open_,aR,aE,az,sIf,sUnpackL,Dv.setAll,eCm,eOp,eVar,eInt,eTup,lNil,lCons,eCall,Dv.all,R.bind,RL.bind,Dv.R.bindL,Dv.RL.bindL,Out.bind,bo,aD,au,ar,uS,va,uX,u7,List.replicate,vj,vg,uW,uZ,ve,vf,vb,vB,vn,vw,xP,wq,if_true,Nat.reduceAdd,Nat.reduceSub,aZ,cB,e0,ak (show (0:Int)<12 by decide),hw,aB (show (0:Int)<12 by decide) (by decide),aB (i:=60) w0 ⋯,ak q0,hv,eT,e3,aB (show (0:Int)<720 by decide) (by decide),ak (show (0:Int)<2 by decide),decide_eq_false k,er]
end Cw
noncomputable def PySem.W.Fast.tw14065300717186314028:PySem.Program:=PySem.Challenge.pw_canonwheel_k63_torus_partners
theorem PySem.W.Fast.te14065300717186314028:PySem.Challenge.pw_canonwheel_k63_torus_partners=PySem.W.Fast.tw14065300717186314028:=rfl
namespace PySem.W.Fast
def tw7538511379172855877:=()
def tw14749255811387074496:=()
def tw13364909429819406177:=()
def tw6829333632443159882:=()
def tw15001188279663929938:=()
def tw2966435207201352982:=()
def tw16152441509864517226:=()
def tw11355869111896533398:=()
def tw9067586077774735864:=()
def tw8751507222256292419:=()
def tw7537672763895838872:=()
def tw10616679183360032078:=()
def tw8803093690370688178:=()
def tw1387320966803183568:=()
def tw4839164300725520534:=()
def tw7441895247324575400:=()
def tw14235471272010056664:=()
def tw16868732489944850305:=()
def tw15291966884156606324:=()
def tw1714334849938727120:=()
def tw17427829049547136970:=()
def tw15271472286082535326:=()
def tw679252019470774926:=()
def tw11297977937735055115:=()
def tw14764310268252119025:=()
def tw14035332696080500181:=()
def tw888341320509149645:=()
def tw4585159681017099798:=()
def tw13426249767984420770:=()
def tw689558589977178564:=()
def tw1329523359935414705:=()
def tw11000105344610546385:=()
def tw10561036646337618435:=()
def tw8267482443666387294:=()
def tw6889688911498529441:=()
def tw3633318405913315870:=()
def tw9939807356176259529:=()
def tw409262828591695780:=()
def tw790831083680235183:=()
def tw13342550672449141524:=()
def tw896518978170238506:=()
def tw16590567221156182969:=()
def tw3152134263935132715:=()
def tw15710491093703058307:=()
def tw14987876516734929434:=()
def tw16725712033127873930:=()
def tw3558790089373344127:=()
def tw15025502500716482125:=()
def tw3897673905065912472:=()
def tw13954558728789852441:=()
def tw8901357862725779163:=()
def tw2758120805318365229:=()
def tw13691559104683173227:=()
def tw3753058979817691841:=()
def tw6221904396245133470:=()
def tw6780013624193948700:=()
def tw3911483663871130976:=()
def tw2185922241635430580:=()
def tw7524210406387230702:=()
def tw339488914375311745:=()
end PySem.W.Fast
open PySem PySem.W PyProof.Rows
set_option maxRecDepth 100000 in
set_option maxHeartbeats 0 in
theorem PySem.Challenge.cw_canonwheel_k63_torus_partners_holds : PySem.Challenge.rw_canonwheel_k63_torus_partners.Holds := by
 w_on; o_law; k_head; (case hw => w_witness2)
 k_fill
 refine Sd.walkD (l := PySem.Challenge.rw_canonwheel_k63_torus_partners) (k := 5) (x := "_law_script") (CX := fun w => Sd.CXe PySem.Challenge.rw_canonwheel_k63_torus_partners.prog w) (Fl := Cw.F_Q0D) rfl rfl ⟨rfl,by decide,by decide⟩ (fun w h Y => PySem.W.kIn_of Y) (fun w => Sd.cxe_ok) ?F ?S
 case F =>
  intro w mg fa h KX G hmg
  refine' Lk63.all_mk KX G hmg ?Y0 ?Y1 ?Y2 ?Y3 ?Y4 ?Y5 ?Y6 ?Y7 ?Y8 ?Y9 ?Y10 ?Y11 ?Y12 ?Y13 ?Y14 ?Y15 ?Y16 ?Y17 ?Y18 ?Y19 ?Y20 ?Y21 ?Y22 ?Y23 ?Y24 ?Y25 ?Y26 ?Y27 ?Y28 ?Y29
  (case Y0|Y1|Y2|Y3|Y4|Y5|Y6|Y7|Y8|Y9|Y10|Y11|Y12|Y13|Y14=>exact ⟨_,_,_,_,_,_,_,_,_,_,by k_is,by k_is,by k_is,by k_is⟩)
  (case Y15|Y16|Y17|Y18|Y19|Y20|Y21|Y22|Y23|Y24|Y25|Y26|Y27|Y28=>show _ = _; k_is)
  (case Y29=>(constructor; (refine' Sd.hx_cons ?_ (Sd.hx_cons ?_ (Sd.hx_cons ?_ (Sd.fm_nil))) <;> first | exact ⟨by k_is,by kit_is,by k_exc,⟨_,_,_,_,_,_,_,_,_,_,_,_,_,_,_,_,by k_is⟩,by k_is,by k_is,by k_is⟩ | skip); repeat' first | apply Sd.sxx_cons | apply Sd.sx_cons | exact Sd.fm_nil | exact Sd.sx_nil | kit_is))
 case S => exact fun ns _ hb => Cw.law63_ok hb
