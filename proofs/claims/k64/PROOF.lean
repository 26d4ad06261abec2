import PyProof.Rows.All
import Wide.All
import OpenK.AllK
import Wide.FinOn
import Lean
import PyProof.EqAt
import PyProof.EqKinds
import PyProof.TupleCall
import KE.BitLaws
import KE.KRevIter
import PyProof.P3In
import PySem.SetTable
import PyProof.TupleKey
import PyProof.SetRoads
import PyProof.IsRules
import PyProof.Rows.SetFrom
import KE.KDictSum
import PySem.Challenge.RW_canonwheel_k64_whole_flat_and_up
set_option Elab.async false
set_option linter.all false
set_option maxRecDepth 100000
set_option maxHeartbeats 4000000
set_option compiler.extract_closed false
set_option genSizeOf false
set_option genSizeOfSpec false
set_option bootstrap.genMatcherCode false
noncomputable section
local macro_rules|`(⋯)=>`(by omega)
theorem Zf {C:Prop}(h:False):C:=h.elim
open List renaming getElem?_cons_zero → yA, map_cons → yB, length_map → yC, getElem?_cons_succ → yD, length_cons → yE, mem_cons_of_mem → yF, mem_cons_self → yG, getElem?_eq_getElem → yH, getD_eq_getElem?_getD → yI, map_nil → yJ, set_cons_zero → yM, set_cons_succ → yN, nil_append → yO, cons_append → yP, length_nil → yR, size_toArray → yS, foldl_cons → yT, getElem?_set_ne → yX, length_append → yY, foldl_nil → yZ, mem_append_right → za, map_map → zb, getElem?_map → ze, getElem?_set_self → zg, lookup_cons → zh, getElem_of_mem → zj, getElem?_append_left → zl, length_take → zo, getElem?_append_right → zp, getElem_mem → zt, replicate_succ → zu, map_congr_left → zv, append_assoc → zw, length_set → zx, length_range → zA, eq_nil_of_length_eq_zero → zC, take_of_length_le → zD, nodup_cons → zE, perm_ext_iff_of_nodup → zG, getElem?_eq_none → zJ, getElem_map → zK, mem_of_find?_eq_some → zL, mem_append_left → zM, flatten_cons → zN, flatMap_cons → zP, mem_map → zQ, mem_cons → zR, length_replicate → zU, take_append_drop → zV, drop_eq_getElem_cons → zW, mem_of_getElem? → zX, not_mem_nil → zY, getElem?_range → z0, getElem?_replicate → Aa, find?_cons → Ac, map_append → Af, filterMap_cons → Aj, append_nil → Al, mem_append → Am, mem_filter → Ao, ext_getElem? → Aq, range_succ_eq_map → As, length_drop → Av, ext_getElem → Ax, eraseIdx_eq_take_drop_succ → Ay, length_eraseIdx_of_lt → AK, exists_cons_of_ne_nil → AL, any_cons → AM, pairwise_iff_getElem → AO, getElem_append_right → AR, foldl_append → AS, exists_mem_of_ne_nil → AU, pairwise_map → AV, getElem_append_left → AW, nodup_range → AX, any_eq_true → AY, of_mem_zip → A6, zipWith_cons_cons → A9, length_singleton → Bb, dropLast_eq_take → Bd, countP_mono_left → Be, map_id → Bh, pairwise_flatMap → Bi, length_filter_le → Bj, drop_zero → Bl, length_flatMap → Bu, map_drop → Bv, getElem_range → Bx, find?_eq_none → By, mem_singleton → Bz, take_sublist → BG, drop_length → BH, countP_cons → BI, take_length → BJ, mem_flatMap → BK, all_eq_true → BL, reverse_nil → BM, zip_append → BP, find?_some → BQ, perm_cons → BS, sum_cons → BV, map_take → BW, map_set → B4
open Bool renaming false_eq_true → yK, and_eq_true → yL, and_true → yV, not_true → zd, false_ne_true → zf, and_false → zi, eq_iff_iff → zm, not_false → zB, or_true → zH, false_and → zT, and_self → Ae, or_false → AA, true_and → AB, beq_eq_decide_eq → Bc, false_or → Bo, true_or → BB, or_eq_true → BN
open Option renaming getD_some → yQ, map_some → zy, map_eq_some_iff → Ad, getD_none → Aw
open Nat renaming ne_of_lt → yU, le_refl → yW, lt_of_lt_of_le → zc, lt_irrefl → zq, le_trans → zr, zero_le → zI, lt_succ_of_lt → zO, lt_succ_self → zS, le_of_lt → Ag, le_add_right → Ah, mul_succ → Ap, ne_of_gt → AE, add_comm → AF, lt_trans → AG, lt_of_le_of_lt → AI, le_succ → AJ, le_succ_of_le → AN, lt_trichotomy → AQ, mul_comm → A2, zero_add → A3, le_mul_of_pos_right → A5, min_le_left → A7, le_mul_of_pos_left → Ba, log2_lt → Bg, mul_pos → Bk, mod_lt → Bp, add_sub_cancel' → Bq, mul_le_mul_left → Br, add_le_add_left → Bs, succ_add → BD, lt_or_ge → BE, add_assoc → BU, mul_assoc → BY, succ_mul → BZ, le_of_eq → B2, sub_self → B3, sub_zero → B6, add_mul → B9
open Int renaming mul_le_mul_of_nonneg_left → zk, toNat_of_nonneg → zF, le_refl → zZ, dvd_of_emod_eq_zero → Ab, natCast_succ → Ai, emod_eq_emod_iff_emod_sub_eq_zero → Ak, toNat_natCast → Ar, ediv_lt_of_lt_mul → Az, emod_emod_of_dvd → AC, natCast_mul → AD, emod_lt_of_pos → AH, natCast_zero → AZ, mul_comm → A4, emod_nonneg → A8, add_mul_ediv_left → Bf, le_of_lt_add_one → Bm, mul_ediv_cancel' → Bn, mul_assoc → Bw, mul_emod_right → BA, le_trans → BC, add_zero → BF, le_antisymm → BO, natCast_add → BR, zero_emod → BX, add_emod → B5, lt_or_le → B7, mul_one → B8, mul_pos → Cb
open PySem renaming wpAny_bind → Cc, wpAny_pure → Ce, wpAny_holding → Cz, wpAny_mono → CA, sizeLine_eq → CF, Env → CH, wpAny_Call_Name_kw → CI, wpAny_newObj_type → CO, wpAny_call_entry → CS, wpAny_setState_of → CV, wpAny_typeNameOfWhole_valiter → C2, wpAny_passesOwn → C6, mem_of_lookup → Dh, wpAny_callSpecial?_slot → Dk, wpAny_truthy_bool → Dp, wpAny_askSetting → DB, wpAny_ite_split → DF, wpAny_pyIter_list → DN, wpAny_dictEntries → DO, wpAny_pyNext_list_item → DP, wpAny_standAt → DQ, plainId_quiet → DS, wpAny_isInstance → DU, wpAny_pyNext_list_end → DV, wpAny_isOneOf_valiter → DZ, wpAny_execs_nil → D0, call_meets → D3, codeAny_mono → D4, wpAny_specialOf → D6, codeAny_builtin → D7, wpAny_setEntries_of → Ea, isSubtype_type → Ed, wpAny_fieldsOf → Ee, wpAny_attempt → Ej, wpAny_pyIter_slot → En, call_meetsIn → Er, wpAny_typeOf → Et, wpAny_forIn_list → Eu, wpAny_Call_method0_late → Ey, wpAny_dictEpoch → EF, wpAny_updateSeq → EG, seqIndex_of → EJ, call_list_range → EO, wpAny_eqIsQuiet_tuple → ES, builtinLookup_eq_fast → EU, wpAny_setField → EV, lookup_relabel_local → E0, wpAny_newList → E3, evalArgs_none → E4, seqIndex_neg → Fb, tupleKind_room_in1 → Fd, putSet_of → Fh, wpAny_setField_rec → Fj, list_append → Fp, intItems_at → Fs, wpAny_of_eq → Fw, numAt_eq → Fz, boot_len → FF
open PySem.W renaming Frag → Cd, nsIn → Cq, mg_none_of → Cv, kitOne → CJ, fnOf → CK, kas_desc → C1, kas_descPart → C4, kia_one → C7, codeIn → Dd, keepIn → De, findIn → Dr, kas_tail3 → Du, kas_sort → Dy, mg_of → DC, hideAll_get → DD, kas_count → DX, kas_place → DY, nsOkIn → Ec, excIn → Ei, methodObj → Ek, hideAll → EC, cellsFrom_some → EH, of_hideAll → E8, tail_of_in → Fe, plainGet → Fx, tailIn → FG
open PySem.Heap renaming get?_push_of_some → Cf, lt_size → Cg, get?_push_size → Ci, get?_update_other → Ct, get?_update_self → CQ, SameBut → Dq, size_push → Ds, ExtBut → Ft
open Array renaming length_toList → Cj, getElem?_eq_getElem → Co, getD → Cy, getElem?_setIfInBounds_ne → CB, getElem?_setIfInBounds_self_of_lt → CL, getElem?_eq_none → CN, getElem?_toList → C8, getElem?_map → DL, getElem?_replicate → Es, append_assoc → E9, forIn_toList → Fg, toList_map → FB
open PySem.Value renaming none → Cn, ref → Cp, type → CZ, int → Dc, isInt_shape → DM, bool → FC, str → FI, isStrOf → FJ
open PyProof.Rows renaming callWith_type1 → Cr, boot_sorted → DK, callWith_builtin1 → D1, assignInOrder_cons → Ef, subscriptTail_builtinR → EK, boot_range → EY, listUpdate_at → E2, seqEpoch_at → Fv
open PySem.Obj renaming mapSeq → Cu, putSet → DA, data_mapFields → Fk
open PySem.Calls renaming spliced_cons → CD, spliced_nil → CP, callWith_builtin → Do, evalArgs_plain → D2, Name_function_global → Eh, call_function_entry → Eo
open PySem.Str renaming ofString → CG
open PySem.PyData renaming canLay0 → CM, depth → CY, eqv → Dx, eqvAll → DR, depthAll → D5, canLayAll0 → El
open PySem.F renaming slot_dict_valueiterator_next → CT, plainAttrs_list → C3, args_dict_valueiterator_next_1 → DE, entry_dict_valueiterator_next → DG, slot_list_append → DI, type_list_append → DJ, slot_dict_get → DW, slot_dict_values_iter → D9, plain_extend_loop → Ep, slot_dict_values → Ew, args_dict_get_3 → Ez, plainAttrs_dict → EA, entry_dict_get → EM, slot_dict_len → EW, args_list_append_2 → EZ, entry_list_append → E5, slot_list_append → Fc
open PySem.NameKind renaming free → CU, cell → E1
open False renaming elim → C0
open PySem.Builtin.List renaming listLengthHint → C5, listTooLong → Dg, listExtendWith → Dw, listSameRef → Ex, listItems → EN
open Classical renaming byContradiction → C9, choose_spec → ER, choose → FA
open PySem.Builtin.Range renaming rangeSize → Di, small → E7
open PyProof.Rows.F renaming plain_set_update_loop → Dj, entry_set_update_loop → EB
open True renaming intro → Dl
open ForInStep renaming yield → Dm
open PySem.Builtin.Dict_items renaming ownsTuple → Dt, newIterator → FE, dictOf → FN
open PySem.W.WData renaming int → DH, weightAll → ED, weight → Ff, list → FD
open Function renaming comp → DT
open PySem.Around renaming under_plainId → D8
open PySem.Heap.SameBut renaming update → Eb
open PySem.Paired renaming length → Eg, snoc → FS
open PySem.PassesOwn renaming leaving → Em
open PySem.Value.type renaming inj → ET
open PySem.Builtin.Dict renaming showsAll → EX
open PySem.Builtin.Int renaming intBits → E6
open PySem.pickOrder renaming go → Fi
open PySem.IsRange renaming new → Fq
open PySem.IsL renaming update → Fy
open PySem.Builtin.Frozenset renaming updateFrom → FH, newClass → FM, sizeOf → FP, slot0 → FR
open PySem.SetTable renaming fits → FK, fill → FL
open PySem.W.KasT renaming ret → FO
open Prod renaming ext → FQ
open PySem.Heap.IsSliceOf renaming new → FT
theorem ZB (h:True:=by first|exact .inl rfl|exact .inr rfl|assumption):True:=h
theorem ZC (h:True:=by decide):True:=h
theorem ZD (h:True:=by intro _;rfl):True:=h
theorem ZE (h:True:=by rfl):True:=h
theorem ZF (h:True:=by intros;rfl):True:=h
theorem ZG (h:True:=by first|exact Or.inl rfl|exact Or.inr (Or.inl rfl)|exact Or.inr (Or.inr rfl)):True:=h
theorem ZH (h:True:=by intro _ _ z;cases z):True:=h
theorem ZI (h:True:=by intro _ _;rfl):True:=h
theorem ZJ (h:True:=by with_unfolding_all rfl):True:=h
namespace L2
open PySem PySem.Spec PyProof.Rows
abbrev Key:=Sum Int Str
def iM:Key->Value->Bool
 | .inl k,v=>Value.isInt k v
 | .inr x,v=>FJ x v
def yt (w:World):Key->Int
 | .inl k=>hashInt k
 | .inr x=>hashStr w x
theorem aP:∀ {k:Key} {v:Value},iM k v=true->(∃ i t,k=Sum.inl i/\v=Dc i t)\/(∃ x t,k=Sum.inr x/\v=FI x t)
 | .inl i,v,h=>by
  obtain⟨t,e⟩:=DM (k:=i) (v:=v) h;exact .inl ⟨i,t,rfl,e⟩
 | .inr x,v,h=>by
  obtain⟨t,e⟩:=Value.isStrOf_shape (x:=x) (v:=v) h;exact .inr ⟨x,t,rfl,e⟩
theorem o7 (i:Int)(t:Tok):iM (.inl i) (.int i t)=true:=by simp[iM,Value.isInt]
theorem ou (x:Str)(t:Tok):iM (.inr x) (.str x t)=true:=by simp[iM,FJ]
theorem vo (a b:Int):decide ((Sum.inl a:Key)=Sum.inl b)=(a == b):=by
 by_cases e:a=b
 ·subst e;simp
 ·have h:¬ (Sum.inl a:Key)=Sum.inl b:=λ q=>e (Sum.inl.inj q)
  rw[decide_eq_false h];exact(beq_eq_false_iff_ne.mpr e).symm
theorem vi (a b:Str):decide ((Sum.inr a:Key)=Sum.inr b)=decide (a=b):=by
 by_cases e:a=b
 ·subst e;simp
 ·have h:¬ (Sum.inr a:Key)=Sum.inr b:=λ q=>e (Sum.inr.inj q)
  rw[decide_eq_false h,decide_eq_false e]
theorem vR (a:Int)(b:Str):decide ((Sum.inl a:Key)=Sum.inr b)=false:=decide_eq_false (λ q=>nomatch q)
theorem vK (a:Str)(b:Int):decide ((Sum.inr a:Key)=Sum.inl b)=false:=decide_eq_false (λ q=>nomatch q)
def aS (prog:Program)(w:World):PySem.KeyKind prog w Key where
 is:=iM
 hash:=yt w
 inj:=λ v a b ha hb=>by
  rcases aP ha with ⟨i,t,rfl,rfl⟩|⟨x,t,rfl,rfl⟩
  ·rcases aP hb with ⟨j,u,rfl,e⟩|⟨y,u,rfl,e⟩
   ·injection e with e1 _;rw[e1]
   ·exact nomatch e
  ·rcases aP hb with ⟨j,u,rfl,e⟩|⟨y,u,rfl,e⟩
   ·exact nomatch e
   ·injection e with e1 _;rw[e1]
 byValue:=λ k v h=>by
  rcases aP h with ⟨i,t,rfl,rfl⟩|⟨x,t,rfl,rfl⟩ <;>rfl
 pyHash:=λ hv h=>by
  rcases aP hv with ⟨i,t,rfl,rfl⟩|⟨x,t,rfl,rfl⟩
  ·exact wpAny_pyHash_int h
  ·exact wpAny_pyHash_str h
 eqBool:=λ hu hv h=>by
  rcases aP hu with ⟨i,t,rfl,rfl⟩|⟨x,t,rfl,rfl⟩
  ·rcases aP hv with ⟨j,u,rfl,rfl⟩|⟨y,u,rfl,rfl⟩
   ·rw[vo] at h;exact wpAny_eqBool_int h
   ·rw[vR] at h;exact SeqAt.EqAt.int_str i t y u _ _ _ _ h
  ·rcases aP hv with ⟨j,u,rfl,rfl⟩|⟨y,u,rfl,rfl⟩
   ·rw[vK] at h;exact SeqAt.EqAt.str_int x t j u _ _ _ _ h
   ·rw[vi] at h;exact wpAny_eqBool_str h
 «strs»:=λ k x t v h=>by
  rcases aP h with ⟨i,u,rfl,e⟩|⟨y,u,rfl,e⟩
  ·exact nomatch e
  ·injection e with e1 _
   subst e1;cases v <;>rfl
theorem kN (prog:Program)(w:World)(i:Int)(t:Tok):(aS prog w).is (.inl i) (.int i t)=true:=o7 i t
theorem kZ (prog:Program)(w:World)(x:Str)(t:Tok):(aS prog w).is (.inr x) (.str x t)=true:=ou x t
inductive V where
 | non|bl (b:Bool)|int (i:Int)|str (x:Str)|byt (b:Array UInt8)|flt (b:UInt64)|ref (a:Addr)|ty (n:String)
 deriving DecidableEq
def RelV:V->Value->Prop
 | .non,u=>u=Cn
 | .bl b,u=>u=FC b
 | .int i,u=>∃ t,u=Dc i t
 | .str x,u=>∃ t,u=FI x t
 | .byt b,u=>∃ t,u=Value.bytes b t
 | .flt b,u=>∃ t,u=Value.float b t
 | .ref a,u=>u=Cp a
 | .ty n,u=>u=CZ n
abbrev Vals:List V->List Value->Prop:=Paired RelV
theorem Vals.length {xs:List V}{us:List Value}(r:Vals xs us):xs.length=us.length:=Eg r
theorem Vals.get:∀ {xs:List V} {us:List Value} {i:Nat} {x:V},Vals xs us->xs[i]?=some x->∃ u,us[i]?=some u/\RelV x u
 | _,_,_,_,.nil,e=>by simp at e
 | _,_,0,_,.cons r _,e=>by simp at e;subst e;exact⟨_,rfl,r⟩
 | _,_,i+1,x,.cons _ t,e=>by
  obtain⟨u,h1,h2⟩:=Vals.get (i:=i) (x:=x) t (by simpa using e);exact⟨u,by simpa using h1,h2⟩
theorem Vals.set {x:V}{u:Value}(r:RelV x u):∀ {xs:List V} {us:List Value} (i:Nat),Vals xs us->Vals (xs.set i x) (us.set i u)
 | _,_,_,.nil=>.nil
 | _,_,0,.cons _ t=>.cons r t
 | _,_,i+1,.cons q t=>.cons q (Vals.set r i t)
theorem Vals.append {xs ys:List V}{us ws:List Value}(q:Vals xs us)(s:Vals ys ws):Vals (xs++ys) (us++ws):=by
 induction q with
 | nil=>exact s
 | cons r t ih=>exact .cons r ih
theorem Vals.take:∀ {xs:List V} {us:List Value} (n:Nat),Vals xs us->Vals (xs.take n) (us.take n)
 | _,_,0,_=>.nil
 | _,_,_+1,.nil=>.nil
 | _,_,n+1,.cons r t=>.cons r (Vals.take n t)
theorem Vals.drop:∀ {xs:List V} {us:List Value} (n:Nat),Vals xs us->Vals (xs.drop n) (us.drop n)
 | _,_,0,r=>r
 | _,_,_+1,.nil=>.nil
 | _,_,n+1,.cons _ t=>Vals.drop n t
def RelO:Option V->Option Value->Prop
 | some v,some u=>RelV v u
 | none,none=>True
 | _,_=>False
def KV {κ:Type}:List (κ×V)->List (κ×Value)->Prop:=Paired λ (p:κ×V) (q:κ×Value)=>p.1=q.1/\RelV p.2 q.2
def kV:Key->V
 | .inl i=>.int i
 | .inr x=>.str x
inductive HO where
  | lst (xs:List V)
  | tup (xs:List V)
  | dK (kvs:List (Key×V))|dT (kvs:List (List Key×V))
  | set (S:Int->Bool) (n:Nat)
  | ins (C dx:Addr) (fs:List (Str×V))
  | own (x:Addr)
  | xd (fs:List (Str×V))
  | met (f x:Addr)
  | rng (lo hi:Int)
  | frz (o:Obj) (u:HO)
  | tbl (ps:Array Value)
  | ext (φ:Heap->Prop)
abbrev Hp:=Addr->Option HO
def upd (H:Hp)(a:Addr)(o:HO):Hp:=λ b=>if b=a then some o else H b
theorem aC {H:Hp}{a:Addr}{o:HO}:upd H a o a=some o:=by unfold upd;rw[if_pos rfl]
theorem ax {H:Hp}{a b:Addr}{o:HO}(h:b≠a):upd H a o b=H b:=by unfold upd;rw[if_neg h]
theorem xD {H:Hp}{a b:Addr}{o u:HO}(h:H a=some o)(h':H b=some u)(d:o≠u):a≠b:=by
 intro e;subst e;rw[h] at h';exact d (Option.some.inj h')
theorem aB {H:Hp}{a b:Addr}{o:HO}(h:H a=some o)(h':H b=none):a≠b:=by
 intro e;subst e;rw[h] at h';cases h'
section
variable (P:Program)(w:World)
def ObjOk (H:Hp)(h:Heap)(a:Addr):HO->Prop
 | .lst xs=>xs.length<=sizeLine/\∃ (its:List Value) (n:Nat),Vals xs its/\h.get? a=some { cls:=.type "list",data:=.seq its.toArray n }
 | .tup xs=>xs.length<=sizeLine/\∃ its:List Value,Vals xs its/\IsTup h a its.toArray
 | .dK kvs=>kvs.length<=sizeLine/\(a == sysModules)=false/\∃ vs,KV kvs vs/\h.DictOf (aS P w) a vs
 | .dT kvs=>kvs.length<=sizeLine/\(a == sysModules)=false/\∃ xs:List (List Key×Addr×Value),
   Paired (λ (p:List Key×V) (q:List Key×Addr×Value)=>p.1=q.1/\H q.2.1=some (.tup (p.1.map kV))/\RelV p.2 q.2.2) kvs xs /\
   ∃ o es ep,h.get? a=some o/\o.ExactDict/\o.data=.dict es ep/\es.toList=xs.map (entryOfKey (tupleKind (aS P w)))/\(xs.map (·.1)).Nodup
 | .set S n=>h.SetOf (intKind P w) a S n
 | .ins C dx fs=>H dx=some (.own a)/\fs.length<=1000/\dx≠a/\h.get? a=some (PySem.W.instObj C dx) /\
   ∃ mA,h.Ns1 dx mA/\(∀ f,RelO (fs.lookup f) (mA f))/\PySem.Within mA (fs.map (·.1))
 | .own _=>∃ o,h.get? a=some o
 | .xd fs=>∃ mA,h.Ns1 a mA/\∀ f,RelO (fs.lookup f) (mA f)
 | .rng lo hi=>∃ t u v,h.get? a=some { cls:=.type "range",data:=.fields #[.int lo t,.int hi u,.int 1 v] }
 | .frz o u=>h.get? a=some o/\ObjOk H h a u
 | .tbl ps=>h.get? a=some { cls:=.none,data:=.fields ps }
 | .met f x=>h.get? a=some (Ek (.ref f) (.ref x))
 | .ext φ=>φ h/\(∃ o,h.get? a=some o)/\∀ h1 h2:Heap,φ h1->(∀ o,h1.get? a=some o->h2.get? a=some o)->φ h2
def HOk (H:Hp)(h:Heap):Prop:=∀ a o,H a=some o->ObjOk P w H h a o
end
section
variable {P:Program}{w:World}{H H':Hp}{h h':Heap}{a:Addr}{o:HO}
theorem ObjOk.lt (x:ObjOk P w H h a o):a<h.objs.size:=by
 cases o with
 | lst xs=>obtain⟨_,_,_,_,e⟩:=x;exact Cg e
 | tup xs=>obtain⟨_,_,_,p⟩:=x;exact p.lt
 | dK kvs=>obtain⟨_,_,_,_,o,_,_,e,_⟩:=x;exact Cg e
 | dT kvs=>obtain⟨_,_,_,_,o,_,_,e,_⟩:=x;exact Cg e
 | set S n=>obtain⟨o,_,_,_,e,_⟩:=x;exact Cg e
 | ins C dx fs=>obtain⟨_,_,_,e,_⟩:=x;exact Cg e
 | own y=>obtain⟨_,e⟩:=x;exact Cg e
 | xd fs=>obtain⟨_,⟨_,_,_,e,_⟩,_⟩:=x;exact Cg e
 | rng lo hi=>obtain⟨_,_,_,e⟩:=x;exact Cg e
 | frz ob u=>obtain⟨e,_⟩:=x;exact Cg e
 | tbl ps=>exact Cg (show h.get? a=some _ from x)
 | met f y=>exact Cg (show h.get? a=some _ from x)
 | ext φ=>obtain⟨_,⟨_,e⟩,_⟩:=x;exact Cg e
theorem Paired.mapP {α β:Type}{F G:α->β->Prop}{l₁:List α}{l₂:List β}(q:Paired F l₁ l₂)(f:∀ a b,F a b->G a b):Paired G l₁ l₂:=by
 induction q with
 | nil=>exact .nil
 | cons r t ih=>exact .cons (f _ _ r) ih
theorem ObjOk.stay (x:ObjOk P w H h a o)(k:∀ b u,(b=a\/H b=some (.own a))->h.get? b=some u->h'.get? b=some u)
  (ho:∀ b,H b=some (.own a)->H' b=some (.own a)) (ht:∀ b xs,H b=some (.tup xs)->H' b=some (.tup xs)):ObjOk P w H' h' a o:=by
 induction o with
 | lst xs=>obtain⟨z,its,n,r,e⟩:=x;exact⟨z,its,n,r,k _ _ (.inl rfl) e⟩
 | tup xs=>obtain⟨z,its,r,ob,e,c⟩:=x;exact⟨z,its,r,ob,k _ _ (.inl rfl) e,c⟩
 | dK kvs=>obtain⟨z,y,vs,r,ob,es,ep,e,c⟩:=x;exact⟨z,y,vs,r,ob,es,ep,k _ _ (.inl rfl) e,c⟩
 | dT kvs=>
  obtain⟨z,y,xs,r,ob,es,ep,e,c⟩:=x;exact⟨z,y,xs,Paired.mapP r λ p q z=>⟨z.1,ht _ _ z.2.1,z.2.2⟩,ob,es,ep,k _ _ (.inl rfl) e,c⟩
 | set S n=>obtain⟨ob,es,ep,t,e,c⟩:=x;exact⟨ob,es,ep,t,k _ _ (.inl rfl) e,c⟩
 | ins C dx fs=>
  obtain⟨d,z,ne,e,mA,⟨od,es,ep,e2,c⟩,r⟩:=x;exact⟨ho _ d,z,ne,k _ _ (.inl rfl) e,mA,⟨od,es,ep,k _ _ (.inr d) e2,c⟩,r⟩
 | own y=>obtain⟨ob,e⟩:=x;exact⟨ob,k _ _ (.inl rfl) e⟩
 | xd fs=>obtain⟨mA,⟨od,es,ep,e,c⟩,r⟩:=x;exact⟨mA,⟨od,es,ep,k _ _ (.inl rfl) e,c⟩,r⟩
 | rng lo hi=>obtain⟨t,u,v,e⟩:=x;exact⟨t,u,v,k _ _ (.inl rfl) e⟩
 | frz ob u ih=>obtain⟨e,q⟩:=x;exact⟨k _ _ (.inl rfl) e,ih q⟩
 | tbl ps=>
  have e:h.get? a=some { cls:=.none,data:=.fields ps }:=x;show h'.get? a=some { cls:=.none,data:=.fields ps }
  exact k a _ (.inl rfl) e
 | met f y=>
  have e:h.get? a=some (Ek (.ref f) (.ref y)):=x;show h'.get? a=some (Ek (.ref f) (.ref y))
  exact k a _ (.inl rfl) e
 | ext φ=>obtain⟨p,⟨o,e⟩,st⟩:=x;exact⟨st _ _ p λ o q=>k _ _ (.inl rfl) q,⟨o,k _ _ (.inl rfl) e⟩,st⟩
theorem HOk.lt (x:HOk P w H h)(e:H a=some o):a<h.objs.size:=(x a o e).lt
theorem HOk.fresh (x:HOk P w H h)(e:h.objs.size<=a):H a=none:=by
 cases q:H a with
 | none=>rfl
 | some u=>exact absurd (zc (x.lt q) e) (zq _)
theorem HOk.kept (x:HOk P w H h)(k:∀ b u,h.get? b=some u->h'.get? b=some u):HOk P w H h':=λ a o e=>
 (x a o e).stay (λ b u _ q=>k b u q) (λ _ q=>q) λ _ _ q=>q
theorem HOk.laid (x:HOk P w H h)(k:∀ b u,h.get? b=some u->h'.get? b=some u)(hp:h.objs.size<=a)(new:ObjOk P w (upd H a o) h' a o):HOk P w (upd H a o) h':=λ b u e=>by
 have hn:=x.fresh hp;by_cases hb:b=a
 ·subst hb;rw[aC] at e;cases e;exact new
 ·rw[ax hb] at e
  exact(x b u e).stay (λ c v _ q=>k c v q) (λ c q=>by rw[ax (aB q hn)];exact q) λ c xs q=>by rw[ax (aB q hn)];exact q
end
def Rd (H:Hp)(a:Addr)(u:HO):Prop:=H a=some u\/∃ o,H a=some (.frz o u)
theorem Rd.ok {P:Program}{w:World}{H:Hp}{h:Heap}{a:Addr}{u:HO}(r:Rd H a u)(x:HOk P w H h):ObjOk P w H h a u:=by
 rcases r with r|⟨o,r⟩
 ·exact x a u r
 ·obtain⟨_,q⟩:=x a _ r
  exact q
def Mut:Option HO->Prop
 | some (.lst _)=>True
 | some (.dK _)=>True
 | some (.dT _)=>True
 | some (.set _ _)=>True
 | some (.ins _ _ _)=>True
 | some (.ext _)=>True
 | _=>False
section
variable {P:Program}{w:World}{H:Hp}{h h':Heap}{x e:Addr}{o':HO}
theorem HOk.write (ok:HOk P w H h)(mu:Mut (H x))(he:e=x\/H e=some (.own x))(k:∀ b u,b≠e->h.get? b=some u->h'.get? b=some u)(heo:∃ u,h'.get? e=some u)
  (new:ObjOk P w (upd H x o') h' x o'):HOk P w (upd H x o') h':=λ b u q=>by
 have nown:∀ c y,H c=some (.own y)->c≠x:=λ c y r z=>by subst z;rw[r] at mu;exact mu
 have ntup:∀ c xs,H c=some (.tup xs)->c≠x:=λ c xs r z=>by subst z;rw[r] at mu;exact mu
 by_cases hb:b=x
 ·subst hb;rw[aC] at q;cases q;exact new
 ·rw[ax hb] at q
  by_cases hbe:b=e
  ·have q':H b=some (.own x):=by
    rcases he with z|z
    ·exact absurd (hbe.trans z) hb
    ·rw[hbe];exact z
   rw[q] at q';cases q';obtain⟨v,hv⟩:=heo;exact⟨v,by rw[hbe];exact hv⟩
  ·refine(ok b u q).stay (λ c v hc r=>k c v ?_ r) (λ c r=>by rw[ax (nown c b r)];exact r) λ c xs r=>by rw[ax (ntup c xs r)];exact r
   rcases hc with rfl|hc
   ·exact hbe
   ·rintro rfl
    rcases he with z|z
    ·exact nown c b hc z
    ·rw[hc] at z;cases z;exact hb rfl
end
structure Un (fs ex:List Addr)(H H':Hp)(h h':Heap):Prop where
 keep:∀ b o,h.get? b=some o->H b=none->b∉fs->b∉ex->h'.get? b=some o
 slot:∀ b o,h.get? b=some o->H b=none->b∈fs->b∉ex->∃ sl,h'.get? b=some { o with slots:=sl }
 free:∀ b o,h.get? b=some o->H b=none->b∉ex->H' b=none
 there:∀ b o,h.get? b=some o->b∉ex->∃ o',h'.get? b=some o'
 tups:∀ b xs,H b=some (.tup xs)->H' b=some (.tup xs)
 frzs:∀ b o u,H b=some (.frz o u)->H' b=some (.frz o u)
 tbls:∀ b ps,H b=some (.tbl ps)->∃ more,H' b=some (.tbl (ps++more))
section
variable {fs fs' ex ex':List Addr}{H H1 H2:Hp}{h h1 h2 h':Heap}{a x e:Addr}{o:HO}
theorem Un.any (u:Un fs ex H H1 h h1){b:Addr}{ob:Obj}(q:h.get? b=some ob)(n:H b=none)(hx:b∉ex):∃ sl,h1.get? b=some { ob with slots:=sl }:=by
 by_cases hb:b∈fs
 ·exact u.slot b ob q n hb hx
 ·exact⟨ob.slots,u.keep b ob q n hb hx⟩
theorem Un.kept (k:∀ b u,h.get? b=some u->h'.get? b=some u):Un fs ex H H h h':=
 ⟨λ b ob q _ _ _=>k b ob q,λ b ob q _ _ _=>⟨ob.slots,k b ob q⟩,λ _ _ _ n _=>n,λ b ob q _=>⟨ob,k b ob q⟩,λ _ _ q=>q,λ _ _ _ q=>q,λ _ ps q=>⟨#[],by rw[q];simp⟩⟩
theorem Un.refl:Un fs ex H H h h:=Un.kept λ _ _ q=>q
theorem Un.laid (k:∀ b u,h.get? b=some u->h'.get? b=some u)(hp:h.objs.size<=a)(hn:H a=none):Un fs ex H (upd H a o) h h' where
 keep:=λ b u q _ _ _=>k b u q
 slot:=λ b u q _ _ _=>⟨u.slots,k b u q⟩
 free:=λ b u q n _=>by rw[ax (yU (zc (Cg q) hp))];exact n
 there:=λ b u q _=>⟨u,k b u q⟩
 tups:=λ b xs q=>by rw[ax (aB q hn)];exact q
 frzs:=λ b u xs q=>by rw[ax (aB q hn)];exact q
 tbls:=λ b ps q=>⟨#[],by rw[ax (aB q hn),q];simp⟩
theorem Un.write (mu:Mut (H x))(he:e=x\/H e=some (.own x))(k:∀ b u,b≠e->h.get? b=some u->h'.get? b=some u)(heo:∃ u,h'.get? e=some u):Un fs ex H (upd H x o) h h':=by
 have hx:∀ b,H b=none->b≠x:=λ b n z=>by subst z;rw[n] at mu;exact mu
 have hb:∀ b,H b=none->b≠e:=λ b n z=>by
  subst z
  rcases he with r|r
  ·exact hx b n r
  ·rw[n] at r;cases r
 have hm:∀ b u,H b=some u->¬ Mut (some u)->b≠x:=λ b u q nm z=>by subst z;rw[q] at mu;exact nm mu
 refine⟨λ b u q n _ _=>k b u (hb b n) q,λ b u q n _ _=>⟨u.slots,k b u (hb b n) q⟩,λ b u q n _=>by rw[ax (hx b n)];exact n,λ b u q _=>?_,
  λ b xs q=>by rw[ax (hm b _ q λ z=>z)];exact q,λ b u xs q=>by rw[ax (hm b _ q λ z=>z)];exact q,λ b ps q=>⟨#[],by rw[ax (hm b _ q λ z=>z),q];simp⟩⟩
 by_cases hbe:b=e
 ·subst hbe;exact heo
 ·exact⟨u,k b u hbe q⟩
end
def trk (h:Heap)(H:Hp):List Addr:=(List.range h.objs.size).filter λ a=>(H a).isSome
def jV (h:Heap)(H:Hp):Heap:=EC h (trk h H)
theorem nS (h:Heap)(H:Hp):(jV h H).objs.size=h.objs.size:=PySem.W.hideAll_size _ _
theorem rN {h:Heap}{H:Hp}{b:Addr}{o:Obj}(e:h.get? b=some o)(n:H b=none):(jV h H).get? b=some o:=
 DD _ e λ hm=>by
  have q:(H b).isSome=true:=(List.mem_filter.mp hm).2;rw[n] at q;simp at q
theorem tQ {h:Heap}{H:Hp}{b:Addr}{o:Obj}(e:(jV h H).get? b=some o):h.get? b=some o/\H b=none:=by
 have e':h.get? b=some o:=E8 (trk h H) e;refine⟨e',?_⟩;cases q:H b with
 | none=>rfl
 | some x=>
  have hm:b∈trk h H:=List.mem_filter.mpr ⟨List.mem_range.mpr (Cg e'),by simp[q]⟩;have z:(jV h H).get? b=none:=PySem.W.hideAll_none (trk h H) hm;rw[z] at e;cases e
def tz (g h:Heap)(L:Addr):List (Addr×Obj):=(List.range h.objs.size).filterMap λ a=>if a=L\/(g.get? a).isSome=true then none else (h.get? a).map λ o=>(a,o)
def rest (g h:Heap)(L d:Addr):List (Addr×Obj):=(tz g h L).filter λ p=>decide (p.1≠d)
structure Mod (K:Cd)(mg:Str->Option Value)(base:Heap):Prop where
 kin:K.In base
 glob:base.Ns mainGlobals mg
 blt:∃ mb,base.Ns builtinsNs mb/\∀ x:Str,x≠"__name__"->mb x=bootBuiltins x
 nolimit:base.NoLimit
/-- the context: a def's body (or a comprehension's block) running. base: fixed through the whole law;s₀,H₀: the entry;outer: the frames whose slots others may change (a def's callers);stack: all frames that run;
   ex: iterators that were made ahead of the entry and are walked here (a comprehension's);fn: the names whose cells were made at the entry (a def: all;a comprehension's block: its own);calm: not within an except suite;pn: pins that every state bears;xe: what is wanted of an exception that leaves the code -/
structure Cx where
 prog:Program
 w:World
 K:Cd
 mg:Str->Option Value
 base:Heap
 A:Around
 N:List Str
 s₀:Shared
 H₀:Hp
 env:Env
 outer:List Env
 stack:List Env
 ex:List Addr
 fn:Str->Bool
 calm:Bool
 pn:List (Addr×Obj)
 xe:Value->Shared->Prop
def frs (l:List Env):List Addr:=l.filterMap (·.frame)
abbrev Cx.fs (X:Cx):List Addr:=frs X.outer
def Vis (sc:Scope)(x:Str):Prop:=sc.names.lookup x=some .local\/sc.names.lookup x=some .cell\/sc.names.lookup x=some .free
def Loc (sc:Scope)(x:Str):Prop:=sc.names.lookup x=some .local\/sc.names.lookup x=some .cell
def Look (env:Env)(h:Heap)(m:Str->Option Value)(x:Str)(u:Value):Prop:=
 (env.kindOf x=some .local/\m x=some u)\/((env.kindOf x=some .cell\/env.kindOf x=some .free)/\∃ c,env.cells.lookup x=some c/\h.IsCell c (some u))
structure Cx.Ok (X:Cx):Prop where
 mod:Mod X.K X.mg X.base
 kind:X.env.scope.kind=.function
 glob:X.env.globals=mainGlobals
 blt:X.env.builtins=builtinsNs
 above:X.s₀.heap.objs.size<=X.env.locals
 inj:∀ x y c,X.env.cells.lookup x=some c->X.env.cells.lookup y=some c->x=y
 has:∀ x,(X.env.kindOf x=some .cell\/X.env.kindOf x=some .free)->∃ c,X.env.cells.lookup x=some c
 cab:∀ x c,X.fn x=true->X.env.cells.lookup x=some c->X.s₀.heap.objs.size<=c
 hd:X.calm=true->X.A.handled=none
 frames:X.A.frames=some X.stack
 stk:X.stack=X.outer\/(X.stack=X.env::X.outer/\X.env.frame=some X.env.locals)
 exf:∀ b∈X.ex,b≠X.env.locals/\∀ x c,X.env.cells.lookup x=some c->c≠b
 bs:∀ b o,X.base.get? b=some o->X.s₀.heap.get? b=some o/\X.H₀ b=none
 bsz:X.base.objs.size<=X.s₀.heap.objs.size
 noex:∀ b o,X.base.get? b=some o->b∉X.ex
 exfs:∀ b∈X.ex,b∉X.fs
 funs:X.s₀.heap.FunFrames X.base X.outer
 frf:∀ b∈X.fs,X.H₀ b=none
structure Inv (X:Cx)(pins:List (Addr×Obj))(σ:List (Option V))(H:Hp)(s:Shared):Prop where
 ok:X.Ok
 os:s.os=X.s₀.os
 bare:AllBare s.gens
 base:Un X.fs X.ex X.H₀ H X.s₀.heap s.heap
 loc:∃ m,s.heap.Ns X.env.locals m/\∀ (i:Nat) (x:Str) (v:V),X.N[i]?=some x->σ[i]?=some (some v)->Vis X.env.scope x->∃ u,RelV v u/\Look X.env s.heap m x u
 cell:∀ x c,X.env.cells.lookup x=some c->∃ v,s.heap.IsCell c v
 free:H X.env.locals=none
 freeC:∀ x c,X.env.cells.lookup x=some c->H c=none
 pin:∀ p∈X.pn++pins,s.heap.get? p.1=some p.2/\H p.1=none/\p.1≠X.env.locals/\p.1∉X.fs/\∀ v,p.2.data≠.cell v
 hok:HOk X.prog X.w H s.heap
 len:σ.length=X.N.length
section
variable {X:Cx}{pins:List (Addr×Obj)}{σ:List (Option V)}{H H':Hp}{s:Shared}{h':Heap}
theorem Cx.Ok.nofr (ok:X.Ok){b:Addr}{o:Obj}(e:X.base.get? b=some o):b∉X.fs:=λ hb=>by
 have:=(ok.funs.mem hb).1;rw[e] at this;cases this
theorem Inv.bs (I:Inv X pins σ H s):∀ b o,X.base.get? b=some o->s.heap.get? b=some o/\H b=none:=λ b o e=>
 ⟨I.base.keep b o (I.ok.bs b o e).1 (I.ok.bs b o e).2 (I.ok.nofr e) (I.ok.noex b o e),I.base.free b o (I.ok.bs b o e).1 (I.ok.bs b o e).2 (I.ok.noex b o e)⟩
theorem Inv.bk (I:Inv X pins σ H s):∀ b o,X.base.get? b=some o->s.heap.get? b=some o:=λ b o e=>(I.bs b o e).1
theorem Inv.mod (I:Inv X pins σ H s):Mod X.K X.mg X.base:=I.ok.mod
theorem Inv.kIn (I:Inv X pins σ H s):X.K.In s.heap:=I.ok.mod.kin.keeps I.bk
theorem Inv.lt (I:Inv X pins σ H s):X.env.locals<s.heap.objs.size:=let ⟨_,hn,_⟩:=I.loc;hn.lt
theorem Inv.sz (I:Inv X pins σ H s):X.s₀.heap.objs.size<=s.heap.objs.size:=zr I.ok.above (Ag I.lt)
theorem Inv.nofs (I:Inv X pins σ H s){a:Addr}(h:s.heap.objs.size<=a):a∉X.fs:=λ hb=>by
 obtain⟨_,o,ho,_⟩:=I.ok.funs.mem hb;exact absurd (zc (Cg ho) (zr I.sz h)) (zq _)
theorem Inv.cne (I:Inv X pins σ H s):∀ x c,X.env.cells.lookup x=some c->c≠X.env.locals:=λ x c e z=>by
 obtain⟨v,o,ho,hd⟩:=I.cell x c e;obtain⟨m,⟨o',es,ep,ho',hd',_⟩,_⟩:=I.loc;rw[z,ho'] at ho;cases ho;rw[hd'] at hd;cases hd
theorem Inv.funs (I:Inv X pins σ H s):s.heap.FunFrames X.base X.outer:=by
 have all:∀ (l:List Env),(∀ b∈frs l,b∈X.fs)->X.s₀.heap.FunFrames X.base l->s.heap.FunFrames X.base l:=by
  intro l
  induction l with
  | nil=>intro _ _;trivial
  | cons env r ih=>
   intro hs hl;obtain⟨hk,⟨L,o,hf,hn,ho,hd⟩,hr⟩:=hl;have hL:L∈X.fs:=hs L (by unfold frs;rw[Aj,hf];exact yG);obtain⟨sl,e⟩:=I.base.slot L o ho (I.ok.frf L hL) hL λ z=>I.ok.exfs L z hL
   exact⟨hk,⟨L,_,hf,hn,e,hd⟩,ih (λ b hb=>hs b (by unfold frs;rw[Aj,hf];exact yF _ hb)) hr⟩
 exact all X.outer (λ _ hb=>hb) I.ok.funs
theorem Inv.stack (I:Inv X pins σ H s):s.heap.FunFrames X.base X.stack:=by
 rcases I.ok.stk with e|⟨e,hf⟩
 ·rw[e];exact I.funs
 ·rw[e]
  obtain⟨m,hn,_⟩:=I.loc;refine .cons (by rw[I.ok.kind];decide) hf hn ?_ I.funs
  exact Heap.get?_none_of_le (zr I.ok.bsz I.ok.above)
theorem Inv.stkSub (I:Inv X pins σ H s):∀ b∈frs X.stack,b∈X.env.locals::X.fs:=λ b hb=>by
 rcases I.ok.stk with e|⟨e,hf⟩
 ·rw[e] at hb;exact yF _ hb
 ·rw[e] at hb
  unfold frs at hb;rw[Aj,hf] at hb;exact hb
theorem Inv.stkFree (I:Inv X pins σ H s):∀ b∈frs X.stack,H b=none:=λ b hb=>by
 rcases List.mem_cons.mp (I.stkSub b hb) with e|hb
 ·rw[e];exact I.free
 ·obtain⟨_,o,ho,_⟩:=I.ok.funs.mem hb
  exact I.base.free b o ho (I.ok.frf b hb) λ z=>I.ok.exfs b z hb
theorem Inv.step {g':Array GenState}{t':Nat}{d':Drawn}{ch:List Addr}(I:Inv X pins σ H s)
  (hch:∀ b∈ch,(b∈X.ex\/X.s₀.heap.objs.size<=b)/\b≠X.env.locals/\(∀ x c,X.env.cells.lookup x=some c->c≠b)/\∀ p∈X.pn++pins,p.1≠b)
  (keep:∀ b o,b≠X.env.locals->b∉X.fs->b∉ch->s.heap.get? b=some o->H b=none->h'.get? b=some o)
  (slot:∀ b o,b≠X.env.locals->b∈X.fs->b∉ch->s.heap.get? b=some o->H b=none->∃ sl,h'.get? b=some { o with slots:=sl }) (free:∀ b o,b∉ch->s.heap.get? b=some o->H b=none->H' b=none)
  (there:∀ b o,b∉ch->s.heap.get? b=some o->∃ o',h'.get? b=some o')
  (tups:∀ b xs,H b=some (.tup xs)->H' b=some (.tup xs)) (frzs:∀ b o u,H b=some (.frz o u)->H' b=some (.frz o u)) (tbls:∀ b ps,H b=some (.tbl ps)->∃ more,H' b=some (.tbl (ps++more)))
  (ns:∀ m,s.heap.Ns X.env.locals m->h'.Ns X.env.locals m) (hok:HOk X.prog X.w H' h') (hg:AllBare g'):
  Inv X pins σ H' { s with heap:=h',gens:=g',drawn:=d',toks:=t' }:=by
 have neL:∀ b o,X.s₀.heap.get? b=some o->b≠X.env.locals:=λ b o e=>yU (zc (Cg e) I.ok.above)
 have neC:∀ b o,X.s₀.heap.get? b=some o->b∉X.ex->b∉ch:=λ b o e hx hb=>by
  rcases (hch b hb).1 with z|z
  ·exact hx z
  ·exact absurd (zc (Cg e) z) (zq _)
 have cellK:∀ x c,X.env.cells.lookup x=some c->∀ v,s.heap.IsCell c v->h'.IsCell c v:=λ x c e v ⟨o,ho,hd⟩=>by
  have nch:c∉ch:=λ z=>(hch c z).2.2.1 x c e rfl
  by_cases hc:c∈X.fs
  ·obtain⟨sl,q⟩:=slot c o (I.cne x c e) hc nch ho (I.freeC x c e)
   exact⟨_,q,hd⟩
  ·exact⟨o,keep c o (I.cne x c e) hc nch ho (I.freeC x c e),hd⟩
 refine⟨I.ok,I.os,hg,⟨λ b o e n hb hx=>?_,λ b o e n hb hx=>?_,λ b o e n hx=>?_,λ b o e hx=>?_,λ b xs e=>tups b xs (I.base.tups b xs e),λ b o xs e=>frzs b o xs (I.base.frzs b o xs e),λ b ps e=>?_⟩,?_,λ x c e=>?_,?_,λ x c e=>?_,λ p hp=>?_,hok,I.len⟩
 ·exact keep b o (neL b o e) hb (neC b o e hx) (I.base.keep b o e n hb hx) (I.base.free b o e n hx)
 ·obtain⟨sl,e1⟩:=I.base.slot b o e n hb hx
  obtain⟨sl',e2⟩:=slot b _ (neL b o e) hb (neC b o e hx) e1 (I.base.free b o e n hx);exact⟨sl',e2⟩
 ·obtain⟨o',e1⟩:=I.base.there b o e hx
  exact free b o' (neC b o e hx) e1 (I.base.free b o e n hx)
 ·obtain⟨o',e1⟩:=I.base.there b o e hx
  exact there b o' (neC b o e hx) e1
 ·obtain⟨m1,e1⟩:=I.base.tbls b ps e
  obtain⟨m2,e2⟩:=tbls b _ e1;exact⟨m1++m2,by rw[e2,E9]⟩
 ·obtain⟨m,hn,hl⟩:=I.loc
  refine⟨m,ns m hn,λ i x v e1 e2 e3=>?_⟩;obtain⟨u,r,l⟩:=hl i x v e1 e2 e3;refine⟨u,r,?_⟩
  rcases l with l|⟨k,c,e,z⟩
  ·exact .inl l
  ·exact .inr ⟨k,c,e,cellK x c e _ z⟩
 ·obtain⟨v,z⟩:=I.cell x c e
  exact⟨v,cellK x c e v z⟩
 ·obtain⟨m,⟨o,_,_,ho,_⟩,_⟩:=I.loc
  exact free _ o (λ z=>(hch _ z).2.1 rfl) ho I.free
 ·obtain⟨v,o,ho,hd⟩:=I.cell x c e
  exact free c o (λ z=>(hch c z).2.2.1 x c e rfl) ho (I.freeC x c e)
 ·obtain⟨e,n,ne,nf,d⟩:=I.pin p hp
  have nch:p.1∉ch:=λ z=>(hch p.1 z).2.2.2 p hp rfl
  exact⟨keep p.1 p.2 ne nf nch e n,free p.1 p.2 nch e n,ne,nf,d⟩
theorem Inv.un {t':Nat}(I:Inv X pins σ H s)(u:Un X.fs [] H H' s.heap h')(hok:HOk X.prog X.w H' h'):Inv X pins σ H' { s with heap:=h',toks:=t' }:=by
 obtain⟨m,⟨o,es,ep,ho,r⟩,_⟩:=id I.loc;obtain⟨sl,hL⟩:=u.any ho I.free (by simp);exact I.step (g':=s.gens) (d':=s.drawn) (ch:=[]) (λ _ z=>nomatch z) (λ b o _ hb _ e n=>u.keep b o e n hb (by simp)) (λ b o _ hb _ e n=>u.slot b o e n hb (by simp)) (λ b o _ e n=>u.free b o e n (by simp)) (λ b o _ e=>u.there b o e (by simp)) u.tups u.frzs u.tbls (λ m' hm=>by
  obtain⟨o',es',ep',ho',r'⟩:=hm;rw[ho] at ho';cases ho';exact⟨_,es',ep',hL,r'⟩) hok I.bare
theorem Inv.call {g':Array GenState}{t':Nat}{d':Drawn}{ch:List Addr}(I:Inv X pins σ H s)(u:Un (frs X.stack) ch H H' s.heap h')(hok:HOk X.prog X.w H' h')(hg:AllBare g')
  (hch:∀ b∈ch,(b∈X.ex\/X.s₀.heap.objs.size<=b)/\b≠X.env.locals/\(∀ x c,X.env.cells.lookup x=some c->c≠b)/\∀ p∈X.pn++pins,p.1≠b):
  Inv X pins σ H' { s with heap:=h',gens:=g',drawn:=d',toks:=t' }:=by
 obtain⟨m,⟨o,es,ep,ho,r⟩,_⟩:=id I.loc;obtain⟨sl,hL⟩:=u.any ho I.free λ z=>(hch _ z).2.1 rfl
 exact I.step (ch:=ch) hch (λ b o hL hb hc e n=>u.keep b o e n (λ z=>(List.mem_cons.mp (I.stkSub b z)).elim hL hb) hc) (λ b o _ _ hc e n=>u.any e n hc) (λ b o hc e n=>u.free b o e n hc) (λ b o hc e=>u.there b o e hc) u.tups u.frzs u.tbls (λ m' hm=>by
  obtain⟨o',es',ep',ho',r'⟩:=hm;rw[ho] at ho';cases ho';exact⟨_,es',ep',hL,r'⟩) hok hg
theorem Inv.turned {t':Nat}{it:Addr}(I:Inv X pins σ H s)(k:∀ b o,b≠it->s.heap.get? b=some o->h'.get? b=some o)(hn:H it=none)(hL:it≠X.env.locals)
  (h1:it∈X.ex\/X.s₀.heap.objs.size<=it) (h2:∀ x c,X.env.cells.lookup x=some c->c≠it) (h3:∀ p∈X.pn++pins,p.1≠it):Inv X pins σ H { s with heap:=h',toks:=t' }:=by
 have nit:∀ b u,H b=some u->b≠it:=λ b u e z=>by rw[z,hn] at e;cases e
 refine I.step (g':=s.gens) (d':=s.drawn) (ch:=[it]) (λ b hb=>?_) (λ b o _ _ hc e _=>k b o (λ z=>hc (by simp[z])) e) (λ b o _ _ hc e _=>⟨o.slots,k b o (λ z=>hc (by simp[z])) e⟩) (λ _ _ _ _ n=>n)
  (λ b o hc e=>⟨o,k b o (λ z=>hc (by simp[z])) e⟩) (λ _ _ e=>e) (λ _ _ _ e=>e) (λ b ps e=>⟨#[],by rw[e];simp⟩) (λ m hm=>?_) (λ b u e=>?_) I.bare
 ·have e:b=it:=by simpa using hb
  subst e;exact⟨h1,hL,h2,h3⟩
 ·obtain⟨o,es,ep,ho,r⟩:=hm
  exact⟨o,es,ep,k _ o (Ne.symm hL) ho,r⟩
 ·refine(I.hok b u e).stay (λ c v hc q=>k c v ?_ q) (λ _ q=>q) λ _ _ q=>q
  rcases hc with z|z
  ·rw[z];exact nit b u e
  ·exact nit c _ z
theorem Inv.tok (I:Inv X pins σ H s)(t:Nat):Inv X pins σ H { s with toks:=t }:=I.un (h':=s.heap) (t':=t) Un.refl I.hok
theorem Inv.kept {t':Nat}(I:Inv X pins σ H s)(k:∀ b u,s.heap.get? b=some u->h'.get? b=some u):Inv X pins σ H { s with heap:=h',toks:=t' }:=I.un (Un.kept k) (I.hok.kept k)
theorem Inv.laid {a:Addr}{o:HO}{t':Nat}(I:Inv X pins σ H s)(k:∀ b u,s.heap.get? b=some u->h'.get? b=some u)(hp:s.heap.objs.size<=a)(new:ObjOk X.prog X.w (upd H a o) h' a o):
  Inv X pins σ (upd H a o) { s with heap:=h',toks:=t' }:=I.un (Un.laid k hp (I.hok.fresh hp)) (I.hok.laid k hp new)
theorem Inv.write {x e:Addr}{o:HO}{t':Nat}(I:Inv X pins σ H s)(mu:Mut (H x))(he:e=x\/H e=some (.own x))(k:∀ b u,b≠e->s.heap.get? b=some u->h'.get? b=some u)(heo:∃ u,h'.get? e=some u)
  (new:ObjOk X.prog X.w (upd H x o) h' x o):Inv X pins σ (upd H x o) { s with heap:=h',toks:=t' }:=I.un (Un.write mu he k heo) (I.hok.write mu he k heo new)
theorem Inv.pins_of {pins':List (Addr×Obj)}(I:Inv X pins σ H s)(h:∀ p∈pins',s.heap.get? p.1=some p.2/\H p.1=none/\p.1≠X.env.locals/\p.1∉X.fs/\∀ v,p.2.data≠.cell v):Inv X pins' σ H s:=
 ⟨I.ok,I.os,I.bare,I.base,I.loc,I.cell,I.free,I.freeC,λ p hp=>(List.mem_append.mp hp).elim (λ z=>I.pin p (zM _ z)) (h p),I.hok,I.len⟩
theorem kO {N:List Str}(hN:N.Nodup){i j:Nat}{x:Str}(a:N[i]?=some x)(b:N[j]?=some x):i=j:=by
 obtain⟨h1,e1⟩:=List.getElem?_eq_some_iff.mp a;obtain⟨h2,e2⟩:=List.getElem?_eq_some_iff.mp b;exact(List.getElem_inj hN).mp (e1.trans e2.symm)
theorem jo {M:Model}{A:Around}{E:Value->Shared->Prop}{i:Nat}{x:Str}{v:V}{u:Value}{Q:Unit->Shared->Prop}(I:Inv X pins σ H s)(hN:X.N.Nodup)(hi:X.N[i]?=some x)(hx:Loc X.env.scope x)(r:RelV v u)
  (h:∀ s',Inv X pins (σ.set i (some v)) H s'->(∃ a,Dq a s.heap s'.heap/\(a=X.env.locals\/X.env.cells.lookup x=some a))->Q () s') (hf:autoParam (X.fn x=true\/X.env.scope.names.lookup x=some .local) ZB._auto_1):wpAny M A (storeName X.env x u) Q E s:=by
 obtain⟨m,hn,hl⟩:=id I.loc;have hcls:(X.env.scope.kind == .class || (X.env.scope.kind == .module&&X.env.locals != X.env.globals))=false:=by rw[I.ok.kind];rfl
 have hiσ:i<σ.length:=by rw[I.len];exact(List.getElem?_eq_some_iff.mp hi).1
 have cne:=I.cne;have tracked:∀ {a:Addr} {h':Heap},(∃ o,s.heap.get? a=some o/\H a=none)->Dq a s.heap h'->HOk X.prog X.w H h':=λ {a h'} ha hs b ob e=>by
  obtain⟨_,_,hfree⟩:=ha;refine(I.hok b ob e).stay (λ c w' hc q=>(hs.2 c ?_).trans q) (λ _ q=>q) λ _ _ q=>q
  rintro rfl
  rcases hc with rfl|hc
  ·rw[hfree] at e;cases e
  ·rw[hfree] at hc;cases hc
 rcases hx with hk|hk
 ·refine wpAny_storeName_local hk hn (λ h' hn' hs=>?_) hcls
  obtain⟨oL,_,_,hoL,_⟩:=id hn;refine h _ ⟨I.ok,I.os,I.bare,⟨λ b o e n hb hx=>?_,λ b o e n hb hx=>?_,I.base.free,λ b o e hx=>?_,I.base.tups,I.base.frzs,I.base.tbls⟩,⟨_,hn',λ j y v' e1 e2 e3=>?_⟩,λ y c e=>?_,I.free,I.freeC,λ p hp=>?_,tracked ⟨oL,hoL,I.free⟩ hs,by simpa using I.len⟩ ⟨_,hs,.inl rfl⟩
  ·exact(hs.2 b (yU (zc (Cg e) I.ok.above))).trans (I.base.keep b o e n hb hx)
  ·obtain⟨sl,e1⟩:=I.base.slot b o e n hb hx
   exact⟨sl,(hs.2 b (yU (zc (Cg e) I.ok.above))).trans e1⟩
  ·obtain⟨o',e1⟩:=I.base.there b o e hx
   exact⟨o',(hs.2 b (yU (zc (Cg e) I.ok.above))).trans e1⟩
  ·by_cases hj:j=i
   ·subst hj
    rw[hi] at e1;cases e1;rw[zg hiσ] at e2;cases e2;exact⟨u,r,.inl ⟨hk,by simp⟩⟩
   ·rw[yX (Ne.symm hj)] at e2
    obtain⟨u',r',q⟩:=hl j y v' e1 e2 e3;refine⟨u',r',?_⟩
    rcases q with ⟨k,e⟩|⟨k,c,e,z⟩
    ·refine .inl ⟨k,?_⟩
     have:y≠x:=λ e=>hj (kO hN e1 (e▸hi))
     simp[this,e]
    ·exact .inr ⟨k,c,e,z.sameBut hs (cne y c e)⟩
  ·obtain⟨w',z⟩:=I.cell y c e
   exact⟨w',z.sameBut hs (cne y c e)⟩
  ·obtain⟨e,n,ne,nf,d⟩:=I.pin p hp
   exact⟨(hs.2 p.1 ne).trans e,n,ne,nf,d⟩
 ·have hfn:X.fn x=true:=by
   rcases hf with z|z
   ·exact z
   ·rw[z] at hk;cases hk
  obtain⟨c,hc⟩:=I.ok.has x (.inl hk);obtain⟨w',z⟩:=I.cell x c hc;refine wpAny_storeName_cell I.ok.kind hk hc z (λ h' hc' hs=>?_);obtain⟨oc,hoc,hocd⟩:=id z;refine h { s with heap:=h' } ⟨I.ok,I.os,I.bare,⟨λ b o e n hb hx=>?_,λ b o e n hb hx=>?_,I.base.free,λ b o e hx=>?_,I.base.tups,I.base.frzs,I.base.tbls⟩,⟨m,hn.sameBut hs (Ne.symm (cne x c hc)),λ j y v' e1 e2 e3=>?_⟩,λ y c' e=>?_,I.free,I.freeC,λ p hp=>?_,tracked ⟨oc,hoc,I.freeC x c hc⟩ hs,by simpa using I.len⟩ ⟨c,hs,.inr hc⟩
  ·exact(hs.2 b (yU (zc (Cg e) (I.ok.cab x c hfn hc)))).trans (I.base.keep b o e n hb hx)
  ·obtain⟨sl,e1⟩:=I.base.slot b o e n hb hx
   exact⟨sl,(hs.2 b (yU (zc (Cg e) (I.ok.cab x c hfn hc)))).trans e1⟩
  ·obtain⟨o',e1⟩:=I.base.there b o e hx
   exact⟨o',(hs.2 b (yU (zc (Cg e) (I.ok.cab x c hfn hc)))).trans e1⟩
  ·by_cases hj:j=i
   ·subst hj
    rw[hi] at e1;cases e1;rw[zg hiσ] at e2;cases e2;exact⟨u,r,.inr ⟨.inl hk,c,hc,hc'⟩⟩
   ·rw[yX (Ne.symm hj)] at e2
    obtain⟨u',r',q⟩:=hl j y v' e1 e2 e3;refine⟨u',r',?_⟩
    rcases q with q|⟨k,c',e,z'⟩
    ·exact .inl q
    ·refine .inr ⟨k,c',e,z'.sameBut hs ?_⟩
     rintro rfl
     exact hj (kO hN e1 (I.ok.inj _ _ _ e hc▸hi))
  ·by_cases hcc:c'=c
   ·subst hcc;exact⟨_,hc'⟩
   ·obtain⟨w2,z2⟩:=I.cell y c' e
    exact⟨w2,z2.sameBut hs hcc⟩
  ·obtain⟨e,n,ne,nf,d⟩:=I.pin p hp
   refine⟨(hs.2 p.1 ?_).trans e,n,ne,nf,d⟩;intro q;rw[q,hoc] at e;have q':oc=p.2:=Option.some.inj e;exact d w' (by rw[<- q'];exact hocd)
theorem eQ {M:Model}{A:Around}{E:Value->Shared->Prop}{i:Nat}{x:Str}{v:V}{u:Value}{Q:Unit->Shared->Prop}(I:Inv X pins σ H s)(hN:X.N.Nodup)(hi:X.N[i]?=some x)(hx:Loc X.env.scope x)(r:RelV v u)
  (h:∀ s',Inv X pins (σ.set i (some v)) H s'->Q () s') (hf:autoParam (X.fn x=true\/X.env.scope.names.lookup x=some .local) ZB._auto_1):wpAny M A (storeName X.env x u) Q E s:=
 jo I hN hi hx r (λ s' I' _=>h s' I') hf
theorem Inv.call' {s':Shared}{ch:List Addr}(I:Inv X pins σ H s)(ho:s'.os=s.os)(u:Un (frs X.stack) ch H H' s.heap s'.heap)(hok:HOk X.prog X.w H' s'.heap)(hg:AllBare s'.gens)
  (hch:∀ b∈ch,(b∈X.ex\/X.s₀.heap.objs.size<=b)/\b≠X.env.locals/\(∀ x c,X.env.cells.lookup x=some c->c≠b)/\∀ p∈X.pn++pins,p.1≠b):Inv X pins σ H' s':=by
 obtain⟨h',g',d',t',o'⟩:=s';have e:o'=s.os:=ho;subst e;exact I.call (g':=g') (t':=t') (d':=d') u hok hg hch
end
abbrev XK:=Value->Option Addr->Hp->Prop
abbrev St:=List (Option V)
abbrev VK:=V->Hp->Prop
abbrev TE:=St->Hp->VK->Prop
abbrev TT:=St->Hp->(Bool->Hp->Prop)->Prop
abbrev TA:=St->Hp->(List V->Hp->Prop)->Prop
structure Ends where
 nx:St->Hp->Prop
 rt:VK
 bk:St->Hp->Prop:=λ _ _=>False
 ct:St->Hp->Prop:=λ _ _=>False
abbrev TS:=Ends->St->Hp->Prop
def EP (X:Cx)(pins:List (Addr×Obj))(σ:St)(Q:VK)(u:Value)(s':Shared):Prop:=∃ v H',Inv X pins σ H' s'/\RelV v u/\Q v H'
def TP (X:Cx)(pins:List (Addr×Obj))(σ:St)(Q:Bool->Hp->Prop)(b:Bool)(s':Shared):Prop:=∃ H',Inv X pins σ H' s'/\Q b H'
def AP (X:Cx)(pins:List (Addr×Obj))(σ:St)(Q:List V->Hp->Prop)(us:List Value)(s':Shared):Prop:=∃ vs H',Inv X pins σ H' s'/\Vals vs us/\Q vs H'
def SP (X:Cx)(pins:List (Addr×Obj))(D:Ends)(f:Flow)(s':Shared):Prop:=
 match f with
 | .next=>∃ σ' H',Inv X pins σ' H' s'/\D.nx σ' H'
 | .brk=>∃ σ' H',Inv X pins σ' H' s'/\D.bk σ' H'
 | .cont=>∃ σ' H',Inv X pins σ' H' s'/\D.ct σ' H'
 | .ret u=>∃ v σ' H',Inv X pins σ' H' s'/\RelV v u/\D.rt v H'
def PE (X:Cx)(e:Expr)(t:TE):Prop:=
 ∀ (pins:List (Addr×Obj)) (s:Shared) (σ:St) (H:Hp) (Q:VK),Inv X pins σ H s->t σ H Q->wpAny (model X.prog X.w) X.A (eval e X.env) (EP X pins σ Q) X.xe s
def PT (X:Cx)(e:Expr)(t:TT):Prop:=
 ∀ (pins:List (Addr×Obj)) (s:Shared) (σ:St) (H:Hp) (Q:Bool->Hp->Prop),Inv X pins σ H s->t σ H Q->wpAny (model X.prog X.w) X.A (isTrue e X.env (eval e X.env)) (TP X pins σ Q) X.xe s
def PW (X:Cx)(e:Expr)(t:TT):Prop:=
 ∀ (whole:Sem Value) (pins:List (Addr×Obj)) (s:Shared) (σ:St) (H:Hp) (Q:Bool->Hp->Prop),Inv X pins σ H s->t σ H Q->wpAny (model X.prog X.w) X.A (isTrue e X.env whole) (TP X pins σ Q) X.xe s
theorem PW.pt {X:Cx}{e:Expr}{t:TT}(h:PW X e t):PT X e t:=h _
def PA (X:Cx)(es:List Expr)(t:TA):Prop:=
 ∀ (pos:Pos) (pins:List (Addr×Obj)) (s:Shared) (σ:St) (H:Hp) (Q:List V->Hp->Prop),Inv X pins σ H s->t σ H Q->wpAny (model X.prog X.w) X.A (spliced (backTo pos (starEach es X.env))) (AP X pins σ Q) X.xe s
def PS (X:Cx)(st:Stmt)(t:TS):Prop:=
 ∀ (pins:List (Addr×Obj)) (s:Shared) (σ:St) (H:Hp) (D:Ends),Inv X pins σ H s->t D σ H->wpAny (model X.prog X.w) X.A (exec st X.env) (SP X pins D) X.xe s
def PSs (X:Cx)(st:List Stmt)(t:TS):Prop:=
 ∀ (pins:List (Addr×Obj)) (s:Shared) (σ:St) (H:Hp) (D:Ends),Inv X pins σ H s->t D σ H->wpAny (model X.prog X.w) X.A (execs st X.env) (SP X pins D) X.xe s
theorem thn {α:Type}{t:Sem α}{Q Q':α->Shared->Prop}{M:Model}{A:Around}{E:Value->Shared->Prop}{s:Shared}(h:wpAny M A t Q E s)(hQ:∀ a s,Q a s->Q' a s):wpAny M A t Q' E s:=CA h hQ λ _ _ x=>x
section
variable {X:Cx}
def gz (i:Nat):TE:=λ σ H Q=>∃ v,σ[i]?=some (some v)/\Q v H
def tC (v:V):TE:=λ _ H Q=>Q v H
theorem cL {i:Nat}{x:Str}{pos:Pos}(hN:X.N[i]?=some x)(hv:Vis X.env.scope x)(hd:autoParam ((x == ("__debug__":Str))=false) ZC._auto_1)(hcd:autoParam ((x == ("__classdict__":Str))=false) ZC._auto_1):PE X (.Name x pos) (gz i):=by
 intro pins s σ H Q I h;obtain⟨v,e,h⟩:=h;obtain⟨m,hn,hl⟩:=I.loc;obtain⟨u,r,l⟩:=hl i x v hN e hv;have fin:EP X pins σ Q u s:=⟨v,H,I,r,h⟩
 rcases l with ⟨hk,hm⟩|⟨hk,c,hc,hcell⟩
 ·exact wpAny_Name (wpAny_loadName_local I.ok.kind hk hn hm fin) hd
 ·rcases hk with hk|hk
  ·exact wpAny_Name (wpAny_loadName_cell I.ok.kind hk hc hcell fin) hd
  ·exact wpAny_Name (wpAny_loadName_free I.ok.kind hk hc hcell fin hcd) hd
theorem jH {i j pos}:PE X (.Constant (.int i) j pos) (tC (.int i)):=λ _ _ _ H _ I h=>wpAny_Constant_int ⟨.int i,H,I.tok _,⟨_,rfl⟩,h⟩
theorem xI {b j pos}:PE X (.Constant (.bool b) j pos) (tC (.bl b)):=λ _ _ _ H _ I h=>Constant_bool ⟨.bl b,H,I,rfl,h⟩
theorem wt {x j pos}:PE X (.Constant (.str x) j pos) (tC (.str x)):=λ _ _ _ H _ I h=>Calls.Constant_str ⟨.str x,H,I.tok _,⟨_,rfl⟩,h⟩
def Gl (X:Cx)(x:Str):Prop:=X.env.kindOf x=some .globalImplicit
theorem nu {E:Value->Shared->Prop}{pins:List (Addr×Obj)}{s:Shared}{σ:St}{H:Hp}{x:Str}{u:Value}{pos:Pos}{Q:Value->Shared->Prop}(I:Inv X pins σ H s)(hg:Gl X x)(hm:X.mg x=some u)(h:Q u s)
  (hd:autoParam ((x == ("__debug__":Str))=false) ZC._auto_1):wpAny (model X.prog X.w) X.A (eval (.Name x pos) X.env) Q E s:=
 Eh I.ok.kind hg (Calls.loadGlobal_global (by rw[I.ok.glob];exact I.mod.glob.keeps I.bk) hm h) hd
theorem bO {E:Value->Shared->Prop}{pins:List (Addr×Obj)}{s:Shared}{σ:St}{H:Hp}{x:Str}{u:Value}{pos:Pos}{Q:Value->Shared->Prop}(I:Inv X pins σ H s)(hg:Gl X x)(hm:X.mg x=none)(hv:bootBuiltins x=some u)(h:Q u s)
  (hn:autoParam (x≠"__name__") ZC._auto_1) (hd:autoParam ((x == ("__debug__":Str))=false) ZC._auto_1):wpAny (model X.prog X.w) X.A (eval (.Name x pos) X.env) Q E s:=by
 obtain⟨mb,h1,h2⟩:=I.mod.blt;exact Eh I.ok.kind hg (Calls.loadGlobal_builtin (by rw[I.ok.glob];exact I.mod.glob.keeps I.bk) hm (by rw[I.ok.blt];exact h1.keeps I.bk) ((h2 x hn).trans hv) h) hd
theorem nL {x:Str}{v:V}{u:Value}{pos:Pos}(hg:Gl X x)(hm:X.mg x=some u)(r:RelV v u)(hd:autoParam ((x == ("__debug__":Str))=false) ZC._auto_1):PE X (.Name x pos) (tC v):=
 λ _ _ _ H _ I h=>nu I hg hm ⟨v,H,I,r,h⟩ hd
theorem sW {x:Str}{v:V}{u:Value}{pos:Pos}(hg:Gl X x)(hm:X.mg x=none)(hv:bootBuiltins x=some u)(r:RelV v u)(hn:autoParam (x≠"__name__") ZC._auto_1)(hd:autoParam ((x == ("__debug__":Str))=false) ZC._auto_1):PE X (.Name x pos) (tC v):=
 λ _ _ _ H _ I h=>bO I hg hm hv ⟨v,H,I,r,h⟩ hn hd
variable {a b:Expr}{ta tb:TE}{pos:Pos}
def tB (t:TE):TT:=λ σ H Q=>t σ H λ x H1=>∃ c,x=.bl c/\Q c H1
theorem vp {e:Expr}{t:TE}(h:PE X e t)(he:autoParam (∀ whole,isTrue e X.env whole=(do let v <- whole;standAt e.pos;holding [v] (truthy v))) ZD._auto_1):PT X e (tB t):=by
 intro pins s σ H Q I hw;refine isTrue_plain (thn (h pins s σ H _ I hw) λ v s1 ⟨x,H1,I1,r1,q1⟩=>?_) (he _);obtain⟨d,rfl,q⟩:=q1;cases r1;exact Dp ⟨H1,I1,q⟩
variable {tA tB':TT}{rest:List Expr}
def xY (t u:TT):TT:=λ σ H Q=>t σ H λ c H1=>if c=true then u σ H1 Q else Q false H1
def tOr (t u:TT):TT:=λ σ H Q=>t σ H λ c H1=>if c=true then Q true H1 else u σ H1 Q
def yx (t:TT):TT:=λ σ H Q=>t σ H λ c H1=>Q (!c) H1
theorem tZ (ha:PT X a tA):PW X (.BoolOp .And [a] pos) tA:=by
 intro wh pins s σ H Q I h;refine isTrue_and (thn (ha pins s σ H Q I h) λ c s1 e=>?_);cases c with
 | true=>exact isTrue_and_nil e
 | false=>exact e
theorem we (ha:PT X a tA):PW X (.BoolOp .Or [a] pos) tA:=by
 intro wh pins s σ H Q I h;refine isTrue_or (thn (ha pins s σ H Q I h) λ c s1 e=>?_);cases c with
 | false=>exact isTrue_or_nil e
 | true=>exact e
theorem v5 (ha:PT X a tA)(hb:PW X (.BoolOp .And (b::rest) pos) tB'):PW X (.BoolOp .And (a::b::rest) pos) (xY tA tB'):=by
 intro wh pins s σ H Q I h;refine isTrue_and (thn (ha pins s σ H _ I h) λ c s1 ⟨H1,I1,q1⟩=>?_);cases c with
 | true=>exact hb wh pins s1 σ H1 Q I1 q1
 | false=>exact⟨H1,I1,q1⟩
theorem xt (ha:PT X a tA)(hb:PW X (.BoolOp .Or (b::rest) pos) tB'):PW X (.BoolOp .Or (a::b::rest) pos) (tOr tA tB'):=by
 intro wh pins s σ H Q I h;refine isTrue_or (thn (ha pins s σ H _ I h) λ c s1 ⟨H1,I1,q1⟩=>?_);cases c with
 | true=>exact⟨H1,I1,q1⟩
 | false=>exact hb wh pins s1 σ H1 Q I1 q1
theorem vF (ha:PT X a tA):PT X (.UnaryOp .Not a pos) (yx tA):=by
 intro pins s σ H Q I h;exact isTrue_not (ha pins s σ H (λ c H1=>Q (!c) H1) I h)
def uJ (ta tb:TE):TE:=λ σ H Q=>ta σ H λ x H1=>∃ c,x=.bl c/\if c=true then tb σ H1 Q else Q (.bl false) H1
def xN (ta:TE):TE:=λ σ H Q=>ta σ H λ x H1=>∃ c,x=.bl c/\Q (.bl (!c)) H1
theorem sG {op}{t:TE}(h:PE X a t):PE X (.BoolOp op [a] pos) t:=λ pins s σ H Q I hw=>BoolOp_one (h pins s σ H Q I hw)
theorem sx (ha:PE X a ta)(hb:PE X (.BoolOp .And (b::rest) pos) tb):PE X (.BoolOp .And (a::b::rest) pos) (uJ ta tb):=by
 intro pins s σ H Q I h;refine BoolOp_and (thn (ha pins s σ H _ I h) λ v s1 ⟨x,H1,I1,r1,q1⟩=>?_);obtain⟨c,rfl,q1⟩:=q1;cases r1;refine Dp ?_
 cases c with
 | true=>exact hb pins s1 σ H1 Q I1 q1
 | false=>exact⟨.bl false,H1,I1,rfl,q1⟩
theorem wG (ha:PE X a ta):PE X (.UnaryOp .Not a pos) (xN ta):=by
 intro pins s σ H Q I h;refine UnaryOp_ (thn (ha pins s σ H _ I h) λ v s1 ⟨x,H1,I1,r1,q1⟩=>?_);obtain⟨c,rfl,q1⟩:=q1;cases r1;exact not_of (Dp ⟨.bl (!c),H1,I1,rfl,q1⟩)
end
def SqL (K:Cd)(H:Hp)(a:Addr)(xs:List V):Prop:=
 Rd H a (.lst xs) \/
  ∃ (o:Obj) (its:Array Value) (n:Nat),K.lookup a=some o/\o.cls=.type "list"/\o.dict=none/\o.data=.seq its n/\its.size<=sizeLine/\Vals xs its.toList
def SqT (K:Cd)(H:Hp)(a:Addr)(xs:List V):Prop:=
 Rd H a (.tup xs) \/
  ∃ (o:Obj) (its:Array Value) (n:Nat),K.lookup a=some o/\o.cls=.type "tuple"/\o.data=.seq its n/\its.size<=sizeLine/\Vals xs its.toList
def yn:Value->Option V
 | .none=>some .non
 | .bool b=>some (.bl b)
 | .int i _=>some (.int i)
 | .str x _=>some (.str x)
 | .bytes b _=>some (.byt b)
 | .float b _=>some (.flt b)
 | .ref a=>some (.ref a)
 | .type n=>some (.ty n)
 | _=>none
theorem RelV.abs {x:V}{u:Value}(r:RelV x u):yn u=some x:=by
 cases x with
 | non=>cases r;rfl
 | bl _=>cases r;rfl
 | int _=>obtain⟨t,rfl⟩:=r;rfl
 | str _=>obtain⟨t,rfl⟩:=r;rfl
 | byt _=>obtain⟨t,rfl⟩:=r;rfl
 | flt _=>obtain⟨t,rfl⟩:=r;rfl
 | ref _=>cases r;rfl
 | ty _=>cases r;rfl
theorem RelV.inj {x y:V}{u:Value}(r:RelV x u)(q:RelV y u):x=y:=Option.some.inj (r.abs.symm.trans q.abs)
theorem Vals.inj {xs ys:List V}{us:List Value}(q:Vals xs us)(p:Vals ys us):xs=ys:=by
 induction q generalizing ys with
 | nil=>cases p;rfl
 | cons r t ih=>
  cases p with
  | cons r' t'=>rw[r.inj r',ih t']
section
variable {X:Cx}{pins:List (Addr×Obj)}{σ:St}{H:Hp}{s:Shared}{a:Addr}{xs ys:List V}
theorem SqL.of {K:Cd}(h:H a=some (.lst xs)):SqL K H a xs:=.inl (.inl h)
theorem Inv.list (I:Inv X pins σ H s)(h:SqL X.K H a xs):∃ its:List Value,Vals xs its/\PlainL s.heap a its.toArray/\xs.length<=sizeLine:=by
 rcases h with h|⟨o,its,n,hk,hc,hd,hs,hz,r⟩
 ·obtain⟨z,its,n,r,e⟩:=h.ok I.hok
  exact⟨its,r,⟨_,n,e,rfl,rfl,rfl⟩,z⟩
 ·refine⟨its.toList,r,⟨o,n,I.kIn a o hk,hc,hd,by simpa using hs⟩,?_⟩
  have e:=r.length;simp only[Cj] at e;omega
theorem Inv.tuple (I:Inv X pins σ H s)(h:SqT X.K H a xs):∃ its:List Value,Vals xs its/\IsTup s.heap a its.toArray/\xs.length<=sizeLine:=by
 rcases h with h|⟨o,its,n,hk,hc,hs,hz,r⟩
 ·obtain⟨z,its,r,p⟩:=h.ok I.hok
  exact⟨its,r,p,z⟩
 ·refine⟨its.toList,r,⟨o,I.kIn a o hk,hc,n,by simpa using hs⟩,?_⟩
  have e:=r.length;simp only[Cj] at e;omega
theorem Inv.list_inj (I:Inv X pins σ H s)(h:SqL X.K H a xs)(h':SqL X.K H a ys):xs=ys:=by
 obtain⟨its,r,⟨o,n,e,_,_,d⟩,_⟩:=I.list h;obtain⟨its',r',⟨o',n',e',_,_,d'⟩,_⟩:=I.list h';rw[e] at e';cases e';rw[d] at d';injection d' with d1 _
 have:its=its':=by simpa using congrArg Array.toList d1
 subst this;exact r.inj r'
end
abbrev Cx.wish (X:Cx)(E:Value->Shared->Prop):Cx:={ X with xe:=E }
abbrev Cx.nox (X:Cx):Cx:=X.wish λ _ _=>False
theorem Cx.Ok.wish {X:Cx}(ok:X.Ok)(E:Value->Shared->Prop):(X.wish E).Ok:=
 ⟨ok.mod,ok.kind,ok.glob,ok.blt,ok.above,ok.inj,ok.has,ok.cab,ok.hd,ok.frames,ok.stk,ok.exf,ok.bs,ok.bsz,ok.noex,ok.exfs,ok.funs,ok.frf⟩
theorem Cx.Ok.unwish {X:Cx}{E:Value->Shared->Prop}(ok:(X.wish E).Ok):X.Ok:=
 ⟨ok.mod,ok.kind,ok.glob,ok.blt,ok.above,ok.inj,ok.has,ok.cab,ok.hd,ok.frames,ok.stk,ok.exf,ok.bs,ok.bsz,ok.noex,ok.exfs,ok.funs,ok.frf⟩
section
variable {X:Cx}{pins:List (Addr×Obj)}{σ:St}{H:Hp}{s:Shared}{E:Value->Shared->Prop}
theorem Inv.wish (I:Inv X pins σ H s)(E:Value->Shared->Prop):Inv (X.wish E) pins σ H s:=⟨I.ok.wish E,I.os,I.bare,I.base,I.loc,I.cell,I.free,I.freeC,I.pin,I.hok,I.len⟩
theorem Inv.unwish (I:Inv (X.wish E) pins σ H s):Inv X pins σ H s:=⟨I.ok.unwish,I.os,I.bare,I.base,I.loc,I.cell,I.free,I.freeC,I.pin,I.hok,I.len⟩
theorem SP.unwish {D:Ends}{f:Flow}{s':Shared}(h:SP (X.wish E) pins D f s'):SP X pins D f s':=by
 cases f with
 | next=>obtain⟨σ',H',I,q⟩:=h;exact⟨σ',H',I.unwish,q⟩
 | brk=>obtain⟨σ',H',I,q⟩:=h;exact⟨σ',H',I.unwish,q⟩
 | cont=>obtain⟨σ',H',I,q⟩:=h;exact⟨σ',H',I.unwish,q⟩
 | ret u=>obtain⟨v,σ',H',I,r,q⟩:=h;exact⟨v,σ',H',I.unwish,r,q⟩
theorem PE.nox {e:Expr}{t:TE}(h:PE X.nox e t):PE X e t:=λ pins s σ H Q I hw=>
 CA (h pins s σ H Q (I.wish _) hw) (λ _ _ ⟨v,H',I',r,q⟩=>⟨v,H',I'.unwish,r,q⟩) λ _ _ z=>C0 z
theorem PT.nox {e:Expr}{t:TT}(h:PT X.nox e t):PT X e t:=λ pins s σ H Q I hw=>
 CA (h pins s σ H Q (I.wish _) hw) (λ _ _ ⟨H',I',q⟩=>⟨H',I'.unwish,q⟩) λ _ _ z=>C0 z
theorem PSs.nox {st:List Stmt}{t:TS}(h:PSs X.nox st t):PSs X st t:=λ pins s σ H D I hw=>
 CA (h pins s σ H D (I.wish _) hw) (λ _ _ q=>q.unwish) λ _ _ z=>C0 z
end
section
variable {X:Cx}{st:Stmt}{rest:List Stmt}{t u:TS}{e:Expr}{te:TE}{pos:Pos}
def wU:TS:=λ D σ H=>D.nx σ H
def tS (t u:TS):TS:=λ D σ H=>t { D with nx:=u D } σ H
theorem ui:PSs X [] wU:=λ _ _ σ H _ I h=>D0 ⟨σ,H,I,h⟩
theorem eW (h1:PS X st t)(h2:PSs X rest u):PSs X (st::rest) (tS t u):=by
 intro pins s σ H D I h;refine wpAny_execs_cons (thn (h1 pins s σ H { D with nx:=u D } I h) λ f s1 q=>?_);cases f with
 | next=>
  obtain⟨σ',H',I',q⟩:=q;exact h2 pins s1 σ' H' D I' q
 | ret v=>exact q
 | brk=>exact q
 | cont=>exact q
theorem ff (h1:PS X st t):PSs X [st] t:=by
 intro pins s σ H D I h;refine wpAny_execs_cons (thn (h1 pins s σ H D I h) λ f s1 q=>?_);cases f with
 | next=>exact D0 q
 | ret v=>exact q
 | brk=>exact q
 | cont=>exact q
theorem Inv.quiet {pins:List (Addr×Obj)}{σ:St}{H:Hp}{s:Shared}(I:Inv X pins σ H s):interactive X.env=false:=by simp[interactive,I.ok.kind]
def xu (te:TE):TS:=λ D σ H=>te σ H λ _ H1=>D.nx σ H1
theorem dQ (he:PE X e te)(hs:autoParam (swapsWith e none pos.line X.env=pure false) ZE._auto_1):PS X (.Expr e pos) (xu te):=by
 intro pins s σ H D I h;exact wpAny_Expr_any (thn (he pins s σ H _ I h) λ v s1 ⟨x,H1,I1,r1,q1⟩=>⟨σ,H1,I1,q1⟩) I.quiet hs
def w6 (te:TE):TS:=λ D σ H=>te σ H D.rt
theorem mB (he:PE X e te):PS X (.Return (some e) pos) (w6 te):=by
 intro pins s σ H D I h;exact wpAny_Return_some (thn (he pins s σ H _ I h) λ v s1 ⟨x,H1,I1,r1,q1⟩=>⟨x,σ,H1,I1,r1,q1⟩)
def yd (c:TT)(t u:TS):TS:=λ D σ H=>c σ H λ b H1=>if b=true then t D σ H1 else u D σ H1
theorem xU {c:Expr}{a b:List Stmt}{tc:TT}(hc:PT X c tc)(ha:PSs X a t)(hb:PSs X b u):PS X (.If c a b pos) (yd tc t u):=by
 intro pins s σ H D I h;refine wpAny_If (thn (hc pins s σ H _ I h) λ d s1 ⟨H1,I1,q1⟩=>?_);cases d with
 | true=>exact ha pins s1 σ H1 D I1 q1
 | false=>exact hb pins s1 σ H1 D I1 q1
end
abbrev TG:=V->St->Hp->(St->Hp->Prop)->Prop
abbrev TGs:=List V->St->Hp->(St->Hp->Prop)->Prop
def PG (X:Cx)(target:Expr)(t:TG):Prop:=
 ∀ (pins:List (Addr×Obj)) (s:Shared) (σ:St) (H:Hp) (v:V) (u:Value) (Q:St->Hp->Prop),Inv X pins σ H s->RelV v u->t v σ H Q ->
  wpAny (model X.prog X.w) X.A (assign target X.env u) (λ _ s'=>∃ σ' H',Inv X pins σ' H' s'/\Q σ' H') X.xe s
def PGs (X:Cx)(ts:List Expr)(t:TGs):Prop:=
 ∀ (pins:List (Addr×Obj)) (s:Shared) (σ:St) (H:Hp) (vs:List V) (us:List Value) (Q:St->Hp->Prop),Inv X pins σ H s->Vals vs us->t vs σ H Q ->
  wpAny (model X.prog X.w) X.A (assignInOrder ((assignEach ts X.env).map (·.2)) us) (λ _ s'=>∃ σ' H',Inv X pins σ' H' s'/\Q σ' H') X.xe s
abbrev qy:=V->V->V->Hp->(Hp->Prop)->Prop
def u9 (X:Cx)(t:qy):Prop:=
 ∀ (pins:List (Addr×Obj)) (s:Shared) (σ:St) (H:Hp) (o i v:V) (ov iv u:Value) (Q:Hp->Prop),Inv X pins σ H s->RelV o ov->RelV i iv->RelV v u->t o i v H Q ->
  wpAny (model X.prog X.w) X.A (setItem ov iv u) (λ _ s'=>∃ H',Inv X pins σ H' s'/\Q H') X.xe s
abbrev TIp:=V->V->Hp->VK->Prop
def PIp (X:Cx)(op:Operator)(t:TIp):Prop:=
 ∀ (pins:List (Addr×Obj)) (s:Shared) (σ:St) (H:Hp) (x y:V) (v u:Value) (Q:VK),Inv X pins σ H s->RelV x v->RelV y u->t x y H Q ->
  wpAny (model X.prog X.w) X.A (inplaceOp op v u) (EP X pins σ Q) X.xe s
section
variable {X:Cx}{pos:Pos}
def ic (i:Nat):TG:=λ v σ H Q=>Q (σ.set i (some v)) H
theorem c7 {i:Nat}{x:Str}(hN:X.N.Nodup)(hi:X.N[i]?=some x)(hx:Loc X.env.scope x)(hf:autoParam (X.fn x=true\/X.env.scope.names.lookup x=some .local) ZB._auto_1):PG X (.Name x pos) (ic i):=by
 intro pins s σ H v u Q I r h;exact wpAny_assign_Name (eQ I hN hi hx r (λ s' I'=>⟨_,H,I',h⟩) hf)
def xM:TGs:=λ vs σ H Q=>vs=[]/\Q σ H
def qH (t:TG)(u:TGs):TGs:=λ vs σ H Q=>∃ v r,vs=v::r/\t v σ H λ σ' H'=>u r σ' H' Q
theorem jT:PGs X [] xM:=by
 intro pins s σ H vs us Q I r h;obtain⟨e,h⟩:=h;subst e;cases r;exact assignInOrder_nil ⟨σ,H,I,h⟩
theorem dm {e:Expr}{es:List Expr}{t:TG}{u:TGs}(h1:PG X e t)(h2:PGs X es u)
  (hs:autoParam ((assignEach (e::es) X.env).map (·.2)=assign e X.env::(assignEach es X.env).map (·.2)) ZE._auto_1):PGs X (e::es) (qH t u):=by
 intro pins s σ H vs us Q I r h;obtain⟨v,vr,e1,h⟩:=h;subst e1;cases r with
 | cons r rr=>
  rw[hs];refine Ef (thn (h1 pins s σ H _ _ _ I r h) λ _ s1 ⟨σ1,H1,I1,q1⟩=>?_);exact h2 pins s1 σ1 H1 _ _ Q I1 rr q1
def xB (K:Cd)(n:Nat)(t:TGs):TG:=λ v σ H Q=>∃ a xs,v=.ref a/\SqT K H a xs/\xs.length=n/\t xs σ H Q
theorem lS {es:List Expr}{k:Nat}{t:TGs}{n:Nat}(hc:X.calm=true)(h:PGs X es t)
  (hn:autoParam ((assignEach es X.env).length=n) ZE._auto_1) (hst:autoParam ((assignEach es X.env).findIdx? (·.1)=none) ZE._auto_1):PG X (.Tuple es k pos) (xB X.K n t):=by
 intro pins s σ H v u Q I r hw;obtain⟨a,xs,e1,hq,hl,hw⟩:=hw;subst e1;cases r;obtain⟨its,rv,ht,hz⟩:=I.tuple hq;refine assign_Tuple_tuple (I.ok.hd hc) ht (by simp[hn,<- hl,rv.length]) hst λ h' hx=>?_
 have I1:Inv X pins σ H { s with heap:=h' }:=I.kept (t':=s.toks) λ b o e=>hx b o (yU (Cg e)) e
 exact h pins _ σ H xs _ Q I1 (by simpa using rv) hw
def yk (to ti:TE)(t:qy):TG:=λ v σ H Q=>to σ H λ o H1=>ti σ H1 λ i H2=>t o i v H2 λ H3=>Q σ H3
theorem vV {o i:Expr}{to ti:TE}{t:qy}(ho:PE X o to)(hi:PE X i ti)(hs:u9 X t)
  (ha:autoParam (∀ v,assign (.Subscript o i pos) X.env v=(do
   let ov <- holding [v] (eval o X.env)
   let iv <- holding [v,ov] (eval i X.env)
   standAt pos
   holding [v,ov,iv] (setItem ov iv v)
   release [v,ov,iv] [])) ZD._auto_1):PG X (.Subscript o i pos) (yk to ti t):=by
 intro pins s σ H v u Q I r h;rw[ha];refine Cc (Cz (thn (ho pins s σ H _ I h) λ ov s1 ⟨x,H1,I1,r1,q1⟩=>?_));refine Cc (Cz (thn (hi pins s1 σ H1 _ I1 q1) λ iv s2 ⟨y,H2,I2,r2,q2⟩=>?_));refine Cc (DQ (Cc (Cz (thn (hs pins s2 σ H2 x y v ov iv u _ I2 r1 r2 r q2) λ _ s3 ⟨H3,I3,q3⟩=>?_))));exact wpAny_release ⟨σ,H3,I3,q3⟩
def tI (te:TE)(g:TG):TS:=λ D σ H=>te σ H λ x H1=>g x σ H1 D.nx
theorem rC {tg e:Expr}{te:TE}{g:TG}(he:PE X e te)(hg:PG X tg g)(hs:autoParam (swapsWithSole [tg] e pos.line X.env=pure false) ZE._auto_1)(hw:autoParam (swappedStores [tg] e X.env=pure none) ZE._auto_1)
  (h1:autoParam ((assignEach [tg] X.env).map (·.2)=[assign tg X.env]) ZE._auto_1):PS X (.Assign [tg] e pos) (tI te g):=by
 intro pins s σ H D I h;refine wpAny_Assign_stores (thn (he pins s σ H _ I h) λ v s1 ⟨x,H1,I1,r1,q1⟩=>?_) hs hw;rw[h1];exact thn (hg pins s1 σ H1 x v _ I1 r1 q1) λ _ s2 q=>q
theorem gW {i:Nat}{x:Str}{e:Expr}{te:TE}{pos':Pos}(hN:X.N.Nodup)(hi:X.N[i]?=some x)(hx:Loc X.env.scope x)(he:PE X e te)(hs:autoParam (swapsWith e (some (.Name x pos')) pos.line X.env=pure false) ZE._auto_1)(hf:autoParam (X.fn x=true\/X.env.scope.names.lookup x=some .local) ZB._auto_1):
  PS X (.Assign [.Name x pos'] e pos) (tI te (ic i)):=by
 intro pins s σ H D I h;refine wpAny_Assign_Name (thn (he pins s σ H _ I h) λ v s1 ⟨y,H1,I1,r1,q1⟩=>?_) hs;exact eQ I1 hN hi hx r1 (λ s2 I2=>⟨_,H1,I2,q1⟩) hf
def yc (i j:Nat)(ta:TA):TS:=λ D σ H=>ta σ H λ vs H1=>∃ v w,vs=[v,w]/\D.nx ((σ.set i (some v)).set j (some w)) H1
theorem vB {i j:Nat}{x y:Str}{a b:Expr}{ta:TA}{px py pt:Pos}{kt k2 pt2}(hc:X.calm=true)(hN:X.N.Nodup)(hi:X.N[i]?=some x)(hj:X.N[j]?=some y)(hij:i≠j)
  (hx:X.env.scope.names.lookup x=some .local) (hy:X.env.scope.names.lookup y=some .local) (ha:PA X [a,b] ta)
  (hw:swappedStores [.Tuple [.Name x px,.Name y py] kt pt] (.Tuple [a,b] k2 pt2) X.env=pure (some [x,y]))
  (hs:autoParam (swapsWithSole [.Tuple [.Name x px,.Name y py] kt pt] (.Tuple [a,b] k2 pt2) pos.line X.env=pure false) ZE._auto_1):
  PS X (.Assign [.Tuple [.Name x px,.Name y py] kt pt] (.Tuple [a,b] k2 pt2) pos) (yc i j ta):=by
 intro pins s σ H D I h;rw[exec_Assign_arm];refine Cc (DQ ?_);rw[hs];refine Cc (Ce ?_);rw[if_neg (by decide)];refine Cc (Tuple_ (thn (ha _ pins s σ H _ I h) λ us s1 ⟨vs,H1,I1,r1,q1⟩=>?_));obtain⟨v,w,e1,q1⟩:=q1;subst e1;obtain⟨u1,u2,rfl,rv,rw'⟩:∃ u1 u2,us=[u1,u2]/\RelV v u1/\RelV w u2:=by
  cases r1 with
  | cons p q=>
   cases q with
   | cons p' q'=>
    cases q';exact⟨_,_,rfl,p,p'⟩
 refine CO ?_ (by show 2<=sizeLine;decide)
 have I2:Inv X pins σ H1 { s1 with heap:=s1.heap.push { cls:=.type "tuple",data:=.seq [u1,u2].toArray } }:=I1.kept (t':=s1.toks) λ b o e=>Cf _ e
 rw[hw];refine Cc (Ce ?_);show wpAny (model X.prog X.w) X.A (do rule "assign.swapped-stores";let items <- unpackItems (.ref s1.heap.objs.size) 2 none;assignInOrder [λ v=>bindName X.env y v,λ v=>bindName X.env x v] items.reverse;pure Flow.next) _ _ _
 refine Cc (wpAny_rule (Cc (unpackItems_tuple (items:=#[u1,u2]) (I.ok.hd hc) (IsTup.new s1.heap _) λ h' hx'=>?_)));have I3:=I2.kept (h':=h') (t':=s1.toks) λ b o e=>hx' b o (yU (Cg e)) e
 show wpAny _ _ (assignInOrder [λ v=>bindName X.env y v,λ v=>bindName X.env x v] [u2,u1] >>= λ _=>pure Flow.next) _ _ _
 refine Cc (Ef (wpAny_bindName (eQ I3 hN hj (.inl hy) rw' (λ s2 I4=>?_) (.inr hy))));refine Ef (wpAny_bindName (eQ I4 hN hi (.inl hx) rv (λ s3 I5=>assignInOrder_nil (Ce ?_)) (.inr hx)));rw[List.set_comm _ _ (Ne.symm hij)] at I5;exact⟨_,H1,I5,q1⟩
def xy (to ti te:TE)(tget:V->V->Hp->VK->Prop)(tip:TIp)(tset:qy):TS:=λ D σ H=>to σ H λ o H1=>ti σ H1 λ i H2=>tget o i H2 λ x H3=>te σ H3 λ y H4=>tip x y H4 λ z H5=>tset o i z H5 λ H6=>D.nx σ H6
def wN (X:Cx)(t:V->V->Hp->VK->Prop):Prop:=
 ∀ (pins:List (Addr×Obj)) (s:Shared) (σ:St) (H:Hp) (o i:V) (ov iv:Value) (Q:VK),Inv X pins σ H s->RelV o ov->RelV i iv->t o i H Q ->
  wpAny (model X.prog X.w) X.A (getItem ov iv) (EP X pins σ Q) X.xe s
theorem t5 {o i e:Expr}{to ti te:TE}{tget:V->V->Hp->VK->Prop}{tip:TIp}{tset:qy}{op:Operator}{tpos:Pos}(ho:PE X o to)(hi:PE X i ti)(hg:wN X tget)(he:PE X e te)(hp:PIp X op tip)(hs:u9 X tset)
  (ha:autoParam (∀ ov iv new,augStore i ov iv new=(do holding [new,ov,iv] (setItem ov iv new);release [new,ov,iv] [];pure .next)) ZF._auto_1):PS X (.AugAssign (.Subscript o i tpos) op e pos) (xy to ti te tget tip tset):=by
 intro pins s σ H D I h;refine wpAny_AugAssign_SubscriptAny (thn (ho pins s σ H _ I h) λ ov s1 ⟨x1,H1,I1,r1,q1⟩=>?_) ha;refine thn (hi pins s1 σ H1 _ I1 q1) λ iv s2 ⟨x2,H2,I2,r2,q2⟩=>?_
 refine thn (hg pins s2 σ H2 x1 x2 ov iv _ I2 r1 r2 q2) λ old s3 ⟨x3,H3,I3,r3,q3⟩=>?_
 refine thn (he pins s3 σ H3 _ I3 q3) λ v s4 ⟨x4,H4,I4,r4,q4⟩=>?_
 refine thn (hp pins s4 σ H4 x3 x4 old v _ I4 r3 r4 q4) λ new s5 ⟨x5,H5,I5,r5,q5⟩=>?_
 exact thn (hs pins s5 σ H5 x1 x2 x5 ov iv new _ I5 r1 r2 r5 q5) λ _ s6 ⟨H6,I6,q6⟩=>⟨σ,H6,I6,q6⟩
def ipI (f:Int->Int->Int):TIp:=λ x y H Q=>∃ i j,x=.int i/\y=.int j/\Q (.int (f i j)) H
theorem vH:PIp X .Add (ipI λ i j=>i+j):=by
 intro pins s σ H x y v u Q I r1 r2 h;obtain⟨i,j,e1,e2,q⟩:=h;subst e1;subst e2;obtain⟨t,rfl⟩:=r1;obtain⟨t',rfl⟩:=r2;exact iadd_int ⟨.int _,H,I.tok _,⟨_,rfl⟩,q⟩
end
section
variable {X:Cx}{pos:Pos}
def vG (c:TT)(tb:TS):TS:=λ D σ H=>∃ W:Nat->St->Hp->Prop,(∃ m,W m σ H)/\∀ m σ H,W m σ H ->
 c σ H λ b H1=>if b=true then ∃ N:St->Hp->Prop,(∀ σ' H',N σ' H'->∃ m',m'<m/\W m' σ' H')/\tb { D with nx:=N,ct:=N,bk:=D.nx } σ H1 else D.nx σ H1
theorem p9 {c:Expr}{body:List Stmt}{tc:TT}{tb:TS}(hp:PassesOwn (model X.prog X.w) X.A X.env X.xe)(hc:PT X c tc)(hb:PSs X body tb):PS X (.While c body [] pos) (vG tc tb):=by
 intro pins s σ H D I h;obtain⟨W,⟨m0,w0⟩,turn⟩:=h;refine wpAny_While (codeAny_whileLoop (λ n s'=>∃ σ' H',Inv X pins σ' H' s'/\W n σ' H') ?_ m0 ⟨σ,H,I,w0⟩)
 rintro n s1 ⟨σ1,H1,I1,w1⟩
 refine C6 hp (thn (hc pins s1 σ1 H1 _ I1 (turn n σ1 H1 w1)) λ b s2 ⟨H2,I2,q2⟩=>?_);cases b with
 | true=>
  obtain⟨N,hN,q2⟩:=q2;rw[if_pos rfl];refine C6 hp (thn (hb pins s2 σ1 H2 _ I2 q2) λ f s3 q3=>?_);cases f with
  | next=>
   obtain⟨σ3,H3,I3,n3⟩:=q3;obtain⟨m',hm,w3⟩:=hN σ3 H3 n3;exact⟨m',hm,σ3,H3,I3,w3⟩
  | cont=>
   obtain⟨σ3,H3,I3,n3⟩:=q3;obtain⟨m',hm,w3⟩:=hN σ3 H3 n3;exact⟨m',hm,σ3,H3,I3,w3⟩
  | brk=>exact q3
  | ret v=>exact q3
 | false=>
  rw[if_neg zf];exact D0 ⟨σ1,H2,I2,q2⟩
end
structure It where
 go:Nat->Hp->Prop
 yld:Nat->Hp->V->Hp->Prop
 stop:Nat->Hp->Prop
def ir (X:Cx)(pins:List (Addr×Obj))(H:Hp)(b:Addr):Prop:=
 H b=none/\b≠X.env.locals/\b∉X.fs/\(b∈X.ex\/X.s₀.heap.objs.size<=b)/\(∀ x c,X.env.cells.lookup x=some c->c≠b)/\∀ p∈X.pn++pins,p.1≠b
theorem Inv.fpOk {X:Cx}{pins:List (Addr×Obj)}{σ:St}{H H':Hp}{s:Shared}{b:Addr}(I:Inv X pins σ H s)(hb:s.heap.objs.size<=b)(hn:H' b=none):ir X pins H' b:=by
 refine⟨hn,AE (zc I.lt hb),I.nofs hb,.inr (zr I.sz hb),λ x c e z=>?_,λ p hp z=>?_⟩
 ·obtain⟨v,q⟩:=I.cell x c e
  exact absurd (zc q.lt (by rw[z];exact hb)) (zq _)
 ·exact absurd (zc (Cg (I.pin p hp).1) (by rw[z];exact hb)) (zq _)
structure Turn (P:Program)(w:World)(K:Cd)(tg:Expr)(J:It)(fp:List Addr)(it:Addr)(tn:Nat->Heap->Prop):Prop where
 mem:it∈fp
 obj:∀ i h,tn i h->∀ b∈fp,∃ o,h.get? b=some o/\∀ v,o.data≠.cell v
 keep:∀ i h h',tn i h->(∀ b∈fp,∀ o,h.get? b=some o->h'.get? b=some o)->tn i h'
 item:∀ (X:Cx),X.prog=P->X.w=w->X.K=K->X.calm=true->∀ (i:Nat) (pins:List (Addr×Obj)) (s:Shared) (σ:St) (H:Hp) (E:Value->Shared->Prop),Inv X pins σ H s->(∀ b∈fp,ir X pins H b)->tn i s.heap->J.go i H ->
  wpAny (model P w) X.A (pyNext (.ref it)) (λ r s1=>∃ u,r=some u /\
   wpAny (model P w) X.A (letOwnedTupleGo tg (.ref it) u) (λ _ s2=>∃ x H',Inv X pins σ H' s2/\RelV x u/\J.yld i H x H'/\tn (i+1) s2.heap/\∀ b∈fp,H' b=none) E s1) E s
 done:∀ (X:Cx),X.prog=P->X.w=w->X.K=K->X.calm=true->∀ (i:Nat) (pins:List (Addr×Obj)) (s:Shared) (σ:St) (H:Hp) (E:Value->Shared->Prop),Inv X pins σ H s->(∀ b∈fp,ir X pins H b)->tn i s.heap->J.stop i H ->
  wpAny (model P w) X.A (pyNext (.ref it)) (λ r s1=>r=none/\Inv X pins σ H s1) E s
 self:∀ (A:Around) (i:Nat) (s:Shared) (Q:Value->Shared->Prop) (E:Value->Shared->Prop),tn i s.heap->Q (.ref it) s->wpAny (model P w) A (pyIter (.ref it)) Q E s
abbrev TI:=St->Hp->(It->Hp->Prop)->Prop
def PIE (X:Cx)(pins:List (Addr×Obj))(σ:St)(tg:Expr)(R:It->Hp->Prop)(itv:Value)(s2:Shared):Prop:=
 ∃ (it:Addr) (fp:List Addr) (tn:Nat->Heap->Prop) (J:It) (H':Hp),itv=.ref it/\Inv X pins σ H' s2/\Turn X.prog X.w X.K tg J fp it tn/\tn 0 s2.heap/\(∀ b∈fp,ir X pins H' b)/\R J H'
def PI (X:Cx)(tg iter:Expr)(wi:TI):Prop:=
 ∀ (pins:List (Addr×Obj)) (s:Shared) (σ:St) (H:Hp) (R:It->Hp->Prop),Inv X pins σ H s->wi σ H R ->
  wpAny (model X.prog X.w) X.A (eval iter X.env) (λ v s1=>wpAny (model X.prog X.w) X.A (pyIter v) (PIE X pins σ tg R) X.xe s1) X.xe s
theorem u4 {M:Model}{A:Around}{E:Value->Shared->Prop}{s:Shared}{tg:Expr}{it:Addr}{u:Value}{o:Obj}{n:String}{vs:Array Value}{Q:Unit->Shared->Prop}(ho:s.heap.get? it=some o)(hc:o.cls=.type n)(hd:o.data=.fields vs)
    (hn:["enumerate","zip","dict_itemiterator","dict_reverseitemiterator","odict_iterator","itertools.zip_longest","itertools.pairwise"].contains n=false) (hQ:Q () s):wpAny M A (letOwnedTupleGo tg (.ref it) u) Q E s:=by
  unfold letOwnedTupleGo;cases tg <;>first
    | exact Ce hQ
    | (cases u <;>first
        | exact Ce hQ
        | (refine Cc (wpAny_load ho ?_)
           rw[hc,hd];show wpAny M A (if (["enumerate","zip","dict_itemiterator","dict_reverseitemiterator","odict_iterator","itertools.zip_longest","itertools.pairwise"].contains n&&vs[0]? == some (rawInt _))=true then _ else _) Q E s
           rw[if_neg (by intro h;rw[hn,zT] at h;cases h)];exact Ce hQ))
def Itl (K:Cd)(a:Addr):It:=
 ⟨λ i H=>∃ xs x,SqL K H a xs/\xs[i]?=some x,λ i H x H'=>H'=H/\∀ xs,SqL K H a xs->xs[i]?=some x,λ i H=>∃ xs,SqL K H a xs/\xs.length<=i⟩
def Itr (lo:Int)(n:Nat):It:=⟨λ i _=>i<n,λ i H x H'=>H'=H/\x=.int (lo+i),λ i _=>n<=i⟩
theorem oT {P:Program}{w:World}{K:Cd}{tg:Expr}(a it:Addr):Turn P w K tg (Itl K a) [it] it (λ i h=>h.IsListIter it a i) where
 mem:=by simp
 obj:=λ i h st b hb=>by
  have e:b=it:=by simpa using hb
  subst e;obtain⟨o,e,c,d⟩:=st;exact⟨o,e,λ v z=>by rw[d] at z;cases z⟩
 keep:=λ i h h' st k=>st.at λ o e=>k it (by simp) o e
 item:=by
  intro X hP hw hK hc i pins s σ H E I hf st hg;subst hP hw hK;obtain⟨xs,x,hq,hx⟩:=hg;obtain⟨its,rv,p,hz⟩:=I.list hq;obtain⟨u,hu,ru⟩:=rv.get hx;obtain⟨f0,f1,f2,f3,f4,f5⟩:=hf it (by simp);refine DP st p.isList (x:=u) (by simpa using hu) λ h' st' sb=>?_
  have I1:Inv X pins σ H { s with heap:=h' }:=I.turned (t':=s.toks) (λ b o hb e=>(sb.2 b hb).trans e) f0 f1 f3 f4 f5;obtain⟨o,e,c,d⟩:=id st';exact⟨u,rfl,u4 (s:={ s with heap:=h' }) e c d (by decide) ⟨x,H,I1,ru,⟨rfl,λ ys hy=>by rw[I.list_inj hy hq];exact hx⟩,st',λ b hb=>(hf b hb).1⟩⟩
 done:=by
  intro X hP hw hK hc i pins s σ H E I hf st hg;subst hP hw hK;obtain⟨xs,hq,hx⟩:=hg;obtain⟨its,rv,p,hz⟩:=I.list hq;obtain⟨f0,f1,f2,f3,f4,f5⟩:=hf it (by simp);have hl:=rv.length;exact DV (I.ok.hd hc) st p.isList (by simp;omega) λ h' eb=>⟨rfl,I.turned (t':=s.toks) (λ b o hb e=>eb b o hb e) f0 f1 f3 f4 f5⟩
 self:=λ _ _ _ _ _ st h=>wpAny_pyIter_listiter st h
theorem lF {P:Program}{w:World}{K:Cd}{tg:Expr}(it:Addr)(lo:Int)(n:Nat):Turn P w K tg (Itr lo n) [it] it (λ i h=>IsRangeIter h it (lo+(i:Nat)*1) ((n:Int)-(i:Nat)) 1) where
 mem:=by simp
 obj:=λ i h st b hb=>by
  have e:b=it:=by simpa using hb
  subst e;exact⟨_,st,λ v z=>by
   have z':Data.fields _=Data.cell v:=z;cases z'⟩
 keep:=λ i h h' st k=>k it (by simp) _ st
 item:=by
  intro X hP hw hK hc i pins s σ H E I hf st hg;subst hP hw hK;obtain⟨f0,f1,f2,f3,f4,f5⟩:=hf it (by simp);have W:=Walks.range (prog:=X.prog) (w:=X.w) (I.ok.hd hc) it lo 1 n;refine W.item i s _ _ hg st λ v h' tk hv st' kk=>?_
  obtain⟨t,rfl⟩:=hv;have I1:Inv X pins σ H { s with heap:=h',toks:=tk }:=I.turned (λ b o hb e=>kk b o (by simpa using hb) e) f0 f1 f3 f4 f5;refine⟨_,rfl,u4 (s:={ s with heap:=h',toks:=tk }) (n:="range_iterator") st' rfl rfl (by decide) ⟨.int (lo+i),H,I1,⟨t,?_⟩,⟨rfl,rfl⟩,st',λ b hb=>(hf b hb).1⟩⟩;rw[B8]
 done:=by
  intro X hP hw hK hc i pins s σ H E I hf st hg;subst hP hw hK;obtain⟨f0,f1,f2,f3,f4,f5⟩:=hf it (by simp);exact wpAny_pyNext_range_end (I.ok.hd hc) st (by have:n<=i:=hg;omega) λ h' eb=>⟨rfl,I.turned (t':=s.toks) (λ b o hb e=>eb b o hb e) f0 f1 f3 f4 f5⟩
 self:=λ _ _ _ _ _ st h=>wpAny_pyIter_rangeiter st h
section
variable {X:Cx}{tg:Expr}
def pS (K:Cd)(tl:TE):TI:=λ σ H R=>tl σ H λ x H1=>∃ a,x=.ref a/\(∃ xs,SqL K H1 a xs)/\R (Itl K a) H1
theorem jy {l:Expr}{tl:TE}(hl:PE X l tl):PI X tg l (pS X.K tl):=by
 intro pins s σ H R I h;refine thn (hl pins s σ H _ I h) λ v s1 ⟨x,H1,I1,r1,q1⟩=>?_
 obtain⟨a,e,⟨xs,hq⟩,q⟩:=q1;subst e;cases r1;obtain⟨its,rv,p,hz⟩:=I1.list hq;refine DN p.isList ?_
 refine⟨s1.heap.objs.size,[s1.heap.objs.size],_,_,H1,rfl,I1.kept (t':=s1.toks) λ b o e=>Cf _ e,oT a _,⟨_,Ci _ rfl,rfl,rfl⟩,λ b hb=>?_,q⟩;have e:b=s1.heap.objs.size:=by simpa using hb
 subst e;exact I1.fpOk (yW _) (I1.hok.fresh (yW _))
theorem kP {pins:List (Addr×Obj)}{σ:St}{H:Hp}{s:Shared}{R:It->Hp->Prop}{E:Value->Shared->Prop}{lo hi:Int}{t u v:Tok}{tk:Nat}(I:Inv X pins σ H s)(h1:-(2 ^ 62)<=lo)(h2:lo<2 ^ 62)(h3:-(2 ^ 62)<=hi)(h4:hi<2 ^ 62)
  (q:R (Itr lo (hi-lo).toNat) H):wpAny (model X.prog X.w) X.A (pyIter (.ref s.heap.objs.size)) (PIE X pins σ tg R) E { s with heap:=s.heap.push { cls:=.type "range",data:=.fields #[.int lo t,.int hi u,.int 1 v] },toks:=tk }:=by
 refine wpAny_pyIter_range (Fq ..) (small_one h1 h2 h3 h4) ?_
 have I1:Inv X pins σ H { s with heap:=s.heap.push { cls:=.type "range",data:=.fields #[.int lo t,.int hi u,.int 1 v] },toks:=tk }:=I.kept λ b o e=>Cf _ e
 refine⟨(s.heap.push { cls:=.type "range",data:=.fields #[.int lo t,.int hi u,.int 1 v] }).objs.size,[(s.heap.push { cls:=.type "range",data:=.fields #[.int lo t,.int hi u,.int 1 v] }).objs.size],_,_,H,rfl,
  I1.kept (t':=tk) λ b o e=>Cf _ e,lF _ lo (hi-lo).toNat,?_,λ b hb=>?_,q⟩
 ·have e1:lo+((0:Nat):Int)*1=lo:=by simp
  have e2:(((hi-lo).toNat:Nat):Int)-((0:Nat):Int)=Di lo hi 1:=by rw[rangeSize_one];split <;>omega
  show IsRangeIter _ _ (lo+((0:Nat):Int)*1) ((((hi-lo).toNat:Nat):Int)-((0:Nat):Int)) 1
  rw[e1,e2];exact Ci _ rfl
 ·have e:b=(s.heap.push { cls:=.type "range",data:=.fields #[.int lo t,.int hi u,.int 1 v] }).objs.size:=by simpa using hb
  subst e;exact I1.fpOk (yW _) (I1.hok.fresh (yW _))
def wM (ta:TA):TI:=λ σ H R=>ta σ H λ vs H1=>∃ j:Int,vs=[.int j]/\-(2 ^ 62)<=j/\j<2 ^ 62/\R (Itr 0 j.toNat) H1
def xp (ta:TA):TI:=λ σ H R=>ta σ H λ vs H1=>∃ i j:Int,vs=[.int i,.int j]/\(-(2 ^ 62)<=i/\i<2 ^ 62/\-(2 ^ 62)<=j/\j<2 ^ 62)/\R (Itr i (j-i).toNat) H1
theorem nZ {a:Expr}{ta:TA}{p pos:Pos}(hg:Gl X "range")(hm:X.mg "range"=none)(ha:PA X [a] ta)(hs:autoParam (starEach [a] X.env=[(false,eval a X.env)]) ZE._auto_1):PI X tg (.Call (.Name "range" p) [a] [] pos) (wM ta):=by
 intro pins s σ H R I h;refine Call_ (bO I hg hm EY (Cr (thn (ha pos pins s σ H _ I h) λ us s1 ⟨vs,H1,I1,r1,q1⟩=>?_) hs rfl));obtain⟨j,e,q1,q2,q⟩:=q1;subst e;cases r1 with
 | cons r rr=>
  cases rr;obtain⟨t,rfl⟩:=r;exact call_range_1 (kP I1 ⋯ ⋯ q1 q2 (by simpa using q))
theorem oA {a b:Expr}{ta:TA}{p pos:Pos}(hg:Gl X "range")(hm:X.mg "range"=none)(ha:PA X [a,b] ta)(hs:autoParam (starEach [a,b] X.env=[(false,eval a X.env),(false,eval b X.env)]) ZE._auto_1)(hs2:autoParam (starEach [b] X.env=[(false,eval b X.env)]) ZE._auto_1):
  PI X tg (.Call (.Name "range" p) [a,b] [] pos) (xp ta):=by
 intro pins s σ H R I h;refine Call_ (bO I hg hm EY (Cr (thn (ha pos pins s σ H _ I h) λ us s1 ⟨vs,H1,I1,r1,q1⟩=>?_) (by rw[hs,hs2]) (by rw[hs2];rfl)));obtain⟨i,j,e,⟨q1,q2,q3,q4⟩,q⟩:=q1;subst e;cases r1 with
 | cons r rr=>
  cases rr with
  | cons r' rr=>
   cases rr;obtain⟨t,rfl⟩:=r;obtain⟨t',rfl⟩:=r';exact call_range_2 (kP I1 q1 q2 q3 q4 q)
def wC (wi:TI)(g:TG)(tb:TS):TS:=λ D σ H=>wi σ H λ J H1=>∃ W:Nat->Nat->St->Hp->Prop,(∃ m,W 0 m σ H1)/\∀ i m σ H,W i m σ H ->
 (J.stop i H/\D.nx σ H)\/(J.go i H/\∃ N:St->Hp->Prop,(∀ σ' H',N σ' H'->∃ m',m'<m/\W (i+1) m' σ' H')/\∀ x H',J.yld i H x H'->g x σ H' λ σ2 H2=>tb { D with nx:=N,ct:=N,bk:=D.nx } σ2 H2)
def gM (fp:List Addr)(h:Heap):List (Addr×Obj):=fp.filterMap λ b=>(h.get? b).map λ o=>(b,o)
theorem cV {fp:List Addr}{h:Heap}{b:Addr}{o:Obj}(hb:b∈fp)(e:h.get? b=some o):(b,o)∈gM fp h:=List.mem_filterMap.mpr ⟨b,hb,by rw[e];rfl⟩
theorem oU {fp:List Addr}{h:Heap}{p:Addr×Obj}(hp:p∈gM fp h):p.1∈fp/\h.get? p.1=some p.2:=by
 obtain⟨b,hb,e⟩:=List.mem_filterMap.mp hp;cases q:h.get? b with
 | none=>rw[q] at e;cases e
 | some o=>
  rw[q] at e;have e':(b,o)=p:=Option.some.inj e;subst e';exact⟨hb,q⟩
theorem Inv.pinned {pins:List (Addr×Obj)}{σ:St}{H:Hp}{s:Shared}{fp:List Addr}(I:Inv X pins σ H s)(hf:∀ b∈fp,ir X pins H b)(ho:∀ b∈fp,∃ o,s.heap.get? b=some o/\∀ v,o.data≠.cell v):Inv X (pins++gM fp s.heap) σ H s:=
 I.pins_of λ p hp=>(List.mem_append.mp hp).elim (λ z=>I.pin p (za _ z)) λ z=>by
  obtain⟨hb,e⟩:=oU z;obtain⟨f0,f1,f2,_⟩:=hf p.1 hb;obtain⟨o,e',d⟩:=ho p.1 hb;rw[e] at e';cases e';exact⟨e,f0,f1,f2,d⟩
theorem Inv.unpinned {pins pl:List (Addr×Obj)}{σ:St}{H:Hp}{s:Shared}(I:Inv X (pins++pl) σ H s):Inv X pins σ H s:=I.pins_of λ p hp=>I.pin p (za _ (zM _ hp))
theorem lM {iter:Expr}{body:List Stmt}{wi:TI}{g:TG}{tb:TS}{pos:Pos}(hp:PassesOwn (model X.prog X.w) X.A X.env X.xe)(hc:X.calm=true)(hi:PI X tg iter wi)(hg:PG X tg g)(hb:PSs X body tb)
  (hs:autoParam (∀ x,foldedSetIterable iter X.env x=pure x) ZD._auto_1):PS X (.For tg iter body [] pos) (wC wi g tb):=by
 intro pins s σ H D I h;refine wpAny_For (thn (hi pins s σ H _ I h) λ v s1 h1=>thn h1 λ itv s2 h2=>?_) hs;obtain⟨it,fp,tn,J,H2,e,I2,T,st2,f2,W,⟨m0,w0⟩,turn⟩:=h2;subst e;have stat:∀ {H':Hp},(∀ b∈fp,H' b=none)->∀ b∈fp,ir X pins H' b:=λ hn b hb=>⟨hn b hb,(f2 b hb).2⟩
 refine codeAny_forLoop_any (λ n s'=>∃ i σ' H',Inv X pins σ' H' s'/\tn i s'.heap/\(∀ b∈fp,H' b=none)/\W i n σ' H') ?_ m0 ⟨0,σ,H2,I2,st2,λ b hb=>(f2 b hb).1,w0⟩
 rintro n s3 ⟨i,σ3,H3,I3,st3,fr3,w3⟩
 rcases turn i n σ3 H3 w3 with ⟨stop,qn⟩|⟨go,N,hN,step⟩
 ·refine C6 hp (thn (T.done X rfl rfl rfl hc i pins s3 σ3 H3 X.xe I3 (stat fr3) st3 stop) λ r s4 ⟨hr,I4⟩=>?_)
  subst hr;exact D0 ⟨σ3,H3,I4,qn⟩
 ·refine C6 hp (thn (T.item X rfl rfl rfl hc i pins s3 σ3 H3 X.xe I3 (stat fr3) st3 go) λ r s4 ⟨u,hr,h4⟩=>?_)
  subst hr;refine C6 hp (thn h4 λ _ s5 ⟨x,H5,I5,r5,y5,st5,fr5⟩=>?_);have I5':=I5.pinned (stat fr5) (T.obj _ _ st5);refine C6 hp (thn (hg _ s5 σ3 H5 x u _ I5' r5 (step x H5 y5)) λ _ s6 ⟨σ6,H6,I6,q6⟩=>?_);refine C6 hp (thn (hb _ s6 σ6 H6 _ I6 q6) λ f s7 q7=>?_);have again:∀ {σ7:St} {H7:Hp},Inv X (pins++gM fp s5.heap) σ7 H7 s7->N σ7 H7->∃ m,m<n/\∃ i σ' H',Inv X pins σ' H' s7/\tn i s7.heap/\(∀ b∈fp,H' b=none)/\W i m σ' H':=λ {σ7 H7} I7 n7=>by
   obtain⟨m',hm,w7⟩:=hN σ7 H7 n7;refine⟨m',hm,i+1,σ7,H7,I7.unpinned,T.keep _ _ _ st5 λ b hb o e=>(I7.pin (b,o) (za _ (za _ (cV hb e)))).1,λ b hb=>?_,w7⟩;obtain⟨o,e,d⟩:=T.obj _ _ st5 b hb;exact(I7.pin (b,o) (za _ (za _ (cV hb e)))).2.1
  cases f with
  | next=>obtain⟨σ7,H7,I7,n7⟩:=q7;exact again I7 n7
  | cont=>obtain⟨σ7,H7,I7,n7⟩:=q7;exact again I7 n7
  | brk=>obtain⟨σ7,H7,I7,q7⟩:=q7;exact⟨σ7,H7,I7.unpinned,q7⟩
  | ret v=>obtain⟨x7,σ7,H7,I7,r7,q7⟩:=q7;exact⟨x7,σ7,H7,I7.unpinned,r7,q7⟩
end
theorem k9 {K:Cd}{a:Addr}{xs:List V}{g:TG}{tb:TS}{D:Ends}{σ:St}{H:Hp}(Pv:Nat->St->Hp->Prop)(h0:Pv 0 σ H)(hl:∀ i σ H,i<=xs.length->Pv i σ H->SqL K H a xs)
  (hs:∀ i x σ H,xs[i]?=some x->Pv i σ H->g x σ H λ σ2 H2=>tb { D with nx:=Pv (i+1),ct:=Pv (i+1),bk:=D.nx } σ2 H2) (hd:∀ σ H,Pv xs.length σ H->D.nx σ H):
  ∃ W:Nat->Nat->St->Hp->Prop,(∃ m,W 0 m σ H)/\∀ i m σ H,W i m σ H ->
   ((Itl K a).stop i H/\D.nx σ H)\/((Itl K a).go i H/\∃ N:St->Hp->Prop,(∀ σ' H',N σ' H'->∃ m',m'<m/\W (i+1) m' σ' H')/\∀ x H',(Itl K a).yld i H x H'->g x σ H' λ σ2 H2=>tb { D with nx:=N,ct:=N,bk:=D.nx } σ2 H2):=by
 refine⟨λ i m σ H=>m=xs.length-i/\i<=xs.length/\Pv i σ H,⟨xs.length,by simp,zI _,h0⟩,?_⟩
 rintro i m σ H ⟨rfl,hi,p⟩
 have q:=hl i σ H hi p;by_cases hlt:i<xs.length
 ·refine .inr ⟨⟨xs,xs[i],q,by simp[hlt]⟩,Pv (i+1),λ σ' H' p'=>⟨xs.length-(i+1),⋯,rfl,hlt,p'⟩,λ x H' y=>?_⟩
  obtain⟨e,y⟩:=y;subst e;exact hs i x σ _ (y xs q) p
 ·have e:i=xs.length:=⋯
  subst e;exact .inl ⟨⟨xs,q,yW _⟩,hd σ H p⟩
abbrev R2:=V->V->Hp->VK->Prop
def OpR (X:Cx)(f:Value->Value->Sem Value)(r:R2):Prop:=
 ∀ (pins:List (Addr×Obj)) (s:Shared) (σ:St) (H:Hp) (x y:V) (v u:Value) (Q:VK),Inv X pins σ H s->RelV x v->RelV y u->r x y H Q ->
  wpAny (model X.prog X.w) X.A (f v u) (EP X pins σ Q) X.xe s
def UnR (X:Cx)(f:Value->Sem Value)(r:V->Hp->VK->Prop):Prop:=
 ∀ (pins:List (Addr×Obj)) (s:Shared) (σ:St) (H:Hp) (x:V) (v:Value) (Q:VK),Inv X pins σ H s->RelV x v->r x H Q ->
  wpAny (model X.prog X.w) X.A (f v) (EP X pins σ Q) X.xe s
def cM (X:Cx)(f:Value)(r:List V->Hp->VK->Prop):Prop:=
 ∀ (pins:List (Addr×Obj)) (s:Shared) (σ:St) (H:Hp) (xs:List V) (us:List Value) (Q:VK),Inv X pins σ H s->Vals xs us->r xs H Q ->
  wpAny (model X.prog X.w) X.A (call f us) (EP X pins σ Q) X.xe s
def tOp (r:R2)(ta tb:TE):TE:=λ σ H Q=>ta σ H λ x H1=>tb σ H1 λ y H2=>r x y H2 Q
def tUn (r:V->Hp->VK->Prop)(ta:TE):TE:=λ σ H Q=>ta σ H λ x H1=>r x H1 Q
def rI (C:Int->Int->Prop)(g:Int->Int->V):R2:=λ x y H Q=>∃ i j,x=.int i/\y=.int j/\C i j/\Q (g i j) H
def rI0 (g:Int->Int->V):R2:=λ x y H Q=>∃ i j,x=.int i/\y=.int j/\Q (g i j) H
def rU (g:Int->V):V->Hp->VK->Prop:=λ x H Q=>∃ i,x=.int i/\Q (g i) H
section
variable {X:Cx}{a b c:Expr}{ta tb tc:TE}{pos:Pos}
theorem vN (ha:PE X a ta)(hb:PE X b tb){pins:List (Addr×Obj)}{s:Shared}{σ:St}{H:Hp}{R:V->V->Hp->Prop}(I:Inv X pins σ H s)
  (h:ta σ H λ x H1=>tb σ H1 λ y H2=>R x y H2) {Q:Value->Shared->Prop} {f:Value->Value->Sem Value}
  (hf:∀ v u s2 x y H2,Inv X pins σ H2 s2->RelV x v->RelV y u->R x y H2->wpAny (model X.prog X.w) X.A (f v u) Q X.xe s2):
  wpAny (model X.prog X.w) X.A (eval a X.env) (λ v s₁=>wpAny (model X.prog X.w) X.A (eval b X.env) (λ u s₂=>wpAny (model X.prog X.w) X.A (f v u) Q X.xe s₂) X.xe s₁) X.xe s:=by
 refine thn (ha pins s σ H _ I h) λ v s1 ⟨x,H1,I1,r1,q1⟩=>?_
 refine thn (hb pins s1 σ H1 _ I1 q1) λ u s2 ⟨y,H2,I2,r2,q2⟩=>?_
 exact hf v u s2 x y H2 I2 r1 r2 q2
theorem uQ {op:Operator}{r:R2}(ho:OpR X (binaryOp op) r)(ha:PE X a ta)(hb:PE X b tb):PE X (.BinOp a op b pos) (tOp r ta tb):=by
 intro pins s σ H Q I h;exact wpAny_BinOp (vN ha hb I h λ v u s2 x y H2 I2 rx ry q=>ho pins s2 σ H2 x y v u Q I2 rx ry q)
theorem xK {op:UnaryOp}{r:V->Hp->VK->Prop}(ho:UnR X (unaryOp op) r)(ha:PE X a ta):PE X (.UnaryOp op a pos) (tUn r ta):=by
 intro pins s σ H Q I h;exact UnaryOp_ (thn (ha pins s σ H _ I h) λ v s1 ⟨x,H1,I1,r1,q1⟩=>ho pins s1 σ H1 x v Q I1 r1 q1)
theorem opI {f:Value->Value->Sem Value}{C:Int->Int->Prop}{g:Int->Int->Int}
  (rule:∀ (i j:Int) (t u:Tok) (s:Shared) (Q:Value->Shared->Prop) (E:Value->Shared->Prop),C i j->Q (.int (g i j) s.toks) { s with toks:=s.toks+1 }->wpAny (model X.prog X.w) X.A (f (.int i t) (.int j u)) Q E s):
  OpR X f (rI C λ i j=>.int (g i j)):=by
 intro pins s σ H x y v u Q I rx ry h;obtain⟨i,j,rfl,rfl,hc,q⟩:=h;obtain⟨t,rfl⟩:=rx;obtain⟨t',rfl⟩:=ry;exact rule i j t t' s _ _ hc ⟨.int (g i j),H,I.tok _,⟨_,rfl⟩,q⟩
theorem xo {f:Value->Value->Sem Value}{g:Int->Int->Int}
  (rule:∀ (i j:Int) (t u:Tok) (s:Shared) (Q:Value->Shared->Prop) (E:Value->Shared->Prop),Q (.int (g i j) s.toks) { s with toks:=s.toks+1 }->wpAny (model X.prog X.w) X.A (f (.int i t) (.int j u)) Q E s):
  OpR X f (rI0 λ i j=>.int (g i j)):=by
 intro pins s σ H x y v u Q I rx ry h;obtain⟨i,j,rfl,rfl,q⟩:=h;obtain⟨t,rfl⟩:=rx;obtain⟨t',rfl⟩:=ry;exact rule i j t t' s _ _ ⟨.int (g i j),H,I.tok _,⟨_,rfl⟩,q⟩
theorem tF {f:Value->Value->Sem Value}{g:Int->Int->Bool}
  (rule:∀ (i j:Int) (t u:Tok) (s:Shared) (Q:Value->Shared->Prop) (E:Value->Shared->Prop),Q (.bool (g i j)) s->wpAny (model X.prog X.w) X.A (f (.int i t) (.int j u)) Q E s):
  OpR X f (rI0 λ i j=>.bl (g i j)):=by
 intro pins s σ H x y v u Q I rx ry h;obtain⟨i,j,rfl,rfl,q⟩:=h;obtain⟨t,rfl⟩:=rx;obtain⟨t',rfl⟩:=ry;exact rule i j t t' s _ _ ⟨.bl (g i j),H,I,rfl,q⟩
def yv (i j:Int):Prop:=0<=j/\j<=1000000/\i.natAbs<2 ^ 64
def CMul (i j:Int):Prop:=(-(2 ^ 64)<i/\i<2 ^ 64)\/(-(2 ^ 64)<j/\j<2 ^ 64)
theorem CMul.ok {i j:Int}(h:CMul i j):IntMulOk i j:=by
 rcases h with ⟨h1,h2⟩|⟨h1,h2⟩
 ·exact .of_left (intBits_le_64 h1 h2)
 ·exact .of_right (intBits_le_64 h1 h2)
theorem r8:OpR X (binaryOp .Add) (rI0 λ i j=>.int (i+j)):=xo λ _ _ _ _ _ _ _ q=>add_int q
theorem vj:OpR X (binaryOp .Sub) (rI0 λ i j=>.int (i-j)):=xo λ _ _ _ _ _ _ _ q=>sub_int q
theorem vQ:OpR X (binaryOp .Mod) (rI (λ _ j=>0<j) λ i j=>.int (i%j)):=opI λ i j _ _ _ _ _ hc q=>by
 have h1:(0:Int)<j:=hc;exact mod_int' ⋯ (by rw[Int.fmod_eq_emod_of_nonneg i ⋯];exact q)
theorem v8:OpR X (binaryOp .Pow) (rI yv λ i j=>.int (i ^ j.toNat)):=opI λ _ _ _ _ _ _ _ hc q=>pow_int_small hc.1 hc.2.1 hc.2.2 q
theorem unI {f:Value->Sem Value}{g:Int->Int}
  (rule:∀ (i:Int) (t:Tok) (s:Shared) (Q:Value->Shared->Prop) (E:Value->Shared->Prop),Q (.int (g i) s.toks) { s with toks:=s.toks+1 }->wpAny (model X.prog X.w) X.A (f (.int i t)) Q E s):
  UnR X f (rU λ i=>.int (g i)):=by
 intro pins s σ H x v Q I rx h;obtain⟨i,rfl,q⟩:=h;obtain⟨t,rfl⟩:=rx;exact rule i t s _ _ ⟨.int (g i),H,I.tok _,⟨_,rfl⟩,q⟩
theorem vg:UnR X (unaryOp .USub) (rU λ i=>.int (-i)):=unI λ _ _ _ _ _ q=>neg_int q
end
def scal:V->V->Bool
 | .non,.non=>true | .non,.int _=>true | .int _,.non=>true | .non,.bl _=>true | .bl _,.non=>true | .non,.str _=>true | .str _,.non=>true
 | .int _,.int _=>true | .bl _,.bl _=>true | .str _,.str _=>true | .byt _,.byt _=>true
 | .int _,.str _=>true | .str _,.int _=>true | .bl _,.str _=>true | .str _,.bl _=>true
 | _,_=>false
def rEq:R2:=λ x y H Q=>scal x y=true/\Q (.bl (decide (x=y))) H
theorem t7 {i j:Int}:decide (V.int i=V.int j)=(i == j):=by
 rw[zm];simp
theorem wo {i j:Bool}:decide (V.bl i=V.bl j)=(i == j):=by
 rw[zm];simp
theorem sR {i j:Str}:decide (V.str i=V.str j)=(i == j):=by
 rw[zm];simp
theorem tG {i j:Array UInt8}:decide (V.byt i=V.byt j)=(i.toList == j.toList):=by
 rw[zm];cases i;cases j;simp
section
variable {X:Cx}{a b c:Expr}{ta tb tc:TE}{pos:Pos}
theorem bz {pins:List (Addr×Obj)}{σ:St}{H:Hp}{s:Shared}{Q:VK}{k k':Bool}(I:Inv X pins σ H s)(q:Q (.bl k) H)(e:k=k'):EP X pins σ Q (.bool k') s:=by
 subst e;exact⟨.bl k,H,I,rfl,q⟩
theorem uL:OpR X (compareOp .Eq) rEq:=by
 intro pins s σ H x y v u Q I rx ry h;obtain⟨hs,q⟩:=h;cases x with
 | non=>
  cases rx;cases y with
  | non=>cases ry;exact PySem.EqNone.eq_none_none (bz I q (by simp))
  | bl j=>cases ry;exact PySem.EqNone.eq_none_bool (bz I q (by simp))
  | int j=>obtain⟨t',rfl⟩:=ry;exact PySem.EqNone.eq_none_int (bz I q (by simp))
  | str j=>obtain⟨t',rfl⟩:=ry;exact PySem.EqNone.eq_none_str (bz I q (by simp))
  | _=>exact absurd (show false=true from hs) zf
 | bl i=>
  cases rx;cases y with
  | non=>cases ry;exact PySem.EqNone.eq_bool_none (bz I q (by simp))
  | bl j=>cases ry;exact eq_bool (bz I q wo)
  | str j=>obtain⟨t',rfl⟩:=ry;exact PySem.EqMixed.eq_bool_str (bz I q (by simp))
  | _=>exact absurd (show false=true from hs) zf
 | int i=>
  obtain⟨t,rfl⟩:=rx;cases y with
  | non=>cases ry;exact PySem.EqNone.eq_int_none (bz I q (by simp))
  | int j=>obtain⟨t',rfl⟩:=ry;exact eq_int (bz I q t7)
  | str j=>obtain⟨t',rfl⟩:=ry;exact PySem.EqMixed.eq_int_str (bz I q (by simp))
  | _=>exact absurd (show false=true from hs) zf
 | str i=>
  obtain⟨t,rfl⟩:=rx;cases y with
  | non=>cases ry;exact PySem.EqNone.eq_str_none (bz I q (by simp))
  | bl j=>cases ry;exact PySem.EqMixed.eq_str_bool (bz I q (by simp))
  | int j=>obtain⟨t',rfl⟩:=ry;exact PySem.EqMixed.eq_str_int (bz I q (by simp))
  | str j=>obtain⟨t',rfl⟩:=ry;exact eq_str (bz I q sR)
  | _=>exact absurd (show false=true from hs) zf
 | byt i=>
  obtain⟨t,rfl⟩:=rx;cases y with
  | byt j=>obtain⟨t',rfl⟩:=ry;exact PySem.W.eq_bytes (bz I q tG)
  | _=>exact absurd (show false=true from hs) zf
 | _=>cases y <;>exact absurd (show false=true from hs) zf
theorem wZ:OpR X (compareOp .Lt) (rI0 λ i j=>.bl (decide (i<j))):=tF λ _ _ _ _ _ _ _ q=>lt_int q
theorem xn:OpR X (compareOp .LtE) (rI0 λ i j=>.bl (decide (i<=j))):=tF λ _ _ _ _ _ _ _ q=>le_int q
theorem xQ:OpR X (compareOp .Gt) (rI0 λ i j=>.bl (decide (j<i))):=tF λ _ _ _ _ _ _ _ q=>gt_int q
theorem w5:OpR X (compareOp .GtE) (rI0 λ i j=>.bl (decide (j<=i))):=tF λ _ _ _ _ _ _ _ q=>ge_int q
theorem OpR.or {f:Value->Value->Sem Value}{r r':R2}(h:OpR X f r)(h':OpR X f r'):OpR X f (λ x y H Q=>r x y H Q\/r' x y H Q):=by
 intro pins s σ H x y v u Q I rx ry q
 rcases q with q|q
 ·exact h pins s σ H x y v u Q I rx ry q
 ·exact h' pins s σ H x y v u Q I rx ry q
theorem nomark (b:Expr){op:CmpOp}(h:autoParam (op≠.In) ZC._auto_1)(h2:autoParam (op≠.NotIn) ZC._auto_1):behindInMarks op b=false:=by
 have e1:(op == CmpOp.In)=false:=by cases op <;>first|rfl|exact absurd rfl h
 have e2:(op == CmpOp.NotIn)=false:=by cases op <;>first|rfl|exact absurd rfl h2
 cases b <;>simp[behindInMarks,e1,e2]
theorem ka {op:CmpOp}{r:R2}(ho:OpR X (compareOp op) r)(ha:PE X a ta)(hb:PE X b tb)(hm:behindInMarks op b=false):PE X (.Compare a [op] [b] pos) (tOp r ta tb):=by
 intro pins s σ H Q I h;exact wpAny_Compare1 (vN ha hb I h λ v u s2 x y H2 I2 rx ry q=>ho pins s2 σ H2 x y v u Q I2 rx ry q) hm
def xE (t:TE):TT:=λ σ H Q=>t σ H λ x H'=>∃ k,x=.bl k/\Q k H'
theorem tO {op:CmpOp}{r:R2}(ho:OpR X (compareOp op) r)(ha:PE X a ta)(hb:PE X b tb)(hm:behindInMarks op b=false):PT X (.Compare a [op] [b] pos) (xE (tOp r ta tb)):=by
 intro pins s σ H Q I h;refine wpAny_isTrue_Compare1 (thn (ha pins s σ H _ I h) λ v s1 ⟨x,H1,I1,r1,q1⟩=>thn (hb pins s1 σ H1 _ I1 q1) λ u s2 ⟨y,H2,I2,r2,q2⟩=>
  thn (ho pins s2 σ H2 x y v u _ I2 r1 r2 q2) λ c s3 ⟨z,H3,I3,r3,k,e,q3⟩=>?_) hm
 subst e;cases r3;exact Dp ⟨H3,I3,q3⟩
theorem gD:(sizeLine:Nat)<2 ^ 63:=by rw[CF];decide
theorem vals1 {x:V}{us:List Value}(r:Vals [x] us):∃ u,us=[u]/\RelV x u:=by
 cases r with
 | cons r1 r2=>cases r2;exact⟨_,rfl,r1⟩
theorem vals2 {x y:V}{us:List Value}(r:Vals [x,y] us):∃ u w',us=[u,w']/\RelV x u/\RelV y w':=by
 cases r with
 | cons r1 r2=>
  cases r2 with
  | cons r3 r4=>cases r4;exact⟨_,_,rfl,r1,r3⟩
theorem pw:cM X (.type "int") (λ xs H Q=>(∃ i,xs=[.int i]/\Q (.int i) H)\/∃ k,xs=[.bl k]/\Q (.int (if k then 1 else 0)) H):=by
 intro pins s σ H xs us Q I r h
 rcases h with ⟨i,rfl,q⟩|⟨k,rfl,q⟩
 ·obtain⟨u,rfl,t,rfl⟩:=vals1 r
  exact call_int_int ⟨.int i,H,I,⟨_,rfl⟩,q⟩
 ·obtain⟨u,rfl,r1⟩:=vals1 r
  cases r1;exact call_int_bool ⟨.int (if k then 1 else 0),H,I.tok _,⟨_,rfl⟩,q⟩
end
structure Cls (K:Cd)(C:Addr):Prop where
 pg:Fx K C Str.empty=true
 hd:PySem.W.hasDictIn K C=true
 po:PySem.W.plainOver K C=true
 sa:Dr K (.ref C) "__setattr__"=some (some (.builtin "object.__setattr__"))
theorem Cls.get {K:Cd}{C:Addr}(c:Cls K C)(f:Str):Fx K C f=true:=c.pg
def vS (K:Cd)(C:Addr)(f:Str):Prop:=Dr K (.ref C) f=some none
structure Room (k:Nat)(A:Around):Prop where
 hd:A.handled=none
 dp:A.depth+3*k+5<recursionLimit
 un:A.units+16*k+200<cLine
theorem Room.mono {j k:Nat}{A:Around}(r:Room k A)(h:j<=k):Room j A:=⟨r.hd,by have:=r.dp;omega,by have:=r.un;omega⟩
theorem Room.deeper {k:Nat}{A:Around}(r:Room (k+1) A)(env:Env):Room k (A.deeper env):=
 ⟨r.hd,by have:=r.dp;show A.depth+1+3*k+5<_;omega,by have:=r.un;show A.units+3+16*k+200<_;omega⟩
theorem Room.depth {k:Nat}{A:Around}(r:Room k A):A.depth<recursionLimit:=by have:=r.dp;omega
theorem Room.units {k:Nat}{A:Around}(r:Room k A):A.units+64<cLine:=by have:=r.un;omega
def wc:TA:=λ _ H Q=>Q [] H
def qX (ta:TE)(tr:TA):TA:=λ σ H Q=>ta σ H λ x H1=>tr σ H1 λ xs H2=>Q (x::xs) H2
section
variable {X:Cx}{e:Expr}{es:List Expr}{te:TE}{t:TA}{pos:Pos}
theorem bC:PA X [] wc:=λ _ _ _ _ H Q I h=>CP ⟨[],H,I,.nil,h⟩
theorem aN (ha:PE X e te)(hr:PA X es t)(hs:autoParam (starEach (e::es) X.env=(false,eval e X.env)::starEach es X.env) ZE._auto_1):PA X (e::es) (qX te t):=by
 intro pos pins s σ H Q I h;rw[hs];show wpAny _ _ (spliced ((false,eval e X.env)::backTo pos (starEach es X.env))) _ _ s
 refine CD (thn (ha pins s σ H _ I h) λ u s1 ⟨x,H1,I1,r1,q1⟩=>?_);exact thn (hr pos pins s1 σ H1 _ I1 q1) λ us s2 ⟨xs,H2,I2,r2,q2⟩=>⟨x::xs,H2,I2,.cons r1 r2,q2⟩
def yi (t:TA):TE:=λ σ H Q=>t σ H λ xs H1=>xs.length<=sizeLine/\∀ p,H1 p=none->Q (.ref p) (upd H1 p (.tup xs))
def yo (t:TA):TE:=λ σ H Q=>t σ H λ xs H1=>xs.length<=sizeLine/\∀ p,H1 p=none->Q (.ref p) (upd H1 p (.lst xs))
theorem wF {x1}(h:PA X es t):PE X (.Tuple es x1 pos) (yi t):=by
 intro pins s σ H Q I hq;refine wpAny_Tuple_spliced (thn (h pos pins s σ H _ I hq) λ us s1 ⟨xs,H1,I1,r,z,q⟩=>⟨by rw[<- r.length];exact z,?_⟩);have hf:H1 s1.heap.objs.size=none:=I1.hok.fresh (yW _);refine⟨.ref s1.heap.objs.size,upd H1 s1.heap.objs.size (.tup xs),I1.laid (t':=s1.toks) (λ b u e=>Cf _ e) (yW _) ?_,rfl,q _ hf⟩;exact⟨z,us,r,⟨_,Ci _ rfl,rfl,_,rfl⟩⟩
theorem vd (h:PA X es t):PE X (.List es pos) (yo t):=by
 intro pins s σ H Q I hq;refine wpAny_List_spliced (thn (h pos pins s σ H _ I hq) λ us s1 ⟨xs,H1,I1,r,z,q⟩=>⟨by rw[<- r.length];exact z,?_⟩);have hf:H1 s1.heap.objs.size=none:=I1.hok.fresh (yW _);refine⟨.ref s1.heap.objs.size,upd H1 s1.heap.objs.size (.lst xs),I1.laid (t':=s1.toks) (λ b u e=>Cf _ e) (yW _) ?_,rfl,q _ hf⟩;exact⟨z,us,0,r,Ci _ rfl⟩
end
abbrev Sp:=List V->Hp->VK->XK->Prop
abbrev CXT:=List Env->Hp->Shared->XK->Value->Shared->Prop
structure Env0 (P:Program)(w:World)(K:Cd)(mg:Str->Option Value)(base:Heap)(A:Around)(outer:List Env)(s:Shared)(H:Hp):Prop where
 frames:A.frames=some outer
 mod:Mod K mg base
 bs:∀ b o,base.get? b=some o->s.heap.get? b=some o/\H b=none
 bsz:base.objs.size<=s.heap.objs.size
 funs:s.heap.FunFrames base outer
 frf:∀ b∈frs outer,H b=none
 hok:HOk P w H s.heap
 bare:AllBare s.gens
def CE (outer:List Env)(P:Program)(w:World)(H:Hp)(s:Shared)(Q:VK)(u:Value)(s':Shared):Prop:=
 ∃ v H',s'.os=s.os/\AllBare s'.gens/\Un (frs outer) [] H H' s.heap s'.heap/\HOk P w H' s'.heap/\RelV v u/\Q v H'
def CR (CX:CXT)(outer:List Env)(P:Program)(w:World)(H:Hp)(s:Shared)(Q:VK)(E:XK)(r:Result)(s':Shared):Prop:=
 match r with
 | .ok (.ret u)=>CE outer P w H s Q u s'
 | .ok _=>False
 | .error e=>CX outer H s E e s'
structure FnOk (P:Program)(w:World)(K:Cd)(mg:Str->Option Value)(base:Heap)(CX:CXT)(k:Nat)(f:Addr)(fd:FuncData)(ps:List Str)(sp:Sp):Prop where
 len:∀ vs H Q E,sp vs H Q E->vs.length=ps.length
 run:∀ (A:Around) (outer:List Env) (s:Shared) (H:Hp) (args:Args) (us:List Value) (vs:List V) (Q:VK) (E:XK),Room k A->Env0 P w K mg base A outer s H->BindsTo s fd args (ps.zip us)->Vals vs us->sp vs H Q E ->
  codeAny (model P w) A (.call (.ref f) args) (CR CX outer P w H s Q E) s
theorem FnOk.mono {P:Program}{w:World}{K:Cd}{mg:Str->Option Value}{base:Heap}{CX:CXT}{j k:Nat}{f:Addr}{fd:FuncData}{ps:List Str}{sp:Sp}(F:FnOk P w K mg base CX j f fd ps sp)(h:j<=k):
  FnOk P w K mg base CX k f fd ps sp:=⟨F.len,λ A outer s H args us vs Q E hr=>F.run A outer s H args us vs Q E (hr.mono h)⟩
section
variable {X:Cx}{pins:List (Addr×Obj)}{σ:St}{H:Hp}{s s':Shared}
theorem Inv.env0 (I:Inv X pins σ H s):Env0 X.prog X.w X.K X.mg X.base X.A X.stack s H:=
 ⟨I.ok.frames,I.ok.mod,I.bs,zr I.ok.bsz I.sz,I.stack,I.stkFree,I.hok,I.bare⟩
theorem Inv.after {Q:VK}{u:Value}(I:Inv X pins σ H s)(h:CE X.stack X.prog X.w H s Q u s'):EP X pins σ Q u s':=by
 obtain⟨v,H',os,bare,un,hok,r,q⟩:=h;obtain⟨hh,g,d,t,os'⟩:=s';obtain rfl:os'=s.os:=os;exact⟨v,H',I.call (h':=hh) (g':=g) (d':=d) (t':=t) (ch:=[]) un hok bare (λ b z=>absurd z (by simp)),r,q⟩
end
def Binds (K:Cd)(fd:FuncData)(ps:List Str)(ds:List Value):Prop:=
 ∀ (s:Shared) (us:List Value),K.In s.heap->(us++ds).length=ps.length->BindsTo s fd ⟨us,[]⟩ (ps.zip (us++ds))
theorem Binds.all {K:Cd}{fd:FuncData}{ps:List Str}(h:∀ us:List Value,us.length=ps.length->bindArgs fd ⟨us,[]⟩=pure (ps.zip us)):Binds K fd ps []:=λ s us _ hl=>by
 rw[Al] at hl ⊢;exact .of_eq (h us hl)
structure FnScope (N P:List Str)(sc:Scope):Prop where
 kind:sc.kind=.function
 co:sc.isCoroutine=false
 gen:sc.isGenerator=false
 nd:N.Nodup
 pre:N.take P.length=P
 par:∀ x∈P,sc.names.lookup x=some .local\/sc.names.lookup x=some .cell
 nofree:∀ y∈sc.names,y.2≠.free
theorem iL {kindOf:Str->Option NameKind}{x:Str}:∀ {binds:List (Str×Value)} {m:Str->Option Value},(∀ v,(x,v)∉binds)->bindL kindOf binds m x=m x
 | [],_,_=>rfl
 | (n,v)::r,m,h=>by
  unfold bindL;rw[iL λ w hw=>h w (yF _ hw)]
  split
  ·have:x≠n:=by rintro rfl;exact h v yG
   simp[this]
  ·rfl
theorem iK {kindOf:Str->Option NameKind}{x:Str}:∀ {binds:List (Str×Value)} {m:Str->Option Value},(∀ v,(x,v)∉binds)->bindC kindOf binds m x=m x
 | [],_,_=>rfl
 | (n,v)::r,m,h=>by
  unfold bindC;rw[iK λ w hw=>h w (yF _ hw)]
  split
  ·rfl
  ·have:x≠n:=by rintro rfl;exact h v yG
   simp[this]
theorem iW {kindOf:Str->Option NameKind}{x:Str}{v:Value}:∀ {P:List Str} {vs:List Value} {i:Nat} {m:Str->Option Value},P.Nodup->P[i]?=some x->vs[i]?=some v->kindOf x=some .local ->
  bindL kindOf (P.zip vs) m x=some v
 | [],_,_,_,_,h,_,_=>by simp at h
 | _::_,[],_,_,_,_,h,_=>by simp at h
 | p::P,w::vs,0,m,nd,h1,h2,hk=>by
  simp at h1 h2;subst h1;subst h2;show bindL kindOf ((p,w)::P.zip vs) m p=_
  unfold bindL;rw[iL λ v hv=>(List.nodup_cons.mp nd).1 (A6 hv).1,if_pos hk];simp
 | p::P,w::vs,i+1,m,nd,h1,h2,hk=>by
  show bindL kindOf ((p,w)::P.zip vs) m x=_
  unfold bindL;exact iW (i:=i) (List.nodup_cons.mp nd).2 (by simpa using h1) (by simpa using h2) hk
theorem je {kindOf:Str->Option NameKind}{x:Str}{v:Value}:∀ {P:List Str} {vs:List Value} {i:Nat} {m:Str->Option Value},P.Nodup->P[i]?=some x->vs[i]?=some v->kindOf x≠some .local ->
  bindC kindOf (P.zip vs) m x=some v
 | [],_,_,_,_,h,_,_=>by simp at h
 | _::_,[],_,_,_,_,h,_=>by simp at h
 | p::P,w::vs,0,m,nd,h1,h2,hk=>by
  simp at h1 h2;subst h1;subst h2;show bindC kindOf ((p,w)::P.zip vs) m p=_
  unfold bindC;rw[iK λ v hv=>(List.nodup_cons.mp nd).1 (A6 hv).1,if_neg hk];simp
 | p::P,w::vs,i+1,m,nd,h1,h2,hk=>by
  show bindC kindOf ((p,w)::P.zip vs) m x=_
  unfold bindC;exact je (i:=i) (List.nodup_cons.mp nd).2 (by simpa using h1) (by simpa using h2) hk
def start (N:List Str)(vs:List V):St:=vs.map some++List.replicate (N.length-vs.length) none
def cx (CX:CXT)(P:Program)(w:World)(K:Cd)(mg:Str->Option Value)(base:Heap)(N:List Str)(qual:Str)(scope:Scope)(f:Addr)(cd:Value)(A:Around)(outer:List Env)(s:Shared)(H:Hp)(E:XK):Cx where
 prog:=P
 w:=w
 K:=K
 mg:=mg
 base:=base
 A:=A.deeper (envOfC qual scope s.heap.objs.size f cd)
 N:=N
 s₀:=s
 H₀:=H
 env:=envOfC qual scope s.heap.objs.size f cd
 outer:=outer
 stack:=envOfC qual scope s.heap.objs.size f cd::outer
 ex:=[]
 calm:=true
 fn:=λ _=>true
 pn:=[]
 xe:=λ e s'=>wpAny (model P w) (A.deeper (envOfC qual scope s.heap.objs.size f cd)) (leaving (envOfC qual scope s.heap.objs.size f cd) e) (λ _ s''=>CX outer H s E e s'') (λ e' s''=>CX outer H s E e' s'') s'
theorem kS {sc:Scope}{n:Nat}{x:Str}(h:sc.names.lookup x=some .cell):∃ c,(cellsFrom n sc.names []).lookup x=some c:=by
 have q:=EH sc.names n [] (.inl h);exact Option.isSome_iff_exists.mp q
theorem oB {CX:CXT}{P:Program}{w:World}{K:Cd}{mg:Str->Option Value}{base:Heap}{N ps:List Str}{qual:Str}{scope:Scope}{f:Addr}{cd:Value}{A:Around}{outer:List Env}{s s1:Shared}{H:Hp}{E:XK}{us:List Value}{vs:List V}
  (S:FnScope N ps scope) (hd:A.handled=none) (e0:Env0 P w K mg base A outer s H) (hl:vs.length=ps.length) (r:Vals vs us)
  (x:InCallC s s.heap.objs.size (bindL (envOfC qual scope s.heap.objs.size f cd).kindOf (ps.zip us) λ _=>none) (cellsFrom (s.heap.objs.size+1) scope.names []) (bindC (envOfC qual scope s.heap.objs.size f cd).kindOf (ps.zip us) λ _=>none) s1):
  Inv (cx CX P w K mg base N qual scope f cd A outer s H E) [] (start N vs) H s1:=by
 have hpl:ps.length<=N.length:=by have:=congrArg List.length S.pre;rw[zo] at this;omega
 obtain⟨h1,tk,rfl,hk⟩:=x.done;have noA:∀ b:Addr,b∉(cx CX P w K mg base N qual scope f cd A outer s H E).ex:=λ b z=>absurd (show b∈([]:List Addr) from z) (by simp)
 refine⟨⟨e0.mod,S.kind,rfl,rfl,yW _,λ y z c h1 h2=>?_,λ y hy=>?_,λ y c _ h=>?_,λ _=>hd,Around.frames_deeper e0.frames,.inr ⟨rfl,rfl⟩,λ b z=>absurd z (noA b),e0.bs,e0.bsz,λ b _ _=>noA b,λ b z=>absurd z (noA b),e0.funs,e0.frf⟩,
  rfl,e0.bare,Un.kept hk,⟨_,x.toInCall.ns,λ i y v h1 h2 h3=>?_⟩,λ y c h=>⟨_,x.cell y c h⟩,e0.hok.fresh (yW _),λ y c h=>?_,λ p hp=>absurd (show p∈([]:List (Addr×Obj)) from hp) (by simp),e0.hok.kept hk,?_⟩
 ·exact name_of_addr x.apart (Dh h1) (Dh h2)
 ·have hy:scope.names.lookup y=some .cell\/scope.names.lookup y=some .free:=hy
  rcases hy with hy|hy
  ·exact kS hy
  ·exact absurd rfl (S.nofree _ (Dh hy))
 ·exact Ag (x.above y c (Dh h))
 ·have hi:i<vs.length:=by
   unfold start at h2;by_cases hi:i<vs.length
   ·exact hi
   ·rw[zp (by simpa using hi)] at h2
    rw[Aa] at h2
    split at h2 <;>cases h2
  have ha:vs[i]?=some v:=by
   unfold start at h2;rw[zl (by simpa using hi),ze] at h2;cases e:vs[i]? with
   | none=>rw[e] at h2;cases h2
   | some a=>rw[e] at h2;cases h2;rfl
  obtain⟨u,hu,rv⟩:=r.get ha;have hp:ps[i]?=some y:=by
   rw[<- S.pre,List.getElem?_take_of_lt ⋯];exact h1
  have ndP:ps.Nodup:=by rw[<- S.pre];exact S.nd.sublist (BG _ _)
  refine⟨u,rv,?_⟩
  rcases S.par y (zX hp) with k|k
  ·exact .inl ⟨k,iW ndP hp hu k⟩
  ·obtain⟨c,e⟩:=kS (n:=s.heap.objs.size+1) k
   refine .inr ⟨.inl k,c,e,?_⟩;have q:=x.cell y c e;rw[je ndP hp hu (by show scope.names.lookup y≠_;rw[k];decide)] at q;exact q
 ·exact e0.hok.fresh (Ag (x.above y c (Dh h)))
 ·unfold start
  show _=N.length
  rw[yY,yC,zU];omega
theorem uX {CX:CXT}{P:Program}{w:World}{K:Cd}{mg:Str->Option Value}{base:Heap}{k:Nat}{f:Addr}{name qual:Str}{params:Arguments}{body:List Stmt}{scope:Scope}{dV kV doc pm cdv ct oc:Value}{an od:Option Addr}
  {osl:Array (Option Value)} {N ps:List Str} {sp:Sp} (lk:K.lookup f=some ⟨oc,od,.func (CK name qual params body scope dV kV doc pm an cdv ct),osl⟩) (hcd:Dd K cdv qual=true) (S:FnScope N ps scope)
  (len:∀ vs H Q E,sp vs H Q E->vs.length=ps.length)
  (hbody:∀ (A:Around) (outer:List Env) (s:Shared) (H:Hp) (vs:List V) (Q:VK) (E:XK),Room k (A.deeper (envOfC qual scope s.heap.objs.size f cdv))->sp vs H Q E ->
   ∃ t,PSs (cx CX P w K mg base N qual scope f cdv A outer s H E) body t/\t { nx:=λ _ H'=>Q .non H',rt:=Q } (start N vs) H):
  FnOk P w K mg base CX (k+1) f (CK name qual params body scope dV kV doc pm an cdv ct) ps sp:=by
 refine⟨len,λ A outer s H args us vs Q E hr e0 hb r hsp=>?_⟩;have hl:=len _ _ _ _ hsp;have KX:K.In s.heap:=e0.mod.kin.keeps λ b o e=>(e0.bs b o e).1
 have lim:s.heap.NoLimit:=e0.mod.nolimit.keeps λ b o e=>(e0.bs b o e).1
 have hkind:∀ y∈ps.zip us,scope.names.lookup y.1=some .local\/(scope.names.lookup y.1=some .cell/\((cellsFrom (s.heap.objs.size+1) scope.names []).lookup y.1).isSome=true):=λ⟨n,v⟩ hy=>by
  rcases S.par n (A6 hy).1 with q|q
  ·exact .inl q
  ·exact .inr ⟨q,EH _ _ _ (.inl q)⟩
 refine codeAny_call_function hr.depth (KX _ _ lk) rfl S.co S.gen rfl (PySem.W.codeRec_of KX hcd) (hb _ _ _ _ ?_);refine wpAny_newFunctionEnv_cells S.kind hkind λ env he s1 x=>?_
 subst he;refine⟨lim.keeps x.toInCall.keep,codeAny_func ?_⟩;obtain⟨t,ht,hq⟩:=hbody A outer s H vs Q E (hr.deeper _) hsp;have I:Inv (cx CX P w K mg base N qual scope f cdv A outer s H E) [] (start N vs) H s1:=oB S hr.hd e0 hl r x;refine CA (ht [] s1 (start N vs) H _ I hq) (λ fl s' hs=>?_) λ e s' hs=>hs
 have fin:∀ {σ':St} {H':Hp} {v:V} {u:Value},Inv (cx CX P w K mg base N qual scope f cdv A outer s H E) [] σ' H' s'->RelV v u->Q v H'->CE outer P w H s Q u s':=
  λ {σ' H' v u} J rv q=>⟨v,H',J.os,J.bare,J.base,J.hok,rv,q⟩
 cases fl with
 | ret u=>
  obtain⟨v,σ',H',J,rv,q⟩:=hs;exact fin J rv q
 | next=>
  obtain⟨σ',H',J,q⟩:=hs;exact fin (v:=V.non) (u:=Cn) J rfl q
 | brk=>
  obtain⟨_,_,_,q⟩:=hs;exact C0 q
 | cont=>
  obtain⟨_,_,_,q⟩:=hs;exact C0 q
section
variable {X:Cx}{x:Str}{p pos:Pos}{e:Expr}{es:List Expr}{t:TA}{id T:String}{r:List V->Hp->VK->Prop}
def tCB (r:List V->Hp->VK->Prop)(t:TA):TE:=λ σ H Q=>t σ H λ vs H1=>r vs H1 Q
theorem eM (hc:cM X (.builtin id) r)(hg:Gl X x)(hm:X.mg x=none)(hv:bootBuiltins x=some (.builtin id))(ha:PA X (e::es) t)(hn:autoParam (x≠"__name__") ZC._auto_1)(hdb:autoParam ((x == ("__debug__":Str))=false) ZC._auto_1)
  (he:autoParam (starEach (e::es) X.env=(false,eval e X.env)::starEach es X.env) ZE._auto_1) (hpl:autoParam ((backTo pos (starEach es X.env)).any (·.1)=false) ZE._auto_1):PE X (.Call (.Name x p) (e::es) [] pos) (tCB r t):=by
 intro pins s σ H Q I h;refine CI (bO I hg hm hv ?_ hn hdb);exact D1 (thn (ha pos pins s σ H _ I h) λ us s1 ⟨vs,H1,I1,r1,q1⟩=>hc pins s1 σ H1 vs us Q I1 r1 q1) he hpl
theorem pj (hc:cM X (.type T) r)(hg:Gl X x)(hm:X.mg x=none)(hv:bootBuiltins x=some (.type T))(ha:PA X (e::es) t)(hn:autoParam (x≠"__name__") ZC._auto_1)(hdb:autoParam ((x == ("__debug__":Str))=false) ZC._auto_1)
  (he:autoParam (starEach (e::es) X.env=(false,eval e X.env)::starEach es X.env) ZE._auto_1) (hpl:autoParam ((backTo pos (starEach es X.env)).any (·.1)=false) ZE._auto_1):PE X (.Call (.Name x p) (e::es) [] pos) (tCB r t):=by
 intro pins s σ H Q I h;refine CI (bO I hg hm hv ?_ hn hdb);exact Cr (thn (ha pos pins s σ H _ I h) λ us s1 ⟨vs,H1,I1,r1,q1⟩=>hc pins s1 σ H1 vs us Q I1 r1 q1) he hpl
end
end L2
namespace HT
open PySem PyProof.Rows
section
open PySem.SeqAt
open PySem.AutoSeq1 (wpAny_loadPart')
open PySem.MeetsSeq PySem.MeetsSeq2 PySem.MeetsSeq3
end
section
variable {prog:Program}{w:World}{A:Around}{E:Value->Shared->Prop}{s:Shared}
def sIx (n d:Nat):Option Int->Nat
 | none=>d
 | some v=>if v<0 then (v+(n:Int)).toNat else min v.toNat n
end
end HT
namespace L2
open PySem PySem.Spec PyProof.Rows
abbrev TO:=St->Hp->(Option Int->Hp->Prop)->Prop
def PO (X:Cx)(e:Option Expr)(t:TO):Prop:=
 ∀ (pins:List (Addr×Obj)) (s:Shared) (σ:St) (H:Hp) (Q:Option Int->Hp->Prop),Inv X pins σ H s->t σ H Q ->
  wpAny (model X.prog X.w) X.A (evalPart e X.env) (λ u s'=>∃ o H',Inv X pins σ H' s'/\IsPart u o/\Q o H') X.xe s
def tJ:TO:=λ _ H Q=>Q none H
def xT (t:TE):TO:=λ σ H Q=>t σ H λ x H1=>∃ i,x=.int i/\Q (some i) H1
theorem intsAre_of {ns:List Int}:∀ {us:List Value},Vals (ns.map V.int) us->IntsAre us ns:=by
 induction ns with
 | nil=>intro us r;rw[yJ] at r;cases r;exact .nil
 | cons n ns ih=>
  intro us r;rw[yB] at r;cases r with
  | cons r1 r2=>
   obtain⟨t,e⟩:=r1;subst e;exact .cons n t (ih r2)
section
variable {X:Cx}{e:Expr}{te:TE}{lo hi:Option Expr}{tl th:TO}{pos p2:Pos}
theorem uu:PO X none tJ:=by
 intro pins s σ H Q I h;rw[evalPart_none];exact Ce ⟨none,H,I,.none,h⟩
theorem tD (h:PE X e te):PO X (some e) (xT te):=by
 intro pins s σ H Q I hw;rw[evalPart_some];refine thn (h pins s σ H _ I hw) λ u s1 ⟨x,H1,I1,r1,q1⟩=>?_
 obtain⟨i,rfl,q⟩:=q1;obtain⟨t,rfl⟩:=r1;exact⟨some i,H1,I1,.int i t,q⟩
def SlR (X:Cx)(r:V->Option Int->Option Int->Hp->VK->Prop):Prop:=
 ∀ (pins:List (Addr×Obj)) (s:Shared) (σ:St) (H:Hp) (x:V) (v vl vu:Value) (lo hi:Option Int) (sl:Addr) (Q:VK),Inv X pins σ H s->RelV x v->s.heap.IsSliceOf sl vl vu .none->IsPart vl lo->IsPart vu hi->r x lo hi H Q ->
  ∃ T id,typeLookup (.type T) "__getitem__"=pure (some (.builtin id))/\s.TypeIs v T/\wpAny (model X.prog X.w) X.A (getItem v (.ref sl)) (EP X pins σ Q) X.xe s
def tSl (r:V->Option Int->Option Int->Hp->VK->Prop)(te:TE)(tl th:TO):TE:=λ σ H Q=>te σ H λ x H1=>tl σ H1 λ l H2=>th σ H2 λ u H3=>r x l u H3 Q
theorem pG {r:V->Option Int->Option Int->Hp->VK->Prop}(hr:SlR X r)(he:PE X e te)(hl:PO X lo tl)(hu:PO X hi th):PE X (.Subscript e (.Slice lo hi none p2) pos) (tSl r te tl th):=by
 intro pins s σ H Q I h;refine Subscript_ (thn (he pins s σ H _ I h) λ v s1 ⟨x,H1,I1,r1,q1⟩=>?_);refine wpAny_Slice (thn (hl pins s1 σ H1 _ I1 q1) λ vl s2 ⟨l,H2,I2,pl,q2⟩=>thn (hu pins s2 σ H2 _ I2 q2) λ vu s3 ⟨u,H3,I3,pu,q3⟩=>?_);rw[evalPart_none];refine Ce ?_
 have I4:Inv X pins σ H3 { s3 with heap:=s3.heap.push { cls:=.type "slice",data:=.fields #[vl,vu,.none] } }:=I3.kept (t':=s3.toks) λ b ob q=>Cf _ q
 obtain⟨T,id,hT,ht,hg⟩:=hr pins { s3 with heap:=s3.heap.push { cls:=.type "slice",data:=.fields #[vl,vu,.none] } } σ H3 x v vl vu l u s3.heap.objs.size Q I4 r1 (FT ..) pl pu q3;show wpAny (model X.prog X.w) X.A (subscriptTail e (.Slice lo hi none p2) v (.ref s3.heap.objs.size)) (EP X pins σ Q) X.xe { s3 with heap:=s3.heap.push { cls:=.type "slice",data:=.fields #[vl,vu,.none] } }
 exact tail_any (ops:=[.ref s3.heap.objs.size,v]) ht hT hg (by with_unfolding_all rfl)
def oW (xs:List V)(lo hi:Option Int):List V:=(xs.drop (HT.sIx xs.length 0 lo)).take (HT.sIx xs.length xs.length hi-HT.sIx xs.length 0 lo)
theorem kz (xs:List V)(lo hi:Option Int):(oW xs lo hi).length<=xs.length:=by
 unfold oW;rw[zo,Av];omega
end
def ixN (n:Nat)(i:Int):Option Nat:=if 0<=i then (if i<n then some i.toNat else none) else if -(n:Int)<=i then some (i+n).toNat else none
def atI {α:Type}(xs:List α)(i:Int):Option α:=(ixN xs.length i).bind λ j=>xs[j]?
theorem nJ {n:Nat}{i:Int}{j:Nat}(h:ixN n i=some j):seqIndex? i n=some j/\j<n/\-(n:Int)<=i/\i<n:=by
 unfold ixN at h;by_cases h0:0<=i
 ·rw[if_pos h0] at h
  by_cases h1:i<n
  ·rw[if_pos h1] at h
   have e:i.toNat=j:=Option.some.inj h;exact⟨by rw[EJ h0 h1,e],⋯,⋯,h1⟩
  ·rw[if_neg h1] at h;cases h
 ·rw[if_neg h0] at h
  by_cases h1:-(n:Int)<=i
  ·rw[if_pos h1] at h
   have e:(i+n).toNat=j:=Option.some.inj h;exact⟨by rw[Fb ⋯ h1,e],⋯,h1,⋯⟩
  ·rw[if_neg h1] at h;cases h
theorem gq {α:Type}{xs:List α}{i:Int}{v:α}(h:atI xs i=some v):∃ j,seqIndex? i xs.length=some j/\xs[j]?=some v/\j<xs.length/\-(xs.length:Int)<=i/\i<xs.length:=by
 unfold atI at h;cases e:ixN xs.length i with
 | none=>rw[e] at h;cases h
 | some j=>
  rw[e] at h;obtain⟨h1,h2,h3,h4⟩:=nJ e;exact⟨j,h1,h,h2,h3,h4⟩
def nE (b:Expr):Prop:=∀ o i,subscripted b false o i=operate [o,i] (getItem o i)
def IxR (X:Cx)(r:R2):Prop:=
 ∀ (value slice:Expr) (pins:List (Addr×Obj)) (s:Shared) (σ:St) (H:Hp) (x y:V) (v u:Value) (Q:VK),Inv X pins σ H s->RelV x v->RelV y u->r x y H Q ->
  subscripted slice false v u=operate [v,u] (getItem v u)->wpAny (model X.prog X.w) X.A (subscriptTail value slice v u) (EP X pins σ Q) X.xe s
def MtR (X:Cx)(id:String)(r:V->List V->Hp->VK->Prop):Prop:=
 ∀ (pins:List (Addr×Obj)) (s:Shared) (σ:St) (H:Hp) (x:V) (xs:List V) (v:Value) (us:List Value) (Q:VK),Inv X pins σ H s->RelV x v->Vals xs us->r x xs H Q ->
  wpAny (model X.prog X.w) X.A (call (.builtin id) (v::us)) (EP X pins σ Q) X.xe s
section
variable {X:Cx}{a b:Expr}{ta tb:TE}{pos:Pos}
theorem IxR.or {r r':R2}(h:IxR X r)(h':IxR X r'):IxR X (λ x y H Q=>r x y H Q\/r' x y H Q):=by
 intro value slice pins s σ H x y v u Q I rx ry q hs
 rcases q with q|q
 ·exact h value slice pins s σ H x y v u Q I rx ry q hs
 ·exact h' value slice pins s σ H x y v u Q I rx ry q hs
theorem xc {r:R2}(hr:IxR X r)(ha:PE X a ta)(hb:PE X b tb)(hs:nE b):PE X (.Subscript a b pos) (tOp r ta tb):=by
 intro pins s σ H Q I h;exact Subscript_ (vN ha hb I h λ v u s2 x y H2 I2 rx ry q=>hr a b pins s2 σ H2 x y v u Q I2 rx ry q (hs _ _))
def yf (K:Cd):R2:=λ x y H Q=>∃ p xs i v,x=.ref p/\y=.int i/\SqL K H p xs/\atI xs i=some v/\Q v H
def yh (K:Cd):R2:=λ x y H Q=>∃ p xs i v,x=.ref p/\y=.int i/\SqT K H p xs/\atI xs i=some v/\Q v H
theorem ix_list:IxR X (yf X.K):=by
 intro value slice pins s σ H x y v u Q I rx ry h hs;obtain⟨p,xs,i,z,rfl,rfl,hq,he,q⟩:=h;cases rx;obtain⟨t,rfl⟩:=ry;obtain⟨its,r,pl,hz⟩:=I.list hq;obtain⟨j,h1,h2,h3,h4,h5⟩:=gq he;obtain⟨w,ew,rw'⟩:=r.get h2;have hl:=r.length;have hn:=gD;have fin:EP X pins σ Q w s:=⟨z,H,I,rw',q⟩;by_cases h0:0<=i
 ·have hj:i.toNat=j:=by
   rw[EJ h0 h5] at h1;exact Option.some.inj h1
  exact item_listR pl.isList h0 ⋯ (by rw[hj];simpa using ew) fin hs
 ·have hj:(i+(its.toArray.size:Int)).toNat=j:=by
   rw[Fb ⋯ h4] at h1;rw[yS,<- hl];exact Option.some.inj h1
  exact EK (x:=w) pl.isList.typeIs slot_list_getitem.lookup
   (wpAny_getItem_list_neg (Q:=λ r s'=>r=w/\EP X pins σ Q r s') pl.isList ⋯ (by rw[yS] <;>omega) ⋯ (by rw[hj];simpa using ew) ⟨rfl,fin⟩) hs
theorem vL:IxR X (yh X.K):=by
 intro value slice pins s σ H x y v u Q I rx ry h hs;obtain⟨p,xs,i,z,rfl,rfl,hq,he,q⟩:=h;cases rx;obtain⟨t,rfl⟩:=ry;obtain⟨its,r,pl,hz⟩:=I.tuple hq;obtain⟨j,h1,h2,h3,h4,h5⟩:=gq he;obtain⟨w,ew,rw'⟩:=r.get h2;have hl:=r.length;have hn:=gD;have fin:EP X pins σ Q w s:=⟨z,H,I,rw',q⟩;exact EK (x:=w) pl.typeIs slot_tuple_getitem.lookup
  (getItem_tuple (j:=j) (Q:=λ r s'=>r=w/\EP X pins σ Q r s') pl ⋯ ⋯ (by rw[yS,<- hl];exact h1) (by simpa using ew) ⟨rfl,fin⟩) hs
theorem mz (its:List Value)(n j:Nat)(u:Value):Cu (·.setIfInBounds j u) { cls:=.type "list",data:=.seq its.toArray n }={ cls:=.type "list",data:=.seq (its.set j u).toArray n }:=by
 simp[Cu]
theorem Inv.lst {pins:List (Addr×Obj)}{σ:St}{H:Hp}{s:Shared}{p:Addr}{xs:List V}(I:Inv X pins σ H s)(h:H p=some (.lst xs)):
  ∃ (its:List Value) (n:Nat),Vals xs its/\s.heap.get? p=some { cls:=.type "list",data:=.seq its.toArray n }/\xs.length<=sizeLine:=by
 obtain⟨z,its,n,r,e⟩:=I.hok p _ h;exact⟨its,n,r,e,z⟩
theorem Inv.lstUpd {pins:List (Addr×Obj)}{σ:St}{H:Hp}{s:Shared}{p:Addr}{xs ys:List V}{its its':List Value}{n n':Nat}{f:Obj->Obj}(I:Inv X pins σ H s)(h:H p=some (.lst xs))
  (ho:s.heap.get? p=some { cls:=.type "list",data:=.seq its.toArray n }) (hf:f { cls:=.type "list",data:=.seq its.toArray n }={ cls:=.type "list",data:=.seq its'.toArray n' }) (r:Vals ys its') (hz:ys.length<=sizeLine) (t:Nat):
  Inv X pins σ (upd H p (.lst ys)) { s with heap:=s.heap.update p f,toks:=t }:=by
 have e:(s.heap.update p f).get? p=some { cls:=.type "list",data:=.seq its'.toArray n' }:=by
  rw[CQ f ho (by rw[hf] <;>rfl),hf]
 refine I.write (x:=p) (e:=p) (by rw[h];trivial) (.inl rfl) (λ b u hb q=>(Ct _ _ (Ne.symm hb)).trans q) ⟨_,e⟩ ?_
 exact⟨hz,its',n',r,e⟩
def xg:V->V->V->Hp->(Hp->Prop)->Prop:=λ o i v H Q=>∃ p xs k j,o=.ref p/\i=.int k/\H p=some (.lst xs)/\ixN xs.length k=some j/\Q (upd H p (.lst (xs.set j v)))
theorem set_list:u9 X xg:=by
 intro pins s σ H o i v ov iv u Q I ro ri rv h;obtain⟨p,xs,k,j,rfl,rfl,hp,hj,q⟩:=h;cases ro;obtain⟨t,rfl⟩:=ri;obtain⟨its,n,r,ho,hz⟩:=I.lst hp;obtain⟨h1,h2,h3,h4⟩:=nJ hj;have hl:=r.length;have hn:=gD;have I':Inv X pins σ (upd H p (.lst (xs.set j v))) { s with heap:=s.heap.update p (Cu (·.setIfInBounds j u)) }:=
  I.lstUpd hp ho (mz its n j u) (r.set rv j) (by rw[zx];exact hz) s.toks
 by_cases h0:0<=k
 ·have hk:k.toNat=j:=by
   rw[EJ h0 h4] at h1;exact Option.some.inj h1
  exact PySem.W.ki_setAt ho h0 ⋯ (by rw[yS,<- hl];exact h4) (by rw[hk];exact⟨_,I',q⟩)
 ·have hk:(k+(its.toArray.size:Int)).toNat=j:=by
   rw[Fb ⋯ h3] at h1;rw[yS,<- hl];exact Option.some.inj h1
  exact PySem.W.ki_setBack ho ⋯ (by rw[yS,<- hl];exact h3) ⋯ (by rw[hk];exact⟨_,I',q⟩)
theorem jt (lo hi:Option Int)(n:Nat):(sliceBounds lo hi none n).1=((HT.sIx n 0 lo:Nat):Int)/\(sliceBounds lo hi none n).2.1=((HT.sIx n n hi:Nat):Int)/\(sliceBounds lo hi none n).2.2=1:=by
 refine⟨?_,?_,rfl⟩
 ·cases lo with
  | none=>simp[sliceBounds,HT.sIx]
  | some i=>
   simp only[sliceBounds,HT.sIx,Aw,show (1:Int) > 0 by decide,if_true];by_cases h:i<0
   ·simp only[h,if_true] <;>omega
   ·simp only[h,if_false] <;>omega
 ·cases hi with
  | none=>simp[sliceBounds,HT.sIx]
  | some i=>
   simp only[sliceBounds,HT.sIx,Aw,show (1:Int) > 0 by decide,if_true];by_cases h:i<0
   ·simp only[h,if_true] <;>omega
   ·simp only[h,if_false] <;>omega
theorem iE (its:List Value)(lo hi:Option Int):slicePick its.toArray lo hi none=((its.drop (HT.sIx its.length 0 lo)).take (HT.sIx its.length its.length hi-HT.sIx its.length 0 lo)).toArray:=by
 obtain⟨h1,h2,h3⟩:=jt lo hi its.toArray.size;unfold slicePick;rw[h1,h2,h3];simp only[sliceRange_one,pick_run,yS] <;>rfl
def yq (K:Cd):V->Option Int->Option Int->Hp->VK->Prop:=λ x lo hi H Q=>∃ a xs,x=.ref a/\SqL K H a xs/\∀ p,H p=none->Q (.ref p) (upd H p (.lst (oW xs lo hi)))
theorem tL:SlR X (yq X.K):=by
 intro pins s σ H x v vl vu lo hi sl Q I rx hs pl pu h;obtain⟨a,xs,rfl,hx,q⟩:=h;cases rx;obtain⟨its,r,ht,hz⟩:=I.list hx;have hlen:=r.length;refine⟨"list",_,slot_list_getitem.lookup,ht.isList.typeIs,?_⟩;refine wpAny_getItem_list_slice ht.isList hs pl pu .none (by simp) ?_ (by rw[yS] <;>omega)
 rw[iE,<- hlen];refine⟨.ref s.heap.objs.size,_,I.laid (t':=s.toks) (o:=.lst (oW xs lo hi)) (λ b ob q=>Cf _ q) (yW _) ?_,rfl,q _ (I.hok.fresh (yW _))⟩;exact⟨zr (kz xs lo hi) hz,_,0,(r.drop (HT.sIx xs.length 0 lo)).take (HT.sIx xs.length xs.length hi-HT.sIx xs.length 0 lo),Ci _ rfl⟩
theorem jW:cM X (.builtin "len") (λ xs H Q=>∃ p ys,xs=[.ref p]/\(SqL X.K H p ys\/SqT X.K H p ys)/\Q (.int ys.length) H):=by
 intro pins s σ H xs us Q I r h;obtain⟨p,ys,rfl,hq,q⟩:=h;obtain⟨u,rfl,rx⟩:=vals1 r;cases rx;have hn:=gD
 rcases hq with hq|hq
 ·obtain⟨its,r',pl,hz⟩:=I.list hq
  have hlen:=r'.length;exact Calls.call_len_list pl.isList (by simp only[yS] <;>omega) ⟨.int ys.length,H,I.tok _,⟨s.toks+1,by rw[yS,hlen]⟩,q⟩
 ·obtain⟨its,r',pl,hz⟩:=I.tuple hq
  have hlen:=r'.length;exact len_tuple pl (by simp only[yS] <;>omega) ⟨.int ys.length,H,I.tok _,⟨s.toks+1,by rw[yS,hlen]⟩,q⟩
theorem jD:cM X (.type "list") (λ xs H Q=>∃ p ys,xs=[.ref p]/\(SqL X.K H p ys\/SqT X.K H p ys)/\∀ l,H l=none->Q (.ref l) (upd H l (.lst ys))):=by
 intro pins s σ H xs us Q I r h;obtain⟨p,ys,rfl,hq,q⟩:=h;obtain⟨u,rfl,rx⟩:=vals1 r;cases rx;have fin:∀ (its:List Value),Vals ys its->ys.length<=sizeLine->∀ (h':Heap) (c':Nat),(∀ b o',s.heap.get? b=some o'->h'.get? b=some o') ->
   h'.get? s.heap.objs.size=some { cls:=.type "list",dict:=none,data:=.seq its.toArray c',slots:=#[] }->EP X pins σ Q (.ref s.heap.objs.size) { s with heap:=h' }:=λ its r' hz h' c' kp e=>
  ⟨.ref s.heap.objs.size,_,I.laid (t':=s.toks) kp (yW _) (show ObjOk X.prog X.w _ h' _ (.lst ys) from ⟨hz,its,c',r',e⟩),rfl,q _ (I.hok.fresh (yW _))⟩
 rcases hq with hq|hq
 ·obtain⟨its,r',pl,hz⟩:=I.list hq
  have hlen:=r'.length;obtain⟨o,ho,hc,n,hd⟩:=pl.isList;exact call_list_seq p (.inl rfl) ho hc hd (λ h' c' kp e=>fin its r' hz h' c' kp e) (by simp only[yS] <;>omega)
 ·obtain⟨its,r',pl,hz⟩:=I.tuple hq
  have hlen:=r'.length;obtain⟨o,ho,hc,n,hd⟩:=pl;exact call_list_seq p (.inr rfl) ho hc hd (λ h' c' kp e=>fin its r' hz h' c' kp e) (by simp only[yS] <;>omega)
def tyV (K:Cd)(T:String)(x:V)(H:Hp):Prop:=match x with
 | .str _=>T="str"
 | .int _=>T="int"
 | .ref p=>(T="list"/\∃ xs,SqL K H p xs)\/(T="tuple"/\∃ o,K.lookup p=some o/\o.cls=.type "tuple"/\o.dict=none) \/
   (T="dict"/\((∃ kvs,H p=some (.dK kvs))\/∃ kvs,H p=some (.dT kvs)))\/(T="set"/\∃ S n,H p=some (.set S n))
 | _=>False
theorem rH {pins:List (Addr×Obj)}{σ:St}{H:Hp}{s:Shared}{T:String}{x:V}{v:Value}(I:Inv X pins σ H s)(r:RelV x v)(ty:tyV X.K T x H):
  s.TypeIs v T/\∀ a,v=.ref a->∃ ob,s.heap.get? a=some ob/\ob.dict=none:=by
 cases x with
 | str z=>
  obtain⟨t,rfl⟩:=r;cases (show T="str" from ty);exact⟨typeIs_str s z t,λ _ e=>nomatch e⟩
 | int i=>
  obtain⟨t,rfl⟩:=r;cases (show T="int" from ty);exact⟨typeIs_int s i t,λ _ e=>nomatch e⟩
 | ref p=>
  cases r
  rcases ty with ⟨rfl,xs,hq⟩|⟨rfl,o,hk,hc,hd⟩|⟨rfl,hk⟩|⟨rfl,S,n,hk⟩
  ·obtain⟨its,_,pl,_⟩:=I.list hq
   refine⟨pl.isList.typeIs,λ a e=>?_⟩;cases e;obtain⟨o,n,e,c,hd,_⟩:=pl;exact⟨o,e,hd⟩
  ·refine⟨⟨o,I.kIn p o hk,hc⟩,λ a e=>?_⟩
   cases e;exact⟨o,I.kIn _ o hk,hd⟩
  ·have z:∃ o,s.heap.get? p=some o/\o.ExactDict:=by
    rcases hk with ⟨kvs,hk⟩|⟨kvs,hk⟩
    ·obtain⟨_,_,_,_,o,_,_,e,ex,_⟩:=I.hok p _ hk
     exact⟨o,e,ex⟩
    ·obtain⟨_,_,_,_,o,_,_,e,ex,_⟩:=I.hok p _ hk
     exact⟨o,e,ex⟩
   obtain⟨o,e,ex⟩:=z;refine⟨⟨o,e,ex.1⟩,λ a e2=>?_⟩;cases e2;exact⟨o,e,ex.2.1⟩
  ·obtain⟨o,_,_,_,e,ex,_⟩:=I.hok p _ hk
   refine⟨⟨o,e,ex.1⟩,λ a e2=>?_⟩;cases e2;exact⟨o,e,ex.2.1⟩
 | _=>exact C0 ty
def yp (K:Cd)(T:String)(r:V->List V->Hp->VK->Prop)(to:TE):TE:=λ σ H Q=>to σ H λ x H1=>tyV K T x H1/\r x [] H1 Q
def tBM (K:Cd)(T:String)(r:V->List V->Hp->VK->Prop)(to:TE)(t:TA):TE:=λ σ H Q=>to σ H λ x H1=>tyV K T x H1/\t σ H1 λ xs H2=>r x xs H2 Q
variable {o e:Expr}{es:List Expr}{to:TE}{t:TA}{name:Str}{apos cpos:Pos}{T id:String}{r:V->List V->Hp->VK->Prop}
theorem va (pa:PlainAttrs T)(slot:Slot T name id)(hty:typeOf (.builtin id)=pure (.type "method_descriptor"))(hm:MtR X id r)(ho:PE X o to)
  (hbase:autoParam (attributeBase o name X.env (eval o X.env)=eval o X.env) ZE._auto_1) (hline:autoParam ((apos.endLine == cpos.line)=true) ZE._auto_1):PE X (.Call (.Attribute o name apos) [] [] cpos) (yp X.K T r to):=by
 intro pins s σ H Q I h;refine Ey hbase hline (thn (ho pins s σ H _ I h) λ v s1 ⟨x,H1,I1,r1,ty,q1⟩=>?_);obtain⟨h1,h2⟩:=rH I1 r1 ty;exact⟨T,id,pa,slot,hty,h1,h2,Do rfl (E4 (hm pins s1 σ H1 x [] v [] Q I1 r1 .nil q1))⟩
theorem mR (pa:PlainAttrs T)(slot:Slot T name id)(hty:typeOf (.builtin id)=pure (.type "method_descriptor"))(hm:MtR X id r)(ho:PE X o to)(ha:PA X (e::es) t)
  (hbase:autoParam (attributeBase o name X.env (eval o X.env)=eval o X.env) ZE._auto_1)
  (hfew:autoParam (((backTo cpos (starEach (e::es) X.env)).all (λ x=>!x.1)&&(backToKw cpos (keywordEach [] X.env)).all (λ x=>x.1.isSome)
   && decide ((e::es).length+([]:List Keyword).length+(if ([]:List Keyword).isEmpty then 0 else 1)<30))=true) ZE._auto_1)
  (hline:autoParam ((apos.endLine == cpos.line)=true) ZE._auto_1) (hs:autoParam (starEach (e::es) X.env=(false,eval e X.env)::starEach es X.env) ZE._auto_1) (hplain:autoParam ((backTo cpos (starEach es X.env)).any (·.1)=false) ZE._auto_1):
  PE X (.Call (.Attribute o name apos) (e::es) [] cpos) (tBM X.K T r to t):=by
 intro pins s σ H Q I h;refine wpAny_Call_method_late hbase hfew hline rfl (thn (ho pins s σ H _ I h) λ v s1 ⟨x,H1,I1,r1,ty,q1⟩=>?_);obtain⟨h1,h2⟩:=rH I1 r1 ty;refine⟨T,id,pa,slot,hty,h1,h2,?_⟩;have hA:=ha cpos pins s1 σ H1 _ I1 q1;rw[hs] at hA ⊢;refine Do (by show (false || (backTo cpos (starEach es X.env)).any (·.1))=false;rw[hplain] <;>rfl) (D2 ?_);exact thn hA λ us s2 ⟨vs,H2,I2,r2,q2⟩=>hm pins s2 σ H2 x vs v us Q I2 r1 r2 q2
end
def MtM (X:Cx)(id:String)(r:V->List V->Hp->VK->Prop):Prop:=
 ∀ (pins:List (Addr×Obj)) (s:Shared) (σ:St) (H:Hp) (x:V) (xs:List V) (v:Value) (us:List Value) (Q:VK),Inv X pins σ H s->RelV x v->Vals xs us->r x xs H Q ->
  wpAny (model X.prog X.w) X.A (call (.builtin id) (v::us)) (EP X pins σ Q) X.xe s
theorem Vals.one {x:V}{us:List Value}(r:Vals [x] us):∃ u,us=[u]/\RelV x u:=by
 cases r with
 | cons r1 r2=>cases r2;exact⟨_,rfl,r1⟩
theorem Vals.zero:∀ {us:List Value},Vals [] us->us=[]
 | _,.nil=>rfl
theorem Vals.dropLast {xs:List V}{us:List Value}(h:Vals xs us):Vals xs.dropLast us.dropLast:=by
 induction h with
 | nil=>exact .nil
 | cons r t ih=>
  cases t with
  | nil=>exact .nil
  | cons q t'=>exact .cons r ih
theorem Vals.eraseIdx:∀ {xs:List V} {us:List Value} (i:Nat),Vals xs us->Vals (xs.eraseIdx i) (us.eraseIdx i)
 | _,_,_,.nil=>.nil
 | _,_,0,.cons _ t=>t
 | _,_,i+1,.cons r t=>.cons r (Vals.eraseIdx i t)
theorem Vals.rep {xs:List V}{us:List Value}(h:Vals xs us):∀ k:Nat,Vals (List.replicate k xs).flatten (List.replicate k us).flatten
 | 0=>.nil
 | k+1=>by
  rw[zu,zu,zN,zN];exact Vals.append h (Vals.rep h k)
theorem foldl_rep (its:List Value):∀ (k:Nat) (acc:List Value),
  List.foldl (λ x1 x2=>x1++x2) acc.toArray (List.replicate k its.toArray)=(acc++(List.replicate k its).flatten).toArray
 | 0,acc=>by simp
 | k+1,acc=>by
  have e:acc.toArray++its.toArray=(acc++its).toArray:=by simp
  have e2:(acc++its)++(List.replicate k its).flatten=acc++(List.replicate (k+1) its).flatten:=by
   rw[zu,zN,zw]
  rw[<- e2,<- foldl_rep its k (acc++its),<- e,zu,yT]
section
variable {X:Cx}{pins:List (Addr×Obj)}{σ:St}{H:Hp}{s:Shared}{l b:Addr}{xs ys zs:List V}
theorem Inv.lset {its its':List Value}{n:Nat}{f:Array Value->Array Value}{t':Nat}(I:Inv X pins σ H s)(hH:H l=some (.lst xs))
  (e:s.heap.get? l=some { cls:=.type "list",data:=.seq its.toArray n }) (hf:f its.toArray=its'.toArray) (hv:Vals ys its') (hz:ys.length<=sizeLine):
  Inv X pins σ (upd H l (.lst ys)) { s with heap:=s.heap.update l (Cu f),toks:=t' }:=by
 have q:=Fy e f;rw[hf] at q;refine I.write (x:=l) (e:=l) (by rw[hH];exact trivial) (.inl rfl) (λ b' u hb hu=>(Ct s.heap (Cu f) (Ne.symm hb)).trans hu) ⟨_,q⟩ ?_
 exact⟨hz,its',_,hv,q⟩
theorem Inv.lnew {its:List Value}{t':Nat}(I:Inv X pins σ H s)(hv:Vals ys its)(hz:ys.length<=sizeLine):
  Inv X pins σ (upd H s.heap.objs.size (.lst ys)) { s with heap:=s.heap.push { cls:=.type "list",data:=.seq its.toArray },toks:=t' }:=
 I.laid (λ _ _ q=>Cf _ q) (yW _) ⟨hz,its,0,hv,Ci _ rfl⟩
theorem Inv.fresh (I:Inv X pins σ H s):H s.heap.objs.size=none:=I.hok.fresh (yW _)
theorem Inv.lstM (I:Inv X pins σ H s)(hH:H l=some (.lst xs)):xs.length<=sizeLine/\∃ (its:List Value) (n:Nat),Vals xs its/\xs.length=its.length/\s.heap.get? l=some { cls:=.type "list",data:=.seq its.toArray n }:=by
 obtain⟨z,its,n,r,e⟩:=I.hok l _ hH;exact⟨z,its,n,r,r.length,e⟩
theorem lu {n:Nat}(h:n<=sizeLine):Dg n=false:=by
 unfold Dg;exact decide_eq_false ⋯
end
section
variable {X:Cx}
def uc:V->List V->Hp->VK->Prop:=λ x vs H Q=>∃ l xs y,x=.ref l/\vs=[y]/\H l=some (.lst xs)/\xs.length<sizeLine/\Q .non (upd H l (.lst (xs++[y])))
theorem fC:MtM X "list.append" uc:=by
 intro pins s σ H x vs v us Q I rx rv h;obtain⟨l,xs,y,rfl,rfl,hH,hz,q⟩:=h;cases rx;obtain⟨u,rfl,ru⟩:=rv.one;obtain⟨z,its,n,r,hl,e⟩:=I.lstM hH;refine D3 Fc ⟨_,e,rfl⟩ E5 (EZ _ _) (Fp l its.toArray n u (by rw[yS];omega)) ⟨e,?_⟩;refine⟨.non,_,I.lset (its':=its++[u]) hH e (by simp) (r.append (.cons ru .nil)) ?_,rfl,q⟩;rw[yY,Bb];omega
def tj:V->List V->Hp->VK->Prop:=λ x vs H Q=>∃ l b xs zs,x=.ref l/\vs=[.ref b]/\H l=some (.lst xs)/\H b=some (.lst zs)/\xs.length+zs.length<=sizeLine/\Q .non (upd H l (.lst (xs++zs)))
theorem nV:MtM X "list.extend" tj:=by
 intro pins s σ H x vs v us Q I rx rv h;obtain⟨l,b,xs,zs,rfl,rfl,hH,hB,hz,q⟩:=h;cases rx;obtain⟨u,rfl,ru⟩:=rv.one;cases ru;obtain⟨z,its,n,r,hl,e⟩:=I.lstM hH;obtain⟨z2,its2,n2,r2,hl2,e2⟩:=I.lstM hB;have hsz:its.toArray.size+its2.toArray.size<=sizeLine:=by rw[yS,yS];omega
 have hlong:¬ (!its.toArray.isEmpty&&Dg (its.toArray.size+its2.toArray.size))=true:=by
  rw[lu hsz,zi];exact zf
 refine D3 F.slot_list_extend ⟨_,e,rfl⟩ F.entry_list_extend (F.args_list_extend_2 _ _)
  (AutoSeq1.list_extend_list_list_0 l its.toArray n b its2.toArray n2 hlong (by rw[yS];omega) ⋯) ⟨e,e2,?_⟩
 refine⟨.non,_,I.lset (its':=its++its2) hH e (by simp) (r.append r2) ?_,rfl,q⟩;rw[yY];omega
def wm:V->List V->Hp->VK->Prop:=λ x vs H Q=>∃ l xs,x=.ref l/\vs=[]/\H l=some (.lst xs)/\Q .non (upd H l (.lst []))
theorem rL:MtM X "list.clear" wm:=by
 intro pins s σ H x vs v us Q I rx rv h;obtain⟨l,xs,rfl,rfl,hH,q⟩:=h;cases rx;have hus:=rv.zero;subst hus;obtain⟨z,its,n,r,hl,e⟩:=I.lstM hH;refine D3 F.slot_list_clear ⟨_,e,rfl⟩ F.entry_list_clear (F.args_list_clear_1 _) (AutoSeq1.list_clear_list_0 l its.toArray n (by rw[yS];omega)) ⟨e,?_⟩;exact⟨.non,_,I.lset (its':=[]) (ys:=[]) hH e rfl .nil (zI _),rfl,q⟩
theorem len_rep {α:Type}(xs:List α)(k:Nat):(List.replicate k xs).flatten.length=k*xs.length:=by
 induction k with
 | zero=>simp
 | succ k ih=>rw[zu,zN,yY,ih,BZ,AF]
end
end L2
namespace Att
open PySem PySem.W PySem.Calls PyProof.Rows
theorem gd {P:Params}{h:Heap}:∀ (ns:List Int) (vs:List Value),WellAll P h vs (ns.map DH)->IntsAre vs ns:=by
 intro ns
 induction ns with
 | nil=>
  intro vs w;rw[yJ] at w;cases w;exact .nil
 | cons n ns ih=>
  intro vs w;rw[yB] at w;cases w with
  | cons a b=>
   cases a;exact .cons _ _ (ih _ b)
theorem script_of {l:OpenLaw}{n:Nat}(hn:l.most=some n){P:Params}{h:Heap}{args:List WData}{vals:List Value}
  (hpre:l.row.toRowW.claim.pre args=true) (hwl:WellAll P h vals args):
  ∃ a vs ns,vals=[Cp a]/\args=[FD (ns.map DH)]/\h.get? a=some { cls:=.type "list",data:=.seq vs.toArray }/\IntsAre vs ns/\ns.length<=n:=by
 have hsh:WShape.hasAll [] args [.list .int]=true:=(pre_splitW hpre).1;have hc:l.pre.holds [] { args:=args }=true:=(pre_splitW hpre).2;obtain⟨d,r,rfl,h1,h2⟩:=hasAllW_cons hsh;obtain rfl:=hasAllW_nil h2;obtain⟨xs,rfl,h3⟩:=hasW_list h1;obtain⟨ns,rfl⟩:=items_int h3;have hlen:ns.length<=n:=by
  unfold OpenLaw.pre at hc;have h4:(WTm.not (.lt (.lit (.int (n:Int))) (.len (.arg 0)))).holds [] { args:=[.list (ns.map .int)] }=true:=by
   have h4:=(holds_andW hc).1;rw[hn] at h4;exact h4
  have h5:=condW_of h4 (w_not (w_lt w_lit (w_len_list (w_arg rfl))));rw[yC] at h5;refine Nat.le_of_not_lt λ q=>?_
  have q':(n:Int)<((ns.length:Nat):Int):=⋯
  first
   | (rw[decide_eq_true q'] at h5;exact absurd h5 (by decide))
   | (simp at h5;omega)
 cases hwl with
 | cons w1 w2=>
  cases w2;cases w1 with
  | list ho hall=>exact⟨_,_,ns,rfl,rfl,ho,gd ns _ hall,hlen⟩
theorem post_true (l:OpenLaw)(args:List WData):l.row.toRowW.claim.post args (.bool true) args=true:=
 postW_of (r:=l.row.toRowW) (X:=(true == true))
  (show WShape.has [] (.bool true) .bool=true by first|rfl|decide|simp[WShape.has,WShape.arms,WShape.armsAll])
  (show (WTm.eq .res (.lit (.bool true))).value [] { args:=args,res:=some (.bool true),after:=args }=some (.bool (true == true)) from w_eq_bool (w_res rfl) w_lit) rfl
section
variable {prog:Program}{w:World}{A:Around}{E:Value->Shared->Prop}{s:Shared}{K:Frag}
def ledger (h:Heap)(L d:Addr):List (Addr×Obj):=(List.range h.objs.size).filterMap λ a=>if a=L\/a=d then none else (h.get? a).map λ o=>(a,o)
end
end Att
namespace L2
open PySem PySem.Spec PyProof.Rows
theorem iR:∀ {vs:List Value} {ns:List Int},IntsAre vs ns->Vals (ns.map V.int) vs
 | _,_,.nil=>.nil
 | _,_,.cons n t h=>.cons ⟨t,rfl⟩ (iR h)
def xf (H:Hp):Prop:=∀ b,H b=none\/∃ o xs,H b=some (.frz o (.lst xs))
theorem law_call {P:Program}{w:World}{K:Cd}{mg mb:Str->Option Value}{CX:CXT}{k:Nat}{fa a:Addr}{fd:FuncData}{x:Str}{sp:Sp}{s₁:Shared}{vs:List Value}{ns:List Int}
  (KX:K.In s₁.heap) (hns:s₁.heap.Ns mainGlobals mg) (hb:s₁.heap.Ns builtinsNs mb) (hbb:∀ x:Str,x≠"__name__"->mb x=bootBuiltins x) (hlim:s₁.heap.NoLimit) (hg:s₁.gens=#[])
  (ha:s₁.heap.get? a=some { cls:=.type "list",data:=.seq vs.toArray }) (hi:IntsAre vs ns) (hl:ns.length<=sizeLine) (hr:Room k callerA)
  (F:∀ base:Heap,K.In base->base.Ns mainGlobals mg->FnOk P w K mg base CX k fa fd [x] sp) (hbind:∀ (s:Shared) (u:Value),BindsTo s fd ⟨[u],[]⟩ [(x,u)])
  (hsp:∀ H:Hp,xf H->SqL K H a (ns.map V.int)->sp [.ref a] H (λ v _=>v=.bl true) λ _ _ _=>False)
  (hCX:∀ H e s',CX [] H s₁ (λ _ _ _=>False) e s'->False):
  codeAny (model P w) callerA (.call (.ref fa) ⟨[.ref a],[]⟩) (λ r s'=>r=.ok (.ret (.bool true))/\OldK s₁.heap s'.heap/\s'.os=s₁.os/\AllBare s'.gens) s₁:=by
 have rv:=iR hi;have lenV:=hi.length;have core:∀ H:Hp,xf H->SqL K H a (ns.map V.int)->HOk P w H s₁.heap->(∀ b,H b≠none->b=a)->(H a≠none->K.lookup a=none) ->
   codeAny (model P w) callerA (.call (.ref fa) ⟨[.ref a],[]⟩) (λ r s'=>r=.ok (.ret (.bool true))/\OldK s₁.heap s'.heap/\s'.os=s₁.os/\AllBare s'.gens) s₁:=by
  intro H hO hS hok hA hK;have base_of:∀ {b:Addr} {o:Obj},s₁.heap.get? b=some o->H b=none->(jV s₁.heap H).get? b=some o:=λ e n=>rN e n
  have noA:∀ {b:Addr} {o:Obj} {es:Array DictEntry} {ep:Nat},s₁.heap.get? b=some o->o.data=.dict es ep->H b=none:=λ {b o es ep} e d=>by
   cases q:H b with
   | none=>rfl
   | some u=>
    have e':b=a:=hA b (by rw[q];simp);subst e';rw[ha] at e;cases e;have d':Data.seq vs.toArray _=Data.dict es ep:=d;cases d'
  have nsK:∀ {b:Addr} {m:Str->Option Value},s₁.heap.Ns b m->(jV s₁.heap H).Ns b m:=λ {b m} ⟨o,es,ep,e,d,r⟩=>⟨o,es,ep,base_of e (noA e d),d,r⟩
  have hKb:K.In (jV s₁.heap H):=λ b o e=>base_of (KX b o e) (by
   cases q:H b with
   | none=>rfl
   | some u=>
    have e':b=a:=hA b (by rw[q];simp);subst e';rw[hK (by rw[q];simp)] at e;cases e)
  have hM:Mod K mg (jV s₁.heap H):=⟨hKb,nsK hns,⟨mb,nsK hb,hbb⟩,let ⟨mc,h1,h2⟩:=hlim;⟨mc,nsK h1,h2⟩⟩;have e0:Env0 P w K mg (jV s₁.heap H) callerA [] s₁ H:=⟨rfl,hM,λ b o e=>tQ e,B2 (nS _ _),trivial,λ b hb=>absurd (show b∈([]:List Addr) from hb) (by simp),hok,.of_eq hg⟩;refine D4 ((F _ hKb (nsK hns)).run callerA [] s₁ H ⟨[.ref a],[]⟩ [.ref a] [.ref a] _ _ hr e0 (hbind s₁ (.ref a)) (.cons rfl .nil) (hsp H hO hS)) λ r s' h=>?_
  cases r with
  | error e=>exact(hCX H e s' h).elim
  | ok fl=>
   cases fl with
   | next=>exact C0 h
   | brk=>exact C0 h
   | cont=>exact C0 h
   | ret u=>
    obtain⟨v,H',os,bare,un,hok',r',q⟩:=h;have q':v=.bl true:=q;subst q';obtain rfl:u=FC true:=r';refine⟨rfl,OldK.of_keep λ b o e=>?_,os,bare⟩;cases q:H b with
    | none=>exact un.keep b o e q (by intro z;exact absurd (show b∈([]:List Addr) from z) (by simp)) (by simp)
    | some u=>
     rcases hO b with z|⟨ob,xs,z⟩
     ·rw[q] at z;cases z
     ·have z2:=un.frzs b ob _ z
      obtain⟨e1,_⟩:=hok b _ z;obtain⟨e2,_⟩:=hok' b _ z2;rw[e] at e1;cases e1;exact e2
 cases hk:K.lookup a with
 | some o=>
  have e:=KX a o hk;rw[ha] at e;cases e;refine core (λ _=>none) (λ _=>.inl rfl) (.inr ⟨_,vs.toArray,_,hk,rfl,rfl,rfl,by rw[yS,lenV];exact hl,by simpa using rv⟩) (λ b u z=>by have z':(none:Option HO)=some u:=z;cases z') (λ b z=>absurd rfl z) λ z=>absurd rfl z
 | none=>
  refine core (λ b=>if b=a then some (.frz { cls:=.type "list",data:=.seq vs.toArray } (.lst (ns.map V.int))) else none) (λ b=>?_) (.inl (.inr ⟨{ cls:=.type "list",data:=.seq vs.toArray },if_pos rfl⟩)) (λ b u z=>?_) (λ b z=>?_) λ _=>hk
  ·by_cases hb:b=a
   ·exact .inr ⟨_,_,if_pos hb⟩
   ·exact .inl (if_neg hb)
  ·by_cases hb:b=a
   ·have z':=(if_pos hb).symm.trans z
    cases z';subst hb;exact⟨ha,by rw[yC];exact hl,vs,_,rv,ha⟩
   ·have z':=(if_neg hb).symm.trans z
    cases z'
  ·by_cases hb:b=a
   ·exact hb
   ·exact absurd (if_neg hb) z
def bK (s:Stmt):Arguments:=match s with
 | .FunctionDef _ a _ _ _ _ _ _ _ _=>a
 | _=>{ posonlyargs:=[],args:=[],vararg:=none,kwonlyargs:=[],kw_defaults:=[],kwarg:=none,defaults:=[] }
def aZ (s:Stmt):List Stmt:=match s with
 | .FunctionDef _ _ b _ _ _ _ _ _ _=>b
 | _=>[]
def ai (s:Stmt):Scope:=match s with
 | .FunctionDef _ _ _ _ _ _ sc _ _ _=>sc
 | _=>{ kind:=.function,names:=[],isGenerator:=false,isCoroutine:=false }
abbrev CX0:CXT:=λ _ _ _ _ _ _=>False
structure Fun (K:Cd)(x qual:Str)(st:Stmt)(f:Addr)(fd:FuncData):Prop where
 ex:∃ (oc:Value) (od:Option Addr) (kV doc pm:Value) (an:Option Addr) (cdv ct:Value) (osl:Array (Option Value)),
  fd=CK x qual (bK st) (aZ st) (ai st) .none kV doc pm an cdv ct/\K.lookup f=some ⟨oc,od,.func fd,osl⟩/\Dd K cdv qual=true
 kp:De K (.ref f)=true
section
variable {P:Program}{w:World}{K:Cd}{mg:Str->Option Value}{base:Heap}
theorem Fun.ok {x qual:Str}{st:Stmt}{f:Addr}{fd:FuncData}{N ps:List Str}{k:Nat}{sp:Sp}(F:Fun K x qual st f fd)(S:FnScope N ps (ai st))(len:∀ vs H Q E,sp vs H Q E->vs.length=ps.length)
  (hbody:∀ (cdv:Value) (A:Around) (outer:List Env) (s:Shared) (H:Hp) (vs:List V) (Q:VK) (E:XK),Room k (A.deeper (envOfC qual (ai st) s.heap.objs.size f cdv))->sp vs H Q E ->
   ∃ t,PSs (cx CX0 P w K mg base N qual (ai st) f cdv A outer s H E).nox (aZ st) t/\t { nx:=λ _ H'=>Q .non H',rt:=Q } (start N vs) H):FnOk P w K mg base CX0 (k+1) f fd ps sp:=by
 obtain⟨oc,od,kV,doc,pm,an,cdv,ct,osl,rfl,lk,hcd⟩:=F.ex;refine uX lk hcd S len λ A outer s H vs Q E hr hsp=>?_
 obtain⟨t,h,q⟩:=hbody cdv A outer s H vs Q E hr hsp;exact⟨t,h.nox,q⟩
end
section
variable {X:Cx}
theorem pv (i:Nat){x:Str}{pos:Pos}(hN:autoParam (X.N[i]?=some x) ZE._auto_1)(hv:autoParam (Vis X.env.scope x) ZG._auto_1)(hd:autoParam ((x == ("__debug__":Str))=false) ZC._auto_1)
  (hcd:autoParam ((x == ("__classdict__":Str))=false) ZC._auto_1):PE X (.Name x pos) (gz i):=cL hN hv hd hcd
end
theorem rM {A B:Prop}(h:B):if false=true then A else B:=by
 rw[if_neg zf];exact h
theorem pV {A B:Prop}(h:A):if true=true then A else B:=by
 rw[if_pos rfl];exact h
def Same (H H':Hp):Prop:=∀ b o,H b=some o->H' b=some o
theorem Same.refl (H:Hp):Same H H:=λ _ _ h=>h
theorem Same.trans {H H1 H2:Hp}(a:Same H H1)(b:Same H1 H2):Same H H2:=λ c o h=>b c o (a c o h)
theorem Same.free {H H':Hp}(e:Same H H'){l:Addr}(h:H' l=Option.none):H l=Option.none:=by
 cases q:H l with
 | none=>rfl
 | some o=>
  rw[e l o q] at h;cases h
section
variable {κ:Type}[DecidableEq κ]
def eI (kvs:List (κ×V))(k:κ):Option V:=(kvs.find? λ kv=>decide (kv.1=k)).map (·.2)
def putK (kvs:List (κ×V))(k:κ)(v:V):List (κ×V):=
 if (kvs.any λ kv=>decide (kv.1=k))=true then kvs.map (λ kv=>if kv.1=k then (kv.1,v) else kv) else kvs++[(k,v)]
theorem eX {p:κ×V}{r:List (κ×V)}{k:κ}(e:p.1=k):eI (p::r) k=some p.2:=by simp[eI,Ac,e]
theorem fk {p:κ×V}{r:List (κ×V)}{k:κ}(e:¬ p.1=k):eI (p::r) k=eI r k:=by simp[eI,Ac,e]
theorem eO (k:κ):∀ kvs:List (κ×V),(kvs.any λ kv=>decide (kv.1=k))=(eI kvs k).isSome
 | []=>rfl
 | p::r=>by
  rw[AM];by_cases e:p.1=k
  ·simp only[eX e,decide_eq_true e,BB,Option.isSome_some]
  ·rw[fk e,decide_eq_false e,Bo];exact eO k r
theorem f7 (kvs:List (κ×V))(k:κ)(v:V):(putK kvs k v).length<=kvs.length+1:=by
 unfold putK
 split
 ·rw[yC];omega
 ·rw[yY,yE,yR];omega
theorem rF {kvs:List (κ×V)}{k:κ}(v:V)(h:eI kvs k=none):putK kvs k v=kvs++[(k,v)]:=by
 unfold putK;rw[eO,h];exact if_neg (by decide)
theorem RelO.isSome_eq {o:Option V}{u:Option Value}(r:RelO o u):o.isSome=u.isSome:=by
 cases o with
 | none=>cases u with
  | none=>rfl
  | some _=>exact Zf r
 | some _=>cases u with
  | none=>exact Zf r
  | some _=>rfl
theorem RelO.getD {o:Option V}{u:Option Value}{d:V}{d':Value}(r:RelO o u)(rd:RelV d d'):RelV (o.getD d) (u.getD d'):=by
 cases o with
 | none=>cases u with
  | none=>exact rd
  | some _=>exact Zf r
 | some _=>cases u with
  | none=>exact Zf r
  | some _=>exact r
theorem KV.val {kvs:List (κ×V)}{vs:List (κ×Value)}(r:KV kvs vs)(k:κ):RelO (eI kvs k) (valueAt vs k):=by
 unfold KV at r
 induction r with
 | nil=>exact Dl
 | @cons p q ps qs h t ih=>
  obtain⟨h1,h2⟩:=h;by_cases e:p.1=k
  ·have e':q.1=k:=h1.symm.trans e
   have b:valueAt (q::qs) k=some q.2:=by simp[valueAt,Ac,e']
   rw[eX e,b];exact h2
  ·have e':¬ q.1=k:=λ z=>e (h1.trans z)
   have b:valueAt (q::qs) k=valueAt qs k:=by simp[valueAt,Ac,e']
   rw[fk e,b];exact ih
theorem KV.any {kvs:List (κ×V)}{vs:List (κ×Value)}(r:KV kvs vs)(k:κ):(kvs.any λ kv=>decide (kv.1=k))=vs.any λ kv=>decide (kv.1=k):=by
 unfold KV at r
 induction r with
 | nil=>rfl
 | cons h t ih=>rw[AM,AM,ih,h.1]
theorem KV.repl {kvs:List (κ×V)}{vs:List (κ×Value)}(r:KV kvs vs)(k:κ){y:V}{u:Value}(ry:RelV y u):
  KV (kvs.map λ kv=>if kv.1=k then (kv.1,y) else kv) (vs.map λ kv=>if kv.1=k then (kv.1,u) else kv):=by
 unfold KV at r ⊢
 induction r with
 | nil=>exact .nil
 | @cons p q ps qs h t ih=>
  rw[yB,yB];refine .cons ?_ ih
  obtain⟨h1,h2⟩:=h;by_cases e:p.1=k
  ·rw[if_pos e,if_pos (h1.symm.trans e)];exact⟨h1,ry⟩
  ·rw[if_neg e,if_neg (λ z=>e (h1.trans z))];exact⟨h1,h2⟩
theorem KV.put {kvs:List (κ×V)}{vs:List (κ×Value)}(r:KV kvs vs)(k:κ){y:V}{u:Value}(ry:RelV y u):KV (putK kvs k y) (stored vs k u):=by
 unfold putK stored;rw[r.any k];by_cases e:(vs.any λ kv=>decide (kv.1=k))=true
 ·rw[if_pos e,if_pos e];exact r.repl k ry
 ·rw[if_neg e,if_neg e];exact FS r ⟨rfl,ry⟩
theorem KV.length {kvs:List (κ×V)}{vs:List (κ×Value)}(r:KV kvs vs):kvs.length=vs.length:=Eg r
end
theorem qW {P:Program}{w:World}{k:Key}{u:Value}(r:RelV (kV k) u):(aS P w).is k u=true:=by
 cases k with
 | inl i=>obtain⟨t,e⟩:=(show ∃ t,u=Dc i t from r);subst e;exact kN P w i t
 | inr x=>obtain⟨t,e⟩:=(show ∃ t,u=FI x t from r);subst e;exact kZ P w x t
theorem iY {P:Program}{w:World}:∀ {ks:List Key} {us:List Value},Vals (ks.map kV) us->ItemsAre (aS P w) ks us
 | [],_,r=>by rw[yJ] at r;cases r;exact .nil
 | k::ks,_,r=>by
  rw[yB] at r;cases r with
  | cons h t=>exact .cons (qW h) (iY t)
abbrev KT (H:Hp):List (List Key×V)->List (List Key×Addr×Value)->Prop:=Paired λ p q=>p.1=q.1/\H q.2.1=some (.tup (p.1.map kV))/\RelV p.2 q.2.2
theorem KT.val {H:Hp}{kvs:List (List Key×V)}{xs:List (List Key×Addr×Value)}(r:KT H kvs xs)(k:List Key):RelO (eI kvs k) ((atKey xs k).map (·.2)):=by
 induction r with
 | nil=>exact Dl
 | @cons p q ps qs h t ih=>
  obtain⟨h1,_,h2⟩:=h;by_cases e:p.1=k
  ·have e':q.1=k:=h1.symm.trans e
   have b:atKey (q::qs) k=some q.2:=by simp[atKey,Ac,e']
   rw[eX e,b];exact h2
  ·have e':¬ q.1=k:=λ z=>e (h1.trans z)
   have b:atKey (q::qs) k=atKey qs k:=by simp[atKey,Ac,e']
   rw[fk e,b];exact ih
theorem KT.repl {H:Hp}{kvs:List (List Key×V)}{xs:List (List Key×Addr×Value)}(r:KT H kvs xs)(k:List Key){y:V}{u:Value}(ry:RelV y u):
  KT H (kvs.map λ kv=>if kv.1=k then (kv.1,y) else kv) (xs.map (putAt k u)):=by
 induction r with
 | nil=>exact .nil
 | @cons p q ps qs h t ih=>
  rw[yB,yB];refine .cons ?_ ih
  obtain⟨h1,h2,h3⟩:=h;unfold putAt;by_cases e:p.1=k
  ·rw[if_pos e,if_pos (h1.symm.trans e)];exact⟨h1,h2,ry⟩
  ·rw[if_neg e,if_neg (λ z=>e (h1.trans z))];exact⟨h1,h2,h3⟩
theorem KT.put {H:Hp}{kvs:List (List Key×V)}{xs:List (List Key×Addr×Value)}(r:KT H kvs xs)(k:List Key){b:Addr}{y:V}{u:Value}(hb:H b=some (.tup (k.map kV)))(ry:RelV y u):
  KT H (putK kvs k y) (storedH xs k b u):=by
 have e:(kvs.any λ kv=>decide (kv.1=k))=(atKey xs k).isSome:=by
  rw[eO,(r.val k).isSome_eq,Option.isSome_map]
 unfold putK storedH;rw[e];by_cases q:(atKey xs k).isSome=true
 ·rw[if_pos q,if_pos q];exact r.repl k ry
 ·rw[if_neg q,if_neg q];exact FS r ⟨rfl,hb,ry⟩
theorem KT.keeps {H H':Hp}{kvs:List (List Key×V)}{xs:List (List Key×Addr×Value)}(r:KT H kvs xs)(ht:∀ b ys,H b=some (.tup ys)->H' b=some (.tup ys)):KT H' kvs xs:=
 Paired.mapP r λ _ _ z=>⟨z.1,ht _ _ z.2.1,z.2.2⟩
section
variable {P:Program}{w:World}{H:Hp}{h:Heap}{a:Addr}
theorem uC {u:HO}(ok:HOk P w H h)(e:Rd H a u):ObjOk P w H h a u:=e.ok ok
theorem qU {kvs:List (Key×V)}(ok:HOk P w H h)(e:Rd H a (.dK kvs)):kvs.length<=sizeLine/\(a == sysModules)=false/\∃ vs,KV kvs vs/\h.DictOf (aS P w) a vs:=
 show ObjOk P w H h a (.dK kvs) from uC ok e
theorem xi {kvs:List (Key×V)}(ok:HOk P w H h)(e:H a=some (.dK kvs)):kvs.length<=sizeLine/\(a == sysModules)=false/\∃ vs,KV kvs vs/\h.DictOf (aS P w) a vs:=qU ok (.inl e)
theorem lH {ks:List Key}(ok:HOk P w H h)(e:H a=some (.tup (ks.map kV))):(tupleKind (aS P w)).is h ks a:=by
 obtain⟨_,its,r,o,h1,h2,n,h3⟩:=(show ObjOk P w H h a (.tup (ks.map kV)) from ok a _ e);exact⟨o,its.toArray,n,h1,h2,h3,by simpa using iY r⟩
theorem rX {kvs:List (List Key×V)}(ok:HOk P w H h)(e:Rd H a (.dT kvs)):kvs.length<=sizeLine/\(a == sysModules)=false /\
  ∃ xs,KT H kvs xs/\h.DictOfH (tupleKind (aS P w)) a xs:=by
 obtain⟨z,y,xs,r,o,es,ep,h1,h2,h3,h4,h5⟩:=(show ObjOk P w H h a (.dT kvs) from uC ok e);refine⟨z,y,xs,r,o,es,ep,h1,h2,h3,h4,λ x hx=>?_,h5⟩;have all:∀ {l:List (List Key×V)} {m:List (List Key×Addr×Value)},KT H l m->∀ x∈m,(tupleKind (aS P w)).is h x.1 x.2.1:=by
  intro l m q
  induction q with
  | nil=>intro x hx;exact nomatch hx
  | @cons p q ps qs hq t ih=>
   intro x hx
   rcases List.mem_cons.mp hx with e|hx
   ·subst e
    exact lH ok (by rw[<- hq.1];exact hq.2.1)
   ·exact ih x hx
 exact all r x hx
theorem uI {kvs:List (List Key×V)}(ok:HOk P w H h)(e:H a=some (.dT kvs)):kvs.length<=sizeLine/\(a == sysModules)=false /\
  ∃ xs,KT H kvs xs/\h.DictOfH (tupleKind (aS P w)) a xs:=rX ok (.inl e)
end
def DGet (H:Hp)(a:Addr)(y:V)(r:Option V):Prop:=
 (∃ kvs k,Rd H a (.dK kvs)/\y=kV k/\r=eI kvs k)\/∃ kvs k b,Rd H a (.dT kvs)/\y=.ref b/\H b=some (.tup (k.map kV))/\r=eI kvs k
def DPut (H:Hp)(a:Addr)(y v:V)(H':Hp):Prop:=
 (∃ kvs k,H a=some (.dK kvs)/\y=kV k/\kvs.length<sizeLine/\H'=upd H a (.dK (putK kvs k v))) \/
 ∃ kvs k b,H a=some (.dT kvs)/\y=.ref b/\H b=some (.tup (k.map kV))/\kvs.length<sizeLine/\H'=upd H a (.dT (putK kvs k v))
theorem DGet.t {H:Hp}{a b:Addr}{kvs:List (List Key×V)}{k:List Key}(e:H a=some (.dT kvs))(eb:H b=some (.tup (k.map kV))):DGet H a (.ref b) (eI kvs k):=.inr ⟨kvs,k,b,.inl e,rfl,eb,rfl⟩
theorem DPut.t {H:Hp}{a b:Addr}{kvs:List (List Key×V)}{k:List Key}{v:V}(e:H a=some (.dT kvs))(eb:H b=some (.tup (k.map kV)))(hl:kvs.length<sizeLine):
  DPut H a (.ref b) v (upd H a (.dT (putK kvs k v))):=.inr ⟨kvs,k,b,e,rfl,eb,hl,rfl⟩
section
variable {X:Cx}{pins:List (Addr×Obj)}{σ:St}{H:Hp}{s:Shared}{a:Addr}{y v:V}{u r:Value}{o:Option V}{A:Around}{E:Value->Shared->Prop}
theorem Inv.big (I:Inv X pins σ H s):sysModules<s.heap.objs.size:=by
 have h:mainGlobals<s.heap.objs.size:=(I.mod.glob.keeps I.bk).lt;exact AG (by decide) h
theorem ni {h':Heap}{t':Nat}{ob:HO}(I:Inv X pins σ H s)(mu:Mut (H a))(hs:Dq a s.heap h')(he:∃ q,h'.get? a=some q)(new:ObjOk X.prog X.w (upd H a ob) h' a ob):
  Inv X pins σ (upd H a ob) { s with heap:=h',toks:=t' }:=
 I.write (x:=a) (e:=a) mu (.inl rfl) (λ b q hb z=>(hs.2 b hb).trans z) he new
theorem wK {P:Program}{w:World}{H':Hp}{h':Heap}{kvs:List (Key×V)}{vs:List (Key×Value)}(z:kvs.length<=sizeLine)(hd:(a == sysModules)=false)(rel:KV kvs vs)(dd:h'.DictOf (aS P w) a vs):
  ObjOk P w H' h' a (.dK kvs):=⟨z,hd,vs,rel,dd⟩
theorem nT {H':Hp}{Q:Unit->Shared->Prop}(hu:A.units+1<cLine)(I:Inv X pins σ H s)(g:DPut H a y v H')(ry:RelV y u)(rv:RelV v r)(h:∀ s',Inv X pins σ H' s'->Q () s'):
  wpAny (model X.prog X.w) A (setItem (.ref a) u r) Q E s:=by
 rcases g with ⟨kvs,k,e,ey,l,eH⟩|⟨kvs,k,b,e,ey,eb,l,eH⟩
 ·subst ey eH
  obtain⟨z,hd,vs,rel,dd⟩:=xi I.hok e;have hz:vs.length<=sizeLine:=by rw[<- rel.length];exact z
  have hl:(putK kvs k v).length<=sizeLine:=by have:=f7 kvs k v;omega
  refine wpAny_setItem_pairs (hsz:=hz) (qW ry) dd λ h' dd' hs=>h _ ?_
  have he:∃ q,h'.get? a=some q:=let ⟨q,_,_,hq,_⟩:=dd';⟨q,hq⟩
  exact ni I (by rw[e];exact Dl) hs he (wK hl hd (rel.put k rv) dd')
 ·subst ey eH
  cases (show u=Cp b from ry);obtain⟨z,hd,xs,rel,dd⟩:=uI I.hok e;have hz:xs.length<=sizeLine:=by rw[<- Eg rel];exact z
  have hl:(putK kvs k v).length<=sizeLine:=by have:=f7 kvs k v;omega
  refine wpAny_setItem_heap (hsz:=hz) (Fd hu) (lH I.hok eb) dd λ h' dd' hs=>h _ ?_
  obtain⟨q,es,ep,hq,h2,h3,h4,_,h5⟩:=dd';refine ni I (by rw[e];exact Dl) hs ⟨q,hq⟩ ⟨hl,hd,_,(rel.put k eb rv).keeps λ c ys ec=>?_,q,es,ep,hq,h2,h3,h4,h5⟩;rw[ax (xD ec e (λ z=>nomatch z))];exact ec
end
def rA (td ty tv:TE):TS:=λ D σ H=>tv σ H λ v H1=>td σ H1 λ x H2=>ty σ H2 λ y H3=>∃ a H4,x=.ref a/\DPut H3 a y v H4/\D.nx σ H4
section
variable {X:Cx}{o i e value:Expr}{pos pos' tpos:Pos}{td ty tv:TE}
theorem ud (hu:X.A.units+1<cLine)(ho:PE X o td)(hi:PE X i ty)(hv:PE X value tv)(hs:swapsWith value (some (.Subscript o i pos')) pos.line X.env=pure false):
  PS X (.Assign [.Subscript o i pos'] value pos) (rA td ty tv):=by
 intro pins s σ H D I h;refine wpAny_Assign_Subscript (thn (hv pins s σ H _ I h) λ r s1 ⟨v,H1,I1,rv,q1⟩=>thn (ho pins s1 σ H1 _ I1 q1) λ u s2 ⟨x,H2,I2,rx,q2⟩=>thn (hi pins s2 σ H2 _ I2 q2) λ iv s3 ⟨y,H3,I3,ry,a,H4,ex,g,q3⟩=>?_) hs;subst ex;obtain rfl:u=Cp a:=rx;exact nT hu I3 g ry rv λ s4 I4=>⟨σ,H4,I4,q3⟩
end
theorem q9 {P:Program}{w:World}{H:Hp}(h:Heap)(hb:sysModules<h.objs.size):ObjOk P w H (h.push { cls:=.type "dict",data:=.dict #[] }) h.objs.size (.dT []):=
 ⟨zI _,beq_eq_false_iff_ne.mpr (Ne.symm (yU hb)),[],.nil,_,#[],0,Ci _ rfl,⟨rfl,rfl,rfl⟩,rfl,rfl,List.nodup_nil⟩
def rV:TE:=λ _ H Q=>∀ p,H p=none->Q (.ref p) (upd H p (.dT []))
section
variable {X:Cx}{pos:Pos}
theorem pO:PE X (.Dict [] [] pos) rV:=λ pins s σ H Q I h=>
 wpAny_Dict_empty ⟨.ref s.heap.objs.size,_,I.laid (a:=s.heap.objs.size) (o:=.dT []) (t':=s.toks) (λ _ _ q=>Cf _ q) (yW _) (q9 s.heap I.big),rfl,h _ (I.hok.fresh (yW _))⟩
end
structure M1 (X:Cx)(o:Expr)(m:Str)(apos:Pos)(e:Expr)(cpos:Pos):Prop where
 base:attributeBase o m X.env (eval o X.env)=eval o X.env
 few:((backTo cpos (starEach [e] X.env)).all (λ x=>!x.1)&&(backToKw cpos (keywordEach [] X.env)).all (λ x=>x.1.isSome)
  && decide (([e]:List Expr).length+([]:List Keyword).length+(if ([]:List Keyword).isEmpty then 0 else 1)<30))=true
 line:(apos.endLine == cpos.line)=true
 trees:backTo cpos (starEach [e] X.env)=[(false,eval e X.env)]
structure M2 (X:Cx)(o:Expr)(m:Str)(apos:Pos)(e f:Expr)(cpos:Pos):Prop where
 base:attributeBase o m X.env (eval o X.env)=eval o X.env
 few:((backTo cpos (starEach [e,f] X.env)).all (λ x=>!x.1)&&(backToKw cpos (keywordEach [] X.env)).all (λ x=>x.1.isSome)
  && decide (([e,f]:List Expr).length+([]:List Keyword).length+(if ([]:List Keyword).isEmpty then 0 else 1)<30))=true
 line:(apos.endLine == cpos.line)=true
 trees:backTo cpos (starEach [e,f] X.env)=[(false,eval e X.env),(false,eval f X.env)]
def IsD (H:Hp)(a:Addr):Prop:=(∃ kvs,Rd H a (.dK kvs))\/∃ kvs,Rd H a (.dT kvs)
theorem q8 {X:Cx}{pins:List (Addr×Obj)}{σ:St}{H:Hp}{s:Shared}{a:Addr}(I:Inv X pins σ H s)(d:IsD H a):
  s.TypeIs (.ref a) "dict"/\(∀ b,Cp a=.ref b->∃ ob,s.heap.get? b=some ob/\ob.dict=none)/\(a == sysModules)=false:=by
 rcases d with ⟨kvs,e⟩|⟨kvs,e⟩
 ·obtain⟨_,hd,vs,_,dd⟩:=qU I.hok e
  refine⟨dd.typeIs,λ b q=>?_,hd⟩;cases q;obtain⟨ob,_,_,h1,h2,_⟩:=dd;exact⟨ob,h1,h2.2.1⟩
 ·obtain⟨_,hd,xs,_,dd⟩:=rX I.hok e
  refine⟨dd.typeIs,λ b q=>?_,hd⟩;cases q;obtain⟨ob,_,_,h1,h2,_⟩:=dd;exact⟨ob,h1,h2.2.1⟩
section
variable {X:Cx}{pins:List (Addr×Obj)}{σ:St}{H:Hp}{s:Shared}{a:Addr}{y d:V}{u r:Value}{o:Option V}{A:Around}{E:Value->Shared->Prop}
theorem u5 {Q:Value->Shared->Prop}(hu:A.units+1<cLine)(I:Inv X pins σ H s)(g:DGet H a y o)(ry:RelV y u)(rd:RelV d r)(h:∀ w' s',Inv X pins σ H s'->RelV (o.getD d) w'->Q w' s'):
  wpAny (model X.prog X.w) A (call (.builtin "dict.get") [.ref a,u,r]) Q E s:=by
 rcases g with ⟨kvs,k,e,ey,l⟩|⟨kvs,k,b,e,ey,eb,l⟩
 ·subst ey
  obtain⟨z,hd,vs,rel,dd⟩:=qU I.hok e;refine Er DW dd.typeIs EM (Ez _ _ _) (meets_dict_get_default (aS X.prog X.w) a (qW ry) hd r) ⟨_,dd.mapOf,h _ _ (I.tok _) ?_⟩;rw[l];exact(rel.val k).getD rd
 ·subst ey
  cases (show u=Cp b from ry);obtain⟨z,hd,xs,rel,dd⟩:=rX I.hok e;refine Er DW dd.typeIs EM (Ez _ _ _) (meetsH_dict_get_default (tupleKind (aS X.prog X.w)) a b hd r) ⟨Fd hu,k,xs,lH I.hok eb,dd,h _ _ (I.tok _) ?_⟩;rw[l];exact(rel.val k).getD rd
end
def pP (td ty tx:TE):TE:=λ σ H Q=>td σ H λ x H1=>∃ a,x=.ref a/\IsD H1 a/\ty σ H1 λ y H2=>tx σ H2 λ z H3=>∃ o,DGet H3 a y o/\Q (o.getD z) H3
section
variable {X:Cx}{o e f:Expr}{apos cpos:Pos}{td ty tx:TE}
theorem rO (hu:X.A.units+1<cLine)(ho:PE X o td)(he:PE X e ty)(hf:PE X f tx)(m:M2 X o "get" apos e f cpos):PE X (.Call (.Attribute o "get" apos) [e,f] [] cpos) (pP td ty tx):=by
 intro pins s σ H Q I h;refine wpAny_Call_method m.base m.few m.line EA DW PySem.F.type_dict_get (thn (ho pins s σ H _ I h) λ u s1 ⟨x,H1,I1,rx,a,ex,d,q1⟩=>?_);subst ex;obtain rfl:u=Cp a:=rx;obtain⟨t1,t2,_⟩:=q8 I1 d;refine⟨t1,t2,?_⟩;rw[m.trees];refine Do rfl (D2 (CD (thn (he pins s1 σ H1 _ I1 q1) λ iv s2 ⟨y,H2,I2,ry,q2⟩=>
  CD (thn (hf pins s2 σ H2 _ I2 q2) λ fv s3 ⟨z,H3,I3,rz,ov,g,q3⟩=>CP ?_))))
 exact u5 hu I3 g ry rz λ w' s4 I4 rw'=>⟨_,H3,I4,rw',q3⟩
end
end L2
namespace Dv
inductive D where
 | non
 | bl (b:Bool)
 | int (i:Int)
  | str (x:List Nat)
 | lst (ds:List D)
 | tup (ds:List D)
  | exn (c:String)
  | raw (a:Nat)
  | tab (rows:List (List Int))
  | dct (ks:List Int) (ds:List D)
  | ins (ns:List String) (ds:List D)
def scal:D->Bool
 | .lst _=>false
 | .tup _=>false
 | .exn _=>false
 | .raw _=>false
 | .tab _=>false
 | .dct _ _=>false
 | .ins _ _=>false
 | _=>true
def noTy:D->Bool
 | .exn _=>true
 | .raw _=>true
 | .tab _=>true
 | .ins _ _=>true
 | _=>false
def flatL:List D->Bool
 | []=>true
 | d::r=>scal d&&flatL r
def clipS (x:List Nat):List Nat:=x.map (·%1114112)
mutual
def eqD:D->D->Option Bool
 | .non,.non=>some true
 | .bl a,.bl b=>some (a == b)
 | .int a,.int b=>some (decide (a=b))
 | .str a,.str b=>some (decide (clipS a=clipS b))
 | .lst a,.lst b=>eqDL a b
 | .tup a,.tup b=>eqDL a b
 | _,_=>none
def eqDL:List D->List D->Option Bool
 | [],[]=>some true
 | [],_::_=>some false
 | _::_,[]=>some false
 | a::x,b::y=>
  match eqD a b,eqDL x y with
  | some p,some q=>some (p&&q)
  | _,_=>none
end
mutual
def depthD:D->Nat
 | .lst ds=>depthL ds+1
 | .tup ds=>depthL ds+1
 | .exn _=>100
 | .raw _=>100
 | .tab _=>100
 | .dct _ _=>100
 | .ins _ _=>100
 | _=>0
def depthL:List D->Nat
 | []=>0
 | d::r=>max (depthD d) (depthL r)
end
def intsOf:List D->Option (List Int)
 | []=>some []
 | .int i::r=>(intsOf r).map (i::·)
 | _::_=>none
def bits (a:Int):Nat:=if a=0 then 0 else a.natAbs.log2+1
def mulOk (i j:Int):Bool:=decide (bits i<=64) || decide (bits j<=64) || (decide (bits i<=1048576)&&decide (bits j<=1048576))
def divOk (j:Int):Bool:=decide (0<j)&&decide (j.natAbs.log2<9000)
def ins (i:Int):List Int->List Int
 | []=>[i]
 | j::r=>if i<=j then i::j::r else j::ins i r
def isort:List Int->List Int
 | []=>[]
 | i::r=>ins i (isort r)
inductive R where
 | ok (d:D) (fr:Bool)
 | exc (c:String)
 | bad
inductive RL where
 | ok (ds:List D) (fr:Bool)
 | exc (c:String)
 | bad
abbrev R.bind (r:R)(k:D->Bool->R):R:=match r with
 | .ok d fr=>k d fr
 | .exc c=>.exc c
 | .bad=>.bad
abbrev RL.bind (r:RL)(k:List D->Bool->R):R:=match r with
 | .ok d fr=>k d fr
 | .exc c=>.exc c
 | .bad=>.bad
abbrev R.bindL (r:R)(k:D->Bool->RL):RL:=match r with
 | .ok d fr=>k d fr
 | .exc c=>.exc c
 | .bad=>.bad
abbrev RL.bindL (r:RL)(k:List D->Bool->RL):RL:=match r with
 | .ok d fr=>k d fr
 | .exc c=>.exc c
 | .bad=>.bad
abbrev Env:=List (Option D)
abbrev EE:=Env->R
abbrev EL:=Env->RL
inductive Op where
 | add|sub|mul|mod|fdiv|pow|shr|band
inductive Cm where
 | lt|le|gt|ge|eq|ne|isin|notin|isT|isNotT
def mx:Nat:=100000
def opD:Op->D->D->R
 | .add,.int i,.int j=>.ok (.int (i+j)) true
 | .add,.lst a,.lst b=>if a.length+b.length<=mx then .ok (.lst (a++b)) (flatL a&&flatL b) else .bad
 | .sub,.int i,.int j=>.ok (.int (i-j)) true
 | .mul,.int i,.int j=>if mulOk i j then .ok (.int (i*j)) true else .bad
 | .mul,.lst a,.int j=>if decide (-100000<=j)&&decide (j<=mx)&&decide (a.length*j.toNat<=mx) then .ok (.lst (List.replicate j.toNat a).flatten) (flatL a) else .bad
 | .mod,.int i,.int j=>if decide (0<j) then .ok (.int (i%j)) true else .bad
 | .fdiv,.int i,.int j=>if divOk j then .ok (.int (i/j)) true else .bad
 | .pow,.int i,.int j=>if decide (0<=j)&&decide (j<=1000)&&decide (i.natAbs<1000000) then .ok (.int (i ^ j.toNat)) true else .bad
 | .band,.int i,.int j=>if decide (j=1) then .ok (.int (i%2)) true else .bad
 | .shr,.int i,.int j=>if decide (0<=j) then .ok (.int (i/2 ^ j.toNat)) true else .bad
 | _,_,_=>.bad
theorem opD_ai (i j:Int):opD .add (.int i) (.int j)=.ok (.int (i+j)) true:=rfl
theorem opD_al (a b:List D):opD .add (.lst a) (.lst b)=if a.length+b.length<=mx then .ok (.lst (a++b)) (flatL a&&flatL b) else .bad:=rfl
theorem opD_su (i j:Int):opD .sub (.int i) (.int j)=.ok (.int (i-j)) true:=rfl
theorem opD_mi (i j:Int):opD .mul (.int i) (.int j)=if mulOk i j then .ok (.int (i*j)) true else .bad:=rfl
theorem opD_ml (a:List D)(j:Int):opD .mul (.lst a) (.int j)=if decide (-100000<=j)&&decide (j<=mx)&&decide (a.length*j.toNat<=mx) then .ok (.lst (List.replicate j.toNat a).flatten) (flatL a) else .bad:=rfl
theorem opD_mo (i j:Int):opD .mod (.int i) (.int j)=if decide (0<j) then .ok (.int (i%j)) true else .bad:=rfl
theorem opD_fd (i j:Int):opD .fdiv (.int i) (.int j)=if divOk j then .ok (.int (i/j)) true else .bad:=rfl
theorem opD_po (i j:Int):opD .pow (.int i) (.int j)=if decide (0<=j)&&decide (j<=1000)&&decide (i.natAbs<1000000) then .ok (.int (i ^ j.toNat)) true else .bad:=rfl
theorem opD_ba (i j:Int):opD .band (.int i) (.int j)=if decide (j=1) then .ok (.int (i%2)) true else .bad:=rfl
theorem opD_sh (i j:Int):opD .shr (.int i) (.int j)=if decide (0<=j) then .ok (.int (i/2 ^ j.toNat)) true else .bad:=rfl
def inD (i:Int):List D->Option Bool
 | []=>some false
 | .int j::r=>(inD i r).map (decide (j=i) || ·)
 | _::_=>none
def optB:Option Bool->R
 | some b=>.ok (.bl b) true
 | none=>.bad
def cmD:Cm->D->D->R
 | .eq,a,b=>if decide (depthD a<=9)&&decide (depthD b<=9) then optB (eqD a b) else .bad
 | .ne,a,b=>if decide (depthD a<=9)&&decide (depthD b<=9) then optB ((eqD a b).map (!·)) else .bad
 | .lt,.int i,.int j=>.ok (.bl (decide (i<j))) true
 | .le,.int i,.int j=>.ok (.bl (decide (i<=j))) true
 | .gt,.int i,.int j=>.ok (.bl (decide (j<i))) true
 | .ge,.int i,.int j=>.ok (.bl (decide (j<=i))) true
 | .isin,.int i,.lst b=>optB (inD i b)
 | .notin,.int i,.lst b=>optB ((inD i b).map (!·))
 | .isT,.bl a,.bl true=>.ok (.bl a) true
 | .isNotT,.bl a,.bl true=>.ok (.bl (!a)) true
 | _,_,_=>.bad
theorem cmD_eq (a b:D):cmD .eq a b=if decide (depthD a<=9)&&decide (depthD b<=9) then optB (eqD a b) else .bad:=rfl
theorem cmD_ne (a b:D):cmD .ne a b=if decide (depthD a<=9)&&decide (depthD b<=9) then optB ((eqD a b).map (!·)) else .bad:=rfl
theorem cmD_lt (i j:Int):cmD .lt (.int i) (.int j)=.ok (.bl (decide (i<j))) true:=rfl
theorem cmD_le (i j:Int):cmD .le (.int i) (.int j)=.ok (.bl (decide (i<=j))) true:=rfl
theorem cmD_gt (i j:Int):cmD .gt (.int i) (.int j)=.ok (.bl (decide (j<i))) true:=rfl
theorem cmD_ge (i j:Int):cmD .ge (.int i) (.int j)=.ok (.bl (decide (j<=i))) true:=rfl
theorem cmD_in (i:Int)(b:List D):cmD .isin (.int i) (.lst b)=optB (inD i b):=rfl
theorem cmD_ni (i:Int)(b:List D):cmD .notin (.int i) (.lst b)=optB ((inD i b).map (!·)):=rfl
theorem cmD_it (a:Bool):cmD .isT (.bl a) (.bl true)=.ok (.bl a) true:=rfl
theorem cmD_nt (a:Bool):cmD .isNotT (.bl a) (.bl true)=.ok (.bl (!a)) true:=rfl
def eVar (i:Nat):EE:=λ ρ=>match ρ[i]? with
 | some (some d)=>.ok d (scal d)
 | _=>.bad
def eInt (i:Int):EE:=λ _=>.ok (.int i) true
def eBl (b:Bool):EE:=λ _=>.ok (.bl b) true
def wd (x:List Nat):EE:=λ _=>.ok (.str x) true
def vm:EE:=λ _=>.ok .non true
def eOp (o:Op)(a b:EE):EE:=λ ρ=>(a ρ).bind λ x _=>(b ρ).bind λ y _=>opD o x y
def eCm (o:Cm)(a b:EE):EE:=λ ρ=>(a ρ).bind λ x _=>(b ρ).bind λ y _=>cmD o x y
def eNeg (a:EE):EE:=λ ρ=>(a ρ).bind λ x _=>match x with
 | .int i=>.ok (.int (-i)) true
 | _=>.bad
def eAnd (a b:EE):EE:=λ ρ=>(a ρ).bind λ x _=>match x with
 | .bl true=>b ρ
 | .bl false=>.ok (.bl false) true
 | _=>.bad
def eOr (a b:EE):EE:=λ ρ=>(a ρ).bind λ x _=>match x with
 | .bl true=>.ok (.bl true) true
 | .bl false=>b ρ
 | _=>.bad
def eNot (a:EE):EE:=λ ρ=>(a ρ).bind λ x _=>match x with
 | .bl b=>.ok (.bl (!b)) true
 | _=>.bad
def eIf (c a b:EE):EE:=λ ρ=>(c ρ).bind λ x _=>match x with
 | .bl true=>a ρ
 | .bl false=>b ρ
 | _=>.bad
def lNil:EL:=λ _=>.ok [] true
def lCons (a:EE)(r:EL):EL:=λ ρ=>(a ρ).bindL λ d f=>(r ρ).bindL λ ds g=>.ok (d::ds) (f&&g)
def eLst (a:EL):EE:=λ ρ=>(a ρ).bind λ ds f=>.ok (.lst ds) f
def eTup (a:EL):EE:=λ ρ=>(a ρ).bind λ ds f=>.ok (.tup ds) f
def at? (ds:List D)(i:Int):Option D:=if 0<=i then ds[i.toNat]? else if -(ds.length:Int)<=i then ds[(i+ds.length).toNat]? else none
def ixD (a i:D)(f:Bool):R:=match a,i with
 | .lst ds,.int k=>match at? ds k with
  | some d=>.ok d (f || scal d)
  | none=>.bad
 | .tup ds,.int k=>match at? ds k with
  | some d=>.ok d (f || scal d)
  | none=>.bad
 | _,_=>.bad
def eIx (a i:EE):EE:=λ ρ=>(a ρ).bind λ x f=>(i ρ).bind λ y _=>ixD x y f
def eCall (F:List D->R)(a:EL):EE:=λ ρ=>(a ρ).bind λ ds _=>F ds
def eB1 (F:D->Bool->R)(a:EE):EE:=λ ρ=>(a ρ).bind F
def lenD:D->Bool->R
 | .lst ds,_=>.ok (.int ds.length) true
 | .tup ds,_=>.ok (.int ds.length) true
 | _,_=>.bad
def sortedD:D->Bool->R
 | .lst ds,_=>match intsOf ds with
  | some ns=>if ns.length<64 then .ok (.lst ((isort ns).map .int)) true else .bad
  | none=>.bad
 | _,_=>.bad
def listD:D->Bool->R
 | .lst ds,f=>.ok (.lst ds) (f || flatL ds)
 | .tup ds,f=>.ok (.lst ds) (f || flatL ds)
 | _,_=>.bad
def cutI (n:Nat)(dflt:Nat):Option Int->Nat
 | none=>dflt
 | some i=>if i<0 then (i+(n:Int)).toNat else min i.toNat n
def cutL {α:Type}(ds:List α)(lo hi:Option Int):List α:=(ds.drop (cutI ds.length 0 lo)).take (cutI ds.length ds.length hi-cutI ds.length 0 lo)
def sliceD (a:D)(f:Bool)(lo hi:Option Int):R:=match a with
 | .lst ds=>.ok (.lst (cutL ds lo hi)) (f || flatL (cutL ds lo hi))
 | _=>.bad
def ePart (p:Option EE)(ρ:Env)(k:Option Int->R):R:=match p with
 | none=>k none
 | some e=>(e ρ).bind λ d _=>match d with
  | .int i=>k (some i)
  | _=>.bad
def eSlice (a:EE)(lo hi:Option EE):EE:=λ ρ=>(a ρ).bind λ x f=>ePart lo ρ λ i=>ePart hi ρ λ j=>sliceD x f i j
def eB2 (F:D->D->R)(a b:EE):EE:=λ ρ=>(a ρ).bind λ x _=>(b ρ).bind λ y _=>F x y
def max2D:D->D->R
 | .int i,.int j=>.ok (.int (if j > i then j else i)) true
 | _,_=>.bad
def min2D:D->D->R
 | .int i,.int j=>.ok (.int (if j<i then j else i)) true
 | _,_=>.bad
def absD:D->Bool->R
 | .int i,_=>.ok (.int (if i<0 then -i else i)) true
 | _,_=>.bad
def intD:D->Bool->R
 | .int i,_=>.ok (.int i) true
 | .bl b,_=>.ok (.int (if b then 1 else 0)) true
 | _,_=>.bad
def isListD:D->Bool->R
 | .exn _,_=>.bad
 | .ins _ _,_=>.bad
 | .raw _,_=>.bad
 | .tab _,_=>.bad
 | .lst _,_=>.ok (.bl true) true
 | _,_=>.ok (.bl false) true
def isIntD:D->Bool->R
 | .exn _,_=>.bad
 | .ins _ _,_=>.bad
 | .raw _,_=>.bad
 | .tab _,_=>.bad
 | .int _,_=>.ok (.bl true) true
 | .bl _,_=>.ok (.bl true) true
 | _,_=>.ok (.bl false) true
def isBoolD:D->Bool->R
 | .exn _,_=>.bad
 | .ins _ _,_=>.bad
 | .raw _,_=>.bad
 | .tab _,_=>.bad
 | .bl _,_=>.ok (.bl true) true
 | _,_=>.ok (.bl false) true
def subX (c k:String):Bool:=c == k || k == "WheelError" || k == "ValueError"
inductive RI where
 | ok (ds:List D) (fr:Bool)
 | exc (c:String)
 | bad
abbrev EI:=Env->RI
def rangeL (lo:Int):Nat->List D
 | 0=>[]
 | n+1=>.int lo::rangeL (lo+1) n
def iSeq (a:EE):EI:=λ ρ=>match a ρ with
 | .ok (.lst ds) f=>.ok ds f
 | .exc c=>.exc c
 | _=>.bad
def rngOk (i:Int):Bool:=decide (-1000000<=i)&&decide (i<=1000000)
def iRange (a:EE):EI:=λ ρ=>match a ρ with
 | .ok (.int j) _=>if rngOk j then .ok (rangeL 0 j.toNat) true else .bad
 | .exc c=>.exc c
 | _=>.bad
def iRange2 (a b:EE):EI:=λ ρ=>match a ρ with
 | .ok (.int i) _=>match b ρ with
  | .ok (.int j) _=>if rngOk i&&rngOk j then .ok (rangeL i (j-i).toNat) true else .bad
  | .exc c=>.exc c
  | _=>.bad
 | .exc c=>.exc c
 | _=>.bad
def iZip (a b:EE):EI:=λ ρ=>match a ρ with
 | .ok (.lst xs) _=>match b ρ with
  | .ok (.lst ys) _=>.ok (List.zipWith (λ x y=>.tup [x,y]) xs ys) true
  | .exc c=>.exc c
  | _=>.bad
 | .exc c=>.exc c
 | _=>.bad
def bG (elt:EE)(cond:EE)(free:Env):List D->RL
 | []=>.ok [] true
 | d::r=>match cond (some d::free) with
  | .ok (.bl true) _=>match elt (some d::free) with
   | .ok x f=>match bG elt cond free r with
    | .ok xs g=>.ok (x::xs) (f&&g)
    | _=>.bad
   | _=>.bad
  | .ok (.bl false) _=>bG elt cond free r
  | _=>.bad
def pick (ρ:Env)(is:List Nat):Env:=is.map λ i=>(ρ[i]?).getD none
def eComp (elt cond:EE)(is:List Nat)(it:EI):EE:=λ ρ=>match it ρ with
 | .ok ds _=>if ds.length<=mx then match bG elt cond (pick ρ is) ds with
   | .ok xs f=>.ok (.lst xs) f
   | _=>.bad
  else .bad
 | .exc c=>.exc c
 | .bad=>.bad
inductive Sl where
 | no
 | sh (d:D)
 | ow (d:D)
  | dp (d:D)
  | jk (n m:Nat)
abbrev St:=List Sl
def Sl.get:Sl->Option D
 | .no=>none
 | .sh d=>some d
 | .ow d=>some d
 | .dp d=>some d
 | .jk _ _=>none
def Sl.shared:Sl->Option D
 | .sh d=>some d
 | _=>none
def Sl.give:Sl->Sl
 | .ow d=>.sh d
 | .dp d=>.sh d
 | s=>s
def all (st:St):Env:=st.map Sl.get
def open_ (st:St):Env:=st.map Sl.shared
def give (is:List Nat)(st:St):St:=is.foldl (λ st i=>st.set i ((st[i]?.getD .no).give)) st
inductive Out where
 | nx (st:St)
 | ret (d:D) (nw:Bool)
 | brk (st:St)
 | cont (st:St)
 | exc (c:String) (st:St)
 | bad
abbrev SS:=St->Out
abbrev Out.bind (o:Out)(k:St->Out):Out:=match o with
 | .nx st=>k st
 | o=>o
def sNil:SS:=λ st=>.nx st
def sCons (a r:SS):SS:=λ st=>(a st).bind r
def keepD (d:D)(f:Bool):Option Sl:=match d with
 | .lst ds=>if f&&flatL ds then some (.ow d) else none
 | .tup _=>none
 | .exn _=>none
 | .raw _=>none
 | .tab _=>none
 | .ins _ _=>none
 | .dct ks ds=>if f&&ks.isEmpty&&ds.isEmpty then some (.ow d) else none
 | _=>some (.sh d)
def sSet (i:Nat)(e:EE):SS:=λ st=>match e (all st) with
 | .ok d f=>match keepD d f with
  | some s=>.nx (st.set i s)
  | none=>.bad
 | .exc c=>.exc c st
 | .bad=>.bad
def sSetG (is:List Nat)(i:Nat)(e:EE):SS:=λ st=>match e (open_ (give is st)) with
 | .ok d _=>.nx ((give is st).set i (.sh d))
 | .exc c=>.exc c st
 | .bad=>.bad
def sExpr (e:EE):SS:=λ st=>match e (all st) with
 | .ok _ _=>.nx st
 | .exc c=>.exc c st
 | .bad=>.bad
def sRet (e:EE):SS:=λ st=>match e (all st) with
 | .ok d f=>.ret d f
 | .exc c=>.exc c st
 | .bad=>.bad
def sRetO (i:Nat):SS:=λ st=>match st[i]? with
 | some (.ow (.lst ds))=>.ret (.lst ds) (flatL ds)
 | some (.ow (.dct ks ds))=>.ret (.dct ks ds) false
 | some (.dp d)=>.ret d true
 | some (.sh d)=>.ret d (scal d)
 | _=>.bad
def su:SS:=λ _=>.ret .non true
def sIf (c:EE)(a b:SS):SS:=λ st=>match c (all st) with
 | .ok (.bl true) _=>a st
 | .ok (.bl false) _=>b st
 | .exc c=>.exc c st
 | _=>.bad
def pH:SS:=λ st=>.nx st
def sRaise (c:String):SS:=λ st=>.exc c st
def sApp (i:Nat)(e:EE):SS:=λ st=>match st[i]? with
 | some (.ow (.lst ds))=>match e (all st) with
  | .ok d _=>if scal d&&decide (ds.length<mx) then .nx (st.set i (.ow (.lst (ds++[d])))) else .bad
  | .exc c=>.exc c st
  | .bad=>.bad
 | _=>.bad
def sPut (i:Nat)(k e:EE):SS:=λ st=>match st[i]? with
 | some (.ow (.lst ds))=>match e (all st) with
  | .ok d _=>match k (all st) with
   | .ok (.int j) _=>if scal d&&decide (0<=j)&&decide (j<ds.length) then .nx (st.set i (.ow (.lst (ds.set j.toNat d)))) else .bad
   | .exc c=>.exc c st
   | _=>.bad
  | .exc c=>.exc c st
  | .bad=>.bad
 | _=>.bad
def sAugIx (i:Nat)(o:Op)(k e:EE):SS:=λ st=>match st[i]? with
 | some (.ow (.lst ds))=>match k (all st) with
  | .ok (.int j) _=>if 0<=j then match at? ds j with
    | some x=>match e (all st) with
     | .ok y _=>match opD o x y with
      | .ok (.int z) _=>.nx (st.set i (.ow (.lst (ds.set j.toNat (.int z)))))
      | _=>.bad
     | .exc c=>.exc c st
     | .bad=>.bad
    | none=>.bad
   else .bad
  | .exc c=>.exc c st
  | _=>.bad
 | _=>.bad
def u7 (i:Nat)(e:EE):SS:=λ st=>match st[i]? with
 | some (.ow (.lst ds))=>match e (all st) with
  | .ok (.lst es) f=>if f&&flatL es&&decide (ds.length+es.length<=mx) then .nx (st.set i (.ow (.lst (ds++es)))) else .bad
  | .exc c=>.exc c st
  | _=>.bad
 | _=>.bad
def sClear (i:Nat):SS:=λ st=>match st[i]? with
 | some (.ow (.lst _))=>.nx (st.set i (.ow (.lst [])))
 | _=>.bad
def lN (y i:Nat)(k:EE):SS:=λ st=>match st[i]? with
 | some (.ow (.lst ds))=>match k (all st) with
  | .ok (.int j) _=>if decide (0<=j)&&decide (j<ds.length)&&decide (y≠i)&&decide (ds.length<=mx) then match ds[j.toNat]? with
    | some d=>if scal d then .nx ((st.set i (.ow (.lst (ds.eraseIdx j.toNat)))).set y (.sh d)) else .bad
    | none=>.bad
   else .bad
  | .exc c=>.exc c st
  | _=>.bad
 | _=>.bad
def forGo (x:Nat)(body:SS):List D->SS
 | [],st=>.nx st
 | d::r,st=>match body (st.set x (.sh d)) with
  | .nx st'=>forGo x body r st'
  | .cont st'=>forGo x body r st'
  | .brk st'=>.nx st'
  | o=>o
def sFor (is:List Nat)(x:Nat)(it:EI)(body:SS):SS:=λ st=>match it (open_ (give is st)) with
 | .ok ds _=>forGo x body ds (give is st)
 | .exc c=>.exc c st
 | .bad=>.bad
def whileGo (c:EE)(body:SS):Nat->SS
 | 0,_=>.bad
 | n+1,st=>match c (all st) with
  | .ok (.bl true) _=>match body st with
   | .nx st'=>whileGo c body n st'
   | .cont st'=>whileGo c body n st'
   | .brk st'=>.nx st'
   | o=>o
  | .ok (.bl false) _=>.nx st
  | .exc c=>.exc c st
  | _=>.bad
def sWhile (n:Nat)(c:EE)(body:SS):SS:=whileGo c body n
def setAll:List Nat->List D->St->St
 | i::is,d::ds,st=>setAll is ds (st.set i (.sh d))
 | _,_,st=>st
def jB (is:List Nat)(xs:List Nat)(e:EE):SS:=λ st=>match e (open_ (give is st)) with
 | .ok (.tup ds) _=>if ds.length=xs.length then .nx (setAll xs ds (give is st)) else .bad
 | .exc c=>.exc c st
 | _=>.bad
def sPar (is:List Nat)(x y:Nat)(a b:EE):SS:=λ st=>match a (open_ (give is st)) with
 | .ok d _=>match b (open_ (give is st)) with
  | .ok d' _=>.nx (((give is st).set x (.sh d)).set y (.sh d'))
  | .exc c=>.exc c st
  | .bad=>.bad
 | .exc c=>.exc c st
 | .bad=>.bad
def forGoT (tgt:D->St->Option St)(body:SS):List D->SS
 | [],st=>.nx st
 | d::r,st=>match tgt d st with
  | none=>.bad
  | some st1=>match body st1 with
   | .nx st'=>forGoT tgt body r st'
   | .cont st'=>forGoT tgt body r st'
   | .brk st'=>.nx st'
   | o=>o
def sForT (is:List Nat)(tgt:D->St->Option St)(it:EI)(body:SS):SS:=λ st=>match it (open_ (give is st)) with
 | .ok ds _=>forGoT tgt body ds (give is st)
 | .exc c=>.exc c st
 | .bad=>.bad
def tupTo (xs:List Nat)(d:D)(s:St):Option St:=match d with
 | .tup ds=>if ds.length=xs.length then some (setAll xs ds s) else none
 | _=>none
def fn (n:Nat)(body:SS)(ds:List D):R:=match body (ds.map .sh++List.replicate (n-ds.length) .no) with
 | .nx _=>.ok .non true
 | .ret d f=>.ok d f
 | .exc c _=>.exc c
 | _=>.bad
end Dv
namespace Sd
open PySem PySem.Spec PyProof.Rows L2
open Dv (D R RL EE EL EI RI)
abbrev St:=L2.St
def SqX (K:Cd)(H:Hp)(a:Addr)(xs:List V):Prop:=
 Rd H a (.lst xs)\/∃ (its:List Value) (n:Nat),K.lookup a=some { cls:=.type "list",data:=.seq its.toArray n }/\xs.length<=sizeLine/\Vals xs its
theorem SqX.seq {K:Cd}{H:Hp}{a:Addr}{xs:List V}(h:SqX K H a xs):SqL K H a xs:=by
 rcases h with h|⟨its,n,e,z,r⟩
 ·exact .inl h
 ·refine .inr ⟨_,its.toArray,n,e,rfl,rfl,rfl,?_,by simpa using r⟩
  rw[yS,<- r.length];exact z
theorem SqX.of {K:Cd}{H:Hp}{a:Addr}{xs:List V}(h:H a=some (.lst xs)):SqX K H a xs:=.inl (.inl h)
theorem Rd.same {H H':Hp}{a:Addr}{o:HO}(e:Same H H')(h:Rd H a o):Rd H' a o:=by
 rcases h with h|⟨u,h⟩
 ·exact .inl (e _ _ h)
 ·exact .inr ⟨u,e _ _ h⟩
theorem SqX.same {K:Cd}{H H':Hp}{a:Addr}{xs:List V}(e:Same H H')(h:SqX K H a xs):SqX K H' a xs:=by
 rcases h with h|h
 ·exact .inl (Rd.same e h)
 ·exact .inr h
theorem Inv.listX {X:Cx}{pins:List (Addr×Obj)}{σ:St}{H:Hp}{s:Shared}{a:Addr}{xs:List V}(I:Inv X pins σ H s)(h:SqX X.K H a xs):
  ∃ (its:List Value) (n:Nat),Vals xs its/\s.heap.get? a=some { cls:=.type "list",data:=.seq its.toArray n }/\xs.length<=sizeLine:=by
 rcases h with h|⟨its,n,e,z,r⟩
 ·obtain⟨z,its,n,r,e⟩:=h.ok I.hok
  exact⟨its,n,r,e,z⟩
 ·exact⟨its,n,r,I.kIn a _ e,z⟩
def xS (a C:Addr):Heap->Prop:=λ h=>∃ o vs,h.get? a=some o/\o.cls=.ref C/\o.data=.fields vs
def Tbr (H:Hp):List Addr->List (List Int)->Prop
 | [],[]=>True
 | b::bs,r::rs=>Rd H b (.lst (r.map V.int))/\Tbr H bs rs
 | _,_=>False
theorem Tbr.same {H H':Hp}(e:∀ {b:Addr} {o:HO},Rd H b o->Rd H' b o):∀ {bs:List Addr} {rows:List (List Int)},Tbr H bs rows->Tbr H' bs rows
 | [],[],_=>Dl
 | b::bs,r::rs,h=>⟨e h.1,Tbr.same e h.2⟩
 | [],_::_,h=>h.elim
 | _::_,[],h=>h.elim
mutual
def Rp (K:Cd)(H:Hp):D->V->Prop
 | .non,v=>v=.non
 | .bl b,v=>v=.bl b
 | .int i,v=>v=.int i
 | .str x,v=>v=.str ⟨(Dv.clipS x).toArray⟩
 | .lst ds,v=>∃ a vs,v=.ref a/\SqX K H a vs/\RpL K H ds vs
 | .tup ds,v=>∃ a vs,v=.ref a/\Rd H a (.tup vs)/\RpL K H ds vs
 | .exn c,v=>∃ a C,v=.ref a/\Cq K mainGlobals (CG c)=some (some (.ref C))/\H a=some (.ext (xS a C))
 | .raw a,v=>v=.ref a
 | .tab rows,v=>∃ t bs,v=.ref t/\Rd H t (.lst (bs.map V.ref))/\t∉bs/\bs.Nodup/\Tbr H bs rows
 | .dct ks ds,v=>∃ a vs,v=.ref a/\ks.length=ds.length/\Rd H a (.dK ((ks.map Sum.inl).zip vs))/\RpL K H ds vs
 | .ins ns ds,v=>∃ a C dx fs vs,v=.ref a/\H a=some (.ins C dx fs)/\Cls K C/\ns.length=ds.length/\(∀ n u,(n,u)∈ns.zip vs->vS K C (CG n)/\fs.lookup (CG n)=some u)/\RpL K H ds vs
def RpL (K:Cd)(H:Hp):List D->List V->Prop
 | [],vs=>vs=[]
 | d::r,vs=>∃ v ws,vs=v::ws/\Rp K H d v/\RpL K H r ws
end
mutual
theorem Rp.same {K:Cd}{H H':Hp}(e:Same H H'):∀ {d:D} {v:V},Rp K H d v->Rp K H' d v
 | .non,_,h=>by unfold Rp at h ⊢;exact h
 | .bl _,_,h=>by unfold Rp at h ⊢;exact h
 | .int _,_,h=>by unfold Rp at h ⊢;exact h
 | .str _,_,h=>by unfold Rp at h ⊢;exact h
 | .raw _,_,h=>by unfold Rp at h ⊢;exact h
 | .tab _,v,h=>by
  unfold Rp at h ⊢;obtain⟨t,bs,h1,h2,h3,h4,h5⟩:=h;exact⟨t,bs,h1,Rd.same e h2,h3,h4,h5.same λ q=>Rd.same e q⟩
 | .lst ds,v,h=>by
  unfold Rp at h ⊢;obtain⟨a,vs,h1,h2,h3⟩:=h;exact⟨a,vs,h1,h2.same e,RpL.same e h3⟩
 | .tup ds,v,h=>by
  unfold Rp at h ⊢;obtain⟨a,vs,h1,h2,h3⟩:=h;exact⟨a,vs,h1,Rd.same e h2,RpL.same e h3⟩
 | .exn c,v,h=>by
  unfold Rp at h ⊢;obtain⟨a,C,h1,h2,h3⟩:=h;exact⟨a,C,h1,h2,e _ _ h3⟩
 | .dct ks ds,v,h=>by
  unfold Rp at h ⊢;obtain⟨a,vs,h1,h2,h3,h4⟩:=h;exact⟨a,vs,h1,h2,Rd.same e h3,RpL.same e h4⟩
 | .ins ns ds,v,h=>by
  unfold Rp at h ⊢;obtain⟨a,C,dx,fs,vs,h1,h2,h3,h4,h5,h6⟩:=h;exact⟨a,C,dx,fs,vs,h1,e _ _ h2,h3,h4,h5,RpL.same e h6⟩
theorem RpL.same {K:Cd}{H H':Hp}(e:Same H H'):∀ {ds:List D} {vs:List V},RpL K H ds vs->RpL K H' ds vs
 | [],_,h=>by unfold RpL at h ⊢;exact h
 | d::r,vs,h=>by
  unfold RpL at h ⊢;obtain⟨v,ws,h1,h2,h3⟩:=h;exact⟨v,ws,h1,Rp.same e h2,RpL.same e h3⟩
end
theorem RpL.length {K:Cd}{H:Hp}:∀ {ds:List D} {vs:List V},RpL K H ds vs->vs.length=ds.length
 | [],_,h=>by unfold RpL at h;subst h;rfl
 | d::r,vs,h=>by
  unfold RpL at h;obtain⟨v,ws,rfl,_,h3⟩:=h;rw[yE,yE,RpL.length h3]
theorem Rp.scal {K K':Cd}{H H':Hp}{d:D}{v:V}(f:Dv.scal d=true)(h:Rp K H d v):Rp K' H' d v:=by
 cases d with
 | lst ds=>exact absurd f (by simp[Dv.scal])
 | tup ds=>exact absurd f (by simp[Dv.scal])
 | exn c=>exact absurd f (by simp[Dv.scal])
 | raw c=>exact absurd f (by simp[Dv.scal])
 | tab c=>exact absurd f (by simp[Dv.scal])
 | dct ks ds=>exact absurd f (by simp[Dv.scal])
 | ins ks ds=>exact absurd f (by simp[Dv.scal])
 | _=>unfold Rp at h ⊢;exact h
theorem RpL.flat {K K':Cd}{H H':Hp}:∀ {ds:List D} {vs:List V},Dv.flatL ds=true->RpL K H ds vs->RpL K' H' ds vs
 | [],_,_,h=>by unfold RpL at h ⊢;exact h
 | d::r,vs,f,h=>by
  unfold Dv.flatL at f;rw[yL] at f;unfold RpL at h ⊢;obtain⟨v,ws,h1,h2,h3⟩:=h;exact⟨v,ws,h1,h2.scal f.1,RpL.flat f.2 h3⟩
theorem RpL.append {K:Cd}{H:Hp}:∀ {ds es:List D} {vs ws:List V},RpL K H ds vs->RpL K H es ws->RpL K H (ds++es) (vs++ws)
 | [],_,_,_,h,g=>by unfold RpL at h;subst h;exact g
 | d::r,es,vs,ws,h,g=>by
  unfold RpL at h;obtain⟨v,vs',rfl,h2,h3⟩:=h;rw[yP,yP];unfold RpL;exact⟨v,_,rfl,h2,RpL.append h3 g⟩
theorem RpL.get {K:Cd}{H:Hp}:∀ {ds:List D} {vs:List V} {i:Nat} {d:D},RpL K H ds vs->ds[i]?=some d->∃ v,vs[i]?=some v/\Rp K H d v
 | [],_,_,_,_,e=>by simp at e
 | x::r,vs,0,d,h,e=>by
  unfold RpL at h;obtain⟨v,ws,rfl,h2,_⟩:=h;simp at e;subst e;exact⟨v,rfl,h2⟩
 | x::r,vs,i+1,d,h,e=>by
  unfold RpL at h;obtain⟨v,ws,rfl,_,h3⟩:=h;obtain⟨u,h4,h5⟩:=RpL.get (i:=i) (d:=d) h3 (by simpa using e);exact⟨u,by simpa using h4,h5⟩
theorem RpL.cons {K:Cd}{H:Hp}{d:D}{v:V}{ds:List D}{vs:List V}(h:Rp K H d v)(g:RpL K H ds vs):RpL K H (d::ds) (v::vs):=by
 unfold RpL;exact⟨v,vs,rfl,h,g⟩
theorem RpL.nil {K:Cd}{H:Hp}:RpL K H [] []:=by unfold RpL;rfl
theorem RpL.set {K:Cd}{H:Hp}{d:D}{v:V}(g:Rp K H d v):∀ {ds:List D} {vs:List V} (i:Nat),RpL K H ds vs->RpL K H (ds.set i d) (vs.set i v)
 | [],_,i,h=>by unfold RpL at h;subst h;exact .nil
 | x::r,vs,0,h=>by
  unfold RpL at h;obtain⟨u,ws,rfl,_,h3⟩:=h;exact .cons g h3
 | x::r,vs,i+1,h=>by
  unfold RpL at h;obtain⟨u,ws,rfl,h2,h3⟩:=h;exact .cons h2 (RpL.set g i h3)
theorem RpL.ints {K:Cd}{H:Hp}:∀ {ds:List D} {vs:List V} {ns:List Int},Dv.intsOf ds=some ns->RpL K H ds vs->vs=ns.map V.int
 | [],vs,ns,e,h=>by
  simp[Dv.intsOf] at e;subst e;unfold RpL at h;exact h
 | d::r,vs,ns,e,h=>by
  unfold RpL at h;obtain⟨v,ws,rfl,h2,h3⟩:=h;cases d with
  | int i=>
   simp only[Dv.intsOf,Ad] at e;obtain⟨ms,e1,rfl⟩:=e;unfold Rp at h2;subst h2;rw[RpL.ints e1 h3,yB]
  | _=>simp[Dv.intsOf] at e
theorem RpL.ofInts {K:Cd}{H:Hp}:∀ (ns:List Int),RpL K H (ns.map .int) (ns.map V.int)
 | []=>.nil
 | n::r=>.cons (by unfold Rp;rfl) (RpL.ofInts r)
structure Ext (Hv H Hv' H':Hp):Prop where
 hh:Same H H'
 vv:Same Hv Hv'
 vh:Same Hv' H'
 new:∀ b o,Hv' b=some o->Hv b=none->H b=none
 all:∀ b,H b=none->Hv' b=H' b
 nf:∀ b o u,H b=none->H' b≠some (.frz o u)
theorem Ext.refl {Hv H:Hp}(e:Same Hv H):Ext Hv H Hv H:=⟨.refl _,.refl _,e,λ b o h n=>(by rw[n] at h;cases h),λ b h=>(by rw[h];exact e.free h),λ b o u h=>by rw[h];intro z;cases z⟩
theorem Ext.trans {Hv H Hv1 H1 Hv2 H2:Hp}(a:Ext Hv H Hv1 H1)(b:Ext Hv1 H1 Hv2 H2):Ext Hv H Hv2 H2:=
 ⟨a.hh.trans b.hh,a.vv.trans b.vv,b.vh,λ c o h n=>(by
  cases q:Hv1 c with
  | some u=>exact a.new c u q n
  | none=>exact a.hh.free (b.new c o h q)),λ c h=>by
  cases q:H1 c with
  | none=>exact b.all c q
  | some o=>rw[b.hh c o q];exact b.vv c o ((a.all c h).trans q),λ c o u h=>by
  cases q:H1 c with
  | none=>exact b.nf c o u q
  | some w=>rw[b.hh c w q,<- q];exact a.nf c o u h⟩
theorem eU {H:Hp}{p:Addr}(h:H p=none)(o:HO):Same H (upd H p o):=λ b u q=>by rw[ax (aB q h)];exact q
theorem Ext.new1 {Hv H:Hp}(e:Same Hv H){p:Addr}(h:H p=none)(o:HO)(ho:autoParam (∀ a u,o≠.frz a u) ZH._auto_1):Ext Hv H (upd Hv p o) (upd H p o):=by
 refine⟨eU h o,eU (e.free h) o,λ b u q=>?_,λ b u q n=>?_,λ b q=>?_,λ b a u q=>?_⟩
 ·by_cases hb:b=p
  ·subst hb;rw[aC] at q ⊢;exact q
  ·rw[ax hb] at q ⊢;exact e _ _ q
 ·by_cases hb:b=p
  ·subst hb;exact h
  ·rw[ax hb,n] at q;cases q
 ·by_cases hb:b=p
  ·subst hb;rw[aC,aC]
  ·rw[ax hb,ax hb,q];exact e.free q
 ·by_cases hb:b=p
  ·subst hb;rw[aC];exact λ z=>ho a u (Option.some.inj z)
  ·rw[ax hb,q];intro z;cases z
def Hnew (H H':Hp):Hp:=λ b=>match H b with
 | none=>H' b
 | some _=>none
theorem Hnew.mono {H H1 H2 H3:Hp}(a:Same H H1)(c:Same H2 H3):Same (Hnew H1 H2) (Hnew H H3):=λ b o h=>by
 unfold Hnew at h ⊢;cases q:H b with
 | some u=>rw[a b u q] at h;cases h
 | none=>
  cases q1:H1 b with
  | some u=>rw[q1] at h;cases h
  | none=>rw[q1] at h;exact c b o h
theorem Ext.news {Hv H Hv' H':Hp}(x:Ext Hv H Hv' H'):Same (Hnew H H') Hv':=λ b o h=>by
 unfold Hnew at h;cases q:H b with
 | some u=>rw[q] at h;cases h
 | none=>rw[q] at h;rw[x.all b q];exact h
theorem Hnew.sub {H H':Hp}:Same (Hnew H H') H':=λ b o h=>by
 unfold Hnew at h;cases q:H b with
 | some u=>rw[q] at h;cases h
 | none=>rw[q] at h;exact h
mutual
theorem Rp.frag {K:Cd}{H:Hp}:∀ {d:D} {v:V},Rp [] H d v->Rp K H d v
 | .non,_,h=>by unfold Rp at h ⊢;exact h
 | .bl _,_,h=>by unfold Rp at h ⊢;exact h
 | .int _,_,h=>by unfold Rp at h ⊢;exact h
 | .str _,_,h=>by unfold Rp at h ⊢;exact h
 | .raw _,_,h=>by unfold Rp at h ⊢;exact h
 | .tab _,_,h=>by unfold Rp at h ⊢;exact h
 | .lst ds,v,h=>by
  unfold Rp at h ⊢;obtain⟨a,vs,h1,h2,h3⟩:=h;refine⟨a,vs,h1,?_,RpL.frag h3⟩
  rcases h2 with h2|⟨its,n,e,_⟩
  ·exact .inl h2
  ·simp at e
 | .tup ds,v,h=>by
  unfold Rp at h ⊢;obtain⟨a,vs,h1,h2,h3⟩:=h;exact⟨a,vs,h1,h2,RpL.frag h3⟩
 | .exn c,v,h=>by
  unfold Rp at h;obtain⟨a,C,h1,h2,h3⟩:=h;simp[Cq] at h2
 | .dct ks ds,v,h=>by
  unfold Rp at h ⊢;obtain⟨a,vs,h1,h2,h3,h4⟩:=h;exact⟨a,vs,h1,h2,h3,RpL.frag h4⟩
 | .ins ns ds,v,h=>by
  unfold Rp at h;obtain⟨a,C,dx,fs,vs,h1,h2,h3,h4,h5,h6⟩:=h;exact absurd h3.sa (by simp[Dr])
theorem RpL.frag {K:Cd}{H:Hp}:∀ {ds:List D} {vs:List V},RpL [] H ds vs->RpL K H ds vs
 | [],_,h=>by unfold RpL at h ⊢;exact h
 | d::r,vs,h=>by
  unfold RpL at h ⊢;obtain⟨v,ws,h1,h2,h3⟩:=h;exact⟨v,ws,h1,Rp.frag h2,RpL.frag h3⟩
end
def Ok (K:Cd)(Hv H:Hp)(W:XK)(cls:String->Value)(r:R)(Q:VK):Prop:=match r with
 | .ok d fr=>∀ v Hv' H',Ext Hv H Hv' H'->Rp K Hv' d v->(fr=true->Rp [] (Hnew H H') d v)->Q v H'
 | .exc c=>∀ Hv' H',Ext Hv H Hv' H'->W (cls c) none H'
 | .bad=>False
def OkL (K:Cd)(Hv H:Hp)(W:XK)(cls:String->Value)(r:RL)(Q:List V->Hp->Prop):Prop:=match r with
 | .ok ds fr=>∀ vs Hv' H',Ext Hv H Hv' H'->RpL K Hv' ds vs->(fr=true->RpL [] (Hnew H H') ds vs)->Q vs H'
 | .exc c=>∀ Hv' H',Ext Hv H Hv' H'->W (cls c) none H'
 | .bad=>False
def EnvR (K:Cd)(Hv:Hp)(ρ:Dv.Env)(σ:St):Prop:=∀ (i:Nat) (d:D),ρ[i]?=some (some d)->∃ v,σ[i]?=some (some v)/\Rp K Hv d v
theorem EnvR.same {K:Cd}{Hv Hv':Hp}{ρ:Dv.Env}{σ:St}(e:Same Hv Hv')(h:EnvR K Hv ρ σ):EnvR K Hv' ρ σ:=λ i d q=>
 let ⟨v,h1,h2⟩:=h i d q;⟨v,h1,h2.same e⟩
structure Ctx where
 X:Cx
 W:St->XK
 cls:String->Value
 CX:CXT
 un:X.A.units+64<cLine
 own:PassesOwn (model X.prog X.w) X.A X.env X.xe
 pass:∀ (pins:List (Addr×Obj)) (σ:St) (H:Hp) (s:Shared) (e:Value) (s':Shared),Inv X pins σ H s->CX X.stack H s (W σ) e s'->X.xe e s'
 cxF:∀ (outer:List CH) (H:Hp) (s:Shared) (e:Value) (s':Shared),CX outer H s (λ _ _ _=>False) e s'->False
def Tak (C:Ctx)(t:TE)(f:EE):Prop:=∀ σ H Hv ρ Q,EnvR C.X.K Hv ρ σ->Same Hv H->Ok C.X.K Hv H (C.W σ) C.cls (f ρ) Q->t σ H Q
def TakL (C:Ctx)(t:TA)(f:EL):Prop:=∀ σ H Hv ρ Q,EnvR C.X.K Hv ρ σ->Same Hv H->OkL C.X.K Hv H (C.W σ) C.cls (f ρ) Q->t σ H Q
def SE (C:Ctx)(e:Expr)(f:EE):Prop:=∃ t:TE,PE C.X e t/\Tak C t f
def SL (C:Ctx)(es:List Expr)(f:EL):Prop:=∃ t:TA,PA C.X es t/\TakL C t f/\∀ ρ ds fr,f ρ=.ok ds fr->ds.length=es.length
def SC (C:Ctx)(e:Expr)(f:EE):Prop:=
 ∃ t:TT,PT C.X e t/\∀ σ H Hv ρ Q,EnvR C.X.K Hv ρ σ->Same Hv H->Ok C.X.K Hv H (C.W σ) C.cls (f ρ) (λ v H'=>∃ b,v=.bl b/\Q b H')->t σ H Q
theorem Ok.later {K:Cd}{Hv H Hv1 H1:Hp}{W:XK}{cls:String->Value}{r:R}{Q:VK}(x:Ext Hv H Hv1 H1)(h:Ok K Hv H W cls r Q):Ok K Hv1 H1 W cls r Q:=by
 cases r with
 | ok d fr=>exact λ v Hv' H' y r n=>h v Hv' H' (x.trans y) r λ z=>(n z).same (Hnew.mono x.hh (.refl _))
 | exc c=>exact λ Hv' H' y=>h Hv' H' (x.trans y)
 | bad=>exact h
theorem Ok.now {K:Cd}{Hv H:Hp}{W:XK}{cls:String->Value}{d:D}{fr:Bool}{Q:VK}{v:V}(h:Ok K Hv H W cls (.ok d fr) Q)(e:Same Hv H)(r:Rp K Hv d v)(z:Dv.scal d=true):Q v H:=
 h v Hv H (.refl e) r λ _=>r.scal z
theorem Ok.at {K:Cd}{Hv H Hv1 H1:Hp}{W:XK}{cls:String->Value}{d:D}{fr:Bool}{Q:VK}{v:V}(h:Ok K Hv H W cls (.ok d fr) Q)(x:Ext Hv H Hv1 H1)(r:Rp K Hv1 d v)(z:Dv.scal d=true):Q v H1:=
 h v Hv1 H1 x r λ _=>r.scal z
theorem Ok.newL {K:Cd}{Hv H Hv1 H1:Hp}{W:XK}{cls:String->Value}{ds:List D}{fr:Bool}{Q:VK}{vs:List V}(h:Ok K Hv H W cls (.ok (.lst ds) fr) Q)(x:Ext Hv H Hv1 H1)(r:RpL K Hv1 ds vs)
  (n:fr=true->RpL [] (Hnew H H1) ds vs) (p:Addr) (hp:H1 p=none):Q (.ref p) (upd H1 p (.lst vs)):=by
 have y:=Ext.new1 x.vh hp (.lst vs);refine h _ _ _ (x.trans y) ?_ λ z=>?_
 ·unfold Rp
  exact⟨p,vs,rfl,SqX.of aC,r.same y.vv⟩
 ·unfold Rp
  have hH:H p=none:=x.hh.free hp;refine⟨p,vs,rfl,SqX.of (by unfold Hnew;rw[hH];exact aC),(n z).same (Hnew.mono (.refl _) y.hh)⟩
theorem Ok.newT {K:Cd}{Hv H Hv1 H1:Hp}{W:XK}{cls:String->Value}{ds:List D}{fr:Bool}{Q:VK}{vs:List V}(h:Ok K Hv H W cls (.ok (.tup ds) fr) Q)(x:Ext Hv H Hv1 H1)(r:RpL K Hv1 ds vs)
  (n:fr=true->RpL [] (Hnew H H1) ds vs) (p:Addr) (hp:H1 p=none):Q (.ref p) (upd H1 p (.tup vs)):=by
 have y:=Ext.new1 x.vh hp (.tup vs);refine h _ _ _ (x.trans y) ?_ λ z=>?_
 ·unfold Rp
  exact⟨p,vs,rfl,.inl aC,r.same y.vv⟩
 ·unfold Rp
  have hH:H p=none:=x.hh.free hp;refine⟨p,vs,rfl,.inl (by unfold Hnew;rw[hH];exact aC),(n z).same (Hnew.mono (.refl _) y.hh)⟩
section
variable {C:Ctx}{a b c:Expr}{es:List Expr}{f g h:EE}{fl:EL}{ta tb tc:TE}{tl:TA}{pos:Pos}
theorem Tak.step (qa:Tak C ta f){σ:St}{H Hv Hv1 H1:Hp}{ρ:Dv.Env}{Q T:VK}{k:D->Bool->R}(e:EnvR C.X.K Hv ρ σ)(x:Ext Hv H Hv1 H1)(q:Ok C.X.K Hv H (C.W σ) C.cls ((f ρ).bind k) Q)
  (next:∀ v d fr Hv2 H2,f ρ=.ok d fr->Ext Hv H Hv2 H2->Ext Hv1 H1 Hv2 H2->Rp C.X.K Hv2 d v->(fr=true->Rp [] (Hnew H H2) d v)->Ok C.X.K Hv H (C.W σ) C.cls (k d fr) Q->T v H2):ta σ H1 T:=by
 refine qa σ H1 Hv1 ρ _ (e.same x.vv) x.vh ?_
 cases hf:f ρ with
 | bad=>rw[hf] at q;exact q
 | exc c=>rw[hf] at q;exact λ Hv' H' y=>q Hv' H' (x.trans y)
 | ok d fr=>
  rw[hf] at q;exact λ v Hv2 H2 y r n=>next v d fr Hv2 H2 hf (x.trans y) y r (λ z=>(n z).same (Hnew.mono x.hh (.refl _))) q
theorem TakL.step (qa:TakL C tl fl){σ:St}{H Hv Hv1 H1:Hp}{ρ:Dv.Env}{Q:VK}{T:List V->Hp->Prop}{k:List D->Bool->R}(e:EnvR C.X.K Hv ρ σ)(x:Ext Hv H Hv1 H1)(q:Ok C.X.K Hv H (C.W σ) C.cls ((fl ρ).bind k) Q)
  (next:∀ vs ds fr Hv2 H2,fl ρ=.ok ds fr->Ext Hv H Hv2 H2->Ext Hv1 H1 Hv2 H2->RpL C.X.K Hv2 ds vs->(fr=true->RpL [] (Hnew H H2) ds vs)->Ok C.X.K Hv H (C.W σ) C.cls (k ds fr) Q->T vs H2):tl σ H1 T:=by
 refine qa σ H1 Hv1 ρ _ (e.same x.vv) x.vh ?_
 cases hf:fl ρ with
 | bad=>rw[hf] at q;exact q
 | exc c=>rw[hf] at q;exact λ Hv' H' y=>q Hv' H' (x.trans y)
 | ok d fr=>
  rw[hf] at q;exact λ v Hv2 H2 y r n=>next v d fr Hv2 H2 hf (x.trans y) y r (λ z=>(n z).same (Hnew.mono x.hh (.refl _))) q
theorem aa (i:Nat){x:Str}(hN:autoParam (C.X.N[i]?=some x) ZE._auto_1)(hv:autoParam (Vis C.X.env.scope x) ZG._auto_1)(hd:autoParam ((x == ("__debug__":Str))=false) ZC._auto_1)
  (hcd:autoParam ((x == ("__classdict__":Str))=false) ZC._auto_1):SE C (.Name x pos) (Dv.eVar i):=by
 refine⟨gz i,cL hN hv hd hcd,λ σ H Hv ρ Q e s q=>?_⟩;unfold Dv.eVar at q;cases r:ρ[i]? with
 | none=>rw[r] at q;exact q.elim
 | some o=>
  cases o with
  | none=>rw[r] at q;exact q.elim
  | some d=>
   rw[r] at q;obtain⟨v,h1,h2⟩:=e i d r;exact⟨v,h1,q v Hv H (.refl s) h2 λ z=>h2.scal z⟩
theorem af {i:Int}{j:Nat}:SE C (.Constant (.int i) j pos) (Dv.eInt i):=
 ⟨_,jH,λ _ _ _ _ _ _ s q=>q.now (v:=.int i) s (by unfold Rp;rfl) rfl⟩
theorem de {i:Bool}{j:Nat}:SE C (.Constant (.bool i) j pos) (Dv.eBl i):=
 ⟨_,xI,λ _ _ _ _ _ _ s q=>q.now (v:=.bl i) s (by unfold Rp;rfl) rfl⟩
def OpS (C:Ctx)(op:Value->Value->Sem Value)(F:D->D->R):Prop:=
 ∃ r:R2,OpR C.X op r/\∀ x y d d' H Hv H1 Hv1 W Q,Ext Hv H Hv1 H1->Rp C.X.K Hv1 d x->Rp C.X.K Hv1 d' y->Ok C.X.K Hv H W C.cls (F d d') Q->r x y H1 Q
theorem j5 {op:Value->Value->Sem Value}{F:D->D->R}{r:R2}(hr:∀ x y d d' H Hv H1 Hv1 W Q,Ext Hv H Hv1 H1->Rp C.X.K Hv1 d x->Rp C.X.K Hv1 d' y->Ok C.X.K Hv H W C.cls (F d d') Q->r x y H1 Q)
  (qa:Tak C ta f) (qb:Tak C tb g):Tak C (tOp r ta tb) (λ ρ=>(f ρ).bind λ x _=>(g ρ).bind λ y _=>F x y):=λ σ H Hv ρ Q e s q=>
 qa.step e (.refl s) q λ v d fr Hv1 H1 _ x1 _ rp1 _ q1=>qb.step e x1 q1 λ v2 d2 fr2 Hv2 H2 _ x2 y2 rp2 _ q2=>
  hr v v2 d d2 H Hv H2 Hv2 _ Q x2 (rp1.same y2.vv) rp2 q2
theorem fB {op:Operator}{F:D->D->R}(o:OpS C (binaryOp op) F)(ha:SE C a f)(hb:SE C b g):SE C (.BinOp a op b pos) (λ ρ=>(f ρ).bind λ x _=>(g ρ).bind λ y _=>F x y):=by
 obtain⟨r,ho,hr⟩:=o;obtain⟨ta,pa,qa⟩:=ha;obtain⟨tb,pb,qb⟩:=hb;exact⟨_,uQ ho pa pb,j5 (op:=binaryOp op) hr qa qb⟩
theorem vX {op:CmpOp}{F:D->D->R}(o:OpS C (compareOp op) F)(ha:SE C a f)(hb:SE C b g)(hm:behindInMarks op b=false):SE C (.Compare a [op] [b] pos) (λ ρ=>(f ρ).bind λ x _=>(g ρ).bind λ y _=>F x y):=by
 obtain⟨r,ho,hr⟩:=o;obtain⟨ta,pa,qa⟩:=ha;obtain⟨tb,pb,qb⟩:=hb;exact⟨_,ka ho pa pb hm,j5 (op:=compareOp op) hr qa qb⟩
theorem eG {op:CmpOp}{F:D->D->R}(o:OpS C (compareOp op) F)(ha:SE C a f)(hb:SE C b g)(hm:behindInMarks op b=false):SC C (.Compare a [op] [b] pos) (λ ρ=>(f ρ).bind λ x _=>(g ρ).bind λ y _=>F x y):=by
 obtain⟨r,ho,hr⟩:=o;obtain⟨ta,pa,qa⟩:=ha;obtain⟨tb,pb,qb⟩:=hb;exact⟨_,tO ho pa pb hm,λ σ H Hv ρ Q e s q=>j5 (op:=compareOp op) hr qa qb σ H Hv ρ _ e s q⟩
theorem bN (ha:SE C a f)(he:autoParam (∀ whole,isTrue a C.X.env whole=(do let v <- whole;standAt a.pos;holding [v] (truthy v))) ZD._auto_1):SC C a f:=by
 obtain⟨t,p,q⟩:=ha;exact⟨_,vp p he,λ σ H Hv ρ Q e s w=>q σ H Hv ρ _ e s w⟩
def SW (C:Ctx)(e:Expr)(f:EE):Prop:=
 ∃ t:TT,PW C.X e t/\∀ σ H Hv ρ Q,EnvR C.X.K Hv ρ σ->Same Hv H->Ok C.X.K Hv H (C.W σ) C.cls (f ρ) (λ v H'=>∃ b,v=.bl b/\Q b H')->t σ H Q
def TakC (C:Ctx)(t:TT)(f:EE):Prop:=∀ σ H Hv ρ Q,EnvR C.X.K Hv ρ σ->Same Hv H->Ok C.X.K Hv H (C.W σ) C.cls (f ρ) (λ v H'=>∃ b,v=.bl b/\Q b H')->t σ H Q
theorem TakC.step {tt:TT}(qa:TakC C tt f){σ:St}{H Hv Hv1 H1:Hp}{ρ:Dv.Env}{Q:VK}{T:Bool->Hp->Prop}{k:D->Bool->R}(e:EnvR C.X.K Hv ρ σ)(x:Ext Hv H Hv1 H1)(q:Ok C.X.K Hv H (C.W σ) C.cls ((f ρ).bind k) Q)
  (nb:∀ d fr,f ρ=.ok d fr->(∀ b,d≠.bl b)->k d fr=.bad)
  (next:∀ b fr Hv2 H2,f ρ=.ok (.bl b) fr->Ext Hv H Hv2 H2->Ext Hv1 H1 Hv2 H2->Ok C.X.K Hv H (C.W σ) C.cls (k (.bl b) fr) Q->T b H2):tt σ H1 T:=by
 refine qa σ H1 Hv1 ρ _ (e.same x.vv) x.vh ?_
 cases hf:f ρ with
 | bad=>rw[hf] at q;exact q
 | exc c=>rw[hf] at q;exact λ Hv' H' y=>q Hv' H' (x.trans y)
 | ok d fr=>
  intro v Hv2 H2 y r n;cases d with
  | bl b=>
   unfold Rp at r;rw[hf] at q;exact⟨b,r,next b fr Hv2 H2 hf (x.trans y) y q⟩
  | _=>
   have z:=nb _ _ hf (by intro b z;cases z);rw[hf] at q;have q':Ok C.X.K Hv H (C.W σ) C.cls (k _ fr) Q:=q;rw[z] at q';exact q'.elim
theorem bJ (op:BoolOp)(ha:SC C a f):SW C (.BoolOp op [a] pos) f:=by
 obtain⟨t,p,q⟩:=ha;cases op with
 | And=>exact⟨t,tZ p,q⟩
 | Or=>exact⟨t,we p,q⟩
theorem wx {rest:List Expr}(ha:SC C a f)(hb:SW C (.BoolOp .And (b::rest) pos) g):SW C (.BoolOp .And (a::b::rest) pos) (Dv.eAnd f g):=by
 obtain⟨t,p,q⟩:=ha;obtain⟨u,p2,q2⟩:=hb;refine⟨_,v5 p p2,λ σ H Hv ρ Q e s w=>?_⟩;refine TakC.step q e (.refl s) w (λ d fr _ nb=>by cases d <;>first|rfl|exact absurd rfl (nb _)) λ b fr Hv2 H2 hf x y w2=>?_
 cases b with
 | true=>exact pV (q2 σ H2 Hv2 ρ _ (e.same x.vv) x.vh (Ok.later x (show Ok _ _ _ _ _ (g ρ) _ from w2)))
 | false=>
  obtain⟨b,e1,q3⟩:=(show Ok C.X.K Hv H (C.W σ) C.cls (.ok (.bl false) true) (λ v H'=>∃ b,v=.bl b/\Q b H') from w2).at (v:=.bl false) x (by unfold Rp;rfl) rfl;cases e1;exact rM q3
theorem bV {rest:List Expr}(ha:SC C a f)(hb:SW C (.BoolOp .Or (b::rest) pos) g):SW C (.BoolOp .Or (a::b::rest) pos) (Dv.eOr f g):=by
 obtain⟨t,p,q⟩:=ha;obtain⟨u,p2,q2⟩:=hb;refine⟨_,xt p p2,λ σ H Hv ρ Q e s w=>?_⟩;refine TakC.step q e (.refl s) w (λ d fr _ nb=>by cases d <;>first|rfl|exact absurd rfl (nb _)) λ b fr Hv2 H2 hf x y w2=>?_
 cases b with
 | false=>exact rM (q2 σ H2 Hv2 ρ _ (e.same x.vv) x.vh (Ok.later x (show Ok _ _ _ _ _ (g ρ) _ from w2)))
 | true=>
  obtain⟨b,e1,q3⟩:=(show Ok C.X.K Hv H (C.W σ) C.cls (.ok (.bl true) true) (λ v H'=>∃ b,v=.bl b/\Q b H') from w2).at (v:=.bl true) x (by unfold Rp;rfl) rfl;cases e1;exact pV q3
theorem fm (h:SW C a f):SC C a f:=let ⟨t,p,q⟩:=h;⟨t,p.pt,q⟩
theorem bX (ha:SC C a f):SC C (.UnaryOp .Not a pos) (Dv.eNot f):=by
 obtain⟨t,p,q⟩:=ha;refine⟨_,vF p,λ σ H Hv ρ Q e s w=>?_⟩;refine TakC.step q e (.refl s) w (λ d fr _ nb=>by cases d <;>first|rfl|exact absurd rfl (nb _)) λ b fr Hv2 H2 hf x y w2=>?_
 obtain⟨b',e1,q3⟩:=(show Ok C.X.K Hv H (C.W σ) C.cls (.ok (.bl (!b)) true) (λ v H'=>∃ b,v=.bl b/\Q b H') from w2).at (v:=.bl (!b)) x (by unfold Rp;rfl) rfl;cases e1;exact q3
theorem md {op:BoolOp}(ha:SE C a f):SE C (.BoolOp op [a] pos) f:=let ⟨t,p,q⟩:=ha;⟨t,sG p,q⟩
theorem l4 {rest:List Expr}(ha:SE C a f)(hb:SE C (.BoolOp .And (b::rest) pos) g):SE C (.BoolOp .And (a::b::rest) pos) (Dv.eAnd f g):=by
 obtain⟨t,p,q⟩:=ha;obtain⟨u,p2,q2⟩:=hb;refine⟨_,sx p p2,λ σ H Hv ρ Q e s w=>?_⟩;refine Tak.step q e (.refl s) w λ v d fr Hv2 H2 hf x y rp n w2=>?_
 cases d with
 | bl c=>
  unfold Rp at rp;refine⟨c,rp,?_⟩;cases c with
  | true=>exact pV (q2 σ H2 Hv2 ρ _ (e.same x.vv) x.vh (Ok.later x (show Ok _ _ _ _ _ (g ρ) _ from w2)))
  | false=>exact rM ((show Ok C.X.K Hv H (C.W σ) C.cls (.ok (.bl false) true) Q from w2).at (v:=.bl false) x (by unfold Rp;rfl) rfl)
 | _=>exact Zf w2
theorem vY (ha:SE C a f):SE C (.UnaryOp .Not a pos) (Dv.eNot f):=by
 obtain⟨t,p,q⟩:=ha;refine⟨_,wG p,λ σ H Hv ρ Q e s w=>?_⟩;refine Tak.step q e (.refl s) w λ v d fr Hv2 H2 hf x y rp n w2=>?_
 cases d with
 | bl c=>
  unfold Rp at rp;exact⟨c,rp,(show Ok C.X.K Hv H (C.W σ) C.cls (.ok (.bl (!c)) true) Q from w2).at (v:=.bl (!c)) x (by unfold Rp;rfl) rfl⟩
 | _=>exact Zf w2
theorem vU (ha:SE C a f):SE C (.UnaryOp .USub a pos) (Dv.eNeg f):=by
 obtain⟨t,p,q⟩:=ha;refine⟨_,xK vg p,λ σ H Hv ρ Q e s w=>?_⟩;refine Tak.step q e (.refl s) w λ v d fr Hv2 H2 hf x y rp n w2=>?_
 cases d with
 | int i=>
  unfold Rp at rp;exact⟨i,rp,(show Ok C.X.K Hv H (C.W σ) C.cls (.ok (.int (-i)) true) Q from w2).at (v:=.int (-i)) x (by unfold Rp;rfl) rfl⟩
 | _=>exact Zf w2
theorem ag:SL C [] Dv.lNil:=⟨_,bC,λ σ H Hv ρ Q e s q=>q [] Hv H (.refl s) .nil λ _=>.nil,λ ρ ds fr h=>by cases h;rfl⟩
theorem ae (ha:SE C a f)(hr:SL C es fl)(hs:autoParam (starEach (a::es) C.X.env=(false,eval a C.X.env)::starEach es C.X.env) ZE._auto_1):SL C (a::es) (Dv.lCons f fl):=by
 obtain⟨t,p,q⟩:=ha;obtain⟨u,p2,q2,l2⟩:=hr;refine⟨_,aN p p2 hs,λ σ H Hv ρ Q e s w=>?_,λ ρ ds fr h=>?_⟩
 rotate_left
 ·unfold Dv.lCons at h
  cases hf:f ρ with
  | bad=>rw[hf] at h;cases h
  | exc c=>rw[hf] at h;cases h
  | ok d f1=>
   cases hg:fl ρ with
   | bad=>rw[hf,hg] at h;cases h
   | exc c=>rw[hf,hg] at h;cases h
   | ok d2 f2=>
    rw[hf,hg] at h;cases h;rw[yE,yE,l2 ρ d2 f2 hg]
 unfold Dv.lCons at w;refine q σ H Hv ρ _ e s ?_
 cases hf:f ρ with
 | bad=>rw[hf] at w;exact w
 | exc c=>rw[hf] at w;exact w
 | ok d fr=>
  rw[hf] at w;intro v Hv1 H1 x1 r1 n1;refine q2 σ H1 Hv1 ρ _ (e.same x1.vv) x1.vh ?_
  cases hg:fl ρ with
  | bad=>rw[hg] at w;exact w
  | exc c=>rw[hg] at w;exact λ Hv' H' y=>w Hv' H' (x1.trans y)
  | ok ds fr2=>
   rw[hg] at w;intro vs Hv2 H2 x2 r2 n2;refine w (v::vs) Hv2 H2 (x1.trans x2) (.cons (r1.same x2.vv) r2) λ z=>?_
   have z':fr=true/\fr2=true:=by simpa using z
   exact .cons ((n1 z'.1).same (Hnew.mono (.refl _) x2.hh)) ((n2 z'.2).same (Hnew.mono x1.hh (.refl _)))
theorem cF {n:Nat}(h:n<=Dv.mx):n<=sizeLine:=by
 unfold Dv.mx at h;rw[CF];omega
theorem be (h:SL C es fl)(hz:autoParam (es.length<=Dv.mx) ZC._auto_1):SE C (.List es pos) (Dv.eLst fl):=by
 obtain⟨t,p,q,hn⟩:=h;refine⟨_,vd p,λ σ H Hv ρ Q e s w=>?_⟩;refine TakL.step q e (.refl s) w λ vs ds fr Hv2 H2 hf x y rp n w2=>⟨?_,λ p hp=>?_⟩
 ·rw[rp.length,hn ρ ds fr hf];exact cF hz
 ·exact Ok.newL w2 x rp n p hp
theorem aD {k}(h:SL C es fl)(hz:autoParam (es.length<=Dv.mx) ZC._auto_1):SE C (.Tuple es k pos) (Dv.eTup fl):=by
 obtain⟨t,p,q,hn⟩:=h;refine⟨_,wF p,λ σ H Hv ρ Q e s w=>?_⟩;refine TakL.step q e (.refl s) w λ vs ds fr Hv2 H2 hf x y rp n w2=>⟨?_,λ p hp=>?_⟩
 ·rw[rp.length,hn ρ ds fr hf];exact cF hz
 ·exact Ok.newT w2 x rp n p hp
end
section
variable {C:Ctx}{a b c:Expr}{es:List Expr}{f g h:EE}{fl:EL}{pos:Pos}
theorem pW {op:Value->Value->Sem Value}{K:Int->Int->Prop}{G:Int->Int->V}{F:D->D->R}(o:OpR C.X op (rI K G))
  (hF:∀ d d',(∃ i j x,d=.int i/\d'=.int j/\K i j/\F d d'=.ok x true/\Dv.scal x=true/\∀ K' H',Rp K' H' x (G i j))\/F d d'=.bad):OpS C op F:=by
 refine⟨_,o,λ x y d d' H Hv H1 Hv1 W Q e rx ry q=>?_⟩
 rcases hF d d' with ⟨i,j,z,rfl,rfl,hk,hz,hs,hr⟩|hb
 ·unfold Rp at rx ry
  rw[hz] at q;exact⟨i,j,rx,ry,hk,q.at e (hr _ _) hs⟩
 ·rw[hb] at q;exact q.elim
theorem gA {op:Value->Value->Sem Value}{G:Int->Int->V}{F:D->D->R}(o:OpR C.X op (rI0 G))
  (hF:∀ d d',(∃ i j x,d=.int i/\d'=.int j/\F d d'=.ok x true/\Dv.scal x=true/\∀ K' H',Rp K' H' x (G i j))\/F d d'=.bad):OpS C op F:=by
 refine⟨_,o,λ x y d d' H Hv H1 Hv1 W Q e rx ry q=>?_⟩
 rcases hF d d' with ⟨i,j,z,rfl,rfl,hz,hs,hr⟩|hb
 ·unfold Rp at rx ry
  rw[hz] at q;exact⟨i,j,rx,ry,q.at e (hr _ _) hs⟩
 ·rw[hb] at q;exact q.elim
theorem bE {K:Cd}{H:Hp}{i:Int}:Rp K H (.int i) (.int i):=by unfold Rp;rfl
theorem eA {K:Cd}{H:Hp}{i:Bool}:Rp K H (.bl i) (.bl i):=by unfold Rp;rfl
theorem rJ {K:Cd}{H:Hp}:Rp K H .non .non:=by unfold Rp;rfl
theorem wu:OpS C (binaryOp .Sub) (Dv.opD .sub):=gA vj λ d d'=>by
 cases d <;>first
  | exact .inr rfl
  | (cases d' <;>first
   | exact .inr rfl
   | exact .inl ⟨_,_,_,rfl,rfl,rfl,rfl,λ _ _=>bE⟩)
theorem vk:OpS C (binaryOp .Mod) (Dv.opD .mod):=pW vQ λ d d'=>by
 cases d with
 | int i=>
  cases d' with
  | int j=>
   by_cases h:0<j
   ·exact .inl ⟨i,j,.int (i%j),rfl,rfl,h,by simp[Dv.opD_ai,Dv.opD_al,Dv.opD_su,Dv.opD_mi,Dv.opD_ml,Dv.opD_mo,Dv.opD_fd,Dv.opD_po,Dv.opD_ba,Dv.opD_sh,h],rfl,λ _ _=>bE⟩
   ·exact .inr (by simp[Dv.opD_ai,Dv.opD_al,Dv.opD_su,Dv.opD_mi,Dv.opD_ml,Dv.opD_mo,Dv.opD_fd,Dv.opD_po,Dv.opD_ba,Dv.opD_sh,h])
  | _=>exact .inr rfl
 | _=>exact .inr rfl
theorem sk:OpR C.X (binaryOp .FloorDiv) (rI (λ _ j=>0<j/\j.natAbs.log2<9000) λ i j=>.int (i/j)):=opI λ i j _ _ _ _ _ hc q=>by
 have h1:(0:Int)<j:=hc.1;exact floordiv_int ⋯ (by rw[Int.fdiv_eq_ediv_of_nonneg i ⋯];exact q) (.inl (PyProof.noPylong_of_log2 hc.2))
theorem ua:OpS C (binaryOp .FloorDiv) (Dv.opD .fdiv):=pW sk λ d d'=>by
 cases d with
 | int i=>
  cases d' with
  | int j=>
   by_cases h:Dv.divOk j=true
   ·refine .inl ⟨i,j,.int (i/j),rfl,rfl,?_,by simp[Dv.opD_ai,Dv.opD_al,Dv.opD_su,Dv.opD_mi,Dv.opD_ml,Dv.opD_mo,Dv.opD_fd,Dv.opD_po,Dv.opD_ba,Dv.opD_sh,h],rfl,λ _ _=>bE⟩
    unfold Dv.divOk at h;simpa using h
   ·exact .inr (by simp[Dv.opD_ai,Dv.opD_al,Dv.opD_su,Dv.opD_mi,Dv.opD_ml,Dv.opD_mo,Dv.opD_fd,Dv.opD_po,Dv.opD_ba,Dv.opD_sh,h])
  | _=>exact .inr rfl
 | _=>exact .inr rfl
theorem wg:OpS C (binaryOp .Pow) (Dv.opD .pow):=pW v8 λ d d'=>by
 cases d with
 | int i=>
  cases d' with
  | int j=>
   by_cases h:(decide (0<=j)&&decide (j<=1000)&&decide (i.natAbs<1000000))=true
   ·refine .inl ⟨i,j,.int (i ^ j.toNat),rfl,rfl,?_,by simp only[Dv.opD_ai,Dv.opD_al,Dv.opD_su,Dv.opD_mi,Dv.opD_ml,Dv.opD_mo,Dv.opD_fd,Dv.opD_po,Dv.opD_ba,Dv.opD_sh,h];rfl,rfl,λ _ _=>bE⟩
    simp only[yL,decide_eq_true_eq] at h;exact⟨h.1.1,⋯,⋯⟩
   ·exact .inr (by simp only[Dv.opD_ai,Dv.opD_al,Dv.opD_su,Dv.opD_mi,Dv.opD_ml,Dv.opD_mo,Dv.opD_fd,Dv.opD_po,Dv.opD_ba,Dv.opD_sh,h];rfl)
  | _=>exact .inr rfl
 | _=>exact .inr rfl
def wO (K:Cd):R2:=λ x y H Q=>∃ l b xs zs,x=.ref l/\y=.ref b/\SqX K H l xs/\SqX K H b zs/\xs.length+zs.length<=sizeLine/\∀ p,H p=none->Q (.ref p) (upd H p (.lst (xs++zs)))
theorem ur {X:Cx}:OpR X (binaryOp .Add) (wO X.K):=by
 intro pins s σ H x y v u Q I rx ry h;obtain⟨l,b,xs,zs,rfl,rfl,hH,hB,hz,q⟩:=h;cases rx;cases ry;obtain⟨its,n,r,e,z⟩:=Inv.listX I hH;obtain⟨its2,n2,r2,e2,z2⟩:=Inv.listX I hB;have hl:=r.length;have hl2:=r2.length;refine PySem.P.add_list e e2 ?_ (by rw[yS,yS];omega)
 have ea:its.toArray++its2.toArray=(its++its2).toArray:=by simp
 rw[ea];exact⟨.ref _,_,I.lnew (t':=s.toks) (r.append r2) (by rw[yY];omega),rfl,q _ I.fresh⟩
theorem vW:OpS C (binaryOp .Add) (Dv.opD .add):=by
 refine⟨_,OpR.or r8 ur,λ x y d d' H Hv H1 Hv1 W Q e rx ry q=>?_⟩;cases d with
 | int i=>
  cases d' with
  | int j=>
   unfold Rp at rx ry;exact .inl ⟨i,j,rx,ry,(show Ok _ _ _ _ _ (.ok (.int (i+j)) true) Q from q).at e bE rfl⟩
  | _=>exact Zf q
 | lst xs=>
  cases d' with
  | lst ys=>
   unfold Rp at rx ry;obtain⟨l,vs,rfl,h1,h2⟩:=rx;obtain⟨m,ws,rfl,h3,h4⟩:=ry;by_cases hz:xs.length+ys.length<=Dv.mx
   ·have q':Ok C.X.K Hv H W C.cls (.ok (.lst (xs++ys)) (Dv.flatL xs&&Dv.flatL ys)) Q:=by simpa[Dv.opD_ai,Dv.opD_al,Dv.opD_su,Dv.opD_mi,Dv.opD_ml,Dv.opD_mo,Dv.opD_fd,Dv.opD_po,Dv.opD_ba,Dv.opD_sh,hz] using q
    refine .inr ⟨l,m,vs,ws,rfl,rfl,h1.same e.vh,h3.same e.vh,?_,λ p hp=>Ok.newL q' e (h2.append h4) (λ z=>?_) p hp⟩
    ·rw[h2.length,h4.length];exact cF hz
    ·rw[yL] at z
     exact(h2.flat z.1).append (h4.flat z.2)
   ·have q':False:=by simpa[Dv.opD_ai,Dv.opD_al,Dv.opD_su,Dv.opD_mi,Dv.opD_ml,Dv.opD_mo,Dv.opD_fd,Dv.opD_po,Dv.opD_ba,Dv.opD_sh,hz,Ok] using q
    exact q'.elim
  | _=>exact Zf q
 | _=>exact Zf q
theorem tX (i:Int):E6 i=Dv.bits i:=by
 unfold E6 Dv.bits;by_cases h:i=0
 ·simp[h]
 ·simp[h]
theorem sZ:OpR C.X (binaryOp .Mult) (rI (λ i j=>Dv.mulOk i j=true) λ i j=>.int (i*j)):=opI λ i j _ _ _ _ _ hc q=>by
 refine mul_int q ?_
 unfold Dv.mulOk at hc;simp only[BN,yL,decide_eq_true_eq,<- tX] at hc
 rcases hc with (hc|hc)|hc
 ·exact .of_left hc
 ·exact .of_right hc
 ·exact .of_bits (by simpa using hc.1) (by simpa using hc.2)
def wX (K:Cd):R2:=λ x y H Q=>∃ l k xs,x=.ref l/\y=.int k/\SqX K H l xs/\-(2 ^ 63)<=k/\k<2 ^ 63/\xs.length*k.toNat<=sizeLine /\
 ∀ p,H p=none->Q (.ref p) (upd H p (.lst (List.replicate k.toNat xs).flatten))
theorem uf {X:Cx}:OpR X (binaryOp .Mult) (wX X.K):=by
 intro pins s σ H x y v u Q I rx ry h;obtain⟨l,k,xs,rfl,rfl,hH,h1,h2,hz,q⟩:=h;cases rx;obtain⟨t,rfl⟩:=ry;obtain⟨its,n,r,e,z⟩:=Inv.listX I hH;have hl:=r.length;have hlen:its.toArray.size*k.toNat<=sizeLine:=by rw[yS,<- hl];exact hz
 have hcap:¬ its.toArray.size*k.toNat > (2 ^ 63-1)/8:=by
  have:(sizeLine:Nat)<=(2 ^ 63-1)/8:=by decide
  omega
 have hfit:¬ (!Builtin.List.listFitsIndex k)=true:=by
  rw[fitsIndex_both h1 h2];exact zf
 have hlong:¬ Dg (its.toArray.size*k.toNat)=true:=by
  rw[lu hlen];exact zf
 have hnew:List.foldl (λ x1 x2=>x1++x2) #[] (List.replicate (if its.toArray.isEmpty=true then 0 else k.toNat) its.toArray)=(List.replicate k.toNat its).flatten.toArray:=by
  have f0:∀ m:Nat,List.foldl (λ x1 x2=>x1++x2) #[] (List.replicate m its.toArray)=(List.replicate m its).flatten.toArray:=λ m=>by
   have:=foldl_rep its m [];rw[yO] at this;exact this
  rw[f0];cases its with
  | nil=>simp
  | cons a r'=>rw[if_neg (by simp)]
 refine wpAny_binaryOp_repeat_ref (T:="list") (U:="int") (by decide) ⟨_,e,rfl⟩ (λ s'=>typeIs_int s' k t) noFill_list_mul F.fills_int_mul F.slot_int_rmul repeat_list F.slot_int_index.lookup
  (D3 F.slot_int_rmul (typeIs_int s k t) F.entry_int_rmul (F.args_int_rmul_2 _ _) (int___rmul___int_list k t l its.toArray n)
   ⟨e,rfl,⟨_,e,rfl⟩,D3 F.slot_list_mul ⟨_,e,rfl⟩ F.entry_list_mul (F.args_list_mul_2 _ _) (AutoListH.list___mul___list_int_3 l its.toArray n k t hfit hcap hlong) ⟨e,?_⟩⟩)
 rw[hnew];exact⟨.ref _,_,I.lnew (t':=s.toks) (r.rep k.toNat) (by rw[len_rep,A2];exact hz),rfl,q _ I.fresh⟩
theorem RpL.rep {K:Cd}{H:Hp}{ds:List D}{vs:List V}(h:RpL K H ds vs):∀ k:Nat,RpL K H (List.replicate k ds).flatten (List.replicate k vs).flatten
 | 0=>.nil
 | k+1=>by
  rw[zu,zu,zN,zN];exact h.append (RpL.rep h k)
theorem wL:OpS C (binaryOp .Mult) (Dv.opD .mul):=by
 refine⟨_,OpR.or sZ uf,λ x y d d' H Hv H1 Hv1 W Q e rx ry q=>?_⟩;cases d with
 | int i=>
  cases d' with
  | int j=>
   unfold Rp at rx ry;by_cases h:Dv.mulOk i j=true
   ·have q':Ok C.X.K Hv H W C.cls (.ok (.int (i*j)) true) Q:=by simpa[Dv.opD_ai,Dv.opD_al,Dv.opD_su,Dv.opD_mi,Dv.opD_ml,Dv.opD_mo,Dv.opD_fd,Dv.opD_po,Dv.opD_ba,Dv.opD_sh,h] using q
    exact .inl ⟨i,j,rx,ry,h,q'.at e bE rfl⟩
   ·have q':False:=by simpa[Dv.opD_ai,Dv.opD_al,Dv.opD_su,Dv.opD_mi,Dv.opD_ml,Dv.opD_mo,Dv.opD_fd,Dv.opD_po,Dv.opD_ba,Dv.opD_sh,h,Ok] using q
    exact q'.elim
  | _=>exact Zf q
 | lst xs=>
  cases d' with
  | int j=>
   unfold Rp at rx ry;obtain⟨l,vs,rfl,h1,h2⟩:=rx;subst ry;by_cases hz:(decide (-100000<=j)&&decide (j<=Dv.mx)&&decide (xs.length*j.toNat<=Dv.mx))=true
   ·have q':Ok C.X.K Hv H W C.cls (.ok (.lst (List.replicate j.toNat xs).flatten) (Dv.flatL xs)) Q:=by
     simp only[Dv.opD_ai,Dv.opD_al,Dv.opD_su,Dv.opD_mi,Dv.opD_ml,Dv.opD_mo,Dv.opD_fd,Dv.opD_po,Dv.opD_ba,Dv.opD_sh,hz,if_true] at q;exact q
    simp only[yL,decide_eq_true_eq] at hz;have hj:j<=100000:=hz.1.2;have hj0:-100000<=j:=hz.1.1;refine .inr ⟨l,j,vs,rfl,rfl,h1.same e.vh,⋯,⋯,?_,λ p hp=>Ok.newL q' e (h2.rep _) (λ z=>?_) p hp⟩
    ·rw[h2.length];exact cF hz.2
    ·exact(h2.flat z).rep _
   ·simp only[Dv.opD_ai,Dv.opD_al,Dv.opD_su,Dv.opD_mi,Dv.opD_ml,Dv.opD_mo,Dv.opD_fd,Dv.opD_po,Dv.opD_ba,Dv.opD_sh,hz] at q
    exact Zf q
  | _=>exact Zf q
 | _=>exact Zf q
theorem xq:OpS C (compareOp .Lt) (Dv.cmD .lt):=gA wZ λ d d'=>by
 cases d <;>first
  | exact .inr rfl
  | (cases d' <;>first|exact .inr rfl|exact .inl ⟨_,_,_,rfl,rfl,rfl,rfl,λ _ _=>eA⟩)
theorem xR:OpS C (compareOp .LtE) (Dv.cmD .le):=gA xn λ d d'=>by
 cases d <;>first
  | exact .inr rfl
  | (cases d' <;>first|exact .inr rfl|exact .inl ⟨_,_,_,rfl,rfl,rfl,rfl,λ _ _=>eA⟩)
theorem xO:OpS C (compareOp .Gt) (Dv.cmD .gt):=gA xQ λ d d'=>by
 cases d <;>first
  | exact .inr rfl
  | (cases d' <;>first|exact .inr rfl|exact .inl ⟨_,_,_,rfl,rfl,rfl,rfl,λ _ _=>eA⟩)
theorem wV:OpS C (compareOp .GtE) (Dv.cmD .ge):=gA w5 λ d d'=>by
 cases d <;>first
  | exact .inr rfl
  | (cases d' <;>first|exact .inr rfl|exact .inl ⟨_,_,_,rfl,rfl,rfl,rfl,λ _ _=>eA⟩)
mutual
def pd:D->PyData
 | .non=>.none
 | .bl b=>.bool b
 | .int i=>.int i
 | .str x=>.str ⟨(Dv.clipS x).toArray⟩
 | .lst ds=>.list (pdL ds)
 | .tup ds=>.tuple (pdL ds)
 | .exn _=>.none
 | .raw _=>.none
 | .tab _=>.none
 | .dct _ _=>.none
 | .ins _ _=>.none
def pdL:List D->List PyData
 | []=>[]
 | d::r=>pd d::pdL r
end
mutual
theorem fI:∀ d:D,(pd d).canLay0=true
 | .non=>by simp[pd,CM]
 | .bl _=>by simp[pd,CM]
 | .int _=>by simp[pd,CM]
 | .str x=>by
  have:∀ n:Nat,n%1114112<1114112:=λ n=>Bp _ (by decide)
  simp[pd,CM,PyData.strOk,Dv.clipS,this]
 | .lst ds=>by simp[pd,CM,gh ds]
 | .tup ds=>by simp[pd,CM,gh ds]
 | .exn _=>by simp[pd,CM]
 | .raw _=>by simp[pd,CM]
 | .tab _=>by simp[pd,CM]
 | .dct _ _=>by simp[pd,CM]
 | .ins _ _=>by simp[pd,CM]
theorem gh:∀ ds:List D,El (pdL ds)=true
 | []=>by simp[pdL,El]
 | d::r=>by simp[pdL,El,fI d,gh r]
end
mutual
theorem dF:∀ d:D,(pd d).depth<=Dv.depthD d
 | .non=>by simp[pd,CY,Dv.depthD]
 | .bl _=>by simp[pd,CY,Dv.depthD]
 | .int _=>by simp[pd,CY,Dv.depthD]
 | .str _=>by simp[pd,CY,Dv.depthD]
 | .lst ds=>by have:=dS ds;simp[pd,CY,Dv.depthD];omega
 | .tup ds=>by have:=dS ds;simp[pd,CY,Dv.depthD];omega
 | .exn _=>by simp[pd,CY,Dv.depthD]
 | .raw _=>by simp[pd,CY,Dv.depthD]
 | .tab _=>by simp[pd,CY,Dv.depthD]
 | .dct _ _=>by simp[pd,CY,Dv.depthD]
 | .ins _ _=>by simp[pd,CY,Dv.depthD]
theorem dS:∀ ds:List D,D5 (pdL ds)<=Dv.depthL ds
 | []=>by simp[pdL,D5,Dv.depthL]
 | d::r=>by have:=dF d;have:=dS r;simp[pdL,D5,Dv.depthL];omega
end
mutual
theorem jQ:∀ (a b:D) (r:Bool),Dv.eqD a b=some r->Dx (pd a) (pd b)=r
 | .non,b,r,h=>by
  cases b with
  | non=>cases (show some true=some r from h);simp[pd,Dx]
  | _=>exact(nomatch (show (none:Option Bool)=some r from h))
 | .bl p,b,r,h=>by
  cases b with
  | bl q=>cases (show some (p == q)=some r from h);simp[pd,Dx]
  | _=>exact(nomatch (show (none:Option Bool)=some r from h))
 | .int p,b,r,h=>by
  cases b with
  | int q=>cases (show some (decide (p=q))=some r from h);simp[pd,Dx,Bc]
  | _=>exact(nomatch (show (none:Option Bool)=some r from h))
 | .str p,b,r,h=>by
  cases b with
  | str q=>cases (show some (decide (Dv.clipS p=Dv.clipS q))=some r from h);simp[pd,Dx,Bc]
  | _=>exact(nomatch (show (none:Option Bool)=some r from h))
 | .lst xs,b,r,h=>by
  cases b with
  | lst ys=>
   have h:Dv.eqDL xs ys=some r:=h;simp only[pd,Dx];exact js _ _ _ h
  | _=>exact(nomatch (show (none:Option Bool)=some r from h))
 | .tup xs,b,r,h=>by
  cases b with
  | tup ys=>
   have h:Dv.eqDL xs ys=some r:=h;simp only[pd,Dx];exact js _ _ _ h
  | _=>exact(nomatch (show (none:Option Bool)=some r from h))
 | .exn _,b,r,h=>by cases b <;>exact(nomatch (show (none:Option Bool)=some r from h))
 | .raw _,b,r,h=>by cases b <;>exact(nomatch (show (none:Option Bool)=some r from h))
 | .tab _,b,r,h=>by cases b <;>exact(nomatch (show (none:Option Bool)=some r from h))
 | .dct _ _,b,r,h=>by cases b <;>exact(nomatch (show (none:Option Bool)=some r from h))
theorem js:∀ (a b:List D) (r:Bool),Dv.eqDL a b=some r->DR (pdL a) (pdL b)=r
 | [],[],r,h=>by simp[Dv.eqDL] at h;subst h;simp[pdL,DR]
 | [],_::_,r,h=>by simp[Dv.eqDL] at h;subst h;simp[pdL,DR]
 | _::_,[],r,h=>by simp[Dv.eqDL] at h;subst h;simp[pdL,DR]
 | x::xs,y::ys,r,h=>by
  simp only[Dv.eqDL] at h;cases h1:Dv.eqD x y with
  | none=>rw[h1] at h;cases h
  | some p=>
   cases h2:Dv.eqDL xs ys with
   | none=>rw[h1,h2] at h;cases h
   | some q=>
    rw[h1,h2] at h;cases h;simp only[pdL,DR,jQ x y p h1,js xs ys q h2]
end
mutual
theorem cv {X:Cx}{pins:List (Addr×Obj)}{σ:St}{H:Hp}{s:Shared}(I:Inv X pins σ H s):∀ (d:D) (v:V) (u:Value),Rp X.K H d v->RelV v u->Dv.depthD d<=9->∃ as,Reads s.heap u (pd d) as
 | .non=>λ v u h r _=>by unfold Rp at h;subst h;cases r;unfold pd;exact⟨_,.none⟩
 | .bl b=>λ v u h r _=>by unfold Rp at h;subst h;cases r;unfold pd;exact⟨_,.bool b⟩
 | .int i=>λ v u h r _=>by unfold Rp at h;subst h;obtain⟨t,rfl⟩:=r;unfold pd;exact⟨_,.int i t⟩
 | .str x=>λ v u h r _=>by unfold Rp at h;subst h;obtain⟨t,rfl⟩:=r;unfold pd;exact⟨_,.str _ t⟩
 | .exn _=>λ v u h r hd=>by unfold Dv.depthD at hd;omega
 | .raw _=>λ v u h r hd=>by unfold Dv.depthD at hd;omega
 | .tab _=>λ v u h r hd=>by unfold Dv.depthD at hd;omega
 | .dct _ _=>λ v u h r hd=>by unfold Dv.depthD at hd;omega
 | .ins _ _=>λ v u h r hd=>by unfold Dv.depthD at hd;omega
 | .lst ds=>λ v u h r hd=>by
  unfold Rp at h;unfold Dv.depthD at hd;obtain⟨a,vs,rfl,h1,h2⟩:=h;cases r;obtain⟨its,n,rv,e,_⟩:=Inv.listX I h1;obtain⟨as,ra⟩:=fG I ds vs its h2 rv ⋯;unfold pd;exact⟨_,.list e rfl rfl (by simpa using ra)⟩
 | .tup ds=>λ v u h r hd'=>by
  unfold Rp at h;unfold Dv.depthD at hd';obtain⟨a,vs,rfl,h1,h2⟩:=h;cases r;obtain⟨_,its,rv,o,e,hc,n,hd⟩:=h1.ok I.hok;obtain⟨as,ra⟩:=fG I ds vs its h2 rv ⋯;unfold pd;exact⟨_,.tuple e hc hd (by simpa using ra)⟩
theorem fG {X:Cx}{pins:List (Addr×Obj)}{σ:St}{H:Hp}{s:Shared}(I:Inv X pins σ H s):∀ (ds:List D) (vs:List V) (us:List Value),RpL X.K H ds vs->Vals vs us->Dv.depthL ds<=9->∃ as,ReadsAll s.heap us (pdL ds) as
 | []=>λ vs us h r _=>by unfold RpL at h;subst h;cases r;unfold pdL;exact⟨_,.nil⟩
 | d::ds=>λ vs us h r hd=>by
  unfold RpL at h;unfold Dv.depthL at hd;obtain⟨v,ws,rfl,h1,h2⟩:=h;cases r with
  | cons r1 r2=>
   obtain⟨as,ra⟩:=cv I d v _ h1 r1 ⋯;obtain⟨bs,rb⟩:=fG I ds ws _ h2 r2 ⋯;unfold pdL;exact⟨_,.cons ra rb⟩
end
def w4 (K:Cd)(neg:Bool):R2:=λ x y H Q=>∃ d d' b,Rp K H d x/\Rp K H d' y/\Dv.depthD d<=9/\Dv.depthD d'<=9/\Dv.eqD d d'=some b/\Q (.bl (if neg then !b else b)) H
theorem vz (hu:C.X.A.units+64<cLine):OpR C.X (compareOp .Eq) (w4 C.X.K false):=by
 intro pins s σ H x y v u Q I rx ry h;obtain⟨d,d',b,h1,h2,z1,z2,e,q⟩:=h;obtain⟨as,ra⟩:=cv I d x v h1 rx z1;obtain⟨bs,rb⟩:=cv I d' y u h2 ry z2;refine SeqAt.compareEq_reads ra rb (fI d) (fI d') ?_ ⟨.bl b,H,I,?_,q⟩
 ·have:=dF d
  have:=dF d';have:=A7 (pd d).depth (pd d').depth;omega
 ·rw[jQ _ _ _ e];rfl
theorem wj (hu:C.X.A.units+64<cLine):OpR C.X (compareOp .NotEq) (w4 C.X.K true):=by
 intro pins s σ H x y v u Q I rx ry h;obtain⟨d,d',b,h1,h2,z1,z2,e,q⟩:=h;obtain⟨as,ra⟩:=cv I d x v h1 rx z1;obtain⟨bs,rb⟩:=cv I d' y u h2 ry z2;refine SeqAt.compareNe_reads ra rb (fI d) (fI d') ?_ ⟨.bl (!b),H,I,?_,q⟩
 ·have:=dF d
  have:=dF d';have:=A7 (pd d).depth (pd d').depth;omega
 ·rw[jQ _ _ _ e];rfl
theorem os_eq:OpS C (compareOp .Eq) (Dv.cmD .eq):=by
 refine⟨_,vz C.un,λ x y d d' H Hv H1 Hv1 W Q e rx ry q=>?_⟩;simp only[Dv.cmD_eq,Dv.cmD_ne,Dv.cmD_lt,Dv.cmD_le,Dv.cmD_gt,Dv.cmD_ge,Dv.cmD_in,Dv.cmD_ni,Dv.cmD_it,Dv.cmD_nt] at q;by_cases hz:(decide (Dv.depthD d<=9)&&decide (Dv.depthD d'<=9))=true
 ·rw[if_pos hz] at q
  simp only[yL,decide_eq_true_eq] at hz;cases he:Dv.eqD d d' with
  | none=>rw[he] at q;exact Zf q
  | some b=>
   rw[he] at q;exact⟨d,d',b,rx.same e.vh,ry.same e.vh,hz.1,hz.2,he,Ok.at (d:=.bl b) (fr:=true) q e eA rfl⟩
 ·rw[if_neg hz] at q;exact Zf q
theorem xl:OpS C (compareOp .NotEq) (Dv.cmD .ne):=by
 refine⟨_,wj C.un,λ x y d d' H Hv H1 Hv1 W Q e rx ry q=>?_⟩;simp only[Dv.cmD_eq,Dv.cmD_ne,Dv.cmD_lt,Dv.cmD_le,Dv.cmD_gt,Dv.cmD_ge,Dv.cmD_in,Dv.cmD_ni,Dv.cmD_it,Dv.cmD_nt] at q;by_cases hz:(decide (Dv.depthD d<=9)&&decide (Dv.depthD d'<=9))=true
 ·rw[if_pos hz] at q
  simp only[yL,decide_eq_true_eq] at hz;cases he:Dv.eqD d d' with
  | none=>rw[he] at q;exact Zf q
  | some b=>
   rw[he] at q;exact⟨d,d',b,rx.same e.vh,ry.same e.vh,hz.1,hz.2,he,Ok.at (d:=.bl (!b)) (fr:=true) q e eA rfl⟩
 ·rw[if_neg hz] at q;exact Zf q
theorem gC {ds:List D}{vs:List V}{K:Cd}{H:Hp}{i:Int}{d:D}(r:RpL K H ds vs)(h:Dv.at? ds i=some d):∃ v,atI vs i=some v/\Rp K H d v:=by
 unfold Dv.at? at h;unfold atI ixN;have hl:=r.length;by_cases h0:0<=i
 ·rw[if_pos h0] at h
  obtain⟨v,h1,h2⟩:=r.get h;have hlt:i.toNat<vs.length:=(List.getElem?_eq_some_iff.mp h1).1;refine⟨v,?_,h2⟩;rw[if_pos h0,if_pos ⋯];exact h1
 ·rw[if_neg h0] at h
  by_cases h1:-(ds.length:Int)<=i
  ·rw[if_pos h1] at h
   obtain⟨v,h2,h3⟩:=r.get h;refine⟨v,?_,h3⟩;rw[if_neg h0,if_pos ⋯];rw[hl];exact h2
  ·rw[if_neg h1] at h;cases h
theorem mW {K:Cd}{H Hv H2 Hv2:Hp}{ds:List D}{v:V}{fr:Bool}{k:Int}{d:D}(x:Ext Hv H Hv2 H2)(hk:Dv.at? ds k=some d):
  (Rp K Hv2 (.lst ds) v->(fr=true->Rp [] (Hnew H H2) (.lst ds) v)->∃ l vs u,v=.ref l/\SqX K H2 l vs/\atI vs k=some u/\Rp K Hv2 d u/\((fr || Dv.scal d)=true->Rp [] (Hnew H H2) d u)) /\
  (Rp K Hv2 (.tup ds) v->(fr=true->Rp [] (Hnew H H2) (.tup ds) v)->∃ l vs u,v=.ref l/\Rd H2 l (.tup vs)/\atI vs k=some u/\Rp K Hv2 d u/\((fr || Dv.scal d)=true->Rp [] (Hnew H H2) d u)):=by
 constructor
 ·intro rp n
  cases fr with
  | true=>
   have rn:=n rfl;unfold Rp at rn;obtain⟨l,vs,rfl,h1,h2⟩:=rn;obtain⟨u,h3,h4⟩:=gC h2 hk;refine⟨l,vs,u,rfl,?_,h3,(Rp.frag h4).same x.news,λ _=>h4⟩
   rcases h1 with h1|⟨its,n,e,_⟩
   ·exact .inl (Rd.same Hnew.sub h1)
   ·simp at e
  | false=>
   unfold Rp at rp;obtain⟨l,vs,rfl,h1,h2⟩:=rp;obtain⟨u,h3,h4⟩:=gC h2 hk;exact⟨l,vs,u,rfl,h1.same x.vh,h3,h4,λ z=>h4.scal (by simpa using z)⟩
 ·intro rp n
  cases fr with
  | true=>
   have rn:=n rfl;unfold Rp at rn;obtain⟨l,vs,rfl,h1,h2⟩:=rn;obtain⟨u,h3,h4⟩:=gC h2 hk;exact⟨l,vs,u,rfl,Rd.same Hnew.sub h1,h3,(Rp.frag h4).same x.news,λ _=>h4⟩
  | false=>
   unfold Rp at rp;obtain⟨l,vs,rfl,h1,h2⟩:=rp;obtain⟨u,h3,h4⟩:=gC h2 hk;exact⟨l,vs,u,rfl,Rd.same x.vh h1,h3,h4,λ z=>h4.scal (by simpa using z)⟩
theorem av (ha:SE C a f)(hb:SE C b g)(hs:autoParam (nE b) ZI._auto_1):SE C (.Subscript a b pos) (Dv.eIx f g):=by
 obtain⟨ta,pa,qa⟩:=ha;obtain⟨tb,pb,qb⟩:=hb;refine⟨_,xc (ix_list.or vL) pa pb hs,λ σ H Hv ρ Q e s w=>?_⟩;refine qa.step e (.refl s) w λ v d fr Hv1 H1 _ x1 _ rp1 n1 q1=>qb.step e x1 q1 λ v2 d2 fr2 Hv2 H2 _ x2 y2 rp2 _ q2=>?_
 have rp:=rp1.same y2.vv;have rn:fr=true->Rp [] (Hnew H H2) d v:=λ z=>(n1 z).same (Hnew.mono (.refl _) y2.hh)
 cases d2 with
 | int k=>
  unfold Rp at rp2;cases d with
  | lst ds=>
   have q3:Ok C.X.K Hv H (C.W σ) C.cls (match Dv.at? ds k with|some d=>.ok d (fr || Dv.scal d)|none=>.bad) Q:=q2;cases hk:Dv.at? ds k with
   | none=>rw[hk] at q3;exact Zf q3
   | some d=>
    rw[hk] at q3;obtain⟨l,vs,u,e1,h1,h2,h3,h4⟩:=(mW (fr:=fr) x2 hk).1 rp rn;exact .inl ⟨l,vs,k,u,e1,rp2,h1.seq,h2,q3 u Hv2 H2 x2 h3 h4⟩
  | tup ds=>
   have q3:Ok C.X.K Hv H (C.W σ) C.cls (match Dv.at? ds k with|some d=>.ok d (fr || Dv.scal d)|none=>.bad) Q:=q2;cases hk:Dv.at? ds k with
   | none=>rw[hk] at q3;exact Zf q3
   | some d=>
    rw[hk] at q3;obtain⟨l,vs,u,e1,h1,h2,h3,h4⟩:=(mW (fr:=fr) x2 hk).2 rp rn;exact .inr ⟨l,vs,k,u,e1,rp2,.inl h1,h2,q3 u Hv2 H2 x2 h3 h4⟩
  | _=>exact Zf q2
 | _=>cases d <;>exact Zf q2
def C1S (C:Ctx)(fv:Value)(F:D->Bool->R):Prop:=
 ∃ r,cM C.X fv r/\∀ x d fr H Hv H1 Hv1 W Q,Ext Hv H Hv1 H1->Rp C.X.K Hv1 d x->(fr=true->Rp [] (Hnew H H1) d x)->Ok C.X.K Hv H W C.cls (F d fr) Q->r [x] H1 Q
theorem ll {x:Str}{p:Pos}{id:String}{F:D->Bool->R}(o:C1S C (.builtin id) F)(hg:Gl C.X x)(hm:C.X.mg x=none)(hv:bootBuiltins x=some (.builtin id))(ha:SE C a f)
  (hn:autoParam (x≠"__name__") ZC._auto_1) (hdb:autoParam ((x == ("__debug__":Str))=false) ZC._auto_1) (he:autoParam (starEach [a] C.X.env=[(false,eval a C.X.env)]) ZE._auto_1):SE C (.Call (.Name x p) [a] [] pos) (Dv.eB1 F f):=by
 obtain⟨r,ho,hr⟩:=o;obtain⟨t,pa,qa⟩:=ha;refine⟨_,eM ho hg hm hv (aN pa bC he) hn hdb he rfl,λ σ H Hv ρ Q e s w=>?_⟩;exact qa.step e (.refl s) w λ v d fr Hv1 H1 _ x1 _ rp1 n1 q1=>hr v d fr H Hv H1 Hv1 _ Q x1 rp1 n1 q1
theorem uE {x:Str}{p:Pos}{id:String}{F:D->Bool->R}(o:C1S C (.type id) F)(hg:Gl C.X x)(hm:C.X.mg x=none)(hv:bootBuiltins x=some (.type id))(ha:SE C a f)
  (hn:autoParam (x≠"__name__") ZC._auto_1) (hdb:autoParam ((x == ("__debug__":Str))=false) ZC._auto_1) (he:autoParam (starEach [a] C.X.env=[(false,eval a C.X.env)]) ZE._auto_1):SE C (.Call (.Name x p) [a] [] pos) (Dv.eB1 F f):=by
 obtain⟨r,ho,hr⟩:=o;obtain⟨t,pa,qa⟩:=ha;refine⟨_,pj ho hg hm hv (aN pa bC he) hn hdb he rfl,λ σ H Hv ρ Q e s w=>?_⟩;exact qa.step e (.refl s) w λ v d fr Hv1 H1 _ x1 _ rp1 n1 q1=>hr v d fr H Hv H1 Hv1 _ Q x1 rp1 n1 q1
theorem wz:C1S C (.builtin "len") Dv.lenD:=by
 refine⟨_,jW,λ x d fr H Hv H1 Hv1 W Q e rx n q=>?_⟩;cases d with
 | lst ds=>
  unfold Rp at rx;obtain⟨l,vs,rfl,h1,h2⟩:=rx;refine⟨l,vs,rfl,.inl (h1.same e.vh).seq,?_⟩;rw[h2.length];exact Ok.at (d:=.int ds.length) (fr:=true) q e bE rfl
 | tup ds=>
  unfold Rp at rx;obtain⟨l,vs,rfl,h1,h2⟩:=rx;refine⟨l,vs,rfl,.inr (.inl (Rd.same e.vh h1)),?_⟩;rw[h2.length];exact Ok.at (d:=.int ds.length) (fr:=true) q e bE rfl
 | _=>exact Zf q
theorem uj:C1S C (.type "list") Dv.listD:=by
 refine⟨_,jD,λ x d fr H Hv H1 Hv1 W Q e rx n q=>?_⟩;cases d with
 | lst ds=>
  cases fr with
  | true=>
   have rn:=n rfl;unfold Rp at rn;obtain⟨l,vs,rfl,h1,h2⟩:=rn;have h1':SqX C.X.K H1 l vs:=by
    rcases h1 with h1|⟨its,n,e,_⟩
    ·exact .inl (Rd.same Hnew.sub h1)
    ·simp at e
   exact⟨l,vs,rfl,.inl h1'.seq,λ p hp=>Ok.newL q e ((RpL.frag h2).same e.news) (λ _=>h2) p hp⟩
  | false=>
   unfold Rp at rx;obtain⟨l,vs,rfl,h1,h2⟩:=rx;exact⟨l,vs,rfl,.inl (h1.same e.vh).seq,λ p hp=>Ok.newL q e h2 (λ z=>h2.flat (by simpa using z)) p hp⟩
 | tup ds=>
  cases fr with
  | true=>
   have rn:=n rfl;unfold Rp at rn;obtain⟨l,vs,rfl,h1,h2⟩:=rn;exact⟨l,vs,rfl,.inr (.inl (Rd.same Hnew.sub h1)),λ p hp=>Ok.newL q e ((RpL.frag h2).same e.news) (λ _=>h2) p hp⟩
  | false=>
   unfold Rp at rx;obtain⟨l,vs,rfl,h1,h2⟩:=rx;exact⟨l,vs,rfl,.inr (.inl (Rd.same e.vh h1)),λ p hp=>Ok.newL q e h2 (λ z=>h2.flat (by simpa using z)) p hp⟩
 | _=>exact Zf q
theorem ck (i:Int):∀ l:List Int,(Dv.ins i l).Perm (i::l)
 | []=>.refl _
 | j::r=>by
  unfold Dv.ins
  split
  ·exact .refl _
  ·exact((ck i r).cons j).trans (.swap i j r)
theorem aI:∀ l:List Int,(Dv.isort l).Perm l
 | []=>.refl _
 | i::r=>(ck i _).trans ((aI r).cons i)
theorem cg (i:Int):∀ l:List Int,l.Pairwise (·<=·)->(Dv.ins i l).Pairwise (·<=·)
 | [],_=>by simp[Dv.ins]
 | j::r,h=>by
  unfold Dv.ins
  split
  ·rename_i hij
   refine List.pairwise_cons.mpr ⟨λ x hx=>?_,h⟩
   rcases List.mem_cons.mp hx with rfl|hx
   ·exact hij
   ·exact BC hij ((List.pairwise_cons.mp h).1 x hx)
  ·rename_i hij
   refine List.pairwise_cons.mpr ⟨λ x hx=>?_,cg i r (List.pairwise_cons.mp h).2⟩
   rcases List.mem_cons.mp ((ck i r).mem_iff.mp hx) with rfl|hx
   ·omega
   ·exact(List.pairwise_cons.mp h).1 x hx
theorem aX:∀ l:List Int,(Dv.isort l).Pairwise (·<=·)
 | []=>.nil
 | i::r=>cg i _ (aX r)
theorem bD:∀ {a b:List Int},a.Perm b->a.Pairwise (·<=·)->b.Pairwise (·<=·)->a=b
 | [],b,p,_,_=>by simpa using p.symm.eq_nil
 | x::a,[],p,_,_=>absurd p.eq_nil (by simp)
 | x::a,y::b,p,ha,hb=>by
  have h1:=List.pairwise_cons.mp ha;have h2:=List.pairwise_cons.mp hb;have e:x=y:=by
   have hx:x∈y::b:=p.mem_iff.mp yG;have hy:y∈x::a:=p.mem_iff.mpr yG
   rcases List.mem_cons.mp hx with e|hx
   ·exact e
   rcases List.mem_cons.mp hy with e|hy
   ·exact e.symm
   exact BO (h1.1 y hy) (h2.1 x hx)
  subst e;rw[bD ((BS x).mp p) h1.2 h2.2]
theorem kg {vs:List Value}{ns:List Int}(h:IntsAre vs ns):Vals (ns.map V.int) vs:=by
 induction h with
 | nil=>exact .nil
 | cons n t _ ih=>exact .cons ⟨t,rfl⟩ ih
theorem kx {X:Cx}:cM X (.builtin "sorted") (λ xs H Q=>∃ p ns,xs=[.ref p]/\SqX X.K H p (ns.map V.int)/\ns.length<64/\∀ l,H l=none->Q (.ref l) (upd H l (.lst ((Dv.isort ns).map V.int)))):=by
 intro pins s σ H xs us Q I r h;obtain⟨p,ns,rfl,hq,h64,q⟩:=h;obtain⟨u,rfl,rx⟩:=vals1 r;cases rx;obtain⟨its,n,rv,e,z⟩:=Inv.listX I hq;have hi:=intsAre_of rv;have hl:=rv.length;rw[yC] at hl;refine sorted_ints (ns:=ns) ⟨_,e,rfl,n,rfl⟩ hi ⋯ λ out ns' a1 a2 a3=>?_
 have e1:ns'=Dv.isort ns:=bD (a2.trans (aI ns).symm) a3 (aX ns);subst e1;obtain⟨ep,hat⟩:=sortedAll_at s.heap its out;have hf:H (s.heap.objs.size+1)=none:=I.hok.fresh (AJ _);refine⟨.ref (s.heap.objs.size+1),_,I.laid (t':=s.toks) (o:=.lst ((Dv.isort ns).map V.int)) (λ b u q=>sortedAll_old q) (AJ _) ?_,rfl,q _ hf⟩;refine⟨?_,out.toList,ep,kg a1,by simpa[seqObj] using hat⟩;rw[yC,(aI ns).length_eq];rw[CF];omega
theorem ox:C1S C (.builtin "sorted") Dv.sortedD:=by
 refine⟨_,kx,λ x d fr H Hv H1 Hv1 W Q e rx n q=>?_⟩;cases d with
 | lst ds=>
  simp only[Dv.sortedD] at q;cases hi:Dv.intsOf ds with
  | none=>rw[hi] at q;exact Zf q
  | some ns=>
   rw[hi] at q;by_cases h64:ns.length<64
   ·simp only[h64,if_true] at q
    unfold Rp at rx;obtain⟨l,vs,rfl,h1,h2⟩:=rx;have e1:=RpL.ints hi h2;subst e1;exact⟨l,ns,rfl,h1.same e.vh,h64,λ p hp=>Ok.newL q e (RpL.ofInts _) (λ _=>RpL.ofInts _) p hp⟩
   ·simp only[h64,if_false] at q
    exact Zf q
 | _=>exact Zf q
end
open Dv (D R RL EE EL EI RI Sl Out SS)
def Nd (K:Cd)(Hc:Hp):D->HO->Prop
 | .lst ds,o=>∃ vs,o=.lst vs/\RpL K Hc ds vs
 | .dct ks ds,o=>∃ vs,o=.dK ((ks.map Sum.inl).zip vs)/\ks.length=ds.length/\RpL K Hc ds vs
 | _,_=>False
theorem Nd.same {K:Cd}{H H':Hp}{d:D}{o:HO}(e:Same H H')(h:Nd K H d o):Nd K H' d o:=by
 cases d with
 | lst ds=>obtain⟨vs,h1,h2⟩:=h;exact⟨vs,h1,h2.same e⟩
 | dct ks ds=>obtain⟨vs,h1,h2,h3⟩:=h;exact⟨vs,h1,h2,h3.same e⟩
 | _=>exact Zf h
theorem Nd.rp {K:Cd}{H:Hp}{d:D}{o:HO}{a:Addr}(h:Nd K H d o)(ha:H a=some o):Rp K H d (.ref a):=by
 cases d with
 | lst ds=>obtain⟨vs,rfl,h2⟩:=h;unfold Rp;exact⟨a,vs,rfl,SqX.of ha,h2⟩
 | dct ks ds=>obtain⟨vs,rfl,h2,h3⟩:=h;unfold Rp;exact⟨a,vs,rfl,h2,.inl ha,h3⟩
 | _=>exact Zf h
def Jk (R:Hp)(n m:Nat)(v:V):Prop:=∃ t vs,v=.ref t/\(R t=some (.lst vs)\/R t=some (.tup vs))/\vs.length=n/\∀ x∈vs,∃ b ws,x=.ref b/\b≠t/\R b=some (.lst ws)/\ws.length<=m
structure RelC (K:Cd)(Hv₀ H₀ Hc:Hp)(O:Nat->Hp)(st:Dv.St)(σ:St)(H:Hp):Prop where
 h0:Same H₀ H
 vc:Same Hv₀ Hc
 ch:Same Hc H
 new:∀ b o,Hc b=some o->Hv₀ b=none->H₀ b=none
 nf:∀ b o u,H₀ b=none->H b≠some (.frz o u)
 len:st.length=σ.length
 sh:∀ (i:Nat) (d:D),st[i]?=some (Sl.sh d)->∃ v,σ[i]?=some (some v)/\Rp K Hc d v
 ow:∀ (i:Nat) (d:D),st[i]?=some (Sl.ow d)->∃ (a:Addr) (o:HO),σ[i]?=some (some (V.ref a))/\O i a=some o/\Nd K Hc d o
 dp:∀ (i:Nat) (d:D),st[i]?=some (Sl.dp d)->∃ v,σ[i]?=some (some v)/\Rp [] (O i) d v
 jk:∀ (i n m:Nat),st[i]?=some (Sl.jk n m)->∃ v,σ[i]?=some (some v)/\Jk (O i) n m v
 oh:∀ (i:Nat) (b:Addr) (o:HO),O i b=some o->H b=some o/\Hc b=none/\H₀ b=none
 one:∀ (i j:Nat) (b:Addr) (o o':HO),O i b=some o->O j b=some o'->i=j
def Rel (K:Cd)(Hv₀ H₀:Hp)(st:Dv.St)(σ:St)(H:Hp):Prop:=∃ Hc O,RelC K Hv₀ H₀ Hc O st σ H
section
variable {K:Cd}{Hv₀ H₀ Hc:Hp}{O:Nat->Hp}{st:Dv.St}{σ:St}{H:Hp}
theorem RelC.less {Hv1:Hp}(r:RelC K Hc H₀ Hv1 O st σ H)(vc:Same Hv₀ Hc)(new:∀ b o,Hc b=some o->Hv₀ b=none->H₀ b=none):RelC K Hv₀ H₀ Hv1 O st σ H:=
 ⟨r.h0,vc.trans r.vc,r.ch,λ b o h n=>(by
  cases q:Hc b with
  | some u=>exact new b u q n
  | none=>exact r.new b o h q),r.nf,r.len,r.sh,r.ow,r.dp,r.jk,r.oh,r.one⟩
def sV (O:Nat->Hp)(b:Addr):Prop:=∃ (i:Nat) (o:HO),O i b=some o
open Classical in
def eF (Hc:Hp)(O:Nat->Hp)(H:Hp):Hp:=λ b=>if sV O b then H b else Hc b
theorem RelC.cAll (r:RelC K Hv₀ H₀ Hc O st σ H):Same Hc (eF Hc O H):=λ b o h=>by
 unfold eF;by_cases q:sV O b
 ·obtain⟨i,u,h1⟩:=q
  rw[(r.oh i b u h1).2.1] at h;cases h
 ·rw[if_neg q];exact h
theorem RelC.oAll (r:RelC K Hv₀ H₀ Hc O st σ H)(i:Nat):Same (O i) (eF Hc O H):=λ b o h=>by
 unfold eF;rw[if_pos ⟨i,o,h⟩];exact(r.oh i b o h).1
theorem RelC.allH (r:RelC K Hv₀ H₀ Hc O st σ H):Same (eF Hc O H) H:=λ b o h=>by
 unfold eF at h;by_cases q:sV O b
 ·rw[if_pos q] at h;exact h
 ·rw[if_neg q] at h;exact r.ch b o h
theorem RelC.allNew (r:RelC K Hv₀ H₀ Hc O st σ H):∀ b o,eF Hc O H b=some o->Hv₀ b=none->H₀ b=none:=λ b o h n=>by
 unfold eF at h;by_cases q:sV O b
 ·obtain⟨i,u,h1⟩:=q
  exact(r.oh i b u h1).2.2
 ·rw[if_neg q] at h;exact r.new b o h n
theorem tW {i:Nat}{d:D}(h:(Dv.all st)[i]?=some (some d)):st[i]?=some (.sh d)\/st[i]?=some (.ow d)\/st[i]?=some (.dp d):=by
 unfold Dv.all at h;rw[ze] at h;cases q:st[i]? with
 | none=>rw[q] at h;cases h
 | some s=>
  rw[q] at h;cases s with
  | no=>cases h
  | sh x=>cases h;exact .inl rfl
  | ow x=>cases h;exact .inr (.inl rfl)
  | dp x=>cases h;exact .inr (.inr rfl)
  | jk n m=>cases h
theorem get_open {i:Nat}{d:D}(h:(Dv.open_ st)[i]?=some (some d)):st[i]?=some (.sh d):=by
 unfold Dv.open_ at h;rw[ze] at h;cases q:st[i]? with
 | none=>rw[q] at h;cases h
 | some s=>
  rw[q] at h;cases s with
  | sh x=>cases h;rfl
  | _=>cases h
theorem RelC.envAll (r:RelC K Hv₀ H₀ Hc O st σ H):EnvR K (eF Hc O H) (Dv.all st) σ:=λ i d h=>by
 rcases tW h with h|h|h
 ·obtain⟨v,h1,h2⟩:=r.sh i d h
  exact⟨v,h1,h2.same r.cAll⟩
 ·obtain⟨a,o,h1,h2,h3⟩:=r.ow i d h
  exact⟨_,h1,(h3.same r.cAll).rp (r.oAll i a o h2)⟩
 ·obtain⟨v,h1,h2⟩:=r.dp i d h
  exact⟨v,h1,Rp.frag (h2.same (r.oAll i))⟩
theorem RelC.envOpen (r:RelC K Hv₀ H₀ Hc O st σ H):EnvR K Hc (Dv.open_ st) σ:=λ i d h=>r.sh i d (get_open h)
theorem RelC.grow {H':Hp}(r:RelC K Hv₀ H₀ Hc O st σ H)(hh:Same H H')(nf:∀ b o u,H b=none->H' b≠some (.frz o u)):RelC K Hv₀ H₀ Hc O st σ H':=
 ⟨r.h0.trans hh,r.vc,r.ch.trans hh,r.new,λ b o u h=>(by
  cases q:H b with
  | none=>exact nf b o u q
  | some w=>rw[hh b w q,<- q];exact r.nf b o u h),r.len,r.sh,r.ow,r.dp,r.jk,λ i b o h=>⟨hh _ _ (r.oh i b o h).1,(r.oh i b o h).2⟩,r.one⟩
theorem RelC.growC {Hc' H':Hp}(r:RelC K Hv₀ H₀ Hc O st σ H)(x:Ext Hc H Hc' H'):RelC K Hv₀ H₀ Hc' O st σ H':=by
 have g:=r.grow x.hh x.nf;refine⟨g.h0,r.vc.trans x.vv,x.vh,λ b o h n=>?_,g.nf,g.len,λ i d h=>?_,λ i d h=>?_,r.dp,r.jk,λ i b o h=>?_,g.one⟩
 ·cases q:Hc b with
  | some u=>exact r.new b u q n
  | none=>exact r.h0.free (x.new b o h q)
 ·obtain⟨v,h1,h2⟩:=r.sh i d h
  exact⟨v,h1,h2.same x.vv⟩
 ·obtain⟨a,o,h1,h2,h3⟩:=r.ow i d h
  exact⟨a,o,h1,h2,h3.same x.vv⟩
 ·obtain⟨h1,h2,h3⟩:=r.oh i b o h
  refine⟨x.hh _ _ h1,?_,h3⟩;cases q:Hc' b with
  | none=>rfl
  | some u=>
   have:=x.new b u q h2;rw[this] at h1;cases h1
theorem cE {α:Type}{l:List α}{i j:Nat}{x y:α}(h:(l.set i x)[j]?=some y):(j=i/\y=x/\i<l.length)\/(j≠i/\l[j]?=some y):=by
 by_cases e:j=i
 ·subst e
  by_cases hl:j<l.length
  ·rw[zg hl] at h
   exact .inl ⟨rfl,(Option.some.inj h).symm,hl⟩
  ·rw[zJ (by rw[zx];omega)] at h
   cases h
 ·rw[yX (Ne.symm e)] at h
  exact .inr ⟨e,h⟩
theorem RelC.setAny {i:Nat}{s:Sl}{v:Option V}{H':Hp}{O':Nat->Hp}(r:RelC K Hv₀ H₀ Hc O st σ H)(h0:Same H₀ H')(ch:Same Hc H')(nf:∀ b o u,H₀ b=none->H' b≠some (.frz o u))(hO:∀ j,j≠i->O' j=O j)
  (sh:∀ d,s=.sh d->∃ w,v=some w/\Rp K Hc d w) (ow:∀ d,s=.ow d->∃ a o,v=some (.ref a)/\O' i a=some o/\Nd K Hc d o) (dp:∀ d,s=.dp d->∃ w,v=some w/\Rp [] (O' i) d w) (jk:∀ n m,s=.jk n m->∃ w,v=some w/\Jk (O' i) n m w)
  (oh:∀ j b o,O' j b=some o->H' b=some o/\Hc b=none/\H₀ b=none) (one:∀ j b o o',O' i b=some o->j≠i->O j b≠some o'):RelC K Hv₀ H₀ Hc O' (st.set i s) (σ.set i v) H':=by
 have at_:∀ {j:Nat},j=i->i<st.length->(σ.set i v)[j]?=some v:=λ {j} e hl=>by subst e;exact zg (by rw[<- r.len];exact hl)
 have no:∀ {j:Nat},j≠i->(σ.set i v)[j]?=σ[j]?:=λ hj=>yX (Ne.symm hj)
 refine⟨h0,r.vc,ch,r.new,nf,by rw[zx,zx];exact r.len,λ j x h=>?_,λ j x h=>?_,λ j x h=>?_,λ j n m h=>?_,oh,λ j k b o o' h1 h2=>?_⟩
 ·rcases cE h with ⟨e,e2,hl⟩|⟨hj,h⟩
  ·obtain⟨w,e3,rp⟩:=sh x e2.symm
   exact⟨w,by rw[at_ e hl,e3],rp⟩
  ·obtain⟨u,h1,h2⟩:=r.sh j x h
   exact⟨u,by rw[no hj];exact h1,h2⟩
 ·rcases cE h with ⟨e,e2,hl⟩|⟨hj,h⟩
  ·obtain⟨a,o,e3,e4,rp⟩:=ow x e2.symm
   exact⟨a,o,by rw[at_ e hl,e3],by rw[e];exact e4,rp⟩
  ·obtain⟨a,o,h1,h2,h3⟩:=r.ow j x h
   exact⟨a,o,by rw[no hj];exact h1,by rw[hO j hj];exact h2,h3⟩
 ·rcases cE h with ⟨e,e2,hl⟩|⟨hj,h⟩
  ·obtain⟨w,e3,rp⟩:=dp x e2.symm
   exact⟨w,by rw[at_ e hl,e3],by rw[e];exact rp⟩
  ·obtain⟨u,h1,h2⟩:=r.dp j x h
   exact⟨u,by rw[no hj];exact h1,by rw[hO j hj];exact h2⟩
 ·rcases cE h with ⟨e,e2,hl⟩|⟨hj,h⟩
  ·obtain⟨w,e3,rp⟩:=jk n m e2.symm
   exact⟨w,by rw[at_ e hl,e3],by rw[e];exact rp⟩
  ·obtain⟨u,h1,h2⟩:=r.jk j n m h
   exact⟨u,by rw[no hj];exact h1,by rw[hO j hj];exact h2⟩
 ·by_cases e1:j=i
  ·by_cases e2:k=i
   ·rw[e1,e2]
   ·rw[e1] at h1;rw[hO k e2] at h2;exact absurd h2 (one k b o o' h1 e2)
  ·by_cases e2:k=i
   ·rw[e2] at h2;rw[hO j e1] at h1;exact absurd h1 (one j b o' o h2 e1)
   ·rw[hO j e1] at h1;rw[hO k e2] at h2;exact r.one j k b o o' h1 h2
theorem RelC.setSh {i:Nat}{d:D}{v:V}(r:RelC K Hv₀ H₀ Hc O st σ H)(rp:Rp K Hc d v):RelC K Hv₀ H₀ Hc O (st.set i (.sh d)) (σ.set i (some v)) H:=
 r.setAny r.h0 r.ch r.nf (λ _ _=>rfl) (λ x e=>by cases e;exact⟨v,rfl,rp⟩) (λ x e=>nomatch e) (λ x e=>nomatch e) (λ n m e=>nomatch e) r.oh λ j b o o' h hj h2=>hj (r.one j i b o' o h2 h)
def nU (O:Nat->Hp)(i:Nat)(R:Hp):Nat->Hp:=λ j=>if j=i then R else O j
theorem bb {R:Hp}{i:Nat}:nU O i R i=R:=if_pos rfl
theorem bR {R:Hp}{i j:Nat}(h:j≠i):nU O i R j=O j:=if_neg h
def only (a:Addr)(o:HO):Hp:=λ b=>if b=a then some o else none
theorem n8 {a:Addr}{o:HO}:only a o a=some o:=if_pos rfl
theorem nk {a b:Addr}{o u:HO}(h:only a o b=some u):b=a/\u=o:=by
 unfold only at h;by_cases e:b=a
 ·rw[if_pos e] at h;exact⟨e,(Option.some.inj h).symm⟩
 ·rw[if_neg e] at h;cases h
theorem RelC.setOw {i:Nat}{d:D}{o:HO}{a:Addr}(r:RelC K Hv₀ H₀ Hc O st σ H)(ha:H a=some o)(hc:Hc a=none)(h0:H₀ a=none)(no:∀ j,j≠i->O j a=none)
  (nd:Nd K Hc d o):RelC K Hv₀ H₀ Hc (nU O i (only a o)) (st.set i (.ow d)) (σ.set i (some (.ref a))) H:=
 r.setAny r.h0 r.ch r.nf (λ j hj=>bR hj) (λ x e=>nomatch e) (λ x e=>by cases e;exact⟨a,o,rfl,by rw[bb];exact n8,nd⟩) (λ x e=>nomatch e) (λ n m e=>nomatch e)
  (λ j b u h=>by
   by_cases hj:j=i
   ·rw[hj,bb] at h
    obtain⟨rfl,rfl⟩:=nk h;exact⟨ha,hc,h0⟩
   ·rw[bR hj] at h;exact r.oh j b u h)
  λ j b u u' h hj h2=>by
   rw[bb] at h;obtain⟨rfl,rfl⟩:=nk h;rw[no j hj] at h2;cases h2
theorem mj {α:Type}{l:List α}{i:Nat}{x:α}(h:l[i]?=some x):l.set i x=l:=by
 refine Aq λ j=>?_
 by_cases hj:j=i
 ·subst hj;rw[zg (List.getElem?_eq_some_iff.mp h).1,h]
 ·rw[yX (Ne.symm hj)]
theorem RelC.putAny {i:Nat}{s:Sl}{v:V}{a:Addr}{u o:HO}(r:RelC K Hv₀ H₀ Hc O st σ H)(hσ:σ[i]?=some (some v))(ha:O i a=some u)(ho:∀ q w,o≠.frz q w)
  (ow:∀ d,s=.ow d->v=.ref a/\Nd K Hc d o) (jk:∀ n m,s=.jk n m->Jk (upd (O i) a o) n m v) (hs:∀ d,s≠.sh d/\s≠.dp d):
  RelC K Hv₀ H₀ Hc (nU O i (upd (O i) a o)) (st.set i s) σ (upd H a o):=by
 obtain⟨h1,h2,h3⟩:=r.oh i a u ha;have hset:σ.set i (some v)=σ:=mj hσ;have key:=r.setAny (i:=i) (s:=s) (v:=some v) (H':=upd H a o) (O':=nU O i (upd (O i) a o)) (λ b w h=>by rw[ax (aB h h3)];exact r.h0 b w h) (λ b w h=>by rw[ax (aB h h2)];exact r.ch b w h)
  (λ b q w h=>by
   by_cases hb:b=a
   ·subst hb;rw[aC];exact λ z=>ho q w (Option.some.inj z)
   ·rw[ax hb];exact r.nf b q w h)
  (λ j hj=>bR hj) (λ d e=>absurd e (hs d).1) (λ d e=>⟨a,o,by rw[(ow d e).1],by rw[bb,aC],(ow d e).2⟩) (λ d e=>absurd e (hs d).2) (λ n m e=>⟨v,rfl,by rw[bb];exact jk n m e⟩)
  (λ j b w h=>by
   by_cases hj:j=i
   ·rw[hj,bb] at h
    by_cases hb:b=a
    ·subst hb;rw[aC] at h ⊢;exact⟨h,h2,h3⟩
    ·rw[ax hb] at h ⊢;exact r.oh i b w h
   ·rw[bR hj] at h
    have hb:b≠a:=λ z=>hj (r.one j i b w u h (by rw[z];exact ha))
    rw[ax hb];exact r.oh j b w h)
  λ j b w w' h hj h4=>by
   rw[bb] at h;by_cases hb:b=a
   ·exact hj (r.one j i b w' u h4 (by rw[hb];exact ha))
   ·rw[ax hb] at h;exact hj (r.one j i b w' w h4 h)
 rw[hset] at key;exact key
theorem RelC.put {i:Nat}{d:D}{ds:List D}{ws:List V}{a:Addr}(r:RelC K Hv₀ H₀ Hc O st σ H)(hi:st[i]?=some (.ow d))(hσ:σ[i]?=some (some (.ref a)))(rp:RpL K Hc ds ws):
  ∃ O',RelC K Hv₀ H₀ Hc O' (st.set i (.ow (.lst ds))) σ (upd H a (.lst ws)):=by
 obtain⟨a',o,h1,h2,h3⟩:=r.ow i d hi;rw[hσ] at h1;cases h1;exact⟨_,r.putAny hσ h2 (by intro _ _ z;cases z) (λ x e=>by cases e;exact⟨rfl,ws,rfl,rp⟩) (λ n m e=>nomatch e) λ x=>⟨nofun,nofun⟩⟩
def bw (A B:Hp):Hp:=λ b=>match A b with
 | some o=>some o
 | none=>B b
theorem cz {A B:Hp}:Same A (bw A B):=λ b o h=>by unfold bw;rw[h]
theorem fw {A B:Hp}(d:∀ b o,B b=some o->A b=none):Same B (bw A B):=λ b o h=>by unfold bw;rw[d b o h];exact h
theorem ba {A B:Hp}{b:Addr}{o:HO}(h:bw A B b=some o):A b=some o\/(A b=none/\B b=some o):=by
 unfold bw at h;cases q:A b with
 | some u=>rw[q] at h;exact .inl h
 | none=>rw[q] at h;exact .inr ⟨rfl,h⟩
theorem RelC.give1 {i:Nat}(r:RelC K Hv₀ H₀ Hc O st σ H):∃ Hc' O',Same Hc Hc'/\RelC K Hv₀ H₀ Hc' O' (st.set i ((st[i]?.getD .no).give)) σ H:=by
 cases hi:st[i]? with
 | none=>
  refine⟨Hc,O,.refl _,?_⟩;rw[List.set_eq_of_length_le (by have:=List.getElem?_eq_none_iff.mp hi;omega)];exact r
 | some s=>
  have hs:st.set i s=st:=mj hi;have key:∀ (d:D) (v:V),σ[i]?=some (some v)->Rp K (bw Hc (O i)) d v->∃ Hc' O',Same Hc Hc'/\RelC K Hv₀ H₀ Hc' O' (st.set i (.sh d)) σ H:=λ d v hσ rp=>by
   have sm:Same Hc (bw Hc (O i)):=cz;have hset:σ.set i (some v)=σ:=mj hσ;have r1:RelC K Hv₀ H₀ (bw Hc (O i)) (nU O i λ _=>none) (st.set i .no) σ H:=by
    refine⟨r.h0,r.vc.trans sm,λ b o h=>?_,λ b o h n=>?_,r.nf,by rw[zx];exact r.len,λ j x h=>?_,λ j x h=>?_,λ j x h=>?_,λ j n m h=>?_,λ j b o h=>?_,λ j k b o o' h1 h2=>?_⟩
    ·rcases ba h with h|⟨_,h⟩
     ·exact r.ch b o h
     ·exact(r.oh i b o h).1
    ·rcases ba h with h|⟨_,h⟩
     ·exact r.new b o h n
     ·exact(r.oh i b o h).2.2
    ·rcases cE h with ⟨_,e,_⟩|⟨hj,h⟩
     ·cases e
     ·obtain⟨u,h1,h2⟩:=r.sh j x h
      exact⟨u,h1,h2.same sm⟩
    ·rcases cE h with ⟨_,e,_⟩|⟨hj,h⟩
     ·cases e
     ·obtain⟨a,o,h1,h2,h3⟩:=r.ow j x h
      exact⟨a,o,h1,by rw[bR hj];exact h2,h3.same sm⟩
    ·rcases cE h with ⟨_,e,_⟩|⟨hj,h⟩
     ·cases e
     ·obtain⟨u,h1,h2⟩:=r.dp j x h
      exact⟨u,h1,by rw[bR hj];exact h2⟩
    ·rcases cE h with ⟨_,e,_⟩|⟨hj,h⟩
     ·cases e
     ·obtain⟨u,h1,h2⟩:=r.jk j n m h
      exact⟨u,h1,by rw[bR hj];exact h2⟩
    ·by_cases hj:j=i
     ·rw[hj,bb] at h;cases h
     ·rw[bR hj] at h
      obtain⟨h1,h2,h3⟩:=r.oh j b o h;refine⟨h1,?_,h3⟩;cases q:bw Hc (O i) b with
      | none=>rfl
      | some u=>
       rcases ba q with q|⟨_,q⟩
       ·rw[h2] at q;cases q
       ·exact absurd (r.one j i b o u h q) hj
    ·by_cases hj:j=i
     ·rw[hj,bb] at h1;cases h1
     ·by_cases hk:k=i
      ·rw[hk,bb] at h2;cases h2
      ·rw[bR hj] at h1;rw[bR hk] at h2;exact r.one j k b o o' h1 h2
   have r2:=r1.setSh (i:=i) rp;rw[hset,List.set_set] at r2;exact⟨_,_,sm,r2⟩
  cases s with
  | no=>exact⟨Hc,O,.refl _,by show RelC K Hv₀ H₀ Hc O (st.set i .no) σ H;rw[hs];exact r⟩
  | sh d=>exact⟨Hc,O,.refl _,by show RelC K Hv₀ H₀ Hc O (st.set i (.sh d)) σ H;rw[hs];exact r⟩
  | jk n m=>exact⟨Hc,O,.refl _,by show RelC K Hv₀ H₀ Hc O (st.set i (.jk n m)) σ H;rw[hs];exact r⟩
  | ow d=>
   obtain⟨a,o,h1,h2,h3⟩:=r.ow i d hi;exact key d _ h1 ((h3.same cz).rp (fw (λ b o h=>(r.oh i b o h).2.1) a o h2))
  | dp d=>
   obtain⟨v,h1,h2⟩:=r.dp i d hi;exact key d v h1 (Rp.frag (h2.same (fw λ b o h=>(r.oh i b o h).2.1)))
theorem RelC.give:∀ (is:List Nat) {st:Dv.St} {Hc:Hp} {O:Nat->Hp},RelC K Hv₀ H₀ Hc O st σ H->∃ Hc' O',Same Hc Hc'/\RelC K Hv₀ H₀ Hc' O' (Dv.give is st) σ H
 | [],st,Hc,O,r=>⟨Hc,O,.refl _,r⟩
 | i::is,st,Hc,O,r=>by
  obtain⟨Hc1,O1,s1,r1⟩:=r.give1 (i:=i);obtain⟨Hc2,O2,s2,r2⟩:=RelC.give is r1;exact⟨Hc2,O2,s1.trans s2,r2⟩
end
def OkS (C:Ctx)(Hv₀ H₀:Hp)(E:Ends)(o:Out):Prop:=match o with
 | .nx st=>∀ σ' H',Rel C.X.K Hv₀ H₀ st σ' H'->E.nx σ' H'
 | .ret d nw=>∀ v Hv' H',Ext Hv₀ H₀ Hv' H'->Rp C.X.K Hv' d v->(nw=true->Rp [] (Hnew H₀ H') d v)->E.rt v H'
 | .brk st=>∀ σ' H',Rel C.X.K Hv₀ H₀ st σ' H'->E.bk σ' H'
 | .cont st=>∀ σ' H',Rel C.X.K Hv₀ H₀ st σ' H'->E.ct σ' H'
 | .exc c st=>∀ σ' H',Rel C.X.K Hv₀ H₀ st σ' H'->C.W σ' (C.cls c) none H'
 | .bad=>False
def tV (C:Ctx)(t:TS)(f:SS):Prop:=∀ Hv₀ H₀ E σ H st,Rel C.X.K Hv₀ H₀ st σ H->OkS C Hv₀ H₀ E (f st)->t E σ H
def SSt (C:Ctx)(s:Stmt)(f:SS):Prop:=∃ t:TS,PS C.X s t/\tV C t f
def SSs (C:Ctx)(ss:List Stmt)(f:SS):Prop:=∃ t:TS,PSs C.X ss t/\tV C t f
section
variable {C:Ctx}{a b c:Expr}{e:Expr}{f g h:EE}{F G:SS}{s:Stmt}{ss:List Stmt}{pos pos':Pos}{E:Ends}
theorem OkS.now {Hv₀ H₀:Hp}{st:Dv.St}{σ:St}{H:Hp}(q:OkS C Hv₀ H₀ E (.nx st))(r:Rel C.X.K Hv₀ H₀ st σ H):E.nx σ H:=q σ H r
theorem aQ:SSs C [] Dv.sNil:=⟨_,ui,λ Hv₀ H₀ E σ H st r q=>q σ H r⟩
theorem ah (h1:SSt C s F)(h2:SSs C ss G):SSs C (s::ss) (Dv.sCons F G):=by
 obtain⟨t,p,q⟩:=h1;obtain⟨u,p2,q2⟩:=h2;refine⟨_,eW p p2,λ Hv₀ H₀ E σ H st r w=>?_⟩;refine q Hv₀ H₀ { E with nx:=u E } σ H st r ?_
 have w':OkS C Hv₀ H₀ E ((F st).bind G):=w;cases hf:F st with
 | nx st'=>rw[hf] at w';exact λ σ' H' r'=>q2 Hv₀ H₀ E σ' H' st' r' w'
 | ret d nw=>rw[hf] at w';exact w'
 | brk st=>rw[hf] at w';exact w'
 | cont st=>rw[hf] at w';exact w'
 | exc c st=>rw[hf] at w';exact w'
 | bad=>rw[hf] at w';exact w'
theorem ao (h1:SSt C s F):SSs C [s] F:=by
 obtain⟨t,p,q⟩:=h1;exact⟨t,ff p,q⟩
theorem Tak.all {t:TE}(q:Tak C t f){Hv₀ H₀ Hc H:Hp}{O:Nat->Hp}{σ:St}{st:Dv.St}(r:RelC C.X.K Hv₀ H₀ Hc O st σ H){T:VK}
  (hx:∀ c,f (Dv.all st)=.exc c->∀ H',RelC C.X.K Hv₀ H₀ Hc O st σ H'->C.W σ (C.cls c) none H') (hb:f (Dv.all st)≠.bad)
  (ok:∀ d fr v Hv' H',f (Dv.all st)=.ok d fr->Ext (eF Hc O H) H Hv' H'->RelC C.X.K Hv₀ H₀ Hc O st σ H'->Rp C.X.K Hv' d v->(fr=true->Rp [] (Hnew H H') d v)->T v H'):t σ H T:=by
 refine q σ H (eF Hc O H) (Dv.all st) T r.envAll r.allH ?_
 cases hf:f (Dv.all st) with
 | bad=>exact absurd hf hb
 | exc c=>exact λ Hv' H' x=>hx c hf H' (r.grow x.hh x.nf)
 | ok d fr=>exact λ v Hv' H' x rp n=>ok d fr v Hv' H' hf x (r.grow x.hh x.nf) rp n
theorem Tak.open {t:TE}(q:Tak C t f){Hv₀ H₀ Hc H:Hp}{O:Nat->Hp}{σ:St}{st:Dv.St}(r:RelC C.X.K Hv₀ H₀ Hc O st σ H){T:VK}
  (hx:∀ c,f (Dv.open_ st)=.exc c->∀ Hc' H',Ext Hc H Hc' H'->C.W σ (C.cls c) none H') (hb:f (Dv.open_ st)≠.bad)
  (ok:∀ d fr v Hc' H',f (Dv.open_ st)=.ok d fr->Ext Hc H Hc' H'->RelC C.X.K Hv₀ H₀ Hc' O st σ H'->Rp C.X.K Hc' d v->T v H'):t σ H T:=by
 refine q σ H Hc (Dv.open_ st) T r.envOpen r.ch ?_
 cases hf:f (Dv.open_ st) with
 | bad=>exact absurd hf hb
 | exc c=>exact λ Hv' H' x=>hx c hf Hv' H' x
 | ok d fr=>exact λ v Hv' H' x rp n=>ok d fr v Hv' H' hf x (r.growC x) rp
theorem bh (he:SE C e f)(hs:autoParam (swapsWith e none pos.line C.X.env=pure false) ZE._auto_1):SSt C (.Expr e pos) (Dv.sExpr f):=by
 obtain⟨t,p,q⟩:=he;refine⟨_,dQ p hs,λ Hv₀ H₀ E σ H st ⟨Hc,O,r⟩ w=>?_⟩;unfold Dv.sExpr at w;refine q.all r (λ c hf H' r'=>?_) (λ hf=>?_) λ d fr v Hv' H' hf x r' rp n=>?_
 ·rw[hf] at w;exact w σ H' ⟨Hc,O,r'⟩
 ·rw[hf] at w;exact w
 ·rw[hf] at w;exact w σ H' ⟨Hc,O,r'⟩
theorem RelC.ret {Hv₀ H₀ Hc H Hv' H':Hp}{O:Nat->Hp}{σ:St}{st:Dv.St}{K:Cd}(r:RelC K Hv₀ H₀ Hc O st σ H)(x:Ext (eF Hc O H) H Hv' H'):∃ Hv2,Ext Hv₀ H₀ Hv2 H'/\Same Hv' Hv2:=by
 have key:∀ b o,Hv' b=some o->Hv₀ b=none->H₀ b=none:=λ b o h n=>by
  cases q:eF Hc O H b with
  | some u=>exact r.allNew b u q n
  | none=>exact r.h0.free (x.new b o h q)
 refine⟨λ b=>match H₀ b with|none=>H' b|some _=>Hv' b,⟨r.h0.trans x.hh,λ b o h=>?_,λ b o h=>?_,λ b o h n=>?_,λ b h=>?_,λ b o u h=>?_⟩,λ b o h=>?_⟩
 ·have h2:Hv' b=some o:=x.vv _ _ (r.cAll _ _ (r.vc b o h))
  show (match H₀ b with|none=>H' b|some _=>Hv' b)=some o
  cases H₀ b with
  | none=>exact x.vh b o h2
  | some _=>exact h2
 ·have h':(match H₀ b with|none=>H' b|some _=>Hv' b)=some o:=h
  cases q:H₀ b with
  | none=>rw[q] at h';exact h'
  | some _=>rw[q] at h';exact x.vh b o h'
 ·have h':(match H₀ b with|none=>H' b|some _=>Hv' b)=some o:=h
  cases q:H₀ b with
  | none=>rfl
  | some u=>
   rw[q] at h';have:=key b o h' n;rw[q] at this;cases this
 ·show (match H₀ b with|none=>H' b|some _=>Hv' b)=H' b
  rw[h]
 ·exact(r.grow x.hh x.nf).nf b o u h
 ·show (match H₀ b with|none=>H' b|some _=>Hv' b)=some o
  cases H₀ b with
  | none=>exact x.vh b o h
  | some _=>exact h
theorem aH (he:SE C e f):SSt C (.Return (some e) pos) (Dv.sRet f):=by
 obtain⟨t,p,q⟩:=he;refine⟨_,mB p,λ Hv₀ H₀ E σ H st ⟨Hc,O,r⟩ w=>?_⟩;unfold Dv.sRet at w;refine q.all r (λ c hf H' r'=>?_) (λ hf=>?_) λ d fr v Hv' H' hf x r' rp n=>?_
 ·rw[hf] at w;exact w σ H' ⟨Hc,O,r'⟩
 ·rw[hf] at w;exact w
 ·rw[hf] at w
  obtain⟨Hv2,x2,s2⟩:=r.ret x;exact w v Hv2 H' x2 (rp.same s2) λ z=>(n z).same (Hnew.mono r.h0 (.refl _))
theorem dW (i:Nat){x:Str}(hN:autoParam (C.X.N[i]?=some x) ZE._auto_1)(hv:autoParam (Vis C.X.env.scope x) ZG._auto_1)(hd:autoParam ((x == ("__debug__":Str))=false) ZC._auto_1)
  (hcd:autoParam ((x == ("__classdict__":Str))=false) ZC._auto_1):SSt C (.Return (some (.Name x pos')) pos) (Dv.sRetO i):=by
 refine⟨_,mB (cL hN hv hd hcd),λ Hv₀ H₀ E σ H st ⟨Hc,O,r⟩ w=>?_⟩;unfold Dv.sRetO at w;obtain⟨Hv2,x2,s2⟩:=r.ret (.refl r.allH);cases hi:st[i]? with
 | none=>rw[hi] at w;exact Zf w
 | some s=>
  rw[hi] at w;cases s with
  | no=>exact Zf w
  | sh d=>
   obtain⟨v,h1,h2⟩:=r.sh i d hi;exact⟨v,h1,w v Hv2 H x2 ((h2.same r.cAll).same s2) λ z=>h2.scal z⟩
  | jk n m=>exact Zf w
  | dp d=>
   obtain⟨v,h1,h2⟩:=r.dp i d hi;exact⟨v,h1,w v Hv2 H x2 ((Rp.frag (h2.same (r.oAll i))).same s2) λ _=>h2.same λ b o h=>by
    unfold Hnew;rw[(r.oh i b o h).2.2];exact(r.oh i b o h).1⟩
  | ow d=>
   obtain⟨a,o,h1,h2,h3⟩:=r.ow i d hi;have rp:Rp C.X.K Hv2 d (.ref a):=by
    obtain⟨v,h6,h7⟩:=r.envAll i d (by unfold Dv.all;rw[ze,hi];rfl);rw[h1] at h6;cases h6;exact h7.same s2
   cases d with
   | lst ds=>
    refine⟨_,h1,w (.ref a) Hv2 H x2 rp λ z=>?_⟩;obtain⟨vs,rfl,h5⟩:=h3;unfold Rp;refine⟨a,vs,rfl,SqX.of ?_,h5.flat z⟩;unfold Hnew;rw[(r.oh i a _ h2).2.2];exact(r.oh i a _ h2).1
   | dct ks ds=>exact⟨_,h1,w (.ref a) Hv2 H x2 rp λ z=>nomatch z⟩
   | _=>exact Zf h3
theorem bj {pa pb:List Stmt}(hc:SC C c f)(ha:SSs C pa F)(hb:SSs C pb G):SSt C (.If c pa pb pos) (Dv.sIf f F G):=by
 obtain⟨tc,pc,qc⟩:=hc;obtain⟨t,p,q⟩:=ha;obtain⟨u,p2,q2⟩:=hb;refine⟨_,xU pc p p2,λ Hv₀ H₀ E σ H st ⟨Hc,O,r⟩ w=>?_⟩;unfold Dv.sIf at w;refine qc σ H (eF Hc O H) (Dv.all st) _ r.envAll r.allH ?_
 cases hf:f (Dv.all st) with
 | bad=>rw[hf] at w;exact w
 | exc c=>rw[hf] at w;exact λ Hv' H' x=>w σ H' ⟨Hc,O,r.grow x.hh x.nf⟩
 | ok d fr=>
  rw[hf] at w;intro v Hv' H' x rp n;cases d with
  | bl b=>
   unfold Rp at rp;refine⟨b,rp,?_⟩;cases b with
   | true=>exact pV (q Hv₀ H₀ E σ H' st ⟨Hc,O,r.grow x.hh x.nf⟩ w)
   | false=>exact rM (q2 Hv₀ H₀ E σ H' st ⟨Hc,O,r.grow x.hh x.nf⟩ w)
  | _=>exact Zf w
theorem mE {t:TE}(q:Tak C t f)(i:Nat){Hv₀ H₀ H:Hp}{σ:St}{st:Dv.St}(r:Rel C.X.K Hv₀ H₀ st σ H)(w:OkS C Hv₀ H₀ E (Dv.sSet i f st)):t σ H λ v H'=>E.nx (σ.set i (some v)) H':=by
 obtain⟨Hc,O,r⟩:=r;unfold Dv.sSet at w;refine q.all r (λ c hf H' r'=>?_) (λ hf=>?_) λ d fr v Hv' H' hf x r' rp n=>?_
 ·rw[hf] at w;exact w σ H' ⟨Hc,O,r'⟩
 ·rw[hf] at w;exact w
 ·rw[hf] at w
  cases d with
  | lst ds=>
   simp only[Dv.keepD] at w;by_cases z:(fr&&Dv.flatL ds)=true
   ·simp only[z,if_true] at w
    rw[yL] at z;have rn:=n z.1;unfold Rp at rn;obtain⟨a,vs,rfl,h1,h2⟩:=rn;have h1':Hnew H H' a=some (.lst vs):=by
     rcases h1 with (h1|⟨o,h1⟩)|⟨its,m,e,_⟩
     ·exact h1
     ·exfalso
      have hn:H a=none:=by
       unfold Hnew at h1;cases q:H a with
       | none=>rfl
       | some u=>rw[q] at h1;cases h1
      exact x.nf a o _ hn (Hnew.sub a _ h1)
     ·simp at e
    have hn:H a=none:=by
     unfold Hnew at h1';cases q:H a with
     | none=>rfl
     | some u=>rw[q] at h1';cases h1'
    refine w _ H' ⟨Hc,_,r'.setOw (Hnew.sub a _ h1') (r.ch.free hn) (r.h0.free hn) (λ j _=>?_) ⟨vs,rfl,h2.flat z.2⟩⟩;cases q:O j a with
    | none=>rfl
    | some u=>have:=(r.oh j a u q).1;rw[hn] at this;cases this
   ·simp only[z] at w
    exact Zf w
  | tup ds=>exact Zf w
  | exn c=>exact Zf w
  | raw _=>exact Zf w
  | ins _ _=>exact Zf w
  | tab _=>exact Zf w
  | dct ks ds=>
   simp only[Dv.keepD] at w;by_cases z:(fr&&ks.isEmpty&&ds.isEmpty)=true
   ·simp only[z,if_true] at w
    simp only[yL,List.isEmpty_iff] at z;obtain⟨⟨z1,z2⟩,z3⟩:=z;subst z2 z3;have rn:=n z1;unfold Rp at rn;obtain⟨a,vs,rfl,_,h1,h2⟩:=rn;unfold RpL at h2;subst h2;have h1':Hnew H H' a=some (.dK []):=by
     rcases h1 with h1|⟨o,h1⟩
     ·exact h1
     ·exfalso
      have hn:H a=none:=by
       unfold Hnew at h1;cases q:H a with
       | none=>rfl
       | some u=>rw[q] at h1;cases h1
      exact x.nf a o _ hn (Hnew.sub a _ h1)
    have hn:H a=none:=by
     unfold Hnew at h1';cases q:H a with
     | none=>rfl
     | some u=>rw[q] at h1';cases h1'
    refine w _ H' ⟨Hc,_,r'.setOw (Hnew.sub a _ h1') (r.ch.free hn) (r.h0.free hn) (λ j _=>?_) ⟨[],rfl,rfl,.nil⟩⟩;cases q:O j a with
    | none=>rfl
    | some u=>have:=(r.oh j a u q).1;rw[hn] at this;cases this
   ·simp only[z] at w
    exact Zf w
  | _=>exact w _ H' ⟨Hc,O,r'.setSh (Rp.scal rfl rp)⟩
theorem aL {i:Nat}{x:Str}(he:SE C e f)(hN:C.X.N.Nodup)(hi:C.X.N[i]?=some x)(hx:Loc C.X.env.scope x)(hs:autoParam (swapsWith e (some (.Name x pos')) pos.line C.X.env=pure false) ZE._auto_1)
  (hf:autoParam (C.X.fn x=true\/C.X.env.scope.names.lookup x=some .local) ZB._auto_1):SSt C (.Assign [.Name x pos'] e pos) (Dv.sSet i f):=by
 obtain⟨t,p,q⟩:=he;exact⟨_,gW hN hi hx p hs hf,λ Hv₀ H₀ E σ H st r w=>mE q i r w⟩
theorem rE {t:TE}(q:Tak C t f)(is:List Nat)(i:Nat){Hv₀ H₀ H:Hp}{σ:St}{st:Dv.St}(r:Rel C.X.K Hv₀ H₀ st σ H)(w:OkS C Hv₀ H₀ E (Dv.sSetG is i f st)):t σ H λ v H'=>E.nx (σ.set i (some v)) H':=by
 obtain⟨Hc0,O0,r0⟩:=r;obtain⟨Hc,O,_,r⟩:=r0.give is;unfold Dv.sSetG at w;refine q.open r (λ c hf Hc' H' x=>?_) (λ hf=>?_) λ d fr v Hc' H' hf x r' rp=>?_
 ·rw[hf] at w;exact w σ H' ⟨Hc0,O0,r0.grow x.hh x.nf⟩
 ·rw[hf] at w;exact w
 ·rw[hf] at w
  exact w _ H' ⟨Hc',O,r'.setSh rp⟩
theorem aR (is:List Nat){i:Nat}{x:Str}(he:SE C e f)(hN:C.X.N.Nodup)(hi:C.X.N[i]?=some x)(hx:Loc C.X.env.scope x)(hs:autoParam (swapsWith e (some (.Name x pos')) pos.line C.X.env=pure false) ZE._auto_1)
  (hf:autoParam (C.X.fn x=true\/C.X.env.scope.names.lookup x=some .local) ZB._auto_1):SSt C (.Assign [.Name x pos'] e pos) (Dv.sSetG is i f):=by
 obtain⟨t,p,q⟩:=he;exact⟨_,gW hN hi hx p hs hf,λ Hv₀ H₀ E σ H st r w=>rE q is i r w⟩
theorem RelC.own {Hv₀ H₀ Hc H:Hp}{O:Nat->Hp}{σ:St}{st:Dv.St}{K:Cd}{i:Nat}{ds:List D}(r:RelC K Hv₀ H₀ Hc O st σ H)(hi:st[i]?=some (.ow (.lst ds))):
  ∃ a vs,σ[i]?=some (some (.ref a))/\H a=some (.lst vs)/\RpL K Hc ds vs:=by
 obtain⟨a,o,h1,h2,vs,rfl,h3⟩:=r.ow i _ hi;exact⟨a,vs,h1,(r.oh i a _ h2).1,h3⟩
theorem lJ {i:Nat}{x:Str}{apos cpos:Pos}{px:Pos}(he:SE C e f)(hN:autoParam (C.X.N[i]?=some x) ZE._auto_1)(hv:autoParam (Vis C.X.env.scope x) ZG._auto_1)
    (hd:autoParam ((x == ("__debug__":Str))=false) ZC._auto_1) (hcd:autoParam ((x == ("__classdict__":Str))=false) ZC._auto_1) (hst:autoParam (starEach [e] C.X.env=[(false,eval e C.X.env)]) ZE._auto_1)
    (hbase:autoParam (attributeBase (.Name x px) "append" C.X.env (eval (.Name x px) C.X.env)=eval (.Name x px) C.X.env) ZE._auto_1)
    (hfew:autoParam (((backTo cpos (starEach [e] C.X.env)).all (λ x=>!x.1)&&(backToKw cpos (keywordEach [] C.X.env)).all (λ x=>x.1.isSome)
      && decide ([e].length+([]:List Keyword).length+(if ([]:List Keyword).isEmpty then 0 else 1)<30))=true) ZE._auto_1)
    (hline:autoParam ((apos.endLine == cpos.line)=true) ZE._auto_1)
    (hs:autoParam (swapsWith (.Call (.Attribute (.Name x px) "append" apos) [e] [] cpos) none pos.line C.X.env=pure false) ZE._auto_1):
    SSt C (.Expr (.Call (.Attribute (.Name x px) "append" apos) [e] [] cpos) pos) (Dv.sApp i f):=by
  obtain⟨t,p,q⟩:=he;refine⟨_,dQ (mR C3 DI DJ fC (cL hN hv hd hcd) (aN p bC hst) hbase hfew hline hst rfl) hs,λ Hv₀ H₀ E σ H st ⟨Hc,O,r⟩ w=>?_⟩;unfold Dv.sApp at w;cases hi:st[i]? with
  | none=>rw[hi] at w;exact Zf w
  | some s=>
    rw[hi] at w;cases s with
    | no=>exact Zf w
    | sh d=>exact Zf w
    | dp d=>exact Zf w
    | jk n m=>exact Zf w
    | ow d0=>
     cases d0 with
     | lst ds=>
      obtain⟨a,vs,h1,h2,h5⟩:=r.own hi;refine⟨_,h1,.inl ⟨rfl,vs,SqL.of h2⟩,?_⟩;refine q.all r (λ c hf H' r'=>?_) (λ hf=>?_) λ d fr v Hv' H' hf x r' rp n=>?_
      · simp only[hf] at w;exact w σ H' ⟨Hc,O,r'⟩
      · simp only[hf] at w;exact w
      · simp only[hf] at w
        by_cases z:(Dv.scal d&&decide (ds.length<Dv.mx))=true
        · simp only[z,if_true] at w
          rw[yL,decide_eq_true_eq] at z;obtain⟨O',r2⟩:=r'.put hi h1 (h5.append (.cons (rp.scal z.1) .nil));refine⟨a,vs,v,rfl,rfl,x.hh _ _ h2,?_,w σ _ ⟨Hc,O',r2⟩⟩;have:=h5.length;have:=cF (Ag z.2);have e1:(100000:Nat)<sizeLine:=by rw[CF];decide
          have e2:ds.length<100000:=z.2;omega
        · simp only[z] at w
          exact Zf w
     | _=>exact Zf w
end
section
variable {C:Ctx}{a b c e o k:Expr}{f g h:EE}{fl:EL}{F G:SS}{s:Stmt}{ss:List Stmt}{pos pos':Pos}{E:Ends}
def Wlk (K:Cd)(J:It)(Hv:Hp)(ds:List D):Prop:=
 ∀ (i:Nat) (H:Hp),Same Hv H->(∀ d,ds[i]?=some d->J.go i H/\∀ x H',J.yld i H x H'->∃ Hv',Ext Hv H Hv' H'/\Rp K Hv' d x)/\(i=ds.length->J.stop i H)
def OkI (K:Cd)(Hv H:Hp)(W:XK)(cls:String->Value)(r:RI)(T:It->Hp->Prop):Prop:=match r with
 | .ok ds _=>∀ J Hv' H',Ext Hv H Hv' H'->Wlk K J Hv' ds->T J H'
 | .exc c=>∀ Hv' H',Ext Hv H Hv' H'->W (cls c) none H'
 | .bad=>False
def SI (C:Ctx)(tg it:Expr)(f:EI):Prop:=
 ∃ wi:TI,PI C.X tg it wi/\∀ σ H Hv ρ T,EnvR C.X.K Hv ρ σ->Same Hv H->OkI C.X.K Hv H (C.W σ) C.cls (f ρ) T->wi σ H T
theorem bc {tg:Expr}(he:SE C e f):SI C tg e (Dv.iSeq f):=by
 obtain⟨t,p,q⟩:=he;refine⟨_,jy p,λ σ H Hv ρ T er s w=>?_⟩;refine q σ H Hv ρ _ er s ?_
 unfold Dv.iSeq at w;cases hf:f ρ with
 | bad=>rw[hf] at w;exact w
 | exc c=>rw[hf] at w;exact w
 | ok d fr=>
  rw[hf] at w;intro v Hv' H' x rp n;cases d with
  | lst ds=>
   unfold Rp at rp;obtain⟨l,vs,rfl,h1,h2⟩:=rp;refine⟨l,rfl,⟨vs,(h1.same x.vh).seq⟩,w _ Hv' H' x λ i H2 s2=>⟨λ d hd=>?_,λ hi=>?_⟩⟩
   ·obtain⟨u,h3,h4⟩:=h2.get hd
    refine⟨⟨vs,u,(h1.same s2).seq,h3⟩,λ x H3 ⟨e1,hy⟩=>?_⟩;subst e1;have:=hy vs (h1.same s2).seq;rw[h3] at this;cases this;exact⟨Hv',.refl s2,h4⟩
   ·exact⟨vs,(h1.same s2).seq,by rw[h2.length,hi];exact yW _⟩
  | _=>exact Zf w
theorem oQ (lo:Int):∀ (n i:Nat) (d:D),(Dv.rangeL lo n)[i]?=some d->i<n/\d=.int (lo+i):=by
 intro n
 induction n generalizing lo with
 | zero=>intro i d h;simp[Dv.rangeL] at h
 | succ n ih=>
  intro i d h;cases i with
  | zero=>simp[Dv.rangeL] at h;subst h;exact⟨⋯,by simp⟩
  | succ i=>
   simp only[Dv.rangeL,yD] at h;obtain⟨h1,h2⟩:=ih (lo+1) i d h;exact⟨⋯,by rw[h2];congr 1;omega⟩
theorem o8 (lo:Int):∀ n:Nat,(Dv.rangeL lo n).length=n:=by
 intro n
 induction n generalizing lo with
 | zero=>rfl
 | succ n ih=>simp[Dv.rangeL,ih]
theorem jc {K:Cd}{Hv:Hp}(lo:Int)(n:Nat):Wlk K (Itr lo n) Hv (Dv.rangeL lo n):=λ i H s=>⟨λ d hd=>by
  obtain⟨h1,rfl⟩:=oQ lo n i d hd;refine⟨h1,λ x H' ⟨e1,e2⟩=>?_⟩;subst e1 e2;exact⟨Hv,.refl s,bE⟩,λ hi=>by rw[o8] at hi;subst hi;exact yW _⟩
theorem pK {j:Int}(h:Dv.rngOk j=true):-(2 ^ 62)<=j/\j<2 ^ 62:=by
 unfold Dv.rngOk at h;simp only[yL,decide_eq_true_eq] at h;omega
theorem cN {tg:Expr}{p:Pos}(hg:Gl C.X "range")(hm:C.X.mg "range"=none)(he:SE C e f)(hs:autoParam (starEach [e] C.X.env=[(false,eval e C.X.env)]) ZE._auto_1):
  SI C tg (.Call (.Name "range" p) [e] [] pos) (Dv.iRange f):=by
 obtain⟨t,pe,q⟩:=he;refine⟨_,nZ hg hm (aN pe bC hs) hs,λ σ H Hv ρ T er s w=>?_⟩;refine q σ H Hv ρ _ er s ?_
 unfold Dv.iRange at w;cases hf:f ρ with
 | bad=>rw[hf] at w;exact w
 | exc c=>rw[hf] at w;exact w
 | ok d fr=>
  rw[hf] at w;intro v Hv' H' x rp n;cases d with
  | int j=>
   unfold Rp at rp;subst rp;by_cases hr:Dv.rngOk j=true
   ·simp only[hr,if_true] at w
    obtain⟨h1,h2⟩:=pK hr;exact⟨j,rfl,h1,h2,w _ Hv' H' x (jc 0 j.toNat)⟩
   ·simp only[hr] at w
    exact Zf w
  | _=>exact Zf w
theorem iN {tg:Expr}{p:Pos}(hg:Gl C.X "range")(hm:C.X.mg "range"=none)(he:SE C e f)(hb:SE C b g)(hs:autoParam (starEach [e,b] C.X.env=[(false,eval e C.X.env),(false,eval b C.X.env)]) ZE._auto_1)
  (hs2:autoParam (starEach [b] C.X.env=[(false,eval b C.X.env)]) ZE._auto_1):SI C tg (.Call (.Name "range" p) [e,b] [] pos) (Dv.iRange2 f g):=by
 obtain⟨t,pe,q⟩:=he;obtain⟨t2,pe2,q2⟩:=hb;refine⟨_,oA hg hm (aN pe (aN pe2 bC hs2) (by rw[hs,hs2])) hs hs2,λ σ H Hv ρ T er s w=>?_⟩;refine q σ H Hv ρ _ er s ?_
 unfold Dv.iRange2 at w;cases hf:f ρ with
 | bad=>rw[hf] at w;exact w
 | exc c=>rw[hf] at w;exact w
 | ok d fr=>
  rw[hf] at w;intro v Hv' H' x rp n;cases d with
  | int i=>
   unfold Rp at rp;subst rp;refine q2 σ H' Hv' ρ _ (er.same x.vv) x.vh ?_
   cases hg':g ρ with
   | bad=>simp only[hg'] at w;exact w
   | exc c=>simp only[hg'] at w;exact λ Hv2 H2 y=>w Hv2 H2 (x.trans y)
   | ok d2 fr2=>
    simp only[hg'] at w;intro v2 Hv2 H2 y rp2 n2;cases d2 with
    | int j=>
     unfold Rp at rp2;subst rp2;by_cases hr:(Dv.rngOk i&&Dv.rngOk j)=true
     ·simp only[hr,if_true] at w
      rw[yL] at hr;obtain⟨h1,h2⟩:=pK hr.1;obtain⟨h3,h4⟩:=pK hr.2;exact⟨i,j,rfl,⟨h1,h2,h3,h4⟩,w _ Hv2 H2 (x.trans y) (jc i _)⟩
     ·simp only[hr] at w
      exact Zf w
    | _=>exact Zf w
  | _=>exact Zf w
def SG (C:Ctx)(tg:Expr)(st:D->Dv.St->Option Dv.St):Prop:=
 ∃ g:TG,PG C.X tg g/\∀ Hv₀ H₀ Hc O H σ s s' d v T,RelC C.X.K Hv₀ H₀ Hc O s σ H->Rp C.X.K Hc d v->st d s=some s'->(∀ σ' ,RelC C.X.K Hv₀ H₀ Hc O s' σ' H->T σ' H)->g v σ H T
theorem sY {i:Nat}{x:Str}(hN:C.X.N.Nodup)(hi:C.X.N[i]?=some x)(hx:Loc C.X.env.scope x)(hf:autoParam (C.X.fn x=true\/C.X.env.scope.names.lookup x=some .local) ZB._auto_1):
  SG C (.Name x pos) (λ d s=>some (s.set i (.sh d))):=by
 refine⟨_,c7 hN hi hx hf,λ Hv₀ H₀ Hc O H σ s s' d v T r rp e h=>?_⟩;cases e;exact h _ (r.setSh rp)
theorem RelC.self {K:Cd}{Hv₀ H₀ Hc H:Hp}{O:Nat->Hp}{st:Dv.St}{σ:St}(r:RelC K Hv₀ H₀ Hc O st σ H):RelC K Hc H₀ Hc O st σ H:=
 ⟨r.h0,.refl _,r.ch,λ b o h n=>(by rw[n] at h;cases h),r.nf,r.len,r.sh,r.ow,r.dp,r.jk,r.oh,r.one⟩
theorem OkS.less {Hv₀ Hc H₀:Hp}{o:Out}(h:OkS C Hv₀ H₀ E o)(vc:Same Hv₀ Hc)(new:∀ b o,Hc b=some o->Hv₀ b=none->H₀ b=none):OkS C Hc H₀ E o:=by
 have rl:∀ {st σ H},Rel C.X.K Hc H₀ st σ H->Rel C.X.K Hv₀ H₀ st σ H:=λ⟨Hd,O,r⟩=>⟨Hd,O,r.less vc new⟩
 cases o with
 | nx st=>exact λ σ H r=>h σ H (rl r)
 | ret d nw=>
  refine λ v Hv' H' x rp n=>h v Hv' H' ⟨x.hh,vc.trans x.vv,x.vh,λ b o q m=>?_,x.all,x.nf⟩ rp n
  cases z:Hc b with
  | some u=>exact new b u z m
  | none=>exact x.new b o q z
 | brk st=>exact λ σ H r=>h σ H (rl r)
 | cont st=>exact λ σ H r=>h σ H (rl r)
 | exc c st=>exact λ σ H r=>h σ H (rl r)
 | bad=>exact h
theorem wB {tgt:D->Dv.St->Option Dv.St}{g:TG}{tb:TS}{J:It}{ds:List D}{Hc H₀ H:Hp}{σ:St}{st:Dv.St}
  (qg:∀ Hv₀ H₀ Hc O H σ s s' d v T,RelC C.X.K Hv₀ H₀ Hc O s σ H->Rp C.X.K Hc d v->tgt d s=some s'->(∀ σ' ,RelC C.X.K Hv₀ H₀ Hc O s' σ' H->T σ' H)->g v σ H T)
  (qb:tV C tb F) (wl:Wlk C.X.K J Hc ds) (r:Rel C.X.K Hc H₀ st σ H) (w:OkS C Hc H₀ E (Dv.forGoT tgt F ds st)):
  ∃ W:Nat->Nat->St->Hp->Prop,(∃ m,W 0 m σ H)/\∀ i m σ H,W i m σ H ->
   (J.stop i H/\E.nx σ H)\/(J.go i H/\∃ N:St->Hp->Prop,(∀ σ' H',N σ' H'->∃ m',m'<m/\W (i+1) m' σ' H')/\∀ x H',J.yld i H x H'->g x σ H' λ σ2 H2=>tb { E with nx:=N,ct:=N,bk:=E.nx } σ2 H2):=by
 refine⟨λ i m σ H=>m=ds.length-i/\i<=ds.length/\∃ st,Rel C.X.K Hc H₀ st σ H/\OkS C Hc H₀ E (Dv.forGoT tgt F (ds.drop i) st),⟨_,rfl,zI _,st,r,w⟩,?_⟩
 rintro i m σ H ⟨rfl,hi,st,⟨Hd,O,r⟩,w⟩
 obtain⟨w1,w2⟩:=wl i H (r.vc.trans r.ch);by_cases hlt:i<ds.length
 ·have hd:ds[i]?=some ds[i]:=by simp[hlt]
  have e1:ds.drop i=ds[i]::ds.drop (i+1):=zW hlt;rw[e1] at w;generalize ds[i]=d at hd e1 w;obtain⟨go,yl⟩:=w1 d hd;refine .inr ⟨go,λ σ' H'=>∃ st,Rel C.X.K Hc H₀ st σ' H'/\OkS C Hc H₀ E (Dv.forGoT tgt F (ds.drop (i+1)) st),λ σ' H' h=>⟨ds.length-(i+1),⋯,rfl,hlt,h⟩,λ x H' hy=>?_⟩;obtain⟨Hv',x1,rp⟩:=yl x H' hy;unfold Dv.forGoT at w;cases ht:tgt d st with
  | none=>simp only[ht] at w;exact Zf w
  | some st1=>
   simp only[ht] at w;have x2:Ext Hd H (λ b=>match H b with|none=>H' b|some _=>Hd b) H':=by
    refine⟨x1.hh,λ b o q=>?_,λ b o q=>?_,λ b o q n=>?_,λ b q=>?_,x1.nf⟩
    ·show (match H b with|none=>H' b|some _=>Hd b)=some o
     cases z:H b with
     | none=>rw[r.ch b o q] at z;cases z
     | some _=>exact q
    ·have q':(match H b with|none=>H' b|some _=>Hd b)=some o:=q
     cases z:H b with
     | none=>rw[z] at q';exact q'
     | some u=>rw[z] at q';exact x1.hh _ _ (r.ch b o q')
    ·have q':(match H b with|none=>H' b|some _=>Hd b)=some o:=q
     cases z:H b with
     | none=>rfl
     | some u=>rw[z] at q';rw[n] at q';cases q'
    ·show (match H b with|none=>H' b|some _=>Hd b)=H' b
     rw[q]
   have r2:=r.growC x2;have sub:Same Hv' (λ b=>match H b with|none=>H' b|some _=>Hd b):=λ b o q=>by
    show (match H b with|none=>H' b|some _=>Hd b)=some o
    cases z:H b with
    | none=>exact x1.vh b o q
    | some u=>
     cases z2:Hc b with
     | none=>have:=x1.new b o q z2;rw[z] at this;cases this
     | some u'=>
      have h1:=x1.vv b u' z2;rw[q] at h1;cases h1;exact r.vc b o z2
   refine qg Hc H₀ _ _ H' σ st st1 d x _ r2 (rp.same sub) ht λ σ2 r3=>?_
   refine qb Hc H₀ _ σ2 H' st1 ⟨_,_,r3⟩ ?_
   cases hb:F st1 with
   | nx st'=>simp only[hb] at w;exact λ σ' H' r'=>⟨st',r',w⟩
   | cont st'=>simp only[hb] at w;exact λ σ' H' r'=>⟨st',r',w⟩
   | brk st'=>simp only[hb] at w;exact w
   | ret d nw=>simp only[hb] at w;exact w
   | exc c st'=>simp only[hb] at w;exact w
   | bad=>simp only[hb] at w;exact w
 ·have e:i=ds.length:=⋯
  refine .inl ⟨w2 e,?_⟩;rw[e,BH] at w;exact w σ H ⟨Hd,O,r⟩
theorem gy (is:List Nat){tg it:Expr}{body:List Stmt}{tgt:D->Dv.St->Option Dv.St}{fi:EI}(hi:SI C tg it fi)(hg:SG C tg tgt)(hb:SSs C body F)(hcalm:autoParam (C.X.calm=true) ZE._auto_1)
  (hs:autoParam (∀ x,foldedSetIterable it C.X.env x=pure x) ZD._auto_1):SSt C (.For tg it body [] pos) (Dv.sForT is tgt fi F):=by
 obtain⟨wi,pi,qi⟩:=hi;obtain⟨g,pg,qg⟩:=hg;obtain⟨tb,pb,qb⟩:=hb;refine⟨_,lM C.own hcalm pi pg pb hs,λ Hv₀ H₀ E σ H st ⟨Hc0,O0,r0⟩ w=>?_⟩;obtain⟨Hc,O,_,r⟩:=r0.give is;unfold Dv.sForT at w;refine qi σ H Hc (Dv.open_ (Dv.give is st)) _ r.envOpen r.ch ?_
 cases hf:fi (Dv.open_ (Dv.give is st)) with
 | bad=>simp only[hf] at w;exact w
 | exc c=>simp only[hf] at w;exact λ Hv' H' x=>w σ H' ⟨Hc0,O0,r0.grow x.hh x.nf⟩
 | ok ds fr=>
  simp only[hf] at w;intro J Hc' H' x wl;have r1:=r.growC x;exact wB qg qb wl ⟨Hc',O,r1.self⟩ (w.less r1.vc r1.new)
theorem jY (x:Nat)(body:SS):∀ (ds:List D) (st:Dv.St),Dv.forGoT (λ d s=>some (s.set x (.sh d))) body ds st=Dv.forGo x body ds st
 | [],st=>rfl
 | d::r,st=>by
  unfold Dv.forGoT Dv.forGo;cases h:body (st.set x (.sh d)) with
  | nx st'=>simp only[h];exact jY x body r st'
  | cont st'=>simp only[h];exact jY x body r st'
  | _=>simp only[h]
theorem c9 (is:List Nat){i:Nat}{x:Str}{it:Expr}{body:List Stmt}{fi:EI}(hi:SI C (.Name x pos') it fi)(hb:SSs C body F)(hN:C.X.N.Nodup)(hn:C.X.N[i]?=some x)(hx:Loc C.X.env.scope x)
  (hf:autoParam (C.X.fn x=true\/C.X.env.scope.names.lookup x=some .local) ZB._auto_1) (hs:autoParam (∀ x,foldedSetIterable it C.X.env x=pure x) ZD._auto_1) (hcalm:autoParam (C.X.calm=true) ZE._auto_1):
  SSt C (.For (.Name x pos') it body [] pos) (Dv.sFor is i fi F):=by
 obtain⟨t,p,q⟩:=gy (pos:=pos) is hi (sY (pos:=pos') hN hn hx hf) hb hcalm hs;refine⟨t,p,λ Hv₀ H₀ E σ H st r w=>q Hv₀ H₀ E σ H st r ?_⟩;unfold Dv.sForT;unfold Dv.sFor at w;cases hf:fi (Dv.open_ (Dv.give is st)) with
 | bad=>simp only[hf] at w ⊢;exact w
 | exc c=>simp only[hf] at w ⊢;exact w
 | ok ds fr=>simp only[hf] at w ⊢;rw[jY];exact w
theorem qD (n:Nat){body:List Stmt}(hc:SC C c f)(hb:SSs C body F):SSt C (.While c body [] pos) (Dv.sWhile n f F):=by
 obtain⟨tc,pc,qc⟩:=hc;obtain⟨tb,pb,qb⟩:=hb;refine⟨_,p9 C.own pc pb,λ Hv₀ H₀ E σ H st r w=>?_⟩;refine⟨λ m σ H=>∃ st,Rel C.X.K Hv₀ H₀ st σ H/\OkS C Hv₀ H₀ E (Dv.whileGo f F m st),⟨n,st,r,w⟩,?_⟩
 rintro m σ H ⟨st,⟨Hc,O,r⟩,w⟩
 cases m with
 | zero=>exact Zf w
 | succ m=>
  unfold Dv.whileGo at w;refine qc σ H (eF Hc O H) (Dv.all st) _ r.envAll r.allH ?_
  cases hf:f (Dv.all st) with
  | bad=>simp only[hf] at w;exact w
  | exc c=>simp only[hf] at w;exact λ Hv' H' x=>w σ H' ⟨Hc,O,r.grow x.hh x.nf⟩
  | ok d fr=>
   intro v Hv' H' x rp nn;cases d with
   | bl b=>
    unfold Rp at rp;refine⟨b,rp,?_⟩;cases b with
    | true=>
     simp only[hf] at w;refine pV ⟨λ σ' H'=>∃ st,Rel C.X.K Hv₀ H₀ st σ' H'/\OkS C Hv₀ H₀ E (Dv.whileGo f F m st),λ σ' H' h=>⟨m,zS m,h⟩,?_⟩;refine qb Hv₀ H₀ _ σ H' st ⟨Hc,O,r.grow x.hh x.nf⟩ ?_
     cases hb:F st with
     | nx st'=>simp only[hb] at w;exact λ σ' H' r'=>⟨st',r',w⟩
     | cont st'=>simp only[hb] at w;exact λ σ' H' r'=>⟨st',r',w⟩
     | brk st'=>simp only[hb] at w;exact w
     | ret d nw=>simp only[hb] at w;exact w
     | exc c st'=>simp only[hb] at w;exact w
     | bad=>simp only[hb] at w;exact w
    | false=>
     simp only[hf] at w;exact rM (w σ H' ⟨Hc,O,r.grow x.hh x.nf⟩)
   | _=>simp only[hf] at w;exact Zf w
def spD (K:Cd)(cls:String->Value)(F:List D->R)(n:Nat):Sp:=λ vs H Q E=>∃ ds Hv,ds.length=n/\Same Hv H/\RpL K Hv ds vs/\Ok K Hv H E cls (F ds) Q
theorem t8 {K:Cd}{cls:String->Value}{F:List D->R}{n:Nat}{vs:List V}{H:Hp}{Q:VK}{E:XK}(h:spD K cls F n vs H Q E):vs.length=n:=by
 obtain⟨ds,Hv,h1,_,h2,_⟩:=h;rw[h2.length,h1]
theorem oj {N:List Str}{vs:List V}{i:Nat}{v:V}(h:vs[i]?=some v):(L2.start N vs)[i]?=some (some v):=by
 have hl:i<vs.length:=(List.getElem?_eq_some_iff.mp h).1;unfold L2.start;rw[zl (by simpa using hl),ze,h];rfl
theorem oY {K:Cd}{Hv H:Hp}{ds:List D}{vs:List V}{N:List Str}(s:Same Hv H)(rp:RpL K Hv ds vs)(hN:ds.length<=N.length):
  RelC K Hv H Hv (λ _ _=>none) (ds.map Sl.sh++List.replicate (N.length-ds.length) Sl.no) (L2.start N vs) H:=by
 have hl:=rp.length;have get:∀ {i:Nat} {x:Sl},(ds.map Sl.sh++List.replicate (N.length-ds.length) Sl.no)[i]?=some x->(∃ d,x=.sh d/\ds[i]?=some d)\/x=.no:=λ {i x} h=>by
  by_cases hi:i<ds.length
  ·rw[zl (by simpa using hi),ze] at h
   cases q:ds[i]? with
   | none=>rw[q] at h;cases h
   | some d=>rw[q] at h;cases h;exact .inl ⟨d,rfl,rfl⟩
  ·rw[zp (by simpa using hi),Aa] at h
   split at h
   ·cases h;exact .inr rfl
   ·cases h
 refine⟨.refl _,.refl _,s,λ b o h n=>(by rw[n] at h;cases h),λ b o u h=>(by rw[h];intro z;cases z),?_,λ i d h=>?_,λ i d h=>?_,λ i d h=>?_,λ i n m h=>?_,(λ i b o h=>nomatch h),(λ i j b o o' h=>nomatch h)⟩
 ·unfold L2.start
  simp only[yY,yC,zU];omega
 ·rcases get h with ⟨d',e,h2⟩|e
  ·cases e
   obtain⟨v,h3,h4⟩:=rp.get h2;exact⟨v,oj h3,h4⟩
  ·cases e
 ·rcases get h with ⟨d',e,_⟩|e <;>cases e
 ·rcases get h with ⟨d',e,_⟩|e <;>cases e
 ·rcases get h with ⟨d',e,_⟩|e <;>cases e
theorem vA {Hv H:Hp}{ds:List D}{Q:VK}{W:XK}{n:Nat}{body:SS}(hW:C.W=λ _=>W)(h:Ok C.X.K Hv H W C.cls (Dv.fn n body ds) Q):
  OkS C Hv H { nx:=λ _ H'=>Q .non H',rt:=Q } (body (ds.map Sl.sh++List.replicate (n-ds.length) Sl.no)):=by
 unfold Dv.fn at h;have ext:∀ {st σ' H'},Rel C.X.K Hv H st σ' H'->∃ Hv2,Ext Hv H Hv2 H':=λ {st σ' H'} ⟨Hc,O,r⟩=>by
  obtain⟨Hv2,x,_⟩:=r.ret (.refl r.allH);exact⟨Hv2,x⟩
 cases hb:body (ds.map Sl.sh++List.replicate (n-ds.length) Sl.no) with
 | nx st=>
  simp only[hb] at h;intro σ' H' r;obtain⟨Hv2,x⟩:=ext r;exact h .non Hv2 H' x rJ λ _=>rJ
 | ret d nw=>simp only[hb] at h;exact λ v Hv' H' x rp nn=>h v Hv' H' x rp nn
 | brk st=>simp only[hb] at h;exact Zf h
 | cont st=>simp only[hb] at h;exact Zf h
 | exc c st=>
  simp only[hb] at h;intro σ' H' r;obtain⟨Hv2,x⟩:=ext r;rw[hW];exact h Hv2 H' x
 | bad=>simp only[hb] at h;exact Zf h
end
structure CXok (P:Program)(w:World)(CX:CXT):Prop where
 no:∀ (outer:List CH) (H:Hp) (s:Shared) (e:Value) (s':Shared),CX outer H s (λ _ _ _=>False) e s'->False
 leave:∀ (K:Cd) (mg:Str->Option Value) (base:Heap) (N:List Str) (qual:Str) (scope:Scope) (f:Addr) (cd:Value) (A:Around) (outer:List CH) (s:Shared) (H:Hp) (E:XK)
  (pins:List (Addr×Obj)) (σ:St) (H1:Hp) (s1:Shared) (e:Value) (s':Shared),Inv (cx CX P w K mg base N qual scope f cd A outer s H E) pins σ H1 s1 ->
  CX (cx CX P w K mg base N qual scope f cd A outer s H E).stack H1 s1 E e s'->(cx CX P w K mg base N qual scope f cd A outer s H E).xe e s'
section
variable {P:Program}{w:World}{K:Cd}{mg:Str->Option Value}{base:Heap}{CX:CXT}
def iw {P:Program}{w:World}(hC:CXok P w CX)(cls:String->Value)(K:Cd)(mg:Str->Option Value)(base:Heap)(N:List Str)(qual:Str)(scope:Scope)(f:Addr)(cd:Value)(A:Around)(outer:List CH)(s:Shared)(H:Hp)(E:XK)
  {k:Nat} (hr:Room k (A.deeper (envOfC qual scope s.heap.objs.size f cd))):Ctx where
 X:=cx CX P w K mg base N qual scope f cd A outer s H E
 W:=λ _=>E
 cls:=cls
 CX:=CX
 un:=hr.units
 own:=Em
 pass:=λ pins σ H1 s1 e s' I h=>hC.leave K mg base N qual scope f cd A outer s H E pins σ H1 s1 e s' I h
 cxF:=hC.no
theorem wW (hC:CXok P w CX)(cls:String->Value){x qual:Str}{st:Stmt}{f:Addr}{N ps:List Str}{k:Nat}{body:SS}(oc:Value)(od:Option Addr)(dV kV doc pm:Value)(an:Option Addr)(cdv ct:Value)(osl:Array (Option Value))
  (lk:K.lookup f=some ⟨oc,od,.func (CK x qual (bK st) (aZ st) (ai st) dV kV doc pm an cdv ct),osl⟩) (hcd:Dd K cdv qual=true) (S:FnScope N ps (ai st))
  (hbody:∀ (A:Around) (outer:List CH) (s:Shared) (H:Hp) (E:XK) (hr:Room k (A.deeper (envOfC qual (ai st) s.heap.objs.size f cdv))),
   SSs (iw hC cls K mg base N qual (ai st) f cdv A outer s H E hr) (aZ st) body):
  FnOk P w K mg base CX (k+1) f (CK x qual (bK st) (aZ st) (ai st) dV kV doc pm an cdv ct) ps (spD K cls (Dv.fn N.length body) ps.length):=by
 refine uX lk hcd S (λ vs H Q E h=>t8 h) λ A outer s H vs Q E hr h=>?_
 obtain⟨ds,Hv,hl,sv,rp,ok⟩:=h;obtain⟨t,p,q⟩:=hbody A outer s H E hr;have hpl:ps.length<=N.length:=by
  have:=congrArg List.length S.pre;rw[zo] at this;omega
 exact⟨t,p,q Hv H _ (L2.start N vs) H _ ⟨Hv,_,oY sv rp ⋯⟩ (vA (C:=iw hC cls K mg base N qual (ai st) f cdv A outer s H E hr) rfl ok)⟩
end
section
variable {C:Ctx}{a b c e o:Expr}{es:List Expr}{f g h:EE}{fl:EL}{F G:SS}{pos pos':Pos}{E:Ends}
theorem qJ {X:Cx}{CX:CXT}{W:St->XK}{k:Nat}{fa:Addr}{fd:FuncData}{ps:List Str}{sp:Sp}{dvs:List V}{ds:List Value}{x:Str}{p:Pos}{t:TA}(Fn:FnOk X.prog X.w X.K X.mg X.base CX k fa fd ps sp)(hr:Room k X.A)(hg:Gl X x)(hm:X.mg x=some (.ref fa))(hk:De X.K (.ref fa)=true)
  (hb:Binds X.K fd ps ds) (hd:Vals dvs ds) (hx:∀ (pins:List (Addr×Obj)) (σ:St) (H:Hp) (s:Shared) (e:Value) (s':Shared),Inv X pins σ H s->CX X.stack H s (W σ) e s'->X.xe e s')
  (ha:PA X (e::es) t) (hdb:(x == ("__debug__":Str))=false) (he:starEach (e::es) X.env=(false,eval e X.env)::starEach es X.env) (hpl:(backTo pos (starEach es X.env)).any (·.1)=false):
  PE X (.Call (.Name x p) (e::es) [] pos) (λ σ H Q=>t σ H λ vs H1=>sp (vs++dvs) H1 Q (W σ)):=by
 intro pins s σ H Q I h;refine CI (nu I hg hm ?_ hdb);refine PySem.W.callWith_K (h₀:=X.base) I.ok.mod.kin hk (thn (ha pos pins s σ H _ I h) λ us s1 ⟨vs,H1,I1,r,q⟩=>⟨I1.kIn,?_⟩) he hpl;have r2:Vals (vs++dvs) (us++ds):=r.append hd;have hl:(us++ds).length=ps.length:=by rw[<- r2.length];exact Fn.len _ _ _ _ q
 refine wpAny_call (D4 (Fn.run X.A X.stack s1 H1 ⟨us,[]⟩ (us++ds) (vs++dvs) Q (W σ) hr I1.env0 (hb s1 us I1.kIn hl) r2 q) λ rr s' hq=>?_);cases rr with
 | error e=>exact hx pins σ H1 s1 e s' I1 hq
 | ok fl=>
  cases fl with
  | ret u=>exact I1.after hq
  | next=>exact C0 hq
  | brk=>exact C0 hq
  | cont=>exact C0 hq
theorem tm {k j:Nat}{fa:Addr}{fd:FuncData}{ps:List Str}{Fm:List D->R}{dds:List D}{dvs:List V}{dus:List Value}{x:Str}{p:Pos}(Fn:FnOk C.X.prog C.X.w C.X.K C.X.mg C.X.base C.CX j fa fd ps (spD C.X.K C.cls Fm ps.length))(hr:Room k C.X.A)(hj:j<=k)
  (hg:Gl C.X x) (hm:C.X.mg x=some (.ref fa)) (hk:De C.X.K (.ref fa)=true) (hb:Binds C.X.K fd ps dus) (hd:Vals dvs dus) (hdd:∀ K H,RpL K H dds dvs) (ha:SL C (e::es) fl) (hlen:autoParam ((e::es).length+dds.length=ps.length) ZE._auto_1)
  (hdb:autoParam ((x == ("__debug__":Str))=false) ZC._auto_1) (he:autoParam (starEach (e::es) C.X.env=(false,eval e C.X.env)::starEach es C.X.env) ZE._auto_1) (hpl:autoParam ((backTo pos (starEach es C.X.env)).any (·.1)=false) ZE._auto_1):
  SE C (.Call (.Name x p) (e::es) [] pos) (Dv.eCall (λ ds=>Fm (ds++dds)) fl):=by
 obtain⟨t,pa,qa,hl⟩:=ha;refine⟨_,qJ (W:=C.W) (Fn.mono hj) hr hg hm hk hb hd C.pass pa hdb he hpl,λ σ H Hv ρ Q er s w=>?_⟩;refine qa.step er (.refl s) w λ vs ds fr Hv1 H1 hf x1 _ rp _ w1=>?_
 refine⟨ds++dds,Hv1,?_,x1.vh,rp.append (hdd _ _),Ok.later x1 w1⟩;rw[yY,hl ρ ds fr hf];exact hlen
def bH (X:Cx)(N:List Str)(scope:Scope)(cl:List (Str×Addr))(L:Addr)(s₀:Shared)(H₀:Hp)(ex:List Addr):Cx:=
 { X with N:=N,s₀:=s₀,H₀:=H₀,env:=compEnvC scope cl L X.env,outer:=X.stack,ex:=ex,fn:=λ _=>false,pn:=[],xe:=λ _ _=>False }
def bx (C:Ctx)(N:List Str)(scope:Scope)(cl:List (Str×Addr))(L:Addr)(s₀:Shared)(H₀:Hp)(ex:List Addr):Ctx where
 X:=bH C.X N scope cl L s₀ H₀ ex
 W:=λ _ _ _ _=>False
 cls:=C.cls
 CX:=C.CX
 un:=C.un
 own:=PassesOwn.never
 pass:=λ _ _ _ _ _ _ _ h=>C.cxF _ _ _ _ _ h
 cxF:=C.cxF
theorem eK {env:CH}:∀ (names:List (Str×NameKind)) (acc:List (Str×Addr)),(∀ y∈names,y.2=.free->∃ c,env.cells.lookup y.1=some c) ->
  ∃ cl,(forIn names acc λ (x:Str×NameKind) (cs:List (Str×Addr))=>(if (x.2 == .free)=true then do let a <- cellOf env x.1;pure (Dm ((x.1,a)::cs)) else pure (Dm cs):Sem (ForInStep (List (Str×Addr)))))=pure cl /\
   (∀ x c,cl.lookup x=some c->acc.lookup x=some c\/env.cells.lookup x=some c)/\(∀ y∈names,y.2=.free->∃ c,cl.lookup y.1=some c)/\(∀ x c,acc.lookup x=some c->∃ c',cl.lookup x=some c')
 | [],acc,_=>⟨acc,rfl,λ _ _ h=>.inl h,(λ _ h=>nomatch h),λ x c h=>⟨c,h⟩⟩
 | (n,k)::r,acc,h=>by
  simp only[List.forIn_cons];by_cases hk:(k == CU)=true
  ·obtain⟨c,hc⟩:=h (n,k) yG (by simpa using hk)
   obtain⟨cl,e,h1,h2,h3⟩:=eK r ((n,c)::acc) λ y hy=>h y (yF _ hy)
   refine⟨cl,?_,λ x d hx=>?_,λ y hy hf=>?_,λ x d hx=>?_⟩
   ·simp only[hk,if_true]
    have e2:cellOf env n=pure c:=by unfold cellOf;rw[hc]
    rw[e2];exact e
   ·rcases h1 x d hx with q|q
    ·rw[zh] at q
     cases z:x == n with
     | true=>
      rw[z] at q;have:x=n:=by simpa using z
      subst this;cases q;exact .inr hc
     | false=>rw[z] at q;exact .inl q
    ·exact .inr q
   ·rcases List.mem_cons.mp hy with rfl|hy
    ·exact h3 n c (by simp[zh])
    ·exact h2 y hy hf
   ·by_cases z:(x == n)=true
    ·exact h3 x c (by simp[zh,z])
    ·exact h3 x d (by rw[zh];simp only[Bool.not_eq_true] at z;rw[z];exact hx)
  ·obtain⟨cl,e,h1,h2,h3⟩:=eK r acc λ y hy=>h y (yF _ hy)
   refine⟨cl,?_,h1,λ y hy hf=>?_,h3⟩
   ·simp only[hk]
    exact e
   ·rcases List.mem_cons.mp hy with rfl|hy
    ·exact absurd (by simpa using hf) hk
    ·exact h2 y hy hf
theorem lQ {env:CH}{scope:Scope}(h:∀ y∈scope.names,y.2=.free->∃ c,env.cells.lookup y.1=some c):
  ∃ cl,closureFor scope env=pure cl/\(∀ x c,cl.lookup x=some c->env.cells.lookup x=some c)/\∀ y∈scope.names,y.2=.free->∃ c,cl.lookup y.1=some c:=by
 obtain⟨cl,e,h1,h2,_⟩:=eK scope.names [] h;refine⟨cl,?_,λ x c hx=>?_,h2⟩
 ·unfold closureFor
  exact(congrArg (λ m:Sem (List (Str×Addr))=>m >>= λ s=>pure s) e).trans rfl
 ·rcases h1 x c hx with q|q
  ·simp at q
  ·exact q
end
theorem mC {prog:Program}{w:World}{A:Around}{T:Result->Shared->Prop}{s:Shared}{elt target iter:Expr}{ifs:List Expr}{scope:Scope}{pos:Pos}{it acc:Value}{env:CH}(J:Nat->Shared->Prop)
  (turn:∀ n s,J n s->wpAny (model prog w) A (pyNext it) (λ r s1=>match r with
   | none=>T (.ok .next) s1
   | some v=>wpAny (model prog w) A (letOwnedTupleGo target it v) (λ _ s2=>wpAny (model prog w) A (assign target env v) (λ _ s3=>
     wpAny (model prog w) A (forIn ifs true λ c r=>if r=true then do let ok <- isTrue c env (eval c env);pure (Dm ok) else pure (Dm r)) (λ ok s4=>
      if ok=true then wpAny (model prog w) A (eval elt env) (λ x s5=>wpAny (model prog w) A (call (.builtin "list.append") [acc,x]) (λ _ s6=>∃ m,m<n/\J m s6) (λ _ _=>False) s5) (λ _ _=>False) s4
      else ∃ m,m<n/\J m s4) (λ _ _=>False) s3) (λ _ _=>False) s2) (λ _ _=>False) s1) (λ _ _=>False) s)
  (n:Nat) (h:J n s):codeAny (model prog w) A (.compLoop (.ListComp elt [⟨target,iter,ifs,0⟩] scope pos) 0 it acc env) T s:=by
 refine codeAny_loop rfl J (λ n s hJ=>?_) n h;show wpAny _ A ((compTurn (.ListComp elt [⟨target,iter,ifs,0⟩] scope pos) 0 it acc env).onRaise (λ x=>do noteFrame x env;theTreesLotGoes x)) _ _ s
 refine wpAny_noted ?_
 rw[compTurn_list];refine Cc (DQ (Cc (CA (turn n s hJ) (λ r s1 h1=>?_) λ _ _ z=>z.elim)));cases r with
 | none=>exact Ce h1
 | some v=>
  refine Cc (CA h1 (λ _ s2 h2=>Cc (CA h2 (λ _ s3 h3=>Cc (CA h3 (λ ok s4 h4=>?_) λ _ _ z=>z.elim)) λ _ _ z=>z.elim)) λ _ _ z=>z.elim);cases ok with
  | false=>exact Ce ⟨rfl,h4⟩
  | true=>
   refine Cc (Cc (CA h4 (λ x s5 h5=>Cc (CA h5 (λ _ s6 h6=>?_) λ _ _ z=>z.elim)) λ _ _ z=>z.elim));exact Ce (Ce ⟨rfl,h6⟩)
theorem fz {env:CH}:∀ {names:List (Str×NameKind)} {x:Str},names.lookup x=some .free ->
  (names.map λ (n,k)=>if (k == CU&&env.scope.kind == .function&&env.kindOf n == some .cell) then (n,E1) else (n,k)).lookup x=some .cell \/
  (names.map λ (n,k)=>if (k == CU&&env.scope.kind == .function&&env.kindOf n == some .cell) then (n,E1) else (n,k)).lookup x=some .free
 | [],_,h=>by simp at h
 | (n,k)::r,x,h=>by
  have ih:=@fz env r x;simp only[yB];cases hx:x == n with
  | true=>
   simp only[zh,hx] at h;cases h;by_cases hc:(CU == CU&&env.scope.kind == .function&&env.kindOf n == some .cell)=true
   ·rw[if_pos hc];left;simp[zh,hx]
   ·rw[if_neg hc];right;simp[zh,hx]
  | false=>
   simp only[zh,hx] at h;by_cases hc:(k == CU&&env.scope.kind == .function&&env.kindOf n == some .cell)=true
   ·rw[if_pos hc];simp only[zh,hx];exact ih h
   ·rw[if_neg hc];simp only[zh,hx];exact ih h
theorem eC {env:CH}:∀ {names:List (Str×NameKind)} {x:Str} {kd:NameKind},(∀ y∈names,y.2≠.cell)->kd=.cell\/kd=.free ->
  (names.map λ (n,k)=>if (k == CU&&env.scope.kind == .function&&env.kindOf n == some .cell) then (n,E1) else (n,k)).lookup x=some kd->(x,CU)∈names
 | [],_,_,_,_,h=>by simp at h
 | (n,k)::r,x,kd,nc,hk,h=>by
  have ih:=@eC env r x kd (λ y hy=>nc y (yF _ hy)) hk;simp only[yB] at h;cases hx:x == n with
  | true=>
   have e:x=n:=by simpa using hx
   subst e;by_cases hc:(k == CU&&env.scope.kind == .function&&env.kindOf x == some .cell)=true
   ·have:k=.free:=by
     simp only[yL,beq_iff_eq] at hc;exact hc.1.1
    subst this;exact yG
   ·rw[if_neg hc] at h
    simp only[zh,hx] at h;have e2:k=kd:=by simpa using h
    subst e2
    rcases hk with rfl|rfl
    ·exact absurd rfl (nc (x,.cell) yG)
    ·exact yG
  | false=>
   refine yF _ (ih ?_);by_cases hc:(k == CU&&env.scope.kind == .function&&env.kindOf n == some .cell)=true
   ·rw[if_pos hc] at h;simp only[zh,hx] at h;exact h
   ·rw[if_neg hc] at h;simp only[zh,hx] at h;exact h
theorem mem_lookup {α β:Type}[BEq α][LawfulBEq α]:∀ {l:List (α×β)} {x:α} {y:β},l.lookup x=some y->(x,y)∈l
 | [],_,_,h=>by simp at h
 | (a,b)::r,x,y,h=>by
  rw[zh] at h;cases hx:x == a with
  | true=>
   rw[hx] at h;have e:x=a:=by simpa using hx
   subst e;cases h;exact yG
  | false=>rw[hx] at h;exact yF _ (mem_lookup h)
def STs (C:Ctx)(ifs:List Expr)(f:EE):Prop:=
 ∃ t:TT,(∀ (pins:List (Addr×Obj)) (s:Shared) (σ:St) (H:Hp) (Q:Bool->Hp->Prop),Inv C.X pins σ H s->t σ H Q ->
  wpAny (model C.X.prog C.X.w) C.X.A (forIn ifs true λ c r=>if r=true then do let ok <- isTrue c C.X.env (eval c C.X.env);pure (Dm ok) else pure (Dm r)) (TP C.X pins σ Q) C.X.xe s)/\TakC C t f
theorem eE {C:Ctx}:STs C [] (Dv.eBl true):=
 ⟨λ _ H Q=>Q true H,λ pins s σ H Q I h=>wpAny_tests_nil ⟨H,I,h⟩,λ σ H Hv ρ Q e s q=>by
  obtain⟨b,e1,q⟩:=q.now (v:=.bl true) s eA rfl;cases e1;exact q⟩
theorem gZ {C:Ctx}{c:Expr}{f:EE}(h:SC C c f):STs C [c] f:=by
 obtain⟨t,p,q⟩:=h;exact⟨t,λ pins s σ H Q I h=>wpAny_tests_one (p pins s σ H Q I h),q⟩
theorem jd {P:Program}{w:World}{H:Hp}{h:Heap}{a:Addr}{o:HO}(x:HOk P w H h)(hn:H a=none)(new:ObjOk P w (upd H a o) h a o):HOk P w (upd H a o) h:=λ b u e=>by
 by_cases hb:b=a
 ·subst hb;rw[aC] at e;cases e;exact new
 ·rw[ax hb] at e
  exact(x b u e).stay (λ c v _ q=>q) (λ c q=>by rw[ax (aB q hn)];exact q) λ c xs q=>by rw[ax (aB q hn)];exact q
theorem sJ {P:Program}{w:World}{H:Hp}{h h':Heap}{a:Addr}(x:HOk P w H h)(hn:H a=none)(k:∀ b o,b≠a->h.get? b=some o->h'.get? b=some o):HOk P w H h':=λ b u e=>by
 refine(x b u e).stay (λ c v hc q=>k c v ?_ q) (λ c q=>q) λ c xs q=>q
 rcases hc with rfl|hc
 ·exact aB e hn
 ·exact aB hc hn
section
variable {C:Ctx}
theorem p6 {ρ:Dv.Env}{is:List Nat}{j:Nat}{d:D}(h:(Dv.pick ρ is)[j]?=some (some d)):∃ i,is[j]?=some i/\ρ[i]?=some (some d):=by
 unfold Dv.pick at h;rw[ze] at h;cases q:is[j]? with
 | none=>rw[q] at h;cases h
 | some i=>
  rw[q] at h;have h':(ρ[i]?).getD none=some d:=Option.some.inj h;refine⟨i,rfl,?_⟩;cases z:ρ[i]? with
  | none=>rw[z] at h';cases h'
  | some o=>rw[z] at h';exact congrArg some h'
def bY (σ:St)(is:List Nat):St:=is.map λ i=>(σ[i]?).getD none
theorem oq {σ:St}{is:List Nat}{j i:Nat}{v:V}(hi:is[j]?=some i)(h:σ[i]?=some (some v)):(bY σ is)[j]?=some (some v):=by
 unfold bY;rw[ze,hi];show some ((σ[i]?).getD none)=_
 rw[h];rfl
theorem rQ {σ:St}{is:List Nat}{j:Nat}{v:V}(h:(bY σ is)[j]?=some (some v)):∃ i,is[j]?=some i/\σ[i]?=some (some v):=by
 unfold bY at h;rw[ze] at h;cases q:is[j]? with
 | none=>rw[q] at h;cases h
 | some i=>
  rw[q] at h;have h':(σ[i]?).getD none=some v:=Option.some.inj h;refine⟨i,rfl,?_⟩;cases z:σ[i]? with
  | none=>rw[z] at h';cases h'
  | some o=>rw[z] at h';exact congrArg some h'
end
theorem oV {Hv1 H1 Hvn Hn Hv' H':Hp}(x:Ext Hv1 H1 Hvn Hn)(y:Ext Hv1 Hn Hv' H'):∃ Hvm,Ext Hvn Hn Hvm H'/\Same Hv' Hvm:=by
 refine⟨λ b=>match Hn b with|none=>H' b|some _=>Hvn b,⟨y.hh,λ b o q=>?_,λ b o q=>?_,λ b o q n=>?_,λ b q=>?_,y.nf⟩,λ b o q=>?_⟩
 ·show (match Hn b with|none=>H' b|some _=>Hvn b)=some o
  cases z:Hn b with
  | none=>rw[x.vh b o q] at z;cases z
  | some _=>exact q
 ·have q':(match Hn b with|none=>H' b|some _=>Hvn b)=some o:=q
  cases z:Hn b with
  | none=>rw[z] at q';exact q'
  | some u=>rw[z] at q';exact y.hh _ _ (x.vh b o q')
 ·have q':(match Hn b with|none=>H' b|some _=>Hvn b)=some o:=q
  cases z:Hn b with
  | none=>rfl
  | some u=>rw[z] at q';rw[n] at q';cases q'
 ·show (match Hn b with|none=>H' b|some _=>Hvn b)=H' b
  rw[q]
 ·show (match Hn b with|none=>H' b|some _=>Hvn b)=some o
  cases z:Hn b with
  | none=>exact y.vh b o q
  | some u=>
   cases z2:Hv1 b with
   | none=>have:=y.new b o q z2;rw[z] at this;cases this
   | some u'=>
    have h1:=y.vv b u' z2;rw[q] at h1;cases h1;exact x.vv b o z2
section
variable {C:Ctx}{elt iter:Expr}{x:Str}{px pos:Pos}{ifs:List Expr}{scope:Scope}{fs:List Str}{is:List Nat}{fi:EI}{fe fc:EE}
def mG (C:Ctx)(pins:List (Addr×Obj))(σ:St)(Q:VK)(Da L:Addr)(s5:Shared):Prop:=
 (∃ m,s5.heap.Ns L m)/\L≠C.X.env.locals/\(∀ x c,C.X.env.cells.lookup x=some c->c≠L)/\C.X.s₀.heap.objs.size<=L/\(∀ p∈C.X.pn++pins,p.1≠L) /\
  ∃ H',H' L=none/\Q (.ref Da) H'/\∀ h',(∀ b,b≠L->h'.get? b=s5.heap.get? b)->Inv C.X pins σ H' { s5 with heap:=h' }
end
section
variable {C:Ctx}{a b c e o k:Expr}{es:List Expr}{f g h:EE}{fl:EL}{F G:SS}{pos pos':Pos}{E:Ends}
theorem m9 (n d:Nat)(o:Option Int):Dv.cutI n d o=HT.sIx n d o:=by cases o <;>rfl
theorem RpL.drop {K:Cd}{H:Hp}:∀ {ds:List D} {vs:List V} (n:Nat),RpL K H ds vs->RpL K H (ds.drop n) (vs.drop n)
 | _,_,0,h=>h
 | [],_,n+1,h=>by unfold RpL at h;subst h;exact .nil
 | d::r,vs,n+1,h=>by
  unfold RpL at h;obtain⟨v,ws,rfl,_,h3⟩:=h;exact RpL.drop n h3
theorem RpL.take {K:Cd}{H:Hp}:∀ {ds:List D} {vs:List V} (n:Nat),RpL K H ds vs->RpL K H (ds.take n) (vs.take n)
 | _,_,0,_=>.nil
 | [],_,n+1,h=>by unfold RpL at h;subst h;exact .nil
 | d::r,vs,n+1,h=>by
  unfold RpL at h;obtain⟨v,ws,rfl,h2,h3⟩:=h;exact .cons h2 (RpL.take n h3)
theorem RpL.cut {K:Cd}{H:Hp}{ds:List D}{vs:List V}(h:RpL K H ds vs)(lo hi:Option Int):RpL K H (Dv.cutL ds lo hi) (oW vs lo hi):=by
 unfold Dv.cutL oW;rw[h.length,m9,m9];exact(h.drop _).take _
def SO (C:Ctx)(e:Option Expr)(f:Option EE):Prop:=
 ∃ t:TO,PO C.X e t/\∀ σ H Hv ρ (Q:VK) (T:Option Int->Hp->Prop) (k:Option Int->R) Hv1 H1,EnvR C.X.K Hv ρ σ->Ext Hv H Hv1 H1->Ok C.X.K Hv H (C.W σ) C.cls (Dv.ePart f ρ k) Q ->
  (∀ i Hv2 H2,Ext Hv H Hv2 H2->Ext Hv1 H1 Hv2 H2->Ok C.X.K Hv H (C.W σ) C.cls (k i) Q->T i H2)->t σ H1 T
theorem gs:SO C none none:=⟨_,uu,λ σ H Hv ρ Q T k Hv1 H1 e x q n=>n none Hv1 H1 x (.refl x.vh) q⟩
theorem dY (he:SE C e f):SO C (some e) (some f):=by
 obtain⟨t,p,q⟩:=he;refine⟨_,tD p,λ σ H Hv ρ Q T k Hv1 H1 er x w n=>?_⟩;refine Tak.step q er x w λ v d fr Hv2 H2 hf x2 y2 rp _ w2=>?_
 cases d with
 | int i=>
  unfold Rp at rp;exact⟨i,rp,n (some i) Hv2 H2 x2 y2 w2⟩
 | _=>exact Zf w2
theorem dq {lo hi:Option Expr}{fl fh:Option EE}{p2:Pos}(he:SE C e f)(hl:SO C lo fl)(hh:SO C hi fh):SE C (.Subscript e (.Slice lo hi none p2) pos) (Dv.eSlice f fl fh):=by
 obtain⟨t,p,q⟩:=he;obtain⟨tl,pl,ql⟩:=hl;obtain⟨th,ph,qh⟩:=hh;refine⟨_,pG tL p pl ph,λ σ H Hv ρ Q er s w=>?_⟩;refine Tak.step q er (.refl s) w λ v d fr Hv1 H1 _ x1 _ rp1 n1 w1=>?_
 refine ql σ H Hv ρ Q _ _ Hv1 H1 er x1 w1 λ i Hv2 H2 x2 y2 w2=>?_
 refine qh σ H Hv ρ Q _ _ Hv2 H2 er x2 w2 λ j Hv3 H3 x3 y3 w3=>?_
 have y13:=y2.trans y3;cases d with
 | lst ds=>
  cases fr with
  | true=>
   have rn:=(n1 rfl).same (Hnew.mono (.refl _) y13.hh);unfold Rp at rn;obtain⟨l,vs,rfl,h1,h2⟩:=rn;have h1':SqX C.X.K H3 l vs:=by
    rcases h1 with h1|⟨its,n,e,_⟩
    ·exact .inl (Rd.same Hnew.sub h1)
    ·simp at e
   exact⟨l,vs,rfl,h1'.seq,λ p hp=>Ok.newL (fr:=true || Dv.flatL (Dv.cutL ds i j)) w3 x3 (((RpL.frag h2).same x3.news).cut i j) (λ _=>h2.cut i j) p hp⟩
  | false=>
   have rp:=rp1.same y13.vv;unfold Rp at rp;obtain⟨l,vs,rfl,h1,h2⟩:=rp;exact⟨l,vs,rfl,(h1.same x3.vh).seq,λ p hp=>Ok.newL (fr:=false || Dv.flatL (Dv.cutL ds i j)) w3 x3 (h2.cut i j) (λ z=>(h2.cut i j).flat (by simpa using z)) p hp⟩
 | _=>exact Zf w3
theorem vq:C1S C (.type "int") Dv.intD:=by
 refine⟨_,pw,λ x d fr H Hv H1 Hv1 W Q e rx n q=>?_⟩;cases d with
 | int i=>
  unfold Rp at rx;subst rx;exact .inl ⟨i,rfl,Ok.at (d:=.int i) (fr:=true) q e bE rfl⟩
 | bl i=>
  unfold Rp at rx;subst rx;exact .inr ⟨i,rfl,Ok.at (d:=.int (if i then 1 else 0)) (fr:=true) q e bE rfl⟩
 | _=>exact Zf q
def tyD:D->String
 | .non=>"NoneType"
 | .bl _=>"bool"
 | .int _=>"int"
 | .str _=>"str"
 | .lst _=>"list"
 | .tup _=>"tuple"
 | .exn _=>"BaseException"
 | .raw _=>"BaseException"
 | .tab _=>"BaseException"
 | .ins _ _=>"BaseException"
 | .dct _ _=>"dict"
theorem rD {X:Cx}:cM X (.builtin "isinstance") (λ xs H Q=>∃ x d T b,xs=[x,.ty T]/\Rp X.K H d x/\Dv.noTy d=false/\CJ X.K (.type (tyD d)) (.type T)=some b/\Q (.bl b) H):=by
 intro pins s σ H xs us Q I r h;obtain⟨x,d,T,b,rfl,rp,hnx,hk,q⟩:=h;obtain⟨u,w',rfl,ru,rw'⟩:=vals2 r;have rw2:w'=CZ T:=rw';subst rw2;have fin:∀ tk,EP X pins σ Q (.bool b) { s with toks:=tk }:=λ tk=>⟨.bl b,H,I.tok tk,rfl,q⟩
 cases d with
 | non=>unfold Rp at rp;subst rp;cases ru;exact C7 PySem.W.kitx_none I.kIn Dl hk (λ z=>nomatch z) fin
 | bl y=>unfold Rp at rp;subst rp;cases ru;exact C7 PySem.W.kitx_bool I.kIn Dl hk (λ z=>nomatch z) fin
 | int i=>unfold Rp at rp;subst rp;obtain⟨t,rfl⟩:=ru;exact C7 PySem.W.kitx_int I.kIn Dl hk (λ z=>nomatch z) fin
 | str y=>unfold Rp at rp;subst rp;obtain⟨t,rfl⟩:=ru;exact C7 PySem.W.kitx_str I.kIn Dl hk (λ z=>nomatch z) fin
 | lst ds=>
  unfold Rp at rp;obtain⟨l,vs,rfl,h1,h2⟩:=rp;cases ru;obtain⟨its,n,rv,e,_⟩:=Inv.listX I h1;exact C7 PySem.W.kitx_list I.kIn ⟨_,e,rfl⟩ hk (λ z=>nomatch z) fin
 | tup ds=>
  unfold Rp at rp;obtain⟨l,vs,rfl,h1,h2⟩:=rp;cases ru;obtain⟨_,its,rv,ob,e,hc,n,hd⟩:=h1.ok I.hok;exact C7 PySem.W.kitx_tuple I.kIn ⟨ob,e,hc⟩ hk (λ z=>nomatch z) fin
 | exn c=>exact absurd hnx (by simp[Dv.noTy])
 | raw c=>exact absurd hnx (by simp[Dv.noTy])
 | ins c d=>exact absurd hnx (by simp[Dv.noTy])
 | tab c=>exact absurd hnx (by simp[Dv.noTy])
 | dct ks ds=>
  unfold Rp at rp;obtain⟨l,vs,rfl,h0,h1,h2⟩:=rp;cases ru;exact C7 PySem.W.kitx_dict I.kIn (q8 I (.inl ⟨_,h1⟩)).1 hk (λ z=>nomatch z) fin
theorem jP {x:Str}{T:String}{p p2:Pos}{F:D->Bool->R}(β:D->Bool)(hF:∀ d fr,Dv.noTy d=false->F d fr=.ok (.bl (β d)) true)(hX:∀ d fr,Dv.noTy d=true->F d fr=.bad)(hβ:∀ K d,CJ K (.type (tyD d)) (.type T)=some (β d))(hg:Gl C.X "isinstance")(hm:C.X.mg "isinstance"=none)(hgx:Gl C.X x)(hmx:C.X.mg x=none)
  (hvx:bootBuiltins x=some (.type T)) (ha:SE C a f) (hn:autoParam (x≠"__name__") ZC._auto_1) (hdb:autoParam ((x == ("__debug__":Str))=false) ZC._auto_1) (he:autoParam (starEach [a,.Name x p2] C.X.env=(false,eval a C.X.env)::starEach [.Name x p2] C.X.env) ZE._auto_1)
  (he2:autoParam (starEach [.Name x p2] C.X.env=[(false,eval (.Name x p2) C.X.env)]) ZE._auto_1):SE C (.Call (.Name "isinstance" p) [a,.Name x p2] [] pos) (Dv.eB1 F f):=by
 obtain⟨t,pa,qa⟩:=ha;refine⟨_,eM rD hg hm (by decide +kernel) (aN pa (aN (sW (v:=.ty T) hgx hmx hvx rfl hn hdb) bC he2) he) (by decide) (by decide) he (by rw[he2];rfl),λ σ H Hv ρ Q e s w=>?_⟩;refine qa.step e (.refl s) w λ v d fr Hv1 H1 _ x1 _ rp1 _ q1=>?_
 by_cases hd:Dv.noTy d=true
 ·rw[hX d fr hd] at q1
  exact q1.elim
 ·have hd':Dv.noTy d=false:=by simpa using hd
  rw[hF d fr hd'] at q1;exact⟨v,d,T,β d,rfl,rp1.same x1.vh,hd',hβ _ d,q1.at x1 eA rfl⟩
def xr:D->Bool
 | .int _=>true
 | .bl _=>true
 | _=>false
def uA:D->Bool
 | .bl _=>true
 | _=>false
def uB:D->Bool
 | .lst _=>true
 | _=>false
theorem sM (K:Cd)(d:D):CJ K (.type (tyD d)) (.type "int")=some (xr d):=by cases d <;>rfl
theorem pE (K:Cd)(d:D):CJ K (.type (tyD d)) (.type "bool")=some (uA d):=by cases d <;>rfl
theorem rK (K:Cd)(d:D):CJ K (.type (tyD d)) (.type "list")=some (uB d):=by cases d <;>rfl
theorem oG (d:D)(fr:Bool)(h:Dv.noTy d=false):Dv.isIntD d fr=.ok (.bl (xr d)) true:=by cases d <;>first|rfl|exact absurd h (by simp[Dv.noTy])
theorem lO (d:D)(fr:Bool)(h:Dv.noTy d=false):Dv.isBoolD d fr=.ok (.bl (uA d)) true:=by cases d <;>first|rfl|exact absurd h (by simp[Dv.noTy])
theorem mi (d:D)(fr:Bool)(h:Dv.noTy d=false):Dv.isListD d fr=.ok (.bl (uB d)) true:=by cases d <;>first|rfl|exact absurd h (by simp[Dv.noTy])
theorem oP {X:Cx}:wN X (λ x y H Q=>∃ p xs i v,x=.ref p/\y=.int i/\0<=i/\SqL X.K H p xs/\atI xs i=some v/\Q v H):=by
 intro pins s σ H o i ov iv Q I ro ri h;obtain⟨p,xs,k,v,rfl,rfl,h0,hq,he,q⟩:=h;cases ro;obtain⟨t,rfl⟩:=ri;obtain⟨its,r,pl,hz⟩:=I.list hq;obtain⟨j,h1,h2,h3,h4,h5⟩:=gq he;obtain⟨w,ew,rw'⟩:=r.get h2;have hn:=gD;have hj:k.toNat=j:=by
  rw[EJ h0 h5] at h1;exact Option.some.inj h1
 exact wpAny_getItem_list pl.isList h0 ⋯ (by rw[hj];simpa using ew) ⟨v,H,I,rw',q⟩
theorem vO {i:Nat}{x:Str}{px kpos:Pos}(he:SE C e f)(hk:SE C k g)(hN:autoParam (C.X.N[i]?=some x) ZE._auto_1)(hv:autoParam (Vis C.X.env.scope x) ZG._auto_1)
    (hd:autoParam ((x == ("__debug__":Str))=false) ZC._auto_1) (hcd:autoParam ((x == ("__classdict__":Str))=false) ZC._auto_1)
    (ha:autoParam (∀ v,assign (.Subscript (.Name x px) k kpos) C.X.env v=(do
      let ov <- holding [v] (eval (.Name x px) C.X.env)
      let iv <- holding [v,ov] (eval k C.X.env)
      standAt kpos
      holding [v,ov,iv] (setItem ov iv v)
      release [v,ov,iv] [])) ZD._auto_1)
    (hs:autoParam (swapsWithSole [.Subscript (.Name x px) k kpos] e pos.line C.X.env=pure false) ZE._auto_1) (hw:autoParam (swappedStores [.Subscript (.Name x px) k kpos] e C.X.env=pure none) ZE._auto_1)
    (h1:autoParam ((assignEach [.Subscript (.Name x px) k kpos] C.X.env).map (·.2)=[assign (.Subscript (.Name x px) k kpos) C.X.env]) ZE._auto_1):SSt C (.Assign [.Subscript (.Name x px) k kpos] e pos) (Dv.sPut i g f):=by
  obtain⟨t,p,q⟩:=he;obtain⟨t2,p2,q2⟩:=hk;refine⟨_,rC p (vV (cL hN hv hd hcd) p2 set_list ha) hs hw h1,λ Hv₀ H₀ E σ H st ⟨Hc,O,r⟩ w=>?_⟩;unfold Dv.sPut at w;cases hi:st[i]? with
  | none=>rw[hi] at w;exact Zf w
  | some s=>
    rw[hi] at w;cases s with
    | no=>exact Zf w
    | sh d=>exact Zf w
    | dp d=>exact Zf w
    | jk n m=>exact Zf w
    | ow d0=>
     cases d0 with
     | non=>exact Zf w
     | bl _=>exact Zf w
     | int _=>exact Zf w
     | str _=>exact Zf w
     | tup _=>exact Zf w
     | exn _=>exact Zf w
     | raw _=>exact Zf w
     | ins _ _=>exact Zf w
     | tab _=>exact Zf w
     | dct _ _=>exact Zf w
     | lst ds=>
      obtain⟨a,vs,h1,h2,h5⟩:=r.own hi;refine q.all r (λ c hf H' r'=>?_) (λ hf=>?_) λ d fr v Hv' H' hf x r' rp n=>?_
      · simp only[hf] at w;exact w σ H' ⟨Hc,O,r'⟩
      · simp only[hf] at w;exact w
      · simp only[hf] at w
        refine⟨_,h1,?_⟩;refine q2.all r' (λ c hg H2 r2=>?_) (λ hg=>?_) λ d2 fr2 v2 Hv2 H2 hg x2 r2 rp2 n2=>?_
        · simp only[hg] at w;exact w σ H2 ⟨Hc,O,r2⟩
        · simp only[hg] at w;exact w
        · simp only[hg] at w
          cases d2 with
          | int j=>
            unfold Rp at rp2;by_cases z:(Dv.scal d&&decide (0<=j)&&decide (j<ds.length))=true
            · simp only[z,if_true] at w
              simp only[yL,decide_eq_true_eq] at z;have hl:=h5.length;obtain⟨O',r3⟩:=r2.put hi h1 (h5.set (rp.scal z.1.1) j.toNat);refine⟨a,vs,j,j.toNat,rfl,rp2,x2.hh _ _ (x.hh _ _ h2),?_,w σ _ ⟨Hc,O',r3⟩⟩;unfold ixN;rw[if_pos z.1.2,if_pos (by rw[hl];exact z.2)]
            · simp only[z] at w
              exact Zf w
          | _=>exact Zf w
theorem rm {i:Nat}{x:Str}{px kpos:Pos}(he:SE C e f)(hk:SE C k g)(hN:autoParam (C.X.N[i]?=some x) ZE._auto_1)(hv:autoParam (Vis C.X.env.scope x) ZG._auto_1)
    (hd:autoParam ((x == ("__debug__":Str))=false) ZC._auto_1) (hcd:autoParam ((x == ("__classdict__":Str))=false) ZC._auto_1)
    (ha:autoParam (∀ ov iv new,augStore k ov iv new=(do holding [new,ov,iv] (setItem ov iv new);release [new,ov,iv] [];pure .next)) ZF._auto_1):
    SSt C (.AugAssign (.Subscript (.Name x px) k kpos) .Add e pos) (Dv.sAugIx i .add g f):=by
  obtain⟨t,p,q⟩:=he;obtain⟨t2,p2,q2⟩:=hk;refine⟨_,t5 (cL hN hv hd hcd) p2 oP p vH set_list ha,λ Hv₀ H₀ E σ H st ⟨Hc,O,r⟩ w=>?_⟩;unfold Dv.sAugIx at w;cases hi:st[i]? with
  | none=>rw[hi] at w;exact Zf w
  | some s=>
    rw[hi] at w;cases s with
    | no=>exact Zf w
    | sh d=>exact Zf w
    | dp d=>exact Zf w
    | jk n m=>exact Zf w
    | ow d0=>
     cases d0 with
     | non=>exact Zf w
     | bl _=>exact Zf w
     | int _=>exact Zf w
     | str _=>exact Zf w
     | tup _=>exact Zf w
     | exn _=>exact Zf w
     | raw _=>exact Zf w
     | ins _ _=>exact Zf w
     | tab _=>exact Zf w
     | dct _ _=>exact Zf w
     | lst ds=>
      obtain⟨a,vs,h1,h2,h5⟩:=r.own hi;refine⟨_,h1,?_⟩;refine q2.all r (λ c hf H' r'=>?_) (λ hf=>?_) λ d fr v Hv' H' hf x r' rp n=>?_
      · simp only[hf] at w;exact w σ H' ⟨Hc,O,r'⟩
      · simp only[hf] at w;exact w
      · simp only[hf] at w
        cases d with
        | int j=>
          unfold Rp at rp;by_cases z:0<=j
          · simp only[z,if_true] at w
            cases hat:Dv.at? ds j with
            | none=>simp only[hat] at w;exact Zf w
            | some d0=>
              simp only[hat] at w;obtain⟨v0,g1,g2⟩:=gC h5 hat;refine⟨a,vs,j,v0,rfl,rp,z,SqL.of (x.hh _ _ h2),g1,?_⟩;refine q.all r' (λ c hg H2 r2=>?_) (λ hg=>?_) λ d2 fr2 v2 Hv2 H2 hg x2 r2 rp2 n2=>?_
              · simp only[hg] at w;exact w σ H2 ⟨Hc,O,r2⟩
              · simp only[hg] at w;exact w
              · simp only[hg] at w
                cases d0 with
                | int y0=>
                  cases d2 with
                  | int y2=>
                    unfold Rp at rp2 g2;subst g2 rp2;obtain⟨O',r3⟩:=r2.put hi h1 (h5.set (bE (i:=y0+y2)) j.toNat);refine⟨y0,y2,rfl,rfl,a,vs,j,j.toNat,rfl,rp,x2.hh _ _ (x.hh _ _ h2),?_,OkS.now (st:=st.set i (.ow (.lst (ds.set j.toNat (.int (y0+y2)))))) w ⟨Hc,O',r3⟩⟩;unfold ixN;obtain⟨_,_,_,_,_,hlt⟩:=gq g1;rw[if_pos z,if_pos hlt]
                  | _=>exact Zf w
                | lst y0=>
                  exfalso;cases d2 with
                  | lst y2=>
                    simp only[Dv.opD_ai,Dv.opD_al,Dv.opD_su,Dv.opD_mi,Dv.opD_ml,Dv.opD_mo,Dv.opD_fd,Dv.opD_po,Dv.opD_ba,Dv.opD_sh] at w;by_cases zz:y0.length+y2.length<=Dv.mx
                    · simp only[zz,if_true] at w;exact w
                    · simp only[zz,if_false] at w;exact w
                  | _=>exact Zf w
                | _=>exact Zf w
          · simp only[z,if_false] at w;exact Zf w
        | _=>exact Zf w
def SGs (C:Ctx)(ts:List Expr)(xs:List Nat):Prop:=
 ∃ t:TGs,PGs C.X ts t/\∀ Hv₀ H₀ Hc O H σ s ds vs T,RelC C.X.K Hv₀ H₀ Hc O s σ H->RpL C.X.K Hc ds vs->ds.length=xs.length->(∀ σ',RelC C.X.K Hv₀ H₀ Hc O (Dv.setAll xs ds s) σ' H->T σ' H)->t vs σ H T
theorem j8:SGs C [] []:=⟨_,jT,λ Hv₀ H₀ Hc O H σ s ds vs T r rp hl h=>by
 cases ds with
 | nil=>unfold RpL at rp;exact⟨rp,h σ r⟩
 | cons d ds=>cases hl⟩
theorem cA {i:Nat}{x:Str}{ts:List Expr}{xs:List Nat}(hs:SGs C ts xs)(hN:C.X.N.Nodup)(hi:C.X.N[i]?=some x)(hx:Loc C.X.env.scope x)(hf:autoParam (C.X.fn x=true\/C.X.env.scope.names.lookup x=some .local) ZB._auto_1)
  (ha:autoParam ((assignEach (.Name x pos::ts) C.X.env).map (·.2)=assign (.Name x pos) C.X.env::(assignEach ts C.X.env).map (·.2)) ZE._auto_1):SGs C (.Name x pos::ts) (i::xs):=by
 obtain⟨t,p,q⟩:=hs;refine⟨_,dm (c7 hN hi hx hf) p ha,λ Hv₀ H₀ Hc O H σ s ds vs T r rp hl h=>?_⟩;cases ds with
 | nil=>cases hl
 | cons d ds=>
  unfold RpL at rp;obtain⟨v,ws,rfl,h1,h2⟩:=rp;exact⟨v,ws,rfl,q Hv₀ H₀ Hc O H _ _ ds ws T (r.setSh h1) h2 (by simpa using hl) h⟩
theorem sC (is:List Nat){i j:Nat}{x y:Str}{px py pt:Pos}{kt k2:Nat}{pt2:Pos}(ha:SE C a f)(hb:SE C b g)(hN:C.X.N.Nodup)(hi:C.X.N[i]?=some x)(hj:C.X.N[j]?=some y)(hij:i≠j)
  (hx:C.X.env.scope.names.lookup x=some .local) (hy:C.X.env.scope.names.lookup y=some .local) (hw:autoParam (swappedStores [.Tuple [.Name x px,.Name y py] kt pt] (.Tuple [a,b] k2 pt2) C.X.env=pure (some [x,y])) ZE._auto_1)
  (hs:autoParam (swapsWithSole [.Tuple [.Name x px,.Name y py] kt pt] (.Tuple [a,b] k2 pt2) pos.line C.X.env=pure false) ZE._auto_1) (he:autoParam (starEach [a,b] C.X.env=(false,eval a C.X.env)::starEach [b] C.X.env) ZE._auto_1) (he2:autoParam (starEach [b] C.X.env=[(false,eval b C.X.env)]) ZE._auto_1) (hcl:autoParam (C.X.calm=true) ZE._auto_1):
  SSt C (.Assign [.Tuple [.Name x px,.Name y py] kt pt] (.Tuple [a,b] k2 pt2) pos) (Dv.sPar is i j f g):=by
 obtain⟨t,p,q⟩:=ha;obtain⟨u,p2,q2⟩:=hb;refine⟨_,vB hcl hN hi hj hij hx hy (aN p (aN p2 bC he2) he) hw hs,λ Hv₀ H₀ E σ H st ⟨Hc0,O0,r0⟩ w=>?_⟩;obtain⟨Hc,O,_,r⟩:=r0.give is;unfold Dv.sPar at w;refine q.open r (λ c hf Hc' H' x=>?_) (λ hf=>?_) λ d fr v Hc' H' hf x r' rp=>?_
 ·simp only[hf] at w;exact w σ H' ⟨Hc0,O0,r0.grow x.hh x.nf⟩
 ·simp only[hf] at w;exact w
 ·simp only[hf] at w
  refine q2.open r' (λ c hg Hc2 H2 x2=>?_) (λ hg=>?_) λ d2 fr2 v2 Hc2 H2 hg x2 r2 rp2=>?_
  ·simp only[hg] at w
   have xx:=x.trans x2;exact w σ H2 ⟨Hc0,O0,r0.grow xx.hh xx.nf⟩
  ·simp only[hg] at w;exact w
  ·simp only[hg] at w
   exact⟨v,v2,rfl,w _ H2 ⟨Hc2,O,(r2.setSh (rp.same x2.vv)).setSh rp2⟩⟩
end
def ItZ (K:Cd)(l1 l2:Addr):It:=
  ⟨λ i H=>∃ (xs ys:List V) (x y:V),SqL K H l1 xs/\SqL K H l2 ys/\xs[i]?=some x/\ys[i]?=some y,
   λ i H v H'=>∃ p,H p=none/\v=.ref p/\∀ xs ys,SqL K H l1 xs->SqL K H l2 ys->∃ x y,xs[i]?=some x/\ys[i]?=some y/\H'=upd H p (.tup [x,y]),
   λ i H=>∃ xs ys,SqL K H l1 xs/\SqL K H l2 ys/\(xs.length<=i\/ys.length<=i)⟩
theorem Inv.but {X:Cx}{pins:List (Addr×Obj)}{σ:St}{H:Hp}{s:Shared}{ch:List Addr}{h':Heap}(I:Inv X pins σ H s)(hf:∀ b∈ch,ir X pins H b)(k:∀ b o,b∉ch->s.heap.get? b=some o->h'.get? b=some o):Inv X pins σ H { s with heap:=h' }:=by
 have nch:∀ b u,H b=some u->b∉ch:=λ b u e hb=>by rw[(hf b hb).1] at e;cases e
 refine I.step (g':=s.gens) (d':=s.drawn) (t':=s.toks) (ch:=ch) (λ b hb=>⟨(hf b hb).2.2.2.1,(hf b hb).2.1,(hf b hb).2.2.2.2.1,(hf b hb).2.2.2.2.2⟩) (λ b o _ _ hc e _=>k b o hc e) (λ b o _ _ hc e _=>⟨o.slots,k b o hc e⟩) (λ _ _ _ _ n=>n)
  (λ b o hc e=>⟨o,k b o hc e⟩) (λ _ _ e=>e) (λ _ _ _ e=>e) (λ b ps e=>⟨#[],by rw[e];simp⟩) (λ m hm=>?_) (λ b u e=>?_) I.bare
 ·obtain⟨o,es,ep,ho,r⟩:=hm
  exact⟨o,es,ep,k _ _ (λ hb=>(hf _ hb).2.1 rfl) ho,r⟩
 ·refine(I.hok b u e).stay (λ c v hc q=>k c v ?_ q) (λ c q=>q) λ c xs q=>q
  rcases hc with rfl|hc
  ·exact nch _ u e
  ·exact nch _ _ hc
theorem sH {P:Program}{w:World}{K:Cd}{es:List Expr}{kt:Nat}{tpos:Pos}{z TI TO i1 i2 l1 l2:Addr}(Dz:ZipApart z TI TO i1 i2 l1 l2):
  Turn P w K (.Tuple es kt tpos) (ItZ K l1 l2) [z,TI,TO,i1,i2] z (λ i h=>IsZip h z TI TO .none/\IsPair h TI (.ref i1) (.ref i2)/\(∃ a b,IsPair h TO a b)/\h.IsListIter i1 l1 i/\h.IsListIter i2 l2 i) where
 mem:=by simp
 obj:=λ i h ⟨a1,a2,⟨_,_,a3⟩,⟨o4,e4,_,d4⟩,⟨o5,e5,_,d5⟩⟩ b hb=>by
  simp only[zR,zY,or_false] at hb
  rcases hb with rfl|rfl|rfl|rfl|rfl
  ·exact⟨_,a1,λ v q=>by cases q⟩
  ·exact⟨_,a2,λ v q=>by cases q⟩
  ·exact⟨_,a3,λ v q=>by cases q⟩
  ·exact⟨_,e4,λ v q=>by rw[d4] at q;cases q⟩
  ·exact⟨_,e5,λ v q=>by rw[d5] at q;cases q⟩
 keep:=λ i h h' ⟨a1,a2,⟨x,y,a3⟩,a4,a5⟩ k=>⟨k z (by simp) _ a1,k TI (by simp) _ a2,⟨x,y,k TO (by simp) _ a3⟩,a4.at λ o e=>k i1 (by simp) o e,a5.at λ o e=>k i2 (by simp) o e⟩
 item:=by
  intro X hP hw hK hc i pins s σ H E I hf ⟨a1,a2,⟨xa,xb,a3⟩,a4,a5⟩ hg;subst hP hw hK;obtain⟨xs,ys,x,y,hq1,hq2,hx,hy⟩:=hg;obtain⟨its1,r1,p1,z1⟩:=I.list hq1;obtain⟨its2,r2,p2,z2⟩:=I.list hq2;obtain⟨u1,e1,ru1⟩:=r1.get hx;obtain⟨u2,e2,ru2⟩:=r2.get hy;refine wpAny_pyNext_zip_item Dz a1 a2 a3 a4 a5 p1.isList p2.isList (x:=u1) (y:=u2) (by simpa using e1) (by simpa using e2) λ h' b1 b2 b3 b4 b5 b6 kk=>?_
  refine⟨_,rfl,wpAny_letOwnedTupleGo_zip b1 λ h2 hz sb=>?_⟩;have hf0:H s.heap.objs.size=none:=I.hok.fresh (yW _);have ltz:s.heap.objs.size≠z:=AE (Cg a1);have kept:∀ b o,b∉[z,TI,TO,i1,i2]->s.heap.get? b=some o->h2.get? b=some o:=λ b o hb e=>by
   simp only[zR,zY,or_false,not_or] at hb;exact(sb.2 b hb.1).trans (kk b o hb.1 hb.2.2.1 hb.2.2.2.1 hb.2.2.2.2 e)
  have I2:Inv X pins σ H { s with heap:=h2 }:=Inv.but I hf kept;have tp:IsTup h2 s.heap.objs.size #[u1,u2]:=⟨_,(sb.2 _ ltz).trans b5,rfl,_,rfl⟩;have I3:Inv X pins σ (upd H s.heap.objs.size (.tup [x,y])) { s with heap:=h2 }:=by
   have hk2:HOk X.prog X.w (upd H s.heap.objs.size (.tup [x,y])) h2:=jd I2.hok hf0 ⟨by show 2<=sizeLine;decide,[u1,u2],.cons ru1 (.cons ru2 .nil),tp⟩;have nsz:∀ b o,s.heap.get? b=some o->b≠s.heap.objs.size:=λ b o e=>yU (Cg e)
   refine I.step (g':=s.gens) (d':=s.drawn) (t':=s.toks) (ch:=[z,TI,TO,i1,i2]) (λ b hb=>⟨(hf b hb).2.2.2.1,(hf b hb).2.1,(hf b hb).2.2.2.2.1,(hf b hb).2.2.2.2.2⟩) (λ b o _ _ hc e _=>kept b o hc e) (λ b o _ _ hc e _=>⟨o.slots,kept b o hc e⟩) (λ b o _ e n=>by rw[ax (nsz b o e)];exact n)
    (λ b o hc e=>⟨o,kept b o hc e⟩) (λ b us e=>by rw[ax (aB e hf0)];exact e) (λ b ob us e=>by rw[ax (aB e hf0)];exact e) (λ b ps e=>⟨#[],by rw[ax (aB e hf0),e];simp⟩) (λ m hm=>?_) hk2 I.bare
   obtain⟨o,es,ep,ho,r⟩:=hm;exact⟨o,es,ep,kept _ _ (λ hb=>(hf _ hb).2.1 rfl) ho,r⟩
  have c4:h2.IsListIter i1 l1 (i+1):=b3.extBut sb.extBut Dz.i1z;have c5:h2.IsListIter i2 l2 (i+1):=b4.extBut sb.extBut Dz.i2z;refine⟨.ref s.heap.objs.size,_,I3,rfl,⟨s.heap.objs.size,hf0,rfl,λ as bs h1 h2'=>?_⟩,⟨hz,?_,⟨u1,u2,(sb.2 TO Dz.TOz).trans b2⟩,c4,c5⟩,λ b hb=>?_⟩
  ·exact⟨x,y,by rw[I.list_inj h1 hq1];exact hx,by rw[I.list_inj h2' hq2];exact hy,rfl⟩
  ·exact(sb.2 TI Dz.TIz).trans (kk TI _ Dz.TIz Dz.TITO Dz.TIi1 Dz.TIi2 a2)
  ·have hbs:b≠s.heap.objs.size:=by
    simp only[zR,zY,or_false] at hb
    rcases hb with rfl|rfl|rfl|rfl|rfl
    ·exact yU (Cg a1)
    ·exact yU (Cg a2)
    ·exact yU (Cg a3)
    ·obtain⟨o,e,_⟩:=a4;exact yU (Cg e)
    ·obtain⟨o,e,_⟩:=a5;exact yU (Cg e)
   rw[ax hbs];exact(hf b hb).1
 done:=by
  intro X hP hw hK hc i pins s σ H E I hf ⟨a1,a2,⟨xa,xb,a3⟩,a4,a5⟩ hg;subst hP hw hK;obtain⟨xs,ys,hq1,hq2,hx⟩:=hg;obtain⟨its1,r1,p1,z1⟩:=I.list hq1;obtain⟨its2,r2,p2,z2⟩:=I.list hq2;have n1:=r1.length;have n2:=r2.length;refine wpAny_pyNext_zip_end (I.ok.hd hc) Dz a1 a2 a3 a4 a5 p1.isList p2.isList (by
   rcases hx with hx|hx
   ·left;simp;omega
   ·right;simp;omega) λ h' kk=>⟨rfl,Inv.but I hf λ b o hb e=>?_⟩
  simp only[zR,zY,or_false,not_or] at hb;exact kk b o hb.1 hb.2.2.1 hb.2.2.2.1 hb.2.2.2.2 e
 self:=λ _ _ _ _ _ st h=>wpAny_pyIter_zip st.1 h
def xP (K:Cd)(ta:TA):TI:=λ σ H T=>ta σ H λ vs H1=>∃ l1 l2 xs ys,vs=[.ref l1,.ref l2]/\SqL K H1 l1 xs/\SqL K H1 l2 ys/\T (ItZ K l1 l2) H1
theorem ve {X:Cx}{a b:Expr}{ta:TA}{es:List Expr}{kt:Nat}{tpos p pos:Pos}(hg:Gl X "zip")(hm:X.mg "zip"=none)(ha:PA X [a,b] ta)(hs:starEach [a,b] X.env=[(false,eval a X.env),(false,eval b X.env)])(hs2:starEach [b] X.env=[(false,eval b X.env)]):
  PI X (.Tuple es kt tpos) (.Call (.Name "zip" p) [a,b] [] pos) (xP X.K ta):=by
 intro pins s σ H R I h;refine Call_ (bO I hg hm (by decide +kernel:bootBuiltins "zip"=some (.type "zip")) (Cr (thn (ha pos pins s σ H _ I h) λ us s1 ⟨vs,H1,I1,r1,q1⟩=>?_) (by rw[hs,hs2]) (by rw[hs2];rfl)));obtain⟨l1,l2,xs,ys,rfl,hq1,hq2,q⟩:=q1;obtain⟨u1,u2,rfl,e1,e2⟩:=vals2 r1;cases e1;cases e2;obtain⟨its1,rr1,p1,z1⟩:=I1.list hq1;obtain⟨its2,rr2,p2,z2⟩:=I1.list hq2;refine call_zip_2 p1.isList p2.isList λ h' c1 c2 c3 c4 c5 c6 kk=>?_
 have lt1:l1<s1.heap.objs.size:=by obtain⟨o,e,_⟩:=p1.isList;exact Cg e
 have lt2:l2<s1.heap.objs.size:=by obtain⟨o,e,_⟩:=p2.isList;exact Cg e
 have I2:Inv X pins σ H1 { s1 with heap:=h' }:=I1.kept (t':=s1.toks) kk;generalize hN:s1.heap.objs.size=N at c1 c2 c3 c4 c5 c6 lt1 lt2 ⊢;have Dz:ZipApart (N+4) (N+2) (N+3) N (N+1) l1 l2:=by
  have far:∀ {l:Addr},l<N->∀ k:Nat,l≠N+k:=λ h k=>yU (zc h (Ah _ _))
  have ne:∀ {a b:Nat},a<b->a≠b:=λ h=>yU h
  have ne':∀ {a b:Nat},b<a->a≠b:=λ h=>AE h
  exact⟨ne ⋯,ne ⋯,ne ⋯,ne ⋯,ne ⋯,ne' ⋯,ne' ⋯,ne' ⋯,ne' ⋯,ne ⋯,far lt1 4,far lt1 3,yU lt1,far lt1 1,far lt2 4,far lt2 3,yU lt2,far lt2 1⟩
 refine wpAny_pyIter_zip c1 ⟨N+4,[N+4,N+2,N+3,N,N+1],_,_,H1,rfl,I2,sH Dz,⟨c1,c2,⟨_,_,c3⟩,c4,c5⟩,λ b hb=>?_,q⟩;have hb':s1.heap.objs.size<=b:=by
  rw[hN];simp only[zR,zY,or_false] at hb
  rcases hb with rfl|rfl|rfl|rfl|rfl
  ·exact Ah _ _
  ·exact Ah _ _
  ·exact Ah _ _
  ·exact yW _
  ·exact Ah _ _
 exact I1.fpOk hb' (I1.hok.fresh hb')
theorem zip_get {xs ys:List D}{i:Nat}{d:D}(h:(List.zipWith (λ x y=>D.tup [x,y]) xs ys)[i]?=some d):∃ x y,xs[i]?=some x/\ys[i]?=some y/\d=.tup [x,y]:=by
 rw[List.getElem?_zipWith] at h;cases h1:xs[i]? with
 | none=>rw[h1] at h;cases h
 | some x=>
  cases h2:ys[i]? with
  | none=>rw[h1,h2] at h;cases h
  | some y=>rw[h1,h2] at h;cases h;exact⟨x,y,rfl,rfl,rfl⟩
theorem pD {C:Ctx}{a b:Expr}{f g:EE}{es:List Expr}{kt:Nat}{tpos p pos:Pos}(hg:Gl C.X "zip")(hm:C.X.mg "zip"=none)(ha:SE C a f)(hb:SE C b g)(hs:autoParam (starEach [a,b] C.X.env=[(false,eval a C.X.env),(false,eval b C.X.env)]) ZE._auto_1)(hs2:autoParam (starEach [b] C.X.env=[(false,eval b C.X.env)]) ZE._auto_1):
  SI C (.Tuple es kt tpos) (.Call (.Name "zip" p) [a,b] [] pos) (Dv.iZip f g):=by
 obtain⟨t,pe,q⟩:=ha;obtain⟨t2,pe2,q2⟩:=hb;refine⟨_,ve hg hm (aN pe (aN pe2 bC hs2) (by rw[hs,hs2])) hs hs2,λ σ H Hv ρ T er s w=>?_⟩;refine q σ H Hv ρ _ er s ?_
 unfold Dv.iZip at w;cases hf:f ρ with
 | bad=>rw[hf] at w;exact w
 | exc c=>rw[hf] at w;exact w
 | ok d fr=>
  rw[hf] at w;intro v Hv' H' x rp n;cases d with
  | lst xs=>
   refine q2 σ H' Hv' ρ _ (er.same x.vv) x.vh ?_
   cases hg':g ρ with
   | bad=>simp only[hg'] at w;exact w
   | exc c=>simp only[hg'] at w;exact λ Hv2 H2 y=>w Hv2 H2 (x.trans y)
   | ok d2 fr2=>
    simp only[hg'] at w;intro v2 Hv2 H2 y rp2 n2;cases d2 with
    | lst ys=>
     have rp1:=rp.same y.vv;unfold Rp at rp1 rp2;obtain⟨l1,vs,rfl,h1,h2⟩:=rp1;obtain⟨l2,ws,rfl,h3,h4⟩:=rp2;refine⟨l1,l2,vs,ws,rfl,(h1.same y.vh).seq,(h3.same y.vh).seq,w _ Hv2 H2 (x.trans y) λ i H3 s3=>⟨λ d hd=>?_,λ hi=>?_⟩⟩
     ·obtain⟨dx,dy,g1,g2,rfl⟩:=zip_get hd
      obtain⟨vx,k1,k2⟩:=h2.get g1;obtain⟨vy,k3,k4⟩:=h4.get g2;refine⟨⟨vs,ws,vx,vy,(h1.same s3).seq,(h3.same s3).seq,k1,k3⟩,λ u H4 ⟨p,hp,e1,hh⟩=>?_⟩;obtain⟨x',y',m1,m2,rfl⟩:=hh vs ws (h1.same s3).seq (h3.same s3).seq;rw[k1] at m1;rw[k3] at m2;cases m1;cases m2;subst e1;have nx:=Ext.new1 s3 hp (.tup [vx,vy]);refine⟨_,nx,?_⟩;unfold Rp;exact⟨p,_,rfl,.inl aC,.cons (k2.same nx.vv) (.cons (k4.same nx.vv) .nil)⟩
     ·refine⟨vs,ws,(h1.same s3).seq,(h3.same s3).seq,?_⟩
      rw[h2.length,h4.length];rw[List.length_zipWith] at hi;omega
    | _=>exact Zf w
  | _=>exact Zf w
theorem lD {C:Ctx}{ts:List Expr}{xs:List Nat}{kt:Nat}{tpos:Pos}(hg:SGs C ts xs)(hl:ts.length=xs.length)(hn:autoParam ((assignEach ts C.X.env).length=ts.length) ZE._auto_1)(hst:autoParam ((assignEach ts C.X.env).findIdx? (·.1)=none) ZE._auto_1)(hcl:autoParam (C.X.calm=true) ZE._auto_1):
  SG C (.Tuple ts kt tpos) (Dv.tupTo xs):=by
 obtain⟨g,pg,qg⟩:=hg;refine⟨_,lS hcl pg hn hst,λ Hv₀ H₀ Hc O H σ s s' d v T r rp e h=>?_⟩;unfold Dv.tupTo at e;cases d with
 | tup ds=>
  by_cases hz:ds.length=xs.length
  ·simp only[hz,if_true] at e
   cases e;unfold Rp at rp;obtain⟨a,vs,rfl,h2,h3⟩:=rp;exact⟨a,vs,rfl,.inl (Rd.same r.ch h2),by rw[h3.length,hz,hl],qg Hv₀ H₀ Hc O H σ s ds vs _ r h3 hz h⟩
  ·simp only[hz,if_false] at e
   cases e
 | _=>cases e
section
variable {C:Ctx}{a b c e k:Expr}{f g h:EE}{pos pos':Pos}
theorem nt {H H' Hv Hv':Hp}{es:List D}{v:V}(x:Ext Hv H Hv' H')(rn:Rp [] (Hnew H H') (.lst es) v):∃ b zs,v=.ref b/\H' b=some (.lst zs)/\H b=none/\RpL [] (Hnew H H') es zs:=by
 unfold Rp at rn;obtain⟨a,vs,rfl,h1,h2⟩:=rn;have h1':Hnew H H' a=some (.lst vs):=by
  rcases h1 with (h1|⟨o,h1⟩)|⟨its,m,e,_⟩
  ·exact h1
  ·exfalso
   have hn:H a=none:=by
    unfold Hnew at h1;cases q:H a with
    | none=>rfl
    | some u=>rw[q] at h1;cases h1
   exact x.nf a o _ hn (Hnew.sub a _ h1)
  ·simp at e
 have hn:H a=none:=by
  unfold Hnew at h1';cases q:H a with
  | none=>rfl
  | some u=>rw[q] at h1';cases h1'
 exact⟨a,vs,rfl,Hnew.sub a _ h1',hn,h2⟩
theorem p4 {i:Nat}{x:Str}{apos cpos:Pos}{px:Pos}(hN:autoParam (C.X.N[i]?=some x) ZE._auto_1)(hv:autoParam (Vis C.X.env.scope x) ZG._auto_1)
    (hd:autoParam ((x == ("__debug__":Str))=false) ZC._auto_1) (hcd:autoParam ((x == ("__classdict__":Str))=false) ZC._auto_1)
    (hbase:autoParam (attributeBase (.Name x px) "clear" C.X.env (eval (.Name x px) C.X.env)=eval (.Name x px) C.X.env) ZE._auto_1)
    (hline:autoParam ((apos.endLine == cpos.line)=true) ZE._auto_1)
    (hs:autoParam (swapsWith (.Call (.Attribute (.Name x px) "clear" apos) [] [] cpos) none pos.line C.X.env=pure false) ZE._auto_1):
    SSt C (.Expr (.Call (.Attribute (.Name x px) "clear" apos) [] [] cpos) pos) (Dv.sClear i):=by
  refine⟨_,dQ (va C3 PySem.F.slot_list_clear PySem.F.type_list_clear rL (cL hN hv hd hcd) hbase hline) hs,λ Hv₀ H₀ E σ H st ⟨Hc,O,r⟩ w=>?_⟩;unfold Dv.sClear at w;cases hi:st[i]? with
  | none=>rw[hi] at w;exact Zf w
  | some s=>
    rw[hi] at w;cases s with
    | no=>exact Zf w
    | sh d=>exact Zf w
    | dp d=>exact Zf w
    | jk n m=>exact Zf w
    | ow d0=>
     cases d0 with
     | non=>exact Zf w
     | bl _=>exact Zf w
     | int _=>exact Zf w
     | str _=>exact Zf w
     | tup _=>exact Zf w
     | exn _=>exact Zf w
     | raw _=>exact Zf w
     | ins _ _=>exact Zf w
     | tab _=>exact Zf w
     | dct _ _=>exact Zf w
     | lst ds=>
      obtain⟨a,vs,h1,h2,h5⟩:=r.own hi;obtain⟨O',r2⟩:=r.put (ds:=[]) (ws:=[]) hi h1 .nil;exact⟨_,h1,.inl ⟨rfl,vs,SqL.of h2⟩,a,vs,rfl,rfl,h2,w σ _ ⟨Hc,O',r2⟩⟩
end
section
variable {C:Ctx}{a b c e:Expr}{f g h:EE}{pos:Pos}
theorem aK (ha:SE C a f)(hb:SE C b g):SE C (.BinOp a .Add b pos) (Dv.eOp .add f g):=fB vW ha hb
theorem pF (ha:SE C a f)(hb:SE C b g):SE C (.BinOp a .Sub b pos) (Dv.eOp .sub f g):=fB wu ha hb
theorem aO (ha:SE C a f)(hb:SE C b g):SE C (.BinOp a .Mult b pos) (Dv.eOp .mul f g):=fB wL ha hb
theorem az (ha:SE C a f)(hb:SE C b g):SE C (.BinOp a .Mod b pos) (Dv.eOp .mod f g):=fB vk ha hb
theorem bT (ha:SE C a f)(hb:SE C b g):SE C (.BinOp a .FloorDiv b pos) (Dv.eOp .fdiv f g):=fB ua ha hb
theorem ki (ha:SE C a f)(hb:SE C b g):SE C (.BinOp a .Pow b pos) (Dv.eOp .pow f g):=fB wg ha hb
theorem mJ (ha:SE C a f)(hb:SE C b g):SE C (.Compare a [.Eq] [b] pos) (Dv.eCm .eq f g):=vX os_eq ha hb (nomark _)
theorem ng (ha:SE C a f)(hb:SE C b g):SC C (.Compare a [.Lt] [b] pos) (Dv.eCm .lt f g):=eG xq ha hb (nomark _)
theorem xw (ha:SE C a f)(hb:SE C b g):SC C (.Compare a [.LtE] [b] pos) (Dv.eCm .le f g):=eG xR ha hb (nomark _)
theorem uF (ha:SE C a f)(hb:SE C b g):SC C (.Compare a [.Gt] [b] pos) (Dv.eCm .gt f g):=eG xO ha hb (nomark _)
theorem uS (ha:SE C a f)(hb:SE C b g):SC C (.Compare a [.GtE] [b] pos) (Dv.eCm .ge f g):=eG wV ha hb (nomark _)
theorem fA (ha:SE C a f)(hb:SE C b g):SC C (.Compare a [.Eq] [b] pos) (Dv.eCm .eq f g):=eG os_eq ha hb (nomark _)
theorem dh (ha:SE C a f)(hb:SE C b g):SC C (.Compare a [.NotEq] [b] pos) (Dv.eCm .ne f g):=eG xl ha hb (nomark _)
theorem qr {x:Str}{i:Int}{t:Tok}(hg:Gl C.X x)(hm:C.X.mg x=some (.int i t))(hd:autoParam ((x == ("__debug__":Str))=false) ZC._auto_1):SE C (.Name x pos) (Dv.eInt i):=
 ⟨_,nL (v:=.int i) hg hm ⟨t,rfl⟩ hd,λ _ _ _ _ _ _ s q=>q.now (v:=.int i) s bE rfl⟩
theorem cb {p:Pos}(hm:C.X.mg "len"=none)(hg:Gl C.X "len")(ha:SE C a f)(he:autoParam (starEach [a] C.X.env=[(false,eval a C.X.env)]) ZE._auto_1):SE C (.Call (.Name "len" p) [a] [] pos) (Dv.eB1 Dv.lenD f):=ll wz hg hm FF ha (by decide) (by decide) he
theorem i8 {p:Pos}(hm:C.X.mg "sorted"=none)(hg:Gl C.X "sorted")(ha:SE C a f)(he:autoParam (starEach [a] C.X.env=[(false,eval a C.X.env)]) ZE._auto_1):SE C (.Call (.Name "sorted" p) [a] [] pos) (Dv.eB1 Dv.sortedD f):=ll ox hg hm DK ha (by decide) (by decide) he
theorem tU {p:Pos}(hm:C.X.mg "list"=none)(hg:Gl C.X "list")(ha:SE C a f)(he:autoParam (starEach [a] C.X.env=[(false,eval a C.X.env)]) ZE._auto_1):SE C (.Call (.Name "list" p) [a] [] pos) (Dv.eB1 Dv.listD f):=uE uj hg hm (by decide +kernel) ha (by decide) (by decide) he
theorem tP {p:Pos}(hm:C.X.mg "int"=none)(hg:Gl C.X "int")(ha:SE C a f)(he:autoParam (starEach [a] C.X.env=[(false,eval a C.X.env)]) ZE._auto_1):SE C (.Call (.Name "int" p) [a] [] pos) (Dv.eB1 Dv.intD f):=uE vq hg hm (by decide +kernel) ha (by decide) (by decide) he
theorem p5 {p p2:Pos}(hm:C.X.mg "isinstance"=none)(hmx:C.X.mg "int"=none)(hg:Gl C.X "isinstance")(hgx:Gl C.X "int")(ha:SE C a f)(he:autoParam (starEach [a,.Name "int" p2] C.X.env=(false,eval a C.X.env)::starEach [.Name "int" p2] C.X.env) ZE._auto_1)
  (he2:autoParam (starEach [.Name "int" p2] C.X.env=[(false,eval (.Name "int" p2) C.X.env)]) ZE._auto_1):SE C (.Call (.Name "isinstance" p) [a,.Name "int" p2] [] pos) (Dv.eB1 Dv.isIntD f):=jP _ oG (λ d fr h=>by cases d <;>first|rfl|exact absurd h (by simp[Dv.noTy])) sM hg hm hgx hmx (by decide +kernel) ha (by decide) (by decide) he he2
theorem fO {p p2:Pos}(hm:C.X.mg "isinstance"=none)(hmx:C.X.mg "bool"=none)(hg:Gl C.X "isinstance")(hgx:Gl C.X "bool")(ha:SE C a f)(he:autoParam (starEach [a,.Name "bool" p2] C.X.env=(false,eval a C.X.env)::starEach [.Name "bool" p2] C.X.env) ZE._auto_1)
  (he2:autoParam (starEach [.Name "bool" p2] C.X.env=[(false,eval (.Name "bool" p2) C.X.env)]) ZE._auto_1):SE C (.Call (.Name "isinstance" p) [a,.Name "bool" p2] [] pos) (Dv.eB1 Dv.isBoolD f):=jP _ lO (λ d fr h=>by cases d <;>first|rfl|exact absurd h (by simp[Dv.noTy])) pE hg hm hgx hmx (by decide +kernel) ha (by decide) (by decide) he he2
theorem i9 {p p2:Pos}(hm:C.X.mg "isinstance"=none)(hmx:C.X.mg "list"=none)(hg:Gl C.X "isinstance")(hgx:Gl C.X "list")(ha:SE C a f)(he:autoParam (starEach [a,.Name "list" p2] C.X.env=(false,eval a C.X.env)::starEach [.Name "list" p2] C.X.env) ZE._auto_1)
  (he2:autoParam (starEach [.Name "list" p2] C.X.env=[(false,eval (.Name "list" p2) C.X.env)]) ZE._auto_1):SE C (.Call (.Name "isinstance" p) [a,.Name "list" p2] [] pos) (Dv.eB1 Dv.isListD f):=jP _ mi (λ d fr h=>by cases d <;>first|rfl|exact absurd h (by simp[Dv.noTy])) rK hg hm hgx hmx (by decide +kernel) ha (by decide) (by decide) he he2
end
structure Df (K:Cd)(mg:Str->Option Value)(x:Str)(st:Stmt)(ps:List Str)(f:Addr)(fd:FuncData):Prop where
 m:mg x=some (.ref f)
 kp:De K (.ref f)=true
 ex:∃ (oc:Value) (od:Option Addr) (dV kV doc pm:Value) (an:Option Addr) (cdv ct:Value) (osl:Array (Option Value)),
  fd=CK x x (bK st) (aZ st) (ai st) dV kV doc pm an cdv ct/\K.lookup f=some ⟨oc,od,.func fd,osl⟩/\Dd K cdv x=true
 bd:Binds K fd ps []
section
variable {P:Program}{w:World}{K:Cd}{mg:Str->Option Value}{base:Heap}{CX:CXT}{cls:String->Value}
theorem Df.ok (hC:CXok P w CX){x:Str}{st:Stmt}{f:Addr}{fd:FuncData}{N ps:List Str}{k:Nat}{body:SS}(d:Df K mg x st ps f fd)(S:FnScope N ps (ai st))
  (hbody:∀ (cdv:Value) (A:Around) (outer:List CH) (s:Shared) (H:Hp) (E:XK) (hr:Room k (A.deeper (envOfC x (ai st) s.heap.objs.size f cdv))),SSs (iw hC cls K mg base N x (ai st) f cdv A outer s H E hr) (aZ st) body):
  FnOk P w K mg base CX (k+1) f fd ps (spD K cls (Dv.fn N.length body) ps.length):=by
 obtain⟨oc,od,dV,kV,doc,pm,an,cdv,ct,osl,rfl,lk,hcd⟩:=d.ex;exact wW hC cls oc od dV kV doc pm an cdv ct osl lk hcd S (hbody cdv)
theorem uH {x:Str}{st:Stmt}{ps:List Str}{f:Addr}{oc:Value}{od an:Option Addr}{osl:Array (Option Value)}{dV kV doc pm cdv ct:Value}(m:mg x=some (.ref f))(l:K.lookup f=some ⟨oc,od,.func (CK x x (bK st) (aZ st) (ai st) dV kV doc pm an cdv ct),osl⟩)
  (c:Dd K cdv x=true) (k:De K (.ref f)=true)
  (h:∀ (kV doc pm:Value) (an:Option Addr) (cdv ct:Value) (us:List Value),us.length=ps.length->bindArgs (CK x x (bK st) (aZ st) (ai st) dV kV doc pm an cdv ct) ⟨us,[]⟩=pure (ps.zip us)):
  Df K mg x st ps f (CK x x (bK st) (aZ st) (ai st) dV kV doc pm an cdv ct):=⟨m,k,⟨oc,od,dV,kV,doc,pm,an,cdv,ct,osl,rfl,l,c⟩,.all (h kV doc pm an cdv ct)⟩
end
theorem ay {C:Ctx}{e:Expr}{es:List Expr}{fl:EL}{k j:Nat}{fa:Addr}{fd:FuncData}{st:Stmt}{ps:List Str}{Fm:List D->R}{x:Str}{p pos:Pos}(d:Df C.X.K C.X.mg x st ps fa fd)(Fn:FnOk C.X.prog C.X.w C.X.K C.X.mg C.X.base C.CX j fa fd ps (spD C.X.K C.cls Fm ps.length))(hr:Room k C.X.A)(hj:j<=k)
  (hg:Gl C.X x) (ha:SL C (e::es) fl) (hlen:autoParam ((e::es).length=ps.length) ZE._auto_1) (hdb:autoParam ((x == ("__debug__":Str))=false) ZC._auto_1) (he:autoParam (starEach (e::es) C.X.env=(false,eval e C.X.env)::starEach es C.X.env) ZE._auto_1) (hpl:autoParam ((backTo pos (starEach es C.X.env)).any (·.1)=false) ZE._auto_1):
  SE C (.Call (.Name x p) (e::es) [] pos) (Dv.eCall Fm fl):=by
 have q:=tm (pos:=pos) (p:=p) (dds:=[]) (dvs:=[]) (dus:=[]) Fn hr hj hg d.m d.kp d.bd .nil (λ _ _=>.nil) ha (by simpa using hlen) hdb he hpl;have e1:(λ ds=>Fm (ds++[]))=Fm:=by funext ds;rw[Al]
 rw[e1] at q;exact q
theorem Df.is {P:Program}{w:World}{K:Cd}{mg:Str->Option Value}{base:Heap}{CX:CXT}{cls:String->Value}(hC:CXok P w CX){x:Str}{st:Stmt}{f:Addr}{fd:FuncData}{ps:List Str}{F:List D->R}{m j:Nat}(N:List Str)(k:Nat)(body:SS)(d:Df K mg x st ps f fd)(S:FnScope N ps (ai st))
  (hj:j=k+1) (hm:m=ps.length) (hF:F=Dv.fn N.length body)
  (hbody:∀ (cdv:Value) (A:Around) (outer:List CH) (s:Shared) (H:Hp) (E:XK) (hr:Room k (A.deeper (envOfC x (ai st) s.heap.objs.size f cdv))),SSs (iw hC cls K mg base N x (ai st) f cdv A outer s H E hr) (aZ st) body):
  FnOk P w K mg base CX j f fd ps (spD K cls F m):=by
 subst hj hm hF;exact d.ok hC S hbody
structure Fly (P:Program)(w:World)(outer:List CH)(H:Hp)(s:Shared)(a:Addr)(cls:Value)(H':Hp)(B:Heap)(t:Addr)(s':Shared):Prop where
 os:s'.os=s.os
 bare:AllBare s'.gens
 fl:Heap.FlyingW B outer a cls (.ref t) s'.heap
 keepB:∀ b o,s.heap.get? b=some o->H b=none->b∉frs outer->B.get? b=some o
 thereB:∀ b o,s.heap.get? b=some o->b∉frs outer->∃ o',B.get? b=some o'
 slot:∀ b o,s.heap.get? b=some o->H b=none->b∈frs outer->∃ sl,s'.heap.get? b=some { o with slots:=sl }
 free:∀ b o,s.heap.get? b=some o->H b=none->H' b=none
 tups:∀ b xs,H b=some (.tup xs)->H' b=some (.tup xs)
 frzs:∀ b o u,H b=some (.frz o u)->H' b=some (.frz o u)
 tbls:∀ b ps,H b=some (.tbl ps)->∃ more,H' b=some (.tbl (ps++more))
 hokB:HOk P w H' B
def CXe (P:Program)(w:World):CXT:=λ outer H s E e s'=>∃ a cls H' B t,e=.ref a/\Fly P w outer H s a cls H' B t s'/\E cls none H'
theorem uq {P:Program}{w:World}{H:Hp}{h h':Heap}(x:HOk P w H h)(k:∀ b u,H b≠none->h.get? b=some u->h'.get? b=some u):HOk P w H h':=λ a o e=>
 (x a o e).stay (λ b u hb q=>k b u (by
  rcases hb with rfl|hb
  ·rw[e];exact λ z=>nomatch z
  ·rw[hb];exact λ z=>nomatch z) q) (λ _ q=>q) λ _ _ q=>q
theorem cU {B h:Heap}{l:List CH}{b:Addr}{o:Obj}(f:h.FunFrames B l)(hb:b∈frs l)(e:h.get? b=some o):∀ vs,o.data≠.fields vs:=by
 obtain⟨_,o',e',n⟩:=f.mem hb;rw[e] at e';cases e';exact n
section
variable {P:Program}{w:World}{K:Cd}{mg:Str->Option Value}{base:Heap}{N:List Str}{qual:Str}{scope:Scope}{f:Addr}{cd:Value}{A:Around}{outer:List CH}{s:Shared}{H:Hp}{E:XK}
theorem b7 {b:Addr}{o:Obj}(e:s.heap.get? b=some o)(hb:b∉frs outer):b∉frs (envOfC qual scope s.heap.objs.size f cd::outer):=λ m=>by
 have m':b∈s.heap.objs.size::frs outer:=m
 rcases List.mem_cons.mp m' with rfl|m'
 ·exact absurd (Cg e) (zq _)
 ·exact hb m'
theorem gJ {b:Addr}(hb:b∈frs outer):b∈frs (envOfC qual scope s.heap.objs.size f cd::outer):=yF (s.heap.objs.size) hb
theorem n5 (pins:List (Addr×Obj))(σ:St)(H1:Hp)(s1:Shared)(e:Value)(s':Shared)(I:Inv (cx (CXe P w) P w K mg base N qual scope f cd A outer s H E) pins σ H1 s1)
  (h:CXe P w (cx (CXe P w) P w K mg base N qual scope f cd A outer s H E).stack H1 s1 E e s'):(cx (CXe P w) P w K mg base N qual scope f cd A outer s H E).xe e s':=by
 obtain⟨a,cls,H',B,t,rfl,F,q⟩:=h;have noex:∀ b:Addr,b∉(cx (CXe P w) P w K mg base N qual scope f cd A outer s H E).ex:=λ b z=>absurd (show b∈([]:List Addr) from z) (by simp)
 refine wpAny_leaves_onW (L:=s.heap.objs.size) I.ok.frames rfl F.fl λ h' x1 x2=>?_
 refine⟨a,cls,H',B,t,rfl,⟨F.os.trans I.os,F.bare,x1,λ b o e n hb=>?_,λ b o e hb=>?_,λ b o e n hb=>?_,λ b o e n=>?_,λ b xs e=>?_,λ b o u e=>?_,λ b ps e=>?_,F.hokB⟩,q⟩
 ·exact F.keepB b o (I.base.keep b o e n hb (noex b)) (I.base.free b o e n (noex b)) (b7 e hb)
 ·obtain⟨o1,e1⟩:=I.base.there b o e (noex b)
  exact F.thereB b o1 e1 (b7 e hb)
 ·obtain⟨sl,e1⟩:=I.base.slot b o e n hb (noex b)
  obtain⟨sl2,e2⟩:=F.slot b _ e1 (I.base.free b o e n (noex b)) (gJ hb);obtain⟨sl3,e3⟩:=x2 b _ e2 (cU F.fl.2.2.1 (gJ hb) e2);exact⟨sl3,e3⟩
 ·obtain⟨o1,e1⟩:=I.base.there b o e (noex b)
  exact F.free b o1 e1 (I.base.free b o e n (noex b))
 ·exact F.tups b xs (I.base.tups b xs e)
 ·exact F.frzs b o u (I.base.frzs b o u e)
 ·obtain⟨m1,e1⟩:=I.base.tbls b ps e
  obtain⟨m2,e2⟩:=F.tbls b _ e1;exact⟨m1++m2,by rw[e2,E9]⟩
theorem cxe_ok {P:Program}{w:World}:CXok P w (CXe P w):=⟨λ _ _ _ _ _ ⟨_,_,_,_,_,_,_,q⟩=>q,λ _ _ _ _ _ _ _ _ _ _ _ _ _ pins σ H1 s1 e s' I h=>n5 pins σ H1 s1 e s' I h⟩
theorem kl {pins:List (Addr×Obj)}{σ:St}{H1:Hp}{s1:Shared}{h':Heap}{e:Addr}{cls:Value}{vs:List Value}(I:Inv (cx (CXe P w) P w K mg base N qual scope f cd A outer s H E) pins σ H1 s1)
  (hx:Heap.MadeExcOf s1.heap h' e cls vs) (hE:E cls none H1):(cx (CXe P w) P w K mg base N qual scope f cd A outer s H E).xe (.ref e) { s1 with heap:=h' }:=by
 have noex:∀ b:Addr,b∉(cx (CXe P w) P w K mg base N qual scope f cd A outer s H E).ex:=λ b z=>absurd (show b∈([]:List Addr) from z) (by simp)
 have hfr:s1.heap.FunFrames (EC s1.heap (frs (envOfC qual scope s.heap.objs.size f cd::outer))) (envOfC qual scope s.heap.objs.size f cd::outer):=
  PySem.W.funFrames_hide I.stack λ env he b hb=>List.mem_filterMap.mpr ⟨env,he,hb⟩
 refine wpAny_leaves_madeW (L:=s.heap.objs.size) (base:=EC s1.heap (frs (envOfC qual scope s.heap.objs.size f cd::outer))) I.ok.frames rfl (λ b o q=>E8 _ q) hfr hx λ h2 t x1 x2 x3 x4=>?_
 refine⟨e,cls,H1,_,t,rfl,⟨I.os,I.bare,x1,λ b o q n hb=>?_,λ b o q hb=>?_,λ b o q n hb=>?_,λ b o q n=>I.base.free b o q n (noex b),λ b xs q=>I.base.tups b xs q,λ b o u q=>I.base.frzs b o u q,λ b ps q=>I.base.tbls b ps q,?_⟩,hE⟩
 ·exact DD _ (I.base.keep b o q n hb (noex b)) (b7 q hb)
 ·obtain⟨o1,e1⟩:=I.base.there b o q (noex b)
  exact⟨o1,DD _ e1 (b7 q hb)⟩
 ·obtain⟨sl,e1⟩:=I.base.slot b o q n hb (noex b)
  obtain⟨sl2,e2⟩:=x4 b _ (hx.keeps _ _ e1) (cU hfr (gJ hb) e1);exact⟨sl2,e2⟩
 ·refine uq I.hok λ b u hb q=>DD _ q λ m=>hb ?_
  exact I.stkFree b m
end
structure XCls (K:Cd)(mg:Str->Option Value)(c:String)(C:Addr):Prop where
 m:mg (CG c)=some (.ref C)
 ns:Cq K mainGlobals (CG c)=some (some (.ref C))
 ex:Ei K C [.type "ValueError",.type "Exception",.type "BaseException",.type "object"] "ValueError.__new__"=true
 lk:∃ bm N nm qn bs hd sn sub ab col dd k0 k1 k2 k3 k5,K.lookup C=some (excClassObj nm qn C N bs bm hd sn sub ab col dd k0 k1 k2 k3 k5 "ValueError.__new__")
theorem n4 {K:Cd}{C:Addr}{bm0:List Value}{newId:String}(q:Ei K C bm0 newId=true)(l:∃ bm N nm qn bs hd sn sub ab col dd k0 k1 k2 k3 k5,K.lookup C=some (excClassObj nm qn C N bs bm hd sn sub ab col dd k0 k1 k2 k3 k5 newId)):
  ∃ bm N nm qn bs hd sn sub ab col dd k0 k1 k2 k3 k5,K.lookup C=some (excClassObj nm qn C N bs bm hd sn sub ab col dd k0 k1 k2 k3 k5 newId)/\Ec K N=true/\Cq K N "__init__"=some none/\FG K bm0 bm=true:=by
 obtain⟨bm,N,nm,qn,bs,hd,sn,sub,ab,col,dd,k0,k1,k2,k3,k5,l⟩:=l;unfold Ei at q;rw[l] at q;have q:(C == C&&newId == newId&&!false&&FG K bm0 bm&&Ec K N&&Cq K N "__init__" == some none)=true:=q;simp only[yL,beq_iff_eq] at q;exact⟨bm,N,nm,qn,bs,hd,sn,sub,ab,col,dd,k0,k1,k2,k3,k5,l,q.1.2,q.2,q.1.1.2⟩
theorem tT {K:Cd}{h h':Heap}{N:Addr}{m:Str->Option Value}(X:K.In h)(X':K.In h')(e:Ec K N=true)(n:h.Ns N m):h'.Ns N m:=by
 obtain⟨o,es,ep,ho,hd,r⟩:=n;unfold Ec at e
 split at e
 ·rename_i a b c d q
  have:=X _ _ q;rw[ho] at this;cases this;exact⟨_,es,ep,X' _ _ q,hd,r⟩
 ·cases e
theorem qA {P:Program}{w:World}{K:Cd}{mg:Str->Option Value}{base:Heap}{N:List Str}{qual:Str}{scope:Scope}{f:Addr}{cd:Value}{A:Around}{outer:List CH}{s:Shared}{H:Hp}{E:XK}{c:String}{Ca:Addr}{tx:Str}{j:Nat}{np p2 cpos pos:Pos}
  (x:XCls K mg c Ca) (hg:Gl (cx (CXe P w) P w K mg base N qual scope f cd A outer s H E) (CG c)) (hd:(CG c == ("__debug__":Str))=false) (hh:(A.deeper (envOfC qual scope s.heap.objs.size f cd)).handled=none):
  PS (cx (CXe P w) P w K mg base N qual scope f cd A outer s H E) (.Raise (some (.Call (.Name (CG c) np) [.Constant (.str tx) j p2] [] cpos)) none pos) (λ _ _ H1=>E (.ref Ca) none H1):=by
 intro pins s1 σ H1 D I hE;obtain⟨bm,Na,nm,qn,bs,hdd,sn,sub,ab,col,dd,k0,k1,k2,k3,k5,hC,hN,hni,hT⟩:=n4 x.ex x.lk;have T:=Fe I.kIn hT;refine wpAny_Raise_call_subT (C:=Ca) (nm:=nm) (q:=qn) (N:=Na) (bs:=bs) (bm:=bm) (hdct:=hdd) (sn:=sn) (sub:=sub) (ab:=ab) (col:=col) (dd:=dd) (k0:=k0) (k1:=k1) (k2:=k2) (k3:=k3) (k5:=k5) PySem.F.excBase_ValueError (mN:=s1.heap.nsMap Na) (T.hasType (by decide)) hh rfl (PySem.W.nsMap_none_of_in I.kIn hN hni) ?_
 have pn:=nL (X:=cx (CXe P w) P w K mg base N qual scope f cd A outer s H E) (v:=.ref Ca) (pos:=np) hg x.m rfl hd;refine thn (pn pins s1 σ H1 (λ v H2=>v=.ref Ca/\H2=H1) I ⟨rfl,rfl⟩) ?_
 rintro u s2 ⟨v,H2,I2,r2,rfl,rfl⟩
 obtain rfl:u=Cp Ca:=r2;refine⟨rfl,D2 ?_⟩;have pa:=aN (X:=cx (CXe P w) P w K mg base N qual scope f cd A outer s H E) (e:=.Constant (.str tx) j p2) wt bC;refine thn (pa cpos pins s2 σ H2 (λ vs H3=>vs=[.str tx]/\H3=H2) I2 ⟨rfl,rfl⟩) ?_
 rintro us s3 ⟨vs,H3,I3,r3,rfl,rfl⟩
 have hl:us.length=1:=r3.length.symm;refine⟨rfl,by rw[hl];decide,I3.kIn _ _ hC,tT I.kIn I3.kIn hN (.of_isNs (PySem.W.isNs_of_in I.kIn hN)),Fe I3.kIn hT,λ h' e hx=>?_⟩;exact kl I3 hx hE
theorem b9 {P:Program}{w:World}{K:Cd}{mg:Str->Option Value}{base:Heap}{cls:String->Value}{N:List Str}{qual:Str}{scope:Scope}{f:Addr}{cd:Value}{A:Around}{outer:List CH}{s:Shared}{H:Hp}{E:XK}{k:Nat}{hr:Room k (A.deeper (envOfC qual scope s.heap.objs.size f cd))}{c:String}{Ca:Addr}{tx:Str}{j:Nat}{np p2 cpos pos:Pos}
  (x:XCls K mg c Ca) (hcls:cls c=.ref Ca) (hg:Gl (cx (CXe P w) P w K mg base N qual scope f cd A outer s H E) (CG c)) (hd:autoParam ((CG c == ("__debug__":Str))=false) ZC._auto_1):
  SSs (iw (cxe_ok (P:=P) (w:=w)) cls K mg base N qual scope f cd A outer s H E hr) [.Raise (some (.Call (.Name (CG c) np) [.Constant (.str tx) j p2] [] cpos)) none pos] (Dv.sRaise c):=by
 refine⟨_,ff (qA x hg hd hr.hd),λ Hv₀ H₀ E' σ H' st r q=>?_⟩;have q':E (cls c) none H':=q σ H' r;rw[hcls] at q';exact q'
structure XLook (K:Cd)(C:Addr):Prop where
 ex:Ei K C [.type "ValueError",.type "Exception",.type "BaseException",.type "object"] "ValueError.__new__"=true
 lk:∃ bm N nm qn bs hd sn sub ab col dd k0 k1 k2 k3 k5,K.lookup C=some (excClassObj nm qn C N bs bm hd sn sub ab col dd k0 k1 k2 k3 k5 "ValueError.__new__")
 ga:Dr K (.ref C) "__getattribute__"=some (some (.builtin "BaseException.__getattribute__"))
 gn:Dr K (.ref C) "__getattr__"=some none
 kc:Dr K (.ref C) "__class__"=some (some (.builtin "object.__class__"))
structure XAll (K:Cd)(mg:Str->Option Value)(ad:String->Option Addr):Prop where
 cl:∀ c C,ad c=some C->XCls K mg c C/\XLook K C
 sub:∀ c C k C',ad c=some C->ad k=some C'->CJ K (.ref C) (.ref C')=some (Dv.subX c k)
 val:∀ c C,ad c=some C->CJ K (.ref C) (.type "ValueError")=some true
theorem Fly.un {P:Program}{w:World}{outer:List CH}{H H':Hp}{s s':Shared}{a t:Addr}{cls:Value}{B h:Heap}(F:Fly P w outer H s a cls H' B t s')(sb:B.StaysIn h)(sm:s'.heap.UpToSlots h)(hf:∀ b∈frs outer,H b=none):
  Un (frs outer) [] H H' s.heap h where
 keep:=λ b o e n hb _=>sb b o (F.keepB b o e n hb)
 slot:=λ b o e n hb _=>by
  obtain⟨sl,e1⟩:=F.slot b o e n hb;obtain⟨sl2,e2⟩:=sm b _ e1 (cU F.fl.2.2.1 hb e1);exact⟨sl2,e2⟩
 free:=λ b o e n _=>F.free b o e n
 there:=λ b o e _=>by
  by_cases hb:b∈frs outer
  ·obtain⟨sl,e1⟩:=F.slot b o e (hf b hb) hb
   obtain⟨sl2,e2⟩:=sm b _ e1 (cU F.fl.2.2.1 hb e1);exact⟨_,e2⟩
  ·obtain⟨o1,e1⟩:=F.thereB b o e hb
   exact⟨o1,sb b o1 e1⟩
 tups:=F.tups
 frzs:=F.frzs
 tbls:=F.tbls
theorem Fly.none {P:Program}{w:World}{outer:List CH}{H H':Hp}{s s':Shared}{a t:Addr}{cls:Value}{B:Heap}(F:Fly P w outer H s a cls H' B t s'):H' a=Option.none:=by
 cases q:H' a with
 | none=>rfl
 | some o=>
  have e:=F.fl.2.1;obtain⟨o',h1⟩:∃ o',B.get? a=some o':=by
   have:=(F.hokB a o q).lt;have k:=F.hokB a o q;cases o with
   | lst xs=>obtain⟨_,_,_,_,z⟩:=k;exact⟨_,z⟩
   | tup xs=>obtain⟨_,_,_,_,z,_⟩:=k;exact⟨_,z⟩
   | dK kvs=>obtain⟨_,_,_,_,o,_,_,z,_⟩:=k;exact⟨_,z⟩
   | dT kvs=>obtain⟨_,_,_,_,o,_,_,z,_⟩:=k;exact⟨_,z⟩
   | set S n=>obtain⟨o,_,_,_,z,_⟩:=k;exact⟨_,z⟩
   | ins C dx fs=>obtain⟨_,_,_,z,_⟩:=k;exact⟨_,z⟩
   | own y=>obtain⟨_,z⟩:=k;exact⟨_,z⟩
   | xd fs=>obtain⟨_,⟨_,_,_,z,_⟩,_⟩:=k;exact⟨_,z⟩
   | rng lo hi=>obtain⟨_,_,_,z⟩:=k;exact⟨_,z⟩
   | frz ob u=>obtain⟨z,_⟩:=k;exact⟨_,z⟩
   | tbl ps=>exact⟨_,(show B.get? a=some _ from k)⟩
   | met f y=>exact⟨_,(show B.get? a=some _ from k)⟩
   | ext φ=>obtain⟨_,⟨_,z⟩,_⟩:=k;exact⟨_,z⟩
  rw[e] at h1;cases h1
open PySem PySem.W PySem.Calls PyProof.Rows
theorem gK:∀ {ns:List Int} {x:Int},x∈ns->(DH x).weight<=ED (ns.map DH)
 | [],_,h=>by simp at h
 | n::r,x,h=>by
  rw[yB];unfold ED
  rcases List.mem_cons.mp h with rfl|h
  ·omega
  ·have:=gK h
   omega
theorem uh {ns:List Int}(h:WData.layableAll [FD (ns.map DH)]=true):∀ x∈ns,Dv.bits x<=1048576:=λ x hx=>by
 have h1:=layableW_arg h _ (yG ..);obtain⟨_,_,h2⟩:=layableW_iff.mp h1;have h3:Ff (FD (ns.map DH))=ED (ns.map DH):=by unfold Ff;rfl
 have h4:=gK hx;have h5:(DH x).weight=Dv.bits x:=by
  unfold Ff Dv.bits;by_cases e:x=0
  ·simp[e]
  ·simp[e]
 rw[h3] at h2;omega
theorem sU {l:OpenLaw}{n:Nat}{q:Program}{loose:List Str}{XP:(Str->Option Value)->Heap->Prop}{YP:World->Heap->Prop}{d:DefRec}(hn:l.most=some n)(hdf:d.params.defaults=[])
  (run:∀ (w:World) (s₀ s₁:Shared) (mg mb:Str->Option Value) (fa:Addr) (a:Addr) (vs:List Value) (ns:List Int),Ground q loose [] XP w s₀ mg mb s₁.heap->YP w s₁.heap->mg d.name=some (.ref fa) ->
   s₁.heap.get? a=some { cls:=.type "list",data:=.seq vs.toArray }->IntsAre vs ns->ns.length<=n->(∀ x∈ns,Dv.bits x<=1048576)->s₁.gens=#[] ->
   codeAny (model l.prog w) callerA (.call (.ref fa) ⟨[.ref a],[]⟩) (λ r s'=>r=.ok (.ret (.bool true))/\OldK s₁.heap s'.heap/\s'.os=s₁.os/\AllBare s'.gens) s₁):
  WalkO q loose XP YP l.row.toRowW d [] (λ f vs=>PySem.call f vs):=by
 intro w s₀ s₁ mg mb G Y fa o pm cd doc dV kV ho hd hcd hD hmg hg args vals as hpre hlay hrd hwl hlo;obtain⟨a,vs,ns,rfl,rfl,hobj,hints,hlen⟩:=Att.script_of hn hpre hwl;have hbits:=uh hlay;refine enter_call (D4 (run w s₀ s₁ mg mb fa a vs ns G Y hmg hobj hints hlen hbits hg) ?_)
 rintro r s' ⟨rfl,h2,h3,h4⟩
 exact⟨.inl ⟨.bool true,.bool true,[],rfl,λ _=>rfl,.bool true,Att.post_true l _,λ _=>⟨List.Pairwise.nil,λ _ hm=>(nomatch hm)⟩⟩,h2,h3,h4⟩
theorem walkD {l:OpenLaw}{k:Nat}{q:Program}{loose:List Str}{XP:(Str->Option Value)->Heap->Prop}{YP:World->Heap->Prop}{d:DefRec}{K:Params->Frag}{CX:World->L2.CXT}{x:Str}{Fl:List Dv.D->Dv.R}
  (hn:l.most=some 63) (hdf:d.params.defaults=[]) (hr:L2.Room k callerA) (hY:∀ (w:World) (h:Heap),YP w h->(K w.params).In h) (hC:∀ w,CXok l.prog w (CX w))
  (F:∀ (w:World) (mg:Str->Option Value) (fa:Addr) (h:Heap),(K w.params).In h->h.Ns mainGlobals mg->mg d.name=some (.ref fa) ->
   ∃ (fd:FuncData) (cls:String->Value),(∀ (s:Shared) (u:Value),BindsTo s fd ⟨[u],[]⟩ [(x,u)])/\∀ base:Heap,(K w.params).In base->base.Ns mainGlobals mg->L2.FnOk l.prog w (K w.params) mg base (CX w) k fa fd [x] (spD (K w.params) cls Fl 1))
  (hF:∀ ns:List Int,ns.length<=63->(∀ x∈ns,Dv.bits x<=1048576)->Fl [.lst (ns.map .int)]=.ok (.bl true) true):
  WalkO q loose XP YP l.row.toRowW d [] (λ f vs=>PySem.call f vs):=by
 refine sU hn hdf λ w s₀ s₁ mg mb fa a vs ns G Y hmg hobj hints hlen hbits hg=>?_
 have KX:=hY w _ Y;obtain⟨fd,cls,hb,hFn⟩:=F w mg fa _ KX G.T.g hmg;have hK:∀ o,(K w.params).lookup a=some o->o={ cls:=.type "list",data:=.seq vs.toArray }:=λ o e=>by
  have:=KX a o e;rw[hobj] at this;exact(Option.some.inj this).symm
 have hl:ns.length<=sizeLine:=zr hlen (by decide);refine L2.law_call KX G.T.g G.T.b G.T.builtins G.T.nolimit hg hobj hints hl hr hFn hb (λ H hO hS=>?_) λ H e s'=>(hC w).no [] H s₁ e s'
 refine⟨[.lst (ns.map .int)],H,rfl,.refl _,?_,?_⟩
 ·refine .cons ?_ .nil
  unfold Rp;refine⟨a,ns.map L2.V.int,rfl,?_,RpL.ofInts ns⟩
  rcases hS with hS|⟨o,its,m,e,_,_,e2,z,v⟩
  ·exact .inl hS
  ·have e3:=hK o e
   subst e3;cases e2;exact .inr ⟨vs,_,e,by rw[yC];exact hl,by simpa using v⟩
 ·rw[hF ns hlen hbits]
  intro v Hv' H' _ rp _;unfold Rp at rp;exact rp
open Dv in
def aJ (ad:String->Option Addr)(c:String):Value:=match ad c with
 | some C=>.ref C
 | none=>.none
theorem cn {ad:String->Option Addr}{c:String}{C:Addr}(h:ad c=some C):aJ ad c=.ref C:=by unfold aJ;rw[h]
def oD (l:List (String×Addr))(c:String):Option Addr:=l.lookup c
theorem du:∀ {l:List (String×Addr)} {c:String} {C:Addr},oD l c=some C->(c,C)∈l
 | [],c,C,h=>by simp[oD] at h
 | (k,v)::r,c,C,h=>by
  unfold oD at h;rw[zh] at h
  split at h
  ·rename_i q
   cases h;rw[beq_iff_eq.mp q];exact yG ..
  ·exact yF _ (du (l:=r) h)
theorem tf {K:Frag}{mg:Str->Option Value}(l:List (String×Addr))(h1:∀ p∈l,XCls K mg p.1 p.2/\XLook K p.2/\kitOne K (.ref p.2) (.type "ValueError")=some true)(h2:∀ p∈l,∀ q∈l,kitOne K (.ref p.2) (.ref q.2)=some (Dv.subX p.1 q.1)):XAll K mg (oD l) where
 cl:=λ c C h=>let z:=h1 _ (du h);⟨z.1,z.2.1⟩
 sub:=λ c C k C' h h'=>h2 _ (du h) _ (du h')
 val:=λ c C h=>(h1 _ (du h)).2.2
theorem fm_nil {α:Type}{p:α->Prop}:∀ x∈([]:List α),p x:=λ x h=>absurd h (by simp)
theorem cC {α:Type}{p:α->Prop}{a:α}{l:List α}(h:p a)(r:∀ x∈l,p x):∀ x∈a::l,p x:=λ x m=>by
 rcases List.mem_cons.mp m with rfl|m
 ·exact h
 ·exact r x m
end Sd
namespace Dv
def upL (lo:Int):Nat->List Int
 | 0=>[]
 | n+1=>lo::upL (lo+1) n
def listRangeD:D->Bool->R
 | .int j,_=>if decide (0<=j)&&decide (j<=100000) then .ok (.lst ((upL 0 j.toNat).map .int)) true else .bad
 | _,_=>.bad
end Dv
namespace Sd
open PySem PySem.Spec PyProof.Rows L2 HT
open Dv (D R RL EE EL EI RI Sl Out SS)
section
variable {C:Ctx}{a:Expr}{f:EE}{pos:Pos}
theorem mQ:∀ (n:Nat) (lo:Int),(Dv.upL lo n).length=n
 | 0,lo=>rfl
 | n+1,lo=>by unfold Dv.upL;rw[yE,mQ n]
theorem mT:∀ (n:Nat) (lo:Int) (us:List Value),us.length=n->(∀ (j:Nat) (v:Value),us[j]?=some v->∃ t,v=Dc (lo+(j:Int)*1) t)->Vals ((Dv.upL lo n).map V.int) us
 | 0,lo,us,h,_=>by
  have:us=[]:=List.length_eq_zero_iff.mp h;subst this;exact .nil
 | n+1,lo,[],h,_=>by simp at h
 | n+1,lo,u::us,h,k=>by
  obtain⟨t,e⟩:=k 0 u rfl;unfold Dv.upL;rw[yB];refine .cons ⟨t,by rw[e];simp⟩ (mT n (lo+1) us (by simpa using h) λ j v hj=>?_);obtain⟨t',e'⟩:=k (j+1) v (by simpa using hj);refine⟨t',by rw[e'];congr 1;omega⟩
theorem kh {X:Cx}{t:TE}{p p2 pos2:Pos}(hcl:X.calm=true)(hm:X.mg "list"=none)(hg:Gl X "list")(hm2:X.mg "range"=none)(hg2:Gl X "range")(ha:PE X a t)
  (he:starEach [.Call (.Name "range" p2) [a] [] pos2] X.env=[(false,eval (.Call (.Name "range" p2) [a] [] pos2) X.env)]) (he2:starEach [a] X.env=[(false,eval a X.env)]):
  PE X (.Call (.Name "list" p) [.Call (.Name "range" p2) [a] [] pos2] [] pos) (λ σ H Q=>t σ H λ x H1=>∃ j:Int,x=.int j/\0<=j/\j<=100000/\∀ l,H1 l=none->Q (.ref l) (upd H1 l (.lst ((Dv.upL 0 j.toNat).map V.int)))):=by
 intro pins s σ H Q I h;refine CI (bO I hg hm (u:=.type "list") (by decide +kernel) ?_ (by decide) (by decide));refine Cr ?_ he rfl
 rw[he];show wpAny _ _ (spliced ((false,eval (.Call (.Name "range" p2) [a] [] pos2) X.env)::backTo pos [])) _ _ s
 refine CD ?_
 refine CI (bO I hg2 hm2 EY ?_ (by decide) (by decide));refine Cr ?_ he2 rfl
 rw[he2];show wpAny _ _ (spliced ((false,eval a X.env)::backTo pos2 [])) _ _ s
 refine CD (thn (ha pins s σ H _ I h) λ u s1 ⟨x,H1,I1,r1,j,e1,j0,j1,go⟩=>?_);subst e1;obtain⟨t,rfl⟩:=r1;refine CP ?_
 refine call_range_1 ?_
 refine CP ?_
 have hsz:Di 0 j 1=(j.toNat:Nat):=by rw[rangeSize_one];split <;>omega
 refine EO (I1.ok.hd hcl) (Fq ..) (small_one ⋯ ⋯ ⋯ ⋯) hsz ⋯ λ h' tk acc' c' hk hS hacc=>?_
 have hk2:∀ b u,s1.heap.get? b=some u->h'.get? b=some u:=λ b u q=>hk b u (Cf _ q)
 have hle:s1.heap.objs.size<=(s1.heap.push { cls:=.type "range",data:=.fields #[.int 0 s1.toks,.int j t,.int 1 (s1.toks+1)] }).objs.size:=by rw[Ds];omega
 refine⟨.ref _,_,I1.laid (t':=tk) (o:=.lst ((Dv.upL 0 j.toNat).map V.int)) hk2 hle ?_,rfl,go _ (I1.hok.fresh hle)⟩;refine⟨?_,acc'.toList,c',mT j.toNat 0 _ (by rw[Cj];exact hacc.1) (λ i v hi=>hacc.2 i v (by rw[<- C8];exact hi)),by simpa using hS⟩;rw[yC,mQ,CF];omega
theorem jI {p p2 pos2:Pos}(hm:C.X.mg "list"=none)(hg:Gl C.X "list")(hm2:C.X.mg "range"=none)(hg2:Gl C.X "range")(ha:SE C a f)
  (he:autoParam (starEach [.Call (.Name "range" p2) [a] [] pos2] C.X.env=[(false,eval (.Call (.Name "range" p2) [a] [] pos2) C.X.env)]) ZE._auto_1) (he2:autoParam (starEach [a] C.X.env=[(false,eval a C.X.env)]) ZE._auto_1) (hcl:autoParam (C.X.calm=true) ZE._auto_1):
  SE C (.Call (.Name "list" p) [.Call (.Name "range" p2) [a] [] pos2] [] pos) (Dv.eB1 Dv.listRangeD f):=by
 obtain⟨t,pa,qa⟩:=ha;refine⟨_,kh hcl hm hg hm2 hg2 pa he he2,λ σ H Hv ρ Q e s w=>?_⟩;refine qa.step e (.refl s) w λ v d fr Hv1 H1 _ x1 _ rx n1 q=>?_
 cases d with
 | int j=>
  simp only[Dv.listRangeD] at q;unfold Rp at rx;subst rx;by_cases hj:(decide (0<=j)&&decide (j<=100000))=true
  ·simp only[hj,if_true] at q
   have h2:=hj;rw[yL,decide_eq_true_eq,decide_eq_true_eq] at h2;exact⟨j,rfl,h2.1,h2.2,λ p hp=>Ok.newL q x1 (RpL.ofInts _) (λ _=>RpL.ofInts _) p hp⟩
  ·simp only[hj] at q
   exact Zf q
 | _=>exact Zf q
end
end Sd
namespace Dv
def lexLt:List Int->List Int->Bool
 | [],[]=>false
 | [],_::_=>true
 | _::_,[]=>false
 | x::xs,y::ys=>if x=y then lexLt xs ys else decide (x<y)
def ma (bt:Nat->Nat->Bool):Nat->Nat
 | 0=>0
 | k+1=>if bt (k+1) (ma bt k) then k+1 else ma bt k
def mP:List D->Option (List (List Int))
 | []=>some []
 | .lst ds::r=>match intsOf ds,mP r with
  | some ns,some nss=>some (ns::nss)
  | _,_=>none
 | _::_=>none
def tu (nss:List (List Int)):Nat:=ma (λ i j=>lexLt (nss.getD i []) (nss.getD j [])) (nss.length-1)
def least (nss:List (List Int)):List Int:=nss.getD (tu nss) []
end Dv
namespace Sd
open PySem PySem.Spec PyProof.Rows L2 HT
open Dv (D R RL EE EL EI RI Sl Out SS)
section
open PySem.SeqAt
open PySem.AutoSeq1 (wpAny_loadPart')
open PySem.MeetsSeq PySem.MeetsSeq2 PySem.MeetsSeq3
end
end Sd
namespace Dv
def eqsD:List D->D->Option (List Bool)
 | [],_=>some []
 | d::r,b=>match eqD d b,eqsD r b with
  | some p,some q=>some (p::q)
  | _,_=>none
end Dv
namespace Dv
def look:List Int->List D->Int->Option D
 | k::ks,d::ds,j=>if k=j then some d else look ks ds j
 | _,_,_=>none
def uG:List Int->List D->Int->D->List D
 | k::ks,d::ds,j,x=>(if k=j then x else d)::uG ks ds j x
 | _,ds,_,_=>ds
def putL (ks:List Int)(ds:List D)(j:Int)(x:D):List D:=if j∈ks then uG ks ds j x else ds++[x]
def xF (ks:List Int)(j:Int):List Int:=if j∈ks then ks else ks++[j]
def my:EE:=λ _=>.ok (.dct [] []) true
def rA (is:List Nat)(i:Nat)(k e:EE):SS:=λ st=>match (give is st)[i]? with
 | some (.ow (.dct ks ds))=>match e (open_ (give is st)) with
  | .ok d _=>match k (open_ (give is st)) with
   | .ok (.int j) _=>if decide (ks.length<mx)&&decide (ks.length=ds.length) then .nx ((give is st).set i (.ow (.dct (xF ks j) (putL ks ds j d)))) else .bad
   | .exc c=>.exc c st
   | _=>.bad
  | .exc c=>.exc c st
  | .bad=>.bad
 | _=>.bad
def pC:List D->Bool
 | []=>true
 | .lst es::r=>flatL es&&pC r
 | _::_=>false
def uD:Nat->List D->List D
 | _,[]=>[]
 | i,d::r=>.tup [.int i,d]::uD (i+1) r
def qB (a:EE):EI:=λ ρ=>match a ρ with
 | .ok (.lst xs) _=>.ok (uD 0 xs) true
 | .exc c=>.exc c
 | _=>.bad
def uK (hi:Int):Nat->List D
 | 0=>[]
 | n+1=>.int hi::uK (hi-1) n
def qu (a b:EE):EI:=λ ρ=>match a ρ with
 | .ok (.int i) _=>match b ρ with
  | .ok (.int j) _=>if rngOk i&&rngOk j then .ok (uK i (i-j).toNat) true else .bad
  | .exc c=>.exc c
  | _=>.bad
 | .exc c=>.exc c
 | _=>.bad
def rk (x:Nat)(it:EI)(body:SS):SS:=λ st=>match it (all st) with
 | .ok ds _=>forGo x body ds st
 | .exc c=>.exc c st
 | .bad=>.bad
def blsOf:List D->Option (List Bool)
 | []=>some []
 | .bl b::r=>(blsOf r).map (b::·)
 | _::_=>none
def isTupD:D->Bool->R
 | .exn _,_=>.bad
 | .ins _ _,_=>.bad
 | .raw _,_=>.bad
 | .tab _,_=>.bad
 | .tup _,_=>.ok (.bl true) true
 | _,_=>.ok (.bl false) true
def minI:Int->List Int->Int
 | a,[]=>a
 | a,b::r=>minI (if b<a then b else a) r
def vD (i:Nat)(o:Op)(e:EE):SS:=λ st=>match st[i]? with
 | some (.sh (.int x))=>match e (all st) with
  | .ok (.int y) _=>match opD o (.int x) (.int y) with
   | .ok (.int z) _=>.nx (st.set i (.sh (.int z)))
   | _=>.bad
  | .exc c=>.exc c st
  | _=>.bad
 | _=>.bad
def vn (i:Nat):SS:=λ st=>match st[i]? with
 | some (.ow (.lst ds))=>if decide (0<ds.length)&&decide (ds.length<=mx) then .nx (st.set i (.ow (.lst ds.dropLast))) else .bad
 | _=>.bad
def p7 (y i:Nat):SS:=λ st=>match st[i]? with
 | some (.ow (.lst ds))=>match ds.getLast? with
  | some d=>if scal d&&decide (y≠i)&&decide (ds.length<=mx) then .nx ((st.set i (.ow (.lst ds.dropLast))).set y (.sh d)) else .bad
  | none=>.bad
 | _=>.bad
def sAppG (is:List Nat)(i:Nat)(e:EE):SS:=λ st=>match (give is st)[i]? with
 | some (.ow (.lst ds))=>match e (open_ (give is st)) with
  | .ok d _=>if decide (ds.length<mx) then .nx ((give is st).set i (.ow (.lst (ds++[d])))) else .bad
  | .exc c=>.exc c st
  | .bad=>.bad
 | _=>.bad
def sAppF (i:Nat)(e:EE):SS:=λ st=>match st[i]? with
 | some (.ow (.lst ds))=>match e (all st) with
  | .ok d true=>if decide (ds.length<mx) then .nx (st.set i (.ow (.lst (ds++[d])))) else .bad
  | .ok _ false=>.bad
  | .exc c=>.exc c st
  | .bad=>.bad
 | _=>.bad
def qQ (i:Nat)(e:EE):SS:=λ st=>match e (all st) with
 | .ok d true=>.nx (st.set i (.dp d))
 | .ok _ false=>.bad
 | .exc c=>.exc c st
 | .bad=>.bad
end Dv
namespace Sd
open PySem PySem.Spec PyProof.Rows L2
open Dv (D R RL EE EL EI RI Sl Out SS)
section
variable {C:Ctx}{a b c e k:Expr}{f g h:EE}{F G:SS}{pos pos':Pos}{E:Ends}
theorem RpL.dropLast {K:Cd}{H:Hp}{ds:List D}{vs:List V}(h:RpL K H ds vs):RpL K H ds.dropLast vs.dropLast:=by
 rw[Bd,Bd,h.length];exact h.take _
theorem RpL.bls {K:Cd}{H:Hp}:∀ {ds:List D} {vs:List V} {bs:List Bool},Dv.blsOf ds=some bs->RpL K H ds vs->vs=bs.map V.bl
 | [],vs,bs,e,h=>by
  simp[Dv.blsOf] at e;subst e;unfold RpL at h;exact h
 | d::r,vs,bs,e,h=>by
  unfold RpL at h;obtain⟨v,ws,rfl,h2,h3⟩:=h;cases d with
  | bl i=>
   simp only[Dv.blsOf,Ad] at e;obtain⟨ms,e1,rfl⟩:=e;unfold Rp at h2;subst h2;rw[RpL.bls e1 h3,yB]
  | _=>simp[Dv.blsOf] at e
def wY:D->Bool
 | .tup _=>true
 | _=>false
theorem sT (K:Cd)(d:D):CJ K (.type (tyD d)) (.type "tuple")=some (wY d):=by cases d <;>rfl
theorem oJ (d:D)(fr:Bool)(h:Dv.noTy d=false):Dv.isTupD d fr=.ok (.bl (wY d)) true:=by cases d <;>first|rfl|exact absurd h (by simp[Dv.noTy])
theorem p8 {p p2:Pos}(hm:C.X.mg "isinstance"=none)(hmx:C.X.mg "tuple"=none)(hg:Gl C.X "isinstance")(hgx:Gl C.X "tuple")(ha:SE C a f)(he:autoParam (starEach [a,.Name "tuple" p2] C.X.env=(false,eval a C.X.env)::starEach [.Name "tuple" p2] C.X.env) ZE._auto_1)
  (he2:autoParam (starEach [.Name "tuple" p2] C.X.env=[(false,eval (.Name "tuple" p2) C.X.env)]) ZE._auto_1):SE C (.Call (.Name "isinstance" p) [a,.Name "tuple" p2] [] pos) (Dv.eB1 Dv.isTupD f):=jP _ oJ (λ d fr h=>by cases d <;>first|rfl|exact absurd h (by simp[Dv.noTy])) sT hg hm hgx hmx (by decide +kernel) ha (by decide) (by decide) he he2
end
section
variable {C:Ctx}{a b c e k:Expr}{f g h:EE}{F G:SS}{pos pos':Pos}{E:Ends}
theorem ux (is:List Nat){i:Nat}{x:Str}{apos cpos:Pos}{px:Pos}(he:SE C e f)(hN:autoParam (C.X.N[i]?=some x) ZE._auto_1)(hv:autoParam (Vis C.X.env.scope x) ZG._auto_1)
    (hd:autoParam ((x == ("__debug__":Str))=false) ZC._auto_1) (hcd:autoParam ((x == ("__classdict__":Str))=false) ZC._auto_1) (hst:autoParam (starEach [e] C.X.env=[(false,eval e C.X.env)]) ZE._auto_1)
    (hbase:autoParam (attributeBase (.Name x px) "append" C.X.env (eval (.Name x px) C.X.env)=eval (.Name x px) C.X.env) ZE._auto_1)
    (hfew:autoParam (((backTo cpos (starEach [e] C.X.env)).all (λ x=>!x.1)&&(backToKw cpos (keywordEach [] C.X.env)).all (λ x=>x.1.isSome)
      && decide ([e].length+([]:List Keyword).length+(if ([]:List Keyword).isEmpty then 0 else 1)<30))=true) ZE._auto_1)
    (hline:autoParam ((apos.endLine == cpos.line)=true) ZE._auto_1)
    (hs:autoParam (swapsWith (.Call (.Attribute (.Name x px) "append" apos) [e] [] cpos) none pos.line C.X.env=pure false) ZE._auto_1):
    SSt C (.Expr (.Call (.Attribute (.Name x px) "append" apos) [e] [] cpos) pos) (Dv.sAppG is i f):=by
  obtain⟨t,p,q⟩:=he;refine⟨_,dQ (mR C3 DI DJ fC (cL hN hv hd hcd) (aN p bC hst) hbase hfew hline hst rfl) hs,λ Hv₀ H₀ E σ H st ⟨Hc0,O0,r0⟩ w=>?_⟩;obtain⟨Hc,O,_,r⟩:=r0.give is;unfold Dv.sAppG at w;generalize hst:Dv.give is st=st1 at r w;cases hi:st1[i]? with
  | none=>simp only[hi] at w;exact Zf w
  | some s=>
    simp only[hi] at w;cases s with
    | ow d0=>
     cases d0 with
     | lst ds=>
      obtain⟨a,vs,h1,h2,h5⟩:=r.own hi;refine⟨_,h1,.inl ⟨rfl,vs,SqL.of h2⟩,?_⟩;refine q.open r (λ c hf Hc' H' x=>?_) (λ hf=>?_) λ d fr v Hc' H' hf x r' rp=>?_
      · simp only[hf] at w;exact w σ H' ⟨Hc0,O0,r0.grow x.hh x.nf⟩
      · simp only[hf] at w;exact w
      · simp only[hf] at w
        by_cases z:decide (ds.length<Dv.mx)=true
        · simp only[z,if_true] at w
          rw[decide_eq_true_eq] at z;obtain⟨O',r2⟩:=r'.put hi h1 ((h5.same x.vv).append (.cons rp .nil));refine⟨a,vs,v,rfl,rfl,x.hh _ _ h2,?_,w σ _ ⟨Hc',O',r2⟩⟩;have:=h5.length;have e1:(100000:Nat)<sizeLine:=by rw[CF];decide
          have e2:ds.length<100000:=z;omega
        · simp only[z] at w
          exact Zf w
     | _=>exact Zf w
    | _=>exact Zf w
theorem cB {H H':Hp}{b:Addr}{o:HO}(h:Hnew H H' b=some o):H b=none:=by
 unfold Hnew at h;cases q:H b with
 | none=>rfl
 | some u=>rw[q] at h;cases h
theorem j9 {i:Nat}{x:Str}{apos cpos:Pos}{px:Pos}(he:SE C e f)(hN:autoParam (C.X.N[i]?=some x) ZE._auto_1)(hv:autoParam (Vis C.X.env.scope x) ZG._auto_1)
    (hd:autoParam ((x == ("__debug__":Str))=false) ZC._auto_1) (hcd:autoParam ((x == ("__classdict__":Str))=false) ZC._auto_1) (hst:autoParam (starEach [e] C.X.env=[(false,eval e C.X.env)]) ZE._auto_1)
    (hbase:autoParam (attributeBase (.Name x px) "append" C.X.env (eval (.Name x px) C.X.env)=eval (.Name x px) C.X.env) ZE._auto_1)
    (hfew:autoParam (((backTo cpos (starEach [e] C.X.env)).all (λ x=>!x.1)&&(backToKw cpos (keywordEach [] C.X.env)).all (λ x=>x.1.isSome)
      && decide ([e].length+([]:List Keyword).length+(if ([]:List Keyword).isEmpty then 0 else 1)<30))=true) ZE._auto_1)
    (hline:autoParam ((apos.endLine == cpos.line)=true) ZE._auto_1)
    (hs:autoParam (swapsWith (.Call (.Attribute (.Name x px) "append" apos) [e] [] cpos) none pos.line C.X.env=pure false) ZE._auto_1):
    SSt C (.Expr (.Call (.Attribute (.Name x px) "append" apos) [e] [] cpos) pos) (Dv.sAppF i f):=by
  obtain⟨t,p,q⟩:=he;refine⟨_,dQ (mR C3 DI DJ fC (cL hN hv hd hcd) (aN p bC hst) hbase hfew hline hst rfl) hs,λ Hv₀ H₀ E σ H st ⟨Hc,O,r⟩ w=>?_⟩;unfold Dv.sAppF at w;cases hi:st[i]? with
  | none=>simp only[hi] at w;exact Zf w
  | some s=>
    simp only[hi] at w;cases s with
    | ow d0=>
     cases d0 with
     | lst ds=>
      obtain⟨a,vs,h1,h2,h5⟩:=r.own hi;refine⟨_,h1,.inl ⟨rfl,vs,SqL.of h2⟩,?_⟩;refine q.all r (λ c hf H' r'=>?_) (λ hf=>?_) λ d fr v Hv' H' hf x r' rp n=>?_
      · simp only[hf] at w;exact w σ H' ⟨Hc,O,r'⟩
      · simp only[hf] at w;exact w
      · simp only[hf] at w
        cases fr with
        | false=>exact Zf w
        | true=>
          by_cases z:decide (ds.length<Dv.mx)=true
          · simp only[z,if_true] at w
            rw[decide_eq_true_eq] at z;have hn:∀ b o,Hnew H H' b=some o->Hc b=none:=λ b o h=>r.ch.free (cB h)
            have y:Ext Hc H (bw Hc (Hnew H H')) H':=by
              refine⟨x.hh,cz,λ b o h=>?_,λ b o h nn=>?_,λ b h=>?_,x.nf⟩
              · rcases ba h with h|⟨_,h⟩
                · exact x.hh _ _ (r.ch b o h)
                · exact Hnew.sub b o h
              · rcases ba h with h|⟨_,h⟩
                · rw[nn] at h;cases h
                · exact cB h
              · unfold bw Hnew
                rw[r.ch.free h,h]
            have r1:=r.growC y;obtain⟨O',r2⟩:=r1.put hi h1 ((h5.same cz).append (.cons (Rp.frag ((n rfl).same (fw hn))) .nil));refine⟨a,vs,v,rfl,rfl,x.hh _ _ h2,?_,w σ _ ⟨_,O',r2⟩⟩;have:=h5.length;have e1:(100000:Nat)<sizeLine:=by rw[CF];decide
            have e2:ds.length<100000:=z;omega
          · simp only[z] at w
            exact Zf w
     | _=>exact Zf w
    | _=>exact Zf w
theorem fT {R:Hp}:∀ {es:List D} {vs:List V},Dv.flatL es=true->RpL [] R es vs->∀ x∈vs,∀ b,x≠.ref b
 | [],vs,_,h,x,hx,b=>by unfold RpL at h;subst h;simp at hx
 | d::r,vs,f,h,x,hx,b=>by
  unfold RpL at h;obtain⟨v,ws,rfl,h1,h2⟩:=h;unfold Dv.flatL at f;rw[yL] at f
  rcases List.mem_cons.mp hx with rfl|hx
  ·cases d with
   | non=>unfold Rp at h1;subst h1;intro z;cases z
   | bl _=>unfold Rp at h1;subst h1;intro z;cases z
   | int _=>unfold Rp at h1;subst h1;intro z;cases z
   | str _=>unfold Rp at h1;subst h1;intro z;cases z
   | _=>simp[Dv.scal] at f
  ·exact fT f.2 h2 x hx b
end
structure RoomH (k:Nat)(A:Around):Prop where
 dp:A.depth+3*k+5<recursionLimit
 un:A.units+16*k+200<cLine
theorem RoomH.deeper {k:Nat}{A:Around}(r:RoomH (k+1) A)(env:CH):RoomH k (A.deeper env):=
 ⟨by have:=r.dp;show A.depth+1+3*k+5<_;omega,by have:=r.un;show A.units+3+16*k+200<_;omega⟩
theorem RoomH.depth {k:Nat}{A:Around}(r:RoomH k A):A.depth<recursionLimit:=by have:=r.dp;omega
theorem RoomH.units {k:Nat}{A:Around}(r:RoomH k A):A.units+64<cLine:=by have:=r.un;omega
end Sd
namespace Dv
def itemsOk:List D->Bool
 | []=>true
 | .tup es::r=>flatL es&&itemsOk r
 | .lst es::r=>flatL es&&itemsOk r
 | d::r=>scal d&&itemsOk r
def sSetF (i:Nat)(e:EE):SS:=λ st=>match e (all st) with
 | .ok d f=>match d with
  | .lst ds=>if f&&itemsOk ds then .nx (st.set i (.ow (.lst ds))) else .bad
  | _=>.bad
 | .exc c=>.exc c st
 | .bad=>.bad
end Dv
namespace Sd
open PySem PySem.Spec PyProof.Rows L2
open Dv (D R RL EE EL EI RI Sl Out SS)
inductive NamesAre:List Expr->List Str->Prop
 | nil:NamesAre [] []
 | cons {x:Str} {p:Pos} {es:List Expr} {ts:List Str}:NamesAre es ts->NamesAre (.Name x p::es) (x::ts)
theorem NamesAre.length {es:List Expr}{ts:List Str}(h:NamesAre es ts):es.length=ts.length:=by
 induction h with
 | nil=>rfl
 | cons _ ih=>rw[yE,yE,ih]
structure CompNamesT (X:Cx)(scope:Scope)(ts:List Str)(fs:List Str)(is:List Nat):Prop where
 kind:scope.kind=.function
 cell:∀ y∈scope.names,y.2≠.cell
 names:∀ y∈scope.names,y.2=.local->scope.names.lookup y.1=some .local
 tgt:∀ t∈ts,scope.names.lookup t=some .local
 nd:(ts++fs).Nodup
 free:∀ y∈scope.names,y.2=.free->X.env.kindOf y.1=some .cell\/X.env.kindOf y.1=some .free
 fsf:∀ y∈fs,scope.names.lookup y=some .free
 len:is.length=fs.length
 at':∀ (j:Nat) (y:Str),fs[j]?=some y->∃ i,is[j]?=some i/\X.N[i]?=some y
theorem oS {K:Cd}{Hv:Hp}{ρ:Dv.Env}{σ:St}{is:List Nat}{ds:List D}{vs:List V}(e:EnvR K Hv ρ σ)(r:RpL K Hv ds vs):EnvR K Hv (ds.map some++Dv.pick ρ is) (vs.map some++bY σ is):=λ j x h=>by
 have hl:=r.length;by_cases hj:j<ds.length
 ·rw[zl (by simpa using hj),ze] at h
  cases q:ds[j]? with
  | none=>rw[q] at h;cases h
  | some d=>
   rw[q] at h;cases h;obtain⟨v,h1,h2⟩:=r.get q;exact⟨v,by rw[zl (by simp;omega),ze,h1];rfl,h2⟩
 ·rw[zp (by simp;omega),yC] at h
  obtain⟨i,h1,h2⟩:=p6 h;obtain⟨u,h3,h4⟩:=e i x h2;exact⟨u,by rw[zp (by simp;omega),yC,hl];exact oq h1 h3,h4⟩
theorem lU {X:Cx}{pins:List (Addr×Obj)}{σ:St}{H1:Hp}{s2:Shared}{scope:Scope}{ts:List Str}{fs:List Str}{is:List Nat}{cl:List (Str×Addr)}{fp:List Addr}{L:Addr}(I:Inv X pins σ H1 s2)(S:CompNamesT X scope ts fs is)
  (clsub:∀ x c,cl.lookup x=some c->X.env.cells.lookup x=some c) (clhas:∀ y∈scope.names,y.2=.free->∃ c,cl.lookup y.1=some c) (f2:∀ b∈fp,ir X pins H1 b) (fin:∀ b∈fp,b<s2.heap.objs.size) (hL:s2.heap.objs.size<=L):
  (bH X (ts++fs) scope cl L s2 H1 fp).Ok:=by
 refine⟨I.ok.mod,S.kind,I.ok.glob,I.ok.blt,hL,λ y z c h1 h2=>I.ok.inj y z c (clsub y c h1) (clsub z c h2),λ y hy=>?_,λ y c h=>(by cases h),I.ok.hd,I.ok.frames,.inl rfl,λ b hb=>⟨?_,λ y c h=>?_⟩,I.bs,zr I.ok.bsz I.sz,λ b o e hb=>?_,λ b hb hf=>?_,I.stack,I.stkFree⟩
 ·have:(y,CU)∈scope.names:=by
   rcases hy with hy|hy
   ·exact eC (env:=X.env) S.cell (.inl rfl) hy
   ·exact eC (env:=X.env) S.cell (.inr rfl) hy
  exact clhas _ this rfl
 ·exact yU (zc (fin b hb) hL)
 ·exact(f2 b hb).2.2.2.2.1 y c (clsub y c h)
 ·obtain⟨_,_,_,h4,_⟩:=f2 b hb
  rcases h4 with h4|h4
  ·exact I.ok.noex b o e h4
  ·exact absurd (Cg (I.ok.bs b o e).1) (Nat.not_lt.mpr h4)
 ·obtain⟨_,h2,h3,_⟩:=f2 b hb
  rcases List.mem_cons.mp (I.stkSub b hf) with e|e
  ·exact h2 e
  ·exact h3 e
theorem oZ {X:Cx}{pins:List (Addr×Obj)}{σ:St}{H1:Hp}{s2:Shared}{scope:Scope}{ts:List Str}{fs:List Str}{is:List Nat}{cl:List (Str×Addr)}{fp:List Addr}{L:Addr}{h1:Heap}{t1:Nat}{m:Str->Option Value}(I:Inv X pins σ H1 s2)(S:CompNamesT X scope ts fs is)
  (clsub:∀ x c,cl.lookup x=some c->X.env.cells.lookup x=some c) (clhas:∀ y∈scope.names,y.2=.free->∃ c,cl.lookup y.1=some c) (f2:∀ b∈fp,ir X pins H1 b) (fin:∀ b∈fp,b<s2.heap.objs.size) (hL:s2.heap.objs.size<=L)
  (old:∀ b o,s2.heap.get? b=some o->h1.get? b=some o) (hn:h1.Ns L m):Inv (bH X (ts++fs) scope cl L s2 H1 fp) [] (List.replicate ts.length none++bY σ is) H1 { s2 with heap:=h1,toks:=t1 }:=by
 refine⟨lU I S clsub clhas f2 fin hL,rfl,I.bare,Un.kept old,⟨m,hn,λ i y v e1 e2 e3=>?_⟩,λ y c e=>?_,I.hok.fresh hL,λ y c e=>I.freeC y c (clsub y c e),λ p hp=>absurd (show p∈([]:List (Addr×Obj)) from hp) (by simp),I.hok.kept old,?_⟩
 ·by_cases hi:i<ts.length
  ·have e2':(List.replicate ts.length none++bY σ is)[i]?=some (some v):=e2
   rw[zl (by simpa using hi),Aa,if_pos hi] at e2';cases e2'
  ·have e1':fs[i-ts.length]?=some y:=by
    have e1'':(ts++fs)[i]?=some y:=e1
    rw[zp ⋯] at e1'';exact e1''
   have e2':(List.replicate ts.length none++bY σ is)[i]?=some (some v):=e2
   rw[zp (by simp;omega),zU] at e2';generalize i-ts.length=j at e1' e2';obtain⟨i,h1',h2'⟩:=rQ e2';obtain⟨i',h3,h4⟩:=S.at' j y e1';rw[h1'] at h3;cases h3;have hfr:=S.fsf y (zX e1');have hk:=S.free (y,.free) (mem_lookup hfr) rfl;obtain⟨mm,hm,hl⟩:=I.loc;have vis:Vis X.env.scope y:=by
    rcases hk with k|k
    ·exact .inr (.inl k)
    ·exact .inr (.inr k)
   obtain⟨u,r,l⟩:=hl i y v h4 h2' vis;refine⟨u,r,?_⟩
   rcases l with ⟨k,_⟩|⟨_,c,hc,hcell⟩
   ·have k:X.env.kindOf y=some .local:=k
    rcases hk with k' | k' <;>rw[k] at k' <;>cases k'
   ·obtain⟨c',hc'⟩:=clhas (y,.free) (mem_lookup hfr) rfl
    have:=clsub y c' hc';rw[hc] at this;cases this;obtain⟨oc,hoc,hod⟩:=hcell;refine .inr ⟨?_,c,hc',oc,old c oc hoc,hod⟩;exact fz (env:=X.env) hfr
 ·obtain⟨v,oc,hoc,hod⟩:=I.cell y c (clsub y c e)
  exact⟨v,oc,old c oc hoc,hod⟩
 ·show (List.replicate ts.length none++bY σ is).length=(ts++fs).length
  rw[yY,yY,zU];unfold bY;rw[yC,S.len]
def nG (fsc:Scope)(N:List Str)(scope:Scope)(ts:List Str)(fs:List Str)(is:List Nat):Bool:=
 scope.kind == .function&&scope.names.all (λ y=>!(y.2 == .cell))&&scope.names.all (λ y=>!(y.2 == .local) || scope.names.lookup y.1 == some .local)&&ts.all (λ x=>scope.names.lookup x == some .local)&&decide (ts++fs).Nodup &&
 scope.names.all (λ y=>!(y.2 == .free) || (fsc.names.lookup y.1 == some .cell || fsc.names.lookup y.1 == some .free))&&fs.all (λ y=>scope.names.lookup y == some .free)&&is.length == fs.length&&(fs.zip is).all (λ p=>N[p.2]? == some p.1)
theorem aG {X:Cx}{fsc:Scope}{N:List Str}{scope:Scope}{ts:List Str}{fs:List Str}{is:List Nat}(h1:X.env.scope=fsc)(h2:X.N=N)(h:nG fsc N scope ts fs is=true):CompNamesT X scope ts fs is:=by
 subst h1 h2;unfold nG at h;simp only[yL] at h;obtain⟨⟨⟨⟨⟨⟨⟨⟨a1,a2⟩,a3⟩,a4⟩,a5⟩,a6⟩,a7⟩,a8⟩,a9⟩:=h;refine⟨by simpa using a1,λ y hy=>?_,λ y hy hl=>?_,λ t ht=>(by simpa using List.all_eq_true.mp a4 t ht),by simpa using a5,λ y hy hf=>?_,λ y hy=>?_,by simpa using a8,λ j y hj=>?_⟩
 ·have:=List.all_eq_true.mp a2 y hy
  simpa using this
 ·have:=List.all_eq_true.mp a3 y hy
  simpa[hl] using this
 ·have:=List.all_eq_true.mp a6 y hy
  show X.env.scope.names.lookup y.1=some .cell\/X.env.scope.names.lookup y.1=some .free
  simpa[hf] using this
 ·have:=List.all_eq_true.mp a7 y hy
  simpa using this
 ·have hl:is.length=fs.length:=by simpa using a8
  have hjl:j<fs.length:=(List.getElem?_eq_some_iff.mp hj).1;refine⟨is[j]'⋯,by simp,?_⟩;have hm:(y,is[j]'⋯)∈fs.zip is:=by
   have e1:fs[j]=y:=(List.getElem?_eq_some_iff.mp hj).2;have:(fs.zip is)[j]'(by rw[List.length_zip];omega)=(y,is[j]'⋯):=by rw[List.getElem_zip,e1]
   rw[<- this];exact zt _
  have:=List.all_eq_true.mp a9 _ hm;simpa using this
theorem RelC.growP {K:Cd}{Hv₀ H₀ Hc H H' R:Hp}{O:Nat->Hp}{st:Dv.St}{σ:St}(r0:RelC K Hv₀ H₀ Hc O st σ H)(r:RelC K Hv₀ H₀ Hc O st σ H')(hR:∀ b o,R b=some o->H b=none/\H' b=some o):RelC K Hv₀ H₀ (bw Hc R) O st σ H':=by
 have sm:Same Hc (bw Hc R):=cz;refine⟨r.h0,r.vc.trans sm,λ b o h=>?_,λ b o h n=>?_,r.nf,r.len,λ i d h=>?_,λ i d h=>?_,r.dp,r.jk,λ i b o h=>?_,r.one⟩
 ·rcases ba h with h|⟨_,h⟩
  ·exact r.ch b o h
  ·exact(hR b o h).2
 ·rcases ba h with h|⟨_,h⟩
  ·exact r.new b o h n
  ·exact r0.h0.free (hR b o h).1
 ·obtain⟨v,h1,h2⟩:=r.sh i d h
  exact⟨v,h1,h2.same sm⟩
 ·obtain⟨a,o,h1,h2,h3⟩:=r.ow i d h
  exact⟨a,o,h1,h2,h3.same sm⟩
 ·obtain⟨h1,h2,h3⟩:=r.oh i b o h
  refine⟨h1,?_,h3⟩;cases q:bw Hc R b with
  | none=>rfl
  | some u=>
   rcases ba q with q|⟨_,q⟩
   ·rw[h2] at q;cases q
   ·have:=(hR b u q).1
    rw[(r0.oh i b o h).1] at this;cases this
theorem bA {N N':Hp}{a:Addr}{us:List V}(ha:N a=some (.lst us))(hN:∀ b o,b≠a->N b=some o->N' b=some o):∀ {ds:List D} {vs:List V},(∀ v∈vs,v∈us)->Dv.itemsOk ds=true->RpL [] N ds vs->RpL [] N' ds vs
 | [],vs,_,_,h=>by unfold RpL at h ⊢;exact h
 | d::r,vs,hv,f,h=>by
  unfold RpL at h;obtain⟨v,ws,rfl,h1,h2⟩:=h;have hw:∀ x∈ws,x∈us:=λ x hx=>hv x (yF _ hx)
  cases d with
  | tup es=>
   simp only[Dv.itemsOk,yL] at f;refine .cons ?_ (bA ha hN hw f.2 h2)
   unfold Rp at h1 ⊢;obtain⟨b,us',rfl,h3,h4⟩:=h1;refine⟨b,us',rfl,?_,h4.flat f.1⟩
   rcases h3 with h3|⟨u,h3⟩
   ·exact .inl (hN b _ (λ z=>by rw[z,ha] at h3;cases h3) h3)
   ·exact .inr ⟨u,hN b _ (λ z=>by rw[z,ha] at h3;cases h3) h3⟩
  | non=>simp only[Dv.itemsOk,yL] at f;exact .cons (h1.scal rfl) (bA ha hN hw f.2 h2)
  | bl _=>simp only[Dv.itemsOk,yL] at f;exact .cons (h1.scal rfl) (bA ha hN hw f.2 h2)
  | int _=>simp only[Dv.itemsOk,yL] at f;exact .cons (h1.scal rfl) (bA ha hN hw f.2 h2)
  | str _=>simp only[Dv.itemsOk,yL] at f;exact .cons (h1.scal rfl) (bA ha hN hw f.2 h2)
  | lst es=>
   simp only[Dv.itemsOk,yL] at f;refine .cons ?_ (bA ha hN hw f.2 h2)
   unfold Rp at h1 ⊢;obtain⟨b,us',rfl,h3,h4⟩:=h1;have h5:Rd N b (.lst us'):=by
    rcases h3 with h3|⟨its,n,e,_⟩
    ·exact h3
    ·simp at e
   have hb:b≠a:=λ z=>by
    subst z
    rcases h5 with h5|⟨u,h5⟩
    ·rw[ha] at h5
     cases h5;exact fT f.1 h4 _ (hv _ (yG ..)) b rfl
    ·rw[ha] at h5;cases h5
   refine⟨b,us',rfl,.inl ?_,h4.flat f.1⟩
   rcases h5 with h5|⟨u,h5⟩
   ·exact .inl (hN b _ hb h5)
   ·exact .inr ⟨u,hN b _ hb h5⟩
  | exn _=>simp[Dv.itemsOk,Dv.scal] at f
  | raw _=>simp[Dv.itemsOk,Dv.scal] at f
  | ins _ _=>simp[Dv.itemsOk,Dv.scal] at f
  | tab _=>simp[Dv.itemsOk,Dv.scal] at f
  | dct _ _=>simp[Dv.itemsOk,Dv.scal] at f
section
variable {C:Ctx}{a b c e k:Expr}{f g h:EE}{F G:SS}{pos pos':Pos}{E:Ends}
theorem sQ {i:Nat}{x:Str}(he:SE C e f)(hN:C.X.N.Nodup)(hi:C.X.N[i]?=some x)(hx:Loc C.X.env.scope x)(hs:autoParam (swapsWith e (some (.Name x pos')) pos.line C.X.env=pure false) ZE._auto_1)
  (hf:autoParam (C.X.fn x=true\/C.X.env.scope.names.lookup x=some .local) ZB._auto_1):SSt C (.Assign [.Name x pos'] e pos) (Dv.sSetF i f):=by
 obtain⟨t,p,q⟩:=he;refine⟨_,gW hN hi hx p hs hf,λ Hv₀ H₀ E σ H st ⟨Hc,O,r⟩ w=>?_⟩;unfold Dv.sSetF at w;refine q.all r (λ c hf H' r'=>?_) (λ hf=>?_) λ d fr v Hv' H' hf x r' rp n=>?_
 ·rw[hf] at w;exact w σ H' ⟨Hc,O,r'⟩
 ·rw[hf] at w;exact w
 ·rw[hf] at w
  cases d with
  | lst ds=>
   by_cases z:(fr&&Dv.itemsOk ds)=true
   ·simp only[z,if_true] at w
    rw[yL] at z;obtain⟨a,vs,rfl,ha',han,rl⟩:=nt x (n z.1);have ha:Hnew H H' a=some (.lst vs):=by unfold Hnew;rw[han];exact ha'
    let R:Hp:=λ b=>if b=a then none else Hnew H H' b
    have hR:∀ b o,R b=some o->H b=none/\H' b=some o:=λ b o h=>by
     have h':(if b=a then none else Hnew H H' b)=some o:=h;by_cases hb:b=a
     ·rw[if_pos hb] at h';cases h'
     ·rw[if_neg hb] at h';exact⟨cB h',Hnew.sub b o h'⟩
    have hRa:R a=none:=if_pos rfl;have hRn:∀ b o,b≠a->Hnew H H' b=some o->R b=some o:=λ b o hb h=>by
     show (if b=a then none else Hnew H H' b)=some o
     rw[if_neg hb];exact h
    have r2:=RelC.growP r r' hR;have rl2:=bA ha hRn (λ v hv=>hv) z.2 rl;have hd:∀ b o,R b=some o->Hc b=none:=λ b o h=>r.ch.free (hR b o h).1
    have rl3:RpL C.X.K (bw Hc R) ds vs:=RpL.frag (rl2.same (fw hd));refine w _ H' ⟨_,_,r2.setOw ha' ?_ (r.h0.free han) (λ j _=>?_) ⟨vs,rfl,rl3⟩⟩
    ·unfold bw;rw[r.ch.free han];exact hRa
    ·cases q:O j a with
     | none=>rfl
     | some u=>have:=(r.oh j a u q).1;rw[han] at this;cases this
   ·simp only[z] at w;exact Zf w
  | _=>exact Zf w
theorem rW {l:List Int}{i:Nat}(h:i<l.length):l.getD i 0∈l:=by
 rw[yI,yH h];exact zt h
theorem pU {l:List Int}{a:Int}(h:a∈l):∃ j,j<l.length/\l.getD j 0=a:=by
 obtain⟨j,hj,rfl⟩:=zj h;exact⟨j,hj,by rw[yI,yH hj];rfl⟩
theorem oK {X:Cx}(hc:X.calm=true):cM X (.builtin "max") (λ xs H Q=>∃ p,∃ ns:List Int,xs=[.ref p]/\SqX X.K H p (ns.map V.int)/\0<ns.length/\∀ M,M∈ns->(∀ a∈ns,a<=M)->Q (.int M) H):=by
 intro pins s σ H xs us Q I r h;obtain⟨p,ns,rfl,hq,hne,q⟩:=h;obtain⟨u,rfl,rx⟩:=vals1 r;cases rx;obtain⟨its,n,rv,e,z⟩:=Inv.listX I hq;have hi:=intsAre_of rv;obtain⟨xs,ex⟩:=hi.allInts.items;have hns:ns=xs.toList.map (·.1):=by rw[<- hi.numsOf,<- nums_intItems,<- ex]
 have hsz:0<xs.size:=by
  have h3:=hne;rw[hns,yC,Cj] at h3;exact h3
 have hl':s.heap.IsList p (intItems xs):=ex▸⟨_,e,rfl,n,rfl⟩;refine max_intList (I.ok.hd hc) hl' hsz λ v h' tk hv hk=>?_
 obtain⟨t,rfl⟩:=Fs hv;obtain⟨h1,h2⟩:=argBest_gt (numAt xs) (xs.size-1);refine⟨.int _,H,I.kept hk,⟨t,rfl⟩,q _ ?_ λ a ha=>?_⟩
 ·rw[hns,Fz]
  refine rW ?_
  rw[yC,Cj];omega
 ·rw[hns] at ha
  obtain⟨j,hj,rfl⟩:=pU ha;rw[yC,Cj] at hj;rw[<- Fz];exact h2 j ⋯
theorem jU:∀ (r:List Int) (a:Int),Dv.minI a r∈a::r/\∀ b∈a::r,Dv.minI a r<=b
 | [],a=>⟨yG ..,λ b hb=>by simp at hb;subst hb;exact zZ _⟩
 | x::r,a=>by
  unfold Dv.minI;by_cases hx:x<a
  ·rw[if_pos hx]
   obtain⟨h1,h2⟩:=jU r x;refine⟨yF _ h1,λ b hb=>?_⟩;have h0:=h2 _ (yG ..)
   rcases List.mem_cons.mp hb with rfl|hb
   ·omega
   ·exact h2 b hb
  ·rw[if_neg hx]
   obtain⟨h1,h2⟩:=jU r a;refine⟨?_,λ b hb=>?_⟩
   ·rcases List.mem_cons.mp h1 with h|h
    ·rw[h];exact yG ..
    ·exact yF _ (yF _ h)
   ·have h0:=h2 _ (yG ..)
    rcases List.mem_cons.mp hb with rfl|hb
    ·exact h0
    ·rcases List.mem_cons.mp hb with rfl|hb
     ·omega
     ·exact h2 b (yF _ hb)
end
end Sd
namespace Dv
def iRev (a:EE):EI:=λ ρ=>match a ρ with
 | .ok (.lst xs) _=>.ok xs.reverse true
 | .exc c=>.exc c
 | _=>.bad
def inG (neg:Bool):D->D->R
 | a,.lst ds=>if decide (depthL ds<=8)&&decide (depthD a<=8)&&decide (ds.length<=mx) then match eqsD ds a with
   | some bs=>.ok (.bl (if neg then !(bs.any id) else bs.any id)) true
   | none=>.bad
  else .bad
 | _,_=>.bad
def sUnpackL (is:List Nat)(xs:List Nat)(e:EE):SS:=λ st=>match e (open_ (give is st)) with
 | .ok (.lst ds) _=>if ds.length=xs.length then .nx (setAll xs ds (give is st)) else .bad
 | .exc c=>.exc c st
 | _=>.bad
end Dv
namespace Sd
open PySem PySem.Spec PyProof.Rows L2
open Dv (D R RL EE EL EI RI Sl Out SS)
section
variable {C:Ctx}{a b c e:Expr}{f g h:EE}{F:SS}{pos pos':Pos}
theorem mH:∀ {ds:List D} {d:D} {bs:List Bool},Dv.eqsD ds d=some bs->(pdL ds).any (λ y=>Dx y (pd d))=bs.any id
 | [],d,bs,h=>by simp[Dv.eqsD] at h;subst h;simp[pdL]
 | x::r,d,bs,h=>by
  unfold Dv.eqsD at h;cases h1:Dv.eqD x d with
  | none=>rw[h1] at h;cases h
  | some p=>
   cases h2:Dv.eqsD r d with
   | none=>rw[h1,h2] at h;cases h
   | some q=>
    rw[h1,h2] at h;cases h;simp only[pdL,AM,jQ x d p h1,mH h2,id]
def xH (K:Cd)(neg:Bool):R2:=λ x y H Q=>∃ d ds bs,Rp K H d x/\Rp K H (.lst ds) y/\Dv.depthD d<=8/\Dv.depthL ds<=8/\Dv.eqsD ds d=some bs/\Q (.bl (if neg then !(bs.any id) else bs.any id)) H
theorem vI (hu:C.X.A.units+64<cLine):OpR C.X (compareOp .In) (xH C.X.K false):=by
 intro pins s σ H x y v u Q I rx ry h;obtain⟨d,ds,bs,h1,h2,z1,z2,e,q⟩:=h;obtain⟨as,ra⟩:=cv I d x v h1 rx ⋯;obtain⟨bs',rb⟩:=cv I (.lst ds) y u h2 ry (by unfold Dv.depthD;omega);unfold pd at rb;refine SeqAt.in_list_reads rb ra (gh ds) (fI d) ?_ ⟨.bl _,H,I,?_,q⟩
 ·have:=dS ds
  have:=A7 (D5 (pdL ds)) (pd d).depth;omega
 ·rw[mH e];rfl
theorem rh {neg:Bool}{x y:V}{d d':D}{H Hv H1 Hv1:Hp}{W:XK}{Q:VK}(e:Ext Hv H Hv1 H1)(rx:Rp C.X.K Hv1 d x)(ry:Rp C.X.K Hv1 d' y)(q:Ok C.X.K Hv H W C.cls (Dv.inG neg d d') Q):xH C.X.K neg x y H1 Q:=by
 cases d' with
 | lst ds=>
  simp only[Dv.inG] at q;by_cases hz:(decide (Dv.depthL ds<=8)&&decide (Dv.depthD d<=8)&&decide (ds.length<=Dv.mx))=true
  ·simp only[hz,if_true] at q
   simp only[yL,decide_eq_true_eq] at hz;cases he:Dv.eqsD ds d with
   | none=>rw[he] at q;exact Zf q
   | some bs=>
    rw[he] at q;exact⟨d,ds,bs,rx.same e.vh,ry.same e.vh,hz.1.2,hz.1.1,he,Ok.at (d:=.bl _) (fr:=true) q e eA rfl⟩
  ·simp only[hz] at q
   exact Zf q
 | _=>exact Zf q
theorem wI:OpS C (compareOp .In) (Dv.inG false):=⟨_,vI C.un,λ x y d d' H Hv H1 Hv1 W Q e rx ry q=>rh e rx ry q⟩
theorem l9 (ha:SE C a f)(hb:SE C b g)(hm:autoParam (behindInMarks .In b=false) ZJ._auto_1):SC C (.Compare a [.In] [b] pos) (Dv.eB2 (Dv.inG false) f g):=eG wI ha hb hm
end
section
variable {prog:Program}{w:World}{A:Around}{E:Value->Shared->Prop}
theorem iT {it t:Addr}{items:Array Value}(hne:t≠it):∀ (n i:Nat) (s:Shared) (Q:List Value->Shared->Prop),s.heap.IsListIter it t i->s.heap.IsList t items->i+n<=items.size ->
  (∀ h',h'.IsListIter it t (i+n)->Dq it s.heap h'->Q ((items.toList.drop i).take n) { s with heap:=h' })->wpAny (model prog w) A (draw (.ref it) n) Q E s
 | 0,i,s,Q,hit,_,_,hQ=>by
  show wpAny _ _ (pure []) Q E s
  exact Ce (by simpa using hQ s.heap hit (Heap.SameBut.refl ..))
 | n+1,i,s,Q,hit,ht,hle,hQ=>by
  have hlt:i<items.size:=⋯
  show wpAny _ _ (pyNext (.ref it) >>= _) Q E s
  refine Cc (DP hit ht (x:=items[i]) (by simp[hlt]) λ h₁ hit₁ hs₁=>?_);refine Cc (Cz (iT hne n (i+1) _ _ hit₁ (ht.at λ o e=>(hs₁.2 t hne).trans e) ⋯ λ h₂ hit₂ hs₂=>Ce ?_));have hd:items.toList.drop i=items[i]::items.toList.drop (i+1):=by simp[zW,hlt]
  have:=hQ h₂ (by rw[show i+(n+1)=i+1+n by omega];exact hit₂) (hs₁.trans hs₂);rw[hd,List.take_succ_cons] at this;exact this
theorem fM {s:Shared}{t:Addr}{items:Array Value}{Q:List Value->Shared->Prop}(hh:A.handled=none)(ht:s.heap.IsList t items)
  (hQ:∀ h',Ft s.heap.objs.size s.heap h'->Q items.toList { s with heap:=h' }):wpAny (model prog w) A (unpackItems (.ref t) items.size none) Q E s:=by
 have hlt:t≠s.heap.objs.size:=by obtain⟨o,ho,_⟩:=ht;exact yU (Cg ho)
 unfold unpackItems;refine Cc ?_
 ·unfold notIterableAtAll
  refine Cc (D6 ht.typeIs slot_list_iter.lookup ?_);refine Ce ?_
  simp only[yK,if_false];refine Cc (Cz (DN ht ?_));refine Cc (Cz (iT hlt items.size 0 _ _ ⟨_,Ci _ rfl,rfl,rfl⟩ (ht.at λ o e=>Cf _ e) ⋯ λ h₁ hit₁ hs₁=>?_));have hall:List.take items.size (List.drop 0 items.toList)=items.toList:=by
   rw[Bl];exact zD (by simp)
  rw[hall];rw[if_neg (by simp)];have ht₁:h₁.IsList t items:=ht.at λ o e=>(hs₁.2 t hlt).trans (Cf _ e)
  refine Cc (Cz (DV hh hit₁ ht₁ (by simp) λ h₂ he₂=>?_));simp only[Option.isSome_none,yK,if_false];refine Ce (hQ h₂ λ b o hb e=>he₂ b o hb (hs₁.extBut b o hb (Cf _ e)))
theorem fg {s:Shared}{env:CH}{elts:List Expr}{x1}{pos:Pos}{t:Addr}{items:Array Value}{Q:Unit->Shared->Prop}(hh:A.handled=none)(ht:s.heap.IsList t items)
  (hn:(assignEach elts env).length=items.size) (hstar:(assignEach elts env).findIdx? (·.1)=none)
  (h:∀ h',Ft s.heap.objs.size s.heap h'->wpAny (model prog w) A (assignInOrder ((assignEach elts env).map (·.2)) items.toList) Q E { s with heap:=h' }):
  wpAny (model prog w) A (assign (.Tuple elts x1 pos) env (.ref t)) Q E s:=by
 rw[assign_Tuple];refine Cc (DQ ?_);unfold unpack;rw[hn,hstar];exact Cc (Cz (fM hh ht h))
end
def yw (K:Cd)(n:Nat)(t:TGs):TG:=λ v σ H Q=>∃ a xs,v=.ref a/\SqL K H a xs/\xs.length=n/\t xs σ H Q
theorem vT {X:Cx}{es:List Expr}{k:Nat}{t:TGs}{n:Nat}{pos:Pos}(hc:X.calm=true)(h:PGs X es t)
  (hn:autoParam ((assignEach es X.env).length=n) ZE._auto_1) (hst:autoParam ((assignEach es X.env).findIdx? (·.1)=none) ZE._auto_1):PG X (.Tuple es k pos) (yw X.K n t):=by
 intro pins s σ H v u Q I r hw;obtain⟨a,xs,e1,hq,hl,hw⟩:=hw;subst e1;cases r;obtain⟨its,rv,ht,hz⟩:=I.list hq;refine fg (I.ok.hd hc) ht.isList (by simp[hn,<- hl,rv.length]) hst λ h' hx=>?_
 have I1:Inv X pins σ H { s with heap:=h' }:=I.kept (t':=s.toks) λ b o e=>hx b o (yU (Cg e)) e
 exact h pins _ σ H xs _ Q I1 (by simpa using rv) hw
section
variable {C:Ctx}{e:Expr}{f:EE}{pos:Pos}
theorem mD (is:List Nat){ts:List Expr}{xs:List Nat}{kt:Nat}{tpos:Pos}(he:SE C e f)(hg:SGs C ts xs)(hl:ts.length=xs.length)(hn:autoParam ((assignEach ts C.X.env).length=ts.length) ZE._auto_1)(hst:autoParam ((assignEach ts C.X.env).findIdx? (·.1)=none) ZE._auto_1)
  (hs:autoParam (swapsWithSole [.Tuple ts kt tpos] e pos.line C.X.env=pure false) ZE._auto_1) (hw:autoParam (swappedStores [.Tuple ts kt tpos] e C.X.env=pure none) ZE._auto_1) (h1:autoParam ((assignEach [.Tuple ts kt tpos] C.X.env).map (·.2)=[assign (.Tuple ts kt tpos) C.X.env]) ZE._auto_1) (hcl:autoParam (C.X.calm=true) ZE._auto_1):
  SSt C (.Assign [.Tuple ts kt tpos] e pos) (Dv.sUnpackL is xs f):=by
 obtain⟨t,p,q⟩:=he;obtain⟨g,pg,qg⟩:=hg;refine⟨_,rC p (vT hcl pg hn hst) hs hw h1,λ Hv₀ H₀ E σ H st ⟨Hc0,O0,r0⟩ w=>?_⟩;obtain⟨Hc,O,_,r⟩:=r0.give is;unfold Dv.sUnpackL at w;refine q.open r (λ c hf Hc' H' x=>?_) (λ hf=>?_) λ d fr v Hc' H' hf x r' rp=>?_
 ·simp only[hf] at w;exact w σ H' ⟨Hc0,O0,r0.grow x.hh x.nf⟩
 ·simp only[hf] at w;exact w
 ·simp only[hf] at w
  cases d with
  | lst ds=>
   by_cases hz:ds.length=xs.length
   ·simp only[hz,if_true] at w
    unfold Rp at rp;obtain⟨a,vs,rfl,h2,h3⟩:=rp;exact⟨a,vs,rfl,(h2.same x.vh).seq,by rw[h3.length,hz,hl],qg Hv₀ H₀ Hc' O H' σ _ ds vs _ r' h3 hz λ σ' r2=>w σ' H' ⟨Hc',O,r2⟩⟩
   ·simp only[hz,if_false] at w;exact Zf w
  | _=>exact Zf w
end
end Sd
namespace Dv
structure Wy where
 st:D
 pl:List Int
def Wy.d (w:Wy):D:=.tup [w.st,.lst (w.pl.map .int)]
def wyL (ws:List Wy):D:=.lst (ws.map Wy.d)
def wysD (ws:List (List Wy)):D:=.lst (ws.map wyL)
inductive An where
 | non
 | twi (p:Int)
 | row (k:Nat)
def ym:List Nat:=[116,119,105,99,101]
def yj:List Nat:=[114,111,119]
def An.d:An->D
 | .non=>.non
 | .twi p=>.tup [.str ym,.int p]
 | .row k=>.tup [.str yj,.int k]
structure Cs where
 laid:List Wy
 ix:Nat
 at_:Nat
structure Ws where
 wys:List (List Wy)
 wait:List Cs
 rows:List (Int×Nat)
 sto:List (List An)
 gone:Nat
inductive WR where
 | many
 | bad
 | full (w:Ws) (d:D) (fr:Bool)
 | row (w:Ws)
structure Wk where
 fp:List D->R
 fs:EE
 fl:EE
 ft:EE
inductive PR where
 | ok (wys:List (List Wy)) (laid:List Wy)
 | exc (c:String)
 | bad
end Dv
namespace Sd
open PySem PySem.Spec PyProof.Rows L2
open Dv (D R RL EE EL EI RI Sl Out SS Wy An Cs Ws WR Wk)
def wf (wa wl rl:Addr)(g:Int):List (Str×V):=[("ways",.ref wa),("waiting",.ref wl),("rows",.ref rl),("gone",.int g)]
def cf (lb b:Addr)(t:Int):List (Str×V):=[("laid",.ref lb),("answers",.ref b),("at",.int t)]
def yr:Str:="twice"
def xX:Str:="row"
def ya (Hs H₀:Hp):An->V->Prop
 | .non,v=>v=.non
 | .twi p,v=>∃ q,v=.ref q/\Hs q=some (.tup [.str yr,.int p])/\H₀ q=none
 | .row k,v=>∃ q,v=.ref q/\Hs q=some (.tup [.str xX,.int k])/\H₀ q=none
def xJ (Hs H₀:Hp)(an:List Addr)(p:Int×Nat)(v:V):Prop:=∃ r b,v=.ref r/\Hs r=some (.tup [.int p.1,.ref b])/\H₀ r=none/\an[p.2]?=some b
def xZ (K:Cd)(CC:Addr)(Hs:Hp)(an:List Addr)(c:Cs)(v:V):Prop:=∃ x dc lb b,v=.ref x/\Hs x=some (.ins CC dc (cf lb b c.at_))/\Rp K Hs (Dv.wyL c.laid) (.ref lb)/\an[c.ix]?=some b
def yb (Hs H₀ H:Hp)(l:List An)(b:Addr):Prop:=∃ vs,H b=some (.lst vs)/\Paired (ya Hs H₀) l vs
structure WkAt (K:Cd)(CW CC:Addr)(Hs H H₀:Hp)(a wl rl:Addr)(an:List Addr)(w:Ws):Prop where
 sv:Same Hs H
 oh:Same H₀ H
 nd:(a::wl::rl::an).Nodup
 no:∀ b∈a::wl::rl::an,Hs b=none/\H₀ b=none
 slf:∃ dx wa,H a=some (.ins CW dx (wf wa wl rl w.gone))/\Rp K Hs (Dv.wysD w.wys) (.ref wa)
 wai:∃ vs,H wl=some (.lst vs)/\Paired (xZ K CC Hs an) w.wait vs
 row:∃ vs,H rl=some (.lst vs)/\Paired (xJ Hs H₀ an) w.rows vs
 sto:Paired (yb Hs H₀ H) w.sto an
theorem Paired.memR {α β:Type}{F:α->β->Prop}{l:List α}{r:List β}(h:Paired F l r):∀ b∈r,∃ a∈l,F a b:=by
 induction h with
 | nil=>intro b hb;cases hb
 | cons x _ ih=>
  intro b hb
  rcases List.mem_cons.mp hb with rfl|hb
  ·exact⟨_,yG,x⟩
  ·obtain⟨a,h1,h2⟩:=ih b hb
   exact⟨a,yF _ h1,h2⟩
section
variable {K:Cd}{CW CC:Addr}{Hs Hs' H H' H₀:Hp}{a wl rl:Addr}{an:List Addr}{w:Ws}
theorem Paired.mapM {α β:Type}{F G:α->β->Prop}{l:List α}{r:List β}(h:Paired F l r)(f:∀ a b,b∈r->F a b->G a b):Paired G l r:=by
 induction h with
 | nil=>exact .nil
 | cons x _ ih=>exact .cons (f _ _ yG x) (ih λ a b hb q=>f a b (yF _ hb) q)
theorem WkAt.has (x:WkAt K CW CC Hs H H₀ a wl rl an w):∀ b∈a::wl::rl::an,∃ o,H b=some o:=by
 intro b hb
 rcases List.mem_cons.mp hb with rfl|hb
 ·obtain⟨_,_,h,_⟩:=x.slf;exact⟨_,h⟩
 rcases List.mem_cons.mp hb with rfl|hb
 ·obtain⟨_,h,_⟩:=x.wai;exact⟨_,h⟩
 rcases List.mem_cons.mp hb with rfl|hb
 ·obtain⟨_,h,_⟩:=x.row;exact⟨_,h⟩
 ·obtain⟨_,_,_,h,_⟩:=Paired.memR x.sto b hb;exact⟨_,h⟩
end
theorem Paired.gets {α β:Type}{F:α->β->Prop}{l:List α}{r:List β}(h:Paired F l r):∀ {i:Nat} {x:α},l[i]?=some x->∃ y,r[i]?=some y/\F x y:=by
 induction h with
 | nil=>intro i x e;simp at e
 | cons q _ ih=>
  intro i x e;cases i with
  | zero=>simp at e;subst e;exact⟨_,rfl,q⟩
  | succ i=>obtain⟨y,h1,h2⟩:=ih (by simpa using e);exact⟨y,by simpa using h1,h2⟩
theorem Paired.dropLast {α β:Type}{F:α->β->Prop}{l:List α}{r:List β}(h:Paired F l r):Paired F l.dropLast r.dropLast:=by
 induction h with
 | nil=>exact .nil
 | cons q t ih=>
  cases t with
  | nil=>exact .nil
  | cons q' t'=>exact .cons q ih
theorem Paired.set {α β:Type}{F:α->β->Prop}{l:List α}{r:List β}{x:α}{y:β}(q:F x y)(h:Paired F l r):∀ i:Nat,Paired F (l.set i x) (r.set i y):=by
 induction h with
 | nil=>intro i;exact .nil
 | cons z t ih=>
  intro i;cases i with
  | zero=>exact .cons q t
  | succ i=>exact .cons z (ih i)
section
variable {K:Cd}{CW CC:Addr}{Hs Hs' H H' H₀:Hp}{a wl rl ab fb:Addr}{an:List Addr}{w:Ws}{as:List An}{fnd:List (List Wy×Nat)}
theorem WkAt.ne (x:WkAt K CW CC Hs H H₀ a wl rl an w):a≠wl/\a≠rl/\wl≠rl/\a∉an/\wl∉an/\rl∉an/\an.Nodup:=by
 have h:=x.nd;simp only[zE,zR,not_or] at h;exact⟨h.1.1,h.1.2.1,h.2.1.1,h.1.2.2,h.2.1.2,h.2.2.1,h.2.2.2⟩
end
open Dv (D R RL EE EL EI RI Sl Out SS Wy An Cs Ws WR Wk PR)
theorem nH:∀ {ds:List D} {ns:List Int},Dv.intsOf ds=some ns->ds=ns.map .int
 | [],ns,h=>by simp[Dv.intsOf] at h;subst h;rfl
 | d::r,ns,h=>by
  cases d with
  | int i=>
   simp only[Dv.intsOf,Ad] at h;obtain⟨ms,h1,rfl⟩:=h;rw[nH h1];rfl
  | _=>simp[Dv.intsOf] at h
open PySem PySem.W PyProof.Rows
def ev {α:Type}(c:Nat->Nat->Bool):KasT α->α
 | .ret a=>a
 | .ask i j k=>ev c (k (c i j))
theorem dP {α β:Type}(c:Nat->Nat->Bool)(f:α->KasT β):∀ t:KasT α,ev c (t.bind f)=ev c (f (ev c t))
 | .ret _=>rfl
 | .ask i j k=>dP c f (k (c i j))
def inn {α:Type}(n:Nat)(c:Nat->Nat->Bool):KasT α->Prop
 | .ret _=>True
 | .ask i j k=>i<n/\j<n/\inn n c (k (c i j))
theorem cP {α β:Type}{n:Nat}{c:Nat->Nat->Bool}{f:α->KasT β}:∀ {t:KasT α},inn n c t->inn n c (f (ev c t))->inn n c (t.bind f)
 | .ret _,_,h=>h
 | .ask i j k,⟨h1,h2,h3⟩,h=>⟨h1,h2,cP h3 h⟩
theorem uN {α:Type}{n:Nat}{c:Nat->Nat->Bool}{cmp:Nat->Nat->(Bool->Shared->Prop)->Shared->Prop}{s:Shared}(hc:∀ i j C,i<n->j<n->C (c i j) s->cmp i j C s):∀ {t:KasT α} {Q:α->Shared->Prop},inn n c t->Q (ev c t) s->t.kasWp cmp Q s
 | .ret _,_,_,h=>h
 | .ask i j k,Q,⟨h1,h2,h3⟩,h=>hc i j _ h1 h2 (uN hc h3 h)
section
variable {key:Nat->Int}{n:Nat}
abbrev cK (key:Nat->Int):Nat->Nat->Bool:=λ i j=>decide (key i<key j)
def KA (key:Nat->Int)(p:Array Nat)(k:Nat):Int:=key (p.getD k 0)
def Pm (n:Nat)(p:Array Nat):Prop:=p.size=n/\p.toList.Perm (List.range n)
theorem Pm.lt {p:Array Nat}(h:Pm n p){k:Nat}(hk:k<n):p.getD k 0<n:=by
 have hs:k<p.size:=by rw[h.1];exact hk
 have e:p.getD k 0=p[k]:=by simp[Cy,hs]
 rw[e];have:p[k]∈p.toList:=by simp
 exact List.mem_range.mp (h.2.mem_iff.mp this)
theorem Pm.of {p q:Array Nat}(h:Pm n p)(e:q.Perm p):Pm n q:=⟨e.size_eq.trans h.1,(Array.perm_iff_toList_perm.mp e).trans h.2⟩
theorem kD {p q:Array Nat}{i j:Nat}(h:p[i]?=q[j]?):KA key p i=KA key q j:=by
 unfold KA;congr 1;have g:∀ (r:Array Nat) (k:Nat),r.getD k 0=(r[k]?).getD 0:=λ r k=>by
  by_cases hk:k<r.size <;>simp[Cy,hk]
 rw[g,g,h]
theorem me {p:Array Nat}{i j:Nat}(hj:j<=p.size)(k:Nat):KA key (kas_rev p i j) k=if i<=k/\k<j then KA key p (i+j-1-k) else KA key p k:=by
 have e:=getElem?_mirror_all (i:=i) hj k;unfold kas_rev
 split
 ·rename_i h;rw[if_pos h] at e;exact kD e
 ·rename_i h;rw[if_neg h] at e;exact kD e
theorem Pm.rev {p:Array Nat}(h:Pm n p)(i j:Nat):Pm n (kas_rev p i j):=h.of (mirror_perm _ _ _ _)
def Up (key:Nat->Int)(p:Array Nat)(m:Nat):Prop:=∀ i j,i<=j->j<m->KA key p i<=KA key p j
def Dn (key:Nat->Int)(p:Array Nat)(m:Nat):Prop:=∀ i j,i<=j->j<m->KA key p j<=KA key p i
theorem Up.step {p:Array Nat}{m:Nat}(h:Up key p m)(h1:1<=m)(q:KA key p (m-1)<=KA key p m):Up key p (m+1):=λ i j hij hj=>by
 by_cases e:j=m
 ·subst e
  by_cases e2:i=j
  ·subst e2;exact zZ _
  ·exact BC (h i (j-1) ⋯ ⋯) q
 ·exact h i j hij ⋯
theorem Dn.step {p:Array Nat}{m:Nat}(h:Dn key p m)(h1:1<=m)(q:KA key p m<=KA key p (m-1)):Dn key p (m+1):=λ i j hij hj=>by
 by_cases e:j=m
 ·subst e
  by_cases e2:i=j
  ·subst e2;exact zZ _
  ·exact BC q (h i (j-1) ⋯ ⋯)
 ·exact h i j hij ⋯
theorem lL {p:Array Nat}(hp:Pm n p):∀ (f m:Nat),1<=m->m+f<=n->Up key p m->inn n (cK key) (kas_asc p f m)/\m<=ev (cK key) (kas_asc p f m)/\ev (cK key) (kas_asc p f m)<=m+f/\Up key p (ev (cK key) (kas_asc p f m))/\(ev (cK key) (kas_asc p f m)<m+f->KA key p (ev (cK key) (kas_asc p f m))<KA key p (ev (cK key) (kas_asc p f m)-1))
 | 0,m,_,_,hu=>⟨trivial,yW _,yW _,hu,λ h=>absurd h (by simp[kas_asc,ev])⟩
 | f+1,m,h1,hm,hu=>by
  have ha:=hp.lt (k:=m) ⋯;have hb:=hp.lt (k:=m-1) ⋯;unfold kas_asc;simp only[ev,inn];by_cases hc:KA key p m<KA key p (m-1)
  ·have e:cK key (p.getD m 0) (p.getD (m-1) 0)=true:=decide_eq_true hc
   rw[e];simp only[if_true,ev,inn];exact⟨⟨ha,hb,trivial⟩,yW _,⋯,hu,λ _=>hc⟩
  ·have e:cK key (p.getD m 0) (p.getD (m-1) 0)=false:=decide_eq_false hc
   rw[e];simp only[yK,if_false];obtain⟨a1,a2,a3,a4,a5⟩:=lL hp f (m+1) ⋯ ⋯ (hu.step h1 ⋯);exact⟨⟨ha,hb,a1⟩,⋯,⋯,a4,λ h=>a5 ⋯⟩
theorem ie {p:Array Nat}{i j:Nat}(hj:j<=p.size)(h:∀ k,i<=k->k<j->KA key p k=KA key p (j-1))(k:Nat):KA key (kas_rev p i j) k=KA key p k:=by
 rw[me hj]
 split
 ·rename_i hk;rw[h _ ⋯ ⋯,h k hk.1 hk.2]
 ·rfl
theorem Dn.congr {p q:Array Nat}{m:Nat}(h:Dn key p m)(e:∀ k,KA key q k=KA key p k):Dn key q m:=λ i j a b=>by rw[e,e];exact h i j a b
theorem gu:∀ (f:Nat) (p:Array Nat) (m q:Nat),Pm n p->1<=m->m+f<=n->q+1<=m->Dn key p m->(∀ k,m-(q+1)<=k->k<m->KA key p k=KA key p (m-1)) ->
  inn n (cK key) (C1 f p m q)/\Pm n (ev (cK key) (C1 f p m q)).1/\m<=(ev (cK key) (C1 f p m q)).2.1/\(ev (cK key) (C1 f p m q)).2.1<=m+f/\(ev (cK key) (C1 f p m q)).2.2+1<=(ev (cK key) (C1 f p m q)).2.1 /\
  Dn key (ev (cK key) (C1 f p m q)).1 (ev (cK key) (C1 f p m q)).2.1/\∀ k,(ev (cK key) (C1 f p m q)).2.1-((ev (cK key) (C1 f p m q)).2.2+1)<=k->k<(ev (cK key) (C1 f p m q)).2.1->KA key (ev (cK key) (C1 f p m q)).1 k=KA key (ev (cK key) (C1 f p m q)).1 ((ev (cK key) (C1 f p m q)).2.1-1)
 | 0,p,m,q,hp,h1,hm,hq,hd,he=>⟨trivial,hp,yW _,yW _,hq,hd,he⟩
 | f+1,p,m,q,hp,h1,hm,hq,hd,he=>by
  have ha:=hp.lt (k:=m) ⋯;have hb:=hp.lt (k:=m-1) ⋯;unfold C1;simp only[ev,inn];by_cases hc:KA key p m<KA key p (m-1)
  ·have e:cK key (p.getD m 0) (p.getD (m-1) 0)=true:=decide_eq_true hc
   rw[e];simp only[if_true];by_cases h0:q > 0
   ·rw[if_pos h0]
    have ek:∀ k,KA key (kas_rev p (m-(q+1)) m) k=KA key p k:=ie (by rw[hp.1];omega) he;obtain⟨a1,a2,a3,a4,a5⟩:=gu f (kas_rev p (m-(q+1)) m) (m+1) 0 (hp.rev _ _) ⋯ ⋯ ⋯ ((hd.congr ek).step h1 (by rw[ek,ek];omega)) λ k k1 k2=>by
     rw[show k=m+1-1 by omega]
    exact⟨⟨ha,hb,a1⟩,a2,⋯,⋯,a5⟩
   ·rw[if_neg h0]
    obtain⟨a1,a2,a3,a4,a5⟩:=gu f p (m+1) 0 hp ⋯ ⋯ ⋯ (hd.step h1 ⋯) λ k k1 k2=>by
     rw[show k=m+1-1 by omega]
    exact⟨⟨ha,hb,a1⟩,a2,⋯,⋯,a5⟩
  ·have e:cK key (p.getD m 0) (p.getD (m-1) 0)=false:=decide_eq_false hc
   rw[e];simp only[yK,if_false,ev,inn];by_cases hc2:KA key p (m-1)<KA key p m
   ·have e2:cK key (p.getD (m-1) 0) (p.getD m 0)=true:=decide_eq_true hc2
    rw[e2];simp only[if_true,ev,inn];exact⟨⟨ha,hb,hb,ha,trivial⟩,hp,yW _,⋯,hq,hd,he⟩
   ·have e2:cK key (p.getD (m-1) 0) (p.getD m 0)=false:=decide_eq_false hc2
    rw[e2];simp only[yK,if_false];have eq:KA key p m=KA key p (m-1):=⋯
    obtain⟨a1,a2,a3,a4,a5⟩:=gu f p (m+1) (q+1) hp ⋯ ⋯ ⋯ (hd.step h1 ⋯) λ k k1 k2=>by
     by_cases z:k=m
     ·subst z;rfl
     ·rw[he k ⋯ ⋯];exact eq.symm
    exact⟨⟨ha,hb,hb,ha,a1⟩,a2,⋯,⋯,a5⟩
theorem lq {p:Array Nat}{m nr:Nat}(hp:Pm n p)(h1:1<=m)(hm:m<=nr)(hn:nr<=n)(hd:Dn key p m):inn n (cK key) (Du m nr p)/\Pm n (ev (cK key) (Du m nr p)).2/\1<=(ev (cK key) (Du m nr p)).1/\(ev (cK key) (Du m nr p)).1<=nr/\Up key (ev (cK key) (Du m nr p)).2 (ev (cK key) (Du m nr p)).1:=by
 have hr:=hp.rev 0 m;have hu:Up key (kas_rev p 0 m) m:=λ i j hij hj=>by
  rw[me (by rw[hp.1];omega),me (by rw[hp.1];omega),if_pos ⋯,if_pos ⋯];exact hd _ _ ⋯ ⋯
 obtain⟨a1,a2,a3,a4,_⟩:=lL hr (nr-m) m h1 ⋯ hu;unfold Du;rw[dP];exact⟨cP a1 trivial,hr,by simp only[ev];omega,by simp only[ev];omega,a4⟩
theorem f9 {p:Array Nat}{m nr:Nat}(hp:Pm n p)(h1:1<=m)(hm:m+1<=nr)(hn:nr<=n)(hd:Dn key p m)(hlt:KA key p m<KA key p (m-1)):
  inn n (cK key) (C4 m nr p)/\Pm n (ev (cK key) (C4 m nr p)).2/\1<=(ev (cK key) (C4 m nr p)).1/\(ev (cK key) (C4 m nr p)).1<=nr/\Up key (ev (cK key) (C4 m nr p)).2 (ev (cK key) (C4 m nr p)).1:=by
 obtain⟨a1,a2,a3,a4,a5,a6,a7⟩:=gu (key:=key) (nr-(m+1)) p (m+1) 0 hp ⋯ ⋯ ⋯ (hd.step h1 ⋯) λ k k1 k2=>by rw[show k=m+1-1 by omega]
 have k:∀ r:Array Nat×Nat×Nat,Pm n r.1->m+1<=r.2.1->r.2.1<=m+1+(nr-(m+1))->r.2.2+1<=r.2.1->Dn key r.1 r.2.1->(∀ k,r.2.1-(r.2.2+1)<=k->k<r.2.1->KA key r.1 k=KA key r.1 (r.2.1-1)) ->
   ∀ t,t=(if r.2.2 > 0 then Du r.2.1 nr (kas_rev r.1 (r.2.1-(r.2.2+1)) r.2.1) else Du r.2.1 nr r.1)->inn n (cK key) t/\Pm n (ev (cK key) t).2/\1<=(ev (cK key) t).1/\(ev (cK key) t).1<=nr/\Up key (ev (cK key) t).2 (ev (cK key) t).1:=by
  intro r a2 a3 a4 a5 a6 a7 t ht;subst ht;by_cases h0:r.2.2 > 0
  ·rw[if_pos h0]
   have ek:∀ k,KA key (kas_rev r.1 (r.2.1-(r.2.2+1)) r.2.1) k=KA key r.1 k:=ie (by rw[a2.1];omega) a7;exact lq (a2.rev (r.2.1-(r.2.2+1)) r.2.1) ⋯ (show r.2.1<=nr by omega) hn (a6.congr ek)
  ·rw[if_neg h0]
   exact lq a2 ⋯ (show r.2.1<=nr by omega) hn a6
 obtain⟨b1,b2⟩:=k _ a2 a3 a4 a5 a6 a7 _ rfl;unfold C4;rw[dP];exact⟨cP a1 b1,b2⟩
theorem pY {p:Array Nat}{nr:Nat}(hp:Pm n p)(h1:1<=nr)(hn:nr<=n):inn n (cK key) (DX nr p)/\Pm n (ev (cK key) (DX nr p)).2/\1<=(ev (cK key) (DX nr p)).1/\(ev (cK key) (DX nr p)).1<=nr/\Up key (ev (cK key) (DX nr p)).2 (ev (cK key) (DX nr p)).1:=by
 obtain⟨a1,a2,a3,a4,a5⟩:=lL (key:=key) hp (nr-1) 1 (yW _) ⋯ (λ i j hij hj=>by rw[show i=j by omega];exact zZ _);have k:∀ m,1<=m->m<=1+(nr-1)->Up key p m->(m<1+(nr-1)->KA key p m<KA key p (m-1))->∀ t:KasT (Nat×Array Nat),t=(if (m == nr)=true then FO (m,p) else if m > 1 then KasT.ask (p.getD 0 0) (p.getD (m-1) 0) λ c=>if c=true then FO (m,p) else C4 m nr (kas_rev p 0 m) else C4 m nr p) ->
   inn n (cK key) t/\Pm n (ev (cK key) t).2/\1<=(ev (cK key) t).1/\(ev (cK key) t).1<=nr/\Up key (ev (cK key) t).2 (ev (cK key) t).1:=by
  intro m m1 m2 mu ml t ht;subst ht;by_cases h0:(m == nr)=true
  ·rw[if_pos h0]
   exact⟨trivial,hp,m1,by simp at h0;simp only[ev];omega,mu⟩
  rw[if_neg h0];have hne:m≠nr:=by simpa using h0
  have hlt:=ml ⋯;by_cases h2:m > 1
  ·rw[if_pos h2]
   simp only[ev,inn];have ha:=hp.lt (k:=0) ⋯;have hb:=hp.lt (k:=m-1) ⋯;by_cases hc:KA key p 0<KA key p (m-1)
   ·have e:cK key (p.getD 0 0) (p.getD (m-1) 0)=true:=decide_eq_true hc
    rw[e];simp only[if_true,ev,inn];exact⟨⟨ha,hb,trivial⟩,hp,m1,⋯,mu⟩
   ·have e:cK key (p.getD 0 0) (p.getD (m-1) 0)=false:=decide_eq_false hc
    rw[e];simp only[yK,if_false];have fl:∀ k,0<=k->k<m->KA key p k=KA key p (m-1):=λ k _ hk=>by
     have z1:=mu 0 k ⋯ hk;have z2:=mu k (m-1) ⋯ ⋯;omega
    have ek:∀ k,KA key (kas_rev p 0 m) k=KA key p k:=ie (by rw[hp.1];omega) fl;obtain⟨b1,b2⟩:=f9 (key:=key) (hp.rev 0 m) m1 (show m+1<=nr by omega) hn (λ i j hij hj=>by rw[ek,ek,fl i ⋯ ⋯,fl j ⋯ hj];exact zZ _) (by rw[ek,ek];exact hlt);exact⟨⟨ha,hb,b1⟩,b2⟩
  ·rw[if_neg h2]
   exact f9 hp m1 (show m+1<=nr by omega) hn (λ i j hij hj=>by rw[show i=j by omega];exact zZ _) hlt
 obtain⟨b1,b2⟩:=k _ a2 a3 a4 a5 _ rfl;unfold DX;rw[dP];exact⟨cP a1 b1,b2⟩
theorem cO {p:Array Nat}{k:Nat}(hp:Pm n p)(hk:k<n)(hu:Up key p k):∀ (f l r:Nat),l<=r->r<=k->r-l<=f->(∀ i,i<l->KA key p i<=KA key p k)->(∀ i,r<=i->i<k->KA key p k<KA key p i) ->
  inn n (cK key) (DY p k f l r)/\ev (cK key) (DY p k f l r)<=k/\(∀ i,i<ev (cK key) (DY p k f l r)->KA key p i<=KA key p k)/\∀ i,ev (cK key) (DY p k f l r)<=i->i<k->KA key p k<KA key p i
 | 0,l,r,h1,h2,h3,lo,hi=>⟨trivial,by simp only[DY,ev];omega,lo,λ i a b=>hi i (by simp only[DY,ev] at a;omega) b⟩
 | f+1,l,r,h1,h2,h3,lo,hi=>by
  unfold DY;by_cases hge:l ≥ r
  ·rw[if_pos hge]
   exact⟨trivial,by simp only[ev];omega,lo,λ i a b=>hi i (by simp only[ev] at a;omega) b⟩
  ·rw[if_neg hge]
   simp only[ev,inn];have ha:=hp.lt (k:=k) hk;have hb:=hp.lt (k:=(l+r)/2) ⋯;by_cases hc:KA key p k<KA key p ((l+r)/2)
   ·have e:cK key (p.getD k 0) (p.getD ((l+r)/2) 0)=true:=decide_eq_true hc
    rw[e];simp only[if_true];obtain⟨b1,b2⟩:=cO hp hk hu f l ((l+r)/2) ⋯ ⋯ ⋯ lo λ i a b=>by
     have:=hu ((l+r)/2) i a b;omega
    exact⟨⟨ha,hb,b1⟩,b2⟩
   ·have e:cK key (p.getD k 0) (p.getD ((l+r)/2) 0)=false:=decide_eq_false hc
    rw[e];simp only[yK,if_false];obtain⟨b1,b2⟩:=cO hp hk hu f ((l+r)/2+1) r ⋯ h2 ⋯ (λ i a=>by
     have:=hu i ((l+r)/2) ⋯ ⋯;omega) hi
    exact⟨⟨ha,hb,b1⟩,b2⟩
theorem iQ {p:Array Nat}{k l:Nat}(hk:k<p.size)(hl:l<=k)(i:Nat):KA key (bubble p k (k-l)) i=if i=l then KA key p k else if l<i/\i<=k then KA key p (i-1) else KA key p i:=by
 have e:=getElem?_bubble hk (k-l) ⋯ i;rw[show k-(k-l)=l by omega] at e
 split
 ·rename_i h;rw[if_pos h] at e;exact kD e
 ·rename_i h
  rw[if_neg h] at e
  split
  ·rename_i h2;rw[if_pos h2] at e;exact kD e
  ·rename_i h2;rw[if_neg h2] at e;exact kD e
theorem qV:∀ (f:Nat) (p:Array Nat) (k:Nat),Pm n p->k+f<=n->Up key p k->inn n (cK key) (kas_bin f p k)/\Pm n (ev (cK key) (kas_bin f p k))/\Up key (ev (cK key) (kas_bin f p k)) (k+f)
 | 0,p,k,hp,_,hu=>⟨trivial,hp,hu⟩
 | f+1,p,k,hp,hk,hu=>by
  obtain⟨a1,a2,a3,a4⟩:=cO (key:=key) hp (show k<n by omega) hu k 0 k (zI _) (yW _) ⋯ (λ i h=>absurd h ⋯) (λ i h1 h2=>absurd h1 ⋯);have q:∀ l,l<=k->(∀ i,i<l->KA key p i<=KA key p k)->(∀ i,l<=i->i<k->KA key p k<KA key p i)->inn n (cK key) (kas_bin f (bubble p k (k-l)) (k+1))/\Pm n (ev (cK key) (kas_bin f (bubble p k (k-l)) (k+1)))/\Up key (ev (cK key) (kas_bin f (bubble p k (k-l)) (k+1))) (k+(f+1)):=by
   intro l hl lo hi;have hs:k<p.size:=by rw[hp.1];omega
   have hu':Up key (bubble p k (k-l)) (k+1):=λ i j hij hj=>by
    rw[iQ hs hl,iQ hs hl];by_cases i1:i=l
    ·rw[if_pos i1]
     by_cases j1:j=l
     ·rw[if_pos j1];exact zZ _
     ·rw[if_neg j1,if_pos ⋯]
      have:=hi (j-1) ⋯ ⋯;omega
    ·rw[if_neg i1]
     by_cases i2:l<i/\i<=k
     ·rw[if_pos i2,if_neg (show ¬ j=l by omega),if_pos ⋯]
      exact hu _ _ ⋯ ⋯
     ·rw[if_neg i2]
      by_cases j1:j=l
      ·rw[if_pos j1];exact lo i ⋯
      ·rw[if_neg j1]
       by_cases j2:l<j/\j<=k
       ·rw[if_pos j2];exact hu _ _ ⋯ ⋯
       ·rw[if_neg j2];exact hu _ _ hij ⋯
   obtain⟨b1,b2,b3⟩:=qV f (bubble p k (k-l)) (k+1) (hp.of (bubble_perm _ _ _)) ⋯ hu';exact⟨b1,b2,by rw[show k+(f+1)=k+1+f by omega];exact b3⟩
  obtain⟨b1,b2⟩:=q _ a2 a3 a4;unfold kas_bin;rw[dP];exact⟨cP a1 b1,b2⟩
theorem gm (h1:1<=n):inn n (cK key) (Dy n)/\Pm n (ev (cK key) (Dy n))/\Up key (ev (cK key) (Dy n)) n:=by
 have h0:Pm n (List.toArray (List.range n)):=⟨by simp,List.Perm.refl _⟩;obtain⟨a1,a2,a3,a4,a5⟩:=pY (key:=key) h0 h1 (yW n);have k:∀ r:Nat×Array Nat,Pm n r.2->1<=r.1->r.1<=n->Up key r.2 r.1->∀ t:KasT (Array Nat),t=(if r.1<n then kas_bin (n-max r.1 1) r.2 (max r.1 1) else FO r.2)->inn n (cK key) t/\Pm n (ev (cK key) t)/\Up key (ev (cK key) t) n:=by
  intro r b1 b2 b3 b4 t ht;subst ht;by_cases h:r.1<n
  ·rw[if_pos h,show max r.1 1=r.1 by omega]
   obtain⟨c1,c2,c3⟩:=qV (key:=key) (n-r.1) r.2 r.1 b1 ⋯ b4;exact⟨c1,c2,λ i j hij hj=>c3 i j hij ⋯⟩
  ·rw[if_neg h]
   exact⟨trivial,b1,λ i j hij hj=>b4 i j hij ⋯⟩
 obtain⟨b1,b2⟩:=k _ a2 a3 a4 a5 _ rfl;unfold Dy;rw[dP];exact⟨cP a1 b1,b2⟩
end
open PySem PySem.W PySem.Calls PyProof.Rows
section
variable {prog:Program}{w:World}{A:Around}{E:Value->Shared->Prop}{s:Shared}
theorem i5 {a:Addr}{vs:List Value}{n:Nat}{κ:SortKind}{key:Nat->Int}{P:PySem.Fin->Shared->Prop}(ho:s.heap.get? a=some (seqObj "list" vs.toArray n))(h64:vs.length<64)
  (hk:2<=vs.length->∀ (h':Heap),(∀ b o,b≠a->s.heap.get? b=some o->h'.get? b=some o)->∀ (E':Value->Shared->Prop) (Q':SortKind->Shared->Prop),Q' κ { s with heap:=h' }->wpAny (model prog w) A (keyKind' vs.toArray) Q' E' { s with heap:=h' })
  (hc:2<=vs.length->∀ (h':Heap),(∀ b o,b≠a->s.heap.get? b=some o->h'.get? b=some o)->∀ i j (C:Bool->Shared->Prop),i<vs.length->j<vs.length->C (decide (key i<key j)) { s with heap:=h' }->kas_ask prog w A κ vs i j C { s with heap:=h' })
  (h:∀ out:List Nat,out.Perm (List.range vs.length)->(∀ i j,i<=j->j<vs.length->key (out.getD i 0)<=key (out.getD j 0))->P (.done (.ret .none)) { s with heap:=sortedHeap s.heap a vs (out.map λ i=>vs.getD i Cn).toArray }):
  wpAny (model prog w) A (Builtin.«list.sort» ⟨[.ref a],[]⟩) P E s:=by
 have hlt:a<s.heap.objs.size:=Cg ho;have ln:vs.length<=sizeLine:=by rw[CF];omega
 obtain⟨e1,q1⟩:∃ e1,(s.heap.update a (Cu λ _=>#[])).get? a=some (seqObj "list" #[] e1):=⟨_,get?_update_seq ho (λ _=>#[])⟩;rw[list_sort_plain];refine Cc (listItems_at ho rfl (Cc (E2 ho rfl (Cc (Fv q1 rfl (Cc (wpAny_newTuple (Cc (E3 (Cz ?_) (zI _))) (by show vs.length<=_;exact ln))))) (by rw[yS];exact ln) (zI _))));have old:∀ b o,b≠a->s.heap.get? b=some o->(((s.heap.update a (Cu λ _=>#[])).push (seqObj "tuple" vs.toArray 0)).push (seqObj "list" #[] 0)).get? b=some o:=λ b o hb q=>
  Cf _ (Cf _ ((Ct _ _ (Ne.symm hb)).trans q))
 have q6:(((s.heap.update a (Cu λ _=>#[])).push (seqObj "tuple" vs.toArray 0)).push (seqObj "list" #[] 0)).get? a=some (seqObj "list" #[] e1):=Cf _ (Cf _ q1);show wpAny (model prog w) A _ P E { s with heap:=((s.heap.update a (Cu λ _=>#[])).push (seqObj "tuple" vs.toArray 0)).push (seqObj "list" #[] 0) }
 dsimp only;have sz:vs.toArray.size=vs.length:=yS ..;by_cases h2:vs.length<2
 ·rw[if_pos (by rw[sz];exact h2),if_pos (by rw[sz];exact h2)]
  refine Cc (Ce ?_);rw[StateT.run_pure];refine Cc (Ce ?_);dsimp only;have e:(arrOf (SortSt.mk' general' (vs.toArray.zip vs.toArray) #[] 7 none)).map (·.2)=((List.range vs.length).map λ i=>vs.getD i Cn).toArray:=by
   show (vs.toArray.zip vs.toArray).map (·.2)=_
   refine Array.ext (by simp) λ i h1 h3=>?_
   have hi:i<vs.length:=by simpa using h3
   simp[yI,yH hi]
  rw[e];have zz:((List.range vs.length).map λ i=>vs.getD i Cn).toArray.size<=sizeLine:=by rw[yS,yC,zA];exact ln
  refine Cc (Fv q6 rfl (Cc (E2 q6 rfl ?_ (hsz2:=AN zz))));simp only[bne_self_eq_false,yK,if_false];exact Ce (h _ (List.Perm.refl _) λ i j hij hj=>by rw[show i=j by omega];exact zZ _)
 ·rw[if_neg (by rw[sz];exact h2),if_neg (by rw[sz];exact h2)]
  have h2':2<=vs.length:=⋯
  refine Cc (hk h2' _ old _ _ ?_);obtain⟨i1,i2,i3⟩:=gm (key:=key) (n:=vs.length) ⋯;have run:=kat_run (prog:=prog) (w:=w) (A:=A) (E:=E) (κ:=κ) (ks:=vs) (vs:=vs) (s:={ s with heap:=((s.heap.update a (Cu λ _=>#[])).push (seqObj "tuple" vs.toArray 0)).push (seqObj "list" #[] 0) })
   (Q:=λ st' s'=>s'={ s with heap:=((s.heap.update a (Cu λ _=>#[])).push (seqObj "tuple" vs.toArray 0)).push (seqObj "list" #[] 0) }/\failedOf st'=none/\arrOf st'=(ev (cK key) (Dy vs.length)).map (kas_item (vs.toArray.zip vs.toArray)))
   (G:=λ p s'=>s'={ s with heap:=((s.heap.update a (Cu λ _=>#[])).push (seqObj "tuple" vs.toArray 0)).push (seqObj "list" #[] 0) }/\p=ev (cK key) (Dy vs.length)) rfl h2' h64
   (λ p st' s' _ a2 a3 ⟨a4,a5⟩=>⟨a4,a3,by rw[<- a5];exact a2⟩) (uN (c:=cK key) (λ i j C hi hj hC=>hc h2' _ old i j C hi hj hC) i1 ⟨rfl,rfl⟩)
  refine Cc (CA run ?_ λ _ _ e=>e)
  rintro ⟨⟨⟩,st'⟩ s' ⟨rfl,hf,har⟩
  dsimp only;rw[kat_snds rfl har];have zz:(((ev (cK key) (Dy vs.length)).toList.map λ i=>vs.getD i Cn).toArray).size<=sizeLine:=by rw[yS,yC,Cj,i2.1];exact ln
  refine Cc (Fv q6 rfl (Cc (E2 q6 rfl ?_ (hsz2:=AN zz))));rw[hf];simp only[bne_self_eq_false,yK,if_false];refine Ce (h _ i2.2 λ i j hij hj=>?_);have g:∀ k,(ev (cK key) (Dy vs.length)).toList.getD k 0=(ev (cK key) (Dy vs.length)).getD k 0:=λ k=>by
   by_cases hk:k<(ev (cK key) (Dy vs.length)).size <;>simp[Cy,yI,hk]
  rw[g,g];exact i3 i j hij hj
theorem oF {l:Addr}{vs:List Value}{κ:SortKind}{key:Nat->Int}{Q:Value->Shared->Prop}(hl:s.heap.IsList l vs.toArray)(h64:vs.length<64)
  (hk:2<=vs.length->∀ (h':Heap),(∀ b o,s.heap.get? b=some o->h'.get? b=some o)->∀ (E':Value->Shared->Prop) (Q':SortKind->Shared->Prop),Q' κ { s with heap:=h' }->wpAny (model prog w) A.in1.in1 (keyKind' vs.toArray) Q' E' { s with heap:=h' })
  (hc:2<=vs.length->∀ (h':Heap),(∀ b o,s.heap.get? b=some o->h'.get? b=some o)->∀ i j (C:Bool->Shared->Prop),i<vs.length->j<vs.length->C (decide (key i<key j)) { s with heap:=h' }->kas_ask prog w A.in1.in1 κ vs i j C { s with heap:=h' })
  (h:∀ out:List Nat,out.Perm (List.range vs.length)->(∀ i j,i<=j->j<vs.length->key (out.getD i 0)<=key (out.getD j 0))->Q (.ref (s.heap.objs.size+1)) { s with heap:=sortedAll s.heap vs (out.map λ i=>vs.getD i Cn).toArray }):
  wpAny (model prog w) A (call (.builtin "sorted") [.ref l]) Q E s:=by
 have ln:vs.length<=sizeLine:=by rw[CF];omega
 refine Eo kind_sorted plain_sorted entry_sorted (args_sorted1 _) ?_
 unfold Builtin.«sorted»;refine Cc (m:=checkCount "sorted" 1 1 _) (Ce (Cc (collect_list hl (Cc (E3 ?_ (by show vs.length<=_;exact ln))) (by exact ln))));have z1:((s.heap.push (seqObj "list" #[] 0)).update s.heap.objs.size (Cu (·++vs.toArray))).objs.size=s.heap.objs.size+1:=by rw[Heap.size_update,size_push']
 have z2:(((s.heap.push (seqObj "list" #[] 0)).update s.heap.objs.size (Cu (·++vs.toArray))).push (seqObj "list" vs.toArray 0)).get? (s.heap.objs.size+1)=some (seqObj "list" vs.toArray 0):=by rw[<- z1];exact Ci _ rfl
 have old:∀ b o,s.heap.get? b=some o->b≠s.heap.objs.size+1/\(((s.heap.push (seqObj "list" #[] 0)).update s.heap.objs.size (Cu (·++vs.toArray))).push (seqObj "list" vs.toArray 0)).get? b=some o:=λ b o q=>by
  have hb:b<s.heap.objs.size:=Cg q;exact⟨yU (zO hb),Cf _ ((Ct _ _ (AE hb)).trans (Cf _ q))⟩
 show wpAny _ _ _ _ _ { s with heap:=((s.heap.push (seqObj "list" #[] 0)).update s.heap.objs.size (Cu (·++vs.toArray))).push (seqObj "list" vs.toArray 0) }
 rw[z1];refine Cc (Cz (CS slot_list_sort ⟨_,z2,rfl⟩ entry_list_sort (i5 (s:={ s with heap:=((s.heap.push (seqObj "list" #[] 0)).update s.heap.objs.size (Cu (·++vs.toArray))).push (seqObj "list" vs.toArray 0) }) z2 h64 (λ h2 h' k E' Q' q=>hk h2 h' (λ b o e=>k b o (old b o e).1 (old b o e).2) E' Q' q)
  (λ h2 h' k i j C hi hj q=>hc h2 h' (λ b o e=>k b o (old b o e).1 (old b o e).2) i j C hi hj q) λ out a1 a2=>⟨_,rfl,Ce ⟨_,rfl,h out a1 a2⟩⟩) (args_list_sort _)))
end
end Sd
namespace Dv
theorem jR:∀ a:List Int,lexLt a a=false
 | []=>rfl
 | x::a=>by simp[lexLt,jR a]
theorem lex_tot:∀ {a b:List Int},lexLt a b=false->lexLt b a=false->a=b
 | [],[],_,_=>rfl
 | [],_::_,h,_=>by simp[lexLt] at h
 | _::_,[],_,h=>by simp[lexLt] at h
 | x::a,y::b,h,g=>by
  simp only[lexLt] at h g;by_cases e:x=y
  ·subst e
   simp only[if_true] at h g;rw[lex_tot h g]
  ·rw[if_neg e] at h
   rw[if_neg (Ne.symm e)] at g;simp at h g;omega
theorem lex_trans:∀ {a b c:List Int},lexLt a b=true->lexLt b c=true->lexLt a c=true
 | [],[],_,h,_=>by simp[lexLt] at h
 | [],_::_,[],_,g=>by simp[lexLt] at g
 | [],_::_,_::_,_,_=>rfl
 | _::_,[],_,h,_=>by simp[lexLt] at h
 | _::_,_::_,[],_,g=>by simp[lexLt] at g
 | x::a,y::b,z::c,h,g=>by
  simp only[lexLt] at h g ⊢;by_cases e1:x=y
  ·subst e1
   simp only[if_true] at h;by_cases e2:x=z
   ·subst e2
    simp only[if_true] at g ⊢;exact lex_trans h g
   ·rw[if_neg e2] at g ⊢;exact g
  ·rw[if_neg e1] at h
   simp at h;by_cases e2:y=z
   ·subst e2
    rw[if_neg e1];simpa using h
   ·rw[if_neg e2] at g
    simp at g;rw[if_neg ⋯];simp;omega
def lexLe (a b:List Int):Prop:=lexLt b a=false
theorem le_trans {a b c:List Int}(h:lexLe a b)(g:lexLe b c):lexLe a c:=by
 unfold lexLe at *;cases q:lexLt c a with
 | false=>rfl
 | true=>
  by_cases e:lexLt a b=true
  ·rw[lex_trans q e] at g;cases g
  ·have:a=b:=lex_tot (by simpa using e) h
   subst this;rw[q] at g;cases g
theorem lt_le {a b:List Int}(h:lexLt a b=true):lexLe a b:=by
 unfold lexLe;cases q:lexLt b a with
 | false=>rfl
 | true=>have:=lex_trans h q;rw[jR] at this;cases this
def lX (x:List Int):List (List Int)->List (List Int)
 | []=>[x]
 | y::r=>if lexLt y x then y::lX x r else x::y::r
def lsort:List (List Int)->List (List Int)
 | []=>[]
 | x::r=>lX x (lsort r)
theorem fR (x:List Int):∀ l,(lX x l).Perm (x::l)
 | []=>.refl _
 | y::r=>by
  unfold lX
  split
  ·exact((fR x r).cons y).trans (.swap x y r)
  ·exact .refl _
theorem lsort_perm:∀ l,(lsort l).Perm l
 | []=>.refl _
 | x::r=>(fR x _).trans ((lsort_perm r).cons x)
theorem fV (x:List Int):∀ l,l.Pairwise lexLe->(lX x l).Pairwise lexLe
 | [],_=>by simp[lX]
 | y::r,h=>by
  unfold lX;have h':=List.pairwise_cons.mp h
  split
  ·rename_i q
   refine List.pairwise_cons.mpr ⟨λ z hz=>?_,fV x r h'.2⟩
   rcases List.mem_cons.mp ((fR x r).mem_iff.mp hz) with rfl|hz
   ·exact lt_le q
   ·exact h'.1 z hz
  ·rename_i q
   have q':lexLe x y:=by unfold lexLe;simpa using q
   refine List.pairwise_cons.mpr ⟨λ z hz=>?_,h⟩
   rcases List.mem_cons.mp hz with rfl|hz
   ·exact q'
   ·exact le_trans q' (h'.1 z hz)
theorem lsort_sorted:∀ l,(lsort l).Pairwise lexLe
 | []=>.nil
 | x::r=>fV x _ (lsort_sorted r)
theorem sorted_one:∀ {a b:List (List Int)},a.Perm b->a.Pairwise lexLe->b.Pairwise lexLe->a=b
 | [],b,p,_,_=>by simpa using p.symm.eq_nil
 | x::a,[],p,_,_=>absurd p.eq_nil (by simp)
 | x::a,y::b,p,ha,hb=>by
  have h1:=List.pairwise_cons.mp ha;have h2:=List.pairwise_cons.mp hb;have e:x=y:=by
   have hx:x∈y::b:=p.mem_iff.mp yG;have hy:y∈x::a:=p.mem_iff.mpr yG
   rcases List.mem_cons.mp hx with e|hx
   ·exact e
   rcases List.mem_cons.mp hy with e|hy
   ·exact e.symm
   exact lex_tot (h2.1 x hx) (h1.1 y hy)
  subst e;rw[sorted_one ((BS x).mp p) h1.2 h2.2]
def rank (l:List (List Int))(x:List Int):Nat:=l.countP λ z=>lexLt z x
theorem fS {α:Type}{p q:α->Bool}:∀ {l:List α},(∀ z∈l,p z=true->q z=true)->(∃ z∈l,q z=true/\p z=false)->l.countP p<l.countP q
 | [],_,⟨z,hz,_⟩=>by cases hz
 | a::l,h,⟨z,hz,h1,h2⟩=>by
  have mono:l.countP p<=l.countP q:=Be λ z hz=>h z (yF _ hz)
  rw[BI,BI]
  rcases List.mem_cons.mp hz with rfl|hz
  ·rw[h1,h2];simp;omega
  ·have ih:=fS (λ z hz=>h z (yF _ hz)) ⟨z,hz,h1,h2⟩
   have:=h a yG;cases q1:p a with
   | true=>rw[this q1];simp;omega
   | false=>cases q2:q a <;>simp <;>omega
theorem rank_lt {l:List (List Int)}{x y:List Int}(hx:x∈l):decide ((rank l x:Int)<(rank l y:Int))=lexLt x y:=by
 cases q:lexLt x y with
 | true=>
  refine decide_eq_true ?_
  have:=fS (p:=λ z=>lexLt z x) (q:=λ z=>lexLt z y) (l:=l) (λ z _ h=>lex_trans h q) ⟨x,hx,q,jR x⟩;unfold rank;omega
 | false=>
  refine decide_eq_false ?_
  have:l.countP (λ z=>lexLt z y)<=l.countP (λ z=>lexLt z x):=Be λ z _ h=>by
   have h:lexLt z y=true:=h;cases e:lexLt z x with
   | true=>rfl
   | false=>
    have:lexLe x z:=e;have h2:lexLe y x:=q;have h3:lexLe y z:=le_trans h2 this;unfold lexLe at h3;rw[h] at h3;cases h3
  unfold rank;omega
def w8:D->Bool->R
 | .lst ds,f=>match mP ds with
  | some nss=>if nss.length<64 then .ok (.lst ((lsort nss).map λ ns=>.lst (ns.map .int))) f else .bad
  | none=>.bad
 | _,_=>.bad
def tupsOf:List D->Option (List (List Int))
 | []=>some []
 | .tup ds::r=>match intsOf ds,tupsOf r with
  | some (n::ns),some nss=>some ((n::ns)::nss)
  | _,_=>none
 | _::_=>none
def sortedTD:D->Bool->R
 | .lst ds,f=>match tupsOf ds with
  | some nss=>if nss.length<64 then .ok (.lst ((lsort nss).map λ ns=>.tup (ns.map .int))) f else .bad
  | none=>.bad
 | _,_=>.bad
end Dv
namespace Sd
open PySem PySem.Spec PySem.W PySem.Calls PyProof.Rows L2
open Dv (D R RL EE EL EI RI Sl Out SS)
section
variable {prog:Program}{w:World}{A:Around}{E:Value->Shared->Prop}{s:Shared}
theorem ij {b fin:Bool}{Q:Bool->Shared->Prop}:∀ (i:Nat) {vs ws:List Value} {ns ms:List Int},IntsAre vs ns->IntsAre ws ms->fin=decide (ns.length<ms.length)->Q (Dv.lexLt ns ms) s->KatLex prog w A b fin Q (vs.zip ws) i s
 | i,_,_,_,_,.nil,.nil,hf,h=>by subst hf;exact h
 | i,_,_,_,_,.nil,.cons m t r,hf,h=>by
  have e:fin=true:=by rw[hf];simp
  subst e;exact kat_nil h
 | i,_,_,_,_,.cons n t r,.nil,hf,h=>by
  have e:fin=false:=by rw[hf];simp
  subst e;exact kat_nil h
 | i,_,_,_,_,.cons n t r,.cons m u q,hf,h=>by
  refine kat_cons (wpAny_eqBool_int ?_);by_cases e:n=m
  ·subst e
   rw[beq_self_eq_true];refine kat_yes (ij (i+1) r q (by rw[hf];simp) ?_);simpa[Dv.lexLt] using h
  ·rw[beq_false_of_ne e]
   have h':Q (decide (n<m)) s:=by simpa[Dv.lexLt,e] using h
   refine kat_no ?_
   cases (b&&i == 0) with
   | true=>exact oneLt_int h'
   | false=>exact kat_one _ _ (lt_int h')
end
def ItT (H:Hp)(v:V)(ns:List Int):Prop:=∃ b,v=.ref b/\Rd H b (.tup (ns.map V.int))/\ns≠[]
theorem gS {xs:List V}{us:List Value}(r:Vals xs us){i:Nat}(hi:i<xs.length):∃ u,us[i]?=some u/\RelV xs[i] u:=r.get (yH hi)
theorem fJ {xs:List V}{us:List Value}(r:Vals xs us):∀ out:List Nat,(∀ i∈out,i<xs.length)->Vals (out.map λ i=>xs.getD i .non) (out.map λ i=>us.getD i Cn)
 | [],_=>.nil
 | i::o,h=>by
  have hi:=h i yG;obtain⟨u,h1,h2⟩:=gS r hi;refine .cons ?_ (fJ r o λ j hj=>h j (yF _ hj))
  show L2.RelV (xs.getD i V.non) (us.getD i Cn)
  rw[yI,yH hi,yI,h1];exact h2
theorem lW {X:Cx}{pins:List (Addr×Obj)}{σ:L2.St}{H:Hp}{s:Shared}{vs:List V}{its:List Value}{out:List Nat}{Q:VK}(I:L2.Inv X pins σ H s)(rv:Vals vs its)(hp:out.Perm (List.range its.length))(h64:vs.length<64)
  (q:∀ l,H l=none->Q (.ref l) (upd H l (.lst (out.map λ i=>vs.getD i .non)))):EP X pins σ Q (.ref (s.heap.objs.size+1)) { s with heap:=sortedAll s.heap its (out.map λ i=>its.getD i Cn).toArray }:=by
 obtain⟨ep,hat⟩:=sortedAll_at s.heap its (out.map λ i=>its.getD i Cn).toArray;have hl:=rv.length;have hf:H (s.heap.objs.size+1)=none:=I.hok.fresh (AJ _);refine⟨.ref (s.heap.objs.size+1),_,I.laid (t':=s.toks) (o:=.lst (out.map λ i=>vs.getD i .non)) (λ b u q=>sortedAll_old q) (AJ _) ?_,rfl,q _ hf⟩;refine⟨?_,out.map λ i=>its.getD i Cn,ep,fJ rv out λ i hi=>?_,by simpa[seqObj] using hat⟩
 ·have:=hp.length_eq
  rw[zA] at this;rw[yC,CF];omega
 ·have:=List.mem_range.mp (hp.mem_iff.mp hi)
  omega
theorem kI {α β:Type}{F:α->β->Prop}{l:List α}{r:List β}(h:Paired F l r){i:Nat}(hi:i<l.length)(d:β):F l[i] (r.getD i d):=by
 obtain⟨y,h1,h2⟩:=Paired.gets h (yH hi);rw[yI,h1];exact h2
theorem gQ:∀ {vs:List Value} {ns:List Int},IntsAre vs ns->vs.length=ns.length
 | _,_,.nil=>rfl
 | _,_,.cons _ _ r=>by rw[yE,yE,gQ r]
theorem ju {X:Cx}(hu:X.A.units+64<cLine):cM X (.builtin "sorted") (λ xs H Q=>∃ p vs nss,xs=[.ref p]/\SqX X.K H p vs/\vs.length<64/\Paired (ItT H) vs nss /\
  ∀ out:List Nat,out.Perm (List.range vs.length)->(∀ i j,i<=j->j<vs.length->Dv.lexLe (nss.getD (out.getD i 0) []) (nss.getD (out.getD j 0) []))->∀ l,H l=none->Q (.ref l) (upd H l (.lst (out.map λ i=>vs.getD i .non)))):=by
 intro pins s σ H xs us Q I r h;obtain⟨p,vs,nss,rfl,hq,h64,hit,q⟩:=h;obtain⟨u,rfl,rx⟩:=vals1 r;cases rx;obtain⟨its,n,rv,e,z⟩:=Inv.listX I hq;have hl:=rv.length;have hn:=hit.length;have item:∀ i,i<its.length->∃ b ws o m,its.getD i Cn=.ref b/\s.heap.get? b=some o/\o.cls=.type "tuple"/\o.data=.seq (List.toArray ws) m/\IntsAre ws (nss.getD i [])/\nss.getD i []≠[]:=λ i hi=>by
  obtain⟨u,h1,h2⟩:=gS rv (i:=i) ⋯;obtain⟨b,hb,hs,hne⟩:=kI hit (i:=i) ⋯ [];rw[hb] at h2;obtain⟨_,ws,rw',o,ew,hc,m,hd⟩:=hs.ok I.hok;refine⟨b,ws,o,m,?_,ew,hc,hd,intsAre_of rw',hne⟩;rw[yI,h1];exact h2
 refine oF (κ:=tuples' true) (key:=λ i=>(Dv.rank nss (nss.getD i []):Int)) ⟨_,e,rfl,n,rfl⟩ ⋯ (λ h2 h' k E' Q' hQ=>?_) (λ h2 h' k i j C hi hj hC=>?_) λ out a1 a2=>?_
 ·have tups:∀ (l:List Value),(∀ v∈l,v∈its)->∃ fs,KatTups h' l fs/\fs.length=l.length/\∀ f∈fs,∃ a t,f=Dc a t:=by
   intro l
   induction l with
   | nil=>exact λ _=>⟨[],.nil,rfl,λ f hf=>by cases hf⟩
   | cons v l ih=>
    intro hl;obtain⟨fs,g1,g2,g3⟩:=ih λ v hv=>hl v (yF _ hv)
    obtain⟨i,hi,hv⟩:=zj (hl v yG);obtain⟨b,ws,o,m,e1,e2,e3,e4,e5,e6⟩:=item i hi;rw[yI,yH hi] at e1;have e1:v=.ref b:=by rw[<- hv];exact e1
    subst e1;generalize nss.getD i []=ns at e5 e6;cases e5 with
    | nil=>exact absurd rfl e6
    | cons a t r=>
     refine⟨Dc a t::fs,.cons (k _ _ e2) e3 e4 (by simp) g1,by simp[g2],λ f hf=>?_⟩
     rcases List.mem_cons.mp hf with rfl|hf
     ·exact⟨a,t,rfl⟩
     ·exact g3 f hf
  obtain⟨fs,g1,g2,g3⟩:=tups its λ v hv=>hv
  refine kat_kind (T:=.type "int") g1 ⋯ (λ v hv=>?_) (by decide) (show Q' (tuples' (CZ "int" != CZ "tuple")) _ from hQ);obtain⟨a,t,rfl⟩:=g3 v hv;exact .now
 ·obtain⟨b,ws,o,m,e1,e2,e3,e4,e5,e6⟩:=item i hi
  obtain⟨b',ws',o',m',f1,f2,f3,f4,f5,f6⟩:=item j hj;unfold kas_ask;rw[e1,f1];have hm:nss.getD i []∈nss:=by
   have hi':i<nss.length:=⋯
   rw[yI,yH hi'];exact zt hi'
  rw[Dv.rank_lt hm] at hC;refine kat_lt (k _ _ e2) e4 (k _ _ f2) f4 (ij 0 e5 f5 ?_ hC);have l1:ws.length=(nss.getD i []).length:=gQ e5;have l2:ws'.length=(nss.getD j []).length:=gQ f5;rw[yS,yS,l1,l2]
 ·refine lW I rv a1 h64 λ l hl'=>q out (by rw[hl];exact a1) (λ i j hij hj=>?_) l hl'
  have:=a2 i j hij ⋯;have ho:out.length=its.length:=by rw[a1.length_eq,zA]
  have mem:∀ k,k<its.length->nss.getD (out.getD k 0) []∈nss:=λ k hk=>by
   have h1:out.getD k 0∈out:=by
    rw[yI,yH ⋯];exact zt _
   have h2:=List.mem_range.mp (a1.mem_iff.mp h1);have h3:out.getD k 0<nss.length:=⋯
   rw[yI,yH h3];exact zt h3
  unfold Dv.lexLe;rw[<- Dv.rank_lt (mem j ⋯)];exact decide_eq_false ⋯
theorem jv:∀ {ds:List D} {nss:List (List Int)},Dv.tupsOf ds=some nss->(ds=nss.map λ ns=>.tup (ns.map .int))/\∀ ns∈nss,ns≠[]
 | [],nss,h=>by simp[Dv.tupsOf] at h;subst h;exact⟨rfl,λ ns h=>by cases h⟩
 | d::r,nss,h=>by
  cases d with
  | tup es=>
   simp only[Dv.tupsOf] at h
   split at h
   ·rename_i n ns ms h1 h2
    cases h;obtain⟨g1,g2⟩:=jv h2;refine⟨by rw[nH h1,g1];rfl,λ x hx=>?_⟩
    rcases List.mem_cons.mp hx with rfl|hx
    ·simp
    ·exact g2 x hx
   ·cases h
  | _=>simp[Dv.tupsOf] at h
theorem RpL.pick {K:Frag}{H:Hp}{ds:List D}{vs:List V}(r:RpL K H ds vs):∀ out:List Nat,(∀ i∈out,i<ds.length)->RpL K H (out.map λ i=>ds.getD i .non) (out.map λ i=>vs.getD i .non)
 | [],_=>.nil
 | i::o,h=>by
  have hi:=h i yG;obtain⟨v,h1,h2⟩:=r.get (yH hi);refine .cons ?_ (RpL.pick r o λ j hj=>h j (yF _ hj))
  show Rp K H (ds.getD i .non) (vs.getD i .non)
  rw[yI,yH hi,yI,h1];exact h2
theorem picked {nss:List (List Int)}{out:List Nat}(hp:out.Perm (List.range nss.length))(hs:∀ i j,i<=j->j<nss.length->Dv.lexLe (nss.getD (out.getD i 0) []) (nss.getD (out.getD j 0) [])):(out.map λ i=>nss.getD i [])=Dv.lsort nss:=by
 have e:(List.range nss.length).map (λ i=>nss.getD i [])=nss:=by
  refine Ax (by simp) λ i h1 h2=>?_
  simp[yI,yH h2]
 refine Dv.sorted_one (((hp.map λ i=>nss.getD i []).trans (by rw[e])).trans (Dv.lsort_perm nss).symm) ?_ (Dv.lsort_sorted nss)
 have ho:out.length=nss.length:=by rw[hp.length_eq,zA]
 rw[AO];intro i j hi hj hij;rw[yC] at hi hj;have:=hs i j (Ag hij) ⋯;rw[zK,zK];simpa[yI,yH hi,yH hj] using this
theorem nX {nss:List (List Int)}{out:List Nat}{f:List Int->D}(hp:out.Perm (List.range nss.length)):(out.map λ i=>(nss.map f).getD i .non)=(out.map λ i=>nss.getD i []).map f:=by
 rw[zb];refine zv λ i hi=>?_
 have h:i<nss.length:=List.mem_range.mp (hp.mem_iff.mp hi);simp[yI,yH h]
theorem iI:∀ ns:List Int,Dv.intsOf (ns.map .int)=some ns
 | []=>rfl
 | n::r=>by simp[Dv.intsOf,iI r]
theorem jZ {K:Frag}{H:Hp}:∀ {nss:List (List Int)} {vs:List V},(∀ ns∈nss,ns≠[])->RpL K H (nss.map λ ns=>.tup (ns.map .int)) vs->Paired (ItT H) vs nss
 | [],vs,_,h=>by rw[yJ] at h;unfold RpL at h;subst h;exact .nil
 | ns::r,vs,hn,h=>by
  rw[yB] at h;unfold RpL at h;obtain⟨v,ws,rfl,g1,g2⟩:=h;unfold Rp at g1;obtain⟨b,bs,rfl,g3,g4⟩:=g1;have eb:=RpL.ints (iI ns) g4;subst eb;exact .cons ⟨b,rfl,g3,hn _ yG⟩ (jZ (λ x hx=>hn x (yF _ hx)) g2)
theorem ItT.same {H H':Hp}(e:Same H H'){v:V}{ns:List Int}(h:ItT H v ns):ItT H' v ns:=let ⟨b,h1,h2,h3⟩:=h;⟨b,h1,Rd.same e h2,h3⟩
section
variable {C:Ctx}{a:Expr}{f:EE}{pos:Pos}
theorem iH {K:Frag}{Hv H Hv1 H1:Hp}{ds:List D}{x:V}{fr:Bool}(e:Ext Hv H Hv1 H1)(rx:Rp K Hv1 (.lst ds) x)(n:fr=true->Rp [] (Hnew H H1) (.lst ds) x):∃ l vs,x=.ref l/\SqX K H1 l vs/\RpL K Hv1 ds vs/\(fr=true->RpL [] (Hnew H H1) ds vs):=by
 cases fr with
 | true=>
  have rn:=n rfl;unfold Rp at rn;obtain⟨l,vs,rfl,h1,h2⟩:=rn;refine⟨l,vs,rfl,?_,(RpL.frag h2).same e.news,λ _=>h2⟩
  rcases h1 with h1|⟨its,n,e,_⟩
  ·exact .inl (Rd.same Hnew.sub h1)
  ·simp at e
 | false=>
  unfold Rp at rx;obtain⟨l,vs,rfl,h1,h2⟩:=rx;exact⟨l,vs,rfl,h1.same e.vh,h2,λ z=>by cases z⟩
theorem lh:C1S C (.builtin "sorted") Dv.sortedTD:=by
 refine⟨_,ju C.un,λ x d fr H Hv H1 Hv1 W Q e rx n q=>?_⟩;cases d with
 | lst ds=>
  simp only[Dv.sortedTD] at q;cases hi:Dv.tupsOf ds with
  | none=>rw[hi] at q;exact Zf q
  | some nss=>
   rw[hi] at q;by_cases h64:nss.length<64
   ·simp only[h64,if_true] at q
    obtain⟨ed,hne⟩:=jv hi;subst ed;obtain⟨l,vs,rfl,h1,h2,h3⟩:=iH e rx n;have hl:=h2.length;rw[yC] at hl;refine⟨l,vs,nss,rfl,h1,⋯,Paired.mapM (jZ hne h2) λ _ _ _ z=>z.same e.vh,λ out hp hs p hpn=>?_⟩;rw[hl] at hp hs;have hin:∀ i∈out,i<(nss.map λ ns=>D.tup (ns.map .int)).length:=λ i hi=>by rw[yC];exact List.mem_range.mp (hp.mem_iff.mp hi)
    have fin:∀ {K:Frag} {H:Hp},RpL K H (nss.map λ ns=>D.tup (ns.map .int)) vs->RpL K H ((Dv.lsort nss).map λ ns=>D.tup (ns.map .int)) (out.map λ i=>vs.getD i .non):=λ {K H} r=>by
     have r2:=RpL.pick r out hin;rw[nX hp,picked hp hs] at r2;exact r2
    exact Ok.newL q e (fin h2) (λ z=>fin (h3 z)) p hpn
   ·simp only[h64,if_false] at q
    exact Zf q
 | _=>exact Zf q
theorem cR {p:Pos}(hm:C.X.mg "sorted"=none)(hg:Gl C.X "sorted")(ha:SE C a f)(he:autoParam (starEach [a] C.X.env=[(false,eval a C.X.env)]) ZE._auto_1):SE C (.Call (.Name "sorted" p) [a] [] pos) (Dv.eB1 Dv.sortedTD f):=ll lh hg hm DK ha (by decide) (by decide) he
end
open PySem PySem.Spec PyProof.Rows L2
open Dv (D R RL EE EL EI RI Sl Out SS Wy An Cs Ws WR Wk PR)
section
variable {C:Ctx}{a b c e k:Expr}{f g h:EE}{pos:Pos}
theorem qv {R:Prop}(h:SE C e f)(k:∀ t,PE C.X e t->Tak C t f->R):R:=let ⟨t,p,q⟩:=h;k t p q
end
end Sd
namespace Sts
open PySem PySem.SetTable
def Ris (xs:Array Nat):Prop:=xs.toList.Pairwise (·<·)
theorem Ris.at {xs:Array Nat}(r:Ris xs){i j:Nat}(hj:j<xs.size)(hij:i<j):xs.getD i 0<xs.getD j 0:=by
 have hi:i<xs.size:=⋯
 have:=List.pairwise_iff_getElem.mp r i j (by simpa using hi) (by simpa using hj) hij;simpa[Cy,hi,hj] using this
theorem pQ {xs:Array Nat}(r:Ris xs)(j:Nat):∀ (fuel lo hi:Nat),hi<=xs.size->lo<=hi->hi-lo<=fuel->(∀ i,i<lo->xs.getD i 0<j)->(∀ i,hi<=i->i<xs.size->j<=xs.getD i 0) ->
  below.go xs j fuel lo hi<=xs.size/\(∀ i,i<below.go xs j fuel lo hi->xs.getD i 0<j)/\∀ i,below.go xs j fuel lo hi<=i->i<xs.size->j<=xs.getD i 0
 | 0,lo,hi,h1,h2,h3,h4,h5=>by
  have:lo=hi:=⋯
  subst this;exact⟨h1,h4,h5⟩
 | fuel+1,lo,hi,h1,h2,h3,h4,h5=>by
  unfold below.go;by_cases hl:lo<hi
  ·rw[if_pos hl]
   have hm:(lo+hi)/2<xs.size:=⋯
   have eg:xs.getD ((lo+hi)/2) j=xs.getD ((lo+hi)/2) 0:=by simp[Cy,hm]
   simp only[eg];by_cases hc:xs.getD ((lo+hi)/2) 0<j
   ·rw[if_pos hc]
    refine pQ r j fuel _ _ h1 ⋯ ⋯ (λ i hi'=>?_) h5;by_cases e:i=(lo+hi)/2
    ·subst e;exact hc
    ·exact AG (r.at hm ⋯) hc
   ·rw[if_neg hc]
    refine pQ r j fuel _ _ ⋯ ⋯ ⋯ h4 λ i h6 h7=>?_
    by_cases e:i=(lo+hi)/2
    ·subst e;omega
    ·have:=r.at (i:=(lo+hi)/2) h7 ⋯;omega
  ·rw[if_neg hl]
   have:lo=hi:=⋯
   subst this;exact⟨h1,h4,h5⟩
theorem eP {xs:Array Nat}(r:Ris xs)(j:Nat):below xs j<=xs.size/\(∀ i,i<below xs j->xs.getD i 0<j)/\∀ i,below xs j<=i->i<xs.size->j<=xs.getD i 0:=
 pQ r j xs.size 0 xs.size (yW _) (zI _) ⋯ (λ i h=>⋯) λ i h1 h2=>⋯
theorem below_at {xs:Array Nat}(r:Ris xs){i:Nat}(hi:i<xs.size):below xs (xs.getD i 0)=i:=by
 obtain⟨h1,h2,h3⟩:=eP r (xs.getD i 0)
 rcases AQ (below xs (xs.getD i 0)) i with h|h|h
 ·have a:=h3 _ (yW _) ⋯
  have b:=r.at hi h;omega
 ·exact h
 ·have:=h2 i h;omega
def Occ (t:SetTable)(j:Nat):Prop:=j∈t.place.toList
theorem mV (j:Nat):has #[] j=false:=by
 simp[has,below,below.go]
theorem fE {t:SetTable}(r:Ris t.place){i:Nat}(hi:i<t.place.size):t.slot (t.place.getD i 0)=.live i:=by
 unfold slot;simp only[below_at r hi];have:t.place[i]?=some (t.place.getD i 0):=by simp[Cy,hi]
 rw[this];simp
theorem lE {t:SetTable}(hd:t.dummies=#[]){j:Nat}(h:¬ Occ t j):t.slot j=.empty:=by
 unfold slot;have:¬ (t.place[below t.place j]? == some j)=true:=λ e=>by
  have e:=beq_iff_eq.mp e;exact h (by rw[<- C8] at e;exact zX e)
 rw[if_neg this,hd,mV];rfl
theorem wq {t:SetTable}{j:Nat}(h:Occ t j):∃ i,i<t.place.size/\t.place.getD i 0=j:=by
 obtain⟨i,hi,e⟩:=zj h;have hi':i<t.place.size:=by simpa using hi
 exact⟨i,hi',by simpa[Cy,hi'] using e⟩
def adv (mask:Nat)(p:Probe):Probe:=
 if p.more > 0 then { p with j:=p.j+1,more:=p.more-1 } else
 { p with j:=(leap mask p.i p.perturb).1,more:=runEnd mask (leap mask p.i p.perturb).1-(leap mask p.i p.perturb).1,i:=(leap mask p.i p.perturb).1,perturb:=(leap mask p.i p.perturb).2 }
def adN (mask:Nat):Nat->Probe->Probe
 | 0,p=>p
 | k+1,p=>adN mask k (adv mask p)
theorem bF (mask:Nat):∀ (a b:Nat) (p:Probe),adN mask (a+b) p=adN mask b (adN mask a p)
 | 0,b,p=>by rw[A3];rfl
 | a+1,b,p=>by rw[BD];exact bF mask a b (adv mask p)
theorem kH (mask k:Nat)(p:Probe):adN mask (k+1) p=adv mask (adN mask k p):=bF mask k 1 p
theorem iG (mask:Nat)(p:Probe):(adv mask p).dummy=p.dummy:=by unfold adv;split <;>rfl
theorem jb (mask:Nat):∀ (k:Nat) (p:Probe),(adN mask k p).dummy=p.dummy
 | 0,_=>rfl
 | k+1,p=>by rw[adN,jb mask k,iG]
def at0 (mask i pt:Nat)(d:Option Nat):Probe:={ j:=i,more:=runEnd mask i-i,i:=i,perturb:=pt,dummy:=d }
theorem qw (mask i:Nat):runEnd mask i-i<=9:=by unfold runEnd;split <;>omega
theorem eV (mask:Nat):∀ (m:Nat) (p:Probe),p.more=m->adN mask (m+1) p=at0 mask (leap mask p.i p.perturb).1 (leap mask p.i p.perturb).2 p.dummy
 | 0,p,h=>by
  unfold adN adN adv;rw[if_neg ⋯];rfl
 | m+1,p,h=>by
  rw[adN];have e:adv mask p={ p with j:=p.j+1,more:=p.more-1 }:=by unfold adv;rw[if_pos ⋯]
  rw[e];exact eV mask m _ (by show p.more-1=m;omega)
def lps (mask:Nat):Nat->Nat×Nat->Nat×Nat
 | 0,x=>x
 | l+1,x=>lps mask l (leap mask x.1 x.2)
theorem qY (mask:Nat):∀ (l:Nat) (p:Probe),p.more<=9->∃ k,k<=10*(l+1)/\adN mask k p=at0 mask (lps mask (l+1) (p.i,p.perturb)).1 (lps mask (l+1) (p.i,p.perturb)).2 p.dummy
 | 0,p,h=>⟨p.more+1,⋯,eV mask _ p rfl⟩
 | l+1,p,h=>by
  obtain⟨k,h1,h2⟩:=qY mask l (at0 mask (leap mask p.i p.perturb).1 (leap mask p.i p.perturb).2 p.dummy) (qw _ _);refine⟨p.more+1+k,⋯,?_⟩;rw[bF,eV mask _ p rfl,h2];rfl
theorem mZ (mask:Nat):∀ (a b:Nat) (x:Nat×Nat),lps mask (a+b) x=lps mask b (lps mask a x)
 | 0,b,x=>by rw[A3];rfl
 | a+1,b,x=>by rw[BD];exact mZ mask a b _
theorem rj (mask:Nat):∀ (a:Nat) (x:Nat×Nat),(lps mask a x).2=x.2/32 ^ a
 | 0,x=>by simp[lps]
 | a+1,x=>by
  rw[lps,rj mask a];show x.2/32/32 ^ a=_
  rw[Nat.div_div_eq_div_mul,Nat.pow_succ,A2]
def g5 (mask i:Nat):Nat:=(i*5+1)%(mask+1)
def g5n (mask:Nat):Nat->Nat->Nat
 | 0,i=>i
 | k+1,i=>g5n mask k (g5 mask i)
theorem lx (mask:Nat):∀ (a i:Nat),lps mask a (i,0)=(g5n mask a i,0)
 | 0,i=>rfl
 | a+1,i=>by
  rw[lps];have:leap mask i 0=(g5 mask i,0):=by simp[leap,g5]
  show lps mask a (leap mask i 0)=_
  rw[this,lx mask a];rfl
theorem gr (mask:Nat):∀ (a b i:Nat),g5n mask (a+b) i=g5n mask b (g5n mask a i)
 | 0,b,i=>by rw[A3];rfl
 | a+1,b,i=>by rw[BD];exact gr mask a b _
def Mk (mask:Nat):Prop:=mask=7\/mask=31\/mask=127
def mK (mask:Nat):Bool:=((List.range (mask+1)).all λ s=>(List.range (mask+1)).any λ a=>g5n mask a 0 == s)&&(g5n mask (mask+1) 0 == 0)
theorem qd {mask:Nat}(h:Mk mask):mK mask=true:=by
 rcases h with rfl|rfl|rfl <;>decide +kernel
theorem oo {mask:Nat}(h:Mk mask){i s:Nat}(hi:i<=mask)(hs:s<=mask):∃ m,m<=mask/\g5n mask m i=s:=by
 have o:=qd h;unfold mK at o;rw[yL] at o;have g:=λ x (hx:x<=mask)=>List.any_eq_true.mp (List.all_eq_true.mp o.1 x (List.mem_range.mpr ⋯))
 obtain⟨a,ha,ea⟩:=g i hi;obtain⟨b,hb,eb⟩:=g s hs;have ha:=List.mem_range.mp ha;have hb:=List.mem_range.mp hb;have ea:=beq_iff_eq.mp ea;have eb:=beq_iff_eq.mp eb;have ez:=beq_iff_eq.mp o.2;by_cases q:a<=b
 ·refine⟨b-a,⋯,?_⟩
  rw[<- ea,<- gr,Bq q,eb]
 ·refine⟨mask+1-a+b,⋯,?_⟩
  rw[<- ea,<- gr,<- BU,Bq ⋯,gr,ez,eb]
theorem jM (mask i pt:Nat):(leap mask i pt).1<=mask:=by
 show (i*5+1+pt/32)%(mask+1)<=mask
 have:=Bp (i*5+1+pt/32) (show 0<mask+1 by omega);omega
theorem qL (mask:Nat):∀ (l:Nat) (x:Nat×Nat),(lps mask (l+1) x).1<=mask
 | 0,x=>jM _ _ _
 | l+1,x=>by rw[lps];exact qL mask l _
theorem nI {mask:Nat}(h:Mk mask){i pt s:Nat}(hp:pt<2 ^ 64)(hs:s<=mask):∃ l,l+1<=mask+13/\(lps mask (l+1) (i,pt)).1=s:=by
 have h0:(lps mask 13 (i,pt)).2=0:=by
  rw[rj];exact Nat.div_eq_of_lt (AG hp (by decide))
 obtain⟨m,hm,e⟩:=oo h (qL mask 12 (i,pt)) hs;refine⟨12+m,⋯,?_⟩;rw[show 12+m+1=13+m by omega,mZ];have:lps mask 13 (i,pt)=((lps mask 13 (i,pt)).1,0):=by rw[<- h0]
 rw[this,lx];exact e
theorem cover {mask:Nat}(h:Mk mask){p:Probe}(hm:p.more<=9)(hp:p.perturb<2 ^ 64){s:Nat}(hs:s<=mask):∃ k,k<10*turns mask/\(adN mask k p).j=s:=by
 obtain⟨l,h1,h2⟩:=nI h (i:=p.i) hp hs;obtain⟨k,h3,h4⟩:=qY mask l p hm;exact⟨k,by unfold turns;omega,by rw[h4];exact h2⟩
def start (mask:Nat)(h:Int):Probe:=at0 mask (bits h%(mask+1)) (bits h) none
theorem nD (h:Int):bits h<2 ^ 64:=by
 unfold bits;have h1:=A8 h (show (2 ^ 64:Int)≠0 by decide);have h2:=AH h (show (0:Int)<2 ^ 64 by decide);omega
theorem kU {P:Nat->Prop}[DecidablePred P]:∀ (k:Nat),P k->∃ k0,k0<=k/\P k0/\∀ k',k'<k0->¬ P k'
 | 0,h=>⟨0,yW _,h,λ k' hk=>⋯⟩
 | k+1,h=>by
  by_cases q:∃ k',k'<=k/\P k'
  ·obtain⟨k',h1,h2⟩:=q
   have:∀ m,m<=k->P m->∃ k0,k0<=k/\P k0/\∀ k',k'<k0->¬ P k':=λ m hm hp=>by
    obtain⟨k0,a,b,c⟩:=kU m hp;exact⟨k0,⋯,b,c⟩
   obtain⟨k0,a,b,c⟩:=this k' h1 h2;exact⟨k0,⋯,b,c⟩
  ·exact⟨k+1,yW _,h,λ k' hk hp=>q ⟨k',⋯,hp⟩⟩
instance (t:SetTable)(j:Nat):Decidable (Occ t j):=inferInstanceAs (Decidable (j∈t.place.toList))
theorem pX {l:List Nat}:∀ {n:Nat},l.Nodup->(∀ x∈l,x<n)->l.length<=n:=λ {n} nd h=>by
 have:=nd.length_le_of_subset (l₂:=List.range n) λ x hx=>List.mem_range.mpr (h x hx)
 simpa using this
theorem se {t:SetTable}(r:Ris t.place)(hf:t.place.size<=t.mask):∃ s,s<=t.mask/\¬ Occ t s:=by
 refine C9 λ hn=>?_
 have all:∀ s∈List.range (t.mask+1),s∈t.place.toList:=λ s hs=>C9 λ q=>hn ⟨s,by have:=List.mem_range.mp hs;omega,q⟩
 have:=(AX (n:=t.mask+1)).length_le_of_subset all;simp at this;omega
theorem lY {t:SetTable}(r:Ris t.place)(hk:Mk t.mask)(hf:t.place.size<=t.mask)(h:Int):∃ k0,k0<10*turns t.mask/\¬ Occ t (adN t.mask k0 (start t.mask h)).j/\∀ k',k'<k0->Occ t (adN t.mask k' (start t.mask h)).j:=by
 obtain⟨s,h1,h2⟩:=se r hf;obtain⟨k,h3,h4⟩:=cover hk (p:=start t.mask h) (qw _ _) (nD h) h1;obtain⟨k0,a,b,c⟩:=kU (P:=λ k=>¬ Occ t (adN t.mask k (start t.mask h)).j) k (by rw[h4];exact h2);exact⟨k0,⋯,b,λ k' hk'=>Decidable.not_not.mp (c k' hk')⟩
theorem iz {t:SetTable}(r:Ris t.place)(hd:t.dummies=#[]){hashAt:Nat->Int}{h:Int}:∀ (k fuel:Nat) (p:Probe),p.dummy=none->k<fuel->(∀ k',k'<k->∃ i,i<t.place.size/\t.place.getD i 0=(adN t.mask k' p).j/\hashAt i≠h) ->
  (¬ Occ t (adN t.mask k p).j->probe.go t hashAt h fuel p=some (.empty (adN t.mask k p).j none)) /\
  ∀ i,i<t.place.size->t.place.getD i 0=(adN t.mask k p).j->hashAt i=h->probe.go t hashAt h fuel p=some (.candidate (adN t.mask k p).j i (adN t.mask (k+1) p))
 | 0,0,p,_,hf,_=>⋯
 | k+1,0,p,_,hf,_=>⋯
 | 0,fuel+1,p,hn,hf,_=>by
  refine⟨λ ho=>?_,λ i hi e eh=>?_⟩
  ·unfold probe.go
   rw[show t.slot p.j=.empty from lE hd ho,hn];rfl
  ·unfold probe.go
   have:t.slot p.j=.live i:=by
    have e:t.place.getD i 0=p.j:=e;rw[<- e];exact fE r hi
   rw[this];simp only[eh,beq_self_eq_true,if_true];rfl
 | k+1,fuel+1,p,hn,hf,hs=>by
  obtain⟨i,hi,e,ne⟩:=hs 0 ⋯;have sl:t.slot p.j=.live i:=by
   have e:t.place.getD i 0=p.j:=e;rw[<- e];exact fE r hi
  have st:probe.go t hashAt h (fuel+1) p=probe.go t hashAt h fuel (adv t.mask p):=by
   rw[probe.go,sl];have:(hashAt i == h)=false:=by simpa using ne
   simp only[this,yK,if_false];rfl
  rw[st];exact iz r hd k fuel (adv t.mask p) (by rw[iG];exact hn) ⋯ λ k' hk'=>hs (k'+1) ⋯
theorem bQ {α:Type}(xs:Array α)(p:Nat)(x:α):(insertAt xs p x).toList=xs.toList.take p++x::xs.toList.drop p:=by
 unfold insertAt;simp[Array.toList_extract,zD]
theorem ig {α:Type}(xs:Array α)(p:Nat)(x:α):(insertAt xs p x).size=xs.size+1:=by
 rw[<- Cj,bQ];simp;omega
theorem sO {xs:Array Nat}(r:Ris xs){j:Nat}(h:j∉xs.toList):Ris (insertAt xs (below xs j) j):=by
 obtain⟨h1,h2,h3⟩:=eP r j;unfold Ris;rw[bQ];have tk:∀ x∈xs.toList.take (below xs j),x<j:=λ x hx=>by
  obtain⟨i,hi,rfl⟩:=zj hx;rw[List.getElem_take];rw[zo] at hi;have hi':i<xs.size:=by have:=Cj (xs:=xs);omega
  have:=h2 i ⋯;simpa[Cy,hi'] using this
 have dr:∀ x∈xs.toList.drop (below xs j),j<x:=λ x hx=>by
  have hm:=List.mem_of_mem_drop hx;obtain⟨i,hi,e⟩:=zj hx;rw[List.getElem_drop] at e;rw[Av] at hi;have hi':below xs j+i<xs.size:=by have:=Cj (xs:=xs);omega
  have h4:=h3 (below xs j+i) ⋯ hi';have h5:j<=x:=by rw[<- e];simpa[Cy,hi'] using h4
  have h6:j≠x:=λ q=>h (q▸hm)
  omega
 refine List.pairwise_append.mpr ⟨List.Pairwise.sublist (BG _ _) r,List.pairwise_cons.mpr ⟨dr,List.Pairwise.sublist (List.drop_sublist _ _) r⟩,λ x hx y hy=>?_⟩
 rcases List.mem_cons.mp hy with rfl|hy
 ·exact tk x hx
 ·exact AG (tk x hx) (dr y hy)
theorem ins_mem {α:Type}{xs:Array α}{p:Nat}{x y:α}:y∈(insertAt xs p x).toList ↔ y=x\/y∈xs.toList:=by
 rw[bQ,Am,zR];have:y∈xs.toList ↔ y∈xs.toList.take p\/y∈xs.toList.drop p:=by
  conv=>lhs;rw[<- zV p xs.toList]
  exact Am
 rw[this]
 constructor
 ·rintro (a|a|a)
  ·exact .inr (.inl a)
  ·exact .inl a
  ·exact .inr (.inr a)
 ·rintro (a|a|a)
  ·exact .inr (.inl a)
  ·exact .inl a
  ·exact .inr (.inr a)
theorem tw {α β:Type}{xs:Array α}{ys:Array β}(hl:xs.size=ys.size)(p:Nat)(x:α)(y:β)(q:α×β):q∈(insertAt xs p x).toList.zip (insertAt ys p y).toList ↔ q=(x,y)\/q∈xs.toList.zip ys.toList:=by
 have hl':xs.toList.length=ys.toList.length:=by simpa using hl
 rw[bQ,bQ,BP (by rw[zo,zo,hl']),List.zip_cons_cons,Am,zR];have e:xs.toList.zip ys.toList=(xs.toList.take p).zip (ys.toList.take p)++(xs.toList.drop p).zip (ys.toList.drop p):=by
  rw[<- BP (by rw[zo,zo,hl']),zV,zV]
 rw[e,Am]
 constructor
 ·rintro (a|a|a)
  ·exact .inr (.inl a)
  ·exact .inl a
  ·exact .inr (.inr a)
 ·rintro (a|a|a)
  ·exact .inr (.inl a)
  ·exact .inl a
  ·exact .inr (.inr a)
def Fits (mask n:Nat):Prop:=(mask=7/\n<5)\/(mask=31/\n<19)\/(mask=127/\n<77)
theorem Fits.mk {mask n:Nat}(h:Fits mask n):Mk mask:=by rcases h with h|h|h <;>simp[Mk,h.1]
theorem Fits.le {mask n:Nat}(h:Fits mask n):n+1<=mask:=by rcases h with h|h|h <;>omega
def Way (mask:Nat)(occ:Nat->Prop)(h:Int)(j:Nat):Prop:=∃ k,(adN mask k (start mask h)).j=j/\∀ k',k'<k->occ (adN mask k' (start mask h)).j
theorem Way.mono {mask:Nat}{o o':Nat->Prop}{h:Int}{j:Nat}(w:Way mask o h j)(m:∀ x,o x->o' x):Way mask o' h j:=let ⟨k,a,b⟩:=w;⟨k,a,λ k' hk=>m _ (b k' hk)⟩
structure TI {α:Type}(t:SetTable)(es:Array (Int×α)):Prop where
 size:t.place.size=es.size
 ris:Ris t.place
 le:∀ j,Occ t j->j<=t.mask
 dum:t.dummies=#[]
 way:∀ q∈es.toList.zip t.place.toList,Way t.mask (Occ t) q.1.1 q.2
theorem TI.fresh {α:Type}(f m:Nat)(l:Bool):TI (α:=α) (.fresh f m l) #[]:=⟨rfl,List.Pairwise.nil,λ j h=>(by cases h),rfl,λ q h=>(by simp at h)⟩
theorem TI.put {α:Type}{t:SetTable}{es:Array (Int×α)}(T:TI t es){h:Int}{x:α}{j:Nat}(hj:j<=t.mask)(ho:¬ Occ t j)(w:Way t.mask (Occ t) h j):
  (t.put j).2=below t.place j/\TI (t.put j).1 (insertAt es (below t.place j) (h,x))/\(t.put j).1.mask=t.mask/\(t.put j).1.plain=t.plain/\(t.put j).1.led=t.led/\(t.put j).1.moves=t.moves/\(t.put j).1.finger=t.finger:=by
 have ed:(if has t.dummies j then eraseAt t.dummies (below t.dummies j) else t.dummies)=#[]:=by
  rw[T.dum,mV];rfl
 have ep:(t.put j).1.place=insertAt t.place (below t.place j) j:=rfl;refine⟨rfl,⟨?_,?_,λ k hk=>?_,ed,λ q hq=>?_⟩,rfl,rfl,rfl,rfl,rfl⟩
 ·rw[ep,ig,ig,T.size]
 ·rw[ep];exact sO T.ris ho
 ·have hk:k∈(insertAt t.place (below t.place j) j).toList:=hk
  rcases ins_mem.mp hk with rfl|hk
  ·exact hj
  ·exact T.le k hk
 ·have mo:∀ x,Occ t x->Occ (t.put j).1 x:=λ x hx=>ins_mem.mpr (.inr hx)
  rcases (tw T.size.symm _ _ _ q).mp hq with rfl|hq
  ·exact w.mono mo
  ·exact(T.way q hq).mono mo
def own (o:Array (Option Nat))(j:Nat):Prop:=((o.getD j (some 0)).isNone)=false
instance (o:Array (Option Nat))(j:Nat):Decidable (own o j):=inferInstanceAs (Decidable (_=_))
theorem gw (mask i pt:Nat)(d:Option Nat):∀ (k:Nat),k<=runEnd mask i-i->(adN mask k (at0 mask i pt d)).j=i+k/\(adN mask k (at0 mask i pt d)).more=runEnd mask i-i-k/\(adN mask k (at0 mask i pt d)).i=i/\(adN mask k (at0 mask i pt d)).perturb=pt
 | 0,_=>⟨rfl,rfl,rfl,rfl⟩
 | k+1,h=>by
  obtain⟨a,b,c,e⟩:=gw mask i pt d k ⋯;rw[kH];unfold adv;rw[if_pos ⋯];refine⟨?_,?_,c,e⟩
  ·show (adN mask k (at0 mask i pt d)).j+1=_;omega
  ·show (adN mask k (at0 mask i pt d)).more-1=_;omega
theorem nh {mask:Nat}{o:Array (Option Nat)}:∀ (fuel i pt:Nat),(∃ l,l<fuel/\¬ own o (lps mask l (i,pt)).1)->i<=runEnd mask i ->
  ∃ j,layClean.free mask o fuel i pt=some j/\¬ own o j/\∃ k,(adN mask k (at0 mask i pt none)).j=j/\∀ k',k'<k->own o (adN mask k' (at0 mask i pt none)).j
 | 0,i,pt,⟨l,h,_⟩,_=>⋯
 | fuel+1,i,pt,⟨l,h,hl⟩,hr=>by
  unfold layClean.free;cases hf:(List.range (runEnd mask i+1-i)).find? λ k=>(o.getD (i+k) (some 0)).isNone with
  | some k=>
   refine⟨i+k,rfl,?_,k,?_,λ k' hk'=>?_⟩
   ·have:=BQ hf
    unfold own;rw[this];simp
   ·have hk:=List.mem_range.mp (zL hf)
    exact(gw mask i pt none k ⋯).1
   ·have hk:=List.mem_range.mp (zL hf)
    rw[(gw mask i pt none k' ⋯).1];obtain⟨_,as,bs,e,h2⟩:=List.find?_eq_some_iff_append.mp hf;have hm:k'∈as:=by
     have h3:as.length=k:=by
      have:(List.range (runEnd mask i+1-i))[as.length]?=some k:=by rw[e];simp
      rw[z0 (by
       have:=congrArg List.length e;simp at this;omega)] at this
      exact Option.some.inj this
     have:(List.range (runEnd mask i+1-i))[k']?=as[k']?:=by rw[e,zl ⋯]
     rw[z0 ⋯] at this;exact zX this.symm
    have:=h2 k' hm;unfold own;simp only[Bool.not_eq_true'] at this;exact this
  | none=>
   have hn:=List.find?_eq_none.mp hf;have occ:∀ k,k<=runEnd mask i-i->own o (i+k):=λ k hk=>by
    have:=hn k (List.mem_range.mpr ⋯);unfold own;exact Bool.eq_false_iff.mpr this
   obtain⟨l',rfl⟩:∃ l',l=l'+1:=by
    cases l with
    | zero=>exact absurd (occ 0 ⋯) (by simpa[lps] using hl)
    | succ l'=>exact⟨l',rfl⟩
   have rl:(leap mask i pt).1<=runEnd mask (leap mask i pt).1:=by unfold runEnd;split <;>omega
   obtain⟨j,h1,h2,k,h3,h4⟩:=nh fuel (leap mask i pt).1 (leap mask i pt).2 ⟨l',⋯,hl⟩ rl;refine⟨j,h1,h2,runEnd mask i-i+1+k,?_,λ k' hk'=>?_⟩
   ·rw[bF,show adN mask (runEnd mask i-i+1) (at0 mask i pt none)=at0 mask (leap mask i pt).1 (leap mask i pt).2 none from eV mask _ (at0 mask i pt none) rfl]
    exact h3
   ·by_cases q:k'<=runEnd mask i-i
    ·rw[(gw mask i pt none k' q).1];exact occ k' q
    ·obtain⟨k'',rfl⟩:∃ k'',k'=runEnd mask i-i+1+k'':=⟨k'-(runEnd mask i-i+1),⋯⟩
     rw[bF,show adN mask (runEnd mask i-i+1) (at0 mask i pt none)=at0 mask (leap mask i pt).1 (leap mask i pt).2 none from eV mask _ (at0 mask i pt none) rfl];exact h4 k'' ⋯
structure OI (mask:Nat)(o:Array (Option Nat))(hs:List Int):Prop where
 size:o.size=mask+1
 rg:∀ (j i:Nat),o[j]?=some (some i)->i<hs.length/\Way mask (own o) (hs.getD i 0) j
 one:∀ (j j' i:Nat),o[j]?=some (some i)->o[j']?=some (some i)->j=j'
 all:∀ i,i<hs.length->∃ j:Nat,o[j]?=some (some i)
theorem jz {mask:Nat}{o:Array (Option Nat)}(hs:o.size=mask+1){j:Nat}(hj:j<=mask):¬ own o j ↔ o[j]?=some none:=by
 have h:j<o.size:=⋯
 unfold own;rw[Co h];simp only[Cy,h,dif_pos];show ¬ (o[j]).isNone=false ↔ some o[j]=some none
 generalize o[j]=v;cases v <;>simp
theorem OI.room {mask:Nat}{o:Array (Option Nat)}{hs:List Int}(O:OI mask o hs)(hl:hs.length<=mask):∃ s,s<=mask/\¬ own o s:=by
 refine C9 λ hn=>?_
 have all:∀ s,s<=mask->∃ i,o[s]?=some (some i):=λ s hs'=>by
  have h1:own o s:=C9 λ q=>hn ⟨s,hs',q⟩
  have h2:s<o.size:=by have:=O.size;omega
  cases h3:o[s]? with
  | none=>simp[h2] at h3
  | some v=>
   cases v with
   | none=>exact absurd h1 ((jz O.size hs').mpr h3)
   | some i=>exact⟨i,rfl⟩
 have mp:∀ s,∃ i,s<=mask->o[s]?=some (some i):=λ s=>by
  by_cases q:s<=mask
  ·obtain⟨i,e⟩:=all s q;exact⟨i,λ _=>e⟩
  ·exact⟨0,λ z=>absurd z q⟩
 let f:=λ s=>FA (mp s)
 have hf:∀ s,s<=mask->o[s]?=some (some (f s)):=λ s=>ER (mp s)
 have nd:((List.range (mask+1)).map f).Nodup:=by
  refine List.pairwise_map.mpr (List.Pairwise.imp_of_mem ?_ (AX (n:=mask+1)));intro a b ha hb hab e;have ha:=List.mem_range.mp ha;have hb:=List.mem_range.mp hb;have h1:=hf a ⋯;have h2:=hf b ⋯;rw[<- e] at h2;exact hab (O.one _ _ _ h1 h2)
 have:=pX nd (n:=hs.length) λ x hx=>by
  obtain⟨s,hs',rfl⟩:=List.mem_map.mp hx;exact(O.rg s _ (hf s (by have:=List.mem_range.mp hs';omega))).1
 rw[yC,zA] at this;omega
theorem lK {mask:Nat}(h:Int):∀ k,(adN mask k (start mask h)).j<=mask/\(adN mask k (start mask h)).j+(adN mask k (start mask h)).more<=mask:=by
 have rl:∀ i,i<=mask->i+(runEnd mask i-i)<=mask:=λ i hi=>by unfold runEnd;split <;>omega
 intro k
 induction k with
 | zero=>
  have:bits h%(mask+1)<=mask:=by have:=Bp (bits h) (show 0<mask+1 by omega);omega
  exact⟨this,rl _ this⟩
 | succ k ih=>
  rw[kH];unfold adv
  split
  ·refine⟨?_,?_⟩
   ·show (adN mask k (start mask h)).j+1<=mask;omega
   ·show (adN mask k (start mask h)).j+1+((adN mask k (start mask h)).more-1)<=mask;omega
  ·exact⟨jM _ _ _,rl _ (jM _ _ _)⟩
theorem OI.step {mask:Nat}(hk:Mk mask){o:Array (Option Nat)}{hs:List Int}(O:OI mask o hs)(hl:hs.length<=mask)(h:Int):∃ j,layClean.free mask o (turns mask) (bits h%(mask+1)) (bits h)=some j/\OI mask (o.setIfInBounds j (some hs.length)) (hs++[h]):=by
 obtain⟨s,h1,h2⟩:=O.room hl;obtain⟨l,h3,h4⟩:=nI hk (i:=bits h%(mask+1)) (nD h) h1;obtain⟨j,e,hj,k,e2,e3⟩:=nh (mask:=mask) (o:=o) (turns mask) (bits h%(mask+1)) (bits h) ⟨l+1,by unfold turns;omega,by rw[h4];exact h2⟩ (by unfold runEnd;split <;>omega);have hjm:j<=mask:=by rw[<- e2];exact(lK h k).1
 have hjs:j<o.size:=by have:=O.size;omega
 have mo:∀ x,own o x->own (o.setIfInBounds j (some hs.length)) x:=λ x hx=>by
  by_cases q:j=x
  ·subst q;exact absurd hx hj
  ·unfold own at hx ⊢
   have:(o.setIfInBounds j (some hs.length)).getD x (some 0)=o.getD x (some 0):=by
    simp only[Array.getD_eq_getD_getElem?];rw[CB q]
   rw[this];exact hx
 have hno:=(jz O.size hjm).mp hj;refine⟨j,e,by rw[Array.size_setIfInBounds];exact O.size,λ j' i hi=>?_,λ a b i ha hb=>?_,λ i hi=>?_⟩
 ·by_cases q:j=j'
  ·subst q
   rw[CL hjs] at hi;have hi:hs.length=i:=Option.some.inj (Option.some.inj hi);subst hi;refine⟨by simp,?_⟩;rw[yI,zp (yW _)];simp only[B3,yA,yQ];exact Way.mono ⟨k,e2,e3⟩ mo
  ·rw[CB q] at hi
   obtain⟨a,b⟩:=O.rg j' i hi;refine⟨by simp;omega,?_⟩;rw[yI,zl a,<- yI];exact b.mono mo
 ·by_cases qa:j=a <;>by_cases qb:j=b
  ·omega
  ·subst qa
   rw[CL hjs] at ha;rw[CB qb] at hb;have ha:hs.length=i:=Option.some.inj (Option.some.inj ha);have:=(O.rg b i hb).1;omega
  ·subst qb
   rw[CL hjs] at hb;rw[CB qa] at ha;have hb:hs.length=i:=Option.some.inj (Option.some.inj hb);have:=(O.rg a i ha).1;omega
  ·rw[CB qa] at ha
   rw[CB qb] at hb;exact O.one a b i ha hb
 ·by_cases q:i=hs.length
  ·subst q;exact⟨j,CL hjs⟩
  ·obtain⟨j',e'⟩:=O.all i (by simp at hi;omega)
   have:j≠j':=λ z=>by subst z;rw[hno] at e';cases e'
   exact⟨j',by rw[CB this];exact e'⟩
theorem OI.fold {mask:Nat}(hk:Mk mask):∀ (r hs:List Int) (o:Array (Option Nat)),OI mask o hs->hs.length+r.length<=mask+1 ->
  ∃ o',r.foldl (λ (acc:Option (Array (Option Nat)×Nat)) h=>do let (owner,k) <- acc;let j <- layClean.free mask owner (turns mask) (bits h%(mask+1)) (bits h);pure (owner.setIfInBounds j (some k),k+1)) (some (o,hs.length))=some (o',hs.length+r.length)/\OI mask o' (hs++r)
 | [],hs,o,O,_=>⟨o,rfl,by rw[Al];exact O⟩
 | h::r,hs,o,O,hl=>by
  simp only[yE] at hl;obtain⟨j,e,O'⟩:=O.step hk ⋯ h;obtain⟨o',e',O''⟩:=OI.fold hk r (hs++[h]) _ O' (by simp;omega);refine⟨o',?_,by rw[zw] at O'';exact O''⟩;rw[yT];have:(do let (owner,k) <- some (o,hs.length);let j <- layClean.free mask owner (turns mask) (bits h%(mask+1)) (bits h);pure (owner.setIfInBounds j (some k),k+1):Option (Array (Option Nat)×Nat))=some (o.setIfInBounds j (some hs.length),hs.length+1):=by
   simp[e]
  rw[this];have e1:(hs++[h]).length=hs.length+1:=by simp
  rw[e1] at e';rw[e',yE];congr 2;omega
theorem rq {mask:Nat}(hk:Mk mask)(hs:Array Int)(hl:hs.size<=mask):∃ o,layClean mask hs=some o/\OI mask o hs.toList:=by
 have O0:OI mask (Array.replicate (mask+1) none) []:=⟨by simp,λ j i h=>by simp[Es] at h,λ j j' i h=>by simp[Es] at h,λ i h=>by simp at h⟩;obtain⟨o,e,O⟩:=OI.fold hk hs.toList [] _ O0 (by simp;omega);refine⟨o,?_,by simpa using O⟩;unfold layClean;rw[<- Array.foldl_toList];have:([]:List Int).length=0:=rfl;rw[this] at e;rw[e];rfl
def bu (mask:Nat)(o:Array (Option Nat)):List (Nat×Nat):=(List.range (mask+1)).filterMap λ j=>(o.getD j none).map (j,·)
theorem cq {mask:Nat}{o:Array (Option Nat)}(hs:o.size=mask+1){j i:Nat}:(j,i)∈bu mask o ↔ o[j]?=some (some i):=by
 unfold bu;rw[List.mem_filterMap]
 constructor
 ·rintro ⟨j',hj,e⟩
  have hj:=List.mem_range.mp hj;have h:j'<o.size:=⋯
  simp only[Cy,h,dif_pos] at e;cases hv:o[j'] with
  | none=>
   have e:(o[j']).map (λ x=>(j',x))=some (j,i):=e;rw[hv] at e;cases e
  | some v=>
   have e:(o[j']).map (λ x=>(j',x))=some (j,i):=e;rw[hv] at e;simp at e;obtain⟨rfl,rfl⟩:=e;rw[Co h,hv]
 ·intro e
  have h:j<o.size:=by
   rcases BE j o.size with q|q
   ·exact q
   ·simp[CN q] at e
  refine⟨j,List.mem_range.mpr ⋯,?_⟩;rw[Co h] at e;have e:o[j]=some i:=Option.some.inj e;simp only[Cy,h,dif_pos];show (o[j]).map (λ x=>(j,x))=some (j,i)
  rw[e];rfl
theorem lz (mask:Nat)(o:Array (Option Nat)):((bu mask o).map (·.1)).Pairwise (·<·):=by
 unfold bu;refine List.pairwise_map.mpr (List.Pairwise.filterMap _ (λ a a' h b hb b' hb'=>?_) List.pairwise_lt_range);cases hv:o.getD a none with
 | none=>rw[hv] at hb;simp at hb
 | some v=>
  cases hv':o.getD a' none with
  | none=>rw[hv'] at hb';simp at hb'
  | some v'=>
   rw[hv] at hb;rw[hv'] at hb';simp at hb hb';subst hb;subst hb';exact h
theorem oM {mask:Nat}{o:Array (Option Nat)}{hs:List Int}(O:OI mask o hs):((bu mask o).map (·.2)).Perm (List.range hs.length):=by
 have nd:(bu mask o).Nodup:=by
  have:=lz mask o;have h2:=List.pairwise_map.mp this;exact h2.imp λ {a b} h e=>by subst e;omega
 have nd2:((bu mask o).map (·.2)).Nodup:=by
  refine List.pairwise_map.mpr (List.Pairwise.imp_of_mem ?_ nd);intro a b ha hb hab e;obtain⟨j,i⟩:=a;obtain⟨j',i'⟩:=b;have e:i=i':=e;subst e;have:=O.one j j' i ((cq O.size).mp ha) ((cq O.size).mp hb);subst this;exact hab rfl
 refine(zG nd2 AX).mpr λ i=>?_
 rw[List.mem_range,zQ]
 constructor
 ·rintro ⟨⟨j,i'⟩,h,rfl⟩
  exact(O.rg j i' ((cq O.size).mp h)).1
 ·intro h
  obtain⟨j,e⟩:=O.all i h;exact⟨(j,i),(cq O.size).mpr e,rfl⟩
theorem gv {α:Type}(es:Array α)(d:α):∀ (l:List Nat),(∀ i∈l,i<es.size)->l.filterMap (es[·]?)=l.map λ i=>es.getD i d
 | [],_=>rfl
 | i::l,h=>by
  have hi:=h i yG;rw[Aj,Co hi,yB,gv es d l λ x hx=>h x (yF _ hx)];simp[Cy,hi]
theorem nY {α:Type}{t:SetTable}{es:Array (Int×α)}{wanted mask':Nat}(hk:Mk mask')(hl:es.size<=mask')(hw:sizeAbove wanted-1=mask'):
  ∃ t' order,t.relaid (es.map (·.1)) wanted=some (t',order)/\(order.filterMap (es[·]?)).toList.Perm es.toList/\TI t' (order.filterMap (es[·]?))/\t'.mask=mask'/\t'.plain=t.plain/\t'.led=t.led:=by
 obtain⟨o,e,O⟩:=rq hk (es.map (·.1)) (by simpa using hl);have hn:(es.map (·.1)).toList.length=es.size:=by simp
 have lp:=oM O;rw[hn] at lp;have inr:∀ i∈(bu mask' o).map (·.2),i<es.size:=λ i hi=>List.mem_range.mp (lp.mem_iff.mp hi)
 refine⟨{ mask:=mask',place:=((bu mask' o).map (·.1)).toArray,dummies:=#[],finger:=t.finger,led:=t.led,moves:=t.movedTo mask',plain:=t.plain },((bu mask' o).map (·.2)).toArray,?_,?_⟩
 ·unfold relaid laid
  rw[hw,e];rfl
 have ef:((((bu mask' o).map (·.2)).toArray).filterMap (es[·]?)).toList=((bu mask' o).map (·.2)).filterMap (es[·]?):=by
  rw[Array.toList_filterMap]
 refine⟨?_,⟨?_,lz mask' o,λ j hj=>?_,rfl,λ q hq=>?_⟩,rfl,rfl,rfl⟩
 ·rw[ef]
  have h1:=lp.filterMap (es[·]?);refine h1.trans ?_
  refine List.Perm.of_eq ?_
  refine Aq λ i=>?_
  by_cases z:es.size=0
  ·have:es=#[]:=by simpa using z
   subst this;simp
  ·have d:=es[0]'⋯
   rw[gv es d _ λ i hi=>List.mem_range.mp hi];rw[ze];by_cases hi:i<es.size
   ·rw[z0 hi]
    simp[Cy,hi]
   ·rw[zJ (by simp;omega),C8,CN ⋯]
    rfl
 ·have h2:((((bu mask' o).map (·.2)).toArray).filterMap (es[·]?)).size=(((bu mask' o).map (·.2)).filterMap (es[·]?)).length:=by rw[<- Cj,ef]
  rw[h2];show ((bu mask' o).map (·.1)).toArray.size=_
  rw[yS,yC];by_cases z:es.size=0
  ·have:bu mask' o=[]:=by
    have:=lp.length_eq;rw[z] at this;simpa using this
   rw[this];rfl
  ·have d:=es[0]'⋯
   rw[gv es d _ inr];simp
 ·have hj:j∈((bu mask' o).map (·.1)).toArray.toList:=hj
  obtain⟨i,h⟩:∃ i,(j,i)∈bu mask' o:=by simpa using hj
  have:=(cq O.size).mp h;have h3:j<o.size:=by
   rcases BE j o.size with q|q
   ·exact q
   ·simp[CN q] at this
  have:=O.size;show j<=mask'
  omega
 ·have d:Int×α:=by
   have:q∈_:=hq;exact q.1
  have hq:q∈((((bu mask' o).map (·.2)).toArray).filterMap (es[·]?)).toList.zip ((bu mask' o).map (·.1)):=by simpa using hq
  rw[ef,gv es d _ inr,zb,List.zip_map',zQ] at hq;obtain⟨⟨j,i⟩,hm,rfl⟩:=hq;have hO:=(cq O.size).mp hm;obtain⟨a,w⟩:=O.rg j i hO;have hi:i<es.size:=by simpa using a
  have eh:(es.map (·.1)).toList.getD i 0=(es.getD i d).1:=by
   simp[yI,Cy,hi]
  rw[eh] at w;obtain⟨k,ek,wk⟩:=w;refine⟨k,ek,λ k' hk'=>?_⟩;have hx:=wk k' hk';have hb:=(lK (mask:=mask') (es.getD i d).1 k').1;show Occ _ (adN mask' k' (start mask' (es.getD i d).1)).j
  generalize (adN mask' k' (start mask' (es.getD i d).1)).j=x at hx hb;show x∈((bu mask' o).map (·.1)).toArray.toList
  have q:x<o.size:=by have:=O.size;omega
  cases hv:o[x]? with
  | none=>simp[q] at hv
  | some v=>
   cases v with
   | none=>
    have:=O.size;exact absurd hx ((jz O.size ⋯).mpr hv)
   | some i'=>
    simp only[zQ];exact⟨(x,i'),(cq O.size).mpr hv,rfl⟩
section
variable {prog:Program}{w:World}{A:Around}{E:Value->Shared->Prop}{s:Shared}
abbrev byT (w:World):Bool:=w.params.followText "set-order"
abbrev tk (prog:Program)(w:World)(ks:List Int):Int:=tupleKeyHash (intKind prog w) ks
abbrev IsK (prog:Program)(w:World)(h:Heap)(ks:List Int)(b:Addr):Prop:=IsTupleKey (intKind prog w) h ks b
def Ent (prog:Program)(w:World)(h:Heap)(e:Int×Value)(ks:List Int):Prop:=∃ b,e=(tk prog w ks,.ref b)/\IsK prog w h ks b
structure SetV (prog:Program)(w:World)(h:Heap)(a:Addr)(es:Array (Int×Value))(ep:Nat)(t:SetTable):Prop where
 obj:h.get? a=some { cls:=.type "set",dict:=none,data:=.set es ep t }
 ti:TI t es
 fit:Fits t.mask es.size
 plain:t.plain=true
 led:t.led=!byT w
 ent:∀ e∈es.toList,∃ ks,Ent prog w h e ks
theorem SetV.fits {h:Heap}{a:Addr}{es:Array (Int×Value)}{ep:Nat}{t:SetTable}(S:SetV prog w h a es ep t):t.fits es.size=true:=by
 have:=S.fit.le;unfold FK FL;rw[S.ti.dum,S.ti.size];simp;omega
theorem ko (n:Nat){v:Value}(h:∃ i t,v=.int i t):ofAClassStatement n v=pure false:=by
 obtain⟨i,t,rfl⟩:=h;cases n <;>rfl
theorem items_int {ks:List Int}:∀ {vs:List Value},ItemsAre (intKind prog w) ks vs->∀ v∈vs,∃ i t,v=.int i t:=λ {vs} h=>by
 induction h with
 | nil=>intro v hv;cases hv
 | @cons k v ks vs h1 _ ih=>
  intro u hu
  rcases List.mem_cons.mp hu with rfl|hu
  ·obtain⟨t,e⟩:=DM h1
   exact⟨_,t,e⟩
  ·exact ih u hu
theorem en {ks:List Int}{a:Addr}{Q:Bool->Shared->Prop}(hk:IsK prog w s.heap ks a)(h:Q false s):wpAny (model prog w) A (ofAClassStatement 8 (.ref a)) Q E s:=by
 have hT:=hk.typeIs;obtain⟨o,items,n,ho,_,hd,hi⟩:=hk;unfold ofAClassStatement;refine Cc (Et hT ?_);dsimp only;rw[if_pos (by decide)];refine Cc (Ce ?_);simp only[zd,yK,if_false];refine Cc ?_
 unfold seqItems?;refine Cc (wpAny_load ho ?_);rw[hd];refine Ce ?_
 dsimp only;refine Cc ?_
 rw[<- Fg];refine Eu _ (λ rest r s'=>r.1=none/\s'=s/\∀ v∈rest,∃ i t,v=Dc i t) _ ?_ ?_ _ _ ⟨rfl,rfl,items_int hi⟩
 ·rintro v rest r s' ⟨hr,rfl,hall⟩
  rw[ko _ (hall v yG)];refine Cc (Ce ?_);simp only[yK,if_false];exact Ce ⟨rfl,rfl,λ u hu'=>hall u (yF _ hu')⟩
 ·rintro ⟨r1,r2⟩ s' ⟨hr,rfl,_⟩
  simp only at hr;subst hr;exact Ce h
theorem qz {ks:List Int}{a:Addr}{Q:Bool->Shared->Prop}(hk:IsK prog w s.heap ks a)(stored:List Value)(hs:∀ v∈stored,∃ b ks',v=.ref b/\IsK prog w s.heap ks' b)(h:Q false s):
  wpAny (model prog w) A (searchCouldBeSeen (.ref a) stored) Q E s:=by
 unfold searchCouldBeSeen;refine Cc ?_
 refine Eu _ (λ rest r s'=>r.1=none/\s'=s/\∀ v∈rest,∃ b ks',v=Cp b/\IsK prog w s.heap ks' b) _ ?_ ?_ _ _ ⟨rfl,rfl,hs⟩
 ·rintro v rest r s' ⟨hr,rfl,hall⟩
  obtain⟨b,ks',rfl,hb⟩:=hall v yG;have fin:(none:Option Bool)=none/\s'=s'/\∀ v∈rest,∃ b ks',v=Cp b/\IsK prog w s'.heap ks' b:=⟨rfl,rfl,λ u hu=>hall u (yF _ hu)⟩;dsimp only
  split
  ·exact Ce fin
  ·refine Cc (ES hk ?_)
   simp only[zd,yK,if_false];refine Cc (ES hb ?_);simp only[zd,yK,if_false];refine Cc (en hk ?_);simp only[yK,if_false];refine Cc (en hb ?_);simp only[yK,if_false];exact Ce fin
 ·rintro ⟨r1,r2⟩ s' ⟨hr,rfl,_⟩
  simp only at hr;subst hr;exact Ce h
theorem ib {es:Array (Int×Value)}{h:Int}{v:Value}(hv:v∈((es.filter (·.1 == h)).toList.map (·.2))):∃ e∈es.toList,e.2=v:=by
 obtain⟨e,he,rfl⟩:=List.mem_map.mp hv;have he:e∈es/\e.1=h:=by simpa using he
 exact⟨e,by simpa using he.1,rfl⟩
theorem qO {mask n:Nat}(h:Fits mask n):(mask%2 == 0)=false:=by rcases h with h|h|h <;>rw[h.1] <;>rfl
theorem kT {P:Nat->Prop}[DecidablePred P]{k0:Nat}:∀ (m k:Nat),k<=k0->k0-k=m->∃ k1,k<=k1/\k1<=k0/\(∀ k',k<=k'->k'<k1->¬ P k')/\(k1=k0\/P k1)
 | 0,k,h1,h2=>⟨k0,h1,yW _,λ k' a b=>⋯,.inl rfl⟩
 | m+1,k,h1,h2=>by
  by_cases q:P k
  ·exact⟨k,yW k,h1,λ (k':Nat) (a:k<=k') (b:k'<k)=>absurd a (Nat.not_le.mpr b),.inr q⟩
  ·obtain⟨k1,a,b,c,d⟩:=kT (P:=P) (k0:=k0) m (k+1) ⋯ ⋯
   refine⟨k1,⋯,b,λ k' h3 h4=>?_,d⟩;by_cases e:k'=k
   ·subst e;exact q
   ·exact c k' ⋯ h4
section
variable {a:Addr}{es:Array (Int×Value)}{ep:Nat}{t:SetTable}{x:Addr}{ks:List Int}{k0:Nat}{Q:SetFound->Shared->Prop}
theorem i6 (S:SetV prog w s.heap a es ep t)(hx:IsK prog w s.heap ks x)(hu:A.units<cLine)
  (hk0:k0<10*turns t.mask) (he0:¬ Occ t (adN t.mask k0 (start t.mask (tk prog w ks))).j) (hoc:∀ k',k'<k0->Occ t (adN t.mask k' (start t.mask (tk prog w ks))).j)
  (q1:(∃ e∈es.toList,Ent prog w s.heap e ks)->Q (.there none) s) (q2:(¬ ∃ e∈es.toList,Ent prog w s.heap e ks)->Q (.free (adN t.mask k0 (start t.mask (tk prog w ks))).j false) s)
  (k fuel:Nat) (stand:Option Probe) (h1:k<=k0) (h4:stand.getD (t.probeStart (tk prog w ks))=adN t.mask k (start t.mask (tk prog w ks)))
  (h5:∀ i,i<es.size->(∃ k',k'<k/\t.place.getD i 0=(adN t.mask k' (start t.mask (tk prog w ks))).j)->∀ e,es[i]?=some e->¬ Ent prog w s.heap e ks)
  (rec:∀ k',k<k'->k'<=k0->(∀ i,i<es.size->(∃ k'',k''<k'/\t.place.getD i 0=(adN t.mask k'' (start t.mask (tk prog w ks))).j)->∀ e,es[i]?=some e->¬ Ent prog w s.heap e ks) ->
   wpAny (model prog w) A (setSearchFrom a (.ref x) (tk prog w ks) true fuel (some (adN t.mask k' (start t.mask (tk prog w ks))))) Q E s):
  wpAny (model prog w) A (setSearchFrom a (.ref x) (tk prog w ks) true (fuel+1) stand) Q E s:=by
 have hsz:=S.ti.size;obtain⟨k1,a1,a2,a3,a4⟩:=kT (P:=λ k=>∃ i,i<es.size/\t.place.getD i 0=(adN t.mask k (start t.mask (tk prog w ks))).j/\(es.getD i (0,.none)).1=tk prog w ks) (k0-k) k h1 rfl;have pr:∀ F:Nat->Int,(∀ i,i<es.size->F i=(es.getD i (0,.none)).1)->(∀ k',k'<k1-k->∃ i,i<t.place.size/\t.place.getD i 0=(adN t.mask k' (adN t.mask k (start t.mask (tk prog w ks)))).j/\F i≠tk prog w ks):=λ F hF k' hk'=>by
  rw[<- bF];obtain⟨i,hi,e⟩:=wq (hoc (k+k') ⋯);refine⟨i,hi,e,λ z=>a3 (k+k') ⋯ ⋯ ⟨i,⋯,e,?_⟩⟩;rw[<- hF i ⋯];exact z
 have hd:(adN t.mask k (start t.mask (tk prog w ks))).dummy=none:=by rw[jb];rfl
 have hkk:k+(k1-k)=k1:=⋯
 unfold setSearchFrom;refine Cc (CV S.obj rfl S.fits ?_);dsimp only;rw[show t.gaveWay=false from qO S.fit];simp only[yK,if_false];rw[h4]
 rcases a4 with rfl|⟨i,hi,ei,eh⟩
 ·-- an empty place
  have key:∀ F:Nat->Int,(∀ i,i<es.size->F i=(es.getD i (0,.none)).1)->t.probe F (tk prog w ks) (adN t.mask k (start t.mask (tk prog w ks)))=some (.empty (adN t.mask k1 (start t.mask (tk prog w ks))).j none):=λ F hF=>by
   have:=(iz (h:=tk prog w ks) S.ti.ris S.ti.dum (k1-k) (10*turns t.mask) _ hd ⋯ (pr F hF)).1 (by rw[<- bF,hkk];exact he0);rw[<- bF,hkk] at this;exact this
  rw[key _ λ i hi=>by show (es[i]?.map (·.1)).getD 0=_;simp[Cy,hi]];dsimp only;refine Ce (q2 λ⟨e,he,hE⟩=>?_);obtain⟨i,hi,rfl⟩:=zj he;have hi':i<es.size:=by simpa using hi
  have hip:i<t.place.size:=⋯
  obtain⟨b,eb,_⟩:=hE;have wy:=S.ti.way (es.toList[i],t.place.getD i 0) (by
   have:(es.toList.zip t.place.toList)[i]?=some (es.toList[i],t.place.getD i 0):=by
    rw[List.getElem?_zip_eq_some];exact⟨yH hi,by simp[Cy,hip]⟩
   exact zX this)
  obtain⟨k2,e2,o2⟩:=wy;have hh:es.toList[i].1=tk prog w ks:=by rw[eb]
  simp only[hh] at e2 o2;have lt:k2<k1:=by
   rcases AQ k2 k1 with z|z|z
   ·exact z
   ·subst z
    exact absurd (show Occ t _ by rw[e2];unfold Occ;simp[Cy,hip]) he0
   ·exact absurd (o2 k1 z) he0
  have eg:(es.getD i (0,Cn)).1=tk prog w ks:=by
   rw[<- hh];simp[Cy,hi']
  by_cases z:k<=k2
  ·exact a3 k2 z lt ⟨i,hi',e2.symm,eg⟩
  ·exact h5 i hi' ⟨k2,⋯,e2.symm⟩ es.toList[i] (by simp[hi']) ⟨b,eb,by assumption⟩
 ·-- an entry of this hash
  have lt:k1<k0:=by
   rcases BE k1 k0 with z|z
   ·exact z
   ·have:k1=k0:=⋯
    subst this;exact absurd (show Occ t _ by rw[<- ei];unfold Occ;simp[Cy,show i<t.place.size by omega]) he0
  have key:∀ F:Nat->Int,(∀ i,i<es.size->F i=(es.getD i (0,.none)).1)->t.probe F (tk prog w ks) (adN t.mask k (start t.mask (tk prog w ks)))=some (.candidate (adN t.mask k1 (start t.mask (tk prog w ks))).j i (adN t.mask (k1+1) (start t.mask (tk prog w ks)))):=λ F hF=>by
   have:=(iz (h:=tk prog w ks) S.ti.ris S.ti.dum (k1-k) (10*turns t.mask) _ hd ⋯ (pr F hF)).2 i ⋯ (by rw[<- bF,hkk];exact ei) (by rw[hF i hi];exact eh);rw[<- bF,<- bF,hkk,<- BU,hkk] at this;exact this
  rw[key _ λ i hi=>by show (es[i]?.map (·.1)).getD 0=_;simp[Cy,hi]];dsimp only;have hm:es[i]∈es.toList:=by simp
  obtain⟨ks',b,eb,hb⟩:=S.ent _ hm;have eg:es[i]?=some (es[i].1,es[i].2):=by simp[hi]
  have sl:t.slot (adN t.mask k1 (start t.mask (tk prog w ks))).j=.live i:=by rw[<- ei];exact fE S.ti.ris ⋯
  have hid:i<es.size:=hi;have tail:wpAny (model prog w) A (do
    let some (_,y):=es[i]? | unsupported "internal:set-entry"
    let equal <- holding [y] (eqBool y (.ref x))
    let (es',_,t') <- setState a
    if true&&equal then return SetFound.there none
    let some same:=t'.sameMemory t.moves t.mask|unsupported "set.changed-during-lookup:is-the-new-block-at-the-old-address"
    let still <- match (if same then t'.slot (adN t.mask k1 (start t.mask (tk prog w ks))).j else .empty) with
     | .live i'=>match es'[i']? with
      | some (_,y')=>do pure (if <- isSame y' y then some i' else none)
      | none=>pure none
     | _=>pure none
    match still with
    | none=>rule "set.search.anew";setSearchFrom a (.ref x) (tk prog w ks) true fuel none
    | some i'=>if equal then return .there (some i') else setSearchFrom a (.ref x) (tk prog w ks) true fuel (some (adN t.mask (k1+1) (start t.mask (tk prog w ks))))) Q E s:=by
   rw[eg];dsimp only;have ey:es[i].2=.ref b:=by rw[eb]
   rw[ey];refine Cc (Cz (wpAny_eqBool_tuple hu hb hx ?_));refine Cc (CV S.obj rfl S.fits ?_);dsimp only;by_cases hkk':ks'=ks
   ·subst hkk'
    rw[decide_eq_true rfl];simp only[Ae,if_true];exact Ce (q1 ⟨_,hm,b,eb,hb⟩)
   ·rw[decide_eq_false hkk']
    simp only[zi,yK,if_false];have sm:t.sameMemory t.moves t.mask=some true:=by unfold SetTable.sameMemory;simp
    rw[sm];dsimp only;simp only[if_true];rw[sl];dsimp only;rw[eg];dsimp only;rw[ey];refine Cc (wpAny_isSame_ref_self (Cc (Ce ?_)));simp only[if_true];refine rec (k1+1) ⋯ ⋯ λ i' hi' ⟨k'',h6,h7⟩ e he hE=>?_
    by_cases z:k''<k
    ·exact h5 i' hi' ⟨k'',z,h7⟩ e he hE
    ·by_cases z2:k''=k1
     ·subst z2
      have:i'=i:=by
       have h8:t.place.getD i' 0=t.place.getD i 0:=by rw[h7,ei]
       have h9:=below_at S.ti.ris (i:=i') ⋯;have h10:=below_at S.ti.ris (i:=i) ⋯;rw[h8,h10] at h9;exact h9.symm
      subst this;rw[eg] at he;have he:es[i']=e:=Option.some.inj he;subst he;obtain⟨b2,e3,hb2⟩:=hE;rw[eb] at e3;have:b=b2:=by injection e3 with _ e4;injection e4
      subst this;exact hkk' (hb.inj hb2)
     ·obtain⟨b2,e3,_⟩:=hE
      refine a3 k'' ⋯ ⋯ ⟨i',hi',h7,?_⟩;have:es[i']=e:=by
       rw[Co hi'] at he;exact Option.some.inj he
      simp only[Cy,hi',dif_pos];show (es[i']).1=_
      rw[this,e3]
  by_cases hl:t.led=true
  ·rw[hl]
   simp only[zd,yK,if_false];exact tail
  ·rw[Bool.eq_false_iff.mpr hl]
   simp only[zB,if_true];refine Cc (qz hx _ (λ v hv=>?_) ?_)
   ·obtain⟨e,he,rfl⟩:=ib hv
    obtain⟨ks'',b'',e1,e2⟩:=S.ent e he;exact⟨b'',ks'',by rw[e1],e2⟩
   ·simp only[yK,if_false]
    exact tail
theorem tR (S:SetV prog w s.heap a es ep t)(hx:IsK prog w s.heap ks x)(hu:A.units<cLine)
  (hk0:k0<10*turns t.mask) (he0:¬ Occ t (adN t.mask k0 (start t.mask (tk prog w ks))).j) (hoc:∀ k',k'<k0->Occ t (adN t.mask k' (start t.mask (tk prog w ks))).j)
  (q1:(∃ e∈es.toList,Ent prog w s.heap e ks)->Q (.there none) s) (q2:(¬ ∃ e∈es.toList,Ent prog w s.heap e ks)->Q (.free (adN t.mask k0 (start t.mask (tk prog w ks))).j false) s):
  ∀ (m k fuel:Nat) (stand:Option Probe),k<=k0->k0-k<=m->m<fuel->stand.getD (t.probeStart (tk prog w ks))=adN t.mask k (start t.mask (tk prog w ks)) ->
   (∀ i,i<es.size->(∃ k',k'<k/\t.place.getD i 0=(adN t.mask k' (start t.mask (tk prog w ks))).j)->∀ e,es[i]?=some e->¬ Ent prog w s.heap e ks) ->
   wpAny (model prog w) A (setSearchFrom a (.ref x) (tk prog w ks) true fuel stand) Q E s:=by
 intro m
 induction m with
 | zero=>
  intro k fuel stand h1 h2 h3 h4 h5;obtain⟨fuel,rfl⟩:∃ f,fuel=f+1:=⟨fuel-1,⋯⟩;exact i6 S hx hu hk0 he0 hoc q1 q2 k fuel stand h1 h4 h5 λ k' a b=>⋯
 | succ m ih=>
  intro k fuel stand h1 h2 h3 h4 h5;obtain⟨fuel,rfl⟩:∃ f,fuel=f+1:=⟨fuel-1,⋯⟩;exact i6 S hx hu hk0 he0 hoc q1 q2 k fuel stand h1 h4 h5 λ k' a b h6=>ih k' fuel _ b ⋯ ⋯ rfl h6
theorem ot (S:SetV prog w s.heap a es ep t)(hx:IsK prog w s.heap ks x)(hu:A.units<cLine)
  (q1:(∃ e∈es.toList,Ent prog w s.heap e ks)->Q (.there none) s) (q2:(¬ ∃ e∈es.toList,Ent prog w s.heap e ks)->∀ j,j<=t.mask->¬ Occ t j->Way t.mask (Occ t) (tk prog w ks) j->Q (.free j false) s):
  wpAny (model prog w) A (setSearch a (.ref x) (tk prog w ks) true) Q E s:=by
 have hf:=S.fit.le;have hsz:=S.ti.size;obtain⟨k0,h1,h2,h3⟩:=lY S.ti.ris S.fit.mk ⋯ (tk prog w ks);have hb:turns t.mask<=142:=by unfold turns;rcases S.fit with h|h|h <;>omega
 exact tR S hx hu h1 h2 h3 q1 (λ n=>q2 n _ (lK _ k0).1 h2 ⟨k0,rfl,h3⟩) k0 0 100000 none (zI _) ⋯ ⋯ rfl λ i hi ⟨k',z,_⟩=>⋯
end
end
section
variable {prog:Program}{w:World}{A:Around}{E:Value->Shared->Prop}{s:Shared}{a:Addr}{es:Array (Int×Value)}{ep:Nat}{t:SetTable}{x:Addr}{ks:List Int}
theorem IsK.keep {h h':Heap}{b:Addr}{o:Obj}(hk:IsK prog w h ks b)(ha:h.get? a=some o)(hc:o.cls=.type "set")(e:∀ c u,c≠a->h.get? c=some u->h'.get? c=some u):IsK prog w h' ks b:=by
 obtain⟨o',items,n,ho',hc',hd',hi⟩:=hk;have hne:b≠a:=by
  rintro rfl
  obtain rfl:o'=o:=Option.some.inj (ho'.symm.trans ha);rw[hc] at hc';exact absurd (ET hc') (by decide)
 exact⟨o',items,n,e b o' hne ho',hc',hd',hi⟩
theorem kq (n:Nat){v:Value}(h:∃ i t,v=.int i t):hashByValue n v=pure true:=by
 obtain⟨i,t,rfl⟩:=h;cases n <;>rfl
theorem iA {Q:Bool->Shared->Prop}(hk:IsK prog w s.heap ks x)(h:Q true s):wpAny (model prog w) A (hashByValue 8 (.ref x)) Q E s:=by
 have hT:=hk.typeIs;obtain⟨o,items,n,ho,_,hd,hi⟩:=hk;unfold hashByValue;refine Cc (D6 hT F.slot_tuple_hash.lookup ?_);dsimp only;refine Cc ?_
 unfold seqItems?;refine Cc (wpAny_load ho ?_);rw[hd];refine Ce ?_
 refine Cc ?_
 show wpAny _ _ (forIn items _ _) _ _ s
 rw[<- Fg];refine Eu _ (λ rest r s'=>r.1=none/\s'=s/\∀ v∈rest,∃ i t,v=Dc i t) _ ?_ ?_ _ _ ⟨rfl,rfl,items_int hi⟩
 ·rintro v rest r s' ⟨hr,rfl,hall⟩
  rw[kq _ (hall v yG)];refine Cc (Ce ?_);simp only[zd,yK,if_false];exact Ce ⟨rfl,rfl,λ u hu'=>hall u (yF _ hu')⟩
 ·rintro ⟨r1,r2⟩ s' ⟨hr,rfl,_⟩
  simp only at hr;subst hr;exact Ce h
theorem stored {h:Heap}(S:SetV prog w h a es ep t)(es':Array (Int×Value))(t':SetTable):(h.update a (DA es' t')).get? a=some { cls:=.type "set",dict:=none,data:=.set es' (ep+1) t' }/\∀ c u,c≠a->h.get? c=some u->(h.update a (DA es' t')).get? c=some u:=by
 refine⟨?_,λ c u hc e=>(Ct _ _ (Ne.symm hc)).trans e⟩;have:=CQ (DA es' t') S.obj (by rw[Fh es' t' rfl];rfl);rw[Fh es' t' rfl] at this;exact this
theorem SetV.store {h:Heap}(S:SetV prog w h a es ep t){es':Array (Int×Value)}{t':SetTable}(T:TI t' es')(hf:Fits t'.mask es'.size)(hp:t'.plain=true)(hl:t'.led=t.led)
  (he:∀ e∈es'.toList,∃ ks,Ent prog w h e ks):SetV prog w (h.update a (DA es' t')) a es' (ep+1) t':=by
 obtain⟨g1,g2⟩:=stored S es' t';refine⟨g1,T,hf,hp,hl.trans S.led,λ e hm=>?_⟩;obtain⟨ks,b,e1,hb⟩:=he e hm;exact⟨ks,b,e1,hb.keep S.obj rfl g2⟩
theorem bf {Q:Bool->Shared->Prop}(S:SetV prog w s.heap a es ep t)(hx:IsK prog w s.heap ks x)(hu:A.units<cLine)(hn:es.size<64)
  (h1:(∃ e∈es.toList,Ent prog w s.heap e ks)->Q false { s with toks:=s.toks+(ks.length+1) })
  (h2:(¬ ∃ e∈es.toList,Ent prog w s.heap e ks)->∀ h' es' ep' t',SetV prog w h' a es' ep' t'->es'.toList.Perm ((tk prog w ks,.ref x)::es.toList)->(∀ c u,c≠a->s.heap.get? c=some u->h'.get? c=some u)->Q true { s with heap:=h',toks:=s.toks+(ks.length+1) }):
  wpAny (model prog w) A (setAdd a (.ref x)) Q E s:=by
 unfold setAdd;refine Cz (Cc (wpAny_pyHash_tuple (knd:=intKind prog w) hu hx ?_));unfold setAddHashed;refine Cz ?_
 unfold setAddHashedIn;refine Cc (CV (s:={ s with toks:=s.toks+(ks.length+1) }) S.obj rfl S.fits ?_);dsimp only;have nb:byScan (.ref x) es=false:=by simp[byScan,Value.scannable]
 rw[nb];simp only[yK,if_false];refine Cc (ot (s:={ s with toks:=s.toks+(ks.length+1) }) S hx hu (λ q=>?_) λ q j hj ho hw=>?_)
 ·dsimp only
  exact Ce (h1 q)
 ·dsimp only
  refine Cc (CV (s:={ s with toks:=s.toks+(ks.length+1) }) S.obj rfl S.fits ?_);obtain⟨e1,T,e2,e3,e4,e5,e6⟩:=S.ti.put (x:=Cp x) hj ho hw;dsimp only;have hp:(t.put j).1.plain=true:=e3.trans S.plain;rw[show (t.put j).1.plain=true from hp];simp only[if_true];refine Cc (iA (s:={ s with toks:=s.toks+(ks.length+1) }) hx ?_);simp only[if_true];rw[show (t.put j).2=below t.place j from e1];have sz:(insertAt es (below t.place j) (tk prog w ks,Cp x)).size=es.size+1:=ig _ _ _;have pm:(insertAt es (below t.place j) (tk prog w ks,Cp x)).toList.Perm ((tk prog w ks,.ref x)::es.toList):=by
   rw[bQ];refine List.perm_middle.trans ?_
   rw[zV]
  have ent:∀ e∈(insertAt es (below t.place j) (tk prog w ks,Cp x)).toList,∃ ks,Ent prog w s.heap e ks:=λ e he=>by
   rcases List.mem_cons.mp (pm.mem_iff.mp he) with rfl|he
   ·exact⟨ks,x,rfl,hx⟩
   ·exact S.ent e he
  have ok:∀ n,n<=100->n<=sizeLine:=λ n hn=>by rw[CF];omega
  refine Cc (wpAny_storeSet_of (s:={ s with toks:=s.toks+(ks.length+1) }) S.obj rfl ?_ (ok _ (by rw[sz];omega)));obtain⟨g1,g2⟩:=stored S (insertAt es (below t.place j) (tk prog w ks,Cp x)) (t.put j).1;have fill:(t.put j).1.fill=es.size+1:=by
   unfold FL;rw[T.dum,T.size,sz];rfl
  have full:(t.put j).1.tooFull=decide ((es.size+1)*5 ≥ t.mask*3):=by
   unfold SetTable.tooFull;rw[fill,e2]
  rw[full];by_cases q2:(es.size+1)*5 ≥ t.mask*3
  ·rw[decide_eq_true q2]
   simp only[zB,Ae,if_true];obtain⟨mask',hm,hmk,hw',hfit⟩:∃ mask',es.size+1<=mask'/\Mk mask'/\sizeAbove (grown (es.size+1))-1=mask'/\Fits mask' (es.size+1):=by
    rcases S.fit with ⟨f1,f2⟩|⟨f1,f2⟩|⟨f1,f2⟩
    ·have:es.size=4:=by rw[f1] at q2;omega
     rw[this];exact⟨31,by decide,.inr (.inl rfl),by decide,.inr (.inl ⟨rfl,by decide⟩)⟩
    ·have:es.size=18:=by rw[f1] at q2;omega
     rw[this];exact⟨127,by decide,.inr (.inr rfl),by decide,.inr (.inr ⟨rfl,by decide⟩)⟩
    ·rw[f1] at q2;omega
   obtain⟨t',order,r1,r2,r3,r4,r5,r6⟩:=nY (t:=(t.put j).1) (es:=insertAt es (below t.place j) (tk prog w ks,Cp x)) (wanted:=grown (es.size+1)) hmk (by rw[sz];exact hm) hw';have fits1:(t.put j).1.fits (insertAt es (below t.place j) (tk prog w ks,Cp x)).size=true:=by
    have:=S.fit.le;unfold FK;rw[fill,T.size,e2,sz];simp;omega
   refine Cc ?_
   unfold setRelay;refine Cc (CV g1 rfl fits1 ?_);dsimp only;have big:¬ sizeAbove (grown (es.size+1)) > sizeLine:=by
    have:sizeAbove (grown (es.size+1))<=128:=by have:=hmk;unfold Mk at this;omega
    have:=ok 100 ⋯;rw[CF] at this ⊢;omega
   rw[if_neg big,r1];have sz2:(order.filterMap ((insertAt es (below t.place j) (tk prog w ks,Cp x))[·]?)).size=es.size+1:=by rw[<- Cj,r2.length_eq,Cj,sz]
   refine Cc ?_
   show wpAny _ _ (if ((order.filterMap ((insertAt es (below t.place j) (tk prog w ks,Cp x))[·]?)).size != (insertAt es (below t.place j) (tk prog w ks,Cp x)).size)=true then _ else _) _ _ _
   rw[sz2,sz];simp only[bne_self_eq_false,yK,if_false];refine Ce ?_
   dsimp only;have S1:SetV prog w (s.heap.update a (DA (insertAt es (below t.place j) (tk prog w ks,Cp x)) (t.put j).1)) a (insertAt es (below t.place j) (tk prog w ks,Cp x)) (ep+1) (t.put j).1\/True:=.inr trivial;refine wpAny_storeSet_of (s:={ s with heap:=_,toks:=_ }) g1 rfl ?_ (ok _ (by rw[sz2];omega))
   have g3:=CQ (DA (order.filterMap ((insertAt es (below t.place j) (tk prog w ks,Cp x))[·]?)) t') g1 (by rw[Fh _ _ rfl];rfl);rw[Fh _ _ rfl] at g3;have g4:∀ c u,c≠a->s.heap.get? c=some u->((s.heap.update a (DA (insertAt es (below t.place j) (tk prog w ks,Cp x)) (t.put j).1)).update a (DA (order.filterMap ((insertAt es (below t.place j) (tk prog w ks,Cp x))[·]?)) t')).get? c=some u:=λ c u hc e=>(Ct _ _ (Ne.symm hc)).trans (g2 c u hc e)
   refine Ce (h2 q _ _ _ _ ⟨g3,r3,by rw[r4,sz2];exact hfit,r5.trans hp,r6.trans (e4.trans S.led),λ e hm=>?_⟩ (r2.trans pm) g4);obtain⟨ks',b,e1,hb⟩:=ent e (r2.mem_iff.mp hm);exact⟨ks',b,e1,hb.keep S.obj rfl g4⟩
  ·rw[decide_eq_false q2]
   simp only[zB,zi,yK,if_false];refine Ce (h2 q _ _ _ _ (S.store T ?_ hp e4 ent) pm g2);rw[e2,sz]
   rcases S.fit with ⟨f1,f2⟩|⟨f1,f2⟩|⟨f1,f2⟩
   ·rw[f1] at q2;exact .inl ⟨f1,⋯⟩
   ·rw[f1] at q2;exact .inr (.inl ⟨f1,⋯⟩)
   ·rw[f1] at q2;exact .inr (.inr ⟨f1,⋯⟩)
end
open PySem PySem.SetTable PyProof.Rows
def d6 (val:Nat->List Int):Nat->List (List Int)
 | 0=>[]
 | i+1=>if (d6 val i).any (· == val i) then d6 val i else d6 val i++[val i]
section
variable {prog:Program}{w:World}{B:List Int->Value->Prop}
def Has (prog:Program)(w:World)(B:List Int->Value->Prop)(h:Heap)(es:Array (Int×Value))(l:List (List Int)):Prop:=∃ p:List (Int×Value),es.toList.Perm p/\p.length=l.length/\∀ i (h1:i<p.length) (h2:i<l.length),Ent prog w h p[i] l[i]/\B l[i] p[i].2
theorem Ent.keep {h h':Heap}{a:Addr}{o:Obj}{e:Int×Value}{ks:List Int}(q:Ent prog w h e ks)(ha:h.get? a=some o)(hc:o.cls=.type "set")(k:∀ c u,c≠a->h.get? c=some u->h'.get? c=some u):Ent prog w h' e ks:=
 let ⟨b,e1,hb⟩:=q
 ⟨b,e1,hb.keep ha hc k⟩
theorem Has.mem {h:Heap}{es:Array (Int×Value)}{l:List (List Int)}(H:Has prog w B h es l){ks:List Int}:(∃ e∈es.toList,Ent prog w h e ks) ↔ ks∈l:=by
 obtain⟨p,p1,p2,p3⟩:=H
 constructor
 ·rintro ⟨e,he,b,rfl,hb⟩
  obtain⟨i,hi,ei⟩:=zj (p1.mem_iff.mp he);obtain⟨⟨b',e',hb'⟩,_⟩:=p3 i hi ⋯;rw[ei] at e';have:b=b':=by injection e' with _ e4;injection e4
  subst this;have:=hb.inj hb';subst this;exact zt _
 ·intro hk
  obtain⟨i,hi,rfl⟩:=zj hk;exact⟨p[i],p1.mem_iff.mpr (zt _),(p3 i ⋯ hi).1⟩
theorem Has.keep {h h':Heap}{a:Addr}{o:Obj}{es:Array (Int×Value)}{l:List (List Int)}(H:Has prog w B h es l)(ha:h.get? a=some o)(hc:o.cls=.type "set")(k:∀ c u,c≠a->h.get? c=some u->h'.get? c=some u):Has prog w B h' es l:=
 let ⟨p,p1,p2,p3⟩:=H
 ⟨p,p1,p2,λ i h1 h2=>⟨(p3 i h1 h2).1.keep ha hc k,(p3 i h1 h2).2⟩⟩
theorem Has.more {h:Heap}{es es':Array (Int×Value)}{l:List (List Int)}(H:Has prog w B h es l){ks:List Int}{x:Addr}(hx:IsK prog w h ks x)(hB:B ks (.ref x))(pm:es'.toList.Perm ((tk prog w ks,.ref x)::es.toList)):Has prog w B h es' (l++[ks]):=by
 obtain⟨p,p1,p2,p3⟩:=H;refine⟨p++[(tk prog w ks,.ref x)],pm.trans ((List.Perm.cons _ p1).trans (List.perm_append_singleton _ _).symm),by simp[p2],λ i h1 h2=>?_⟩;by_cases z:i<p.length
 ·rw[AW z,AW ⋯]
  exact p3 i z ⋯
 ·have:i=p.length:=by simp at h1;omega
  subst this;rw[AR (yW _),AR ⋯];simp only[p2,B3,List.getElem_cons_zero];exact⟨⟨x,rfl,hx⟩,hB⟩
theorem IsK.keepN {h h':Heap}{I b:Addr}{o:Obj}{ks:List Int}(hk:IsK prog w h ks b)(hI:h.get? I=some o)(hc:o.cls≠.type "tuple")(e:∀ c u,c≠I->h.get? c=some u->h'.get? c=some u):IsK prog w h' ks b:=by
 obtain⟨o',items,n,ho',hc',hd',hi⟩:=hk;have hne:b≠I:=by
  rintro rfl
  obtain rfl:o'=o:=Option.some.inj (ho'.symm.trans hI);exact hc hc'
 exact⟨o',items,n,e b o' hne ho',hc',hd',hi⟩
theorem SetV.keepN {h h':Heap}{I S:Addr}{o:Obj}{es:Array (Int×Value)}{ep:Nat}{t:SetTable}(V:SetV prog w h S es ep t)(hI:h.get? I=some o)(hc:o.cls≠.type "tuple")(hS:S≠I)(e:∀ c u,c≠I->h.get? c=some u->h'.get? c=some u):SetV prog w h' S es ep t:=
 ⟨e S _ hS V.obj,V.ti,V.fit,V.plain,V.led,λ x hx=>let ⟨ks,b,e1,hb⟩:=V.ent x hx;⟨ks,b,e1,IsK.keepN hb hI hc e⟩⟩
theorem Has.keepN {h h':Heap}{I:Addr}{o:Obj}{es:Array (Int×Value)}{l:List (List Int)}(H:Has prog w B h es l)(hI:h.get? I=some o)(hc:o.cls≠.type "tuple")(e:∀ c u,c≠I->h.get? c=some u->h'.get? c=some u):Has prog w B h' es l:=
 let ⟨p,p1,p2,p3⟩:=H
 ⟨p,p1,p2,λ i h1 h2=>let ⟨⟨b,e1,hb⟩,hB⟩:=p3 i h1 h2;⟨⟨b,e1,IsK.keepN hb hI hc e⟩,hB⟩⟩
theorem SetV.size {h:Heap}{S:Addr}{es:Array (Int×Value)}{ep:Nat}{t:SetTable}{l:List (List Int)}(V:SetV prog w h S es ep t)(H:Has prog w B h es l):es.size=l.length:=by
 obtain⟨p,p1,p2,_⟩:=H;rw[<- p2,<- p1.length_eq,Cj]
theorem mS (val:Nat->List Int):∀ i,(d6 val i).length<=i
 | 0=>yW _
 | i+1=>by
  have:=mS val i;unfold d6
  split
  ·omega
  ·simp;omega
variable {A:Around}{R:Result->Shared->Prop}
theorem pB (hh:A.handled=none)(hu:A.units+8<cLine){I l S:Addr}(hlI:l≠I)(hSI:S≠I)(hSl:S≠l){items:Array Value}{val:Nat->List Int}(hz:items.size<64):
  ∀ (k i:Nat) (s:Shared),items.size-i=k->i<=items.size->s.heap.IsListIter I l i->s.heap.IsList l items->(∃ es ep t,SetV prog w s.heap S es ep t/\Has prog w B s.heap es (d6 val i)) ->
   (∀ j,j<items.size->∃ b,items[j]?=some (.ref b)/\IsK prog w s.heap (val j) b/\B (val j) (.ref b)) ->
   (∀ h' tk,(∀ b o,b≠S->b≠I->s.heap.get? b=some o->h'.get? b=some o)->(∃ es ep t,SetV prog w h' S es ep t/\Has prog w B h' es (d6 val items.size))->R (.ok (.ret .none)) { s with heap:=h',toks:=tk }) ->
   codeAny (model prog w) A (.builtin "set.update.loop" ⟨[.ref S,.ref I],[]⟩) R s:=by
 intro k
 induction k with
 | zero=>
  intro i s hk hi hit hl hS hv hR;have hin:i=items.size:=⋯
  subst hin;refine D7 EB (by
   rw[D8 Dj _];show wpAny _ A.in1 (pyNext (.ref I) >>= _) _ _ s
   refine Cc (DV (by simpa using hh) hit hl (by simp) λ h' he=>?_);obtain⟨es,ep,t,V,H⟩:=hS;obtain⟨oI,hoI,hcI,_⟩:=hit;have hc:oI.cls≠.type "tuple":=by rw[hcI];intro z;exact absurd (ET z) (by decide)
   exact Ce (hR h' s.toks (λ b o _ hb e=>he b o hb e) ⟨es,ep,t,V.keepN hoI hc hSI he,H.keepN hoI hc he⟩))
 | succ k ih=>
  intro i s hk hi hit hl hS hv hR;have hlt:i<items.size:=⋯
  obtain⟨b,eb,hb,hB⟩:=hv i hlt;refine D7 EB (by
   rw[D8 Dj _];show wpAny _ A.in1 (pyNext (.ref I) >>= _) _ _ s
   refine Cc (DP hit hl (x:=.ref b) eb λ h' hit' hs'=>?_);obtain⟨es,ep,t,V,H⟩:=hS;obtain⟨oI,hoI,hcI,_⟩:=hit;have hc:oI.cls≠.type "tuple":=by rw[hcI];intro z;exact absurd (ET z) (by decide)
   have V':=V.keepN hoI hc hSI hs'.extBut;have H':=H.keepN hoI hc hs'.extBut;have hb':=IsK.keepN hb hoI hc hs'.extBut;have hl':=hl.extBut hs'.extBut hlI;have hsz:=V.size H;have hml:=mS val i;show wpAny _ A.in1 (holding [Cp b] (setAdd S (.ref b)) >>= _) _ _ { s with heap:=h' }
   refine Cc (Cz (bf (s:={ s with heap:=h' }) V' hb' (by show A.units+1<cLine;omega) ⋯ (λ q=>?_) λ q h2 es' ep' t' V2 pm k2=>?_))
   ·have hm:=H'.mem.mp q
    refine Ce ⟨DS Dj _,ih (i+1) _ ⋯ hlt hit' hl' ⟨es,ep,t,V',?_⟩ (λ j hj=>?_) λ h3 tk k3 hS3=>?_⟩
    ·unfold d6
     rw[if_pos (by simpa using hm)];exact H'
    ·obtain⟨b2,e2,hb2,hB2⟩:=hv j hj
     exact⟨b2,e2,IsK.keepN hb2 hoI hc hs'.extBut,hB2⟩
    ·exact hR h3 tk (λ c o h4 h5 e=>k3 c o h4 h5 (hs'.extBut c o h5 e)) hS3
   ·have hm:¬ val i∈d6 val i:=λ z=>q (H'.mem.mpr z)
    have hSc:({ cls:=.type "set",dict:=none,data:=.set es ep t }:Obj).cls=.type "set":=rfl;refine Ce ⟨DS Dj _,ih (i+1) _ ⋯ hlt ?_ ?_ ⟨es',ep',t',V2,?_⟩ (λ j hj=>?_) λ h3 tk k3 hS3=>?_⟩
    ·exact hit'.at λ o e=>k2 I o (Ne.symm hSI) e
    ·exact hl'.at λ o e=>k2 l o (Ne.symm hSl) e
    ·unfold d6
     rw[if_neg (by simpa using hm)];exact Has.keep (H'.more hb' hB pm) V'.obj hSc k2
    ·obtain⟨b2,e2,hb2,hB2⟩:=hv j hj
     exact⟨b2,e2,(IsK.keepN hb2 hoI hc hs'.extBut).keep V'.obj hSc k2,hB2⟩
    ·exact hR h3 tk (λ c o h4 h5 e=>k3 c o h4 h5 (k2 c o h4 (hs'.extBut c o h5 e))) hS3)
end
section
variable {prog:Program}{w:World}{A:Around}{E:Value->Shared->Prop}{s:Shared}{B:List Int->Value->Prop}
abbrev iu (w:World):Obj:={ cls:=.type "set",dict:=none,data:=.set #[] 0 (.fresh 0 0 (!byT w)) }
theorem uo (a:Value){Q₁:Value->Shared->Prop}(h:Q₁ (.ref s.heap.objs.size) { s with heap:=s.heap.push (iu w) }):
  codeAny (model prog w) A (.call (.builtin "set.__new__") ⟨[.type "set",a],[]⟩) (wants Q₁ E) s:=by
 refine codeAny_of_tree (show wpAny _ A.in1 (do checkBuiltinCall "set.__new__" ⟨[.type "set",a],[]⟩;again (.builtin "set.__new__" ⟨[.type "set",a],[]⟩)) _ _ s from ?_);refine Cc (Fw (PySem.F.newCall_set_1 a) (Ce ⟨DS F.plain_set_new _,D7 F.entry_set_new (by
  rw[D8 F.plain_set_new _];unfold Builtin.«set.__new__» FM;have hsub:=sub_set_self;obtain⟨hp,g,d,tk,os⟩:=s;dsimp only;wp_walk;refine DB (Ce ?_);dsimp only;simp only[newObj];refine Cc (wpAny_alloc (Ce (Ce h))))⟩))
theorem sF {h:Heap}{a:Addr}(e:h.get? a=some (iu w)):SetV prog w h a #[] 0 (.fresh 0 0 (!byT w)):=⟨e,TI.fresh _ _ _,.inl ⟨rfl,by decide⟩,rfl,rfl,λ e he=>by cases he⟩
theorem sE {h:Heap}:Has prog w B h #[] []:=⟨[],.refl _,rfl,λ i h1=>by simp at h1⟩
set_option maxHeartbeats 3200000 in
theorem oR {l:Addr}{items:Array Value}{val:Nat->List Int}{Q:Value->Shared->Prop}(hh:A.handled=none)(hu:A.units+64<cLine)(hl:s.heap.IsList l items)(hz:items.size<64)
  (hv:∀ j,j<items.size->∃ b,items[j]?=some (.ref b)/\IsK prog w s.heap (val j) b/\B (val j) (.ref b))
  (h:∀ (h':Heap) (tk:Nat),(∃ es ep t,SetV prog w h' s.heap.objs.size es ep t/\Has prog w B h' es (d6 val items.size))->(∀ b o,s.heap.get? b=some o->h'.get? b=some o)->Q (.ref s.heap.objs.size) { s with heap:=h',toks:=tk }):
  wpAny (model prog w) A (call (.type "set") [.ref l]) Q E s:=by
 obtain⟨c,tl,hmro⟩:=F.called_set.mro;have ⟨hmade,hsub,h1,h2,hct⟩:_/\_/\_/\_/\_:=⟨F.called_set.made,F.called_set.sub,F.called_set.notType,F.called_set.canCreate,PySem.F.typeCall_set_1 (.ref l)⟩;refine wpAny_call (codeAny_of_tree (show wpAny _ _ (callAny (.type "set") _) _ _ _ from Ce ⟨Code.quiet_builtin _ (by decide +kernel),D7 F.entry_type_call ?_⟩));rw[Around.under_plain (weight_type_call_type "set" [.ref l] []) rfl]
 repeat (any_goals (first|assumption|wp_step))
 refine D4 (uo (.ref l) (E:=E) (Q₁:=λ obj s₁=>obj=.ref s.heap.objs.size/\s₁={ s with heap:=s.heap.push (iu w) }) ⟨rfl,rfl⟩) λ r s₁ hr=>?_
 match r,hr with
 | .error e,hr=>exact hr
 | .ok (.ret obj),hr=>
  obtain⟨rfl,rfl⟩:=hr;have hS:(s.heap.push (iu w)).get? s.heap.objs.size=some (iu w):=Ci _ rfl;have hT:Shared.TypeIs { s with heap:=s.heap.push (iu w) } (.ref s.heap.objs.size) "set":=⟨_,hS,rfl⟩;have ⟨hli,hbi⟩:_/\_:=⟨F.called_set.init.lookup,F.called_set.init.bind (.ref s.heap.objs.size)⟩
  repeat (any_goals (first|assumption|wp_step))
  refine D4 (codeAny_call_builtin (R:=wants (λ r s₂=>r=.none/\∃ h' tk,s₂={ s with heap:=h',toks:=tk }/\(∃ es ep t,SetV prog w h' s.heap.objs.size es ep t/\Has prog w B h' es (d6 val items.size)) /\
   (∀ b o,s.heap.get? b=some o->h'.get? b=some o)) E) F.called_set.init.plain F.entry_set_init (check_set_init_1 hT ?_)) λ r₂ s₂ hr₂=>?_
  ·obtain⟨ol,hol,hcl,nl,hdl⟩:=hl
   obtain⟨ocls,odict,odata,oslots⟩:=ol;simp only at hcl hdl;subst hcl;subst hdl;have hol':(s.heap.push (iu w)).get? l=some { cls:=.type "list",dict:=odict,data:=.seq items nl,slots:=oslots }:=Cf _ hol;have ⟨hsls,hslf,hne⟩:_/\_/\(CZ "list" == CZ "dict")=false:=⟨PySem.F.sub_list_set,PySem.F.sub_list_frozenset,by decide⟩;have hl1:(s.heap.push (iu w)).IsList l items:=⟨_,hol',rfl,nl,rfl⟩;unfold Builtin.«set.__init__» noKeywords FH;generalize hPI:pyIter=PI
   wp_walk
   subst hPI;have hlS:l<s.heap.objs.size:=Cg hol;refine DN hl1 (Cc (wpAny_runValue ?_));have zs:(s.heap.push (iu w)).objs.size=s.heap.objs.size+1:=Ds ..;have up:∀ b o,s.heap.get? b=some o->((s.heap.push (iu w)).push { cls:=.type "list_iterator",data:=.fields #[.ref l,.int 0 0] }).get? b=some o:=λ b o e=>Cf _ (Cf _ e)
   refine pB (B:=B) (I:=(s.heap.push (iu w)).objs.size) (l:=l) (val:=val) (by simp[hh]) (by show A.units+1+1+8<cLine;omega) (by rw[zs];exact yU (zO hlS)) (by rw[zs];exact yU (zS _)) (AE hlS) hz (items.size-0) 0 _ ⋯ (zI _)
    ⟨_,Ci _ rfl,rfl,rfl⟩ (hl1.push _) ⟨#[],0,_,sF (Cf _ hS),sE⟩ (λ j hj=>?_) λ h' tk k' hS'=>?_
   ·obtain⟨b,e1,⟨o,its,n,ho,r⟩,hB⟩:=hv j hj
    exact⟨b,e1,⟨o,its,n,up b o ho,r⟩,hB⟩
   ·show wpAny _ _ _ _ _ _
    refine Ce ?_
    show wpAny _ _ (ret Cn) _ _ _
    refine Ce ⟨rfl,h',tk,rfl,hS',λ b o e=>k' b o ?_ ?_ (up b o e)⟩
    ·exact yU (Cg e)
    ·rw[zs];exact yU (zO (Cg e))
  ·match r₂,hr₂ with
   | .error e,hr₂=>exact hr₂
   | .ok (.ret r),hr₂=>
    obtain⟨rfl,h',tk,rfl,hS',hk'⟩:=hr₂
    repeat (any_goals (first|assumption|wp_step))
    exact h _ _ hS' hk'
   | .ok .next,hr₂=>exact hr₂.elim
   | .ok .brk,hr₂=>exact hr₂.elim
   | .ok .cont,hr₂=>exact hr₂.elim
 | .ok .next,hr=>exact hr.elim
 | .ok .brk,hr=>exact hr.elim
 | .ok .cont,hr=>exact hr.elim
end
open PySem PySem.SetTable PyProof.Rows PySem.W
theorem qF:entryFor table "set.__iter__"=some Builtin.«frozenset.__iter__»:=entryFor_alias (id':="frozenset.__iter__") (by kernel_rfl) rfl (by decide +kernel) (by kernel_rfl)
theorem kQ:Slot "set_iterator" "__iter__" "set_iterator.__iter__":=
 .of (owner:="set_iterator") (n:="__iter__") (by rw[typeLookup_type,EU];kernel_rfl) (by decide +kernel) (by decide +kernel) (by decide +kernel) (by first|exact .inl (by decide +kernel)|exact .inr (by decide +kernel)) (by rw[Ed];kernel_rfl)
theorem slot_sin:Slot "set_iterator" "__next__" "set_iterator.__next__":=
 .of (owner:="set_iterator") (n:="__next__") (by rw[typeLookup_type,EU];kernel_rfl) (by decide +kernel) (by decide +kernel) (by decide +kernel) (by first|exact .inl (by decide +kernel)|exact .inr (by decide +kernel)) (by rw[Ed];kernel_rfl)
theorem jh:entryFor table "set_iterator.__next__"=some Builtin.«set_iterator.__next__»:=entryFor_of_tree (by kernel_rfl)
theorem o9:entryFor table "set_iterator.__iter__"=some Builtin.«dict_keyiterator.__iter__»:=entryFor_alias (id':="dict_keyiterator.__iter__") (by kernel_rfl) rfl (by decide +kernel) (by kernel_rfl)
theorem pJ (a:Value):argsOk "set_iterator.__iter__" ⟨[a],[]⟩:=by unfold argsOk;kernel_rfl
theorem lj (a:Value):argsOk "set_iterator.__next__" ⟨[a],[]⟩:=by unfold argsOk;kernel_rfl
theorem nq {α:Type}(next:Nat->Nat):∀ (fuel k:Nat) (left:List α) (out:Array α),fuel=left.length->(Fi next fuel k left out).toList.Perm (out.toList++left)
 | 0,k,left,out,h=>by
  have:left=[]:=by simpa using h.symm
  subst this;unfold Fi;simp
 | fuel+1,k,left,out,h=>by
  have hl:next k%left.length<left.length:=Bp _ ⋯
  unfold Fi;rw[yH hl];refine(nq next fuel (k+1) (left.eraseIdx (next k%left.length)) (out.push left[next k%left.length]) (by rw[AK hl];omega)).trans ?_
  rw[Array.toList_push,zw];refine List.Perm.append_left _ ?_
  generalize next k%left.length=i at hl
  rw[Ay];refine(List.perm_middle (l₁:=left.take i) (a:=left[i]) (l₂:=left.drop (i+1))).symm.trans ?_
  rw[<- zW hl,zV]
theorem oa {α:Type}(next:Nat->Nat)(xs:Array α):(pickOrder next xs).toList.Perm xs.toList:=by
 have:=nq next xs.size 0 xs.toList #[] (by simp)
 simpa[pickOrder] using this
section
variable {prog:Program}{w:World}{A:Around}{E:Value->Shared->Prop}{s:Shared}{a:Addr}{es:Array (Int×Value)}{ep:Nat}{t:SetTable}
def cy (w:World)(a:Addr)(es:Array (Int×Value))(ep:Nat):Array Value:=if byT w then (pickOrder (w.params.setOrder a ep) es).map (·.2) else es.map (·.2)
theorem ord_perm:(cy w a es ep).toList.Perm (es.toList.map (·.2)):=by
 unfold cy
 split
 ·rw[FB];exact(oa _ es).map _
 ·rw[FB]
theorem cm:(cy w a es ep).size=es.size:=by
 have:=(ord_perm (w:=w) (a:=a) (es:=es) (ep:=ep)).length_eq;simpa using this
abbrev pz (es:Array (Int×Value))(ep:Nat)(t:SetTable):Obj:={ cls:=.type "set",dict:=none,data:=.set es ep t }
abbrev itO (slot i n ep:Nat)(a:Addr):Obj:={ cls:=.type "set_iterator",dict:=none,data:=.fields #[.int slot 0,.int i 0,.ref a,.int n 0,.int ep 0],slots:=#[] }
structure Gone (w:World)(es:Array (Int×Value))(t:SetTable):Prop where
 size:t.place.size=es.size
 ris:Ris t.place
 fits:t.fits es.size=true
 plain:t.plain=true
 led:t.led=!byT w
theorem SetV.gone {h:Heap}(V:SetV prog w h a es ep t):Gone w es t:=⟨V.ti.size,V.ti.ris,V.fits,V.plain,V.led⟩
def StS (w:World)(I a:Addr)(es:Array (Int×Value))(ep:Nat)(t:SetTable)(i:Nat)(h:Heap):Prop:=∃ slot,h.get? I=some (itO slot i es.size ep a)/\h.get? a=some (pz es ep t)/\(byT w=false->below t.place slot=i)
theorem nK {i slot:Nat}(G:Gone w es t)(ha:s.heap.get? a=some (pz es ep t))(hs:byT w=false->below t.place slot=i)
  {Q:Option (Value×Nat)->Shared->Prop} (h1:∀ v,(cy w a es ep)[i]?=some v->∀ slot',(byT w=false->below t.place slot'=i+1)->Q (some (v,slot')) s) (h2:(cy w a es ep)[i]?=none->Q none s):
  wpAny (model prog w) A (setNext a slot i ep) Q E s:=by
 unfold setNext;refine Cc (CV ha rfl G.fits ?_);dsimp only;refine Cc ?_
 unfold setsByText;refine Cc (DB (Ce ?_));show wpAny _ _ (if byT w=true then _ else _) _ _ _
 by_cases hb:byT w=true
 ·rw[if_pos hb]
  simp only[bne_self_eq_false,yK,if_false];refine Cc ?_
  unfold setWalk;refine Cc (CV ha rfl G.fits ?_);dsimp only;refine Cc ?_
  unfold setsByText;refine Cc (DB (Ce ?_));show wpAny _ _ (if byT w=true then _ else _) _ _ _
  rw[if_pos hb];refine Cc (DB (Ce ?_));refine Ce ?_
  have eo:cy w a es ep=(pickOrder (w.params.setOrder a ep) es).map (·.2):=by unfold cy;rw[if_pos hb]
  show Q (((pickOrder (w.params.setOrder a ep) es)[i]?).map λ e=>(e.2,slot)) s
  cases hv:(pickOrder (w.params.setOrder a ep) es)[i]? with
  | none=>exact h2 (by rw[eo,DL,hv];rfl)
  | some e=>exact h1 e.2 (by rw[eo,DL,hv];rfl) slot λ z=>by rw[hb] at z;cases z
 ·have hb':byT w=false:=Bool.eq_false_iff.mpr hb
  rw[if_neg hb];have eo:cy w a es ep=es.map (·.2):=by unfold cy;rw[if_neg hb]
  have dr:∀ b:Bool,(b=(!t.plain&&decide (es.size > 1)))->b=false:=λ b e=>by rw[e,G.plain];rfl
  show wpAny _ _ (if (!t.plain&&decide (es.size > 1))=true then _ else _) _ _ _
  rw[G.plain];simp only[zd,zT,yK,if_false];refine Cc ?_
  show wpAny _ _ (if (!t.led&&!es.isEmpty)=true then _ else _) _ _ _
  rw[G.led,hb'];simp only[zB,zd,zT,yK,if_false];refine Ce ?_
  rw[hs hb'];refine Ce ?_
  by_cases hi:i<es.size
  ·have hp:i<t.place.size:=by rw[G.size];exact hi
   rw[Co hi,Co hp];dsimp only;refine h1 es[i].2 (by rw[eo,DL,Co hi];rfl) _ λ _=>?_
   obtain⟨b1,b2,b3⟩:=eP G.ris (t.place[i]+1);have e1:t.place.getD i 0=t.place[i]:=by simp[Cy,hp]
   rcases AQ (below t.place (t.place[i]+1)) (i+1) with z|z|z
   ·have:=b3 i ⋯ hp
    rw[e1] at this;omega
   ·exact z
   ·have hz:i+1<t.place.size:=⋯
    have:=b2 (i+1) z;have h3:=G.ris.at hz (zS i);rw[e1] at h3;omega
  ·rw[CN ⋯]
   dsimp only;exact h2 (by rw[eo,DL,CN ⋯];rfl)
end
section
variable {prog:Program}{w:World}{A:Around}{E:Value->Shared->Prop}{s:Shared}{a:Addr}{es:Array (Int×Value)}{ep:Nat}{t:SetTable}
theorem tN {Q:Value->Shared->Prop}(G:Gone w es t)(ha:s.heap.get? a=some (pz es ep t))(h:Q (.ref s.heap.objs.size) { s with heap:=s.heap.push (itO 0 0 es.size ep a) }):wpAny (model prog w) A (pyIter (.ref a)) Q E s:=by
 have hT:s.TypeIs (.ref a) "set":=⟨_,ha,rfl⟩;refine En hT F.slot_set_iter (CS F.slot_set_iter hT qF ?_ (F.args_set_iter_1 _));unfold Builtin.«frozenset.__iter__» FR;refine Cc (Ce ?_);unfold FP;refine Cc (Cc (Ea ha rfl G.fits (Ce ?_)));refine Cc (show wpAny _ _ (setState a >>= _) _ _ _ from Cc (CV ha rfl G.fits ?_));dsimp only;unfold setsByText;refine Cc (Cc (DB (Ce (Ce ?_))));have dz:∀ b:Bool,(!b&&(!t.plain&&decide (es.size > 1)))=false:=λ b=>by rw[G.plain];cases b <;>rfl
 show wpAny _ _ (if (!(byT w)&&(!t.plain&&decide (es.size > 1)))=true then _ else _) _ _ _
 rw[dz];simp only[yK,if_false];refine Cc (Ce ?_);refine Cc (wpAny_setEpoch_of ha rfl G.fits ?_);unfold newFields;refine Cc (CO ?_);exact Ce ⟨_,rfl,"set_iterator",_,⟨_,Ci _ rfl,rfl⟩,slot_sin.lookup,h⟩
theorem uw {Q:Option Value->Shared->Prop}{I:Addr}{i slot:Nat}(G:Gone w es t)(hI:s.heap.get? I=some (itO slot i es.size ep a))(ha:s.heap.get? a=some (pz es ep t))(hne:a≠I)(hs:byT w=false->below t.place slot=i)
  (hi:i<es.size) (h1:∀ v h',(cy w a es ep)[i]?=some v->StS w I a es ep t (i+1) h'->(∀ b o,b≠I->s.heap.get? b=some o->h'.get? b=some o)->Q (some v) { s with heap:=h' }):
  wpAny (model prog w) A (pyNext (.ref I)) Q E s:=by
 have hT:s.TypeIs (.ref I) "set_iterator":=⟨_,hI,rfl⟩;unfold pyNext;refine Cc (Ej (Dk (name:=CG "__next__") hT slot_sin (CS slot_sin hT jh ?_ (lj _))));unfold Builtin.«set_iterator.__next__»;refine Cc (Ce ?_);refine Cc (Ee hI rfl ?_);dsimp only;refine Cc (Ea ha rfl G.fits ?_);simp only[bne_self_eq_false,yK,if_false];simp only[Ar];refine Cc (nK G ha hs (λ v hv slot' hs'=>?_) λ hv=>?_)
 ·dsimp only
  refine Cc (Fj hI (by simp) λ h₁ he₁ hs₁=>?_);replace hs₁:Dq I s.heap h₁:=hs₁;replace he₁:h₁.get? I=some (itO slot' i es.size ep a):=he₁;refine Cc (Fj he₁ (by simp) λ h₂ he₂ hs₂=>?_);replace hs₂:Dq I h₁ h₂:=hs₂;replace he₂:h₂.get? I=some (itO slot' (i+1) es.size ep a):=by
   have e:((i+1:Nat):Int)=(i:Int)+1:=⋯
   unfold itO;rw[e];simpa[rawInt] using he₂
  have kp:∀ b o,b≠I->s.heap.get? b=some o->h₂.get? b=some o:=λ b o hb e=>hs₂.extBut b o hb (hs₁.extBut b o hb e)
  exact Ce ⟨_,rfl,Ce (h1 v h₂ hv ⟨slot',he₂,kp a _ hne ha,hs'⟩ kp)⟩
 ·rw[Co (by rw[cm];exact hi)] at hv
  cases hv
theorem vZ {Q:Option Value->Shared->Prop}{I:Addr}{slot:Nat}(hh:A.handled=none)(G:Gone w es t)(hI:s.heap.get? I=some (itO slot es.size es.size ep a))(ha:s.heap.get? a=some (pz es ep t))(hs:byT w=false->below t.place slot=es.size)
  (h1:∀ h',(∀ b o,b≠I->s.heap.get? b=some o->h'.get? b=some o)->Q none { s with heap:=h' }):
  wpAny (model prog w) A (pyNext (.ref I)) Q E s:=by
 have hT:s.TypeIs (.ref I) "set_iterator":=⟨_,hI,rfl⟩;unfold pyNext;refine Cc (Ej (Dk (name:=CG "__next__") hT slot_sin (CS slot_sin hT jh ?_ (lj _))));unfold Builtin.«set_iterator.__next__»;refine Cc (Ce ?_);refine Cc (Ee hI rfl ?_);dsimp only;refine Cc (Ea ha rfl G.fits ?_);simp only[bne_self_eq_false,yK,if_false];simp only[Ar];refine Cc (nK G ha hs (λ v hv slot' hs'=>?_) λ hv=>?_)
 ·rw[CN (by rw[cm];omega)] at hv
  cases hv
 ·dsimp only
  refine Cc (EV hI rfl (by simp) ?_);refine Cc ?_
  simp only[newExc,newTuple];refine Cc (CO ?_ (by size_fits));refine Cc (m:=firstArgMember _ _) (Fw (a:=Cn) (by first|rfl|(simp only[firstArgMember];rfl)) ?_);refine CO ?_ (by size_fits)
  simp only[raiseNew];refine Cc (wpAny_handled ?_);rw[show A.in1.handled=none from hh];refine Cc (Ce (wpAny_throw ?_));refine Cc (DU (T:="StopIteration") (b:=true) ⟨_,Ci _ rfl,rfl⟩ isSubtype_stop ?_);exact Ce (h1 _ (((Eb ..).extBut.push _).push _))
theorem n6 (hh:A.handled=none)(G:Gone w es t)(I:Addr)(hne:a≠I):Walks prog w A I [I,a] [I] es.size (λ i v=>(cy w a es ep)[i]?=some v) (StS w I a es ep t) where
 sub:=λ b hb=>by simp at hb;simp[hb]
 frame:=λ i h h' ⟨slot,h1,h2,h3⟩ hk=>⟨slot,hk I (by simp) _ h1,hk a (by simp) _ h2,h3⟩
 item:=λ i s Q E hi ⟨slot,h1,h2,h3⟩ hQ=>uw G h1 h2 hne h3 hi λ v h' hv hst hk=>hQ v h' s.toks hv hst λ b o hb e=>hk b o (λ z=>hb (by simp[z])) e
 done:=λ s Q E ⟨slot,h1,h2,h3⟩ hQ=>vZ hh G h1 h2 h3 λ h' hk=>hQ h' s.toks λ b o hb e=>hk b o (λ z=>hb (by simp[z])) e
 self:=λ i s Q E ⟨slot,h1,h2,h3⟩ hQ=>by
  have hT:s.TypeIs (.ref I) "set_iterator":=⟨_,h1,rfl⟩;exact En hT kQ (CS kQ hT o9 (show wpAny _ _ (ret (.ref I)) _ _ s from Ce ⟨_,rfl,"set_iterator",_,hT,slot_sin.lookup,hQ⟩) (pJ _))
theorem sf (hT:s.TypeIs (.ref a) "set"){Q:Bool->Shared->Prop}(h:Q false s):wpAny (model prog w) A (C5 (.ref a)) Q E s:=by
 unfold C5;refine Cc (D6 hT F.slot_set_len.lookup ?_);generalize hid:("set.__len__":String)=id0
 wp_delta
 rw[show splitId id0=some ("set","__len__") from by subst hid;decide +kernel];subst hid;refine Cc (DU (T:="set") (b:=true) hT (by rw[Ed];kernel_rfl) ?_);refine DF (λ hab=>absurd hab (by decide)) (λ _=>?_);refine DF (λ _=>?_) (λ hab=>absurd (by decide +kernel) hab);exact Cc (Et hT (Ce h))
theorem tY (G:Gone w es t):KdlSrc prog w "set" a a es.size (λ i v=>(cy w a es ep)[i]?=some v) (λ h=>h.get? a=some (pz es ep t)) where
 type:=λ s h=>⟨_,h,rfl⟩
 there:=λ h hok=>⟨Cg hok,Cg hok⟩
 keep:=λ h h' hok hk=>hk a (.inl rfl) _ hok
 notList:=by decide
 notTuple:=by decide
 hint:=λ A E s Q hok h=>sf ⟨_,hok,rfl⟩ h
 iter:=λ A s hh hok=>⟨itO 0 0 es.size ep a,StS w s.heap.objs.size a es ep t,λ E Q h=>tN G hok h,n6 hh G _ (yU (Cg hok)),0,Ci _ rfl,Cf _ hok,λ _=>by
  obtain⟨b1,b2,b3⟩:=eP G.ris 0
  rcases Nat.eq_zero_or_pos (below t.place 0) with z|z
  ·exact z
  ·have:=b2 0 z;omega⟩
end
end Sts
namespace Dv
def yg:D->Bool->R
 | .lst ds,f=>.ok (.tup ds) (f || flatL ds)
 | _,_=>.bad
def onceStepL (σ:List (List Int))(k:List Int):List (List Int):=if σ.any (· == k) then σ else σ++[k]
def onceL (nss:List (List Int)):List (List Int):=nss.foldl onceStepL []
def sortSetTD:D->Bool->R
 | .lst ds,f=>match tupsOf ds with
  | some nss=>if nss.length<64 then .ok (.lst ((lsort (onceL nss)).map λ ns=>.tup (ns.map .int))) f else .bad
  | none=>.bad
 | _,_=>.bad
end Dv
namespace Sd
open PySem PySem.Spec PySem.W PySem.Calls PyProof.Rows L2 Sts
open Dv (D R RL EE EL EI RI Sl Out SS)
theorem ee {prog:Program}{w:World}:∀ {ws:List Value} {ns:List Int},IntsAre ws ns->ItemsAre (intKind prog w) ns ws
 | _,_,.nil=>.nil
 | _,_,.cons n t r=>.cons (intKind_is _ _ _ _) (ee r)
theorem ja (nss:List (List Int)):∀ i,i<=nss.length->d6 (λ j=>nss.getD j []) i=(nss.take i).foldl Dv.onceStepL []
 | 0,_=>by simp[d6]
 | i+1,h=>by
  have hi:i<nss.length:=⋯
  unfold d6;rw[ja nss i ⋯,List.take_succ_eq_append_getElem hi,AS];have e:nss.getD i []=nss[i]:=by simp[yI,yH hi]
  simp only[e,yT,yZ];rfl
section
variable {prog:Program}{w:World}{A:Around}{E:Value->Shared->Prop}{s:Shared}
theorem lV {T:String}{r d:Addr}{n:Nat}{P:Nat->Value->Prop}{OK:Heap->Prop}{Q:Value->Shared->Prop}{key:Nat->List Int}(Kd:KdlSrc prog w T r d n P OK)(hh:A.handled=none)(hok:OK s.heap)(h64:n<64)
  (hP:∀ i v,i<n->P i v->∃ b,v=.ref b/\IsK prog w s.heap (key i) b/\key i≠[])
  (h:∀ (h':Heap) (tk:Nat) (vs:List Value) (out:List Nat),vs.length=n->(∀ j v,vs[j]?=some v->P j v)->(∀ b o,s.heap.get? b=some o->h'.get? b=some o)->out.Perm (List.range n)->(∀ i j,i<=j->j<n->Dv.lexLe (key (out.getD i 0)) (key (out.getD j 0))) ->
   Q (.ref h'.objs.size) { s with heap:=sortedHeap (h'.push (seqObj "list" vs.toArray 0)) h'.objs.size vs (out.map λ i=>vs.getD i Cn).toArray,toks:=tk }):
  wpAny (model prog w) A (call (.builtin "sorted") [.ref r]) Q E s:=by
 have ln:n<=sizeLine:=by rw[CF];omega
 refine Eo kind_sorted plain_sorted entry_sorted (args_sorted1 _) ?_
 unfold Builtin.«sorted»;refine Cc (m:=checkCount "sorted" 1 1 _) (Ce (Cc (kdu_collect (A:=A.in1) Kd hh hok ln λ h' tk acc hk hacc=>?_)));have hl:acc.toList.length=n:=by rw[Cj];exact hacc.1
 have hP':∀ j v,acc.toList[j]?=some v->P j v:=λ j v e=>hacc.2 j v (by rw[<- C8];exact e)
 refine Cc (E3 ?_ (by rw[hl];exact ln));generalize acc.toList=vs at hl hP';have z2:(h'.push (seqObj "list" vs.toArray 0)).get? h'.objs.size=some (seqObj "list" vs.toArray 0):=Ci _ rfl;have item:∀ i,i<vs.length->∃ b,vs.getD i Cn=.ref b/\IsK prog w s.heap (key i) b/\key i≠[]:=λ i hi=>by
  obtain⟨b,e1,e2⟩:=hP i vs[i] ⋯ (hP' i _ (yH hi));exact⟨b,by rw[yI,yH hi];exact e1,e2⟩
 have old:∀ b o,s.heap.get? b=some o->b≠h'.objs.size/\(h'.push (seqObj "list" vs.toArray 0)).get? b=some o:=λ b o q=>
  ⟨yU (Cg (hk b o q)),Cf _ (hk b o q)⟩
 let keys:=(List.range n).map key
 have hkey:∀ i,i<n->keys.getD i []=key i:=λ i hi=>by simp[keys,yI,z0 hi]
 have hmem:∀ i,i<n->key i∈keys:=λ i hi=>List.mem_map.mpr ⟨i,List.mem_range.mpr hi,rfl⟩
 show wpAny _ _ _ _ _ { s with heap:=h'.push (seqObj "list" vs.toArray 0),toks:=tk }
 refine Cc (Cz (CS slot_list_sort ⟨_,z2,rfl⟩ entry_list_sort (i5 (s:={ s with heap:=h'.push (seqObj "list" vs.toArray 0),toks:=tk }) (κ:=tuples' true) (key:=λ i=>(Dv.rank keys (key i):Int)) z2 ⋯
  (λ h2 h3 k E' Q' q=>?_) (λ h2 h3 k i j C hi hj q=>?_) λ out a1 a2=>⟨_,rfl,Ce ⟨_,rfl,h h' tk vs out hl hP' hk (by rw[<- hl];exact a1) λ i j hij hj=>?_⟩⟩) (args_list_sort _)))
 ·have tups:∀ (l:List Value),(∀ v∈l,v∈vs)->∃ fs,KatTups h3 l fs/\fs.length=l.length/\∀ f∈fs,∃ a t,f=Dc a t:=by
   intro l
   induction l with
   | nil=>exact λ _=>⟨[],.nil,rfl,λ f hf=>by cases hf⟩
   | cons v l ih=>
    intro hl;obtain⟨fs,g1,g2,g3⟩:=ih λ v hv=>hl v (yF _ hv)
    obtain⟨i,hi,hv⟩:=zj (hl v yG);obtain⟨b,e1,⟨o,its,m,e2,e3,e4,e5⟩,e6⟩:=item i hi;rw[yI,yH hi] at e1;have e1:v=.ref b:=by rw[<- hv];exact e1
    subst e1;generalize key i=ns at e5 e6;have e7:o.data=.seq its.toList.toArray m:=by rw[e4]
    generalize its.toList=ws at e5 e7;cases e5 with
    | nil=>exact absurd rfl e6
    | @cons kk vv ks' vs' hq r=>
     obtain⟨t,et⟩:=DM hq;subst et;refine⟨Dc kk t::fs,.cons (k _ _ (old b o e2).1 (old b o e2).2) e3 e7 (by simp) g1,by simp[g2],λ f hf=>?_⟩
     rcases List.mem_cons.mp hf with rfl|hf
     ·exact⟨kk,t,rfl⟩
     ·exact g3 f hf
  obtain⟨fs,g1,g2,g3⟩:=tups vs λ v hv=>hv
  refine kat_kind (T:=.type "int") g1 ⋯ (λ v hv=>?_) (by decide) (show Q' (tuples' (CZ "int" != CZ "tuple")) _ from q);obtain⟨a,t,rfl⟩:=g3 v hv;exact .now
 ·obtain⟨b,e1,⟨o,its,m,e2,e3,e4,e5⟩,e6⟩:=item i hi
  obtain⟨b',f1,⟨o',its',m',f2,f3,f4,f5⟩,f6⟩:=item j hj;unfold kas_ask;rw[e1,f1];have ii:∀ {ns:List Int} {ws:List Value},ItemsAre (intKind prog w) ns ws->IntsAre ws ns:=λ {ns ws} q=>by
   induction q with
   | nil=>exact .nil
   | cons hq _ ih=>obtain⟨t,et⟩:=DM hq;subst et;exact .cons _ _ ih
  rw[Dv.rank_lt (hmem i ⋯)] at q;refine kat_lt (k _ _ (old b o e2).1 (old b o e2).2) (by rw[e4]) (k _ _ (old b' o' f2).1 (old b' o' f2).2) (by rw[f4]) (ij 0 (ii e5) (ii f5) ?_ q);have l1:(key i).length=its.size:=by have:=e5.length;simpa using this
  have l2:(key j).length=its'.size:=by have:=f5.length;simpa using this
  rw[l1,l2]
 ·have:=a2 i j hij ⋯
  have ho:out.length=vs.length:=by rw[a1.length_eq,zA]
  have rg:∀ k,k<n->out.getD k 0<n:=λ k hk=>by
   have h1:out.getD k 0∈out:=by
    rw[yI,yH ⋯];exact zt _
   have:=List.mem_range.mp (a1.mem_iff.mp h1);omega
  unfold Dv.lexLe;rw[<- Dv.rank_lt (hmem _ (rg j hj))];exact decide_eq_false ⋯
end
theorem qk (nss:List (List Int)):(Dv.onceL nss).length<=nss.length:=by
 have:∀ (l σ:List (List Int)),(l.foldl Dv.onceStepL σ).length<=σ.length+l.length:=by
  intro l
  induction l with
  | nil=>intro σ;simp
  | cons k r ih=>
   intro σ;rw[yT];refine zr (ih _) ?_
   unfold Dv.onceStepL
   split <;>simp <;>omega
 have:=this nss [];rw[yR,A3] at this;exact this
section
variable {C:Ctx}{a:Expr}{f:EE}{pos:Pos}
theorem k6 {X:Cx}{t:TE}{p p2 pos2:Pos}(hcl:X.calm=true)(hu:X.A.units+64<cLine)(hm:X.mg "sorted"=none)(hg:Gl X "sorted")(hm2:X.mg "set"=none)(hg2:Gl X "set")(ha:PE X a t)
  (he:starEach [.Call (.Name "set" p2) [a] [] pos2] X.env=[(false,eval (.Call (.Name "set" p2) [a] [] pos2) X.env)]) (he2:starEach [a] X.env=[(false,eval a X.env)]):
  PE X (.Call (.Name "sorted" p) [.Call (.Name "set" p2) [a] [] pos2] [] pos) (λ σ H Q=>t σ H λ x H1=>∃ q vs nss,x=.ref q/\SqX X.K H1 q vs/\vs.length<64/\Paired (ItT H1) vs nss /\
   ∀ out:List Nat,(∀ i∈out,i<vs.length)->(out.map λ i=>nss.getD i [])=Dv.lsort (Dv.onceL nss)->∀ l,H1 l=none->Q (.ref l) (upd H1 l (.lst (out.map λ i=>vs.getD i .non)))):=by
 intro pins s σ H Q I h;refine CI (bO I hg hm DK ?_ (by decide) (by decide));refine D1 ?_ he rfl
 rw[he];show wpAny _ _ (spliced ((false,eval (.Call (.Name "set" p2) [a] [] pos2) X.env)::backTo pos [])) _ _ s
 refine CD (CI (bO I hg2 hm2 PyProof.Rows.boot_set ?_ (by decide) (by decide)));refine Cr ?_ he2 rfl
 rw[he2];show wpAny _ _ (spliced ((false,eval a X.env)::backTo pos2 [])) _ _ s
 refine CD (thn (ha pins s σ H _ I h) λ u s1 ⟨x,H1,I1,r1,q,vs,nss,e1,hq,h64,hit,go⟩=>?_);subst e1;cases r1;refine CP ?_
 obtain⟨its,n,rv,e,z⟩:=Inv.listX I1 hq;have hl:=rv.length;have hn:=hit.length;have item:∀ i,i<its.length->∃ b,its[i]?=some (.ref b)/\IsK X.prog X.w s1.heap (nss.getD i []) b/\nss.getD i []≠[]:=λ i hi=>by
  obtain⟨u,h1,h2⟩:=gS rv (i:=i) ⋯;obtain⟨b,hb,hs,hne⟩:=kI hit (i:=i) ⋯ [];rw[hb] at h2;obtain⟨_,ws,rw',o,ew,hc,m,hd⟩:=hs.ok I1.hok;have h2:u=.ref b:=h2;subst h2;exact⟨b,h1,⟨o,ws.toArray,m,ew,hc,hd,by simpa using ee (intsAre_of rw')⟩,hne⟩
 have hz:its.toArray.size=its.length:=yS ..;refine oR (prog:=X.prog) (w:=X.w) (B:=λ ks v=>∃ j,j<its.length/\its[j]?=some v/\nss.getD j []=ks) (items:=its.toArray) (val:=λ j=>nss.getD j []) (I1.ok.hd hcl) ⋯ ⟨_,e,rfl,n,rfl⟩ (by rw[hz];omega)
  (λ j hj=>?_) λ h' tk hS hk=>?_
 ·rw[hz] at hj
  obtain⟨b,e1,e2,_⟩:=item j hj;exact⟨b,by simpa using e1,e2,j,hj,e1,rfl⟩
 obtain⟨es,ep,tb,V,pl,p1,p2',p3⟩:=hS;rw[hz] at p2' p3;have em:d6 (λ j=>nss.getD j []) its.length=Dv.onceL nss:=by
  rw[ja nss its.length ⋯,zD ⋯];rfl
 rw[em] at p2' p3;refine CP ?_
 have po:(cy X.w s1.heap.objs.size es ep).toList.Perm (pl.map (·.2)):=ord_perm.trans (p1.map _);have oz:(cy X.w s1.heap.objs.size es ep).size=(Dv.onceL nss).length:=by
  have:=po.length_eq;rw[Cj,yC,p2'] at this;exact this
 have esz:es.size=(Dv.onceL nss).length:=by rw[<- oz,cm]
 have ol:=qk nss;have inx:∀ i,∃ j,i<es.size->∀ v,(cy X.w s1.heap.objs.size es ep)[i]?=some v->j<its.length/\its[j]?=some v:=λ i=>by
  by_cases hi:i<es.size
  ·have hi':i<(cy X.w s1.heap.objs.size es ep).size:=by rw[cm];exact hi
   have hm:(cy X.w s1.heap.objs.size es ep)[i]∈pl.map (·.2):=po.mem_iff.mp (by simp);obtain⟨m,hm',em'⟩:=zj hm;rw[yC] at hm';obtain⟨_,j,j1,j2,_⟩:=p3 m hm' ⋯;refine⟨j,λ _ v hv=>⟨j1,?_⟩⟩;rw[Co hi'] at hv;rw[j2,<- Option.some.inj hv,<- em',zK]
  ·exact⟨0,λ z=>absurd z hi⟩
 let jx:=λ i=>FA (inx i)
 have hjx:∀ i,i<es.size->∀ v,(cy X.w s1.heap.objs.size es ep)[i]?=some v->jx i<its.length/\its[jx i]?=some v:=λ i=>ER (inx i)
 have kp:∀ {ks b},IsK X.prog X.w s1.heap ks b->IsK X.prog X.w h' ks b:=λ {ks b} ⟨o,its,n,ho,r⟩=>⟨o,its,n,hk b o ho,r⟩
 have hat:∀ i,i<es.size->∃ v,(cy X.w s1.heap.objs.size es ep)[i]?=some v:=λ i hi=>⟨_,Co (by rw[cm];exact hi)⟩
 have keyOf:∀ i,i<es.size->∀ v,(cy X.w s1.heap.objs.size es ep)[i]?=some v->∃ b,v=.ref b/\IsK X.prog X.w h' (nss.getD (jx i) []) b/\nss.getD (jx i) []≠[]:=λ i hi v hv=>by
  obtain⟨j1,j2⟩:=hjx i hi v hv;obtain⟨b,e1,e2,e3⟩:=item _ j1;rw[j2] at e1;exact⟨b,Option.some.inj e1,kp e2,e3⟩
 have pk:((List.range es.size).map λ i=>nss.getD (jx i) []).Perm (Dv.onceL nss):=by
  let g:Value->List Int:=λ v=>Classical.epsilon λ ks=>∃ b,v=.ref b/\IsK X.prog X.w h' ks b
  have gk:∀ {b ks},IsK X.prog X.w h' ks b->g (.ref b)=ks:=λ {b ks} hb=>by
   have ex:∃ ks,∃ b',Cp b=.ref b'/\IsK X.prog X.w h' ks b':=⟨ks,b,rfl,hb⟩;obtain⟨b',e1,e2⟩:=Classical.epsilon_spec ex;injection e1 with e1
   subst e1;exact e2.inj hb
  have e1:(List.range es.size).map (λ i=>nss.getD (jx i) [])=(cy X.w s1.heap.objs.size es ep).toList.map g:=by
   refine Ax (by simp[cm]) λ i h1 h2=>?_
   rw[yC,zA] at h1;obtain⟨v,hv⟩:=hat i h1;obtain⟨b,rfl,hb,_⟩:=keyOf i h1 v hv;have hi':i<(cy X.w s1.heap.objs.size es ep).size:=by rw[cm];exact h1
   rw[Co hi'] at hv;simp only[zK,Bx,Array.getElem_toList];rw[Option.some.inj hv,gk hb]
  have e2:(pl.map (·.2)).map g=Dv.onceL nss:=by
   refine Ax (by simp[p2']) λ i h1 h2=>?_
   rw[yC,yC] at h1;obtain⟨⟨b,e3,hb⟩,_⟩:=p3 i h1 h2;simp only[zK,e3];exact gk hb
  rw[e1,<- e2];exact po.map g
 have I2:L2.Inv X pins σ H1 { s1 with heap:=h',toks:=tk }:=I1.kept hk;refine lV (s:={ s1 with heap:=h',toks:=tk }) (key:=λ i=>nss.getD (jx i) []) (tY (prog:=X.prog) V.gone) (I2.ok.hd hcl) V.obj ⋯ (λ i v hi hv=>keyOf i hi v hv) λ h2 tk2 vs2 out hvl hvP hk2 hp hs=>?_
 have rg:∀ i∈out,i<es.size:=λ i hi=>List.mem_range.mp (hp.mem_iff.mp hi)
 have ho:out.length=es.size:=by rw[hp.length_eq,zA]
 have vat:∀ i,i<es.size->vs2.getD i Cn=its.getD (jx i) Cn:=λ i hi=>by
  have hi':i<vs2.length:=⋯
  obtain⟨j1,j2⟩:=hjx i hi vs2[i] (hvP i _ (yH hi'));rw[yI,yH hi',yI,j2]
 have jr:∀ i∈out.map jx,i<vs.length:=λ i hi=>by
  obtain⟨m,hm,rfl⟩:=List.mem_map.mp hi;obtain⟨v,hv⟩:=hat m (rg m hm);have:=(hjx m (rg m hm) v hv).1;omega
 have fin:((out.map jx).map λ i=>nss.getD i [])=Dv.lsort (Dv.onceL nss):=by
  rw[zb];refine Dv.sorted_one (((hp.map λ i=>nss.getD (jx i) []).trans pk).trans (Dv.lsort_perm _).symm) ?_ (Dv.lsort_sorted _)
  rw[AO];intro i j hi hj hij;rw[yC] at hi hj;have:=hs i j (Ag hij) ⋯;rw[zK,zK];simpa[yI,yH hi,yH hj] using this
 have eo:(out.map λ i=>vs2.getD i Cn)=(out.map jx).map λ i=>its.getD i Cn:=by
  rw[zb];exact zv λ i hi=>vat i (rg i hi)
 have z3:(h2.push (seqObj "list" vs2.toArray 0)).get? h2.objs.size=some (seqObj "list" vs2.toArray 0):=Ci _ rfl;obtain⟨ep3,hat3⟩:=sortedHeap_at (out:=(out.map λ i=>vs2.getD i Cn).toArray) z3;have old:∀ b o,s1.heap.get? b=some o->(sortedHeap (h2.push (seqObj "list" vs2.toArray 0)) h2.objs.size vs2 (out.map λ i=>vs2.getD i Cn).toArray).get? b=some o:=λ b o q=>by
  have q2:=hk2 b o (hk b o q);have hlt:=Cg q2;rw[sortedHeap_old (yU hlt) (by rw[size_push'];exact zO hlt)];exact Cf _ q2
 have hsz:s1.heap.objs.size<=h2.objs.size:=Ag (Cg (hk2 _ _ V.obj));have hf:H1 h2.objs.size=none:=I1.hok.fresh hsz;refine⟨.ref h2.objs.size,_,I1.laid (t':=tk2) (o:=.lst ((out.map jx).map λ i=>vs.getD i .non)) old hsz ?_,rfl,go (out.map jx) jr fin _ hf⟩;rw[eo] at hat3 ⊢;refine⟨?_,(out.map jx).map λ i=>its.getD i Cn,ep3,fJ rv (out.map jx) jr,by simpa[seqObj] using hat3⟩;rw[yC,yC,CF];omega
theorem kL {p p2 pos2:Pos}(hm:C.X.mg "sorted"=none)(hg:Gl C.X "sorted")(hm2:C.X.mg "set"=none)(hg2:Gl C.X "set")(ha:SE C a f)
  (he:autoParam (starEach [.Call (.Name "set" p2) [a] [] pos2] C.X.env=[(false,eval (.Call (.Name "set" p2) [a] [] pos2) C.X.env)]) ZE._auto_1) (he2:autoParam (starEach [a] C.X.env=[(false,eval a C.X.env)]) ZE._auto_1) (hcl:autoParam (C.X.calm=true) ZE._auto_1):
  SE C (.Call (.Name "sorted" p) [.Call (.Name "set" p2) [a] [] pos2] [] pos) (Dv.eB1 Dv.sortSetTD f):=by
 obtain⟨t,pa,qa⟩:=ha;refine⟨_,k6 hcl C.un hm hg hm2 hg2 pa he he2,λ σ H Hv ρ Q e s w=>?_⟩;refine qa.step e (.refl s) w λ v d fr Hv1 H1 _ x1 _ rx n1 q=>?_
 cases d with
 | lst ds=>
  simp only[Dv.sortSetTD] at q;cases hi:Dv.tupsOf ds with
  | none=>rw[hi] at q;exact Zf q
  | some nss=>
   rw[hi] at q;by_cases h64:nss.length<64
   ·simp only[h64,if_true] at q
    obtain⟨ed,hne⟩:=jv hi;subst ed;obtain⟨l,vs,rfl,h1,h2,h3⟩:=iH x1 rx n1;have hl:=h2.length;rw[yC] at hl;refine⟨l,vs,nss,rfl,h1,⋯,Paired.mapM (jZ hne h2) λ _ _ _ z=>z.same x1.vh,λ out hin hp p hpn=>?_⟩;have hin':∀ i∈out,i<(nss.map λ ns=>D.tup (ns.map .int)).length:=λ i hi=>by rw[yC,<- hl];exact hin i hi
    have fin:∀ {K:Frag} {H:Hp},RpL K H (nss.map λ ns=>D.tup (ns.map .int)) vs->RpL K H ((Dv.lsort (Dv.onceL nss)).map λ ns=>D.tup (ns.map .int)) (out.map λ i=>vs.getD i .non):=λ {K H} r=>by
     have r2:=RpL.pick r out hin';have e3:(out.map λ i=>(nss.map λ ns=>D.tup (ns.map .int)).getD i .non)=(out.map λ i=>nss.getD i []).map λ ns=>D.tup (ns.map .int):=by
      rw[zb];refine zv λ i hi=>?_
      have h:i<nss.length:=by have:=hin i hi;omega
      simp[yI,yH h]
     rw[e3,hp] at r2;exact r2
    exact Ok.newL q x1 (fin h2) (λ z=>fin (h3 z)) p hpn
   ·simp only[h64,if_false] at q
    exact Zf q
 | _=>exact Zf q
end
open PySem PySem.Spec PyProof.Rows L2
open Dv (D R)
structure Fo (P:Program)(w:World)(K:Cd)(mg:Str->Option Value)(base:Heap)(n:Str)(st:Stmt)(ps:List Str)(k:Nat)(S:Sp) where
 f:Addr
 fd:FuncData
 d:Df K mg n st ps f fd
 o:FnOk P w K mg base (CXe P w) k f fd ps S
abbrev Fu (n:Str)(st:Stmt)(ps:List Str)(k:Nat)(F:List D->R)(m:Nat)(P:Program)(w:World)(K:Cd)(mg:Str->Option Value)(base:Heap)(ad:String->Option Addr):=Fo P w K mg base n st ps k (spD K (aJ ad) F m)
abbrev hD (K:Cd)(n:Str)(s:Stmt):Prop:=∃ (f:Addr) (oc:Value) (od:Option Addr) (kV dc pm:Value) (an:Option Addr) (cd ct:Value) (sl:Array (Option Value)),Cq K mainGlobals n=some (some (.ref f)) /\
 K.lookup f=some ⟨oc,od,.func (CK n n (bK s) (aZ s) (ai s) .none kV dc pm an cd ct),sl⟩/\Dd K cd n=true/\De K (.ref f)=true
theorem dfE {K:Cd}{h:Heap}{mg:Str->Option Value}{n:Str}{st:Stmt}{ps:List Str}(X:K.In h)(G:h.Ns mainGlobals mg)(q:hD K n st)
  (b:∀ (kV doc pm:Value) (an:Option Addr) (cdv ct:Value) (us:List Value),us.length=ps.length->bindArgs (CK n n (bK st) (aZ st) (ai st) .none kV doc pm an cdv ct) ⟨us,[]⟩=pure (ps.zip us)):∃ f fd,Df K mg n st ps f fd:=
 let ⟨f,_,_,_,_,_,_,_,_,_,a,l,c,k⟩:=q
 ⟨f,_,uH (DC X G a) l c k b⟩
abbrev hX (K:Cd)(c:String)(C:Addr):Prop:=Cq K mainGlobals (CG c)=some (some (.ref C))/\CJ K (.ref C) (.type "ValueError")=some true/\XLook K C
theorem hx_cons {K:Cd}{c:String}{C:Addr}{l:List (String×Addr)}(h:hX K c C)(r:∀ p∈l,hX K p.1 p.2):∀ p∈(c,C)::l,hX K p.1 p.2:=cC h r
def sX (K:Cd)(c:String)(C:Addr)(l:List (String×Addr)):Prop:=∀ p∈l,CJ K (.ref C) (.ref p.2)=some (Dv.subX c p.1)
theorem sx_cons {K:Cd}{c q:String}{C Q:Addr}{l:List (String×Addr)}(h:CJ K (.ref C) (.ref Q)=some (Dv.subX c q))(r:sX K c C l):sX K c C ((q,Q)::l):=cC h r
theorem sx_nil {K:Cd}{c:String}{C:Addr}:sX K c C []:=fm_nil
theorem sxx_cons {K:Cd}{c:String}{C:Addr}{l l0:List (String×Addr)}(h:sX K c C l0)(r:∀ p∈l,sX K p.1 p.2 l0):∀ p∈(c,C)::l,sX K p.1 p.2 l0:=cC h r
abbrev hXs (K:Cd)(l:List (String×Addr)):Prop:=(∀ p∈l,hX K p.1 p.2)/\∀ p∈l,sX K p.1 p.2 l
theorem xh {K:Cd}{h:Heap}{mg:Str->Option Value}(X:K.In h)(G:h.Ns mainGlobals mg){l:List (String×Addr)}(q:hXs K l):XAll K mg (oD l):=
 tf l (λ p hp=>let ⟨a,v,x⟩:=q.1 p hp;⟨⟨DC X G a,a,x.ex,x.lk⟩,x,v⟩) λ p hp q' hq=>q.2 p hp q' hq
end Sd
namespace Dv
def compGoG (bn:D->Option (List D))(elt:EE)(cond:EE)(free:Env):List D->RL
 | []=>.ok [] true
 | d::r=>match bn d with
  | some es=>match cond (es.map some++free) with
   | .ok (.bl true) _=>match elt (es.map some++free) with
    | .ok x f=>match compGoG bn elt cond free r with
     | .ok xs g=>.ok (x::xs) (f&&g)
     | _=>.bad
    | _=>.bad
   | .ok (.bl false) _=>compGoG bn elt cond free r
   | _=>.bad
  | none=>.bad
def eCompG (bn:D->Option (List D))(elt cond:EE)(is:List Nat)(it:EI):EE:=λ ρ=>match it ρ with
 | .ok ds _=>if ds.length<=mx then match compGoG bn elt cond (pick ρ is) ds with
   | .ok xs f=>.ok (.lst xs) f
   | _=>.bad
  else .bad
 | .exc c=>.exc c
 | .bad=>.bad
def bn1 (d:D):Option (List D):=some [d]
theorem go1 (elt cond:EE)(free:Env):∀ l,compGoG bn1 elt cond free l=bG elt cond free l
 | []=>rfl
 | d::r=>by unfold compGoG bG;simp only[bn1,go1 elt cond free r];all_goals rfl
theorem eC1 (elt cond:EE)(is:List Nat)(it:EI):eCompG bn1 elt cond is it=eComp elt cond is it:=by funext ρ;unfold eCompG eComp;simp only[go1];all_goals rfl
end Dv
namespace Sd
open PySem PySem.Spec PyProof.Rows L2
open Dv (D R RL EE EL EI RI Sl Out SS)
section
variable {C:Ctx}{elt iter:Expr}{tg:Expr}{bn:D->Option (List D)}{T0:TG}{ts:List Str}{pos:Pos}{ifs:List Expr}{scope:Scope}{fs:List Str}{is:List Nat}{fi:EI}{fe fc:EE}
structure CompAtG (C:Ctx)(ts:List Str)(fs:List Str)(is:List Nat)(scope:Scope)(cl:List (Str×Addr))(L Da:Addr)(s2:Shared)(H1 Hv1:Hp)(fp:List Addr)(tn:Nat->Heap->Prop)(σ:St)(ds:List D)(i:Nat)(os:St)(vs:List V)(xs:List D)(f1:Bool)(Hn Hvn:Hp)(s:Shared):Prop where
 le:i<=ds.length
 ol:os.length=ts.length
 inv:Inv (bH C.X (ts++fs) scope cl L s2 H1 fp) [] (os++bY σ is) Hn s
 at_:tn i s.heap
 fpn:∀ b∈fp,Hn b=none
 obj:∃ (its:List Value) (ne:Nat),s.heap.get? Da=some { cls:=.type "list",data:=.seq its.toArray ne }/\Vals vs its
 dn:Hn Da=none
 few:vs.length<=i
 ext:Ext Hv1 H1 Hvn Hn
 rp:RpL C.X.K Hvn xs vs
 fr:f1=true->RpL [] (Hnew H1 Hn) xs vs
theorem oe {cl:List (Str×Addr)}{L Da:Addr}{s2:Shared}{H1:Hp}{fp:List Addr}{σ:St}{pins:List (Addr×Obj)}{its:List Value}{ne:Nat}{vs:List V}{Hn:Hp}{s1:Shared}{os:St}{h':Heap}
  (I2:Inv C.X pins σ H1 s2) (f2:∀ b∈fp,ir C.X pins H1 b) (eD:Da=s2.heap.objs.size) (eL:L=s2.heap.objs.size+1)
  (I:Inv (bH C.X (ts++fs) scope cl L s2 H1 fp) [] (os++bY σ is) Hn s1) (obj:s1.heap.get? Da=some { cls:=.type "list",data:=.seq its.toArray ne }) (rv:Vals vs its) (dn:Hn Da=none) (few:vs.length<=sizeLine)
  (sb:∀ b,b≠L->h'.get? b=s1.heap.get? b):Inv C.X pins σ (upd Hn Da (.lst vs)) { s1 with heap:=h' }:=by
 have lt:∀ b o,s2.heap.get? b=some o->b≠Da/\b≠L:=λ b o e=>by
  have hlt:=Cg e;rw[eD,eL];exact⟨yU hlt,yU (zO hlt)⟩
 have hDL:Da≠L:=by rw[eD,eL];exact yU (zS _)
 have kp:∀ b o,b≠L->s1.heap.get? b=some o->h'.get? b=some o:=λ b o hb e=>(sb b hb).trans e
 refine I2.call' (s':={ s1 with heap:=h' }) (ch:=fp) I.os ⟨λ b ob e n hb hx=>?_,λ b ob e n hb hx=>?_,λ b ob e n hx=>?_,λ b ob e hx=>?_,λ b us e=>?_,λ b ob u e=>?_,λ b ps e=>?_⟩ ?_ I.bare λ b hb=>⟨(f2 b hb).2.2.2.1,(f2 b hb).2.1,(f2 b hb).2.2.2.2.1,(f2 b hb).2.2.2.2.2⟩
 ·exact kp b ob (lt b ob e).2 (I.base.keep b ob e n hb hx)
 ·obtain⟨sl,h1⟩:=I.base.slot b ob e n hb hx
  exact⟨sl,kp b _ (lt b ob e).2 h1⟩
 ·rw[ax (lt b ob e).1];exact I.base.free b ob e n hx
 ·obtain⟨o',h1⟩:=I.base.there b ob e hx
  exact⟨o',kp b _ (lt b ob e).2 h1⟩
 ·have h1:=I.base.tups b us e
  rw[ax (aB h1 dn)];exact h1
 ·have h1:=I.base.frzs b ob u e
  rw[ax (aB h1 dn)];exact h1
 ·obtain⟨more,h1⟩:=I.base.tbls b ps e
  exact⟨more,by rw[ax (aB h1 dn)];exact h1⟩
 ·exact jd (sJ I.hok I.free kp) dn ⟨few,its,ne,rv,kp Da _ hDL obj⟩
theorem jO {bn:D->Option (List D)}{elt cond:EE}{free:Dv.Env}{d:D}{r:List D}{xs:List D}{f:Bool}(h:Dv.compGoG bn elt cond free (d::r)=.ok xs f):
  ∃ es,bn d=some es/\((∃ g x fx xs' f',cond (es.map some++free)=.ok (.bl true) g/\elt (es.map some++free)=.ok x fx/\Dv.compGoG bn elt cond free r=.ok xs' f'/\xs=x::xs'/\f=(fx&&f')) \/
  (∃ g,cond (es.map some++free)=.ok (.bl false) g/\Dv.compGoG bn elt cond free r=.ok xs f)):=by
 unfold Dv.compGoG at h;cases hb:bn d with
 | none=>simp only[hb] at h;cases h
 | some es=>
  refine⟨es,rfl,?_⟩;simp only[hb] at h;cases hc:cond (es.map some++free) with
  | bad=>simp only[hc] at h;cases h
  | exc c=>simp only[hc] at h;cases h
  | ok v g=>
   cases v with
   | bl b=>
    cases b with
    | true=>
     simp only[hc] at h;cases he:elt (es.map some++free) with
     | bad=>simp only[he] at h;cases h
     | exc c=>simp only[he] at h;cases h
     | ok x fx=>
      simp only[he] at h;cases hr:Dv.compGoG bn elt cond free r with
      | bad=>simp only[hr] at h;cases h
      | exc c=>simp only[hr] at h;cases h
      | ok xs' f'=>
       simp only[hr] at h;cases h;exact .inl ⟨g,x,fx,xs',f',rfl,rfl,rfl,rfl,rfl⟩
    | false=>simp only[hc] at h;exact .inr ⟨g,rfl,h⟩
   | _=>simp only[hc] at h;cases h
structure TgR (C:Ctx)(tg:Expr)(ts fs:List Str)(scope:Scope)(bn:D->Option (List D))(T:TG):Prop where
 hg:∀ cl L s₀ H₀ ex,PG (bH C.X (ts++fs) scope cl L s₀ H₀ ex) tg T
 ht:∀ {K:Cd} {d:D} {des:List D} {Hv H:Hp} {xv:V} {os fr:St} {Q:St->Hp->Prop},bn d=some des->os.length=ts.length->Same Hv H->Rp K Hv d xv->(∀ ws,ws.length=ts.length->RpL K Hv des ws->Q (ws.map some++fr) H)->T xv (os++fr) H Q
theorem gX {pins:List (Addr×Obj)}{s:Shared}{σ:St}{H Hv:Hp}{ρ:Dv.Env}{Q:VK}{use:Option (Value->Sem Unit)}{Q':Value->Shared->Prop}{pos':Pos}(hclm:C.X.calm=true)(S:CompNamesT C.X scope ts fs is)(hG:TgR C tg ts fs scope bn T0)(hi:SI C tg iter fi)(he:∀ cl L s₀ H₀ ex,SE (bx C (ts++fs) scope cl L s₀ H₀ ex) elt fe)(hc:∀ cl L s₀ H₀ ex,STs (bx C (ts++fs) scope cl L s₀ H₀ ex) ifs fc)
  (hs:∀ v,foldedSetIterable iter C.X.env v=pure v) (I:Inv C.X pins σ H s) (er:EnvR C.X.K Hv ρ σ) (sv:Same Hv H) (ok:Ok C.X.K Hv H (C.W σ) C.cls (Dv.eCompG bn fe fc is fi ρ) Q)
  (hfin:∀ Da L s5,mG C pins σ Q Da L s5->compPost (model C.X.prog C.X.w) C.X.A C.X.xe use Q' (.ref Da) L (.ok .next) s5):
  wpAny (model C.X.prog C.X.w) C.X.A (comprehension (.ListComp elt [⟨tg,iter,ifs,0⟩] scope pos) scope C.X.env pos' (newList []) false (eval iter C.X.env) use) Q' C.X.xe s:=by
 obtain⟨wi,pi,qi⟩:=hi;obtain⟨cl,hcl,clsub,clhas⟩:=lQ (env:=C.X.env) (scope:=scope) λ y hy hf=>I.ok.has y.1 (S.free y hy hf)
 have h0:wi σ H (λ J H1=>∃ Hv1 ds xs fr,Ext Hv H Hv1 H1/\Wlk C.X.K J Hv1 ds/\ds.length<=Dv.mx/\Dv.compGoG bn fe fc (Dv.pick ρ is) ds=.ok xs fr/\Ok C.X.K Hv H (C.W σ) C.cls (.ok (.lst xs) fr) Q):=by
  refine qi σ H Hv ρ _ er sv ?_
  unfold Dv.eCompG at ok;cases hf:fi ρ with
  | bad=>simp only[hf] at ok;exact ok
  | exc c=>simp only[hf] at ok;exact ok
  | ok ds g=>
   simp only[hf] at ok;by_cases hz:ds.length<=Dv.mx
   ·simp only[hz,if_true] at ok
    cases hgo:Dv.compGoG bn fe fc (Dv.pick ρ is) ds with
    | bad=>simp only[hgo] at ok;exact Zf ok
    | exc c=>simp only[hgo] at ok;exact Zf ok
    | ok xs fr=>
     simp only[hgo] at ok;exact λ J Hv1 H1 x1 wl=>⟨Hv1,ds,xs,fr,x1,wl,hz,hgo,ok⟩
   ·simp only[hz,if_false] at ok
    exact Zf ok
 refine wpAny_comprehension_free (use:=use) rfl hs hcl S.kind S.names (CA (pi pins s σ H _ I h0) (λ v s1 h1=>CA h1 (λ itv s2 h2=>?_) λ _ _ z=>z) λ _ _ z=>z);obtain⟨it,fp,tn,J,H1,rfl,I2,T,st2,f2,Hv1,ds,xs,fr,x1,wl,hz,hgo,okE⟩:=h2;clear ok;have fin:∀ b∈fp,b<s2.heap.objs.size:=λ b hb=>by
  obtain⟨o,e,_⟩:=T.obj 0 _ st2 b hb;exact Cg e
 refine CO (wpAny_newFunctionEnv S.cell (by intro y hy;simp at hy) (λ h1 hns hsb=>?_) S.kind);dsimp only at hns hsb ⊢;generalize hH2:s2.heap.push { cls:=.type "list",dict:=none,data:=.seq ([]:List Value).toArray }=G2 at hns hsb ⊢;have hL:G2.objs.size=s2.heap.objs.size+1:=by rw[<- hH2,Ds]
 generalize eL:G2.objs.size=L at hns hsb ⊢;rw[eL] at hL;have old:∀ b o,s2.heap.get? b=some o->h1.get? b=some o:=λ b o e=>by
  have hlt:=Cg e;exact hsb.extBut b o (by rw[hL];exact yU (zO hlt)) (Cf _ (hH2▸Cf _ e))
 have hacc:h1.get? s2.heap.objs.size=some { cls:=.type "list",data:=.seq ([]:List Value).toArray 0 }:=hsb.extBut _ _ (by rw[hL];exact yU (zS _)) (Cf _ (hH2▸Ci _ rfl));generalize eD:s2.heap.objs.size=Da at hacc hL ⊢;have hDfp:Da∉fp:=λ hb=>by
  have:=fin Da hb;rw[eD] at this;exact zq _ this
 have hDL:Da≠L:=by rw[hL];exact yU (zS _)
 have hsL:s2.heap.objs.size<=L:=by rw[hL,eD];exact AJ _
 have hsD:s2.heap.objs.size<=Da:=B2 eD;obtain⟨te,pe,qe⟩:=he cl L s2 H1 fp;obtain⟨tt,pt,qt⟩:=hc cl L s2 H1 fp;have hDfs:Da∉frs C.X.stack:=λ hb=>by
  obtain⟨_,ob,hob,_⟩:=I2.stack.mem hb;have:=Cg hob;rw[eD] at this;exact zq _ this
 have hcalm:(bH C.X (ts++fs) scope cl L s2 H1 fp).calm=true:=hclm;have start:CompAtG C ts fs is scope cl L Da s2 H1 Hv1 fp tn σ ds 0 (List.replicate ts.length none) [] [] true H1 Hv1 { s2 with heap:=h1,toks:=s2.toks+([]:List (Str×Value)).length }:=
  ⟨zI _,by simp,oZ I2 S clsub clhas f2 fin hsL old hns,T.keep 0 _ _ st2 λ b hb o e=>old b o e,λ b hb=>(f2 b hb).1,⟨[],0,hacc,.nil⟩,I2.hok.fresh hsD,yW _,.refl x1.vh,.nil,λ _=>.nil⟩
 have loop:∀ (T0:Result->Shared->Prop) (s4:Shared),(∀ s',mG C pins σ Q Da L s'->T0 (.ok .next) s')->CompAtG C ts fs is scope cl L Da s2 H1 Hv1 fp tn σ ds 0 (List.replicate ts.length none) [] [] true H1 Hv1 s4 ->
   codeAny (model C.X.prog C.X.w) C.X.A (.compLoop (.ListComp elt [⟨tg,iter,ifs,0⟩] scope pos) 0 (.ref it) (.ref Da) (compEnvC scope cl L C.X.env)) T0 s4:=by
  intro T0 s4 hT hst';refine mC (λ n s=>∃ i os vs xs1 f1 xs2 fr2 Hn Hvn,n=ds.length-i/\CompAtG C ts fs is scope cl L Da s2 H1 Hv1 fp tn σ ds i os vs xs1 f1 Hn Hvn s/\Dv.compGoG bn fe fc (Dv.pick ρ is) (ds.drop i)=.ok xs2 fr2/\xs=xs1++xs2/\fr=(f1&&fr2)) ?_ ds.length ⟨0,List.replicate ts.length none,[],[],true,xs,fr,H1,Hv1,rfl,hst',hgo,rfl,by simp⟩
  rintro n s ⟨i,os,vs,xs1,f1,xs2,fr2,Hn,Hvn,rfl,A,hg2,hxs,hfr⟩
  obtain⟨its,ne,hob,rv⟩:=A.obj;have I1:Inv (bH C.X (ts++fs) scope cl L s2 H1 fp) [(Da,{ cls:=.type "list",data:=.seq its.toArray ne })] (os++bY σ is) Hn s:=A.inv.pins_of λ p hp=>by
   have e:p=(Da,({ cls:=.type "list",data:=.seq its.toArray ne }:Obj)):=by simpa using hp
   subst e;exact⟨hob,A.dn,hDL,hDfs,λ v z=>by cases z⟩
  have hfp:∀ Hx:Hp,(∀ b∈fp,Hx b=none)->∀ b∈fp,ir (bH C.X (ts++fs) scope cl L s2 H1 fp) [(Da,{ cls:=.type "list",data:=.seq its.toArray ne })] Hx b:=λ Hx hx b hb=>by
   refine⟨hx b hb,?_,λ hf=>?_,.inl hb,λ y c e=>(f2 b hb).2.2.2.2.1 y c (clsub y c e),λ p hp=>?_⟩
   ·have:=fin b hb
    exact λ z=>by
     have z':b=L:=z;rw[z'] at this;exact absurd this (Nat.not_lt.mpr hsL)
   ·obtain⟨_,ob,hob',_⟩:=I2.stack.mem hf
    rcases List.mem_cons.mp (I2.stkSub b hf) with e|e
    ·exact(f2 b hb).2.1 e
    ·exact(f2 b hb).2.2.1 e
   ·have e:p=(Da,({ cls:=.type "list",data:=.seq its.toArray ne }:Obj)):=by simpa using (show p∈[]++[(Da,({ cls:=.type "list",data:=.seq its.toArray ne }:Obj))] from hp)
    subst e;exact λ z=>hDfp (by rw[show Da=b from z];exact hb)
  obtain⟨w1,w2⟩:=wl i Hn (A.ext.vv.trans A.ext.vh);by_cases hlt:i<ds.length
  ·have hd:ds[i]?=some ds[i]:=by simp[hlt]
   have e1:ds.drop i=ds[i]::ds.drop (i+1):=zW hlt;rw[e1] at hg2;generalize ds[i]=d at hd e1 hg2;obtain⟨go,yl⟩:=w1 d hd;refine CA (T.item (bH C.X (ts++fs) scope cl L s2 H1 fp) rfl rfl rfl hcalm i _ s _ Hn (λ _ _=>False) I1 (hfp Hn A.fpn) A.at_ go) (λ r s5 h5=>?_) λ _ _ z=>z
   obtain⟨u,rfl,h5⟩:=h5;refine CA h5 (λ _ s6 h6=>?_) λ _ _ z=>z
   obtain⟨xv,H6,I6,ru,y6,tn6,fr6⟩:=h6;obtain⟨Hv6,x6,rp6⟩:=yl xv H6 y6;obtain⟨Hvm,xm,sm⟩:=oV A.ext x6;have I6p:=I6.pinned (fp:=fp) (hfp H6 fr6) (T.obj _ _ tn6);have dn6:H6 Da=none:=(I6.pin (Da,{ cls:=.type "list",data:=.seq its.toArray ne }) (za _ (by simp))).2.1;obtain⟨des,ed,hgo3⟩:=jO hg2;refine CA (hG.hg cl L s2 H1 fp _ s6 _ H6 xv u (λ σ' H'=>∃ ws,ws.length=ts.length/\RpL C.X.K Hv6 des ws/\σ'=ws.map some++bY σ is/\H'=H6) I6p ru (hG.ht ed A.ol x6.vh rp6 λ ws h1 h2=>⟨ws,h1,h2,rfl,rfl⟩)) (λ _ s7 h7=>?_) λ _ _ z=>z
   obtain⟨σ7,H7,I7,ws,hwl,hws,e7,e7'⟩:=h7;subst e7 e7';have er7:EnvR C.X.K Hvm (des.map some++Dv.pick ρ is) (ws.map some++bY σ is):=oS (er.same ((x1.vv.trans A.ext.vv).trans xm.vv)) ((hws.same sm));have back:∀ {s':Shared} {H':Hp} {σ':St},Inv (bH C.X (ts++fs) scope cl L s2 H1 fp) ([(Da,{ cls:=.type "list",data:=.seq its.toArray ne })]++gM fp s6.heap) σ' H' s'->tn (i+1) s'.heap/\(∀ b∈fp,H' b=none)/\s'.heap.get? Da=some { cls:=.type "list",data:=.seq its.toArray ne }/\H' Da=none:=λ {s' H' σ'} I'=>by
    refine⟨T.keep _ _ _ tn6 λ b hb o e=>(I'.pin (b,o) (za _ (za _ (cV hb e)))).1,λ b hb=>?_,?_,?_⟩
    ·obtain⟨o,e,_⟩:=T.obj _ _ tn6 b hb
     exact(I'.pin (b,o) (za _ (za _ (cV hb e)))).2.1
    ·exact(I'.pin (Da,{ cls:=.type "list",data:=.seq its.toArray ne }) (za _ (zM _ (by simp)))).1
    ·exact(I'.pin (Da,{ cls:=.type "list",data:=.seq its.toArray ne }) (za _ (zM _ (by simp)))).2.1
   rcases hgo3 with ⟨g,xd,fx,xs',f',hcond,helt,hrest,exs,ef⟩|⟨g,hcond,hrest⟩
   ·-- the item is taken
    refine CA (pt _ s7 _ H7 (λ b H'=>b=true/\∃ Hvq,Ext Hvm H7 Hvq H') I7 (qt _ H7 Hvm (des.map some++Dv.pick ρ is) _ er7 xm.vh ?_)) (λ okb s8 h8=>?_) λ _ _ z=>z
    ·rw[hcond]
     intro v Hv' H' xx rpb _;unfold Rp at rpb;exact⟨true,rpb,rfl,Hv',xx⟩
    obtain⟨H8,I8,rfl,Hv8,x8⟩:=h8;rw[if_pos rfl];refine CA (pe _ s8 _ H8 (λ v H'=>∃ Hv',Ext Hv8 H8 Hv' H'/\Rp C.X.K Hv' xd v/\(fx=true->Rp [] (Hnew H8 H') xd v)) I8 (qe _ H8 Hv8 (des.map some++Dv.pick ρ is) _ (er7.same x8.vv) x8.vh ?_)) (λ uv s9 h9=>?_) λ _ _ z=>z
    ·show Ok C.X.K Hv8 H8 _ C.cls (fe (des.map some++Dv.pick ρ is)) _
     rw[helt];exact λ v Hv' H' xx rpb nn=>⟨Hv',xx,rpb,nn⟩
    obtain⟨v9,H9,I9,r9,Hv9,x9,rp9,n9⟩:=h9;obtain⟨tn9,fpn9,ob9,dn9⟩:=back I9;have hlen:=rv.length;refine D3 Fc ⟨_,ob9,rfl⟩ E5 (EZ _ _) (Fp Da its.toArray ne uv (by rw[yS];have:=A.few;have:=cF hz;omega)) ⟨ob9,?_⟩;refine⟨ds.length-(i+1),⋯,i+1,ws.map some,vs++[v9],xs1++[xd],f1&&fx,xs',f',H9,Hv9,rfl,⟨hlt,by simp[hwl],?_,?_,fpn9,?_,dn9,?_,?_,?_,?_⟩,hrest,by rw[hxs,exs];simp,by rw[hfr,ef,Bool.and_assoc]⟩
    ·have I9':Inv (bH C.X (ts++fs) scope cl L s2 H1 fp) [] (ws.map some++bY σ is) H9 s9:=I9.pins_of λ p hp=>absurd hp (by simp)
     exact I9'.turned (it:=Da) (λ b ob hb e=>(Ct _ _ (Ne.symm hb)).trans e) dn9 hDL (.inr hsD) (λ y c e z=>by
      obtain⟨w',oc,hoc,_⟩:=I2.cell y c (clsub y c e);have:=Cg hoc;rw[z] at this;exact absurd this (Nat.not_lt.mpr hsD)) (λ p hp=>absurd (show p∈([]:List (Addr×Obj)) from hp) (by simp))
    ·exact T.keep _ _ _ tn9 λ b hb ob e=>(Ct _ _ (λ z=>hDfp (by rw[z];exact hb))).trans e
    ·have q:=Fy ob9 (λ a=>a.push uv)
     exact⟨its++[uv],_,by simpa using q,rv.append (.cons r9 .nil)⟩
    ·rw[yY,Bb];have:=A.few;omega
    ·exact A.ext.trans (xm.trans (x8.trans x9))
    ·exact(A.rp.same ((xm.vv.trans x8.vv).trans x9.vv)).append (.cons rp9 .nil)
    ·intro z
     rw[yL] at z;refine((A.fr z.1).same (Hnew.mono (.refl _) ((xm.hh.trans x8.hh).trans x9.hh))).append (.cons ((n9 z.2).same (Hnew.mono ((A.ext.hh.trans xm.hh).trans x8.hh) (.refl _))) .nil)
   ·-- the item is left out
    refine CA (pt _ s7 _ H7 (λ b H'=>b=false/\∃ Hvq,Ext Hvm H7 Hvq H') I7 (qt _ H7 Hvm (des.map some++Dv.pick ρ is) _ er7 xm.vh ?_)) (λ okb s8 h8=>?_) λ _ _ z=>z
    ·rw[hcond]
     intro v Hv' H' xx rpb _;unfold Rp at rpb;exact⟨false,rpb,rfl,Hv',xx⟩
    obtain⟨H8,I8,rfl,Hv8,x8⟩:=h8;rw[if_neg zf];obtain⟨tn8,fpn8,ob8,dn8⟩:=back I8;refine⟨ds.length-(i+1),⋯,i+1,ws.map some,vs,xs1,f1,xs2,fr2,H8,Hv8,rfl,⟨hlt,by simp[hwl],I8.pins_of λ p hp=>absurd hp (by simp),tn8,fpn8,⟨its,ne,ob8,rv⟩,dn8,AN A.few,A.ext.trans (xm.trans x8),A.rp.same (xm.vv.trans x8.vv),λ z=>(A.fr z).same (Hnew.mono (.refl _) (xm.hh.trans x8.hh))⟩,hrest,hxs,hfr⟩
  ·have ei:i=ds.length:=Nat.le_antisymm A.le ⋯
   refine CA (T.done (bH C.X (ts++fs) scope cl L s2 H1 fp) rfl rfl rfl hcalm i _ s _ Hn (λ _ _=>False) I1 (hfp Hn A.fpn) A.at_ (w2 ei)) (λ r s5 h5=>?_) λ _ _ z=>z
   obtain⟨rfl,I5⟩:=h5;refine hT s5 ?_
   obtain⟨m5,hn5,_⟩:=I5.loc;rw[ei,BH] at hg2;cases hg2;rw[Al] at hxs;rw[yV] at hfr;subst hxs hfr;have ob5:=(I5.pin (Da,{ cls:=.type "list",data:=.seq its.toArray ne }) (za _ (by simp))).1;refine⟨⟨m5,hn5⟩,λ z=>absurd I2.lt (by rw[<- z];exact Nat.not_lt.mpr hsL),λ y c e z=>?_,zr I2.sz hsL,λ p hp z=>?_,upd Hn Da (.lst vs),?_,?_,λ h' sb=>?_⟩
   ·obtain⟨w',oc,hoc,_⟩:=I2.cell y c e
    exact absurd (Cg hoc) (by rw[z];exact Nat.not_lt.mpr hsL)
   ·exact absurd (Cg (I2.pin p hp).1) (by rw[z];exact Nat.not_lt.mpr hsL)
   ·rw[ax (Ne.symm hDL)];exact A.inv.free
   ·exact Ok.newL okE (x1.trans A.ext) A.rp (λ z=>(A.fr z).same (Hnew.mono x1.hh (.refl _))) Da A.dn
   ·exact oe I2 f2 eD.symm (by rw[hL,eD]) (I5.pins_of λ p hp=>absurd hp (by simp)) ob5 rv A.dn (by have:=A.few;have:=A.le;have:=cF hz;omega) sb
 refine codeAny_compStart_list (loop _ _ (λ s' h=>hfin Da L s' h) start) ?_
 exact T.self _ 0 _ _ _ start.at_ (loop _ _ (λ s' h=>hfin Da L s' h) start)
theorem pZ (S:CompNamesT C.X scope ts fs is)(hG:TgR C tg ts fs scope bn T0)(hi:SI C tg iter fi)(he:∀ cl L s₀ H₀ ex,SE (bx C (ts++fs) scope cl L s₀ H₀ ex) elt fe)(hc:∀ cl L s₀ H₀ ex,STs (bx C (ts++fs) scope cl L s₀ H₀ ex) ifs fc)
  (hs:autoParam (∀ v,foldedSetIterable iter C.X.env v=pure v) ZD._auto_1) (hclm:autoParam (C.X.calm=true) ZE._auto_1):SE C (.ListComp elt [⟨tg,iter,ifs,0⟩] scope pos) (Dv.eCompG bn fe fc is fi):=by
 refine⟨λ σ H Q=>∃ Hv ρ,EnvR C.X.K Hv ρ σ/\Same Hv H/\Ok C.X.K Hv H (C.W σ) C.cls (Dv.eCompG bn fe fc is fi ρ) Q,?_,λ σ H Hv ρ Q e s q=>⟨Hv,ρ,e,s,q⟩⟩;intro pins s σ H Q I ⟨Hv,ρ,er,sv,ok⟩;rw[eval_ListComp];refine gX (use:=none) hclm S hG hi he hc hs I er sv ok λ Da L s5 h=>?_
 obtain⟨⟨m,hn⟩,_,_,_,_,H',hL,q,iv⟩:=h;exact⟨m,hn,λ h' sb=>⟨.ref Da,H',iv h' λ b hb=>sb.2 b hb,rfl,q⟩⟩
theorem kJ {i:Nat}{y:Str}{py spos:Pos}(S:CompNamesT C.X scope ts fs is)(hG:TgR C tg ts fs scope bn T0)(hi:SI C tg iter fi)(he:∀ cl L s₀ H₀ ex,SE (bx C (ts++fs) scope cl L s₀ H₀ ex) elt fe)(hc:∀ cl L s₀ H₀ ex,STs (bx C (ts++fs) scope cl L s₀ H₀ ex) ifs fc)
  (hN:C.X.N.Nodup) (hy:C.X.N[i]?=some y) (hl:C.X.env.scope.names.lookup y=some .local) (hsw:swapsWith (.ListComp elt [⟨tg,iter,ifs,0⟩] scope pos) (some (.Name y py)) spos.line C.X.env=pure true) (hs:∀ v,foldedSetIterable iter C.X.env v=pure v) (hclm:C.X.calm=true):
  PS C.X (.Assign [.Name y py] (.ListComp elt [⟨tg,iter,ifs,0⟩] scope pos) spos) (λ E σ H=>∃ Hv ρ,EnvR C.X.K Hv ρ σ/\Same Hv H/\Ok C.X.K Hv H (C.W σ) C.cls (Dv.eCompG bn fe fc is fi ρ) λ v H'=>E.nx (σ.set i (some v)) H'):=by
 intro pins s σ H E I ⟨Hv,ρ,er,sv,ok⟩;rw[exec_Assign_Name_used _ _ _ _ hsw];refine Cc (DQ (Cc ?_));show wpAny _ _ (do let _ <- comprehension (.ListComp elt [⟨tg,iter,ifs,0⟩] scope pos) scope C.X.env _ (newList []) false (eval iter C.X.env) (some (assign (.Name y py) C.X.env))) _ _ s
 refine Cc (CA (gX (use:=some (assign (.Name y py) C.X.env)) (Q':=λ _ s'=>∃ σ' H',Inv C.X pins σ' H' s'/\E.nx σ' H') hclm S hG hi he hc hs I er sv ok λ Da L s5 h=>?_) (λ _ s' hq=>Ce (Ce hq)) λ _ _ e=>e);obtain⟨⟨m,hn⟩,h1,h2,h3,h4,H',hL,q,iv⟩:=h;have I5:Inv C.X pins σ H' s5:=iv s5.heap λ b _=>rfl
 show wpAny _ _ (assign (.Name y py) C.X.env (.ref Da)) _ _ s5
 refine wpAny_assign_Name (jo (v:=.ref Da) I5 hN hy (.inl hl) rfl (λ s6 I6 ⟨a,sb,ha⟩=>?_) (.inr hl));have hLa:L≠a:=by
  rcases ha with rfl|ha
  ·exact h1
  ·exact λ z=>h2 y a ha z.symm
 refine⟨m,hn.sameBut sb hLa,λ h' sb'=>⟨_,H',?_,q⟩⟩;exact I6.turned (t':=s6.toks) (it:=L) (λ b o hb e=>(sb'.2 b hb).trans e) hL h1 (.inr h3) h2 h4
theorem kj {i:Nat}{y:Str}{py spos:Pos}(S:CompNamesT C.X scope ts fs is)(hG:TgR C tg ts fs scope bn T0)(hi:SI C tg iter fi)(he:∀ cl L s₀ H₀ ex,SE (bx C (ts++fs) scope cl L s₀ H₀ ex) elt fe)(hc:∀ cl L s₀ H₀ ex,STs (bx C (ts++fs) scope cl L s₀ H₀ ex) ifs fc)
  (hN:C.X.N.Nodup) (hy:C.X.N[i]?=some y) (hl:C.X.env.scope.names.lookup y=some .local) (hsw:autoParam (swapsWith (.ListComp elt [⟨tg,iter,ifs,0⟩] scope pos) (some (.Name y py)) spos.line C.X.env=pure true) ZE._auto_1) (hs:autoParam (∀ v,foldedSetIterable iter C.X.env v=pure v) ZD._auto_1) (hclm:autoParam (C.X.calm=true) ZE._auto_1):
  SSt C (.Assign [.Name y py] (.ListComp elt [⟨tg,iter,ifs,0⟩] scope pos) spos) (Dv.sSet i (Dv.eCompG bn fe fc is fi)):=
 ⟨_,kJ S hG hi he hc hN hy hl hsw hs hclm,λ Hv₀ H₀ E σ H st r w=>mE (f:=Dv.eCompG bn fe fc is fi) (t:=λ σ H Q=>∃ Hv ρ,EnvR C.X.K Hv ρ σ/\Same Hv H/\Ok C.X.K Hv H (C.W σ) C.cls (Dv.eCompG bn fe fc is fi ρ) Q) (λ σ H Hv ρ Q e s q=>⟨Hv,ρ,e,s,q⟩) i r w⟩
end
section
variable {C:Ctx}{elt iter:Expr}{x:Str}{px pos:Pos}{ifs:List Expr}{scope:Scope}{fs:List Str}{is:List Nat}{fi:EI}{fe fc:EE}
theorem qM (S:CompNamesT C.X scope [x] fs is):TgR C (.Name x px) [x] fs scope Dv.bn1 (ic 0):=
  ⟨λ cl L s₀ H₀ ex=>c7 (X:=bH C.X ([x]++fs) scope cl L s₀ H₀ ex) (pos:=px) (i:=0) (x:=x) S.nd rfl (.inl (E0 (S.tgt x (by simp)))) (.inr (E0 (S.tgt x (by simp)))),
   λ {K d des Hv H xv os fr Q} e l _ r h=>by
    cases e
    match os,l with
    | [o],_=>exact h [xv] rfl (.cons r .nil)⟩
theorem bS (S:CompNamesT C.X scope [x] fs is)(hi:SI C (.Name x px) iter fi)(he:∀ cl L s₀ H₀ ex,SE (bx C ([x]++fs) scope cl L s₀ H₀ ex) elt fe)(hc:∀ cl L s₀ H₀ ex,STs (bx C ([x]++fs) scope cl L s₀ H₀ ex) ifs fc)
  (hs:autoParam (∀ v,foldedSetIterable iter C.X.env v=pure v) ZD._auto_1) (hclm:autoParam (C.X.calm=true) ZE._auto_1):SE C (.ListComp elt [⟨.Name x px,iter,ifs,0⟩] scope pos) (Dv.eComp fe fc is fi):=by
 rw[<- Dv.eC1];exact pZ S (qM S) hi he hc hs hclm
theorem gY {i:Nat}{y:Str}{py spos:Pos}(S:CompNamesT C.X scope [x] fs is)(hi:SI C (.Name x px) iter fi)(he:∀ cl L s₀ H₀ ex,SE (bx C ([x]++fs) scope cl L s₀ H₀ ex) elt fe)(hc:∀ cl L s₀ H₀ ex,STs (bx C ([x]++fs) scope cl L s₀ H₀ ex) ifs fc)
  (hN:C.X.N.Nodup) (hy:C.X.N[i]?=some y) (hl:C.X.env.scope.names.lookup y=some .local) (hsw:autoParam (swapsWith (.ListComp elt [⟨.Name x px,iter,ifs,0⟩] scope pos) (some (.Name y py)) spos.line C.X.env=pure true) ZE._auto_1) (hs:autoParam (∀ v,foldedSetIterable iter C.X.env v=pure v) ZD._auto_1) (hclm:autoParam (C.X.calm=true) ZE._auto_1):
  SSt C (.Assign [.Name y py] (.ListComp elt [⟨.Name x px,iter,ifs,0⟩] scope pos) spos) (Dv.sSet i (Dv.eComp fe fc is fi)):=by
 rw[<- Dv.eC1];exact kj S (qM S) hi he hc hN hy hl hsw hs hclm
end
end Sd
namespace Dv
def anyD:D->Bool->R
 | .lst ds,_=>match blsOf ds with
  | some bs=>.ok (.bl (bs.any id)) true
  | none=>.bad
 | _,_=>.bad
def minTD:D->Bool->R
 | .tup ds,_=>match intsOf ds with
  | some (n::ns)=>.ok (.int (minI n ns)) true
  | _=>.bad
 | _,_=>.bad
def stepL (lo c:Int):Nat->List Int
 | 0=>[]
 | n+1=>lo::stepL (lo+c) c n
def listRange3D:D->D->D->R
 | .int i,.int j,.int c=>if rngOk i&&rngOk j&&rngOk c&&decide (0<c) then .ok (.lst ((stepL i c ((j-i+c-1)/c).toNat).map .int)) true else .bad
 | _,_,_=>.bad
def eB3 (F:D->D->D->R)(a b c:EE):EE:=λ ρ=>(a ρ).bind λ x _=>(b ρ).bind λ y _=>(c ρ).bind λ z _=>F x y z
def sExtF (i:Nat)(e:EE):SS:=λ st=>match st[i]? with
 | some (.ow (.lst ds))=>match e (all st) with
  | .ok (.lst es) true=>if decide (ds.length+es.length<=mx) then .nx (st.set i (.ow (.lst (ds++es)))) else .bad
  | .exc c=>.exc c st
  | _=>.bad
 | _=>.bad
def prsOf:List D->Option (List (Int×Int))
 | []=>some []
 | .tup [.int x,.int y]::r=>(prsOf r).map ((x,y)::·)
 | _::_=>none
def aq (a b:Int)(beat starts:List (Int×Int)):List (Int×Int):=starts.flatMap λ s=>beat.map λ p=>((p.1+s.1)%a,(p.2+s.2)%b)
def nodupB:List (Int×Int)->Bool
 | []=>true
 | p::r=>!r.contains p&&nodupB r
def fillsR:D->D->D->R
 | .tup [.int a,.int b],.lst ds,.lst es=>match prsOf ds,prsOf es with
  | some ps,some ss=>if decide (0<a)&&decide (0<b)&&decide (a*b<=1000)&&decide (0<ps.length*ss.length)&&decide (ps.length*ss.length<=1000) then
    .ok (.bl (decide (((ps.length*ss.length:Nat):Int)=a*b)&&nodupB (aq a b ps ss))) true
   else .bad
  | _,_=>.bad
 | _,_,_=>.bad
def sFills:SS:=λ st=>if st.length=9 then match st with
 | .sh d0::.sh d1::.sh d2::_=>match fillsR d0 d1 d2 with
  | .ok d f=>.ret d f
  | _=>.bad
 | _=>.bad
 else .bad
end Dv
namespace Sd
open PySem PySem.Spec PyProof.Rows L2
open Dv (D R RL EE EL EI RI Sl Out SS)
theorem oO {X:Cx}(hc:X.calm=true):cM X (.builtin "any") (λ xs H Q=>∃ p,∃ bs:List Bool,xs=[.ref p]/\SqX X.K H p (bs.map V.bl)/\Q (.bl (bs.any id)) H):=by
 intro pins s σ H xs us Q I r h;obtain⟨p,bs,rfl,hq,q⟩:=h;obtain⟨u,rfl,rx⟩:=vals1 r;cases rx;obtain⟨its,n,rv,e,z⟩:=Inv.listX I hq;have hl:s.heap.IsList p its.toArray:=⟨_,e,rfl,n,rfl⟩;have hlt:p<s.heap.objs.size:=Cg e;have hlen:its.length=bs.length:=by have:=rv.length;rw[yC] at this;exact this.symm
 refine call_any_walk (DN hl ?_);refine⟨s.heap.objs.size,[s.heap.objs.size,p],[s.heap.objs.size],its.toArray.size,_,_,λ i=>(bs[i]?).getD false,rfl,Walks.list (A:=X.A.in1) (I.ok.hd hc) _ p (yU hlt) its.toArray,
  ⟨⟨_,Ci _ rfl,rfl,rfl⟩,hl.push _⟩,λ i v s' Q' E' hP hQ=>?_,λ h' tk hk=>?_⟩
 ·have hP':its[i]?=some v:=by simpa using hP
  have hi:i<bs.length:=by rw[<- hlen];exact(List.getElem?_eq_some_iff.mp hP').1
  obtain⟨u,e1,e2⟩:=rv.get (show (bs.map V.bl)[i]?=some (V.bl bs[i]) by simp[hi]);rw[hP'] at e1;cases e1;have e3:v=FC bs[i]:=e2;subst e3;have e4:(bs[i]?).getD false=bs[i]:=by simp[hi]
  have hQ':Q' bs[i] s':=by rw[<- e4];exact hQ
  exact Dp hQ'
 ·have e5:((List.range its.toArray.size).any λ i=>(bs[i]?).getD false)=bs.any id:=by
   rw[yS,hlen,zm,AY,AY]
   constructor
   ·rintro ⟨i,hi,hh⟩
    have hi':=List.mem_range.mp hi;simp only[yH hi',yQ] at hh;exact⟨_,zt hi',hh⟩
   ·rintro ⟨b,hb,hh⟩
    obtain⟨i,hi,e⟩:=zj hb;refine⟨i,List.mem_range.mpr hi,?_⟩;simp only[yH hi,yQ,e];exact hh
  rw[e5];exact⟨.bl _,H,I.kept (t':=tk) λ b x e=>hk b x (λ hm=>by rw[List.mem_singleton.mp hm] at e;exact zq _ (Cg e)) (Cf _ e),rfl,q⟩
section
variable {C:Ctx}{a b c e k:Expr}{f g h:EE}{F G:SS}{pos pos':Pos}{E:Ends}
theorem wJ (hc:C.X.calm=true):C1S C (.builtin "any") Dv.anyD:=by
 refine⟨_,oO hc,λ x d fr H Hv H1 Hv1 W Q e rx n q=>?_⟩;cases d with
 | lst ds=>
  simp only[Dv.anyD] at q;cases hi:Dv.blsOf ds with
  | none=>rw[hi] at q;exact Zf q
  | some bs=>
   rw[hi] at q;unfold Rp at rx;obtain⟨l,vs,rfl,h1,h2⟩:=rx;have e1:=RpL.bls hi h2;subst e1;exact⟨l,bs,rfl,h1.same e.vh,Ok.at (d:=.bl (bs.any id)) (fr:=true) q e eA rfl⟩
 | _=>exact Zf q
theorem u6 {p:Pos}(hm:C.X.mg "any"=none)(hg:Gl C.X "any")(ha:SE C a f)(he:autoParam (starEach [a] C.X.env=[(false,eval a C.X.env)]) ZE._auto_1)(hcl:autoParam (C.X.calm=true) ZE._auto_1):SE C (.Call (.Name "any" p) [a] [] pos) (Dv.eB1 Dv.anyD f):=
 ll (wJ hcl) hg hm (by decide +kernel) ha (by decide) (by decide) he
end
theorem oC {X:Cx}(hc:X.calm=true):cM X (.builtin "min") (λ xs H Q=>∃ p,∃ ns:List Int,xs=[.ref p]/\Rd H p (.tup (ns.map V.int))/\0<ns.length/\∀ M,M∈ns->(∀ a∈ns,M<=a)->Q (.int M) H):=by
 intro pins s σ H xs us Q I r h;obtain⟨p,ns,rfl,hq,hne,q⟩:=h;obtain⟨u,rfl,rx⟩:=vals1 r;cases rx;obtain⟨z,its,rv,ob,ho,hcl,hdt⟩:=hq.ok I.hok;have hi:=intsAre_of rv;obtain⟨xs,ex⟩:=hi.allInts.items;have hns:ns=xs.toList.map (·.1):=by rw[<- hi.numsOf,<- nums_intItems,<- ex]
 have hsz:0<xs.size:=by
  have h3:=hne;rw[hns,yC,Cj] at h3;exact h3
 have ht:s.heap.IsTuple p (intItems xs):=⟨ob,ho,hcl,by rw[<- ex];exact hdt⟩;have hlt:p<s.heap.objs.size:=Cg ho;refine call_min_walk (wpAny_pyIter_tuple ht ?_);refine⟨s.heap.objs.size,[s.heap.objs.size,p],[s.heap.objs.size],(intItems xs).size,_,_,λ i j=>decide (numAt xs i<numAt xs j),rfl,Walks.tuple (A:=X.A.in1) (I.ok.hd hc) _ p (yU hlt) (intItems xs),⟨⟨_,Ci _ rfl,rfl,rfl⟩,ht.push _⟩,λ b hb=>?_,by simpa[intItems] using hsz,CmpOf.ints_lt (numAt xs) (λ _ _=>Fs),λ v h' tk hP hk=>?_⟩
 ·show b<(s.heap.push _).objs.size
  rw[Ds]
  rcases List.mem_cons.mp hb with rfl|hb
  ·exact zS _
  ·rw[List.mem_singleton.mp hb];exact zO hlt
 ·have hP':(intItems xs)[argBest (λ i j=>decide (numAt xs i<numAt xs j)) (xs.size-1)]?=some v:=by simpa[intItems] using hP
  obtain⟨t,rfl⟩:=Fs hP';obtain⟨h1,h2⟩:=argBest_lt (numAt xs) (xs.size-1);refine⟨.int _,H,I.kept (t':=tk) λ b x e=>hk b x (λ hm=>by rw[List.mem_singleton.mp hm] at e;exact zq _ (Cg e)) (Cf _ e),⟨t,rfl⟩,q _ ?_ λ a ha=>?_⟩
  ·rw[hns,Fz]
   refine rW ?_
   rw[yC,Cj];omega
  ·rw[hns] at ha
   obtain⟨j,hj,rfl⟩:=pU ha;rw[yC,Cj] at hj;rw[<- Fz];exact h2 j ⋯
section
variable {C:Ctx}{a b c e k:Expr}{f g h:EE}{F G:SS}{pos pos':Pos}{E:Ends}
theorem uk (hc:C.X.calm=true):C1S C (.builtin "min") Dv.minTD:=by
 refine⟨_,oC hc,λ x d fr H Hv H1 Hv1 W Q e rx n q=>?_⟩;cases d with
 | tup ds=>
  simp only[Dv.minTD] at q;cases hi:Dv.intsOf ds with
  | none=>rw[hi] at q;exact Zf q
  | some ns=>
   rw[hi] at q;cases ns with
   | nil=>exact Zf q
   | cons m ns=>
    unfold Rp at rx;obtain⟨l,vs,rfl,h1,h2⟩:=rx;have e1:=RpL.ints hi h2;subst e1;refine⟨l,m::ns,rfl,Rd.same e.vh h1,by simp,λ M hM hle=>?_⟩;obtain⟨k1,k2⟩:=jU ns m;have:M=Dv.minI m ns:=BO (hle _ k1) (k2 _ hM);rw[this];exact Ok.at (d:=.int (Dv.minI m ns)) (fr:=true) q e bE rfl
 | _=>exact Zf q
theorem sN {p:Pos}(hm:C.X.mg "min"=none)(hg:Gl C.X "min")(ha:SE C a f)(he:autoParam (starEach [a] C.X.env=[(false,eval a C.X.env)]) ZE._auto_1)(hcl:autoParam (C.X.calm=true) ZE._auto_1):SE C (.Call (.Name "min" p) [a] [] pos) (Dv.eB1 Dv.minTD f):=
 ll (uk hcl) hg hm (by decide +kernel) ha (by decide) (by decide) he
theorem b8 (c:Int):∀ (n:Nat) (lo:Int),(Dv.stepL lo c n).length=n
 | 0,_=>rfl
 | n+1,lo=>by rw[Dv.stepL,yE,b8]
theorem jj (c:Int):∀ (n:Nat) (lo:Int) (us:List Value),us.length=n->(∀ (i:Nat) (v:Value),us[i]?=some v->∃ t,v=Dc (lo+(i:Int)*c) t)->Vals ((Dv.stepL lo c n).map V.int) us
 | 0,lo,us,hl,_=>by
  rw[List.length_eq_zero_iff.mp hl];exact .nil
 | n+1,lo,us,hl,hv=>by
  cases us with
  | nil=>simp at hl
  | cons u us=>
   rw[Dv.stepL,yB];refine .cons ?_ (jj c n (lo+c) us (by simpa using hl) λ i v hi=>?_)
   ·obtain⟨t,e⟩:=hv 0 u rfl
    exact⟨t,by simpa using e⟩
   ·obtain⟨t,e⟩:=hv (i+1) v (by simpa using hi)
    refine⟨t,e.trans ?_⟩;congr 1;rw[Ai,Int.add_mul,Int.one_mul];omega
theorem step_size {i j c:Int}(hc:0<c):Di i j c=(((j-i+c-1)/c).toNat:Nat):=by
 unfold Di;rw[if_pos hc];by_cases h:i<j
 ·rw[if_pos h]
  have e:(j-i+c-1)/c=(j-i-1)/c+1:=by
   rw[show j-i+c-1=(j-i-1)+c*1 by omega,Bf _ _ ⋯]
  have:0<=(j-i-1)/c:=Int.ediv_nonneg ⋯ ⋯;rw[e];omega
 ·rw[if_neg h]
  have:(j-i+c-1)/c<=0:=by
   have h1:(j-i+c-1)/c<1:=Az hc ⋯;omega
  omega
theorem sg {i j c:Int}(i0:-1000000<=i)(i1:i<=1000000)(j0:-1000000<=j)(j1:j<=1000000)(c0:0<c)(c1:c<=1000000):E7 i j c=true:=by
 have hz:=step_size (i:=i) (j:=j) c0;have h1:((j-i+c-1)/c).toNat<=4000000:=by
  have h1:(j-i+c-1)/c<=4000000:=by
   refine Bm (Az c0 ?_);have:4000001*1<=(4000001:Int)*c:=zk ⋯ ⋯;omega
  omega
 have hc':(c > 0)=True:=eq_true c0;unfold E7;rw[hz];simp only[Builtin.Range.rangeFitsLong,yL,BN,decide_eq_true_eq,beq_iff_eq,hc',if_true];omega
theorem iD {X:Cx}{t t2 t3:TE}{p p2 pos2:Pos}(hcl:X.calm=true)(hm:X.mg "list"=none)(hg:Gl X "list")(hm2:X.mg "range"=none)(hg2:Gl X "range")(ha:PE X a t)(hb:PE X b t2)(hcc:PE X c t3)
  (he:starEach [.Call (.Name "range" p2) [a,b,c] [] pos2] X.env=[(false,eval (.Call (.Name "range" p2) [a,b,c] [] pos2) X.env)]) (he2:starEach [a,b,c] X.env=(false,eval a X.env)::starEach [b,c] X.env) (he3:starEach [b,c] X.env=[(false,eval b X.env),(false,eval c X.env)]):
  PE X (.Call (.Name "list" p) [.Call (.Name "range" p2) [a,b,c] [] pos2] [] pos) (λ σ H Q=>t σ H λ x H1=>t2 σ H1 λ y H2=>t3 σ H2 λ z H3=>∃ i j k:Int,x=.int i/\y=.int j/\z=.int k/\-1000000<=i/\i<=1000000/\-1000000<=j/\j<=1000000/\0<k/\k<=1000000/\∀ l,H3 l=none->Q (.ref l) (upd H3 l (.lst ((Dv.stepL i k ((j-i+k-1)/k).toNat).map V.int)))):=by
 intro pins s σ H Q I h;refine CI (bO I hg hm (u:=.type "list") (by decide +kernel) ?_ (by decide) (by decide));refine Cr ?_ he rfl
 rw[he];show wpAny _ _ (spliced ((false,eval (.Call (.Name "range" p2) [a,b,c] [] pos2) X.env)::backTo pos [])) _ _ s
 refine CD ?_
 refine CI (bO I hg2 hm2 EY ?_ (by decide) (by decide));refine Cr ?_ (by rw[he2,he3]) (by rw[he3];rfl)
 rw[he2,he3];show wpAny _ _ (spliced ((false,eval a X.env)::(false,eval b X.env)::(false,eval c X.env)::backTo pos2 [])) _ _ s
 refine CD (thn (ha pins s σ H _ I h) λ u s1 ⟨x,H1,I1,r1,q1⟩=>?_);refine CD (thn (hb pins s1 σ H1 _ I1 q1) λ u2 s2 ⟨y,H2,I2,r2,q2⟩=>?_);refine CD (thn (hcc pins s2 σ H2 _ I2 q2) λ u3 s3 ⟨z,H3,I3,r3,i,j,k,e1,e2,e3,i0,i1,j0,j1,k0,k1,go⟩=>?_);subst e1 e2 e3;obtain⟨t,rfl⟩:=r1;obtain⟨t',rfl⟩:=r2;obtain⟨t'',rfl⟩:=r3;refine CP ?_
 refine call_range_3 ⋯ ?_ (Or.inl (PyProof.noPylong_small ⋯))
 refine CP ?_
 have hd:((j-i+k-1)/k).toNat<=4000000:=by
  have h1:(j-i+k-1)/k<=4000000:=by
   refine Bm (Az k0 ?_);have:4000001*1<=(4000001:Int)*k:=zk ⋯ ⋯;omega
  omega
 refine EO (I3.ok.hd hcl) (Fq ..) (sg i0 i1 j0 j1 k0 k1) (step_size k0) ⋯ λ h' tk acc' c' hk hS hacc=>?_
 have hk2:∀ b u,s3.heap.get? b=some u->h'.get? b=some u:=λ b u q=>hk b u (Cf _ q)
 have hle:s3.heap.objs.size<=(s3.heap.push { cls:=.type "range",data:=.fields #[.int i t,.int j t',.int k t''] }).objs.size:=by rw[Ds];omega
 refine⟨.ref _,_,I3.laid (t':=tk) (o:=.lst ((Dv.stepL i k ((j-i+k-1)/k).toNat).map V.int)) hk2 hle ?_,rfl,go _ (I3.hok.fresh hle)⟩;refine⟨?_,acc'.toList,c',jj k _ i _ (by rw[Cj];exact hacc.1) (λ n v hi=>?_),by simpa using hS⟩
 ·rw[yC,b8,CF];omega
 ·exact hacc.2 n v (by rw[<- C8];exact hi)
theorem iB {p p2 pos2:Pos}(hm:C.X.mg "list"=none)(hg:Gl C.X "list")(hm2:C.X.mg "range"=none)(hg2:Gl C.X "range")(ha:SE C a f)(hb:SE C b g)(hcc:SE C c h)
  (he:autoParam (starEach [.Call (.Name "range" p2) [a,b,c] [] pos2] C.X.env=[(false,eval (.Call (.Name "range" p2) [a,b,c] [] pos2) C.X.env)]) ZE._auto_1) (he2:autoParam (starEach [a,b,c] C.X.env=(false,eval a C.X.env)::starEach [b,c] C.X.env) ZE._auto_1) (he3:autoParam (starEach [b,c] C.X.env=[(false,eval b C.X.env),(false,eval c C.X.env)]) ZE._auto_1) (hcl:autoParam (C.X.calm=true) ZE._auto_1):
  SE C (.Call (.Name "list" p) [.Call (.Name "range" p2) [a,b,c] [] pos2] [] pos) (Dv.eB3 Dv.listRange3D f g h):=by
 obtain⟨t,pa,qa⟩:=ha;obtain⟨t2,pb,qb⟩:=hb;obtain⟨t3,pc,qc⟩:=hcc;refine⟨_,iD hcl hm hg hm2 hg2 pa pb pc he he2 he3,λ σ H Hv ρ Q e s w=>?_⟩;refine qa.step e (.refl s) w λ v d fr Hv1 H1 _ x1 _ rx n1 q=>?_
 refine qb.step e x1 q λ v2 d2 fr2 Hv2 H2 _ x2 y2 ry n2 q2=>?_
 refine qc.step e x2 q2 λ v3 d3 fr3 Hv3 H3 _ x3 y3 rz n3 q3=>?_
 cases d with
 | int i=>
  cases d2 with
  | int j=>
   cases d3 with
   | int k=>
    simp only[Dv.listRange3D] at q3;have rx':=rx.scal (K':=[]) (H':=Hv) rfl;have ry':=ry.scal (K':=[]) (H':=Hv) rfl;unfold Rp at rx' ry' rz;subst rx' ry' rz;by_cases hj:(Dv.rngOk i&&Dv.rngOk j&&Dv.rngOk k&&decide (0<k))=true
    ·simp only[hj,if_true] at q3
     have h2:=hj;simp only[yL,decide_eq_true_eq,Dv.rngOk] at h2;exact⟨i,j,k,rfl,rfl,rfl,h2.1.1.1.1,h2.1.1.1.2,h2.1.1.2.1,h2.1.1.2.2,h2.2,h2.1.2.2,λ p hp=>Ok.newL q3 x3 (RpL.ofInts _) (λ _=>RpL.ofInts _) p hp⟩
    ·simp only[hj] at q3
     exact Zf q3
   | _=>exact Zf q3
  | _=>exact Zf q3
 | _=>exact Zf q3
theorem mL {i:Nat}{x:Str}{apos cpos:Pos}{px:Pos}(he:SE C e f)(hN:autoParam (C.X.N[i]?=some x) ZE._auto_1)(hv:autoParam (Vis C.X.env.scope x) ZG._auto_1)
    (hd:autoParam ((x == ("__debug__":Str))=false) ZC._auto_1) (hcd:autoParam ((x == ("__classdict__":Str))=false) ZC._auto_1) (hst:autoParam (starEach [e] C.X.env=[(false,eval e C.X.env)]) ZE._auto_1)
    (hbase:autoParam (attributeBase (.Name x px) "extend" C.X.env (eval (.Name x px) C.X.env)=eval (.Name x px) C.X.env) ZE._auto_1)
    (hfew:autoParam (((backTo cpos (starEach [e] C.X.env)).all (λ x=>!x.1)&&(backToKw cpos (keywordEach [] C.X.env)).all (λ x=>x.1.isSome)
      && decide ([e].length+([]:List Keyword).length+(if ([]:List Keyword).isEmpty then 0 else 1)<30))=true) ZE._auto_1)
    (hline:autoParam ((apos.endLine == cpos.line)=true) ZE._auto_1)
    (hs:autoParam (swapsWith (.Call (.Attribute (.Name x px) "extend" apos) [e] [] cpos) none pos.line C.X.env=pure false) ZE._auto_1):
    SSt C (.Expr (.Call (.Attribute (.Name x px) "extend" apos) [e] [] cpos) pos) (Dv.sExtF i f):=by
  obtain⟨t,p,q⟩:=he;refine⟨_,dQ (mR C3 PySem.F.slot_list_extend PySem.F.type_list_extend nV (cL hN hv hd hcd) (aN p bC hst) hbase hfew hline hst rfl) hs,λ Hv₀ H₀ E σ H st ⟨Hc,O,r⟩ w=>?_⟩;unfold Dv.sExtF at w;cases hi:st[i]? with
  | none=>simp only[hi] at w;exact Zf w
  | some s=>
    simp only[hi] at w;cases s with
    | ow d0=>
     cases d0 with
     | lst ds=>
      obtain⟨a,vs,h1,h2,h5⟩:=r.own hi;refine⟨_,h1,.inl ⟨rfl,vs,SqL.of h2⟩,?_⟩;refine q.all r (λ c hf H' r'=>?_) (λ hf=>?_) λ d fr v Hv' H' hf x r' rp n=>?_
      · simp only[hf] at w;exact w σ H' ⟨Hc,O,r'⟩
      · simp only[hf] at w;exact w
      · cases d with
        | lst es=>
          simp only[hf] at w;cases fr with
          | false=>exact Zf w
          | true=>
            by_cases z:decide (ds.length+es.length<=Dv.mx)=true
            · simp only[z,if_true] at w
              rw[decide_eq_true_eq] at z;obtain⟨b,zs,rfl,hb,_,rl⟩:=nt x (n rfl);have hn:∀ b o,Hnew H H' b=some o->Hc b=none:=λ b o h=>r.ch.free (cB h)
              have y:Ext Hc H (bw Hc (Hnew H H')) H':=by
                refine⟨x.hh,cz,λ b o h=>?_,λ b o h nn=>?_,λ b h=>?_,x.nf⟩
                · rcases ba h with h|⟨_,h⟩
                  · exact x.hh _ _ (r.ch b o h)
                  · exact Hnew.sub b o h
                · rcases ba h with h|⟨_,h⟩
                  · rw[nn] at h;cases h
                  · exact cB h
                · unfold bw Hnew
                  rw[r.ch.free h,h]
              have r1:=r.growC y;obtain⟨O',r2⟩:=r1.put hi h1 ((h5.same cz).append (RpL.frag (rl.same (fw hn))));refine⟨a,b,vs,zs,rfl,rfl,x.hh _ _ h2,hb,?_,w σ _ ⟨_,O',r2⟩⟩;have e1:=h5.length;have e2:=rl.length;have:=cF z;omega
            · simp only[z] at w
              exact Zf w
        | _=>simp only[hf] at w;exact Zf w
     | _=>exact Zf w
    | _=>exact Zf w
end
def RawD (h:Heap)(d:Addr)(es:Array DictEntry)(ep:Nat):Prop:=∃ o,h.get? d=some o/\o.ExactDict/\o.data=.dict es ep
theorem RawD.ty {s:Shared}{d:Addr}{es:Array DictEntry}{ep:Nat}(x:RawD s.heap d es ep):s.TypeIs (.ref d) "dict":=let ⟨o,ho,hc,_⟩:=x;⟨o,ho,hc.1⟩
theorem RawD.at {h h':Heap}{d:Addr}{es:Array DictEntry}{ep:Nat}(x:RawD h d es ep)(e:∀ o,h.get? d=some o->h'.get? d=some o):RawD h' d es ep:=let ⟨o,ho,r⟩:=x;⟨o,e _ ho,r⟩
section
variable {prog:Program}{w:World}{A:Around}{E:Value->Shared->Prop}{s:Shared}{d:Addr}{es:Array DictEntry}{ep:Nat}
theorem uy {Q:Value->Shared->Prop}(hd:(d == sysModules)=false)(x:RawD s.heap d es ep)(hz:es.size<=sizeLine)(h:∀ t s',s'={ s with toks:=s.toks+1+1 }->Q (.int es.size t) s'):wpAny (model prog w) A (call (.builtin "len") [.ref d]) Q E s:=by
 refine PyProof.Rows.call_len_slot (n:=(es.size:Int)) x.ty EW (λ Q' hq=>?_) ⋯ (by rw[CF] at hz;omega) (h _ _ rfl);refine Er EW x.ty PySem.F.entry_dict_len (PySem.F.args_dict_len_1 _) (S:=λ _ R s=>(∃ es ep,RawD s.heap d es ep/\R (.ok (.ret (.int es.size s.toks))) { s with toks:=s.toks+1 })) (.of_wp λ A R s ⟨es,ep,⟨o,ho,hc,hdat⟩,h⟩=>?_) ⟨es,ep,x,hq⟩;show wpAny _ _ (dictSize d >>= _) _ _ s
 unfold dictSize;refine Cc (Cc (DO ho hdat (Ce ?_)));show wpAny _ _ (Builtin.Dict.pendingCount d >>= _) _ _ s
 refine Cc (wpAny_pendingCount_other hd (wpAny_ret_mkInt ?_));rw[Nat.add_zero];exact h
theorem mr {Q:Value->Shared->Prop}(hd:(d == sysModules)=false)(x:RawD s.heap d es ep)(h:Q (.ref s.heap.objs.size) { s with heap:=s.heap.push { cls:=.type "dict_values",data:=.fields #[.ref d] } }):
  wpAny (model prog w) A (call (.builtin "dict.values") [.ref d]) Q E s:=by
 refine Er Ew x.ty PySem.F.entry_dict_values (PySem.F.args_dict_values_1 _) (S:=λ _ R s=>((∃ es ep,RawD s.heap d es ep)/\R (.ok (.ret (.ref s.heap.objs.size))) { s with heap:=s.heap.push { cls:=.type "dict_values",data:=.fields #[.ref d] } })) (.of_wp λ A R s ⟨⟨es,ep,x⟩,h⟩=>?_) ⟨⟨es,ep,x⟩,h⟩;refine Cc ?_
 unfold Builtin.Dict.noArgs;refine Cc (wpAny_notOrdered_dict x.ty ?_);show wpAny _ _ (pure d) _ _ s
 refine Ce ?_
 show wpAny _ _ (EX d >>= _) _ _ s
 unfold EX;rw[if_neg (by rw[hd];decide)];exact Cc (Ce (Cc (CO (Ce ⟨_,rfl,h⟩))))
theorem qT {v:Addr}{Q:Value->Shared->Prop}(hv:s.heap.IsValuesView v d)(x:RawD s.heap d es ep)
  (hQ:Q (.ref s.heap.objs.size) { s with heap:=s.heap.push { cls:=.type "dict_valueiterator",data:=.fields #[.ref d,.int 0 0,.int es.size 0,.int ep 0] } }):wpAny (model prog w) A (pyIter (.ref v)) Q E s:=by
 obtain⟨ov,hov,hcv,hdv⟩:=id hv;obtain⟨o,ho,hc,hdat⟩:=id x;refine En hv.typeIs D9 (CS D9 hv.typeIs PySem.F.entry_dict_values_iter ?_ (PySem.F.args_dict_values_iter_1 _));unfold Builtin.«dict_values.__iter__»;refine Cc (Ce (Cc ?_));unfold FN;refine Cc (wpAny_field hov hdv (x:=.ref d) rfl (Ce (Cc ?_)));unfold FE;refine Cc (DO ho hdat (Cc (EF ho hdat ?_)));have hown:Dt "dict_valueiterator"=false:=by decide
 simp only[hown,yK,if_false];refine CO (Ce ⟨_,rfl,"dict_valueiterator",_,⟨_,Ci _ rfl,rfl⟩,PySem.F.slot_dict_valueiterator_next.lookup,?_⟩);simpa[rawInt] using hQ
theorem qI {it:Addr}{i:Nat}{e:DictEntry}{Q:Option Value->Shared->Prop}(hit:s.heap.IsValIter it d i es.size ep)(x:RawD s.heap d es ep)(hx:es[i]?=some e)
  (hQ:∀ h',h'.IsValIter it d (i+1) es.size ep->Dq it s.heap h'->Q (some e.val) { s with heap:=h' }):wpAny (model prog w) A (pyNext (.ref it)) Q E s:=by
 obtain⟨o,ho,hc,hd⟩:=id hit;obtain⟨od,hod,hcd,hdd⟩:=id x;unfold pyNext;refine Cc (Ej (Dk (name:=CG "__next__") hit.typeIs CT (CS CT hit.typeIs DG ?_ (DE _))));refine Cc (Ce (Cc (Cc (Cc (C2 hit.typeIs (Ce (Cc (Ee ho hd ?_))))))));have hown:Dt "dict_valueiterator"=false:=by decide
 simp only[hown,yK,if_false];have hn0:¬ ((Cp d == Cn)=true):=zf;show wpAny _ _ (if (Cp d == Cn)=true then _ else _) _ _ s
 rw[if_neg hn0];refine Cc (Ce (Cc (DO hod hdd ?_)));rw[if_neg (by simp)];refine Cc (Ce (Cc (EF hod hdd ?_)));rw[if_neg (by simp)];refine Ce ?_
 have n0:¬ ((i:Int)<0):=⋯
 simp only[n0,if_false,Ar,hx];refine Cc (Cc (C2 hit.typeIs (Ce (Cc (DZ hit.typeIs ?_)))));show wpAny _ _ (setField (.ref it) 1 (rawInt ((i:Int)+1)) >>= _) _ _ s
 refine Cc (EV ho hd (by simp) ?_);have hit':(s.heap.update it (Obj.mapFields (·.setIfInBounds 1 (rawInt ((i:Int)+1))))).IsValIter it d (i+1) es.size ep:=
  ⟨_,CQ _ ho (Obj.isFreed_of_fields (Fk hd _)),(Obj.cls_mapFields ..).trans hc,by rw[Fk hd];simp[rawInt]⟩
 refine Cc (Cz (Cc ?_));refine DZ (s:={ s with heap:=_ }) hit'.typeIs (Cc ?_);refine DZ (s:={ s with heap:=_ }) hit'.typeIs ?_
 show wpAny _ _ (pure e.val) _ _ _
 exact Ce (Ce ⟨_,rfl,Ce (hQ _ hit' (Eb ..))⟩)
theorem t9 {it:Addr}{Q:Option Value->Shared->Prop}(hh:A.handled=none)(hit:s.heap.IsValIter it d es.size es.size ep)(x:RawD s.heap d es ep)(hQ:∀ h',Ft it s.heap h'->Q none { s with heap:=h' }):wpAny (model prog w) A (pyNext (.ref it)) Q E s:=by
 obtain⟨o,ho,hc,hd⟩:=id hit;obtain⟨od,hod,hcd,hdd⟩:=id x;unfold pyNext;refine Cc (Ej (Dk (name:=CG "__next__") hit.typeIs CT (CS CT hit.typeIs DG ?_ (DE _))));refine Cc (Ce (Cc (Cc (Cc (C2 hit.typeIs (Ce (Cc (Ee ho hd ?_))))))));have hown:Dt "dict_valueiterator"=false:=by decide
 simp only[hown,yK,if_false];have hn0:¬ ((Cp d == Cn)=true):=zf;show wpAny _ _ (if (Cp d == Cn)=true then _ else _) _ _ s
 rw[if_neg hn0];refine Cc (Ce (Cc (DO hod hdd ?_)));rw[if_neg (by simp)];refine Cc (Ce (Cc (EF hod hdd ?_)));rw[if_neg (by simp)];refine Ce ?_
 have n0:¬ ((es.size:Int)<0):=⋯
 simp only[n0,if_false,Ar,CN (yW _)];refine Cc (Cc (C2 hit.typeIs (Ce ?_)));show wpAny _ _ (setField (.ref it) 0 .none >>= _) _ _ s
 refine Cc (EV ho hd (by simp) ?_);show wpAny _ _ (newExc (.type "StopIteration") [] >>= _) _ _ _
 refine Cc ?_
 simp only[newExc,newTuple];refine Cc (CO ?_ (by size_fits));refine Cc (m:=firstArgMember _ _) (Fw (a:=Cn) (by first|rfl|(simp only[firstArgMember];rfl)) ?_);refine CO ?_ (by size_fits)
 simp only[raiseNew];have h0:A.in1.handled=none:=hh;refine Cc (wpAny_handled ?_);rw[h0];refine Cc (Ce (wpAny_throw ?_));refine Cc (DU (T:="StopIteration") (b:=true) ⟨_,Ci _ rfl,rfl⟩ isSubtype_stop ?_);exact Ce (hQ _ (((Eb ..).extBut.push _).push _))
theorem pR (hh:A.handled=none)(I d:Addr)(hne:d≠I)(es:Array DictEntry)(ep:Nat):
  Walks prog w A I [I,d] [I] es.size (λ i v=>∃ e,es[i]?=some e/\v=e.val) (λ i h=>h.IsValIter I d i es.size ep/\RawD h d es ep) where
 sub:=λ b hb=>by simp at hb;simp[hb]
 frame:=λ _ _ _ st hk=>⟨st.1.at λ o e=>hk I (by simp) o e,st.2.at λ o e=>hk d (by simp) o e⟩
 item:=λ i s Q E hi st hQ=>qI st.1 st.2 (e:=es[i]) (by simp[hi]) λ h' hit' hs'=>
  hQ _ h' s.toks ⟨es[i],by simp[hi],rfl⟩ ⟨hit',st.2.at λ o e=>hs'.extBut d o hne e⟩ λ b o hb e=>hs'.extBut b o (λ h=>hb (by simp[h])) e
 done:=λ s Q E st hQ=>t9 hh st.1 st.2 λ h' he'=>hQ h' s.toks λ b o hb e=>he' b o (λ h=>hb (by simp[h])) e
 self:=λ _ _ _ _ st hQ=>wpAny_pyIter_valiter st.1 hQ
theorem om {v:Addr}{Q:Bool->Shared->Prop}(hT:s.TypeIs (.ref v) "dict_values")(h:Q false s):wpAny (model prog w) A (C5 (.ref v)) Q E s:=by
 unfold C5;refine Cc (D6 hT PySem.F.slot_dict_values_len.lookup ?_);generalize hid:("dict_values.__len__":String)=id0
 wp_delta
 rw[show splitId id0=some ("dict_values","__len__") from by subst hid;decide +kernel];subst hid;refine Cc (DU (T:="dict_values") (b:=true) hT (by rw[Ed];kernel_rfl) ?_);refine DF (λ hab=>absurd hab (by decide)) (λ _=>?_);refine DF (λ _=>?_) (λ hab=>absurd (by decide +kernel) hab);exact Cc (Et hT (Ce h))
theorem og {v:Addr}{Q:Value->Shared->Prop}(hh:A.handled=none)(hv:s.heap.IsValuesView v d)(x:RawD s.heap d es ep)(hz:es.size<=100000)
  (hQ:∀ h' tk acc' c',(∀ b o,s.heap.get? b=some o->h'.get? b=some o)->h'.get? s.heap.objs.size=some { cls:=.type "list",dict:=none,data:=.seq acc' c',slots:=#[] }->acc'.toList=es.toList.map (·.val)->Q (.ref s.heap.objs.size) { s with heap:=h',toks:=tk }):
  wpAny (model prog w) A (call (.type "list") [.ref v]) Q E s:=by
 have hvl:v<s.heap.objs.size:=let ⟨o,ho,_⟩:=hv;Cg ho
 have hdl:d<s.heap.objs.size:=let ⟨o,ho,_⟩:=x;Cg ho
 refine callType_codes (Q₁:=λ obj s₁=>obj=.ref s.heap.objs.size/\s₁={ s with heap:=s.heap.push { cls:=.type "list",data:=.seq #[] } }) PySem.F.called_list (PySem.F.typeCall_list_1 _) PySem.F.entry_list_init
  (code_list_new _ ⟨rfl,rfl⟩) λ obj s₁ h₁=>?_
 obtain⟨rfl,rfl⟩:=h₁
 let S:=s.heap.objs.size
 have hS:(s.heap.push { cls:=.type "list",data:=.seq #[] }).get? S=some { cls:=.type "list",data:=.seq #[] }:=Ci _ rfl;refine⟨⟨_,hS,rfl⟩,PySem.F.args_list_init_2 _ _,?_⟩;show wpAny _ _ (do let old <- EN (.ref S);Builtin.List.listUpdate (.ref S) (λ _=>#[]);letGo old.toList.reverse;Dw (.ref S) (.ref v) .none) _ _ _
 refine Cc ?_
 unfold EN;refine Cc (wpAny_seqItems hS rfl (Ce ?_));show wpAny _ _ (updateSeq S (λ _=>#[]) >>= λ _=>letGo (#[]:Array Value).toList.reverse >>= λ _=>Dw (.ref S) (.ref v) .none) _ _ _
 refine Cc (EG hS rfl (Cc (wpAny_letGo ?_)));have hS2:=CQ (Cu (λ _=>(#[]:Array Value))) hS rfl;have up:∀ b o,s.heap.get? b=some o->((s.heap.push { cls:=.type "list",data:=.seq #[] }).update S (Cu (λ _=>(#[]:Array Value)))).get? b=some o:=λ b o e=>
  (Ct _ _ (λ z:S=b=>zq _ (show b<b by have:=Cg e;rw[<- z] at this ⊢;exact this))).trans (Cf _ e)
 generalize hh2:((s.heap.push { cls:=.type "list",data:=.seq #[] }).update S (Cu (λ _=>(#[]:Array Value))))=h2 at hS2 up;have hv2:h2.IsValuesView v d:=let ⟨o,ho,r⟩:=hv;⟨o,up _ _ ho,r⟩
 have x2:RawD h2 d es ep:=x.at λ o e=>up _ _ e
 have hSl:S<h2.objs.size:=Cg hS2;have hdl2:d<h2.objs.size:=let ⟨o,ho,_⟩:=x2;Cg ho
 let I:=h2.objs.size
 have hSI:S≠I:=yU hSl;have hSf:S∉[I,d]:=λ hm=>by
  rcases List.mem_cons.mp hm with e|hm
  ·exact hSI e
  ·have e:=List.mem_singleton.mp hm;exact yU hdl e.symm
 have W:=(pR (prog:=prog) (w:=w) (A:=A.in1.in1) hh I d (yU hdl2) es ep).toS;have key:∀ (h:Heap) (c₁ tk:Nat),h.IsValIter I d 0 es.size ep->RawD h d es ep->(∀ b o,b≠S->h2.get? b=some o->h.get? b=some o)->h.get? S=some { cls:=.type "list",data:=.seq #[] c₁ } ->
   codeAny (model prog w) A.in1 (.builtin "list.extend.loop" ⟨[.ref S,.ref I,.none],[]⟩) (wants (λ r s₂=>r=Cn/\Q (.ref S) s₂) E) { s with heap:=h,toks:=tk }:=by
  intro h c₁ tk hit hx hk hS₁;refine codeAny_extend_loopS W (by rw[CF];omega) S hSf .none es.size 0 { s with heap:=h,toks:=tk } #[] c₁ rfl (zI _) ⟨hit,hx⟩ hS₁ (ItemsOf.nil _) λ s' acc' c' hm hS' hacc=>?_
  rw[Moved.eq_with hm];refine⟨rfl,hQ s'.heap s'.toks acc' c' (λ b o e=>hm.heap b o (λ hmem=>?_) (hk b o (λ z=>by rw[z] at e;exact zq _ (Cg e)) (up b o e))) hS' ?_⟩
  ·rcases List.mem_cons.mp hmem with e' | hmem
   ·rw[e'] at e;exact zq _ (Cg e)
   ·rw[List.mem_singleton.mp hmem] at e
    have:=Cg e;have h3:S<I:=hSl;exact zq _ (AG this h3)
  ·refine Aq λ i=>?_
   by_cases hi:i<es.size
   ·have hi2:i<acc'.size:=by rw[hacc.1];exact hi
    obtain⟨e,e1,e2⟩:=hacc.2 i acc'[i] (by simp[hi2]);have e3:es[i]=e:=by simpa[hi] using e1
    simp[hi,hi2,e2,e3]
   ·rw[zJ (by rw[Cj,hacc.1];omega),zJ (by simp;omega)]
 unfold Dw;refine Cc (Et (T:="dict_values") hv2.typeIs ?_);have h1:Ex (.ref S) (.ref v)=false:=by simp[Ex];exact λ z=>yU hvl z.symm
 have h2':(CZ "dict_values" == CZ "list")=false:=by decide
 have h3:(CZ "dict_values" == CZ "tuple")=false:=by decide
 simp only[h1,h2',h3,AA,yK,if_false];refine Cc (qT hv2 x2 ?_);have hv3:(h2.push { cls:=.type "dict_valueiterator",data:=.fields #[.ref d,.int 0 0,.int es.size 0,.int ep 0] }).IsValuesView v d:=let ⟨o,ho,r⟩:=hv2;⟨o,Cf _ ho,r⟩
 refine Cc (Cz (om hv3.typeIs ?_));have hit₁:(h2.push { cls:=.type "dict_valueiterator",data:=.fields #[.ref d,.int 0 0,.int es.size 0,.int ep 0] }).IsValIter I d 0 es.size ep:=⟨_,Ci _ rfl,rfl,rfl⟩;have x3:RawD (h2.push { cls:=.type "dict_valueiterator",data:=.fields #[.ref d,.int 0 0,.int es.size 0,.int ep 0] }) d es ep:=x2.at λ o e=>Cf _ e
 have hS₁:=Cf { cls:=.type "dict_valueiterator",data:=.fields #[.ref d,.int 0 0,.int es.size 0,.int ep 0] } hS2;have ext4:∀ b o,b≠S->h2.get? b=some o->(h2.push { cls:=.type "dict_valueiterator",data:=.fields #[.ref d,.int 0 0,.int es.size 0,.int ep 0] }).get? b=some o:=λ b o _ e=>Cf _ e
 refine DF (λ _=>?_) (λ _=>Ce ⟨DS Ep _,key _ _ _ hit₁ x3 ext4 hS₁⟩);refine Cc (wpAny_rule (Cc ?_));show wpAny _ _ (updateSeq S (·.push .none) >>= λ _=>updateSeq S (·.pop)) _ _ _
 refine Cc (EG hS₁ rfl ?_);have hS₂:=CQ (Cu (·.push Cn)) hS₁ rfl;refine EG (hz:=by seq_fits) hS₂ rfl ?_
 have hS₃:=CQ (Cu (·.pop)) hS₂ rfl;have oth:∀ b o,b≠S->(h2.push { cls:=.type "dict_valueiterator",data:=.fields #[.ref d,.int 0 0,.int es.size 0,.int ep 0] }).get? b=some o->_:=λ b o hb e=>(Ct _ (Cu (·.pop)) (Ne.symm hb)).trans ((Ct _ (Cu (·.push Cn)) (Ne.symm hb)).trans e)
 refine Ce ⟨DS Ep _,key _ _ _ (hit₁.at λ o e=>oth _ o (Ne.symm hSI) e) (x3.at λ o e=>oth _ o (yU hdl) e) (λ b o hb e=>oth b o hb (ext4 b o hb e)) hS₃⟩
end
end Sd
namespace Dv
abbrev Pr:=Int×Int
def aV (l:List (Pr×Int))(q:Pr):List (Pr×Int):=match l.find? (λ e=>decide (e.1=q)) with
 | some e=>l.map λ e'=>if e'.1=q then (e'.1,e.2+1) else e'
 | none=>l++[(q,1)]
def bL (fs:List Pr):List (Pr×Int):=fs.foldl aV []
theorem dt (l:List (Pr×Int))(q:Pr):(aV l q).length<=l.length+1:=by
 unfold aV;split
 ·rw[yC];omega
 ·rw[yY];simp
theorem t4 (l:List (Pr×Int))(q:Pr):aV l q≠[]:=by
 unfold aV;split
 ·rename_i e h
  intro z;rw[List.map_eq_nil_iff] at z;subst z;simp at h
 ·simp
theorem rG {l:List (Pr×Int)}{q:Pr}(h:∀ e∈l,1<=e.2):∀ e∈aV l q,1<=e.2:=by
 unfold aV;split
 ·rename_i e0 h0
  have h1:=h _ (zL h0);intro e he;obtain⟨e',he',rfl⟩:=List.mem_map.mp he
  split
  ·show 1<=e0.2+1;omega
  ·exact h e' he'
 ·intro e he
  rcases List.mem_append.mp he with he|he
  ·exact h e he
  ·simp at he;subst he;show (1:Int)<=1;omega
theorem qm {l:List (Pr×Int)}{q p:Pr}(h:∃ e∈l,e.1=p):∃ e∈aV l q,e.1=p:=by
 obtain⟨e,he,hp⟩:=h;unfold aV;split
 ·refine⟨_,List.mem_map.mpr ⟨e,he,rfl⟩,?_⟩
  split
  ·exact hp
  ·exact hp
 ·exact⟨e,zM _ he,hp⟩
theorem sj (l:List (Pr×Int))(q:Pr):∃ e∈aV l q,e.1=q:=by
 unfold aV;split
 ·rename_i e0 h0
  have h1:=BQ h0;have h2:e0.1=q:=by simpa using h1
  refine⟨_,List.mem_map.mpr ⟨e0,zL h0,rfl⟩,?_⟩;rw[if_pos h2];exact h2
 ·exact⟨_,za _ (List.mem_singleton.mpr rfl),rfl⟩
theorem kR {l:List (Pr×Int)}{q:Pr}(h:∀ e∈l,1<=e.2)(g:∃ e∈l,e.1=q):∃ e∈aV l q,2<=e.2:=by
 obtain⟨e,he,hq⟩:=g;unfold aV;split
 ·rename_i e0 h0
  have h1:=h _ (zL h0);refine⟨_,List.mem_map.mpr ⟨e,he,rfl⟩,?_⟩;rw[if_pos hq];show 2<=e0.2+1;omega
 ·rename_i h0
  rw[By] at h0;exact absurd hq (by simpa using h0 e he)
theorem pA {l:List (Pr×Int)}{q:Pr}(h:∀ e∈l,1<=e.2)(g:∃ e∈l,2<=e.2):∃ e∈aV l q,2<=e.2:=by
 obtain⟨e,he,h2⟩:=g;by_cases hq:e.1=q
 ·exact kR h ⟨e,he,hq⟩
 ·unfold aV;split
  ·refine⟨_,List.mem_map.mpr ⟨e,he,rfl⟩,?_⟩
   rw[if_neg hq];exact h2
  ·exact⟨e,zM _ he,h2⟩
theorem mI:∀ (fs:List Pr) (l:List (Pr×Int)),(∀ e∈l,1<=e.2)->(¬ fs.Nodup\/(∃ q∈fs,∃ e∈l,e.1=q)\/∃ e∈l,2<=e.2)->∃ e∈fs.foldl aV l,2<=e.2
 | [],l,_,h=>by
  rcases h with h|⟨q,hq,_⟩|h
  ·exact absurd (by simp) h
  ·cases hq
  ·exact h
 | q::fs,l,hl,h=>by
  rw[yT];refine mI fs _ (rG hl) ?_
  rcases h with h|⟨p,hp,g⟩|h
  ·by_cases hq:q∈fs
   ·exact .inr (.inl ⟨q,hq,sj l q⟩)
   ·exact .inl λ z=>h (List.nodup_cons.mpr ⟨hq,z⟩)
  ·rcases List.mem_cons.mp hp with rfl|hp
   ·exact .inr (.inr (kR hl g))
   ·exact .inr (.inl ⟨p,hp,qm g⟩)
  ·exact .inr (.inr (pA hl h))
theorem ke:∀ (fs:List Pr) (l:List (Pr×Int)),fs.Nodup->(∀ q∈fs,∀ e∈l,e.1≠q)->fs.foldl aV l=l++fs.map λ q=>(q,1)
 | [],l,_,_=>by simp
 | q::fs,l,nd,h=>by
  rw[zE] at nd;have e:aV l q=l++[(q,1)]:=by
   unfold aV;have:l.find? (λ e=>decide (e.1=q))=none:=by
    rw[By];intro e he;simpa using h q yG e he
   rw[this]
  rw[yT,e,ke fs _ nd.2 λ p hp e he=>?_,zw]
  ·rfl
  ·rcases List.mem_append.mp he with he|he
   ·exact h p (yF _ hp) e he
   ·simp at he;subst he;intro z;subst z;exact nd.1 hp
theorem cnt_len:∀ (fs:List Pr) (l:List (Pr×Int)),(fs.foldl aV l).length<=l.length+fs.length
 | [],l=>by simp
 | q::fs,l=>by
  rw[yT,yE];have:=cnt_len fs (aV l q);have:=dt l q;omega
theorem cnt_ne:∀ (fs:List Pr) (l:List (Pr×Int)),fs≠[]\/l≠[]->fs.foldl aV l≠[]
 | [],l,h=>by
  rcases h with h|h
  ·exact absurd rfl h
  ·exact h
 | q::fs,l,_=>by rw[yT];exact cnt_ne fs _ (.inr (t4 l q))
theorem fN:∀ l:List Pr,nodupB l=decide l.Nodup
 | []=>by simp[nodupB]
 | p::l=>by
  unfold nodupB;rw[fN l,zm];simp[zE]
theorem cnt_says {fs:List Pr}{n:Int}(hm:fs≠[]){M:Int}(hM:M∈(bL fs).map (·.2))(hle:∀ a∈(bL fs).map (·.2),a<=M)(hl:((bL fs).length:Int)=n):decide (M=1)=(decide ((fs.length:Int)=n)&&nodupB fs):=by
 rw[fN];by_cases nd:fs.Nodup
 ·have e:bL fs=fs.map λ q=>(q,1):=by
   have:=ke fs [] nd (by simp);simpa[bL] using this
  rw[e,zb] at hM;obtain⟨q,_,rfl⟩:=List.mem_map.mp hM;rw[e,yC] at hl;simp[nd,hl]
 ·obtain⟨e,he,h2⟩:=mI fs [] (by simp) (.inl nd)
  have:=hle e.2 (List.mem_map.mpr ⟨e,he,rfl⟩);have h1:¬ M=1:=⋯
  simp[nd,h1]
theorem cnt_no {fs:List Pr}{n:Int}(hl:¬ ((bL fs).length:Int)=n):(decide ((fs.length:Int)=n)&&nodupB fs)=false:=by
 rw[fN];by_cases nd:fs.Nodup
 ·have e:bL fs=fs.map λ q=>(q,1):=by
   have:=ke fs [] nd (by simp);simpa[bL] using this
  rw[e,yC] at hl;simp[hl]
 ·simp[nd]
theorem fills_inv {d0 d1 d2 d:D}{f:Bool}(h:fillsR d0 d1 d2=.ok d f):∃ a b ds es ps ss,d0=.tup [.int a,.int b]/\d1=.lst ds/\d2=.lst es/\prsOf ds=some ps/\prsOf es=some ss/\0<a/\0<b/\a*b<=1000/\0<ps.length*ss.length/\ps.length*ss.length<=1000 /\
  d=.bl (decide (((ps.length*ss.length:Nat):Int)=a*b)&&nodupB (aq a b ps ss))/\f=true:=by
 unfold fillsR at h
 split at h
 ·rename_i a b ds es
  split at h
  ·rename_i ps ss e1 e2
   split at h
   ·rename_i c
    simp only[yL,decide_eq_true_eq] at c;cases h;exact⟨a,b,ds,es,ps,ss,rfl,rfl,rfl,e1,e2,c.1.1.1.1,c.1.1.1.2,c.1.1.2,c.1.2,c.2,rfl,rfl⟩
   ·cases h
  ·cases h
 ·cases h
theorem falls_length (a b:Int)(ps:List Pr):∀ ss:List Pr,(aq a b ps ss).length=ps.length*ss.length
 | []=>by simp[aq]
 | s::ss=>by
  have ih:=falls_length a b ps ss;unfold aq at ih ⊢;rw[zP,yY,ih,yC,yE,Ap,AF]
theorem falls_snoc (a b:Int)(ps ss:List Pr)(s:Pr):aq a b ps (ss++[s])=aq a b ps ss++ps.map λ p=>((p.1+s.1)%a,(p.2+s.2)%b):=by
 unfold aq;rw[List.flatMap_append];simp
theorem cnt_snoc (fs:List Pr)(q:Pr):bL (fs++[q])=aV (bL fs) q:=by unfold bL;rw[AS];rfl
theorem take_snoc {α:Type}{l:List α}{i:Nat}{x:α}(h:l[i]?=some x):l.take (i+1)=l.take i++[x]:=by
 rw[List.take_succ,h];rfl
end Dv
namespace Sd
open PySem PySem.Spec PyProof.Rows L2
open Dv (D R RL EE EL EI RI Sl Out SS Pr aV bL aq prsOf)
def dk (q:Pr):List Key:=[Sum.inl q.1,Sum.inl q.2]
def cW (l:List (Pr×Int)):List (List Key×V):=l.map λ e=>(dk e.1,V.int e.2)
theorem kF {p q:Pr}(h:dk p=dk q):p=q:=by
 unfold dk at h;simp only[List.cons.injEq,Sum.inl.injEq,and_true] at h;exact FQ h.1 h.2
theorem fy (q:Pr):∀ l:List (Pr×Int),eI (cW l) (dk q)=(l.find? λ e=>decide (e.1=q)).map λ e=>V.int e.2
 | []=>rfl
 | e::l=>by
  unfold cW;rw[yB];by_cases h:e.1=q
  ·rw[eX (by show dk e.1=dk q;rw[h]),List.find?_cons_of_pos (by simpa using h)];rfl
  ·rw[fk (λ z=>h (kF z)),List.find?_cons_of_neg (by simpa using h)]
   exact fy q l
theorem tE {l:List (Pr×Int)}{q:Pr}{n:Int}(h:(eI (cW l) (dk q)).getD (.int 0)=.int n):putK (cW l) (dk q) (.int (n+1))=cW (aV l q):=by
 rw[fy] at h;unfold aV;cases hf:l.find? (λ e=>decide (e.1=q)) with
 | none=>
  rw[hf] at h;have hn:n=0:=by simpa using h.symm
  subst hn;rw[rF _ (by rw[fy,hf];rfl)];unfold cW;rw[Af];rfl
 | some e=>
  rw[hf] at h;have hn:e.2=n:=by simpa using h
  subst hn;have hany:((cW l).any λ kv=>decide (kv.1=dk q))=true:=by rw[eO,fy,hf];rfl
  unfold putK;rw[hany,if_pos rfl];unfold cW;rw[zb,zb];refine zv λ e' _=>?_
  show (if dk e'.1=dk q then (dk e'.1,V.int (e.2+1)) else (dk e'.1,V.int e'.2))=_
  by_cases hq:e'.1=q
  ·simp only[DT,hq,if_true]
  ·have:¬ dk e'.1=dk q:=λ z=>hq (kF z)
   simp only[DT,hq,this,if_false]
theorem sL {P:Program}{w:World}{H:Hp}{kvs:List (List Key×V)}{xs:List (List Key×Addr×Value)}(rel:KT H kvs xs):Vals (kvs.map (·.2)) (xs.map ((λ x=>x.val) ∘ entryOfKey (tupleKind (aS P w)))):=by
 induction rel with
 | nil=>exact .nil
 | cons r _ ih=>exact .cons r.2.2 ih
theorem rf {P:Program}{w:World}{H:Hp}{h:Heap}{a:Addr}{kvs:List (List Key×V)}(ok:HOk P w H h)(e:H a=some (.dT kvs)):kvs.length<=sizeLine/\(a == sysModules)=false/\∃ es ep,RawD h a es ep/\es.size=kvs.length/\Vals (kvs.map (·.2)) (es.toList.map (·.val)):=by
 obtain⟨z,hd,xs,rel,o,es,ep,ho,hc,hdat,he,_,_⟩:=uI ok e;refine⟨z,hd,es,ep,⟨o,ho,hc,hdat⟩,?_,?_⟩
 ·have h1:=congrArg List.length he
  rw[Cj,yC] at h1;rw[h1];exact(Eg rel).symm
 ·rw[he,zb]
  exact sL rel
theorem pf {X:Cx}:cM X (.builtin "len") (λ xs H Q=>∃ a kvs,xs=[.ref a]/\H a=some (.dT kvs)/\Q (.int kvs.length) H):=by
 intro pins s σ H xs us Q I r h;obtain⟨a,kvs,rfl,ha,q⟩:=h;obtain⟨u,rfl,rx⟩:=vals1 r;cases rx;obtain⟨z,hd,es,ep,x,hz,_⟩:=rf I.hok ha;refine uy hd x (by rw[hz];exact z) λ t s' e=>?_
 subst e;rw[hz];exact⟨.int _,H,I.tok _,⟨t,rfl⟩,q⟩
def tLV (to:TE):TE:=λ σ H Q=>to σ H λ x H1=>∃ a kvs,x=.ref a/\H1 a=some (.dT kvs)/\kvs.length<=100000/\∀ l,H1 l=none->Q (.ref l) (upd H1 l (.lst (kvs.map (·.2))))
theorem kE {X:Cx}{o:Expr}{to:TE}{p apos cpos pos:Pos}(hcl:X.calm=true)(hm:X.mg "list"=none)(hg:Gl X "list")(ho:PE X o to)
  (hbase:attributeBase o "values" X.env (eval o X.env)=eval o X.env) (hline:(apos.endLine == cpos.line)=true)
  (he:starEach [.Call (.Attribute o "values" apos) [] [] cpos] X.env=[(false,eval (.Call (.Attribute o "values" apos) [] [] cpos) X.env)]):
  PE X (.Call (.Name "list" p) [.Call (.Attribute o "values" apos) [] [] cpos] [] pos) (tLV to):=by
 intro pins s σ H Q I h;refine CI (bO I hg hm (u:=.type "list") (by decide +kernel) ?_ (by decide) (by decide));refine Cr ?_ he rfl
 rw[he];show wpAny _ _ (spliced ((false,eval (.Call (.Attribute o "values" apos) [] [] cpos) X.env)::backTo pos [])) _ _ s
 refine CD ?_
 refine Ey hbase hline (thn (ho pins s σ H _ I h) λ v s1 ⟨x,H1,I1,r1,a,kvs,ex,ha,hz,go⟩=>?_);subst ex;cases r1;obtain⟨z,hd,es,ep,rw_,hes,vals⟩:=rf I1.hok ha;obtain⟨ob,hob,hoc,_⟩:=id rw_;refine⟨"dict","dict.values",EA,Ew,PySem.F.type_dict_values,rw_.ty,λ b q=>(by cases q;exact⟨ob,hob,hoc.2.1⟩),Do rfl (E4 ?_)⟩;refine mr hd rw_ ?_
 refine CP ?_
 have k1:∀ b u,s1.heap.get? b=some u->(s1.heap.push { cls:=.type "dict_values",data:=.fields #[.ref a] }).get? b=some u:=λ b u q=>Cf _ q
 have hle:s1.heap.objs.size<=(s1.heap.push { cls:=.type "dict_values",data:=.fields #[.ref a] }).objs.size:=by rw[Ds];omega
 refine og (es:=es) (ep:=ep) (d:=a) (I1.ok.hd hcl) ⟨_,Ci _ rfl,rfl,rfl⟩ (rw_.at λ o e=>k1 _ _ e) ⋯ λ h' tk acc' c' hk hS hacc=>?_
 refine⟨.ref _,_,I1.laid (t':=tk) (o:=.lst (kvs.map (·.2))) (λ b u q=>hk b u (k1 b u q)) hle ?_,rfl,go _ (I1.hok.fresh hle)⟩;refine⟨by rw[yC];exact z,acc'.toList,c',by rw[hacc];exact vals,by simpa using hS⟩
theorem vt {A H H':Hp}(e:Same A H)(hh:Same H H')(nf:∀ b o u,H b=none->H' b≠some (.frz o u)):Ext A H (bw A (Hnew H H')) H':=by
 have hn:∀ b o,Hnew H H' b=some o->A b=none:=λ b o h=>e.free (cB h)
 refine⟨hh,cz,λ b o h=>?_,λ b o h nn=>?_,λ b h=>?_,nf⟩
 ·rcases ba h with h|⟨_,h⟩
  ·exact hh _ _ (e b o h)
  ·exact Hnew.sub b o h
 ·rcases ba h with h|⟨_,h⟩
  ·rw[nn] at h;cases h
  ·exact cB h
 ·unfold bw Hnew
  rw[e.free h,h]
theorem lT {K:Cd}{H:Hp}:∀ {ds:List D} {vs:List V} {ps:List Pr},prsOf ds=some ps->RpL K H ds vs->vs.length=ps.length/\∀ (i:Nat) (p:Pr) (x:V),ps[i]?=some p->vs[i]?=some x->∃ b,x=.ref b/\Rd H b (.tup [.int p.1,.int p.2])
 | [],vs,ps,e,h=>by
  simp[Dv.prsOf] at e;subst e;unfold RpL at h;subst h;exact⟨rfl,λ i p x h=>by simp at h⟩
 | d::ds,vs,ps,e,h=>by
  unfold RpL at h;obtain⟨v,ws,rfl,h1,h2⟩:=h;unfold Dv.prsOf at e
  split at e
  ·rename_i heq;cases heq
  ·rename_i x y r heq
   cases heq;rw[Ad] at e;obtain⟨qs,e1,rfl⟩:=e;obtain⟨l1,l2⟩:=lT e1 h2;refine⟨by rw[yE,yE,l1],λ i p z hp hz=>?_⟩;cases i with
   | zero=>
    simp at hp hz;subst hp hz;unfold Rp at h1;obtain⟨b,us,rfl,h3,h4⟩:=h1;have:=RpL.ints (ns:=[x,y]) rfl h4;subst this;exact⟨b,rfl,h3⟩
   | succ i=>exact l2 i p z (by simpa using hp) (by simpa using hz)
  ·cases e
def gT (K:Cd)(i j:Nat):TG:=xB K 2 (qH (ic i) (qH (ic j) xM))
def ye (K:Cd)(tq:TE):TS:=tS (tI tq (ic 8)) (rA (gz 3) (gz 8) (tOp (rI0 λ i j=>.int (i+j)) (pP (gz 3) (gz 8) (tC (.int 0))) (tC (.int 1))))
def ug (K:Cd)(tq tp:TE):TS:=tS (tI rV (ic 3)) (tS (wC (pS K (gz 2)) (gT K 4 5) (wC (pS K (gz 1)) (gT K 6 7) (ye K tq)))
 (w6 (uJ (tOp rEq (tCB (λ xs H Q=>∃ a kvs,xs=[.ref a]/\H a=some (.dT kvs)/\Q (.int kvs.length) H) (qX (gz 3) wc)) tp)
  (tOp rEq (tCB (λ xs H Q=>∃ p,∃ ns:List Int,xs=[.ref p]/\SqX K H p (ns.map V.int)/\0<ns.length/\∀ M,M∈ns->(∀ a∈ns,a<=M)->Q (.int M) H) (qX (tLV (gz 3)) wc)) (tC (.int 1))))))
structure LpI (H0:Hp)(v0 v1 v2:V)(d:Addr)(l:List (Pr×Int))(σ:St)(H:Hp):Prop where
 len:σ.length=9
 s0:σ[0]?=some (some v0)
 s1:σ[1]?=some (some v1)
 s2:σ[2]?=some (some v2)
 s3:σ[3]?=some (some (.ref d))
 sm:Same H0 H
 dn:H0 d=none
 dd:H d=some (.dT (cW l))
 nf:∀ b o u,H0 b=none->H b≠some (.frz o u)
theorem LpI.set {H0 H:Hp}{v0 v1 v2:V}{d:Addr}{l:List (Pr×Int)}{σ:St}(h:LpI H0 v0 v1 v2 d l σ H){i:Nat}(hi:4<=i)(v:V):LpI H0 v0 v1 v2 d l (σ.set i (some v)) H:=
 ⟨by rw[zx];exact h.len,by rw[yX ⋯];exact h.s0,by rw[yX ⋯];exact h.s1,by rw[yX ⋯];exact h.s2,by rw[yX ⋯];exact h.s3,h.sm,h.dn,h.dd,h.nf⟩
def fqF:EE:=Dv.eTup (Dv.lCons (Dv.eOp .mod (Dv.eOp .add (Dv.eVar 6) (Dv.eVar 4)) (Dv.eIx (Dv.eVar 0) (Dv.eInt 0))) (Dv.lCons (Dv.eOp .mod (Dv.eOp .add (Dv.eVar 7) (Dv.eVar 5)) (Dv.eIx (Dv.eVar 0) (Dv.eInt 1))) Dv.lNil))
def fpF:EE:=Dv.eOp .mul (Dv.eIx (Dv.eVar 0) (Dv.eInt 0)) (Dv.eIx (Dv.eVar 0) (Dv.eInt 1))
theorem xW {a b:Int}(ha:0<a)(hb:0<b)(r u x y:Int):fqF [some (.tup [.int a,.int b]),none,none,none,some (.int r),some (.int u),some (.int x),some (.int y)]=.ok (.tup [.int ((x+r)%a),.int ((y+u)%b)]) true:=by
 have e1:Dv.opD .mod (.int (x+r)) (.int a)=.ok (.int ((x+r)%a)) true:=by simp[Dv.opD_ai,Dv.opD_al,Dv.opD_su,Dv.opD_mi,Dv.opD_ml,Dv.opD_mo,Dv.opD_fd,Dv.opD_po,Dv.opD_ba,Dv.opD_sh,ha]
 have e2:Dv.opD .mod (.int (y+u)) (.int b)=.ok (.int ((y+u)%b)) true:=by simp[Dv.opD_ai,Dv.opD_al,Dv.opD_su,Dv.opD_mi,Dv.opD_ml,Dv.opD_mo,Dv.opD_fd,Dv.opD_po,Dv.opD_ba,Dv.opD_sh,hb]
 have a1:Dv.opD .add (.int x) (.int r)=.ok (.int (x+r)) true:=rfl;have a2:Dv.opD .add (.int y) (.int u)=.ok (.int (y+u)) true:=rfl;have i1:Dv.ixD (.tup [.int a,.int b]) (.int 0) false=.ok (.int a) true:=rfl;have i2:Dv.ixD (.tup [.int a,.int b]) (.int 1) false=.ok (.int b) true:=rfl;have sc:Dv.scal (.tup [.int a,.int b])=false:=rfl;simp only[fqF,Dv.eTup,Dv.lCons,Dv.lNil,Dv.eOp,Dv.eIx,Dv.eVar,Dv.eInt,yA,yD,Dv.R.bind,Dv.RL.bind,Dv.R.bindL,Dv.RL.bindL,sc,i1,i2,a1,a2,e1,e2,yV]
theorem xV {a b:Int}(ha:0<a)(hb:0<b)(h:a*b<=1000):fpF [some (.tup [.int a,.int b])]=.ok (.int (a*b)) true:=by
 have q:a<=1000:=by
  have:a*1<=a*b:=zk ⋯ ⋯;omega
 have bt:Dv.bits a<=64:=by
  unfold Dv.bits;rw[if_neg ⋯];have:a.natAbs.log2<64:=(Bg ⋯).mpr (AI (show a.natAbs<=1000 by omega) (by decide));omega
 have m:Dv.mulOk a b=true:=by unfold Dv.mulOk;rw[decide_eq_true bt];rfl
 have e1:Dv.opD .mul (.int a) (.int b)=.ok (.int (a*b)) true:=by simp[Dv.opD_ai,Dv.opD_al,Dv.opD_su,Dv.opD_mi,Dv.opD_ml,Dv.opD_mo,Dv.opD_fd,Dv.opD_po,Dv.opD_ba,Dv.opD_sh,m]
 have i1:Dv.ixD (.tup [.int a,.int b]) (.int 0) false=.ok (.int a) true:=rfl;have i2:Dv.ixD (.tup [.int a,.int b]) (.int 1) false=.ok (.int b) true:=rfl;have sc:Dv.scal (.tup [.int a,.int b])=false:=rfl;simp only[fpF,Dv.eOp,Dv.eIx,Dv.eVar,Dv.eInt,yA,Dv.R.bind,sc,i1,i2,e1]
theorem um (l:List (Pr×Int))(q:Pr):∃ n,(eI (cW l) (dk q)).getD (.int 0)=.int n:=by
 rw[fy];cases l.find? (λ e=>decide (e.1=q)) with
 | none=>exact⟨0,rfl⟩
 | some e=>exact⟨e.2,rfl⟩
theorem LpI.grow {H0 H H':Hp}{v0 v1 v2:V}{d:Addr}{l:List (Pr×Int)}{σ:St}(h:LpI H0 v0 v1 v2 d l σ H)(e:Same H H')(nf:∀ b o u,H b=none->H' b≠some (.frz o u)):LpI H0 v0 v1 v2 d l σ H':=
 ⟨h.len,h.s0,h.s1,h.s2,h.s3,h.sm.trans e,h.dn,e _ _ h.dd,λ b o u hb=>by
  cases q:H b with
  | none=>exact nf b o u q
  | some w=>rw[e _ _ q];intro z;cases z;exact h.nf b o u hb q⟩
theorem LpI.put {H0 H:Hp}{v0 v1 v2:V}{d:Addr}{l l':List (Pr×Int)}{σ:St}(h:LpI H0 v0 v1 v2 d l σ H):LpI H0 v0 v1 v2 d l' σ (upd H d (.dT (cW l'))):=
 ⟨h.len,h.s0,h.s1,h.s2,h.s3,λ b o hb=>by rw[ax (λ z=>by rw[z,h.dn] at hb;cases hb)];exact h.sm b o hb,h.dn,aC,λ b o u hb=>by
  by_cases z:b=d
  ·subst z;rw[aC];intro q;cases q
  ·rw[ax z];exact h.nf b o u hb⟩
theorem mq {C:Ctx}{tq tp:TE}(qq:Tak C tq fqF)(qp:Tak C tp fpF):tV C (ug C.X.K tq tp) Dv.sFills:=by
 intro Hv₀ H₀ E σ H st ⟨Hc,O,r⟩ w;unfold Dv.sFills at w;by_cases hl:st.length=9
 case neg=>rw[if_neg hl] at w;exact Zf w
 rw[if_pos hl] at w
 split at w
 case h_2=>exact Zf w
 rename_i d0 d1 d2 rest;cases hf:Dv.fillsR d0 d1 d2 with
 | exc c=>rw[hf] at w;exact Zf w
 | bad=>rw[hf] at w;exact Zf w
 | ok dr fr=>
  rw[hf] at w;obtain⟨a,b,ds,es,ps,ss,rfl,rfl,rfl,hps,hss,a0,b0,ab,l0,l1,rfl,rfl⟩:=Dv.fills_inv hf;have hl0:σ.length=9:=by rw[<- r.len];exact hl
  obtain⟨v0,s0,rp0⟩:=r.sh 0 _ rfl;obtain⟨v1,s1,rp1⟩:=r.sh 1 _ rfl;obtain⟨v2,s2,rp2⟩:=r.sh 2 _ rfl;unfold Rp at rp1 rp2;obtain⟨a1,vs1,rfl,sq1,rl1⟩:=rp1;obtain⟨a2,vs2,rfl,sq2,rl2⟩:=rp2;obtain⟨n1,at1⟩:=lT hps rl1;obtain⟨n2,at2⟩:=lT hss rl2;have ret:∀ {v:Bool} {H5:Hp},(v=(decide (((ps.length*ss.length:Nat):Int)=a*b)&&Dv.nodupB (aq a b ps ss)))->Same H H5->(∀ b o u,H b=none->H5 b≠some (.frz o u))->E.rt (.bl v) H5:=λ {v H5} e sm nf=>by
   obtain⟨Hv2,x2,_⟩:=r.ret (vt r.allH sm nf);subst e;exact w _ Hv2 H5 x2 (by unfold Rp;rfl) λ _=>by unfold Rp;rfl
  have env0:∀ {σ':St} {H':Hp} {l:List (Pr×Int)} {d:Addr},LpI H v0 (.ref a1) (.ref a2) d l σ' H'->Same Hc H':=λ L=>r.ch.trans L.sm
  refine λ d hd=>?_
  have L0:LpI H v0 (.ref a1) (.ref a2) d [] (σ.set 3 (some (.ref d))) (upd H d (.dT [])):=
   ⟨by rw[zx];exact hl0,by rw[yX ⋯];exact s0,by rw[yX ⋯];exact s1,by rw[yX ⋯];exact s2,by rw[zg ⋯],eU hd _,hd,aC,λ b o u hb=>by
    by_cases z:b=d
    ·subst z;rw[aC];intro q;cases q
    ·rw[ax z,hb];intro q;cases q⟩
  refine⟨.ref a2,L0.s2,a2,rfl,⟨vs2,(sq2.same (env0 L0)).seq⟩,?_⟩;refine k9 (xs:=vs2) (λ i σ' H'=>LpI H v0 (.ref a1) (.ref a2) d (bL (aq a b ps (ss.take i))) σ' H') (by simpa[aq,bL] using L0) (λ i σ' H' _ L=>(sq2.same (env0 L)).seq) (λ i x σ' H' hx L=>?_) λ σ' H' L=>?_
  ·have hi:i<ss.length:=by rw[<- n2];exact(List.getElem?_eq_some_iff.mp hx).1
   obtain⟨bs,rfl,rdb⟩:=at2 i ss[i] x (yH hi) hx;generalize hs:ss[i]=s at *;have hsi:ss[i]?=some s:=by rw[yH hi,hs]
   refine⟨bs,[.int s.1,.int s.2],rfl,.inl (Rd.same (env0 L) rdb),rfl,_,_,rfl,_,_,rfl,rfl,?_⟩;have L4:=(L.set (i:=4) ⋯ (.int s.1)).set (i:=5) ⋯ (.int s.2);have g4:((σ'.set 4 (some (.int s.1))).set 5 (some (.int s.2)))[4]?=some (some (.int s.1)):=by rw[yX ⋯,zg (by rw[L.len];omega)]
   have g5:((σ'.set 4 (some (.int s.1))).set 5 (some (.int s.2)))[5]?=some (some (.int s.2)):=by rw[zg (by rw[zx,L.len];omega)]
   refine⟨.ref a1,L4.s1,a1,rfl,⟨vs1,(sq1.same (env0 L4)).seq⟩,?_⟩;refine k9 (xs:=vs1) (λ j σ2 H2=>LpI H v0 (.ref a1) (.ref a2) d (bL (aq a b ps (ss.take i)++(ps.take j).map λ p=>((p.1+s.1)%a,(p.2+s.2)%b))) σ2 H2/\σ2[4]?=some (some (.int s.1))/\σ2[5]?=some (some (.int s.2)))
    ⟨by simpa using L4,g4,g5⟩ (λ j σ2 H2 _ L=>(sq1.same (env0 L.1)).seq) (λ j x σ2 H2 hx L2=>?_) λ σ2 H2 L2=>?_
   ·obtain⟨L2,k4,k5⟩:=L2
    have hj:j<ps.length:=by rw[<- n1];exact(List.getElem?_eq_some_iff.mp hx).1
    obtain⟨bp,rfl,rdp⟩:=at1 j ps[j] x (yH hj) hx;generalize hp:ps[j]=p at *;have hpj:ps[j]?=some p:=by rw[yH hj,hp]
    refine⟨bp,[.int p.1,.int p.2],rfl,.inl (Rd.same (env0 L2) rdp),rfl,_,_,rfl,_,_,rfl,rfl,?_⟩;have L3:=(L2.set (i:=6) ⋯ (.int p.1)).set (i:=7) ⋯ (.int p.2);have m4:((σ2.set 6 (some (.int p.1))).set 7 (some (.int p.2)))[4]?=some (some (.int s.1)):=by rw[yX ⋯,yX ⋯];exact k4
    have m5:((σ2.set 6 (some (.int p.1))).set 7 (some (.int p.2)))[5]?=some (some (.int s.2)):=by rw[yX ⋯,yX ⋯];exact k5
    have m6:((σ2.set 6 (some (.int p.1))).set 7 (some (.int p.2)))[6]?=some (some (.int p.1)):=by rw[yX ⋯,zg (by rw[L2.len];omega)]
    have m7:((σ2.set 6 (some (.int p.1))).set 7 (some (.int p.2)))[7]?=some (some (.int p.2)):=by rw[zg (by rw[zx,L2.len];omega)]
    generalize (σ2.set 6 (some (V.int p.1))).set 7 (some (V.int p.2))=σ3 at *;have env:EnvR C.X.K Hc [some (.tup [.int a,.int b]),none,none,none,some (.int s.1),some (.int s.2),some (.int p.1),some (.int p.2)] σ3:=by
     intro i d hid
     match i,hid with
     | 0,hid=>cases hid;exact⟨v0,L3.s0,rp0⟩
     | 4,hid=>cases hid;exact⟨_,m4,by unfold Rp;rfl⟩
     | 5,hid=>cases hid;exact⟨_,m5,by unfold Rp;rfl⟩
     | 6,hid=>cases hid;exact⟨_,m6,by unfold Rp;rfl⟩
     | 7,hid=>cases hid;exact⟨_,m7,by unfold Rp;rfl⟩
    refine qq σ3 H2 Hc _ _ env (env0 L3) ?_
    rw[xW a0 b0];intro v Hv' H3 x rp n;have n':=n rfl;unfold Rp at n';obtain⟨b1,us,rfl,hb1,rlu⟩:=n';have hus:=RpL.ints (ns:=[(p.1+s.1)%a,(p.2+s.2)%b]) rfl rlu;subst hus;have hb2:H3 b1=some (.tup [.int ((p.1+s.1)%a),.int ((p.2+s.2)%b)]):=by
     rcases hb1 with hb1|⟨u,hb1⟩
     ·exact Hnew.sub _ _ hb1
     ·exact absurd (Hnew.sub _ _ hb1) (x.nf b1 _ _ (cB hb1))
    generalize hq:(((p.1+s.1)%a,(p.2+s.2)%b):Pr)=q at *;have hb3:H3 b1=some (.tup ((dk q).map kV)):=by rw[hb2,<- hq];rfl
    have L5:=(L3.grow x.hh x.nf).set (i:=8) ⋯ (.ref b1);have m8:(σ3.set 8 (some (.ref b1)))[8]?=some (some (.ref b1)):=by rw[zg (by rw[L3.len];omega)]
    have e4:(σ3.set 8 (some (.ref b1)))[4]?=some (some (.int s.1)):=by rw[yX ⋯];exact m4
    have e5:(σ3.set 8 (some (.ref b1)))[5]?=some (some (.int s.2)):=by rw[yX ⋯];exact m5
    generalize hfs:(aq a b ps (ss.take i)++(ps.take j).map λ p=>(((p.1+s.1)%a,(p.2+s.2)%b):Pr))=fs at *;have hfl:fs.length<=1000:=by
     have h1:=Dv.falls_length a b ps (ss.take i);have h2:ps.length*(ss.take i).length+ps.length<=ps.length*ss.length:=by
      rw[<- Ap];exact Br _ (by rw[zo];omega)
     have h3:=congrArg List.length hfs;rw[yY,yC,h1,zo (i:=j)] at h3;omega
    obtain⟨n0,hn0⟩:=um (bL fs) q;have hcl:(cW (bL fs)).length<sizeLine:=by
     unfold cW;rw[yC,CF];have:=Dv.cnt_len fs [];unfold bL;simp at this;omega
    refine⟨.ref d,L5.s3,d,rfl,.inr ⟨_,.inl L5.dd⟩,.ref b1,m8,_,DGet.t L5.dd hb3,n0,1,hn0,rfl,.ref d,L5.s3,.ref b1,m8,d,_,rfl,DPut.t L5.dd hb3 hcl,?_⟩;rw[tE hn0,<- Dv.cnt_snoc];have e6:aq a b ps (ss.take i)++(ps.take (j+1)).map (λ p=>(((p.1+s.1)%a,(p.2+s.2)%b):Pr))=fs++[q]:=by
     rw[Dv.take_snoc hpj,Af,<- zw,hfs,<- hq];rfl
    exact⟨by rw[e6];exact L5.put,e4,e5⟩
   ·obtain⟨L2,_,_⟩:=L2
    rw[n1,BJ] at L2;show LpI H v0 (.ref a1) (.ref a2) d (bL (aq a b ps (ss.take (i+1)))) σ2 H2
    rw[Dv.take_snoc hsi,Dv.falls_snoc];exact L2
  ·rw[n2,BJ] at L
   refine⟨.ref d,L.s3,d,_,rfl,L.dd,?_⟩;have env:EnvR C.X.K Hc [some (.tup [.int a,.int b])] σ':=by
    intro i d hid
    match i,hid with
    | 0,hid=>cases hid;exact⟨v0,L.s0,rp0⟩
   refine qp σ' H' Hc _ _ env (env0 L) ?_
   rw[xV a0 b0 ab];intro v Hv' H1 x rp n;unfold Rp at rp;subst rp;have L1:=L.grow x.hh x.nf;have hlen:(cW (bL (aq a b ps ss))).length=(bL (aq a b ps ss)).length:=by unfold cW;rw[yC]
   have hfl:=Dv.falls_length a b ps ss;have hcl:=Dv.cnt_len (aq a b ps ss) [];have hne:aq a b ps ss≠[]:=λ z=>by rw[z] at hfl;simp at hfl;omega
   refine⟨rfl,_,rfl,?_⟩;by_cases c:((bL (aq a b ps ss)).length:Int)=a*b
   ·have c':decide (V.int ((cW (bL (aq a b ps ss))).length:Int)=V.int (a*b))=true:=by rw[hlen,c];simp
    rw[c',if_pos rfl];refine⟨.ref d,L1.s3,d,_,rfl,L1.dd,by rw[hlen];simp at hcl;unfold bL;omega,λ l hl=>?_⟩;have hvals:(cW (bL (aq a b ps ss))).map (·.2)=((bL (aq a b ps ss)).map (·.2)).map V.int:=by unfold cW;rw[zb,zb];rfl
    rw[hvals];have hpos:0<((bL (aq a b ps ss)).map (·.2)).length:=by
     rw[yC];exact List.length_pos_iff.mpr (Dv.cnt_ne _ _ (.inl hne))
    refine⟨l,_,rfl,SqX.of aC,hpos,λ M hM hle=>⟨rfl,?_⟩⟩;have hs:=Dv.cnt_says hne hM hle c;rw[hfl] at hs;refine ret ?_ (L1.sm.trans (eU hl _)) λ b o u hb=>?_
    ·rw[<- hs,zm];simp
    ·by_cases z:b=l
     ·subst z;rw[aC];intro q;cases q
     ·rw[ax z];exact L1.nf b o u hb
   ·have c':decide (V.int ((cW (bL (aq a b ps ss))).length:Int)=V.int (a*b))=false:=by rw[hlen];simpa using c
    rw[c',if_neg (by decide)];have hs:=Dv.cnt_no c;rw[hfl] at hs;exact ret hs.symm L1.sm L1.nf
end Sd
namespace Cw
open Dv (eAnd eB1 eB2 eB3 eBl eCall eCm eComp eInt eIx eLst eNeg eNot eOp eOr eSlice eTup eVar iRange iRange2 iSeq iZip lCons lNil sApp sAppF sAppG sAugIx sClear sCons sExpr sExtF sFills sFor sForT sIf sNil sPar sPut sRaise sRet sRetO sSet sSetF sSetG sUnpackL sWhile)
open Dv (D R)
def b_Q07:Dv.SS:=
 (sIf (eOr (eCm .lt (eVar 0) (eInt 1)) (eCm .gt (eVar 0) (eInt 60))) (sRaise "NoWheel") sNil)
def F_Q07:List D->R:=Dv.fn 1 b_Q07
def b_Q04_l1:Dv.SS:=
 (sCons (sIf (eOr (eCm .le (eVar 3) (eVar 2)) (eCm .ge (eVar 3) (eVar 1))) (sRaise "NoBeat") sNil) (sSetG [3] 2 (eVar 3)))
def b_Q04_t2:Dv.SS:=
 (sFor [0] 3 (iSeq (eVar 0)) b_Q04_l1)
def b_Q04_t1:Dv.SS:=
 (sCons (sSet 2 (eNeg (eInt 1))) b_Q04_t2)
def b_Q04:Dv.SS:=
 (sCons (sIf (eCm .eq (eB1 Dv.lenD (eVar 0)) (eInt 0)) (sRaise "NoBeat") sNil) b_Q04_t1)
def F_Q04:List D->R:=Dv.fn 4 b_Q04
def b_Q02_t1:Dv.SS:=
 (sExpr (eCall F_Q04 (lCons (eVar 1) (lCons (eVar 0) lNil))))
def b_Q02:Dv.SS:=
 (sCons (sExpr (eCall F_Q07 (lCons (eVar 0) lNil))) b_Q02_t1)
def F_Q02:List D->R:=Dv.fn 2 b_Q02
def b_Q01_l1:Dv.SS:=
 (sAugIx 3 .add (eOp .mod (eOp .add (eVar 5) (eVar 4)) (eVar 0)) (eInt 1))
def b_Q01_l2:Dv.SS:=
 (sFor [1] 5 (iSeq (eVar 1)) b_Q01_l1)
def b_Q01_t4:Dv.SS:=
 (sRetO 3)
def b_Q01_t3:Dv.SS:=
 (sCons (sFor [2] 4 (iSeq (eVar 2)) b_Q01_l2) b_Q01_t4)
def b_Q01_t2:Dv.SS:=
 (sCons (sSet 3 (eOp .mul (eLst (lCons (eInt 0) lNil)) (eVar 0))) b_Q01_t3)
def b_Q01_t1:Dv.SS:=
 (sCons (sExpr (eCall F_Q02 (lCons (eVar 0) (lCons (eVar 2) lNil)))) b_Q01_t2)
def b_Q01:Dv.SS:=
 (sCons (sExpr (eCall F_Q02 (lCons (eVar 0) (lCons (eVar 1) lNil)))) b_Q01_t1)
def F_Q01:List D->R:=Dv.fn 6 b_Q01
def b_Q09:Dv.SS:=
 (sRet (eCm .eq (eCall F_Q01 (lCons (eVar 0) (lCons (eVar 1) (lCons (eVar 2) lNil)))) (eOp .mul (eLst (lCons (eInt 1) lNil)) (eVar 0))))
def F_Q09:List D->R:=Dv.fn 3 b_Q09
def b_Q0W:Dv.SS:=
 (sRet (eAnd (eB1 Dv.isIntD (eVar 0)) (eNot (eB1 Dv.isBoolD (eVar 0)))))
def F_Q0W:List D->R:=Dv.fn 1 b_Q0W
def b_Q0D_l1:Dv.SS:=
 (sIf (eOr (eNot (eCall F_Q0W (lCons (eVar 2) lNil))) (eCm .ne (eVar 2) (eVar 3))) (sRet (eBl false)) sNil)
def b_Q0D_t2:Dv.SS:=
 (sRet (eBl true))
def b_Q0D_t1:Dv.SS:=
 (sCons (sForT [0,1] (Dv.tupTo [2,3]) (iZip (eVar 0) (eVar 1)) b_Q0D_l1) b_Q0D_t2)
def b_Q0D:Dv.SS:=
 (sCons (sIf (eOr (eNot (eB1 Dv.isListD (eVar 0))) (eCm .ne (eB1 Dv.lenD (eVar 0)) (eB1 Dv.lenD (eVar 1)))) (sRet (eBl false)) sNil) b_Q0D_t1)
def F_Q0D:List D->R:=Dv.fn 4 b_Q0D
def b_Q0H_l1:Dv.SS:=
 (sCons (sSet 5 (eOp .mod (eVar 4) (eB1 Dv.lenD (eVar 2)))) (sIf (eOr (eCm .ge (eIx (eVar 2) (eVar 5)) (eOp .pow (eInt 10) (eInt 30))) (eCm .lt (eIx (eVar 2) (eVar 5)) (eOp .sub (eInt 0) (eOp .pow (eInt 10) (eInt 30))))) (sCons (sApp 3 (eOp .mod (eIx (eVar 2) (eVar 5)) (eOp .pow (eInt 10) (eInt 30)))) (sPut 2 (eVar 5) (eOp .fdiv (eIx (eVar 2) (eVar 5)) (eOp .pow (eInt 10) (eInt 30))))) (sCons (sSet 6 (eOp .mod (eOp .add (eOp .add (eOp .add (eOp .mul (eIx (eVar 2) (eVar 5)) (eInt 48271)) (eOp .mul (eOp .mul (eVar 4) (eVar 4)) (eInt 16807))) (eOp .mul (eInt 7919) (eVar 4))) (eInt 5)) (eInt 2147483647))) (sCons (sSet 7 (eOp .mod (eOp .add (eOp .mul (eVar 6) (eVar 6)) (eOp .mul (eVar 4) (eInt 39373))) (eInt 2147483629))) (sApp 3 (eOp .add (eOp .mul (eOp .mod (eOp .mul (eVar 6) (eVar 7)) (eInt 2147483587)) (eInt 2147483629)) (eVar 7)))))))
def b_Q0H_t3:Dv.SS:=
 (sRetO 3)
def b_Q0H_t2:Dv.SS:=
 (sCons (sFor [] 4 (iRange (eVar 1)) b_Q0H_l1) b_Q0H_t3)
def b_Q0H_t1:Dv.SS:=
 (sCons (sSet 3 (eLst lNil)) b_Q0H_t2)
def b_Q0H:Dv.SS:=
 (sCons (sSet 2 (eOp .add (eSlice (eVar 0) none (some (eInt 63))) (eOp .mul (eLst (lCons (eInt 0) lNil)) (eB1 Dv.intD (eCm .eq (eVar 0) (eLst lNil)))))) b_Q0H_t1)
def F_Q0H:List D->R:=Dv.fn 8 b_Q0H
def b_Q0F:Dv.SS:=
 (sRet (eIx (eVar 0) (eVar 1)))
def F_Q0F:List D->R:=Dv.fn 2 b_Q0F
def c_Q08_1:Dv.EE:=(eComp (eVar 0) (eCm .eq (eOp .mod (eVar 1) (eVar 0)) (eInt 0)) [0] (iRange2 (eInt 1) (eOp .add (eVar 0) (eInt 1))))
def b_Q08_t1:Dv.SS:=
 (sRet c_Q08_1)
def b_Q08:Dv.SS:=
 (sCons (sIf (eOr (eCm .lt (eVar 0) (eInt 1)) (eCm .gt (eVar 0) (eInt 60))) (sRaise "NoPart") sNil) b_Q08_t1)
def F_Q08:List D->R:=Dv.fn 1 b_Q08
def b_Q05_t1:Dv.SS:=
 (sExpr (eCall F_Q07 (lCons (eOp .mul (eIx (eVar 0) (eInt 0)) (eIx (eVar 0) (eInt 1))) lNil)))
def b_Q05:Dv.SS:=
 (sCons (sIf (eOr (eCm .ne (eB1 Dv.lenD (eVar 0)) (eInt 2)) (eCm .lt (eB1 Dv.minTD (eVar 0)) (eInt 1))) (sRaise "NoWheel") sNil) b_Q05_t1)
def F_Q05:List D->R:=Dv.fn 1 b_Q05
def c_Q00_1:Dv.EE:=(eComp (eTup (lCons (eVar 1) (lCons (eVar 0) lNil))) (eBl true) [2] (iRange (eIx (eVar 0) (eInt 1))))
def b_Q00_l1:Dv.SS:=
 (sExtF 1 c_Q00_1)
def b_Q00_t2:Dv.SS:=
 (sRetO 1)
def b_Q00_t1:Dv.SS:=
 (sCons (sFor [0] 2 (iRange (eIx (eVar 0) (eInt 0))) b_Q00_l1) b_Q00_t2)
def b_Q00:Dv.SS:=
 (sCons (sSet 1 (eLst lNil)) b_Q00_t1)
def F_Q00:List D->R:=Dv.fn 3 b_Q00
def c_Q06_1:Dv.EE:=(eComp (eVar 0) (eB2 (Dv.inG false) (eVar 0) (eVar 1)) [1] (iSeq (eCall F_Q00 (lCons (eVar 0) lNil))))
def b_Q06_t1:Dv.SS:=
 (sIf (eOr (eCm .eq (eB1 Dv.lenD (eVar 1)) (eInt 0)) (eCm .ne (eVar 1) c_Q06_1)) (sRaise "NoBeat") sNil)
def b_Q06:Dv.SS:=
 (sCons (sExpr (eCall F_Q05 (lCons (eVar 0) lNil))) b_Q06_t1)
def F_Q06:List D->R:=Dv.fn 2 b_Q06
def c_Q03_1:Dv.EE:=(eComp (eCm .eq (eOp .mod (eIx (eVar 1) (eInt 1)) (eVar 0)) (eInt 0)) (eBl true) [0] (iSeq (eSlice (eCall F_Q08 (lCons (eIx (eVar 0) (eInt 0)) lNil)) (some (eInt 1)) none)))
def b_Q03:Dv.SS:=
 (sIf (eB1 Dv.anyD c_Q03_1) (sRaise "NoPair") sNil)
def F_Q03:List D->R:=Dv.fn 1 b_Q03
def c_Q0Y_1:Dv.EE:=(eComp (eTup (lCons (eOp .mod (eOp .add (eIx (eVar 0) (eInt 0)) (eIx (eVar 2) (eInt 0))) (eIx (eVar 1) (eInt 0))) (lCons (eOp .mod (eOp .add (eIx (eVar 0) (eInt 1)) (eIx (eVar 2) (eInt 1))) (eIx (eVar 1) (eInt 1))) lNil))) (eBl true) [0,4] (iSeq (eVar 1)))
def b_Q0Y_l1:Dv.SS:=
 (sExtF 3 c_Q0Y_1)
def b_Q0Y_t4:Dv.SS:=
 (sRet (eCm .eq (eB1 Dv.sortedTD (eVar 3)) (eCall F_Q00 (lCons (eVar 0) lNil))))
def b_Q0Y_t3:Dv.SS:=
 (sCons (sFor [2] 4 (iSeq (eVar 2)) b_Q0Y_l1) b_Q0Y_t4)
def b_Q0Y_t2:Dv.SS:=
 (sCons (sSet 3 (eLst lNil)) b_Q0Y_t3)
def b_Q0Y_t1:Dv.SS:=
 (sCons (sExpr (eCall F_Q06 (lCons (eVar 0) (lCons (eVar 2) lNil)))) b_Q0Y_t2)
def b_Q0Y:Dv.SS:=
 (sCons (sExpr (eCall F_Q06 (lCons (eVar 0) (lCons (eVar 1) lNil)))) b_Q0Y_t1)
def F_Q0Y:List D->R:=Dv.fn 5 b_Q0Y
def b_Q0X:Dv.SS:=
 (sRet (eTup (lCons (eOp .mod (eVar 1) (eIx (eVar 0) (eInt 0))) (lCons (eOp .mod (eVar 1) (eIx (eVar 0) (eInt 1))) lNil))))
def F_Q0X:List D->R:=Dv.fn 2 b_Q0X
def c_Q0A_1:Dv.EE:=(eComp (eVar 0) (eB2 (Dv.inG false) (eCall F_Q0X (lCons (eVar 2) (lCons (eVar 0) lNil))) (eVar 1)) [1,0] (iRange (eOp .mul (eIx (eVar 0) (eInt 0)) (eIx (eVar 0) (eInt 1)))))
def b_Q0A_t2:Dv.SS:=
 (sRet c_Q0A_1)
def b_Q0A_t1:Dv.SS:=
 (sCons (sExpr (eCall F_Q03 (lCons (eVar 0) lNil))) b_Q0A_t2)
def b_Q0A:Dv.SS:=
 (sCons (sExpr (eCall F_Q06 (lCons (eVar 0) (lCons (eVar 1) lNil)))) b_Q0A_t1)
def F_Q0A:List D->R:=Dv.fn 2 b_Q0A
def c_Q0B_1:Dv.EE:=(eComp (eCall F_Q0X (lCons (eVar 1) (lCons (eVar 0) lNil))) (eBl true) [0] (iSeq (eVar 1)))
def b_Q0B_t3:Dv.SS:=
 (sRet (eB1 Dv.sortedTD c_Q0B_1))
def b_Q0B_t2:Dv.SS:=
 (sCons (sExpr (eCall F_Q03 (lCons (eVar 0) lNil))) b_Q0B_t3)
def b_Q0B_t1:Dv.SS:=
 (sCons (sExpr (eCall F_Q02 (lCons (eOp .mul (eIx (eVar 0) (eInt 0)) (eIx (eVar 0) (eInt 1))) (lCons (eVar 1) lNil)))) b_Q0B_t2)
def b_Q0B:Dv.SS:=
 (sCons (sExpr (eCall F_Q05 (lCons (eVar 0) lNil))) b_Q0B_t1)
def F_Q0B:List D->R:=Dv.fn 2 b_Q0B
def c_Q0P_1:Dv.EE:=(eComp (eVar 0) (eCm .eq (eOp .mod (eVar 1) (eVar 0)) (eInt 0)) [0] (iRange2 (eInt 1) (eOp .add (eVar 0) (eInt 1))))
def b_Q0P_t5:Dv.SS:=
 (sRet (eLst (lCons (eVar 4) (lCons (eVar 5) lNil))))
def b_Q0P_t4:Dv.SS:=
 (sCons (sIf (eCm .eq (eOp .mod (eOp .fdiv (eVar 1) (eInt 8)) (eInt 2)) (eInt 1)) (sPar [4,5] 4 5 (eVar 5) (eVar 4)) sNil) b_Q0P_t5)
def b_Q0P_t3:Dv.SS:=
 (sCons (sSetG [0,3] 5 (eB3 Dv.listRange3D (eInt 0) (eVar 0) (eVar 3))) b_Q0P_t4)
def b_Q0P_t2:Dv.SS:=
 (sCons (sSetG [3] 4 (eB1 Dv.listRangeD (eVar 3))) b_Q0P_t3)
def b_Q0P_t1:Dv.SS:=
 (sCons (sSet 3 (eIx (eVar 2) (eOp .mod (eVar 1) (eB1 Dv.lenD (eVar 2))))) b_Q0P_t2)
def b_Q0P:Dv.SS:=
 (sCons (sSet 2 c_Q0P_1) b_Q0P_t1)
def F_Q0P:List D->R:=Dv.fn 6 b_Q0P
def b_Q0K_l1:Dv.SS:=
 (sPar [0,1] 0 1 (eVar 1) (eOp .mod (eVar 0) (eVar 1)))
def b_Q0K_t1:Dv.SS:=
 (sRetO 0)
def b_Q0K:Dv.SS:=
 (sCons (sWhile 100000 (eCm .ne (eVar 1) (eInt 0)) b_Q0K_l1) b_Q0K_t1)
def F_Q0K:List D->R:=Dv.fn 2 b_Q0K
def b_Q0N_l1:Dv.SS:=
 (sAppF 5 (eTup (lCons (eOp .mod (eOp .add (eVar 6) (eVar 2)) (eIx (eVar 0) (eInt 0))) (lCons (eOp .mod (eOp .add (eOp .add (eVar 7) (eVar 3)) (eOp .mul (eVar 4) (eVar 6))) (eIx (eVar 0) (eInt 1))) lNil))))
def b_Q0N_t2:Dv.SS:=
 (sRet (eB1 Dv.sortedTD (eVar 5)))
def b_Q0N_t1:Dv.SS:=
 (sCons (sForT [1] (Dv.tupTo [6,7]) (iSeq (eVar 1)) b_Q0N_l1) b_Q0N_t2)
def b_Q0N:Dv.SS:=
 (sCons (sSet 5 (eLst lNil)) b_Q0N_t1)
def F_Q0N:List D->R:=Dv.fn 8 b_Q0N
def c_Q0V_1:Dv.EE:=(eComp (eTup (lCons (eVar 1) (lCons (eVar 0) lNil))) (eBl true) [10] (iSeq (eIx (eVar 4) (eVar 7))))
def b_Q0V_l1:Dv.SS:=
 (sSetG [4,7,9,10] 9 (eOp .add (eVar 9) c_Q0V_1))
def b_Q0V_l2:Dv.SS:=
 (sCons (sSet 8 (eOp .mod (eOp .mul (eCall F_Q0F (lCons (eVar 0) (lCons (eOp .add (eOp .add (eVar 1) (eInt 2)) (eVar 7)) lNil))) (eInt 48271)) (eInt 2147483647))) (sCons (sSetG [] 9 (eLst lNil)) (sCons (sFor [3,7] 10 (iSeq (eIx (eVar 3) (eVar 7))) b_Q0V_l1) (sAppG [2,5,8,9] 6 (eCall F_Q0N (lCons (eVar 2) (lCons (eVar 9) (lCons (eOp .mod (eVar 8) (eInt 61)) (lCons (eOp .mod (eOp .fdiv (eVar 8) (eInt 64)) (eInt 61)) (lCons (eVar 5) lNil))))))))))
def b_Q0V_t5:Dv.SS:=
 (sRetO 6)
def b_Q0V_t4:Dv.SS:=
 (sCons (sFor [] 7 (iRange (eInt 2)) b_Q0V_l2) b_Q0V_t5)
def b_Q0V_t3:Dv.SS:=
 (sCons (sSet 6 (eLst lNil)) b_Q0V_t4)
def b_Q0V_t2:Dv.SS:=
 (sCons (sSet 5 (eOp .mul (eOp .fdiv (eIx (eVar 2) (eInt 1)) (eCall F_Q0K (lCons (eIx (eVar 2) (eInt 0)) (lCons (eIx (eVar 2) (eInt 1)) lNil)))) (eOp .mod (eCall F_Q0F (lCons (eVar 0) (lCons (eOp .add (eVar 1) (eInt 1)) lNil))) (eInt 7)))) b_Q0V_t3)
def b_Q0V_t1:Dv.SS:=
 (sCons (sSetG [0,1,2] 4 (eCall F_Q0P (lCons (eIx (eVar 2) (eInt 1)) (lCons (eOp .mod (eOp .fdiv (eCall F_Q0F (lCons (eVar 0) (lCons (eVar 1) lNil))) (eInt 16)) (eInt 1000003)) lNil)))) b_Q0V_t2)
def b_Q0V:Dv.SS:=
 (sCons (sSetG [0,1,2] 3 (eCall F_Q0P (lCons (eIx (eVar 2) (eInt 0)) (lCons (eOp .mod (eCall F_Q0F (lCons (eVar 0) (lCons (eVar 1) lNil))) (eInt 1000003)) lNil)))) b_Q0V_t1)
def F_Q0V:List D->R:=Dv.fn 11 b_Q0V
def b_Q0S_t4:Dv.SS:=
 (sRet (eB1 Dv.sortedTD (eOp .add (eVar 4) (eLst (lCons (eVar 5) lNil)))))
def b_Q0S_t3:Dv.SS:=
 (sCons (sIf (eB2 (Dv.inG false) (eVar 5) (eVar 4)) (sRetO 1) sNil) b_Q0S_t4)
def b_Q0S_t2:Dv.SS:=
 (sCons (sSetG [0,2] 5 (eTup (lCons (eOp .mod (eOp .fdiv (eVar 2) (eInt 64)) (eIx (eVar 0) (eInt 0))) (lCons (eOp .mod (eOp .fdiv (eVar 2) (eInt 4096)) (eIx (eVar 0) (eInt 1))) lNil)))) b_Q0S_t3)
def b_Q0S_t1:Dv.SS:=
 (sCons (sSetG [1,3] 4 (eOp .add (eSlice (eVar 1) none (some (eVar 3))) (eSlice (eVar 1) (some (eOp .add (eVar 3) (eInt 1))) none))) b_Q0S_t2)
def b_Q0S:Dv.SS:=
 (sCons (sSet 3 (eOp .mod (eVar 2) (eB1 Dv.lenD (eVar 1)))) b_Q0S_t1)
def F_Q0S:List D->R:=Dv.fn 6 b_Q0S
def b_Q0J:Dv.SS:=
 sFills
def F_Q0J:List D->R:=Dv.fn 9 b_Q0J
def b_Q0Q_t1:Dv.SS:=
 (sRet (eIx (eOp .add (eVar 1) (eLst (lCons (eTup (lCons (eInt 8) (lCons (eInt 7) lNil))) (lCons (eTup (lCons (eInt 5) (lCons (eInt 6) lNil))) (lCons (eTup (lCons (eInt 6) (lCons (eInt 5) lNil))) (lCons (eTup (lCons (eInt 3) (lCons (eInt 20) lNil))) (lCons (eTup (lCons (eInt 12) (lCons (eInt 5) lNil))) (lCons (eTup (lCons (eInt 2) (lCons (eInt 29) lNil))) (lCons (eTup (lCons (eInt 4) (lCons (eInt 5) lNil))) (lCons (eTup (lCons (eInt 1) (lCons (eInt 7) lNil))) lNil)))))))))) (eOp .mod (eVar 0) (eInt 21))))
def b_Q0Q:Dv.SS:=
 (sCons (sSetG [] 1 (eLst (lCons (eTup (lCons (eInt 1) (lCons (eInt 1) lNil))) (lCons (eTup (lCons (eInt 2) (lCons (eInt 3) lNil))) (lCons (eTup (lCons (eInt 3) (lCons (eInt 4) lNil))) (lCons (eTup (lCons (eInt 4) (lCons (eInt 3) lNil))) (lCons (eTup (lCons (eInt 3) (lCons (eInt 5) lNil))) (lCons (eTup (lCons (eInt 5) (lCons (eInt 4) lNil))) (lCons (eTup (lCons (eInt 2) (lCons (eInt 9) lNil))) (lCons (eTup (lCons (eInt 7) (lCons (eInt 8) lNil))) (lCons (eTup (lCons (eInt 5) (lCons (eInt 12) lNil))) (lCons (eTup (lCons (eInt 1) (lCons (eInt 60) lNil))) (lCons (eTup (lCons (eInt 60) (lCons (eInt 1) lNil))) (lCons (eTup (lCons (eInt 4) (lCons (eInt 15) lNil))) (lCons (eTup (lCons (eInt 9) (lCons (eInt 2) lNil))) lNil))))))))))))))) b_Q0Q_t1)
def F_Q0Q:List D->R:=Dv.fn 2 b_Q0Q
def c_Q0O_1:Dv.EE:=(eComp (eVar 0) (eAnd (eCm .eq (eOp .mod (eVar 0) (eIx (eVar 2) (eInt 0))) (eIx (eVar 1) (eInt 0))) (eCm .eq (eOp .mod (eVar 0) (eIx (eVar 2) (eInt 1))) (eIx (eVar 1) (eInt 1)))) [1,0] (iRange (eOp .mul (eIx (eVar 0) (eInt 0)) (eIx (eVar 0) (eInt 1)))))
def b_Q0O_t1:Dv.SS:=
 (sRet (eIx (eVar 2) (eInt 0)))
def b_Q0O:Dv.SS:=
 (sCons (sSet 2 c_Q0O_1) b_Q0O_t1)
def F_Q0O:List D->R:=Dv.fn 3 b_Q0O
def b_Q0T_l1:Dv.SS:=
 (sCons (sIf (eOr (eNot (eB1 Dv.isTupD (eVar 2))) (eOr (eCm .ne (eB1 Dv.lenD (eVar 2)) (eInt 2)) (eOr (eNot (eCall F_Q0W (lCons (eIx (eVar 2) (eInt 0)) lNil))) (eNot (eCall F_Q0W (lCons (eIx (eVar 2) (eInt 1)) lNil)))))) (sRet (eBl false)) sNil) (sIf (eCm .ne (eVar 2) (eVar 3)) (sRet (eBl false)) sNil))
def b_Q0T_t2:Dv.SS:=
 (sRet (eBl true))
def b_Q0T_t1:Dv.SS:=
 (sCons (sForT [0,1] (Dv.tupTo [2,3]) (iZip (eVar 0) (eVar 1)) b_Q0T_l1) b_Q0T_t2)
def b_Q0T:Dv.SS:=
 (sCons (sIf (eOr (eNot (eB1 Dv.isListD (eVar 0))) (eCm .ne (eB1 Dv.lenD (eVar 0)) (eB1 Dv.lenD (eVar 1)))) (sRet (eBl false)) sNil) b_Q0T_t1)
def F_Q0T:List D->R:=Dv.fn 4 b_Q0T
def b_Q0G_l1:Dv.SS:=
 (sCons (sSet 4 (eOp .mod (eOp .mul (eVar 3) (eInt 69621)) (eInt 2147483629))) (sAppF 2 (eTup (lCons (eOp .mod (eVar 4) (eIx (eVar 1) (eInt 0))) (lCons (eOp .mod (eOp .fdiv (eVar 4) (eInt 64)) (eIx (eVar 1) (eInt 1))) lNil)))))
def b_Q0G_t3:Dv.SS:=
 (sRet (eB1 Dv.sortSetTD (eVar 2)))
def b_Q0G_t2:Dv.SS:=
 (sCons (sIf (eCm .eq (eVar 2) (eLst lNil)) (sAppF 2 (eTup (lCons (eOp .sub (eIx (eVar 1) (eInt 0)) (eInt 1)) (lCons (eInt 0) lNil)))) sNil) b_Q0G_t3)
def b_Q0G_t1:Dv.SS:=
 (sCons (sFor [0] 3 (iSeq (eVar 0)) b_Q0G_l1) b_Q0G_t2)
def b_Q0G:Dv.SS:=
 (sCons (sSet 2 (eLst lNil)) b_Q0G_t1)
def F_Q0G:List D->R:=Dv.fn 5 b_Q0G
def c_Q0U_1:Dv.EE:=(eComp (eCall F_Q0O (lCons (eVar 1) (lCons (eVar 0) lNil))) (eBl true) [0] (iSeq (eVar 1)))
def c_Q0U_2:Dv.EE:=(eComp (eOp .mod (eOp .add (eVar 0) (eVar 2)) (eVar 1)) (eBl true) [2,8] (iSeq (eVar 3)))
def b_Q0U_t12:Dv.SS:=
 (sRet (eAnd (eCall F_Q0D (lCons (eCall F_Q0A (lCons (eVar 0) (lCons (eVar 1) lNil))) (lCons (eVar 3) lNil))) (eCall F_Q0T (lCons (eCall F_Q0B (lCons (eVar 0) (lCons (eVar 3) lNil))) (lCons (eVar 1) lNil)))))
def b_Q0U_t11:Dv.SS:=
 (sCons (sApp 5 (eVar 2)) b_Q0U_t12)
def b_Q0U_t10:Dv.SS:=
 (sCons (sIf (eNot (eCall F_Q0D (lCons (eCall F_Q0A (lCons (eVar 0) (lCons (eVar 7) lNil))) (lCons (eB1 Dv.sortedD c_Q0U_2) lNil)))) (sRet (eBl false)) sNil) b_Q0U_t11)
def b_Q0U_t9:Dv.SS:=
 (sCons (sSet 8 (eCall F_Q0O (lCons (eVar 0) (lCons (eTup (lCons (eOp .mod (eInt 3) (eIx (eVar 0) (eInt 0))) (lCons (eOp .mod (eInt 5) (eIx (eVar 0) (eInt 1))) lNil))) lNil)))) b_Q0U_t10)
def b_Q0U_t8:Dv.SS:=
 (sCons (sSetG [0,1] 7 (eCall F_Q0N (lCons (eVar 0) (lCons (eVar 1) (lCons (eInt 3) (lCons (eInt 5) (lCons (eInt 0) lNil))))))) b_Q0U_t9)
def b_Q0U_t7:Dv.SS:=
 (sCons (sClear 6) b_Q0U_t8)
def b_Q0U_t6:Dv.SS:=
 (sCons (sIf (eOr (eNot (eCall F_Q0T (lCons (eVar 6) (lCons (eVar 1) lNil)))) (eCm .ne (eVar 5) (eVar 3))) (sRet (eBl false)) sNil) b_Q0U_t7)
def b_Q0U_t5:Dv.SS:=
 (sCons (sSetF 6 (eCall F_Q0B (lCons (eVar 0) (lCons (eVar 5) lNil)))) b_Q0U_t6)
def b_Q0U_t4:Dv.SS:=
 (sCons (sIf (eOr (eNot (eCall F_Q0D (lCons (eVar 5) (lCons (eVar 3) lNil)))) (eCm .ne (eVar 4) (eVar 1))) (sRet (eBl false)) sNil) b_Q0U_t5)
def b_Q0U_t3:Dv.SS:=
 (sCons (sSet 5 (eCall F_Q0A (lCons (eVar 0) (lCons (eVar 4) lNil)))) b_Q0U_t4)
def b_Q0U_t2:Dv.SS:=
 (sCons (sSetG [1] 4 (eB1 Dv.listD (eVar 1))) b_Q0U_t3)
def b_Q0U_t1:Dv.SS:=
 (sCons (sSet 3 (eB1 Dv.sortedD c_Q0U_1)) b_Q0U_t2)
def b_Q0U:Dv.SS:=
 (sCons (sSet 2 (eOp .mul (eIx (eVar 0) (eInt 0)) (eIx (eVar 0) (eInt 1)))) b_Q0U_t1)
def F_Q0U:List D->R:=Dv.fn 9 b_Q0U
def b_Q0L_t11:Dv.SS:=
 (sRet (eAnd (eCall F_Q0U (lCons (eVar 3) (lCons (eVar 4) lNil))) (eCall F_Q0U (lCons (eVar 3) (lCons (eVar 5) lNil)))))
def b_Q0L_t10:Dv.SS:=
 (sCons (sIf (eOr (eNot (eB1 Dv.isBoolD (eVar 8))) (eOr (eNot (eB1 Dv.isBoolD (eVar 9))) (eOr (eCm .ne (eVar 8) (eVar 6)) (eCm .ne (eVar 9) (eVar 6))))) (sRet (eBl false)) sNil) b_Q0L_t11)
def b_Q0L_t9:Dv.SS:=
 (sCons (sSet 9 (eCall F_Q09 (lCons (eOp .mul (eIx (eVar 3) (eInt 0)) (eIx (eVar 3) (eInt 1))) (lCons (eIx (eVar 7) (eInt 0)) (lCons (eIx (eVar 7) (eInt 1)) lNil))))) b_Q0L_t10)
def b_Q0L_t8:Dv.SS:=
 (sCons (sSet 8 (eCall F_Q0Y (lCons (eVar 3) (lCons (eVar 4) (lCons (eVar 5) lNil))))) b_Q0L_t9)
def b_Q0L_t7:Dv.SS:=
 (sCons (sSetG [3,4,5] 7 (eLst (lCons (eCall F_Q0A (lCons (eVar 3) (lCons (eVar 4) lNil))) (lCons (eCall F_Q0A (lCons (eVar 3) (lCons (eVar 5) lNil))) lNil)))) b_Q0L_t8)
def b_Q0L_t6:Dv.SS:=
 (sCons (sSet 6 (eCall F_Q0J (lCons (eVar 3) (lCons (eVar 4) (lCons (eVar 5) lNil))))) b_Q0L_t7)
def b_Q0L_t5:Dv.SS:=
 (sCons (sIf (eCm .eq (eOp .mod (eOp .fdiv (eVar 2) (eInt 21)) (eInt 2)) (eInt 1)) (sSetG [1,3,5] 5 (eCall F_Q0S (lCons (eVar 3) (lCons (eVar 5) (lCons (eOp .mod (eOp .mul (eIx (eVar 1) (eInt 1)) (eInt 48271)) (eInt 2147483647)) lNil))))) sNil) b_Q0L_t6)
def b_Q0L_t4:Dv.SS:=
 (sCons (sUnpackL [1,3] [4,5] (eCall F_Q0V (lCons (eVar 1) (lCons (eInt 41) (lCons (eVar 3) lNil))))) b_Q0L_t5)
def b_Q0L_t3:Dv.SS:=
 (sCons (sIf (eNot (eCall F_Q0U (lCons (eVar 3) (lCons (eCall F_Q0G (lCons (eSlice (eVar 1) (some (eInt 2)) (some (eOp .add (eInt 2) (eOp .mod (eOp .fdiv (eVar 2) (eInt 42)) (eInt 39))))) (lCons (eVar 3) lNil))) lNil)))) (sRet (eBl false)) sNil) b_Q0L_t4)
def b_Q0L_t2:Dv.SS:=
 (sCons (sSetG [2] 3 (eCall F_Q0Q (lCons (eVar 2) lNil))) b_Q0L_t3)
def b_Q0L_t1:Dv.SS:=
 (sCons (sSet 2 (eIx (eVar 1) (eInt 0))) b_Q0L_t2)
def b_Q0L:Dv.SS:=
 (sCons (sSetG [0] 1 (eCall F_Q0H (lCons (eVar 0) (lCons (eInt 45) lNil)))) b_Q0L_t1)
def F_Q0L:List D->R:=Dv.fn 10 b_Q0L
end Cw
namespace Lk64
open PySem PySem.Spec PyProof.Rows L2 Sd Cw
open Dv (D R RL EE EL EI RI Sl Out SS)
def top (i:Nat):Stmt:=PySem.Challenge.pw_canonwheel_k64_whole_flat_and_up.main.body.getD i (.Pass ⟨0,0,0,0⟩)
section
variable {P:Program}{w:World}{K:Cd}{mg:Str->Option Value}{base:Heap}{ad:String->Option Addr}
abbrev s_Q07:Stmt:=top 8
theorem sc_check_wheel:FnScope ["length"] ["length"] (ai s_Q07):=by constructor<;>first|rfl|decide +kernel
theorem ok_Q07 {f:Addr}{fd:FuncData}(d:Df K mg "check_wheel" s_Q07 ["length"] f fd)(xa:XAll K mg ad){C_3:Addr}(h_NoWheel:ad "NoWheel"=some C_3){t_LONGEST:Tok}(n_LONGEST:mg "LONGEST"=some (.int 60 t_LONGEST)):
  FnOk P w K mg base (CXe P w) 1 f fd ["length"] (spD K (aJ ad) F_Q07 1):=by
 have nd:=sc_check_wheel.nd;refine Df.is cxe_ok ["length"] 0 b_Q07 d sc_check_wheel rfl rfl rfl λ cdv A outer s H E hr=>?_
 exact(ao (bj (fm (bV (ng (aa 0) af) (bJ _ (uF (aa 0) (qr rfl n_LONGEST))))) (b9 (xa.cl _ _ h_NoWheel).1 (cn h_NoWheel) rfl) aQ))
abbrev cI:=Fu "check_wheel" s_Q07 ["length"] 1 F_Q07 1
abbrev s_Q04:Stmt:=top 9
theorem sc_check_rising:FnScope ["numbers","end","before","number"] ["numbers","end"] (ai s_Q04):=by constructor<;>first|rfl|decide +kernel
theorem ok_Q04 {f:Addr}{fd:FuncData}(d:Df K mg "check_rising" s_Q04 ["numbers","end"] f fd)(xa:XAll K mg ad){C_0:Addr}(h_NoBeat:ad "NoBeat"=some C_0)(z_len:mg "len"=none):
  FnOk P w K mg base (CXe P w) 1 f fd ["numbers","end"] (spD K (aJ ad) F_Q04 2):=by
 have nd:=sc_check_rising.nd;refine Df.is cxe_ok ["numbers","end","before","number"] 0 b_Q04 d sc_check_rising rfl rfl rfl λ cdv A outer s H E hr=>?_
 exact(ah (bj (fA (cb z_len rfl (aa 0)) af) (b9 (xa.cl _ _ h_NoBeat).1 (cn h_NoBeat) rfl) aQ) (ah (aL (i:=2) (vU af) nd rfl (Or.inl rfl)) (ao (c9 [0] (i:=3) (bc (aa 0)) (ah (bj (fm (bV (xw (aa 3) (aa 2)) (bJ _ (uS (aa 3) (aa 1))))) (b9 (xa.cl _ _ h_NoBeat).1 (cn h_NoBeat) rfl) aQ) (ao (aR [3] (i:=2) (aa 3) nd rfl (Or.inl rfl)))) nd rfl (Or.inl rfl)))))
abbrev dO:=Fu "check_rising" s_Q04 ["numbers","end"] 1 F_Q04 2
abbrev s_Q02:Stmt:=top 10
theorem sc_check_beat:FnScope ["length","beat"] ["length","beat"] (ai s_Q02):=by constructor<;>first|rfl|decide +kernel
theorem ok_Q02 {f:Addr}{fd:FuncData}(d:Df K mg "check_beat" s_Q02 ["length","beat"] f fd)(q_check_wheel:cI P w K mg base ad)(q_check_rising:dO P w K mg base ad):
  FnOk P w K mg base (CXe P w) 2 f fd ["length","beat"] (spD K (aJ ad) F_Q02 2):=by
 have nd:=sc_check_beat.nd;refine Df.is cxe_ok ["length","beat"] 1 b_Q02 d sc_check_beat rfl rfl rfl λ cdv A outer s H E hr=>?_
 exact(ah (bh (ay q_check_wheel.d q_check_wheel.o hr (by decide) rfl (ae (aa 0) ag))) (ao (bh (ay q_check_rising.d q_check_rising.o hr (by decide) rfl (ae (aa 1) (ae (aa 0) ag))))))
abbrev cX:=Fu "check_beat" s_Q02 ["length","beat"] 2 F_Q02 2
abbrev s_Q01:Stmt:=top 11
theorem sc_beat_counts:FnScope ["length","beat","starts","counts","start","place"] ["length","beat","starts"] (ai s_Q01):=by constructor<;>first|rfl|decide +kernel
theorem ok_Q01 {f:Addr}{fd:FuncData}(d:Df K mg "beat_counts" s_Q01 ["length","beat","starts"] f fd)(q_check_beat:cX P w K mg base ad):
  FnOk P w K mg base (CXe P w) 3 f fd ["length","beat","starts"] (spD K (aJ ad) F_Q01 3):=by
 have nd:=sc_beat_counts.nd;refine Df.is cxe_ok ["length","beat","starts","counts","start","place"] 2 b_Q01 d sc_beat_counts rfl rfl rfl λ cdv A outer s H E hr=>?_
 exact(ah (bh (ay q_check_beat.d q_check_beat.o hr (by decide) rfl (ae (aa 0) (ae (aa 1) ag)))) (ah (bh (ay q_check_beat.d q_check_beat.o hr (by decide) rfl (ae (aa 0) (ae (aa 2) ag)))) (ah (aL (i:=3) (aO (be (ae af ag)) (aa 0)) nd rfl (Or.inl rfl)) (ah (c9 [2] (i:=4) (bc (aa 2)) (ao (c9 [1] (i:=5) (bc (aa 1)) (ao (rm (i:=3) af (az (aK (aa 5) (aa 4)) (aa 0)))) nd rfl (Or.inl rfl))) nd rfl (Or.inl rfl)) (ao (dW 3))))))
abbrev d7:=Fu "beat_counts" s_Q01 ["length","beat","starts"] 3 F_Q01 3
abbrev s_Q09:Stmt:=top 12
theorem sc_is_partner:FnScope ["length","beat","starts"] ["length","beat","starts"] (ai s_Q09):=by constructor<;>first|rfl|decide +kernel
theorem ok_Q09 {f:Addr}{fd:FuncData}(d:Df K mg "is_partner" s_Q09 ["length","beat","starts"] f fd)(q_beat_counts:d7 P w K mg base ad):
  FnOk P w K mg base (CXe P w) 4 f fd ["length","beat","starts"] (spD K (aJ ad) F_Q09 3):=by
 have nd:=sc_is_partner.nd;refine Df.is cxe_ok ["length","beat","starts"] 3 b_Q09 d sc_is_partner rfl rfl rfl λ cdv A outer s H E hr=>?_
 exact(ao (aH (mJ (ay q_beat_counts.d q_beat_counts.o hr (by decide) rfl (ae (aa 0) (ae (aa 1) (ae (aa 2) ag)))) (aO (be (ae af ag)) (aa 0)))))
abbrev fq:=Fu "is_partner" s_Q09 ["length","beat","starts"] 4 F_Q09 3
abbrev s_Q08:Stmt:=top 15
theorem sc_divisors:FnScope ["number"] ["number"] (ai s_Q08):=by constructor<;>first|rfl|decide +kernel
theorem ok_Q08 {f:Addr}{fd:FuncData}(d:Df K mg "divisors" s_Q08 ["number"] f fd)(xa:XAll K mg ad){C_2:Addr}(h_NoPart:ad "NoPart"=some C_2)(z_range:mg "range"=none){t_LAST_PART:Tok}(n_LAST_PART:mg "LAST_PART"=some (.int 60 t_LAST_PART)):
  FnOk P w K mg base (CXe P w) 1 f fd ["number"] (spD K (aJ ad) F_Q08 1):=by
 have nd:=sc_divisors.nd;refine Df.is cxe_ok ["number"] 0 b_Q08 d sc_divisors rfl rfl rfl λ cdv A outer s H E hr=>?_
 exact(ah (bj (fm (bV (ng (aa 0) af) (bJ _ (uF (aa 0) (qr rfl n_LAST_PART))))) (b9 (xa.cl _ _ h_NoPart).1 (cn h_NoPart) rfl) aQ) (ao (aH (bS (fs:=["number"]) (is:=[0]) (fe:=(Dv.eVar 0)) (fc:=(Dv.eCm .eq (Dv.eOp .mod (Dv.eVar 1) (Dv.eVar 0)) (Dv.eInt 0))) (aG (fsc:=ai s_Q08) (N:=["number"]) rfl rfl (by decide +kernel)) (iN rfl z_range af (aK (aa 0) af)) (λ cl L s₀ H₀ ex=>(aa 0)) (λ cl L s₀ H₀ ex=>(gZ (fA (az (aa 1) (aa 0)) af)))))))
abbrev gG:=Fu "divisors" s_Q08 ["number"] 1 F_Q08 1
abbrev s_Q05:Stmt:=top 17
theorem sc_check_sides:FnScope ["sides"] ["sides"] (ai s_Q05):=by constructor<;>first|rfl|decide +kernel
theorem ok_Q05 {f:Addr}{fd:FuncData}(d:Df K mg "check_sides" s_Q05 ["sides"] f fd)(q_check_wheel:cI P w K mg base ad)(xa:XAll K mg ad){C_3:Addr}(h_NoWheel:ad "NoWheel"=some C_3)(z_len:mg "len"=none)(z_min:mg "min"=none):
  FnOk P w K mg base (CXe P w) 2 f fd ["sides"] (spD K (aJ ad) F_Q05 1):=by
 have nd:=sc_check_sides.nd;refine Df.is cxe_ok ["sides"] 1 b_Q05 d sc_check_sides rfl rfl rfl λ cdv A outer s H E hr=>?_
 exact(ah (bj (fm (bV (dh (cb z_len rfl (aa 0)) af) (bJ _ (ng (sN z_min rfl (aa 0)) af)))) (b9 (xa.cl _ _ h_NoWheel).1 (cn h_NoWheel) rfl) aQ) (ao (bh (ay q_check_wheel.d q_check_wheel.o hr (by decide) rfl (ae (aO (av (aa 0) af) (av (aa 0) af)) ag)))))
abbrev cH:=Fu "check_sides" s_Q05 ["sides"] 2 F_Q05 1
abbrev s_Q00:Stmt:=top 18
theorem sc_all_spots:FnScope ["sides","spots","across"] ["sides"] (ai s_Q00):=by constructor<;>first|rfl|decide +kernel
theorem ok_Q00 {f:Addr}{fd:FuncData}(d:Df K mg "all_spots" s_Q00 ["sides"] f fd)(z_range:mg "range"=none):
  FnOk P w K mg base (CXe P w) 1 f fd ["sides"] (spD K (aJ ad) F_Q00 1):=by
 have nd:=sc_all_spots.nd;refine Df.is cxe_ok ["sides","spots","across"] 0 b_Q00 d sc_all_spots rfl rfl rfl λ cdv A outer s H E hr=>?_
 exact(ah (aL (i:=1) (be ag) nd rfl (Or.inl rfl)) (ah (c9 [0] (i:=2) (cN rfl z_range (av (aa 0) af)) (ao (mL (i:=1) (bS (fs:=["across"]) (is:=[2]) (fe:=(Dv.eTup (Dv.lCons (Dv.eVar 1) (Dv.lCons (Dv.eVar 0) Dv.lNil)))) (fc:=(Dv.eBl true)) (aG (fsc:=ai s_Q00) (N:=["sides","spots","across"]) rfl rfl (by decide +kernel)) (cN rfl z_range (av (aa 0) af)) (λ cl L s₀ H₀ ex=>(aD (ae (aa 1) (ae (aa 0) ag)))) (λ cl L s₀ H₀ ex=>eE)))) nd rfl (Or.inr rfl)) (ao (dW 1))))
abbrev dE:=Fu "all_spots" s_Q00 ["sides"] 1 F_Q00 1
abbrev s_Q06:Stmt:=top 19
theorem sc_check_torus_beat:FnScope ["sides","beat"] ["sides","beat"] (ai s_Q06):=by constructor<;>first|rfl|decide +kernel
theorem ok_Q06 {f:Addr}{fd:FuncData}(d:Df K mg "check_torus_beat" s_Q06 ["sides","beat"] f fd)(q_check_sides:cH P w K mg base ad)(q_all_spots:dE P w K mg base ad)(xa:XAll K mg ad){C_0:Addr}(h_NoBeat:ad "NoBeat"=some C_0)(z_len:mg "len"=none):
  FnOk P w K mg base (CXe P w) 3 f fd ["sides","beat"] (spD K (aJ ad) F_Q06 2):=by
 have nd:=sc_check_torus_beat.nd;refine Df.is cxe_ok ["sides","beat"] 2 b_Q06 d sc_check_torus_beat rfl rfl rfl λ cdv A outer s H E hr=>?_
 exact(ah (bh (ay q_check_sides.d q_check_sides.o hr (by decide) rfl (ae (aa 0) ag))) (ao (bj (fm (bV (fA (cb z_len rfl (aa 1)) af) (bJ _ (dh (aa 1) (bS (fs:=["beat"]) (is:=[1]) (fe:=(Dv.eVar 0)) (fc:=(Dv.eB2 (Dv.inG false) (Dv.eVar 0) (Dv.eVar 1))) (aG (fsc:=ai s_Q06) (N:=["sides","beat"]) rfl rfl (by decide +kernel)) (bc (ay q_all_spots.d q_all_spots.o hr (by decide) rfl (ae (aa 0) ag))) (λ cl L s₀ H₀ ex=>(aa 0)) (λ cl L s₀ H₀ ex=>(gZ (l9 (aa 0) (aa 1))))))))) (b9 (xa.cl _ _ h_NoBeat).1 (cn h_NoBeat) rfl) aQ)))
abbrev bB:=Fu "check_torus_beat" s_Q06 ["sides","beat"] 3 F_Q06 2
abbrev s_Q03:Stmt:=top 20
theorem sc_check_pair:FnScope ["sides"] ["sides"] (ai s_Q03):=by constructor<;>first|rfl|decide +kernel
theorem ok_Q03 {f:Addr}{fd:FuncData}(d:Df K mg "check_pair" s_Q03 ["sides"] f fd)(q_divisors:gG P w K mg base ad)(xa:XAll K mg ad){C_1:Addr}(h_NoPair:ad "NoPair"=some C_1)(z_any:mg "any"=none):
  FnOk P w K mg base (CXe P w) 2 f fd ["sides"] (spD K (aJ ad) F_Q03 1):=by
 have nd:=sc_check_pair.nd;refine Df.is cxe_ok ["sides"] 1 b_Q03 d sc_check_pair rfl rfl rfl λ cdv A outer s H E hr=>?_
 exact(ao (bj (bN (u6 z_any rfl (bS (fs:=["sides"]) (is:=[0]) (fe:=(Dv.eCm .eq (Dv.eOp .mod (Dv.eIx (Dv.eVar 1) (Dv.eInt 1)) (Dv.eVar 0)) (Dv.eInt 0))) (fc:=(Dv.eBl true)) (aG (fsc:=ai s_Q03) (N:=["sides"]) rfl rfl (by decide +kernel)) (bc (dq (ay q_divisors.d q_divisors.o hr (by decide) rfl (ae (av (aa 0) af) ag)) (dY af) gs)) (λ cl L s₀ H₀ ex=>(mJ (az (av (aa 1) af) (aa 0)) af)) (λ cl L s₀ H₀ ex=>eE)))) (b9 (xa.cl _ _ h_NoPair).1 (cn h_NoPair) rfl) aQ))
abbrev cT:=Fu "check_pair" s_Q03 ["sides"] 2 F_Q03 1
abbrev s_Q0Y:Stmt:=top 21
theorem sc_torus_partner:FnScope ["sides","beat","starts","falls","start"] ["sides","beat","starts"] (ai s_Q0Y):=by constructor<;>first|rfl|decide +kernel
theorem ok_Q0Y {f:Addr}{fd:FuncData}(d:Df K mg "torus_partner" s_Q0Y ["sides","beat","starts"] f fd)(q_check_torus_beat:bB P w K mg base ad)(q_all_spots:dE P w K mg base ad)(z_sorted:mg "sorted"=none):
  FnOk P w K mg base (CXe P w) 4 f fd ["sides","beat","starts"] (spD K (aJ ad) F_Q0Y 3):=by
 have nd:=sc_torus_partner.nd;refine Df.is cxe_ok ["sides","beat","starts","falls","start"] 3 b_Q0Y d sc_torus_partner rfl rfl rfl λ cdv A outer s H E hr=>?_
 exact(ah (bh (ay q_check_torus_beat.d q_check_torus_beat.o hr (by decide) rfl (ae (aa 0) (ae (aa 1) ag)))) (ah (bh (ay q_check_torus_beat.d q_check_torus_beat.o hr (by decide) rfl (ae (aa 0) (ae (aa 2) ag)))) (ah (aL (i:=3) (be ag) nd rfl (Or.inl rfl)) (ah (c9 [2] (i:=4) (bc (aa 2)) (ao (mL (i:=3) (bS (fs:=["sides","start"]) (is:=[0,4]) (fe:=(Dv.eTup (Dv.lCons (Dv.eOp .mod (Dv.eOp .add (Dv.eIx (Dv.eVar 0) (Dv.eInt 0)) (Dv.eIx (Dv.eVar 2) (Dv.eInt 0))) (Dv.eIx (Dv.eVar 1) (Dv.eInt 0))) (Dv.lCons (Dv.eOp .mod (Dv.eOp .add (Dv.eIx (Dv.eVar 0) (Dv.eInt 1)) (Dv.eIx (Dv.eVar 2) (Dv.eInt 1))) (Dv.eIx (Dv.eVar 1) (Dv.eInt 1))) Dv.lNil)))) (fc:=(Dv.eBl true)) (aG (fsc:=ai s_Q0Y) (N:=["sides","beat","starts","falls","start"]) rfl rfl (by decide +kernel)) (bc (aa 1)) (λ cl L s₀ H₀ ex=>(aD (ae (az (aK (av (aa 0) af) (av (aa 2) af)) (av (aa 1) af)) (ae (az (aK (av (aa 0) af) (av (aa 2) af)) (av (aa 1) af)) ag)))) (λ cl L s₀ H₀ ex=>eE)))) nd rfl (Or.inr rfl)) (ao (aH (mJ (cR z_sorted rfl (aa 3)) (ay q_all_spots.d q_all_spots.o hr (by decide) rfl (ae (aa 0) ag)))))))))
abbrev dg:=Fu "torus_partner" s_Q0Y ["sides","beat","starts"] 4 F_Q0Y 3
abbrev s_Q0X:Stmt:=top 22
theorem sc_spot_of:FnScope ["sides","place"] ["sides","place"] (ai s_Q0X):=by constructor<;>first|rfl|decide +kernel
theorem ok_Q0X {f:Addr}{fd:FuncData}(d:Df K mg "spot_of" s_Q0X ["sides","place"] f fd):
  FnOk P w K mg base (CXe P w) 1 f fd ["sides","place"] (spD K (aJ ad) F_Q0X 2):=by
 have nd:=sc_spot_of.nd;refine Df.is cxe_ok ["sides","place"] 0 b_Q0X d sc_spot_of rfl rfl rfl λ cdv A outer s H E hr=>?_
 exact(ao (aH (aD (ae (az (aa 1) (av (aa 0) af)) (ae (az (aa 1) (av (aa 0) af)) ag)))))
abbrev fF:=Fu "spot_of" s_Q0X ["sides","place"] 1 F_Q0X 2
abbrev s_Q0A:Stmt:=top 23
theorem sc_laid_flat:FnScope ["sides","beat"] ["sides","beat"] (ai s_Q0A):=by constructor<;>first|rfl|decide +kernel
theorem ok_Q0A {f:Addr}{fd:FuncData}(d:Df K mg "laid_flat" s_Q0A ["sides","beat"] f fd)(q_check_torus_beat:bB P w K mg base ad)(q_check_pair:cT P w K mg base ad)(q_spot_of:fF P w K mg base ad)(z_range:mg "range"=none):
  FnOk P w K mg base (CXe P w) 4 f fd ["sides","beat"] (spD K (aJ ad) F_Q0A 2):=by
 have nd:=sc_laid_flat.nd;refine Df.is cxe_ok ["sides","beat"] 3 b_Q0A d sc_laid_flat rfl rfl rfl λ cdv A outer s H E hr=>?_
 exact(ah (bh (ay q_check_torus_beat.d q_check_torus_beat.o hr (by decide) rfl (ae (aa 0) (ae (aa 1) ag)))) (ah (bh (ay q_check_pair.d q_check_pair.o hr (by decide) rfl (ae (aa 0) ag))) (ao (aH (bS (fs:=["beat","sides"]) (is:=[1,0]) (fe:=(Dv.eVar 0)) (fc:=(Dv.eB2 (Dv.inG false) (Dv.eCall F_Q0X (Dv.lCons (Dv.eVar 2) (Dv.lCons (Dv.eVar 0) Dv.lNil))) (Dv.eVar 1))) (aG (fsc:=ai s_Q0A) (N:=["sides","beat"]) rfl rfl (by decide +kernel)) (cN rfl z_range (aO (av (aa 0) af) (av (aa 0) af))) (λ cl L s₀ H₀ ex=>(aa 0)) (λ cl L s₀ H₀ ex=>(gZ (l9 (ay q_spot_of.d q_spot_of.o hr (by decide) rfl (ae (aa 2) (ae (aa 0) ag))) (aa 1)))))))))
abbrev dB:=Fu "laid_flat" s_Q0A ["sides","beat"] 4 F_Q0A 2
abbrev s_Q0B:Stmt:=top 24
theorem sc_laid_up:FnScope ["sides","beat"] ["sides","beat"] (ai s_Q0B):=by constructor<;>first|rfl|decide +kernel
theorem ok_Q0B {f:Addr}{fd:FuncData}(d:Df K mg "laid_up" s_Q0B ["sides","beat"] f fd)(q_check_sides:cH P w K mg base ad)(q_check_beat:cX P w K mg base ad)(q_check_pair:cT P w K mg base ad)(q_spot_of:fF P w K mg base ad)(z_sorted:mg "sorted"=none):
  FnOk P w K mg base (CXe P w) 3 f fd ["sides","beat"] (spD K (aJ ad) F_Q0B 2):=by
 have nd:=sc_laid_up.nd;refine Df.is cxe_ok ["sides","beat"] 2 b_Q0B d sc_laid_up rfl rfl rfl λ cdv A outer s H E hr=>?_
 exact(ah (bh (ay q_check_sides.d q_check_sides.o hr (by decide) rfl (ae (aa 0) ag))) (ah (bh (ay q_check_beat.d q_check_beat.o hr (by decide) rfl (ae (aO (av (aa 0) af) (av (aa 0) af)) (ae (aa 1) ag)))) (ah (bh (ay q_check_pair.d q_check_pair.o hr (by decide) rfl (ae (aa 0) ag))) (ao (aH (cR z_sorted rfl (bS (fs:=["sides"]) (is:=[0]) (fe:=(Dv.eCall F_Q0X (Dv.lCons (Dv.eVar 1) (Dv.lCons (Dv.eVar 0) Dv.lNil)))) (fc:=(Dv.eBl true)) (aG (fsc:=ai s_Q0B) (N:=["sides","beat"]) rfl rfl (by decide +kernel)) (bc (aa 1)) (λ cl L s₀ H₀ ex=>(ay q_spot_of.d q_spot_of.o hr (by decide) rfl (ae (aa 1) (ae (aa 0) ag)))) (λ cl L s₀ H₀ ex=>eE))))))))
abbrev iV:=Fu "laid_up" s_Q0B ["sides","beat"] 3 F_Q0B 2
abbrev s_Q0H:Stmt:=top 26
theorem sc_law_draws:FnScope ["_law_script","_law_many","_law_left","_law_found","_law_k","_law_at","_law_one","_law_other"] ["_law_script","_law_many"] (ai s_Q0H):=by constructor<;>first|rfl|decide +kernel
theorem ok_Q0H {f:Addr}{fd:FuncData}(d:Df K mg "_law_draws" s_Q0H ["_law_script","_law_many"] f fd)(z_int:mg "int"=none)(z_range:mg "range"=none)(z_len:mg "len"=none):
  FnOk P w K mg base (CXe P w) 1 f fd ["_law_script","_law_many"] (spD K (aJ ad) F_Q0H 2):=by
 have nd:=sc_law_draws.nd;refine Df.is cxe_ok ["_law_script","_law_many","_law_left","_law_found","_law_k","_law_at","_law_one","_law_other"] 0 b_Q0H d sc_law_draws rfl rfl rfl λ cdv A outer s H E hr=>?_
 exact(ah (aL (i:=2) (aK (dq (aa 0) gs (dY af)) (aO (be (ae af ag)) (tP z_int rfl (mJ (aa 0) (be ag))))) nd rfl (Or.inl rfl)) (ah (aL (i:=3) (be ag) nd rfl (Or.inl rfl)) (ah (c9 [] (i:=4) (cN rfl z_range (aa 1)) (ah (aL (i:=5) (az (aa 4) (cb z_len rfl (aa 2))) nd rfl (Or.inl rfl)) (ao (bj (fm (bV (uS (av (aa 2) (aa 5)) (ki af af)) (bJ _ (ng (av (aa 2) (aa 5)) (pF af (ki af af)))))) (ah (lJ (i:=3) (az (av (aa 2) (aa 5)) (ki af af))) (ao (vO (i:=2) (bT (av (aa 2) (aa 5)) (ki af af)) (aa 5)))) (ah (aL (i:=6) (az (aK (aK (aK (aO (av (aa 2) (aa 5)) af) (aO (aO (aa 4) (aa 4)) af)) (aO af (aa 4))) af) af) nd rfl (Or.inl rfl)) (ah (aL (i:=7) (az (aK (aO (aa 6) (aa 6)) (aO (aa 4) af)) af) nd rfl (Or.inl rfl)) (ao (lJ (i:=3) (aK (aO (az (aO (aa 6) (aa 7)) af) af) (aa 7))))))))) nd rfl (Or.inl rfl)) (ao (dW 3)))))
abbrev fZ:=Fu "_law_draws" s_Q0H ["_law_script","_law_many"] 1 F_Q0H 2
abbrev s_Q0E:Stmt:=top 27
theorem sc_law_cell:FnScope ["_law_draws_here","_law_k"] ["_law_draws_here","_law_k"] (ai s_Q0E):=by constructor<;>first|rfl|decide +kernel
theorem ok_Q0E {f:Addr}{fd:FuncData}(d:Df K mg "_law_cell" s_Q0E ["_law_draws_here","_law_k"] f fd):
  FnOk P w K mg base (CXe P w) 1 f fd ["_law_draws_here","_law_k"] (spD K (aJ ad) F_Q0F 2):=by
 have nd:=sc_law_cell.nd;refine Df.is cxe_ok ["_law_draws_here","_law_k"] 0 b_Q0F d sc_law_cell rfl rfl rfl λ cdv A outer s H E hr=>?_
 exact(ao (aH (av (aa 0) (aa 1))))
abbrev il:=Fu "_law_cell" s_Q0E ["_law_draws_here","_law_k"] 1 F_Q0F 2
abbrev s_Q0W:Stmt:=top 28
theorem sc_law_whole:FnScope ["_law_found"] ["_law_found"] (ai s_Q0W):=by constructor<;>first|rfl|decide +kernel
theorem ok_Q0W {f:Addr}{fd:FuncData}(d:Df K mg "_law_whole" s_Q0W ["_law_found"] f fd)(z_isinstance:mg "isinstance"=none)(z_int:mg "int"=none)(z_bool:mg "bool"=none):
  FnOk P w K mg base (CXe P w) 1 f fd ["_law_found"] (spD K (aJ ad) F_Q0W 1):=by
 have nd:=sc_law_whole.nd;refine Df.is cxe_ok ["_law_found"] 0 b_Q0W d sc_law_whole rfl rfl rfl λ cdv A outer s H E hr=>?_
 exact(ao (aH (l4 (p5 z_isinstance z_int rfl rfl (aa 0)) (md (vY (fO z_isinstance z_bool rfl rfl (aa 0)))))))
abbrev dv:=Fu "_law_whole" s_Q0W ["_law_found"] 1 F_Q0W 1
abbrev s_Q0P:Stmt:=top 29
theorem sc_law_side_pair:FnScope ["_law_side","_law_number","_law_some","_law_step","_law_one","_law_other"] ["_law_side","_law_number"] (ai s_Q0P):=by constructor<;>first|rfl|decide +kernel
theorem ok_Q0P {f:Addr}{fd:FuncData}(d:Df K mg "_law_side_pair" s_Q0P ["_law_side","_law_number"] f fd)(z_range:mg "range"=none)(z_len:mg "len"=none)(z_list:mg "list"=none):
  FnOk P w K mg base (CXe P w) 1 f fd ["_law_side","_law_number"] (spD K (aJ ad) F_Q0P 2):=by
 have nd:=sc_law_side_pair.nd;refine Df.is cxe_ok ["_law_side","_law_number","_law_some","_law_step","_law_one","_law_other"] 0 b_Q0P d sc_law_side_pair rfl rfl rfl λ cdv A outer s H E hr=>?_
 exact(ah (gY (i:=2) (fs:=["_law_side"]) (is:=[0]) (fe:=(Dv.eVar 0)) (fc:=(Dv.eCm .eq (Dv.eOp .mod (Dv.eVar 1) (Dv.eVar 0)) (Dv.eInt 0))) (aG (fsc:=ai s_Q0P) (N:=["_law_side","_law_number","_law_some","_law_step","_law_one","_law_other"]) rfl rfl (by decide +kernel)) (iN rfl z_range af (aK (aa 0) af)) (λ cl L s₀ H₀ ex=>(aa 0)) (λ cl L s₀ H₀ ex=>(gZ (fA (az (aa 1) (aa 0)) af))) nd rfl rfl) (ah (aL (i:=3) (av (aa 2) (az (aa 1) (cb z_len rfl (aa 2)))) nd rfl (Or.inl rfl)) (ah (aR [3] (i:=4) (jI z_list rfl z_range rfl (aa 3)) nd rfl (Or.inl rfl)) (ah (aR [0,3] (i:=5) (iB z_list rfl z_range rfl af (aa 0) (aa 3)) nd rfl (Or.inl rfl)) (ah (bj (fA (az (bT (aa 1) af) af) af) (ao (sC [4,5] (i:=4) (j:=5) (aa 5) (aa 4) nd rfl rfl (by decide) rfl rfl)) aQ) (ao (aH (be (ae (aa 4) (ae (aa 5) ag))))))))))
abbrev di:=Fu "_law_side_pair" s_Q0P ["_law_side","_law_number"] 1 F_Q0P 2
abbrev s_Q0K:Stmt:=top 30
theorem sc_law_gcd:FnScope ["_law_one","_law_other"] ["_law_one","_law_other"] (ai s_Q0K):=by constructor<;>first|rfl|decide +kernel
theorem ok_Q0K {f:Addr}{fd:FuncData}(d:Df K mg "_law_gcd" s_Q0K ["_law_one","_law_other"] f fd):
  FnOk P w K mg base (CXe P w) 1 f fd ["_law_one","_law_other"] (spD K (aJ ad) F_Q0K 2):=by
 have nd:=sc_law_gcd.nd;refine Df.is cxe_ok ["_law_one","_law_other"] 0 b_Q0K d sc_law_gcd rfl rfl rfl λ cdv A outer s H E hr=>?_
 exact(ah (qD 100000 (dh (aa 1) af) (ao (sC [0,1] (i:=0) (j:=1) (aa 1) (az (aa 0) (aa 1)) nd rfl rfl (by decide) rfl rfl))) (ao (dW 0)))
abbrev iX:=Fu "_law_gcd" s_Q0K ["_law_one","_law_other"] 1 F_Q0K 2
abbrev s_Q0M:Stmt:=top 31
theorem sc_law_moved:FnScope ["_law_sides_here","_law_beat","_law_right","_law_up","_law_lean","_law_found","_law_x","_law_y"] ["_law_sides_here","_law_beat","_law_right","_law_up","_law_lean"] (ai s_Q0M):=by constructor<;>first|rfl|decide +kernel
theorem ok_Q0M {f:Addr}{fd:FuncData}(d:Df K mg "_law_moved" s_Q0M ["_law_sides_here","_law_beat","_law_right","_law_up","_law_lean"] f fd)(z_sorted:mg "sorted"=none):
  FnOk P w K mg base (CXe P w) 1 f fd ["_law_sides_here","_law_beat","_law_right","_law_up","_law_lean"] (spD K (aJ ad) F_Q0N 5):=by
 have nd:=sc_law_moved.nd;refine Df.is cxe_ok ["_law_sides_here","_law_beat","_law_right","_law_up","_law_lean","_law_found","_law_x","_law_y"] 0 b_Q0N d sc_law_moved rfl rfl rfl λ cdv A outer s H E hr=>?_
 exact(ah (aL (i:=5) (be ag) nd rfl (Or.inl rfl)) (ah (gy [1] (bc (aa 1)) (lD (xs:=[6,7]) (cA (i:=6) (cA (i:=7) j8 nd rfl (Or.inl rfl)) nd rfl (Or.inl rfl)) rfl) (ao (j9 (i:=5) (aD (ae (az (aK (aa 6) (aa 2)) (av (aa 0) af)) (ae (az (aK (aK (aa 7) (aa 3)) (aO (aa 4) (aa 6))) (av (aa 0) af)) ag)))))) (ao (aH (cR z_sorted rfl (aa 5))))))
abbrev dI:=Fu "_law_moved" s_Q0M ["_law_sides_here","_law_beat","_law_right","_law_up","_law_lean"] 1 F_Q0N 5
abbrev s_Q0V:Stmt:=top 32
theorem sc_law_torus_pair:FnScope ["_law_script","_law_start","_law_sides_here","_law_across","_law_along","_law_lean","_law_found","_law_k","_law_number","_law_beat","_law_x"] ["_law_script","_law_start","_law_sides_here"] (ai s_Q0V):=by constructor<;>first|rfl|decide +kernel
theorem ok_Q0V {f:Addr}{fd:FuncData}(d:Df K mg "_law_torus_pair" s_Q0V ["_law_script","_law_start","_law_sides_here"] f fd)(q_law_side_pair:di P w K mg base ad)(q_law_cell:il P w K mg base ad)(q_law_gcd:iX P w K mg base ad)(q_law_moved:dI P w K mg base ad)(z_range:mg "range"=none):
  FnOk P w K mg base (CXe P w) 2 f fd ["_law_script","_law_start","_law_sides_here"] (spD K (aJ ad) F_Q0V 3):=by
 have nd:=sc_law_torus_pair.nd;refine Df.is cxe_ok ["_law_script","_law_start","_law_sides_here","_law_across","_law_along","_law_lean","_law_found","_law_k","_law_number","_law_beat","_law_x"] 1 b_Q0V d sc_law_torus_pair rfl rfl rfl λ cdv A outer s H E hr=>?_
 exact(ah (aR [0,1,2] (i:=3) (ay q_law_side_pair.d q_law_side_pair.o hr (by decide) rfl (ae (av (aa 2) af) (ae (az (ay q_law_cell.d q_law_cell.o hr (by decide) rfl (ae (aa 0) (ae (aa 1) ag))) af) ag))) nd rfl (Or.inl rfl)) (ah (aR [0,1,2] (i:=4) (ay q_law_side_pair.d q_law_side_pair.o hr (by decide) rfl (ae (av (aa 2) af) (ae (az (bT (ay q_law_cell.d q_law_cell.o hr (by decide) rfl (ae (aa 0) (ae (aa 1) ag))) af) af) ag))) nd rfl (Or.inl rfl)) (ah (aL (i:=5) (aO (bT (av (aa 2) af) (ay q_law_gcd.d q_law_gcd.o hr (by decide) rfl (ae (av (aa 2) af) (ae (av (aa 2) af) ag)))) (az (ay q_law_cell.d q_law_cell.o hr (by decide) rfl (ae (aa 0) (ae (aK (aa 1) af) ag))) af)) nd rfl (Or.inl rfl)) (ah (aL (i:=6) (be ag) nd rfl (Or.inl rfl)) (ah (c9 [] (i:=7) (cN rfl z_range af) (ah (aL (i:=8) (az (aO (ay q_law_cell.d q_law_cell.o hr (by decide) rfl (ae (aa 0) (ae (aK (aK (aa 1) af) (aa 7)) ag))) af) af) nd rfl (Or.inl rfl)) (ah (aR [] (i:=9) (be ag) nd rfl (Or.inl rfl)) (ah (c9 [3,7] (i:=10) (bc (av (aa 3) (aa 7))) (ao (aR [4,7,9,10] (i:=9) (aK (aa 9) (bS (fs:=["_law_x"]) (is:=[10]) (fe:=(Dv.eTup (Dv.lCons (Dv.eVar 1) (Dv.lCons (Dv.eVar 0) Dv.lNil)))) (fc:=(Dv.eBl true)) (aG (fsc:=ai s_Q0V) (N:=["_law_script","_law_start","_law_sides_here","_law_across","_law_along","_law_lean","_law_found","_law_k","_law_number","_law_beat","_law_x"]) rfl rfl (by decide +kernel)) (bc (av (aa 4) (aa 7))) (λ cl L s₀ H₀ ex=>(aD (ae (aa 1) (ae (aa 0) ag)))) (λ cl L s₀ H₀ ex=>eE))) nd rfl (Or.inl rfl))) nd rfl (Or.inr rfl)) (ao (ux [2,5,8,9] (i:=6) (ay q_law_moved.d q_law_moved.o hr (by decide) rfl (ae (aa 2) (ae (aa 9) (ae (az (aa 8) af) (ae (az (bT (aa 8) af) af) (ae (aa 5) ag))))))))))) nd rfl (Or.inl rfl)) (ao (dW 6)))))))
abbrev cQ:=Fu "_law_torus_pair" s_Q0V ["_law_script","_law_start","_law_sides_here"] 2 F_Q0V 3
abbrev s_Q0R:Stmt:=top 33
theorem sc_law_spoiled:FnScope ["_law_sides_here","_law_beat","_law_number","_law_at","_law_rest","_law_spot"] ["_law_sides_here","_law_beat","_law_number"] (ai s_Q0R):=by constructor<;>first|rfl|decide +kernel
theorem ok_Q0R {f:Addr}{fd:FuncData}(d:Df K mg "_law_spoiled" s_Q0R ["_law_sides_here","_law_beat","_law_number"] f fd)(z_len:mg "len"=none)(z_sorted:mg "sorted"=none):
  FnOk P w K mg base (CXe P w) 1 f fd ["_law_sides_here","_law_beat","_law_number"] (spD K (aJ ad) F_Q0S 3):=by
 have nd:=sc_law_spoiled.nd;refine Df.is cxe_ok ["_law_sides_here","_law_beat","_law_number","_law_at","_law_rest","_law_spot"] 0 b_Q0S d sc_law_spoiled rfl rfl rfl λ cdv A outer s H E hr=>?_
 exact(ah (aL (i:=3) (az (aa 2) (cb z_len rfl (aa 1))) nd rfl (Or.inl rfl)) (ah (aR [1,3] (i:=4) (aK (dq (aa 1) gs (dY (aa 3))) (dq (aa 1) (dY (aK (aa 3) af)) gs)) nd rfl (Or.inl rfl)) (ah (aR [0,2] (i:=5) (aD (ae (az (bT (aa 2) af) (av (aa 0) af)) (ae (az (bT (aa 2) af) (av (aa 0) af)) ag))) nd rfl (Or.inl rfl)) (ah (bj (l9 (aa 5) (aa 4)) (ao (dW 1)) aQ) (ao (aH (cR z_sorted rfl (aK (aa 4) (be (ae (aa 5) ag))))))))))
abbrev d8:=Fu "_law_spoiled" s_Q0R ["_law_sides_here","_law_beat","_law_number"] 1 F_Q0S 3
abbrev s_Q0I:Stmt:=top 34
theorem sc_law_fills:FnScope ["_law_sides_here","_law_beat","_law_starts","_law_met","_law_right","_law_up","_law_x","_law_y","_law_spot"] ["_law_sides_here","_law_beat","_law_starts"] (ai s_Q0I):=by constructor<;>first|rfl|decide +kernel
theorem ok_Q0I {f:Addr}{fd:FuncData}(d:Df K mg "_law_fills" s_Q0I ["_law_sides_here","_law_beat","_law_starts"] f fd)(z_len:mg "len"=none)(z_max:mg "max"=none)(z_list:mg "list"=none):
  FnOk P w K mg base (CXe P w) 1 f fd ["_law_sides_here","_law_beat","_law_starts"] (spD K (aJ ad) F_Q0J 3):=by
 have nd:=sc_law_fills.nd;refine Df.is cxe_ok ["_law_sides_here","_law_beat","_law_starts","_law_met","_law_right","_law_up","_law_x","_law_y","_law_spot"] 0 b_Q0J d sc_law_fills rfl rfl rfl λ cdv A outer s H E hr=>?_
 exact qv (C:=iw (cxe_ok (P:=P) (w:=w)) (aJ ad) K mg base ["_law_sides_here","_law_beat","_law_starts","_law_met","_law_right","_law_up","_law_x","_law_y","_law_spot"] "_law_fills" (ai s_Q0I) f cdv A outer s H E hr) (aD (ae (az (aK (aa 6) (aa 4)) (av (aa 0) af)) (ae (az (aK (aa 7) (aa 5)) (av (aa 0) af)) ag))) λ tq pq qq=>qv (C:=iw (cxe_ok (P:=P) (w:=w)) (aJ ad) K mg base ["_law_sides_here","_law_beat","_law_starts","_law_met","_law_right","_law_up","_law_x","_law_y","_law_spot"] "_law_fills" (ai s_Q0I) f cdv A outer s H E hr) (aO (av (aa 0) af) (av (aa 0) af)) λ tp pp qp=>⟨_,eW (gW (i:=3) nd rfl (Or.inl rfl) pO) (eW (lM Em rfl (jy (pv 2)) (lS rfl (dm (c7 (i:=4) nd rfl (Or.inl rfl)) (dm (c7 (i:=5) nd rfl (Or.inl rfl)) jT))) (ff (lM Em rfl (jy (pv 1)) (lS rfl (dm (c7 (i:=6) nd rfl (Or.inl rfl)) (dm (c7 (i:=7) nd rfl (Or.inl rfl)) jT))) (eW (gW (i:=8) nd rfl (Or.inl rfl) pq) (ff (ud (AI (Bs (by decide) _) hr.units) (pv 3) (pv 8) (uQ r8 (rO (AI (Bs (by decide) _) hr.units) (pv 3) (pv 8) jH ⟨rfl,rfl,rfl,rfl⟩) jH) rfl)))))) (ff (mB (sx (ka uL (eM pf rfl z_len FF (aN (pv 3) bC)) pp (nomark _)) (sG (ka uL (eM (oK rfl) rfl z_max (by decide +kernel) (aN (kE rfl z_list rfl (pv 3) rfl rfl rfl) bC)) jH (nomark _))))))),mq qq qp⟩
abbrev fX:=Fu "_law_fills" s_Q0I ["_law_sides_here","_law_beat","_law_starts"] 1 F_Q0J 3
abbrev s_Q0Q:Stmt:=top 35
theorem sc_law_sides:FnScope ["_law_cell_here","_law_some"] ["_law_cell_here"] (ai s_Q0Q):=by constructor<;>first|rfl|decide +kernel
theorem ok_Q0Q {f:Addr}{fd:FuncData}(d:Df K mg "_law_sides" s_Q0Q ["_law_cell_here"] f fd):
  FnOk P w K mg base (CXe P w) 1 f fd ["_law_cell_here"] (spD K (aJ ad) F_Q0Q 1):=by
 have nd:=sc_law_sides.nd;refine Df.is cxe_ok ["_law_cell_here","_law_some"] 0 b_Q0Q d sc_law_sides rfl rfl rfl λ cdv A outer s H E hr=>?_
 exact(ah (aR [] (i:=1) (be (ae (aD (ae af (ae af ag))) (ae (aD (ae af (ae af ag))) (ae (aD (ae af (ae af ag))) (ae (aD (ae af (ae af ag))) (ae (aD (ae af (ae af ag))) (ae (aD (ae af (ae af ag))) (ae (aD (ae af (ae af ag))) (ae (aD (ae af (ae af ag))) (ae (aD (ae af (ae af ag))) (ae (aD (ae af (ae af ag))) (ae (aD (ae af (ae af ag))) (ae (aD (ae af (ae af ag))) (ae (aD (ae af (ae af ag))) ag)))))))))))))) nd rfl (Or.inl rfl)) (ao (aH (av (aK (aa 1) (be (ae (aD (ae af (ae af ag))) (ae (aD (ae af (ae af ag))) (ae (aD (ae af (ae af ag))) (ae (aD (ae af (ae af ag))) (ae (aD (ae af (ae af ag))) (ae (aD (ae af (ae af ag))) (ae (aD (ae af (ae af ag))) (ae (aD (ae af (ae af ag))) ag)))))))))) (az (aa 0) af)))))
abbrev fY:=Fu "_law_sides" s_Q0Q ["_law_cell_here"] 1 F_Q0Q 1
abbrev s_Q0O:Stmt:=top 36
theorem sc_law_place:FnScope ["_law_sides_here","_law_spot","_law_some"] ["_law_sides_here","_law_spot"] (ai s_Q0O):=by constructor<;>first|rfl|decide +kernel
theorem ok_Q0O {f:Addr}{fd:FuncData}(d:Df K mg "_law_place" s_Q0O ["_law_sides_here","_law_spot"] f fd)(z_range:mg "range"=none):
  FnOk P w K mg base (CXe P w) 1 f fd ["_law_sides_here","_law_spot"] (spD K (aJ ad) F_Q0O 2):=by
 have nd:=sc_law_place.nd;refine Df.is cxe_ok ["_law_sides_here","_law_spot","_law_some"] 0 b_Q0O d sc_law_place rfl rfl rfl λ cdv A outer s H E hr=>?_
 exact(ah (gY (i:=2) (fs:=["_law_spot","_law_sides_here"]) (is:=[1,0]) (fe:=(Dv.eVar 0)) (fc:=(Dv.eAnd (Dv.eCm .eq (Dv.eOp .mod (Dv.eVar 0) (Dv.eIx (Dv.eVar 2) (Dv.eInt 0))) (Dv.eIx (Dv.eVar 1) (Dv.eInt 0))) (Dv.eCm .eq (Dv.eOp .mod (Dv.eVar 0) (Dv.eIx (Dv.eVar 2) (Dv.eInt 1))) (Dv.eIx (Dv.eVar 1) (Dv.eInt 1))))) (aG (fsc:=ai s_Q0O) (N:=["_law_sides_here","_law_spot","_law_some"]) rfl rfl (by decide +kernel)) (cN rfl z_range (aO (av (aa 0) af) (av (aa 0) af))) (λ cl L s₀ H₀ ex=>(aa 0)) (λ cl L s₀ H₀ ex=>(gZ (fm (wx (fA (az (aa 0) (av (aa 2) af)) (av (aa 1) af)) (bJ _ (fA (az (aa 0) (av (aa 2) af)) (av (aa 1) af))))))) nd rfl rfl) (ao (aH (av (aa 2) af))))
abbrev fU:=Fu "_law_place" s_Q0O ["_law_sides_here","_law_spot"] 1 F_Q0O 2
abbrev s_Q0D:Stmt:=top 37
theorem sc_law_beat_is:FnScope ["_law_found","_law_due","_law_one","_law_other"] ["_law_found","_law_due"] (ai s_Q0D):=by constructor<;>first|rfl|decide +kernel
theorem ok_Q0D {f:Addr}{fd:FuncData}(d:Df K mg "_law_beat_is" s_Q0D ["_law_found","_law_due"] f fd)(q_law_whole:dv P w K mg base ad)(z_isinstance:mg "isinstance"=none)(z_list:mg "list"=none)(z_len:mg "len"=none)(z_zip:mg "zip"=none):
  FnOk P w K mg base (CXe P w) 2 f fd ["_law_found","_law_due"] (spD K (aJ ad) F_Q0D 2):=by
 have nd:=sc_law_beat_is.nd;refine Df.is cxe_ok ["_law_found","_law_due","_law_one","_law_other"] 1 b_Q0D d sc_law_beat_is rfl rfl rfl λ cdv A outer s H E hr=>?_
 exact(ah (bj (fm (bV (bX (bN (i9 z_isinstance z_list rfl rfl (aa 0)))) (bJ _ (dh (cb z_len rfl (aa 0)) (cb z_len rfl (aa 1)))))) (ao (aH de)) aQ) (ah (gy [0,1] (pD rfl z_zip (aa 0) (aa 1)) (lD (xs:=[2,3]) (cA (i:=2) (cA (i:=3) j8 nd rfl (Or.inl rfl)) nd rfl (Or.inl rfl)) rfl) (ao (bj (fm (bV (bX (bN (ay q_law_whole.d q_law_whole.o hr (by decide) rfl (ae (aa 2) ag)))) (bJ _ (dh (aa 2) (aa 3))))) (ao (aH de)) aQ))) (ao (aH de))))
abbrev d9:=Fu "_law_beat_is" s_Q0D ["_law_found","_law_due"] 2 F_Q0D 2
abbrev s_Q0T:Stmt:=top 38
theorem sc_law_spots_are:FnScope ["_law_found","_law_due","_law_one","_law_other"] ["_law_found","_law_due"] (ai s_Q0T):=by constructor<;>first|rfl|decide +kernel
theorem ok_Q0T {f:Addr}{fd:FuncData}(d:Df K mg "_law_spots_are" s_Q0T ["_law_found","_law_due"] f fd)(q_law_whole:dv P w K mg base ad)(z_isinstance:mg "isinstance"=none)(z_list:mg "list"=none)(z_len:mg "len"=none)(z_zip:mg "zip"=none)(z_tuple:mg "tuple"=none):
  FnOk P w K mg base (CXe P w) 2 f fd ["_law_found","_law_due"] (spD K (aJ ad) F_Q0T 2):=by
 have nd:=sc_law_spots_are.nd;refine Df.is cxe_ok ["_law_found","_law_due","_law_one","_law_other"] 1 b_Q0T d sc_law_spots_are rfl rfl rfl λ cdv A outer s H E hr=>?_
 exact(ah (bj (fm (bV (bX (bN (i9 z_isinstance z_list rfl rfl (aa 0)))) (bJ _ (dh (cb z_len rfl (aa 0)) (cb z_len rfl (aa 1)))))) (ao (aH de)) aQ) (ah (gy [0,1] (pD rfl z_zip (aa 0) (aa 1)) (lD (xs:=[2,3]) (cA (i:=2) (cA (i:=3) j8 nd rfl (Or.inl rfl)) nd rfl (Or.inl rfl)) rfl) (ah (bj (fm (bV (bX (bN (p8 z_isinstance z_tuple rfl rfl (aa 2)))) (bV (dh (cb z_len rfl (aa 2)) af) (bV (bX (bN (ay q_law_whole.d q_law_whole.o hr (by decide) rfl (ae (av (aa 2) af) ag)))) (bJ _ (bX (bN (ay q_law_whole.d q_law_whole.o hr (by decide) rfl (ae (av (aa 2) af) ag))))))))) (ao (aH de)) aQ) (ao (bj (dh (aa 2) (aa 3)) (ao (aH de)) aQ)))) (ao (aH de))))
abbrev df:=Fu "_law_spots_are" s_Q0T ["_law_found","_law_due"] 2 F_Q0T 2
abbrev s_Q0G:Stmt:=top 39
theorem sc_law_drawn:FnScope ["_law_cells","_law_sides_here","_law_found","_law_cell_here","_law_number"] ["_law_cells","_law_sides_here"] (ai s_Q0G):=by constructor<;>first|rfl|decide +kernel
theorem ok_Q0G {f:Addr}{fd:FuncData}(d:Df K mg "_law_drawn" s_Q0G ["_law_cells","_law_sides_here"] f fd)(z_sorted:mg "sorted"=none)(z_set:mg "set"=none):
  FnOk P w K mg base (CXe P w) 1 f fd ["_law_cells","_law_sides_here"] (spD K (aJ ad) F_Q0G 2):=by
 have nd:=sc_law_drawn.nd;refine Df.is cxe_ok ["_law_cells","_law_sides_here","_law_found","_law_cell_here","_law_number"] 0 b_Q0G d sc_law_drawn rfl rfl rfl λ cdv A outer s H E hr=>?_
 exact(ah (aL (i:=2) (be ag) nd rfl (Or.inl rfl)) (ah (c9 [0] (i:=3) (bc (aa 0)) (ah (aL (i:=4) (az (aO (aa 3) af) af) nd rfl (Or.inl rfl)) (ao (j9 (i:=2) (aD (ae (az (aa 4) (av (aa 1) af)) (ae (az (bT (aa 4) af) (av (aa 1) af)) ag)))))) nd rfl (Or.inl rfl)) (ah (bj (fA (aa 2) (be ag)) (ao (j9 (i:=2) (aD (ae (pF (av (aa 1) af) af) (ae af ag))))) aQ) (ao (aH (kL z_sorted rfl z_set rfl (aa 2)))))))
abbrev gc:=Fu "_law_drawn" s_Q0G ["_law_cells","_law_sides_here"] 1 F_Q0G 2
abbrev s_Q0U:Stmt:=top 40
theorem sc_law_there_and_back:FnScope ["_law_sides_here","_law_beat","_law_length","_law_due","_law_handed","_law_flat","_law_again","_law_on","_law_by"] ["_law_sides_here","_law_beat"] (ai s_Q0U):=by constructor<;>first|rfl|decide +kernel
theorem ok_Q0U {f:Addr}{fd:FuncData}(d:Df K mg "_law_there_and_back" s_Q0U ["_law_sides_here","_law_beat"] f fd)(q_law_place:fU P w K mg base ad)(q_laid_flat:dB P w K mg base ad)(q_law_beat_is:d9 P w K mg base ad)(q_laid_up:iV P w K mg base ad)(q_law_spots_are:df P w K mg base ad)(q_law_moved:dI P w K mg base ad)(z_sorted:mg "sorted"=none)(z_list:mg "list"=none):
  FnOk P w K mg base (CXe P w) 5 f fd ["_law_sides_here","_law_beat"] (spD K (aJ ad) F_Q0U 2):=by
 have nd:=sc_law_there_and_back.nd;refine Df.is cxe_ok ["_law_sides_here","_law_beat","_law_length","_law_due","_law_handed","_law_flat","_law_again","_law_on","_law_by"] 4 b_Q0U d sc_law_there_and_back rfl rfl rfl λ cdv A outer s H E hr=>?_
 exact(ah (aL (i:=2) (aO (av (aa 0) af) (av (aa 0) af)) nd rfl (Or.inr rfl)) (ah (aL (i:=3) (i8 z_sorted rfl (bS (fs:=["_law_sides_here"]) (is:=[0]) (fe:=(Dv.eCall F_Q0O (Dv.lCons (Dv.eVar 1) (Dv.lCons (Dv.eVar 0) Dv.lNil)))) (fc:=(Dv.eBl true)) (aG (fsc:=ai s_Q0U) (N:=["_law_sides_here","_law_beat","_law_length","_law_due","_law_handed","_law_flat","_law_again","_law_on","_law_by"]) rfl rfl (by decide +kernel)) (bc (aa 1)) (λ cl L s₀ H₀ ex=>(ay q_law_place.d q_law_place.o hr (by decide) rfl (ae (aa 1) (ae (aa 0) ag)))) (λ cl L s₀ H₀ ex=>eE))) nd rfl (Or.inl rfl)) (ah (aR [1] (i:=4) (tU z_list rfl (aa 1)) nd rfl (Or.inl rfl)) (ah (aL (i:=5) (ay q_laid_flat.d q_laid_flat.o hr (by decide) rfl (ae (aa 0) (ae (aa 4) ag))) nd rfl (Or.inl rfl)) (ah (bj (fm (bV (bX (bN (ay q_law_beat_is.d q_law_beat_is.o hr (by decide) rfl (ae (aa 5) (ae (aa 3) ag))))) (bJ _ (dh (aa 4) (aa 1))))) (ao (aH de)) aQ) (ah (sQ (i:=6) (ay q_laid_up.d q_laid_up.o hr (by decide) rfl (ae (aa 0) (ae (aa 5) ag))) nd rfl (Or.inl rfl)) (ah (bj (fm (bV (bX (bN (ay q_law_spots_are.d q_law_spots_are.o hr (by decide) rfl (ae (aa 6) (ae (aa 1) ag))))) (bJ _ (dh (aa 5) (aa 3))))) (ao (aH de)) aQ) (ah (p4 (i:=6)) (ah (aR [0,1] (i:=7) (ay q_law_moved.d q_law_moved.o hr (by decide) rfl (ae (aa 0) (ae (aa 1) (ae af (ae af (ae af ag)))))) nd rfl (Or.inl rfl)) (ah (aL (i:=8) (ay q_law_place.d q_law_place.o hr (by decide) rfl (ae (aa 0) (ae (aD (ae (az af (av (aa 0) af)) (ae (az af (av (aa 0) af)) ag))) ag))) nd rfl (Or.inr rfl)) (ah (bj (bX (bN (ay q_law_beat_is.d q_law_beat_is.o hr (by decide) rfl (ae (ay q_laid_flat.d q_laid_flat.o hr (by decide) rfl (ae (aa 0) (ae (aa 7) ag))) (ae (i8 z_sorted rfl (bS (fs:=["_law_length","_law_by"]) (is:=[2,8]) (fe:=(Dv.eOp .mod (Dv.eOp .add (Dv.eVar 0) (Dv.eVar 2)) (Dv.eVar 1))) (fc:=(Dv.eBl true)) (aG (fsc:=ai s_Q0U) (N:=["_law_sides_here","_law_beat","_law_length","_law_due","_law_handed","_law_flat","_law_again","_law_on","_law_by"]) rfl rfl (by decide +kernel)) (bc (aa 3)) (λ cl L s₀ H₀ ex=>(az (aK (aa 0) (aa 2)) (aa 1))) (λ cl L s₀ H₀ ex=>eE))) ag))))) (ao (aH de)) aQ) (ah (lJ (i:=5) (aa 2)) (ao (aH (l4 (ay q_law_beat_is.d q_law_beat_is.o hr (by decide) rfl (ae (ay q_laid_flat.d q_laid_flat.o hr (by decide) rfl (ae (aa 0) (ae (aa 1) ag))) (ae (aa 3) ag))) (md (ay q_law_spots_are.d q_law_spots_are.o hr (by decide) rfl (ae (ay q_laid_up.d q_laid_up.o hr (by decide) rfl (ae (aa 0) (ae (aa 3) ag))) (ae (aa 1) ag)))))))))))))))))))
abbrev bU:=Fu "_law_there_and_back" s_Q0U ["_law_sides_here","_law_beat"] 5 F_Q0U 2
abbrev s_Q0C:Stmt:=top 41
theorem sc_law:FnScope ["_law_script","_law_draws_here","_law_cell_here","_law_sides_here","_law_beat","_law_starts","_law_due","_law_flat","_law_here","_law_there"] ["_law_script"] (ai s_Q0C):=by constructor<;>first|rfl|decide +kernel
theorem ok_Q0C {f:Addr}{fd:FuncData}(d:Df K mg "law" s_Q0C ["_law_script"] f fd)(q_law_draws:fZ P w K mg base ad)(q_law_sides:fY P w K mg base ad)(q_law_there_and_back:bU P w K mg base ad)(q_law_drawn:gc P w K mg base ad)(q_law_torus_pair:cQ P w K mg base ad)(q_law_spoiled:d8 P w K mg base ad)(q_law_fills:fX P w K mg base ad)(q_laid_flat:dB P w K mg base ad)(q_torus_partner:dg P w K mg base ad)(q_is_partner:fq P w K mg base ad)(z_isinstance:mg "isinstance"=none)(z_bool:mg "bool"=none):
  FnOk P w K mg base (CXe P w) 6 f fd ["_law_script"] (spD K (aJ ad) F_Q0L 1):=by
 have nd:=sc_law.nd;refine Df.is cxe_ok ["_law_script","_law_draws_here","_law_cell_here","_law_sides_here","_law_beat","_law_starts","_law_due","_law_flat","_law_here","_law_there"] 5 b_Q0L d sc_law rfl rfl rfl λ cdv A outer s H E hr=>?_
 exact(ah (aR [0] (i:=1) (ay q_law_draws.d q_law_draws.o hr (by decide) rfl (ae (aa 0) (ae af ag))) nd rfl (Or.inl rfl)) (ah (aL (i:=2) (av (aa 1) af) nd rfl (Or.inl rfl)) (ah (aR [2] (i:=3) (ay q_law_sides.d q_law_sides.o hr (by decide) rfl (ae (aa 2) ag)) nd rfl (Or.inl rfl)) (ah (bj (bX (bN (ay q_law_there_and_back.d q_law_there_and_back.o hr (by decide) rfl (ae (aa 3) (ae (ay q_law_drawn.d q_law_drawn.o hr (by decide) rfl (ae (dq (aa 1) (dY af) (dY (aK af (az (bT (aa 2) af) af)))) (ae (aa 3) ag))) ag))))) (ao (aH de)) aQ) (ah (mD [1,3] (xs:=[4,5]) (ay q_law_torus_pair.d q_law_torus_pair.o hr (by decide) rfl (ae (aa 1) (ae af (ae (aa 3) ag)))) (cA (i:=4) (cA (i:=5) j8 nd rfl (Or.inl rfl)) nd rfl (Or.inl rfl)) rfl) (ah (bj (fA (az (bT (aa 2) af) af) af) (ao (aR [1,3,5] (i:=5) (ay q_law_spoiled.d q_law_spoiled.o hr (by decide) rfl (ae (aa 3) (ae (aa 5) (ae (az (aO (av (aa 1) af) af) af) ag)))) nd rfl (Or.inl rfl))) aQ) (ah (aL (i:=6) (ay q_law_fills.d q_law_fills.o hr (by decide) rfl (ae (aa 3) (ae (aa 4) (ae (aa 5) ag)))) nd rfl (Or.inl rfl)) (ah (aR [3,4,5] (i:=7) (be (ae (ay q_laid_flat.d q_laid_flat.o hr (by decide) rfl (ae (aa 3) (ae (aa 4) ag))) (ae (ay q_laid_flat.d q_laid_flat.o hr (by decide) rfl (ae (aa 3) (ae (aa 5) ag))) ag))) nd rfl (Or.inl rfl)) (ah (aL (i:=8) (ay q_torus_partner.d q_torus_partner.o hr (by decide) rfl (ae (aa 3) (ae (aa 4) (ae (aa 5) ag)))) nd rfl (Or.inl rfl)) (ah (aL (i:=9) (ay q_is_partner.d q_is_partner.o hr (by decide) rfl (ae (aO (av (aa 3) af) (av (aa 3) af)) (ae (av (aa 7) af) (ae (av (aa 7) af) ag)))) nd rfl (Or.inl rfl)) (ah (bj (fm (bV (bX (bN (fO z_isinstance z_bool rfl rfl (aa 8)))) (bV (bX (bN (fO z_isinstance z_bool rfl rfl (aa 9)))) (bV (dh (aa 8) (aa 6)) (bJ _ (dh (aa 9) (aa 6))))))) (ao (aH de)) aQ) (ao (aH (l4 (ay q_law_there_and_back.d q_law_there_and_back.o hr (by decide) rfl (ae (aa 3) (ae (aa 4) ag))) (md (ay q_law_there_and_back.d q_law_there_and_back.o hr (by decide) rfl (ae (aa 3) (ae (aa 5) ag))))))))))))))))))
end
theorem jf {P:List Value->Prop}(h:P []):∀ us:List Value,us.length=0->P us:=λ us hl=>(zC hl)▸h
theorem br {P:List Value->Prop}{k:Nat}(h:∀ a (us:List Value),us.length=k->P (a::us)):∀ us:List Value,us.length=k+1->P us:=by
 intro us hl;cases us with
 | nil=>exact absurd hl (Nat.succ_ne_zero k).symm
 | cons a r=>exact h a r (Nat.succ.inj hl)
theorem gb {P:List Value->Prop}(h:∀ a0,P [a0]):∀ us:List Value,us.length=1->P us:=br (P:=P) λ a0=>jf (P:=λ us=>P (a0:: us)) (h a0)
theorem cw {P:List Value->Prop}(h:∀ a0 a1,P [a0,a1]):∀ us:List Value,us.length=2->P us:=br (P:=P) λ a0=>br (P:=λ us=>P (a0:: us)) λ a1=>jf (P:=λ us=>P (a0::a1:: us)) (h a0 a1)
theorem iJ {P:List Value->Prop}(h:∀ a0 a1 a2,P [a0,a1,a2]):∀ us:List Value,us.length=3->P us:=br (P:=P) λ a0=>br (P:=λ us=>P (a0:: us)) λ a1=>br (P:=λ us=>P (a0::a1:: us)) λ a2=>jf (P:=λ us=>P (a0::a1::a2:: us)) (h a0 a1 a2)
theorem yy {P:List Value->Prop}(h:∀ a0 a1 a2 a3,P [a0,a1,a2,a3]):∀ us:List Value,us.length=4->P us:=br (P:=P) λ a0=>br (P:=λ us=>P (a0:: us)) λ a1=>br (P:=λ us=>P (a0::a1:: us)) λ a2=>br (P:=λ us=>P (a0::a1::a2:: us)) λ a3=>jf (P:=λ us=>P (a0::a1::a2::a3:: us)) (h a0 a1 a2 a3)
theorem xG {P:List Value->Prop}(h:∀ a0 a1 a2 a3 a4,P [a0,a1,a2,a3,a4]):∀ us:List Value,us.length=5->P us:=br (P:=P) λ a0=>br (P:=λ us=>P (a0:: us)) λ a1=>br (P:=λ us=>P (a0::a1:: us)) λ a2=>br (P:=λ us=>P (a0::a1::a2:: us)) λ a3=>br (P:=λ us=>P (a0::a1::a2::a3:: us)) λ a4=>jf (P:=λ us=>P (a0::a1::a2::a3::a4:: us)) (h a0 a1 a2 a3 a4)
theorem yz {P:List Value->Prop}(h:∀ a0 a1 a2 a3 a4 a5,P [a0,a1,a2,a3,a4,a5]):∀ us:List Value,us.length=6->P us:=br (P:=P) λ a0=>br (P:=λ us=>P (a0:: us)) λ a1=>br (P:=λ us=>P (a0::a1:: us)) λ a2=>br (P:=λ us=>P (a0::a1::a2:: us)) λ a3=>br (P:=λ us=>P (a0::a1::a2::a3:: us)) λ a4=>br (P:=λ us=>P (a0::a1::a2::a3::a4:: us)) λ a5=>jf (P:=λ us=>P (a0::a1::a2::a3::a4::a5:: us)) (h a0 a1 a2 a3 a4 a5)
abbrev adA (a0 a1 a2 a3 a4:Addr):=oD [("WheelError",a0),("NoWheel",a1),("NoBeat",a2),("NoPart",a3),("NoPair",a4)]
abbrev hA (K:Cd)(n:Str)(f:Addr):Prop:=Cq K mainGlobals n=some (some (.ref f))
abbrev hL (K:Cd)(n:Str)(s:Stmt)(f:Addr)(oc:Value)(od:Option Addr)(kV dc pm:Value)(an:Option Addr)(cd ct:Value)(sl:Array (Option Value)):Prop:=K.lookup f=some ⟨oc,od,.func (CK n n (bK s) (aZ s) (ai s) .none kV dc pm an cd ct),sl⟩
abbrev hC (K:Cd)(c:Value)(n:Str):Prop:=Dd K c n=true
abbrev hK (K:Cd)(f:Addr):Prop:=De K (.ref f)=true
abbrev hS (K:Cd)(a b:Addr)(v:Bool):Prop:=CJ K (.ref a) (.ref b)=some v
theorem all_mk {l:PySem.W.OpenLaw}{w:World}{K:Cd}{h:Heap}{mg:Str->Option Value}{fa:Addr}(X:K.In h)(G:h.Ns mainGlobals mg)(hfa:mg "law"=some (.ref fa))
    {f_Q0C:Addr} {od_Q0C an_Q0C:Option Addr} {sl_Q0C:Array (Option Value)} {oc_Q0C kV_Q0C dc_Q0C pm_Q0C cd_Q0C ct_Q0C:Value} {t_LONGEST:Tok} {t_LAST_PART:Tok} {C_4 C_3 C_0 C_2 C_1:Addr}
    (D_check_wheel:hD K "check_wheel" s_Q07) (D_check_rising:hD K "check_rising" s_Q04) (D_check_beat:hD K "check_beat" s_Q02) (D_beat_counts:hD K "beat_counts" s_Q01) (D_is_partner:hD K "is_partner" s_Q09) (D_divisors:hD K "divisors" s_Q08) (D_check_sides:hD K "check_sides" s_Q05) (D_all_spots:hD K "all_spots" s_Q00) (D_check_torus_beat:hD K "check_torus_beat" s_Q06) (D_check_pair:hD K "check_pair" s_Q03) (D_torus_partner:hD K "torus_partner" s_Q0Y) (D_spot_of:hD K "spot_of" s_Q0X) (D_laid_flat:hD K "laid_flat" s_Q0A) (D_laid_up:hD K "laid_up" s_Q0B) (D_law_draws:hD K "_law_draws" s_Q0H) (D_law_cell:hD K "_law_cell" s_Q0E) (D_law_whole:hD K "_law_whole" s_Q0W) (D_law_side_pair:hD K "_law_side_pair" s_Q0P) (D_law_gcd:hD K "_law_gcd" s_Q0K) (D_law_moved:hD K "_law_moved" s_Q0M) (D_law_torus_pair:hD K "_law_torus_pair" s_Q0V) (D_law_spoiled:hD K "_law_spoiled" s_Q0R) (D_law_fills:hD K "_law_fills" s_Q0I) (D_law_sides:hD K "_law_sides" s_Q0Q) (D_law_place:hD K "_law_place" s_Q0O) (D_law_beat_is:hD K "_law_beat_is" s_Q0D) (D_law_spots_are:hD K "_law_spots_are" s_Q0T) (D_law_drawn:hD K "_law_drawn" s_Q0G) (D_law_there_and_back:hD K "_law_there_and_back" s_Q0U) (a_Q0C:hA K "law" f_Q0C) (l_Q0C:hL K "law" s_Q0C f_Q0C oc_Q0C od_Q0C kV_Q0C dc_Q0C pm_Q0C an_Q0C cd_Q0C ct_Q0C sl_Q0C) (c_Q0C:hC K cd_Q0C "law") (k_Q0C:hK K f_Q0C)
    (z_len:Cq K mainGlobals "len"=some none) (z_range:Cq K mainGlobals "range"=some none) (z_min:Cq K mainGlobals "min"=some none) (z_any:Cq K mainGlobals "any"=some none) (z_sorted:Cq K mainGlobals "sorted"=some none) (z_int:Cq K mainGlobals "int"=some none) (z_isinstance:Cq K mainGlobals "isinstance"=some none) (z_bool:Cq K mainGlobals "bool"=some none) (z_list:Cq K mainGlobals "list"=some none) (z_max:Cq K mainGlobals "max"=some none) (z_zip:Cq K mainGlobals "zip"=some none) (z_tuple:Cq K mainGlobals "tuple"=some none) (z_set:Cq K mainGlobals "set"=some none) (n_LONGEST:Cq K mainGlobals "LONGEST"=some (some (.int 60 t_LONGEST))) (n_LAST_PART:Cq K mainGlobals "LAST_PART"=some (some (.int 60 t_LAST_PART)))
   (xk:hXs K [("WheelError",C_4),("NoWheel",C_3),("NoBeat",C_0),("NoPart",C_2),("NoPair",C_1)]):∃ (fd:FuncData) (cls:String->Value),(∀ (s:Shared) (v:Value),BindsTo s fd ⟨[v],[]⟩ [("_law_script",v)])/\∀ base:Heap,K.In base->base.Ns mainGlobals mg->FnOk l.prog w K mg base (CXe l.prog w) 6 fa fd ["_law_script"] (spD K cls F_Q0L 1):=by
  have e:=hfa.symm.trans (DC X G a_Q0C);cases e;obtain⟨f_Q07,fd_check_wheel,d_Q07⟩:=dfE (st:=s_Q07) (ps:=["length"]) X G D_check_wheel λ _ _ _ _ _ _=>gb λ _=>rfl
  obtain⟨f_Q04,fd_check_rising,d_Q04⟩:=dfE (st:=s_Q04) (ps:=["numbers","end"]) X G D_check_rising λ _ _ _ _ _ _=>cw λ _ _=>rfl
  obtain⟨f_Q02,fd_check_beat,d_Q02⟩:=dfE (st:=s_Q02) (ps:=["length","beat"]) X G D_check_beat λ _ _ _ _ _ _=>cw λ _ _=>rfl
  obtain⟨f_Q01,fd_beat_counts,d_Q01⟩:=dfE (st:=s_Q01) (ps:=["length","beat","starts"]) X G D_beat_counts λ _ _ _ _ _ _=>iJ λ _ _ _=>rfl
  obtain⟨f_Q09,fd_is_partner,d_Q09⟩:=dfE (st:=s_Q09) (ps:=["length","beat","starts"]) X G D_is_partner λ _ _ _ _ _ _=>iJ λ _ _ _=>rfl
  obtain⟨f_Q08,fd_divisors,d_Q08⟩:=dfE (st:=s_Q08) (ps:=["number"]) X G D_divisors λ _ _ _ _ _ _=>gb λ _=>rfl
  obtain⟨f_Q05,fd_check_sides,d_Q05⟩:=dfE (st:=s_Q05) (ps:=["sides"]) X G D_check_sides λ _ _ _ _ _ _=>gb λ _=>rfl
  obtain⟨f_Q00,fd_all_spots,d_Q00⟩:=dfE (st:=s_Q00) (ps:=["sides"]) X G D_all_spots λ _ _ _ _ _ _=>gb λ _=>rfl
  obtain⟨f_Q06,fd_check_torus_beat,d_Q06⟩:=dfE (st:=s_Q06) (ps:=["sides","beat"]) X G D_check_torus_beat λ _ _ _ _ _ _=>cw λ _ _=>rfl
  obtain⟨f_Q03,fd_check_pair,d_Q03⟩:=dfE (st:=s_Q03) (ps:=["sides"]) X G D_check_pair λ _ _ _ _ _ _=>gb λ _=>rfl
  obtain⟨f_Q0Y,fd_torus_partner,d_Q0Y⟩:=dfE (st:=s_Q0Y) (ps:=["sides","beat","starts"]) X G D_torus_partner λ _ _ _ _ _ _=>iJ λ _ _ _=>rfl
  obtain⟨f_Q0X,fd_spot_of,d_Q0X⟩:=dfE (st:=s_Q0X) (ps:=["sides","place"]) X G D_spot_of λ _ _ _ _ _ _=>cw λ _ _=>rfl
  obtain⟨f_Q0A,fd_laid_flat,d_Q0A⟩:=dfE (st:=s_Q0A) (ps:=["sides","beat"]) X G D_laid_flat λ _ _ _ _ _ _=>cw λ _ _=>rfl
  obtain⟨f_Q0B,fd_laid_up,d_Q0B⟩:=dfE (st:=s_Q0B) (ps:=["sides","beat"]) X G D_laid_up λ _ _ _ _ _ _=>cw λ _ _=>rfl
  obtain⟨f_Q0H,fd_law_draws,d_Q0H⟩:=dfE (st:=s_Q0H) (ps:=["_law_script","_law_many"]) X G D_law_draws λ _ _ _ _ _ _=>cw λ _ _=>rfl
  obtain⟨f_Q0E,fd_law_cell,d_Q0E⟩:=dfE (st:=s_Q0E) (ps:=["_law_draws_here","_law_k"]) X G D_law_cell λ _ _ _ _ _ _=>cw λ _ _=>rfl
  obtain⟨f_Q0W,fd_law_whole,d_Q0W⟩:=dfE (st:=s_Q0W) (ps:=["_law_found"]) X G D_law_whole λ _ _ _ _ _ _=>gb λ _=>rfl
  obtain⟨f_Q0P,fd_law_side_pair,d_Q0P⟩:=dfE (st:=s_Q0P) (ps:=["_law_side","_law_number"]) X G D_law_side_pair λ _ _ _ _ _ _=>cw λ _ _=>rfl
  obtain⟨f_Q0K,fd_law_gcd,d_Q0K⟩:=dfE (st:=s_Q0K) (ps:=["_law_one","_law_other"]) X G D_law_gcd λ _ _ _ _ _ _=>cw λ _ _=>rfl
  obtain⟨f_Q0M,fd_law_moved,d_Q0M⟩:=dfE (st:=s_Q0M) (ps:=["_law_sides_here","_law_beat","_law_right","_law_up","_law_lean"]) X G D_law_moved λ _ _ _ _ _ _=>xG λ _ _ _ _ _=>rfl
  obtain⟨f_Q0V,fd_law_torus_pair,d_Q0V⟩:=dfE (st:=s_Q0V) (ps:=["_law_script","_law_start","_law_sides_here"]) X G D_law_torus_pair λ _ _ _ _ _ _=>iJ λ _ _ _=>rfl
  obtain⟨f_Q0R,fd_law_spoiled,d_Q0R⟩:=dfE (st:=s_Q0R) (ps:=["_law_sides_here","_law_beat","_law_number"]) X G D_law_spoiled λ _ _ _ _ _ _=>iJ λ _ _ _=>rfl
  obtain⟨f_Q0I,fd_law_fills,d_Q0I⟩:=dfE (st:=s_Q0I) (ps:=["_law_sides_here","_law_beat","_law_starts"]) X G D_law_fills λ _ _ _ _ _ _=>iJ λ _ _ _=>rfl
  obtain⟨f_Q0Q,fd_law_sides,d_Q0Q⟩:=dfE (st:=s_Q0Q) (ps:=["_law_cell_here"]) X G D_law_sides λ _ _ _ _ _ _=>gb λ _=>rfl
  obtain⟨f_Q0O,fd_law_place,d_Q0O⟩:=dfE (st:=s_Q0O) (ps:=["_law_sides_here","_law_spot"]) X G D_law_place λ _ _ _ _ _ _=>cw λ _ _=>rfl
  obtain⟨f_Q0D,fd_law_beat_is,d_Q0D⟩:=dfE (st:=s_Q0D) (ps:=["_law_found","_law_due"]) X G D_law_beat_is λ _ _ _ _ _ _=>cw λ _ _=>rfl
  obtain⟨f_Q0T,fd_law_spots_are,d_Q0T⟩:=dfE (st:=s_Q0T) (ps:=["_law_found","_law_due"]) X G D_law_spots_are λ _ _ _ _ _ _=>cw λ _ _=>rfl
  obtain⟨f_Q0G,fd_law_drawn,d_Q0G⟩:=dfE (st:=s_Q0G) (ps:=["_law_cells","_law_sides_here"]) X G D_law_drawn λ _ _ _ _ _ _=>cw λ _ _=>rfl
  obtain⟨f_Q0U,fd_law_there_and_back,d_Q0U⟩:=dfE (st:=s_Q0U) (ps:=["_law_sides_here","_law_beat"]) X G D_law_there_and_back λ _ _ _ _ _ _=>cw λ _ _=>rfl
  have d_Q0C:=uH (st:=s_Q0C) (ps:=["_law_script"]) (DC X G a_Q0C) l_Q0C c_Q0C k_Q0C λ _ _ _ _ _ _=>gb λ _=>rfl
  have z_len:=Cv X G z_len;have z_range:=Cv X G z_range;have z_min:=Cv X G z_min;have z_any:=Cv X G z_any;have z_sorted:=Cv X G z_sorted;have z_int:=Cv X G z_int;have z_isinstance:=Cv X G z_isinstance;have z_bool:=Cv X G z_bool;have z_list:=Cv X G z_list;have z_max:=Cv X G z_max;have z_zip:=Cv X G z_zip;have z_tuple:=Cv X G z_tuple;have z_set:=Cv X G z_set;have n_LONGEST:=DC X G n_LONGEST;have n_LAST_PART:=DC X G n_LAST_PART;have xa:XAll K mg (adA C_4 C_3 C_0 C_2 C_1):=xh X G xk;have h_WheelError:(adA C_4 C_3 C_0 C_2 C_1) "WheelError"=some C_4:=rfl;have h_NoWheel:(adA C_4 C_3 C_0 C_2 C_1) "NoWheel"=some C_3:=rfl;have h_NoBeat:(adA C_4 C_3 C_0 C_2 C_1) "NoBeat"=some C_0:=rfl;have h_NoPart:(adA C_4 C_3 C_0 C_2 C_1) "NoPart"=some C_2:=rfl;have h_NoPair:(adA C_4 C_3 C_0 C_2 C_1) "NoPair"=some C_1:=rfl;have hkn:∀ c∈(["WheelError","NoWheel","NoBeat","NoPart","NoPair"]:List String),∃ Ca,(adA C_4 C_3 C_0 C_2 C_1) c=some Ca:=cC ⟨C_4,rfl⟩ (cC ⟨C_3,rfl⟩ (cC ⟨C_0,rfl⟩ (cC ⟨C_2,rfl⟩ (cC ⟨C_1,rfl⟩ (fm_nil)))));refine⟨CK "law" "law" (bK s_Q0C) (aZ s_Q0C) (ai s_Q0C) .none kV_Q0C dc_Q0C pm_Q0C an_Q0C cd_Q0C ct_Q0C,aJ (adA C_4 C_3 C_0 C_2 C_1),λ s v=>.of_eq rfl,λ base _ _=>?_⟩;have q_check_wheel:cI l.prog w K mg base (adA C_4 C_3 C_0 C_2 C_1):=⟨_,_,d_Q07,ok_Q07 d_Q07  xa h_NoWheel  n_LONGEST⟩;have q_check_rising:dO l.prog w K mg base (adA C_4 C_3 C_0 C_2 C_1):=⟨_,_,d_Q04,ok_Q04 d_Q04  xa h_NoBeat z_len ⟩;have q_check_beat:cX l.prog w K mg base (adA C_4 C_3 C_0 C_2 C_1):=⟨_,_,d_Q02,ok_Q02 d_Q02 q_check_wheel q_check_rising  ⟩;have q_beat_counts:d7 l.prog w K mg base (adA C_4 C_3 C_0 C_2 C_1):=⟨_,_,d_Q01,ok_Q01 d_Q01 q_check_beat  ⟩;have q_is_partner:fq l.prog w K mg base (adA C_4 C_3 C_0 C_2 C_1):=⟨_,_,d_Q09,ok_Q09 d_Q09 q_beat_counts  ⟩;have q_divisors:gG l.prog w K mg base (adA C_4 C_3 C_0 C_2 C_1):=⟨_,_,d_Q08,ok_Q08 d_Q08  xa h_NoPart z_range n_LAST_PART⟩;have q_check_sides:cH l.prog w K mg base (adA C_4 C_3 C_0 C_2 C_1):=⟨_,_,d_Q05,ok_Q05 d_Q05 q_check_wheel xa h_NoWheel z_len z_min ⟩;have q_all_spots:dE l.prog w K mg base (adA C_4 C_3 C_0 C_2 C_1):=⟨_,_,d_Q00,ok_Q00 d_Q00  z_range ⟩;have q_check_torus_beat:bB l.prog w K mg base (adA C_4 C_3 C_0 C_2 C_1):=⟨_,_,d_Q06,ok_Q06 d_Q06 q_check_sides q_all_spots xa h_NoBeat z_len ⟩;have q_check_pair:cT l.prog w K mg base (adA C_4 C_3 C_0 C_2 C_1):=⟨_,_,d_Q03,ok_Q03 d_Q03 q_divisors xa h_NoPair z_any ⟩;have q_torus_partner:dg l.prog w K mg base (adA C_4 C_3 C_0 C_2 C_1):=⟨_,_,d_Q0Y,ok_Q0Y d_Q0Y q_check_torus_beat q_all_spots z_sorted ⟩;have q_spot_of:fF l.prog w K mg base (adA C_4 C_3 C_0 C_2 C_1):=⟨_,_,d_Q0X,ok_Q0X d_Q0X   ⟩;have q_laid_flat:dB l.prog w K mg base (adA C_4 C_3 C_0 C_2 C_1):=⟨_,_,d_Q0A,ok_Q0A d_Q0A q_check_torus_beat q_check_pair q_spot_of z_range ⟩;have q_laid_up:iV l.prog w K mg base (adA C_4 C_3 C_0 C_2 C_1):=⟨_,_,d_Q0B,ok_Q0B d_Q0B q_check_sides q_check_beat q_check_pair q_spot_of z_sorted ⟩;have q_law_draws:fZ l.prog w K mg base (adA C_4 C_3 C_0 C_2 C_1):=⟨_,_,d_Q0H,ok_Q0H d_Q0H  z_int z_range z_len ⟩;have q_law_cell:il l.prog w K mg base (adA C_4 C_3 C_0 C_2 C_1):=⟨_,_,d_Q0E,ok_Q0E d_Q0E   ⟩;have q_law_whole:dv l.prog w K mg base (adA C_4 C_3 C_0 C_2 C_1):=⟨_,_,d_Q0W,ok_Q0W d_Q0W  z_isinstance z_int z_bool ⟩;have q_law_side_pair:di l.prog w K mg base (adA C_4 C_3 C_0 C_2 C_1):=⟨_,_,d_Q0P,ok_Q0P d_Q0P  z_range z_len z_list ⟩;have q_law_gcd:iX l.prog w K mg base (adA C_4 C_3 C_0 C_2 C_1):=⟨_,_,d_Q0K,ok_Q0K d_Q0K   ⟩;have q_law_moved:dI l.prog w K mg base (adA C_4 C_3 C_0 C_2 C_1):=⟨_,_,d_Q0M,ok_Q0M d_Q0M  z_sorted ⟩;have q_law_torus_pair:cQ l.prog w K mg base (adA C_4 C_3 C_0 C_2 C_1):=⟨_,_,d_Q0V,ok_Q0V d_Q0V q_law_side_pair q_law_cell q_law_gcd q_law_moved z_range ⟩;have q_law_spoiled:d8 l.prog w K mg base (adA C_4 C_3 C_0 C_2 C_1):=⟨_,_,d_Q0R,ok_Q0R d_Q0R  z_len z_sorted ⟩;have q_law_fills:fX l.prog w K mg base (adA C_4 C_3 C_0 C_2 C_1):=⟨_,_,d_Q0I,ok_Q0I d_Q0I  z_len z_max z_list ⟩;have q_law_sides:fY l.prog w K mg base (adA C_4 C_3 C_0 C_2 C_1):=⟨_,_,d_Q0Q,ok_Q0Q d_Q0Q   ⟩;have q_law_place:fU l.prog w K mg base (adA C_4 C_3 C_0 C_2 C_1):=⟨_,_,d_Q0O,ok_Q0O d_Q0O  z_range ⟩;have q_law_beat_is:d9 l.prog w K mg base (adA C_4 C_3 C_0 C_2 C_1):=⟨_,_,d_Q0D,ok_Q0D d_Q0D q_law_whole z_isinstance z_list z_len z_zip ⟩;have q_law_spots_are:df l.prog w K mg base (adA C_4 C_3 C_0 C_2 C_1):=⟨_,_,d_Q0T,ok_Q0T d_Q0T q_law_whole z_isinstance z_list z_len z_zip z_tuple ⟩;have q_law_drawn:gc l.prog w K mg base (adA C_4 C_3 C_0 C_2 C_1):=⟨_,_,d_Q0G,ok_Q0G d_Q0G  z_sorted z_set ⟩;have q_law_there_and_back:bU l.prog w K mg base (adA C_4 C_3 C_0 C_2 C_1):=⟨_,_,d_Q0U,ok_Q0U d_Q0U q_law_place q_laid_flat q_law_beat_is q_laid_up q_law_spots_are q_law_moved z_sorted z_list ⟩;exact ok_Q0C d_Q0C q_law_draws q_law_sides q_law_there_and_back q_law_drawn q_law_torus_pair q_law_spoiled q_law_fills q_laid_flat q_torus_partner q_is_partner z_isinstance z_bool
end Lk64
namespace Bt
open Dv (ins isort)
theorem ck (i:Int):∀ l:List Int,(ins i l).Perm (i::l)
 | []=>.refl _
 | j::r=>by
  unfold ins
  split
  ·exact .refl _
  ·exact((ck i r).cons j).trans (.swap _ _ _)
theorem aI:∀ l:List Int,(isort l).Perm l
 | []=>.refl _
 | i::r=>(ck i _).trans ((aI r).cons i)
theorem cg (i:Int):∀ l:List Int,l.Pairwise (·<=·)->(ins i l).Pairwise (·<=·)
 | [],_=>by unfold ins;simp
 | j::r,h=>by
  unfold ins;obtain⟨h1,h2⟩:=List.pairwise_cons.mp h
  split
  ·rename_i hij
   refine List.pairwise_cons.mpr ⟨λ a ha=>?_,h⟩
   rcases List.mem_cons.mp ha with rfl|ha
   ·exact hij
   ·have:=h1 a ha;omega
  ·rename_i hij
   refine List.pairwise_cons.mpr ⟨λ a ha=>?_,cg i r h2⟩
   rcases List.mem_cons.mp ((ck i r).mem_iff.mp ha) with rfl|ha
   ·omega
   ·exact h1 a ha
theorem aX:∀ l:List Int,(isort l).Pairwise (·<=·)
 | []=>.nil
 | i::r=>cg i _ (aX r)
theorem bD:∀ {a b:List Int},a.Perm b->a.Pairwise (·<=·)->b.Pairwise (·<=·)->a=b
 | [],b,p,_,_=>(List.Perm.nil_eq p)
 | x::a,[],p,_,_=>(nomatch p.length_eq)
 | x::a,y::b,p,ha,hb=>by
  obtain⟨a1,a2⟩:=List.pairwise_cons.mp ha;obtain⟨b1,b2⟩:=List.pairwise_cons.mp hb;have hx:x∈y::b:=p.mem_iff.mp (yG ..);have hy:y∈x::a:=p.mem_iff.mpr (yG ..);have e:x=y:=by
   rcases List.mem_cons.mp hx with e|hx
   ·exact e
   ·rcases List.mem_cons.mp hy with e|hy
    ·exact e.symm
    ·have:=a1 y hy;have:=b1 x hx;omega
  subst e;rw[bD (List.Perm.cons_inv p) a2 b2]
theorem dX (l:List Int):(isort l).length=l.length:=(aI l).length_eq
structure Beat (n:Int)(xs:List Int):Prop where
 ne:xs≠[]
 up:xs.Pairwise (·<·)
 rg:∀ x∈xs,0<=x/\x<n
theorem Beat.nd {n:Int}{xs:List Int}(h:Beat n xs):xs.Nodup:=h.up.imp λ {a b} h e=>⋯
theorem lR:∀ {xs:List Int} {lo hi:Int},xs.Pairwise (·<·)->(∀ x∈xs,lo<=x/\x<hi)->(xs.length:Int)<=max 0 (hi-lo)
 | [],lo,hi,_,_=>by simp;omega
 | x::r,lo,hi,h,g=>by
  obtain⟨h1,h2⟩:=List.pairwise_cons.mp h;have gx:=g x (yG ..);have:=lR (lo:=x+1) (hi:=hi) h2 λ y hy=>⟨h1 y hy,(g y (yF _ hy)).2⟩
  rw[yE];omega
theorem Beat.len {n:Int}{xs:List Int}(h:Beat n xs):(xs.length:Int)<=n:=by
 have:=lR h.up h.rg;obtain⟨x,hx⟩:=AU xs h.ne;have:=h.rg x hx;omega
theorem Beat.pos {n:Int}{xs:List Int}(h:Beat n xs):1<=n:=by
 obtain⟨x,hx⟩:=AU xs h.ne;have:=h.rg x hx;omega
theorem uU {l:List Int}(h1:l.Pairwise (·<=·))(h2:l.Nodup):l.Pairwise (·<·):=by
 induction l with
 | nil=>exact .nil
 | cons a r ih=>
  obtain⟨a1,a2⟩:=List.pairwise_cons.mp h1;obtain⟨b1,b2⟩:=List.nodup_cons.mp h2;refine List.pairwise_cons.mpr ⟨λ x hx=>?_,ih a2 b2⟩;have:=a1 x hx;have:a≠x:=λ e=>b1 (e▸hx)
  omega
theorem oH {n:Int}{xs:List Int}(ne:xs≠[])(nd:xs.Nodup)(rg:∀ x∈xs,0<=x/\x<n):Beat n (isort xs) where
 ne:=λ e=>ne (by have:=dX xs;rw[e] at this;exact zC this.symm)
 up:=uU (aX xs) ((aI xs).nodup_iff.mpr nd)
 rg:=λ x hx=>rg x ((aI xs).mem_iff.mp hx)
theorem jl {f:Int->Int}:∀ {xs:List Int},xs.Nodup->(∀ x∈xs,∀ y∈xs,f x=f y->x=y)->(xs.map f).Nodup
 | [],_,_=>by simp
 | x::r,h,g=>by
  obtain⟨h1,h2⟩:=List.nodup_cons.mp h;refine List.nodup_cons.mpr ⟨λ m=>?_,jl h2 λ a ha b hb=>g a (yF _ ha) b (yF _ hb)⟩;obtain⟨y,hy,e⟩:=List.mem_map.mp m;exact h1 (g y (yF _ hy) x (yG ..) e▸hy)
theorem oX {n k d:Int}(hn:0<n)(e:d=n*k)(h1:-n<d)(h2:d<n):d=0:=by
 rcases Int.lt_trichotomy k 0 with h|h|h
 ·have:n*k<=n*(-1):=zk ⋯ ⋯
  omega
 ·subst h;omega
 ·have:n*1<=n*k:=zk ⋯ ⋯
  omega
theorem mod_eq_iff {n a b:Int}:a%n=b%n ↔ ∃ k,a-b=n*k:=by
 constructor
 ·intro h
  have:=AC a (Int.dvd_refl n);have h1:(a-b)%n=0:=(Ak).mp h;exact Ab h1
 ·rintro ⟨k,h⟩
  exact(Ak).mpr (Int.emod_eq_zero_of_dvd ⟨k,h⟩)
theorem j6 {n x y b:Int}(hn:0<n)(hx:0<=x/\x<n)(hy:0<=y/\y<n)(h:(x+b)%n=(y+b)%n):x=y:=by
 obtain⟨k,e⟩:=mod_eq_iff.mp h;have:=oX (d:=x-y) (k:=k) hn ⋯ ⋯ ⋯;omega
theorem aY {n a:Int}(hn:0<n):0<=a%n/\a%n<n:=⟨A8 _ ⋯,AH _ hn⟩
theorem o3 {n b:Int}{xs:List Int}(h:Beat n xs):Beat n (isort (xs.map λ x=>(x+b)%n)):=by
 have hp:=h.pos;refine oH (by simpa using h.ne) (jl h.nd λ x hx y hy e=>j6 ⋯ (h.rg x hx) (h.rg y hy) e) λ x hx=>?_
 obtain⟨y,_,rfl⟩:=List.mem_map.mp hx;exact aY ⋯
def hits (n:Int)(beat starts:List Int):List Int:=starts.flatMap λ s=>beat.map λ b=>(b+s)%n
def bump (c:List Int)(p:Int):List Int:=c.set p.toNat (c.getD p.toNat 0+1)
def tally (n:Nat)(ps:List Int):List Int:=ps.foldl bump (List.replicate n 0)
theorem dt (c:List Int)(p:Int):(bump c p).length=c.length:=by unfold bump;rw[zx]
theorem cc:∀ (ps:List Int) (c:List Int),(ps.foldl bump c).length=c.length
 | [],c=>rfl
 | p::r,c=>by rw[yT,cc,dt]
theorem iU (n:Nat)(ps:List Int):(tally n ps).length=n:=by unfold tally;rw[cc,zU]
theorem dJ:∀ (ps:List Int) (c:List Int) (i:Nat),i<c.length->(∀ p∈ps,0<=p)->(ps.foldl bump c)[i]?.getD 0=c[i]?.getD 0+(ps.count (i:Int):Nat)
 | [],c,i,_,_=>by simp
 | p::r,c,i,h,g=>by
  rw[yT,dJ r (bump c p) i (by rw[dt];exact h) λ q hq=>g q (yF _ hq)];have gp:=g p (yG ..);unfold bump;rw[List.getElem?_set];by_cases e:p.toNat=i
  ·have e2:p=(i:Int):=⋯
   subst e2;simp[h,yI];omega
  ·have e2:¬ p=(i:Int):=⋯
   have e3:¬ (i:Int)=p:=⋯
   simp[e,e2,List.count_cons]
theorem sr (n:Nat){ps:List Int}(g:∀ p∈ps,0<=p):tally n ps=(List.range n).map λ (i:Nat)=>((ps.count (i:Int):Nat):Int):=by
 apply Aq;intro i;by_cases h:i<n
 ·have h1:=dJ ps (List.replicate n 0) i (by simpa using h) g
  have hl:i<(tally n ps).length:=by rw[iU];exact h
  have h2:(tally n ps)[i]?=some ((tally n ps)[i]?.getD 0):=by rw[yH hl];rfl
  rw[h2];show some ((ps.foldl bump (List.replicate n 0))[i]?.getD 0)=_
  rw[h1];simp[h]
 ·rw[zJ (by rw[iU];omega),zJ (by simp;omega)]
theorem gi {n:Int}(hn:0<n){beat starts:List Int}:∀ p∈hits n beat starts,0<=p/\p<n:=λ p hp=>by
 unfold hits at hp;obtain⟨s,_,h⟩:=List.mem_flatMap.mp hp;obtain⟨b,_,rfl⟩:=List.mem_map.mp h;exact aY hn
end Bt
namespace Cw
open Dv (Out R RL cmD bG eAnd eB1 eBl eCall eCm eComp eInt eLst eNeg eNot eOp eOr eVar forGo iSeq iZip keepD lCons lNil opD sAugIx sCons sExpr sFor sForT sIf sNil sRet sRetO sSet sSetG)
open Dv (D R RL EE EL EI RI Sl Out SS St)
open Bt
abbrev L (xs:List Int):D:=.lst (xs.map .int)
theorem rY:∀ xs:List Int,Dv.intsOf (xs.map .int)=some xs
 | []=>rfl
 | x::r=>by simp[Dv.intsOf,rY r]
theorem cJ:∀ xs:List Int,Dv.flatL (xs.map .int)=true
 | []=>rfl
 | x::r=>by simp[Dv.flatL,Dv.scal,cJ r]
theorem vC (i:Int):∀ xs:List Int,Dv.inD i (xs.map .int)=some (decide (i∈xs))
 | []=>by simp[Dv.inD]
 | x::r=>by
  rw[yB];unfold Dv.inD;rw[vC i r];by_cases h:x=i
  ·subst h;simp
  ·have h2:¬ i=x:=λ e=>h e.symm
   simp[h,h2]
theorem uV:∀ a b:List Int,Dv.eqDL (a.map .int) (b.map .int)=some (decide (a=b))
 | [],[]=>rfl
 | [],_::_=>rfl
 | _::_,[]=>rfl
 | x::a,y::b=>by
  show (match (some (decide (x=y)):Option Bool),Dv.eqDL (a.map .int) (b.map .int) with|some p,some q=>some (p&&q)|_,_=>none)=_
  rw[uV a b];show some (decide (x=y)&&decide (a=b))=_
  by_cases h:x=y <;>by_cases h2:a=b <;>simp[h,h2]
theorem w9 (a b:List Int):Dv.eqD (L a) (L b)=some (decide (a=b)):=uV a b
theorem eq_int (a b:Int):Dv.eqD (.int a) (.int b)=some (decide (a=b)):=rfl
theorem uO (a b:Bool):Dv.eqD (.bl a) (.bl b)=some (a == b):=rfl
theorem uP:∀ xs:List Int,Dv.depthL (xs.map .int)=0
 | []=>by simp[Dv.depthL]
 | x::r=>by rw[yB];unfold Dv.depthL;rw[uP r];simp[Dv.depthD]
theorem j4 (xs:List Int):Dv.depthD (L xs)=1:=by unfold Dv.depthD;rw[uP]
theorem gj (i:Int):Dv.depthD (.int i)=0:=by unfold Dv.depthD;rfl
theorem jF (i:Bool):Dv.depthD (.bl i)=0:=by unfold Dv.depthD;rfl
theorem nQ {s:List Int}{k:Int}(h:0<=k)(h2:k<s.length):Dv.at? (s.map .int) k=some (.int (s.getD k.toNat 0)):=by
 unfold Dv.at?;rw[if_pos h];have:k.toNat<s.length:=⋯
 simp[ze,yI,yH this]
theorem fK (a b:List Int):cmD .eq (L a) (L b)=.ok (.bl (decide (a=b))) true:=by
 simp only[Dv.cmD_eq,Dv.cmD_ne,Dv.cmD_lt,Dv.cmD_le,Dv.cmD_gt,Dv.cmD_ge,Dv.cmD_in,Dv.cmD_ni,Dv.cmD_it,Dv.cmD_nt,j4,j4,w9,Dv.optB,zy];rfl
theorem jJ (a b:List Int):cmD .ne (L a) (L b)=.ok (.bl (!decide (a=b))) true:=by
 simp only[Dv.cmD_eq,Dv.cmD_ne,Dv.cmD_lt,Dv.cmD_le,Dv.cmD_gt,Dv.cmD_ge,Dv.cmD_in,Dv.cmD_ni,Dv.cmD_it,Dv.cmD_nt,j4,j4,w9,Dv.optB,zy];rfl
theorem bP (a b:Int):cmD .eq (.int a) (.int b)=.ok (.bl (decide (a=b))) true:=by
 simp only[Dv.cmD_eq,Dv.cmD_ne,Dv.cmD_lt,Dv.cmD_le,Dv.cmD_gt,Dv.cmD_ge,Dv.cmD_in,Dv.cmD_ni,Dv.cmD_it,Dv.cmD_nt,gj,gj,eq_int,Dv.optB,zy];rfl
theorem cS (a b:Int):cmD .ne (.int a) (.int b)=.ok (.bl (!decide (a=b))) true:=by
 simp only[Dv.cmD_eq,Dv.cmD_ne,Dv.cmD_lt,Dv.cmD_le,Dv.cmD_gt,Dv.cmD_ge,Dv.cmD_in,Dv.cmD_ni,Dv.cmD_it,Dv.cmD_nt,gj,gj,eq_int,Dv.optB,zy];rfl
theorem qx (a b:Bool):cmD .eq (.bl a) (.bl b)=.ok (.bl (a == b)) true:=by
 simp only[Dv.cmD_eq,Dv.cmD_ne,Dv.cmD_lt,Dv.cmD_le,Dv.cmD_gt,Dv.cmD_ge,Dv.cmD_in,Dv.cmD_ni,Dv.cmD_it,Dv.cmD_nt,jF,jF,uO,Dv.optB,zy];rfl
theorem lP (a b:Bool):cmD .ne (.bl a) (.bl b)=.ok (.bl (!(a == b))) true:=by
 simp only[Dv.cmD_eq,Dv.cmD_ne,Dv.cmD_lt,Dv.cmD_le,Dv.cmD_gt,Dv.cmD_ge,Dv.cmD_in,Dv.cmD_ni,Dv.cmD_it,Dv.cmD_nt,jF,jF,uO,Dv.optB,zy];rfl
theorem jL (a:List Int):cmD .eq (L a) (.lst [])=.ok (.bl (decide (a=[]))) true:=fK a []
theorem qE (a:List Int):cmD .ne (L a) (.lst [])=.ok (.bl (!decide (a=[]))) true:=jJ a []
theorem uY (i:Int)(b:List Int):cmD .isin (.int i) (L b)=.ok (.bl (decide (i∈b))) true:=by
 simp only[Dv.cmD_eq,Dv.cmD_ne,Dv.cmD_lt,Dv.cmD_le,Dv.cmD_gt,Dv.cmD_ge,Dv.cmD_in,Dv.cmD_ni,Dv.cmD_it,Dv.cmD_nt,vC,Dv.optB,zy]
theorem kX (i:Int)(b:List Int):cmD .notin (.int i) (L b)=.ok (.bl (!decide (i∈b))) true:=by
 simp only[Dv.cmD_eq,Dv.cmD_ne,Dv.cmD_lt,Dv.cmD_le,Dv.cmD_gt,Dv.cmD_ge,Dv.cmD_in,Dv.cmD_ni,Dv.cmD_it,Dv.cmD_nt,vC,Dv.optB,zy]
theorem qP (a b:List Nat):cmD .eq (.str a) (.str b)=.ok (.bl (decide (Dv.clipS a=Dv.clipS b))) true:=rfl
theorem qC (a b:List Nat):cmD .ne (.str a) (.str b)=.ok (.bl (!decide (Dv.clipS a=Dv.clipS b))) true:=rfl
theorem kM (x:List Nat):Dv.scal (.str x)=true:=rfl
theorem ia (a b:Int):cmD .lt (.int a) (.int b)=.ok (.bl (decide (a<b))) true:=rfl
theorem qG (a b:Int):cmD .le (.int a) (.int b)=.ok (.bl (decide (a<=b))) true:=rfl
theorem nN (a b:Int):cmD .gt (.int a) (.int b)=.ok (.bl (decide (b<a))) true:=rfl
theorem jm (a b:Int):cmD .ge (.int a) (.int b)=.ok (.bl (decide (b<=a))) true:=rfl
theorem dR {i j:Int}(h:-(2 ^ 64)<i)(h2:i<2 ^ 64):Dv.mulOk i j=true:=by
 have:Dv.bits i<=64:=by
  unfold Dv.bits
  split
  ·omega
  ·have h3:i.natAbs<2 ^ 64:=⋯
   have:=(Bg ⋯).mpr h3;omega
 simp[Dv.mulOk,this]
theorem cD {i j:Int}(h:-(2 ^ 64)<j)(h2:j<2 ^ 64):Dv.mulOk i j=true:=by
 have:Dv.bits j<=64:=by
  unfold Dv.bits
  split
  ·omega
  ·have h3:j.natAbs<2 ^ 64:=⋯
   have:=(Bg ⋯).mpr h3;omega
 simp[Dv.mulOk,this]
theorem bI {i j:Int}(h:Dv.mulOk i j=true):opD .mul (.int i) (.int j)=.ok (.int (i*j)) true:=by
 simp[Dv.opD_ai,Dv.opD_al,Dv.opD_su,Dv.opD_mi,Dv.opD_ml,Dv.opD_mo,Dv.opD_fd,Dv.opD_po,Dv.opD_ba,Dv.opD_sh,h]
theorem au {i j:Int}(h:0<j):opD .mod (.int i) (.int j)=.ok (.int (i%j)) true:=by
 simp[Dv.opD_ai,Dv.opD_al,Dv.opD_su,Dv.opD_mi,Dv.opD_ml,Dv.opD_mo,Dv.opD_fd,Dv.opD_po,Dv.opD_ba,Dv.opD_sh,h]
theorem sD {j:Int}(h:0<j)(h2:j<2 ^ 200):Dv.divOk j=true:=by
 have h3:j.natAbs<2 ^ 200:=⋯
 have:=(Bg ⋯).mpr h3;simp only[Dv.divOk,yL,decide_eq_true_eq];omega
theorem aT {i j:Int}(h:0<j)(h2:j<2 ^ 200):opD .fdiv (.int i) (.int j)=.ok (.int (i/j)) true:=by
 simp[Dv.opD_ai,Dv.opD_al,Dv.opD_su,Dv.opD_mi,Dv.opD_ml,Dv.opD_mo,Dv.opD_fd,Dv.opD_po,Dv.opD_ba,Dv.opD_sh,sD h h2]
theorem bf (i j:Int):opD .add (.int i) (.int j)=.ok (.int (i+j)) true:=rfl
theorem gL (i j:Int):opD .sub (.int i) (.int j)=.ok (.int (i-j)) true:=rfl
theorem qj {a b:List Int}(h:a.length+b.length<=100000):opD .add (L a) (L b)=.ok (L (a++b)) true:=by
 simp[Dv.opD_ai,Dv.opD_al,Dv.opD_su,Dv.opD_mi,Dv.opD_ml,Dv.opD_mo,Dv.opD_fd,Dv.opD_po,Dv.opD_ba,Dv.opD_sh,Dv.mx,h,cJ]
theorem tH {x n:Int}(h:-100000<=n)(h2:n<=100000):opD .mul (.lst [.int x]) (.int n)=.ok (L (List.replicate n.toNat x)) true:=by
 have h3:n.toNat<=100000:=⋯
 have e:(List.replicate n.toNat [D.int x]).flatten=(List.replicate n.toNat x).map D.int:=by
  generalize n.toNat=k
  induction k with
  | zero=>rfl
  | succ k ih=>rw[zu,zN,ih,zu,yB];rfl
 simp[Dv.opD_ai,Dv.opD_al,Dv.opD_su,Dv.opD_mi,Dv.opD_ml,Dv.opD_mo,Dv.opD_fd,Dv.opD_po,Dv.opD_ba,Dv.opD_sh,Dv.mx,h,h2,h3,e,Dv.flatL,Dv.scal,L]
theorem jC {x n:Int}(h:0<=n)(h2:n<=100000):opD .mul (.lst [.int x]) (.int n)=.ok (L (List.replicate n.toNat x)) true:=tH ⋯ h2
theorem gm {xs:List Int}(h:xs.length<64)(f:Bool):Dv.sortedD (L xs) f=.ok (L (Dv.isort xs)) true:=by
 unfold Dv.sortedD;simp only[rY];rw[if_pos h]
theorem aW:Sl.get .no=none:=rfl
theorem sy (d:D):Sl.get (.dp d)=some d:=rfl
theorem sI (n m:Nat):Sl.get (.jk n m)=none:=rfl
theorem jn (d:D):Sl.shared (.dp d)=none:=rfl
theorem iO (n m:Nat):Sl.shared (.jk n m)=none:=rfl
theorem nC (d:D):Sl.give (.dp d)=.sh d:=rfl
theorem mY (n m:Nat):Sl.give (.jk n m)=.jk n m:=rfl
theorem ar (d:D):Sl.get (.sh d)=some d:=rfl
theorem aU (d:D):Sl.get (.ow d)=some d:=rfl
theorem mX:Sl.give .no=.no:=rfl
theorem aF (d:D):Sl.give (.sh d)=.sh d:=rfl
theorem nF (d:D):Sl.give (.ow d)=.sh d:=rfl
theorem aA:Sl.shared .no=none:=rfl
theorem aw (d:D):Sl.shared (.sh d)=some d:=rfl
theorem aE (d:D):Sl.shared (.ow d)=none:=rfl
theorem aj (i:Int):Dv.scal (.int i)=true:=rfl
theorem j7 (i:Bool):Dv.scal (.bl i)=true:=rfl
theorem ly:Dv.scal .non=true:=rfl
theorem ak (i:List D):Dv.scal (.lst i)=false:=rfl
theorem lg (i:List D):Dv.scal (.tup i)=false:=rfl
theorem aM (i:Int)(f:Bool):keepD (.int i) f=some (.sh (.int i)):=rfl
theorem jE (i:Bool)(f:Bool):keepD (.bl i) f=some (.sh (.bl i)):=rfl
theorem k8 (f:Bool):keepD .non f=some (.sh .non):=rfl
theorem keep_nil:keepD (.lst []) true=some (.ow (.lst [])):=rfl
theorem kW (i:Int):keepD (.lst [.int i]) true=some (.ow (.lst [.int i])):=rfl
theorem cY (xs:List Int):keepD (L xs) true=some (.ow (L xs)):=by simp[keepD,cJ]
theorem mw {elt cond:EE}{free:Dv.Env}{c:Int->Bool}{g:Int->Int}:∀ {xs:List Int},(∀ x∈xs,cond (some (.int x)::free)=.ok (.bl (c x)) true)->(∀ x∈xs,c x=true->elt (some (.int x)::free)=.ok (.int (g x)) true) ->
  bG elt cond free (xs.map .int)=.ok (((xs.filter c).map g).map .int) true
 | [],_,_=>rfl
 | x::r,h,k=>by
  rw[yB];unfold bG;rw[h x (yG ..),mw (c:=c) (g:=g) (λ y hy=>h y (yF _ hy)) λ y hy=>k y (yF _ hy)];cases e:c x with
  | true=>rw[k x (yG ..) e];simp[e]
  | false=>simp[e]
theorem pT {elt:EE}{free:Dv.Env}{g:Int->Int}{xs:List Int}(k:∀ x∈xs,elt (some (.int x)::free)=.ok (.int (g x)) true):
  bG elt (eBl true) free (xs.map .int)=.ok ((xs.map g).map .int) true:=by
 rw[mw (c:=λ _=>true) (g:=g) (λ _ _=>rfl) λ x hx _=>k x hx,List.filter_eq_self.mpr (λ _ _=>rfl)]
theorem oE {elt:EE}{is:List Nat}{it:EI}{ρ:Dv.Env}{g:Int->Int}{xs:List Int}{f:Bool}(hi:it ρ=.ok (xs.map .int) f)(hl:xs.length<=100000)(k:∀ x∈xs,elt (some (.int x)::Dv.pick ρ is)=.ok (.int (g x)) true):
  eComp elt (eBl true) is it ρ=.ok (L (xs.map g)) true:=by
 unfold eComp;rw[hi];simp only[yC,Dv.mx,hl,if_true,pT k]
theorem eN {elt cond:EE}{is:List Nat}{it:EI}{ρ:Dv.Env}{c:Int->Bool}{g:Int->Int}{xs:List Int}{f:Bool}(hi:it ρ=.ok (xs.map .int) f)(hl:xs.length<=100000)(h:∀ x∈xs,cond (some (.int x)::Dv.pick ρ is)=.ok (.bl (c x)) true)
  (k:∀ x∈xs,c x=true->elt (some (.int x)::Dv.pick ρ is)=.ok (.int (g x)) true):eComp elt cond is it ρ=.ok (L ((xs.filter c).map g)) true:=by
 unfold eComp;rw[hi];simp only[yC,Dv.mx,hl,if_true,mw h k]
def upto (n:Nat):List Int:=(List.range n).map λ (i:Nat)=>(i:Int)
theorem dZ (lo:Int):∀ n:Nat,Dv.rangeL lo n=((List.range n).map λ (i:Nat)=>lo+(i:Int)).map D.int
 | 0=>rfl
 | n+1=>by
  unfold Dv.rangeL;rw[dZ (lo+1) n,As,yB,yB,zb,zb,zb];simp only[AZ,BF,List.cons.injEq,true_and];apply zv;intro i _;simp only[DT,Ai];congr 1;omega
theorem cu (n:Nat):Dv.rangeL 0 n=(upto n).map .int:=by rw[dZ];simp[upto]
theorem upto_len (n:Nat):(upto n).length=n:=by simp[upto]
theorem mem_upto {n:Nat}{x:Int}:x∈upto n ↔ 0<=x/\x<n:=by
 unfold upto;rw[zQ]
 constructor
 ·rintro ⟨i,hi,rfl⟩;have:=List.mem_range.mp hi;omega
 ·intro h;exact⟨x.toNat,List.mem_range.mpr ⋯,⋯⟩
theorem bo {x:Nat}{body:SS}{d:D}{r:List D}{st st':St}(h:body (st.set x (.sh d))=.nx st'):forGo x body (d::r) st=forGo x body r st':=by
 conv=>lhs;unfold forGo
 rw[h]
theorem fQ {tgt:D->St->Option St}{body:SS}{d:D}{r:List D}{st st1 st':St}(h0:tgt d st=some st1)(h:body st1=.nx st'):Dv.forGoT tgt body (d::r) st=Dv.forGoT tgt body r st':=by
 conv=>lhs;unfold Dv.forGoT
 rw[h0];simp only[h]
theorem gP {tgt:D->St->Option St}{body:SS}{d:D}{r:List D}{st st1:St}{v:D}{f:Bool}(h0:tgt d st=some st1)(h:body st1=.ret v f):Dv.forGoT tgt body (d::r) st=.ret v f:=by
 conv=>lhs;unfold Dv.forGoT
 rw[h0];simp only[h]
theorem dA {n:Int}(h:1<=n)(h2:n<=60):F_Q07 [.int n]=.ok .non true:=by
 simp only[F_Q07,b_Q07,Dv.fn,sNil,sIf,eOr,eCm,eVar,eInt,Dv.all,R.bind,RL.bind,Out.bind,ar,aj,yB,yJ,yE,yR,List.replicate,yP,yO,yA,Nat.reduceAdd,Nat.reduceSub,ia,nN,decide_eq_false (show ¬ n<1 by omega),decide_eq_false (show ¬ 60<n by omega)]
def dH (b n:Int):List Int->Bool
 | []=>true
 | x::r=>decide (b<x)&&decide (x<n)&&dH x n r
theorem hV:∀ {xs:List Int} {b n:Int},dH b n xs=true ↔ xs.Pairwise (·<·)/\∀ x∈xs,b<x/\x<n
 | [],b,n=>by simp[dH]
 | x::r,b,n=>by
  unfold dH;rw[yL,yL,decide_eq_true_eq,decide_eq_true_eq,hV,List.pairwise_cons]
  constructor
  ·rintro ⟨⟨h1,h2⟩,h3,h4⟩
   refine⟨⟨λ y hy=>(h4 y hy).1,h3⟩,λ y hy=>?_⟩
   rcases List.mem_cons.mp hy with rfl|hy
   ·exact⟨h1,h2⟩
   ·have:=h4 y hy;omega
  ·rintro ⟨⟨h1,h2⟩,h3⟩
   have:=h3 x (yG ..);exact⟨this,h2,λ y hy=>⟨h1 y hy,(h3 y (yF _ hy)).2⟩⟩
theorem beat_iff {n:Int}{xs:List Int}:Beat n xs ↔ xs≠[]/\dH (-1) n xs=true:=by
 rw[hV]
 constructor
 ·intro h;exact⟨h.ne,h.up,λ x hx=>by have:=h.rg x hx;omega⟩
 ·rintro ⟨h1,h2,h3⟩;exact⟨h1,h2,λ x hx=>by have:=h3 x hx;omega⟩
theorem da (n:Int)(A:D):∀ (xs:List Int) (b:Int) (z:Sl),dH b n xs=true->∃ st',forGo 3 b_Q04_l1 (xs.map .int) [.sh A,.sh (.int n),.sh (.int b),z]=.nx st'
 | [],b,z,_=>⟨_,rfl⟩
 | x::r,b,z,hu=>by
  unfold dH at hu;rw[yL,yL,decide_eq_true_eq,decide_eq_true_eq] at hu;obtain⟨⟨h1,h2⟩,h3⟩:=hu;obtain⟨st',h⟩:=da n A r x (.sh (.int x)) h3;refine⟨st',?_⟩;rw[yB,bo (st':=[.sh A,.sh (.int n),.sh (.int x),.sh (.int x)]),h];simp only[b_Q04_l1,sCons,sNil,sSetG,Dv.give,Dv.open_,aF,aw,sIf,eOr,eCm,eVar,Dv.all,R.bind,RL.bind,Out.bind,ar,aj,yB,yJ,yA,yD,yM,yN,yT,yZ,yQ,qG,jm,decide_eq_false (show ¬ x<=b by omega),decide_eq_false (show ¬ n<=x by omega)]
theorem gf {n:Int}{xs:List Int}(h1:xs≠[])(h:dH (-1) n xs=true):F_Q04 [L xs,.int n]=.ok .non true:=by
 obtain⟨st',e⟩:=da n (L xs) xs (-1) .no h;have h1:¬ ((xs.length:Int)=0):=by
  have:=List.length_pos_iff.mpr h1;omega
 simp only[F_Q04,b_Q04,b_Q04_t2,b_Q04_t1,Dv.fn,sCons,sNil,sSet,aM,Dv.give,Dv.open_,aF,aA,aw,sIf,sFor,iSeq,eB1,Dv.lenD,eNeg,eCm,eVar,eInt,Dv.all,R.bind,RL.bind,Out.bind,aW,ar,ak,yB,yJ,yE,yR,List.replicate,yP,yO,yA,yM,yN,yT,yZ,yQ,Nat.reduceAdd,Nat.reduceSub,bP,yC,decide_eq_false h1,e]
theorem cG {n:Int}{xs:List Int}(hn:n<=60)(h:Beat n xs):F_Q02 [.int n,L xs]=.ok .non true:=by
 have e:=gf h.ne (beat_iff.mp h).2;simp only[F_Q02,b_Q02,b_Q02_t1,Dv.fn,sCons,sExpr,eVar,lNil,lCons,eCall,Dv.all,R.bind,RL.bind,Dv.R.bindL,Dv.RL.bindL,Out.bind,ar,aj,ak,yB,yJ,yE,yR,List.replicate,yP,yO,yA,yD,yV,Nat.reduceAdd,Nat.reduceSub,dA h.pos hn,e]
theorem oi {n:Int}(hn:0<n)(A B:D)(s:Int)(beat:List Int)(c:List Int)(hc:c.length=n.toNat)(z:Sl):∃ z',forGo 5 b_Q01_l1 (beat.map .int) [.sh (.int n),.sh A,.sh B,.ow (L c),.sh (.int s),z] =
  .nx [.sh (.int n),.sh A,.sh B,.ow (L ((beat.map λ b=>(b+s)%n).foldl bump c)),.sh (.int s),z']:=by
 induction beat generalizing c z with
 | nil=>exact⟨z,rfl⟩
 | cons b r ih=>
  have hm:=aY (n:=n) (a:=b+s) hn;have hk:(b+s)%n<((c.map D.int).length:Int):=by rw[yC];omega
  obtain⟨z',e⟩:=ih (bump c ((b+s)%n)) (by rw[dt];exact hc) (.sh (.int b));refine⟨z',?_⟩;have e2:(c.map D.int).set ((b+s)%n).toNat (.int (c.getD ((b+s)%n).toNat 0+1))=(bump c ((b+s)%n)).map D.int:=by
   unfold bump;rw[B4]
  rw[yB,yB,yT,bo (st':=[.sh (.int n),.sh A,.sh B,.ow (L (bump c ((b+s)%n))),.sh (.int s),.sh (.int b)])]
  ·exact e
  ·simp only[b_Q01_l1,sAugIx,eOp,eVar,eInt,Dv.all,R.bind,RL.bind,Out.bind,ar,aU,aj,yB,yJ,yA,yD,yM,yN,if_true,bf,au hn,hm.1,nQ hm.1 (show (b+s)%n<(c.length:Int) by omega),e2]
theorem lB {n:Int}(hn:0<n)(B:D)(beat:List Int)(starts:List Int)(c:List Int)(hc:c.length=n.toNat)(z y:Sl):∃ z' y',forGo 4 b_Q01_l2 (starts.map .int) [.sh (.int n),.sh (L beat),.sh B,.ow (L c),z,y] =
  .nx [.sh (.int n),.sh (L beat),.sh B,.ow (L ((hits n beat starts).foldl bump c)),z',y']:=by
 induction starts generalizing c z y with
 | nil=>exact⟨z,y,rfl⟩
 | cons s r ih=>
  obtain⟨y1,e1⟩:=oi hn (L beat) B s beat c hc y;obtain⟨z',y',e⟩:=ih ((beat.map λ b=>(b+s)%n).foldl bump c) (by rw[cc];exact hc) (.sh (.int s)) y1;refine⟨z',y',?_⟩;have e3:hits n beat (s::r)=(beat.map λ b=>(b+s)%n)++hits n beat r:=by simp[hits]
  rw[e3,AS,yB];rw[bo (st':=[.sh (.int n),.sh (L beat),.sh B,.ow (L ((beat.map λ b=>(b+s)%n).foldl bump c)),.sh (.int s),y1])]
  ·exact e
  ·simp only[b_Q01_l2,Dv.give,Dv.open_,aF,aw,aE,sFor,iSeq,eVar,ak,yB,yJ,yA,yD,yM,yN,yT,yZ,yQ,e1]
theorem o6 {n:Int}{beat starts:List Int}(hn:n<=60)(hb:Beat n beat)(hs:Beat n starts):F_Q01 [.int n,L beat,L starts]=.ok (L (tally n.toNat (hits n beat starts))) true:=by
 have hp:=hb.pos;obtain⟨z,y,e⟩:=lB (n:=n) ⋯ (L starts) beat starts (List.replicate n.toNat 0) (by simp) .no .no;simp only[F_Q01,b_Q01,b_Q01_t4,b_Q01_t3,b_Q01_t2,b_Q01_t1,Dv.fn,sCons,sSet,cY,Dv.give,Dv.open_,aF,aA,aw,aE,sRetO,sExpr,sFor,iSeq,eOp,eVar,eInt,eLst,lNil,lCons,eCall,Dv.all,R.bind,RL.bind,Dv.R.bindL,Dv.RL.bindL,Out.bind,aW,ar,aj,ak,yB,yJ,yE,yR,List.replicate,yP,yO,yA,yD,yM,yN,yT,yZ,yQ,yV,zi,Nat.reduceAdd,Nat.reduceSub,cJ,cG hn hb,cG hn hs,jC (x:=0) (show 0<=n by omega) (show n<=100000 by omega),cJ,e,tally]
theorem lZ {n:Int}{beat starts:List Int}(hn:n<=60)(hb:Beat n beat)(hs:Beat n starts):F_Q09 [.int n,L beat,L starts]=.ok (.bl (decide (tally n.toNat (hits n beat starts)=List.replicate n.toNat 1))) true:=by
 have hp:=hb.pos;simp only[F_Q09,b_Q09,Dv.fn,sRet,eCm,eOp,eVar,eInt,eLst,lNil,lCons,eCall,Dv.all,R.bind,RL.bind,Dv.R.bindL,Dv.RL.bindL,Out.bind,ar,aj,ak,yB,yJ,yE,yR,List.replicate,yP,yO,yA,yD,yV,zi,Nat.reduceAdd,Nat.reduceSub,fK,o6 hn hb hs,jC (x:=1) (show 0<=n by omega) (show n<=100000 by omega),fK]
theorem getD_mem {s:List Int}{i:Nat}(h:i<s.length):s.getD i 0∈s:=by
 rw[yI,yH h];exact zt h
theorem eR (x:Int):F_Q0W [.int x]=.ok (.bl true) true:=by
 simp only[F_Q0W,b_Q0W,Dv.fn,sRet,eB1,Dv.isIntD,Dv.isBoolD,eAnd,eNot,eVar,Dv.all,R.bind,RL.bind,Out.bind,ar,aj,yB,yJ,yE,yR,List.replicate,yP,yO,yA,zB,Nat.reduceAdd,Nat.reduceSub]
theorem eY:∀ (xs ys:List Int) (A B:D) (y z:Sl),xs.length=ys.length->∃ st',Dv.forGoT (Dv.tupTo [2,3]) b_Q0D_l1 (List.zipWith (λ x y=>D.tup [x,y]) (xs.map .int) (ys.map .int)) [.sh A,.sh B,y,z]=if xs=ys then .nx st' else .ret (.bl false) true
 | [],[],A,B,y,z,_=>⟨_,rfl⟩
 | [],_::_,A,B,y,z,h=>by simp at h
 | _::_,[],A,B,y,z,h=>by simp at h
 | x::xs,w::ys,A,B,y,z,h=>by
  obtain⟨st',e⟩:=eY xs ys A B (.sh (.int x)) (.sh (.int w)) (by simpa using h);refine⟨st',?_⟩;have h0:Dv.tupTo [2,3] (.tup [.int x,.int w]) [.sh A,.sh B,y,z]=some [.sh A,.sh B,.sh (.int x),.sh (.int w)]:=rfl;rw[yB,yB,A9];by_cases hxw:x=w
  ·rw[fQ h0 (st':=[.sh A,.sh B,.sh (.int x),.sh (.int w)]),e]
   ·simp[hxw]
   ·simp only[b_Q0D_l1,sNil,sIf,eOr,eNot,eCm,eVar,lNil,lCons,eCall,Dv.all,R.bind,RL.bind,Dv.R.bindL,Dv.RL.bindL,Out.bind,ar,aj,yB,yJ,yA,yD,yV,zd,cS,eR,decide_eq_true hxw]
  ·rw[gP h0 (v:=.bl false) (f:=true)]
   ·simp[hxw]
   ·simp only[b_Q0D_l1,sIf,sRet,eOr,eNot,eCm,eVar,eBl,lNil,lCons,eCall,Dv.all,R.bind,RL.bind,Dv.R.bindL,Dv.RL.bindL,Out.bind,ar,aj,yB,yJ,yA,yD,yV,zd,zB,cS,eR,decide_eq_false hxw]
theorem gI (xs ys:List Int):F_Q0D [L xs,L ys]=.ok (.bl (decide (xs=ys))) true:=by
 by_cases h:xs.length=ys.length
 ·obtain⟨st',e⟩:=eY xs ys (L xs) (L ys) .no .no h
  have h1:(xs.length:Int)=ys.length:=⋯
  simp only[F_Q0D,b_Q0D,b_Q0D_t2,b_Q0D_t1,Dv.fn,sCons,sNil,Dv.give,Dv.open_,aF,aA,aw,sIf,sRet,sForT,iZip,eB1,Dv.lenD,Dv.isListD,eOr,eNot,eCm,eVar,eBl,Dv.all,R.bind,RL.bind,Out.bind,aW,ar,ak,yB,yJ,yE,yR,List.replicate,yP,yO,yA,yD,yM,yN,yT,yZ,yQ,zd,Nat.reduceAdd,Nat.reduceSub,decide_true,cS,yC,h1,e];by_cases h2:xs=ys
  ·simp[h2]
  ·simp[h2]
 ·have h1:¬ (xs.length:Int)=ys.length:=⋯
  have h2:¬ xs=ys:=λ z=>h (by rw[z])
  simp only[F_Q0D,b_Q0D,b_Q0D_t2,b_Q0D_t1,Dv.fn,sCons,sIf,sRet,eB1,Dv.lenD,Dv.isListD,eOr,eNot,eCm,eVar,eBl,Dv.all,R.bind,RL.bind,Out.bind,aW,ar,ak,yB,yJ,yE,yR,List.replicate,yP,yO,yA,yD,zd,zB,Nat.reduceAdd,Nat.reduceSub,cS,yC,decide_eq_false h1,decide_eq_false h2]
end Cw
namespace Ts
open Bt
abbrev Sp:=Int×Int
def f2 (p:Sp):List Int:=[p.1,p.2]
def g2 (l:List Int):Sp:=(l.getD 0 0,l.getD 1 0)
theorem wQ (p:Sp):g2 (f2 p)=p:=rfl
theorem qS {p q:Sp}(h:f2 p=f2 q):p=q:=by rw[<- wQ p,h,wQ]
def lt2 (p q:Sp):Prop:=p.1<q.1\/(p.1=q.1/\p.2<q.2)
theorem vf (p q:Sp):Dv.lexLt (f2 p) (f2 q)=true ↔ lt2 p q:=by
 simp only[f2,Dv.lexLt,lt2];by_cases h:p.1=q.1
 ·rw[if_pos h]
  by_cases g:p.2=q.2
  ·simp[h,g]
  ·rw[if_neg g];simp[h]
 ·rw[if_neg h];simp[h]
theorem v7 {p q:Sp}(h:lt2 p q):p≠q:=λ e=>by subst e;rcases h with h|h <;>omega
theorem fD {l:List Sp}(h:l.Pairwise lt2):l.Nodup:=h.imp λ q=>v7 q
theorem map_inj {α β:Type}{f:α->β}(hf:∀ {x y},f x=f y->x=y):∀ {a b:List α},a.map f=b.map f->a=b
 | [],[],_=>rfl
 | [],_::_,h=>by simp at h
 | _::_,[],h=>by simp at h
 | x::a,y::b,h=>by
  simp only[yB,List.cons.injEq] at h;rw[hf h.1,map_inj hf h.2]
theorem eJ {α β:Type}{f:α->β}:∀ {l:List α},l.Nodup->(∀ x∈l,∀ y∈l,f x=f y->x=y)->(l.map f).Nodup
 | [],_,_=>by simp
 | a::l,h,g=>by
  rw[zE] at h;rw[yB,zE];refine⟨λ hm=>?_,eJ h.2 λ x hx y hy=>g x (yF _ hx) y (yF _ hy)⟩;obtain⟨x,hx,e⟩:=List.mem_map.mp hm;have:=g x (yF _ hx) a yG e;subst this;exact h.1 hx
theorem fP {α β:Type}{f:α->β}:∀ {l:List α},(l.map f).Nodup->l.Nodup
 | [],_=>by simp
 | a::l,h=>by
  rw[yB,zE] at h;rw[zE];exact⟨λ hm=>h.1 (List.mem_map.mpr ⟨a,hm,rfl⟩),fP h.2⟩
theorem gB {a b:List Sp}(ha:a.Pairwise lt2)(hb:b.Pairwise lt2)(h:∀ p,p∈a ↔ p∈b):a=b:=by
 refine map_inj (f:=f2) qS (Dv.sorted_one (((zG (fD ha) (fD hb)).mpr h).map _) ?_ ?_)
 ·exact List.pairwise_map.mpr (ha.imp λ q=>Dv.lt_le ((vf _ _).mpr q))
 ·exact List.pairwise_map.mpr (hb.imp λ q=>Dv.lt_le ((vf _ _).mpr q))
def psort (ps:List Sp):List Sp:=(Dv.lsort (ps.map f2)).map g2
theorem hU {α:Type}{f:α->α}:∀ {l:List α},(∀ x∈l,f x=x)->l.map f=l
 | [],_=>rfl
 | x::l,h=>by rw[yB,h x yG,hU λ y hy=>h y (yF _ hy)]
theorem iq (ps:List Sp):Dv.lsort (ps.map f2)=(psort ps).map f2:=by
 unfold psort;rw[zb];refine(hU λ l hl=>?_).symm;obtain⟨p,_,rfl⟩:=List.mem_map.mp ((Dv.lsort_perm _).mem_iff.mp hl);rfl
theorem cp (ps:List Sp):(psort ps).Perm ps:=by
 have h:=(Dv.lsort_perm (ps.map f2)).map g2;rw[zb] at h;have e:ps.map (g2 ∘ f2)=ps:=by
  rw[show (g2 ∘ f2:Sp->Sp)=id from rfl,Bh]
 rw[e] at h;exact h
theorem dU (ps:List Sp):(psort ps).length=ps.length:=(cp ps).length_eq
theorem psort_mem {ps:List Sp}{p:Sp}:p∈psort ps ↔ p∈ps:=(cp ps).mem_iff
theorem gN {ps:List Sp}(nd:ps.Nodup):(psort ps).Pairwise lt2:=by
 have h:=Dv.lsort_sorted (ps.map f2);rw[iq,AV] at h;have n2:=(cp ps).nodup_iff.mpr nd;refine(h.and n2).imp λ {p q} h=>?_
 rw[<- vf];cases e:Dv.lexLt (f2 p) (f2 q) with
 | true=>rfl
 | false=>exact absurd (qS (Dv.lex_tot e h.1)) h.2
structure TB (a b:Int)(ps:List Sp):Prop where
 ne:ps≠[]
 up:ps.Pairwise lt2
 rg:∀ p∈ps,0<=p.1/\p.1<a/\0<=p.2/\p.2<b
theorem TB.nd {a b:Int}{ps:List Sp}(h:TB a b ps):ps.Nodup:=fD h.up
theorem jK {a b:Int}{ps:List Sp}(ne:ps≠[])(nd:ps.Nodup)(rg:∀ p∈ps,0<=p.1/\p.1<a/\0<=p.2/\p.2<b):TB a b (psort ps) where
 ne:=λ e=>ne (by have:=dU ps;rw[e] at this;exact zC this.symm)
 up:=gN nd
 rg:=λ p hp=>rg p (psort_mem.mp hp)
def spots (a b:Int):List Sp:=(Cw.upto a.toNat).flatMap λ x=>(Cw.upto b.toNat).map λ y=>(x,y)
theorem c8 (n:Nat):(Cw.upto n).Pairwise (·<·):=by
 unfold Cw.upto;rw[AV];exact List.pairwise_lt_range.imp λ h=>⋯
theorem iP {a b:Int}{p:Sp}:p∈spots a b ↔ 0<=p.1/\p.1<a/\0<=p.2/\p.2<b:=by
 unfold spots;rw[BK]
 constructor
 ·rintro ⟨x,hx,hp⟩
  obtain⟨y,hy,rfl⟩:=List.mem_map.mp hp;have:=Cw.mem_upto.mp hx;have:=Cw.mem_upto.mp hy;show 0<=x/\x<a/\0<=y/\y<b
  omega
 ·intro h
  exact⟨p.1,Cw.mem_upto.mpr ⋯,List.mem_map.mpr ⟨p.2,Cw.mem_upto.mpr ⋯,rfl⟩⟩
theorem dM (a b:Int):(spots a b).Pairwise lt2:=by
 unfold spots;rw[Bi];refine⟨λ x _=>?_,(c8 _).imp λ {x y} h p hp q hq=>?_⟩
 ·rw[AV]
  exact(c8 _).imp λ h=>.inr ⟨rfl,h⟩
 ·obtain⟨_,_,rfl⟩:=List.mem_map.mp hp
  obtain⟨_,_,rfl⟩:=List.mem_map.mp hq;exact .inl h
theorem i7 {a b:Int}(ha:0<=a)(hb:0<=b):((spots a b).length:Int)=a*b:=by
 unfold spots;rw[Bu];have:∀ l:List Int,(l.map λ x=>((Cw.upto b.toNat).map λ y=>((x,y):Sp)).length).sum=l.length*b.toNat:=by
  intro l
  induction l with
  | nil=>simp
  | cons x l ih=>rw[yB,BV,ih,yC,Cw.upto_len,yE,B9];omega
 rw[this,Cw.upto_len,AD,zF ha,zF hb]
theorem TB.all {a b:Int}{ps:List Sp}(h:TB a b ps):(spots a b).filter (λ p=>decide (p∈ps))=ps:=
 gB ((dM a b).filter _) h.up λ p=>by
  rw[Ao,decide_eq_true_eq,iP];exact⟨λ q=>q.2,λ q=>⟨h.rg p q,q⟩⟩
def vw (a b:Int):Bool:=(Cw.upto a.toNat).all λ x=>(Cw.upto b.toNat).all λ y=>((Cw.upto (a*b).toNat).filter λ k=>decide (k%a=x)&&decide (k%b=y)).length == 1
structure Sides (a b:Int):Prop where
 a0:0<a
 b0:0<b
 le:a*b<=60
 crt:vw a b=true
def phi (a b k:Int):Sp:=(k%a,k%b)
def plc (a b:Int)(p:Sp):Int:=((Cw.upto (a*b).toNat).filter λ k=>decide (k%a=p.1)&&decide (k%b=p.2)).headD 0
section
variable {a b:Int}(h:Sides a b)
include h
theorem ab0:0<a*b:=Cb h.a0 h.b0
theorem jw {p:Sp}(hp:0<=p.1/\p.1<a/\0<=p.2/\p.2<b):((Cw.upto (a*b).toNat).filter λ k=>decide (k%a=p.1)&&decide (k%b=p.2))=[plc a b p]:=by
 have h1:=h.crt;unfold vw at h1;rw[BL] at h1;have h2:=h1 p.1 (Cw.mem_upto.mpr ⋯);rw[BL] at h2;have h3:=h2 p.2 (Cw.mem_upto.mpr ⋯);rw[beq_iff_eq] at h3;obtain⟨k,hk⟩:=List.length_eq_one_iff.mp h3;unfold plc;rw[hk];rfl
theorem dD {p:Sp}(hp:0<=p.1/\p.1<a/\0<=p.2/\p.2<b):0<=plc a b p/\plc a b p<a*b/\phi a b (plc a b p)=p:=by
 have h1:plc a b p∈((Cw.upto (a*b).toNat).filter λ k=>decide (k%a=p.1)&&decide (k%b=p.2)):=by rw[jw h hp];exact List.mem_singleton.mpr rfl
 rw[Ao,yL,decide_eq_true_eq,decide_eq_true_eq] at h1;have:=Cw.mem_upto.mp h1.1;have:=ab0 h;exact⟨⋯,⋯,FQ h1.2.1 h1.2.2⟩
theorem rZ (k:Int):0<=(phi a b k).1/\(phi a b k).1<a/\0<=(phi a b k).2/\(phi a b k).2<b:=by
 have h1:=aY (a:=k) h.a0;have h2:=aY (a:=k) h.b0;exact⟨h1.1,h1.2,h2.1,h2.2⟩
theorem jX {k:Int}(h0:0<=k)(h1:k<a*b):plc a b (phi a b k)=k:=by
 have h2:k∈((Cw.upto (a*b).toNat).filter λ j=>decide (j%a=(phi a b k).1)&&decide (j%b=(phi a b k).2)):=by
  rw[Ao,yL,decide_eq_true_eq,decide_eq_true_eq];exact⟨Cw.mem_upto.mpr ⋯,rfl,rfl⟩
 rw[jw h (rZ h k)] at h2;exact(List.mem_singleton.mp h2).symm
theorem fu {j k:Int}(h0:0<=j)(h1:j<a*b)(h2:0<=k)(h3:k<a*b)(e:phi a b j=phi a b k):j=k:=by
 rw[<- jX h h0 h1,e,jX h h2 h3]
def flat (a b:Int)(ps:List Sp):List Int:=(Cw.upto (a*b).toNat).filter λ k=>decide (phi a b k∈ps)
theorem bq {ps:List Sp}{k:Int}:k∈flat a b ps ↔ 0<=k/\k<a*b/\phi a b k∈ps:=by
 unfold flat;rw[Ao,Cw.mem_upto,decide_eq_true_eq];have:=ab0 h
 constructor
 ·rintro ⟨h1,h2⟩;exact⟨⋯,⋯,h2⟩
 ·rintro ⟨h1,h2,h3⟩;exact⟨⋯,h3⟩
theorem bg {ps:List Sp}(t:TB a b ps):Beat (a*b) (flat a b ps) where
 ne:=λ e=>by
  obtain⟨p,r,q⟩:=AL t.ne;have hp:p∈ps:=by rw[q];exact yG
  obtain⟨h1,h2,h3⟩:=dD h (t.rg p hp);have:plc a b p∈flat a b ps:=(bq h).mpr ⟨h1,h2,by rw[h3];exact hp⟩;rw[e] at this;cases this
 up:=(c8 _).filter _
 rg:=λ x hx=>let ⟨h1,h2,_⟩:=(bq h).mp hx;⟨h1,h2⟩
theorem ku {ps:List Sp}(t:TB a b ps):Dv.isort (ps.map (plc a b))=flat a b ps:=by
 have nd:(ps.map (plc a b)).Nodup:=eJ t.nd λ p hp q hq e=>by
  rw[<- (dD h (t.rg p hp)).2.2,e,(dD h (t.rg q hq)).2.2]
 refine bD ((aI _).trans ((zG nd (bg h t).nd).mpr λ k=>?_)) (aX _) ((bg h t).up.imp λ q=>⋯);rw[bq h,zQ]
 constructor
 ·rintro ⟨p,hp,rfl⟩
  obtain⟨h1,h2,h3⟩:=dD h (t.rg p hp);exact⟨h1,h2,by rw[h3];exact hp⟩
 ·rintro ⟨h1,h2,h3⟩
  exact⟨_,h3,jX h h1 h2⟩
theorem mO {ps:List Sp}(t:TB a b ps):psort ((flat a b ps).map (phi a b))=ps:=by
 have nd:((flat a b ps).map (phi a b)).Nodup:=eJ (bg h t).nd λ j hj k hk e=>by
  obtain⟨h1,h2,_⟩:=(bq h).mp hj;obtain⟨h3,h4,_⟩:=(bq h).mp hk;exact fu h h1 h2 h3 h4 e
 refine gB (gN nd) t.up λ p=>?_
 rw[psort_mem,zQ]
 constructor
 ·rintro ⟨k,hk,rfl⟩;exact((bq h).mp hk).2.2
 ·intro hp
  obtain⟨h1,h2,h3⟩:=dD h (t.rg p hp);exact⟨_,(bq h).mpr ⟨h1,h2,by rw[h3];exact hp⟩,h3⟩
theorem g8 {ps:List Sp}(t:TB a b ps):(flat a b ps).length=ps.length:=by
 have:=congrArg List.length (ku h t);rw[dX,yC] at this;exact this.symm
end
end Ts
namespace Bt
open Dv (ins isort)
structure Fill (n:Int)(a b:List Int):Prop where
 one:Beat n a
 oth:Beat n b
 len:((a.length*b.length:Nat):Int)=n
 inj:∀ x∈a,∀ y∈a,∀ s∈b,∀ t∈b,(x+s)%n=(y+t)%n->x=y/\s=t
theorem qf {a b:List Int}(p:a.Perm b){x:Int}(h:x∈a):x∈b:=p.mem_iff.mp h
theorem kr (n:Int)(a:List Int):∀ b:List Int,(hits n a b).length=a.length*b.length
 | []=>by simp[hits]
 | s::r=>by
  have e:hits n a (s::r)=(a.map λ b=>(b+s)%n)++hits n a r:=by simp[hits]
  rw[e,yY,yC,kr n a r,yE,Ap,AF]
theorem qo:∀ {xs:List Int} {lo:Int},xs.Pairwise (·<·)->(∀ x∈xs,lo<=x/\x<lo+xs.length)->xs=(List.range xs.length).map λ (i:Nat)=>lo+(i:Int)
 | [],_,_,_=>rfl
 | x::r,lo,h,g=>by
  obtain⟨h1,h2⟩:=List.pairwise_cons.mp h;have gx:=g x (yG ..);have l:=lR (lo:=x+1) (hi:=lo+((x::r).length:Int)) h2 λ y hy=>⟨h1 y hy,(g y (yF _ hy)).2⟩
  rw[yE] at l gx;have ex:x=lo:=by
   rw[BR] at l gx;omega
  subst ex;rw[yE,As,yB,zb];have:=qo (xs:=r) (lo:=x+1) h2 λ y hy=>by
   have g1:=g y (yF _ hy);have g2:=h1 y hy;rw[yE,BR] at g1;omega
  conv=>lhs;rw[this]
  simp only[AZ,BF,List.cons.injEq,true_and];apply zv;intro i _;simp only[DT,Ai];omega
theorem kK {n:Nat}{ps:List Int}(nd:ps.Nodup)(rg:∀ p∈ps,0<=p/\p<n)(hl:ps.length=n):ps.Perm ((List.range n).map λ (i:Nat)=>(i:Int)):=by
 have h1:=uU (aX ps) ((aI ps).nodup_iff.mpr nd);have h2:=qo (lo:=0) h1 λ x hx=>by
  have:=rg x (qf (aI ps) hx);rw[dX,hl];omega
 rw[dX,hl] at h2;have h3:=(aI ps).symm;rw[h2] at h3;simpa using h3
theorem count_range (n i:Nat)(h:i<n):((List.range n).map λ (i:Nat)=>(i:Int)).count (i:Int)=1:=by
 have nd:((List.range n).map λ (i:Nat)=>(i:Int)).Nodup:=List.pairwise_map.mpr (List.pairwise_lt_range.imp λ {a b} h=>⋯);have h1:=(List.nodup_iff_count.mp nd) (i:Int);have h2:=List.count_pos_iff.mpr (List.mem_map.mpr ⟨i,List.mem_range.mpr h,rfl⟩:(i:Int)∈(List.range n).map λ (i:Nat)=>(i:Int));omega
end Bt
namespace Ts
open Bt
open Dv (aq nodupB)
def mvd (a b r u:Int)(ps:List Sp):List Sp:=psort (ps.map λ p=>((p.1+r)%a,(p.2+u)%b))
theorem gg {a b:Int}(ha:0<a)(hb:0<b)(x y:Int):0<=((x%a,y%b):Sp).1/\((x%a,y%b):Sp).1<a/\0<=((x%a,y%b):Sp).2/\((x%a,y%b):Sp).2<b:=by
 have h1:=aY (a:=x) ha;have h2:=aY (a:=y) hb;exact⟨h1.1,h1.2,h2.1,h2.2⟩
theorem wb {a b r u:Int}(ha:0<a)(hb:0<b){p q:Sp}(hp:0<=p.1/\p.1<a/\0<=p.2/\p.2<b)(hq:0<=q.1/\q.1<a/\0<=q.2/\q.2<b)
  (e:(((p.1+r)%a,(p.2+u)%b):Sp)=((q.1+r)%a,(q.2+u)%b)):p=q:=by
 simp only[Prod.mk.injEq] at e;exact FQ (j6 ha ⟨hp.1,hp.2.1⟩ ⟨hq.1,hq.2.1⟩ e.1) (j6 hb hp.2.2 hq.2.2 e.2)
theorem xj {a b r u:Int}(ha:0<a)(hb:0<b){ps:List Sp}(nd:ps.Nodup)(rg:∀ p∈ps,0<=p.1/\p.1<a/\0<=p.2/\p.2<b):(ps.map λ p=>(((p.1+r)%a,(p.2+u)%b):Sp)).Nodup:=
 eJ nd λ p hp q hq e=>wb ha hb (rg p hp) (rg q hq) e
theorem lI {a b r u:Int}(ha:0<a)(hb:0<b){ps:List Sp}(ne:ps≠[])(nd:ps.Nodup)(rg:∀ p∈ps,0<=p.1/\p.1<a/\0<=p.2/\p.2<b):TB a b (mvd a b r u ps):=
 jK (by simpa using ne) (xj ha hb nd rg) λ p hp=>by
  obtain⟨q,_,rfl⟩:=List.mem_map.mp hp;exact gg ha hb _ _
theorem ny (a b r u:Int)(ps:List Sp):(mvd a b r u ps).length=ps.length:=by unfold mvd;rw[dU,yC]
section
variable {a b:Int}(h:Sides a b)
include h
theorem tM (k:Int):phi a b (k%(a*b))=phi a b k:=by
 unfold phi;rw[AC k (Int.dvd_mul_right a b),AC k (Int.dvd_mul_left a b)]
theorem nj (j k:Int):phi a b ((j+k)%(a*b))=(((phi a b j).1+(phi a b k).1)%a,((phi a b j).2+(phi a b k).2)%b):=by
 rw[tM h];unfold phi;rw[B5 j k a,B5 j k b]
theorem qR {ps:List Sp}(t:TB a b ps){r u c:Int}(hc:phi a b c=(r%a,u%b)):flat a b (mvd a b r u ps)=Dv.isort ((flat a b ps).map λ x=>(x+c)%(a*b)):=by
 have t2:=lI (r:=r) (u:=u) h.a0 h.b0 t.ne t.nd t.rg;have b2:Beat (a*b) (Dv.isort ((flat a b ps).map λ x=>(x+c)%(a*b))):=o3 (bg h t);have n0:=ab0 h;refine bD ((zG (bg h t2).nd b2.nd).mpr λ k=>?_) ((bg h t2).up.imp λ q=>⋯) (b2.up.imp λ q=>⋯);rw[bq h,(aI _).mem_iff,zQ];have key:∀ j,phi a b ((j+c)%(a*b))=(((phi a b j).1+r)%a,((phi a b j).2+u)%b):=λ j=>by
  rw[nj h,hc];simp only[Int.add_emod_emod]
 constructor
 ·rintro ⟨h1,h2,h3⟩
  unfold mvd at h3;rw[psort_mem,zQ] at h3;obtain⟨p,hp,e⟩:=h3;obtain⟨p1,p2,p3⟩:=dD h (t.rg p hp);refine⟨plc a b p,(bq h).mpr ⟨p1,p2,by rw[p3];exact hp⟩,?_⟩;have g:=aY (a:=plc a b p+c) n0;refine fu h g.1 g.2 h1 h2 ?_
  rw[key,p3,<- e]
 ·rintro ⟨j,hj,rfl⟩
  obtain⟨j1,j2,j3⟩:=(bq h).mp hj;have g:=aY (a:=j+c) n0;refine⟨g.1,g.2,?_⟩;unfold mvd;rw[psort_mem,key];exact List.mem_map.mpr ⟨_,j3,rfl⟩
end
theorem gO:∀ l:List Sp,nodupB l=decide l.Nodup
 | []=>by simp[nodupB]
 | p::l=>by
  unfold nodupB;rw[gO l,zm];simp[zE]
theorem nO {n:Nat}{ps:List Int}(rg:∀ p∈ps,0<=p/\p<n):tally n ps=List.replicate n 1 ↔ ps.Nodup/\ps.length=n:=by
 rw[sr n λ p hp=>(rg p hp).1]
 constructor
 ·intro e
  have c1:∀ i:Nat,i<n->ps.count (i:Int)=1:=λ i hi=>by
   have h2:=congrArg (λ l=>l[i]?) e;simp[ze,z0 hi,Aa,hi] at h2;omega
  have pm:ps.Perm ((List.range n).map λ (i:Nat)=>(i:Int)):=by
   rw[List.perm_iff_count];intro x;by_cases hx:0<=x/\x<n
   ·obtain⟨i,rfl⟩:=Int.eq_ofNat_of_zero_le hx.1
    rw[c1 i ⋯];exact(count_range n i ⋯).symm
   ·rw[List.count_eq_zero.mpr λ hm=>hx (rg x hm),List.count_eq_zero.mpr λ hm=>?_]
    obtain⟨i,hi,rfl⟩:=List.mem_map.mp hm;have:=List.mem_range.mp hi;exact hx ⋯
  refine⟨pm.nodup_iff.mpr ?_,by have:=pm.length_eq;simpa using this⟩;exact(c8 n).imp λ {x y} h e=>⋯
 ·rintro ⟨nd,hl⟩
  have pm:=kK nd rg hl;refine Ax (by simp) λ i h1 h2=>?_
  simp only[yC,zA] at h1;simp only[zK,Bx,List.getElem_replicate];rw[pm.count_eq,count_range n i h1];rfl
theorem iS (a b:Int)(ps:List Sp):∀ ss:List Sp,(aq a b ps ss).length=ps.length*ss.length
 | []=>by simp[aq]
 | s::ss=>by
  have ih:=iS a b ps ss;unfold aq at ih ⊢;rw[zP,yY,ih,yC,yE,Ap,AF]
theorem dj {α β:Type}{f g:α->List β}:∀ {l:List α},(∀ x∈l,(f x).Perm (g x))->(l.flatMap f).Perm (l.flatMap g)
 | [],_=>.refl _
 | x::l,h=>by
  rw[zP,zP];exact(h x yG).append (dj λ y hy=>h y (yF _ hy))
theorem mn {a b:Int}{ps qs ss ts:List Sp}(h1:ps.Perm qs)(h2:ss.Perm ts):(aq a b ps ss).Perm (aq a b qs ts):=by
 unfold aq;exact(dj λ s _=>h1.map _).trans (h2.flatMap_right _)
section
variable {a b:Int}(h:Sides a b)
include h
theorem kC (F:List Int):∀ S:List Int,(hits (a*b) F S).map (phi a b)=aq a b (F.map (phi a b)) (S.map (phi a b))
 | []=>by simp[hits,aq]
 | s::S=>by
  have ih:=kC F S;unfold hits aq at ih ⊢;rw[zP,Af,ih,yB,zP,zb,zb];congr 1;exact zv λ k _=>nj h k s
theorem iZ {ps:List Sp}(t:TB a b ps):((flat a b ps).map (phi a b)).Perm ps:=by
 have:=cp ((flat a b ps).map (phi a b));rw[mO h t] at this;exact this.symm
theorem eB {ps ss:List Sp}(t:TB a b ps)(t2:TB a b ss):((hits (a*b) (flat a b ps) (flat a b ss)).map (phi a b)).Perm (aq a b ps ss):=by
 rw[kC h];exact mn (iZ h t) (iZ h t2)
theorem nB {ps ss:List Sp}(t:TB a b ps)(t2:TB a b ss):(hits (a*b) (flat a b ps) (flat a b ss)).Nodup ↔ (aq a b ps ss).Nodup:=by
 rw[<- (eB h t t2).nodup_iff];refine⟨λ nd=>eJ nd λ j hj k hk e=>?_,fP⟩;have h1:=gi (ab0 h) j hj;have h2:=gi (ab0 h) k hk;exact fu h h1.1 h1.2 h2.1 h2.2 e
theorem gU:((Cw.upto (a*b).toNat).map (phi a b)).Perm (spots a b):=by
 have n0:=ab0 h;refine(zG (eJ ((c8 _).imp λ {x y} h e=>⋯) λ j hj k hk e=>?_) (fD (dM a b))).mpr λ p=>?_
 ·have h1:=Cw.mem_upto.mp hj;have h2:=Cw.mem_upto.mp hk
  exact fu h ⋯ ⋯ ⋯ ⋯ e
 ·rw[zQ,iP]
  constructor
  ·rintro ⟨k,_,rfl⟩;exact rZ h k
  ·intro hp
   obtain⟨h1,h2,h3⟩:=dD h hp;exact⟨_,Cw.mem_upto.mpr ⋯,h3⟩
def dw (a b:Int)(ps ss:List Sp):Bool:=decide (((ps.length*ss.length:Nat):Int)=a*b)&&nodupB (aq a b ps ss)
theorem nM {ps ss:List Sp}(t:TB a b ps)(t2:TB a b ss):(hits (a*b) (flat a b ps) (flat a b ss)).Nodup/\(hits (a*b) (flat a b ps) (flat a b ss)).length=(a*b).toNat ↔ dw a b ps ss=true:=by
 have n0:=ab0 h;unfold dw;rw[gO,yL,decide_eq_true_eq,decide_eq_true_eq,nB h t t2,kr,g8 h t,g8 h t2]
 constructor
 ·rintro ⟨h1,h2⟩;exact⟨by rw[h2];omega,h1⟩
 ·rintro ⟨h1,h2⟩;exact⟨h2,⋯⟩
theorem iC {ps ss:List Sp}(t:TB a b ps)(t2:TB a b ss):decide (tally (a*b).toNat (hits (a*b) (flat a b ps) (flat a b ss))=List.replicate (a*b).toNat 1)=dw a b ps ss:=by
 have n0:=ab0 h;rw[zm,decide_eq_true_eq,<- nM h t t2];exact nO λ p hp=>by have:=gi n0 p hp;omega
theorem lA {ps ss:List Sp}(t:TB a b ps)(t2:TB a b ss):decide (psort (aq a b ps ss)=spots a b)=dw a b ps ss:=by
 have n0:=ab0 h;rw[zm,decide_eq_true_eq,<- nM h t t2]
 constructor
 ·intro e
  have pm:=(cp (aq a b ps ss)).symm;rw[e] at pm;have hl:=i7 (a:=a) (b:=b) (by have:=h.a0;omega) (by have:=h.b0;omega);have h1:=pm.length_eq;have h2:=(eB h t t2).length_eq;rw[yC] at h2;exact⟨(nB h t t2).mpr (pm.nodup_iff.mpr (fD (dM a b))),⋯⟩
 ·rintro ⟨nd,hl⟩
  have pm:=kK nd (λ p hp=>by have:=gi n0 p hp;omega) hl;have p2:=(eB h t t2).symm.trans ((pm.map (phi a b)).trans (gU h));exact gB (gN (p2.nodup_iff.mpr (fD (dM a b)))) (dM a b) λ p=>by rw[psort_mem];exact p2.mem_iff
end
def sidesL:List Sp:=[(1,1),(2,3),(3,4),(4,3),(3,5),(5,4),(2,9),(7,8),(5,12),(1,60),(60,1),(4,15),(9,2),(8,7),(5,6),(6,5),(3,20),(12,5),(2,29),(4,5),(1,7)]
theorem nR:(sidesL.all λ p=>decide (0<p.1)&&decide (0<p.2)&&decide (p.1*p.2<=60)&&vw p.1 p.2)=true:=by decide +kernel
theorem kG {p:Sp}(hp:p∈sidesL):Sides p.1 p.2:=by
 have h:=List.all_eq_true.mp nR p hp;simp only[yL,decide_eq_true_eq] at h;exact⟨h.1.1.1,h.1.1.2,h.1.2,h.2⟩
section
variable {a b:Int}
theorem Sides.a60 (h:Sides a b):a<=60:=by
 have h1:=h.le;have h2:=h.b0;have h3:=h.a0;have:a*1<=a*b:=zk ⋯ ⋯;omega
theorem Sides.b60 (h:Sides a b):b<=60:=by
 have h1:=h.le;have h2:=h.b0;have h3:=h.a0;have:1*b<=a*b:=Int.mul_le_mul_of_nonneg_right ⋯ ⋯;omega
end
end Ts
namespace Cw
open Dv (Out R RL cmD eB1 eCm eInt eIx eLst eOp eOr ePart eSlice eVar forGo iRange lCons lNil opD rngOk sApp sCons sFor sIf sPut sRet sRetO sSet)
open Dv (D R RL EE EL EI RI Sl Out SS St)
open Bt
theorem pL (xs:List Int)(p:Int):xs.map D.int++[.int p]=(xs++[p]).map D.int:=by simp
theorem c8 (n:Nat):(upto n).Pairwise (·<·):=by
 unfold upto;exact List.pairwise_map.mpr (List.pairwise_lt_range.imp λ {a b} h=>⋯)
theorem vJ {n:Int}(h:0<=n)(h2:n<=1000):rngOk n=true:=by
 simp only[rngOk,yL,decide_eq_true_eq];omega
def Hs (s:Sl)(a:List Int):Prop:=s=.sh (L a)\/s=.ow (L a)
theorem Hs.get {s:Sl}{a:List Int}(h:Hs s a):s.get=some (L a):=by rcases h with h|h <;>(subst h;rfl)
theorem Hs.give {s:Sl}{a:List Int}(h:Hs s a):s.give=.sh (L a):=by rcases h with h|h <;>(subst h;rfl)
theorem wR (xs:List Int)(lo hi:Option Int):Dv.cutL (xs.map D.int) lo hi=(Dv.cutL xs lo hi).map D.int:=by
 unfold Dv.cutL;rw[yC,BW,Bv]
theorem nA (xs:List Int)(f:Bool)(lo hi:Option Int):Dv.sliceD (L xs) f lo hi=.ok (L (Dv.cutL xs lo hi)) true:=by
 unfold Dv.sliceD;simp only[wR,cJ,zH]
theorem lG:opD .pow (.int 10) (.int 30)=.ok (.int 1000000000000000000000000000000) true:=by
 simp[Dv.opD_ai,Dv.opD_al,Dv.opD_su,Dv.opD_mi,Dv.opD_ml,Dv.opD_mo,Dv.opD_fd,Dv.opD_po,Dv.opD_ba,Dv.opD_sh]
theorem mh {s:List Int}{m k:Int}{lf fd:List Int}(hk:0<=k)(hk2:k<=1000)(hl:0<lf.length)(hf:fd.length<=1000)(z5 z6 z7:Sl):
  ∃ lf' d y5 y6 y7,b_Q0H_l1 [.sh (L s),.sh (.int m),.ow (L lf),.ow (L fd),.sh (.int k),z5,z6,z7]=.nx [.sh (L s),.sh (.int m),.ow (L lf'),.ow (L (fd++[d])),.sh (.int k),y5,y6,y7]/\lf'.length=lf.length/\0<=d/\d<1000000000000000000000000000000:=by
 have hl':(0:Int)<(lf.length:Int):=⋯
 have hat:=aY (n:=(lf.length:Int)) (a:=k) hl';generalize hx:lf.getD (k%(lf.length:Int)).toNat 0=x;have hmx:fd.length<Dv.mx:=by unfold Dv.mx;omega
 have h0:=nQ hat.1 hat.2;rw[hx] at h0;by_cases hb:x ≥ 1000000000000000000000000000000\/x<0-1000000000000000000000000000000
 ·have hm:=aY (n:=1000000000000000000000000000000) (a:=x) ⋯
  refine⟨lf.set (k%(lf.length:Int)).toNat (x/1000000000000000000000000000000),x%1000000000000000000000000000000,.sh (.int (k%(lf.length:Int))),z6,z7,?_,by rw[zx],hm.1,hm.2⟩;have e2:(lf.map D.int).set (k%(lf.length:Int)).toNat (.int (x/1000000000000000000000000000000))=(lf.set (k%(lf.length:Int)).toNat (x/1000000000000000000000000000000)).map D.int:=by rw[B4]
  by_cases h1:1000000000000000000000000000000<=x
  ·simp only[b_Q0H_l1,sCons,sSet,aM,sIf,sApp,sPut,eB1,Dv.lenD,eIx,Dv.ixD,eOr,eCm,eOp,eVar,eInt,Dv.all,R.bind,RL.bind,Out.bind,ar,aU,aj,ak,yB,yJ,yA,yD,yM,yN,zH,yV,if_true,jm,yC,au hl',h0,lG,decide_eq_true h1,au (j:=1000000000000000000000000000000) (by decide),decide_eq_true hmx,aT (j:=1000000000000000000000000000000) (by decide) (by decide),decide_eq_true hat.1,decide_eq_true hat.2,e2,pL]
  ·have h2:x<0-1000000000000000000000000000000:=⋯
   simp only[b_Q0H_l1,sCons,sSet,aM,sIf,sApp,sPut,eB1,Dv.lenD,eIx,Dv.ixD,eOr,eCm,eOp,eVar,eInt,Dv.all,R.bind,RL.bind,Out.bind,ar,aU,aj,ak,yB,yJ,yA,yD,yM,yN,zH,yV,if_true,gL,ia,jm,yC,au hl',h0,lG,decide_eq_false h1,decide_eq_true h2,au (j:=1000000000000000000000000000000) (by decide),decide_eq_true hmx,aT (j:=1000000000000000000000000000000) (by decide) (by decide),decide_eq_true hat.1,decide_eq_true hat.2,e2,pL]
 ·have h1:¬ 1000000000000000000000000000000<=x:=⋯
  have h2:¬ x<0-1000000000000000000000000000000:=⋯
  have m1:=aY (n:=2147483647) (a:=x*48271+k*k*16807+7919*k+5) ⋯;generalize ho:(x*48271+k*k*16807+7919*k+5)%2147483647=one at m1;have m2:=aY (n:=2147483629) (a:=one*one+k*39373) ⋯;generalize ht:(one*one+k*39373)%2147483629=other at m2;have m3:=aY (n:=2147483587) (a:=one*other) ⋯;refine⟨lf,one*other%2147483587*2147483629+other,.sh (.int (k%(lf.length:Int))),.sh (.int one),.sh (.int other),?_,rfl,⋯,⋯⟩;simp only[b_Q0H_l1,sCons,sSet,aM,sIf,sApp,eB1,Dv.lenD,eIx,Dv.ixD,eOr,eCm,eOp,eVar,eInt,Dv.all,R.bind,RL.bind,Out.bind,ar,aU,aj,ak,yB,yJ,yA,yD,yM,yN,zH,yV,if_true,bf,gL,ia,jm,yC,au hl',h0,lG,decide_eq_false h1,decide_eq_false h2,bI (cD (j:=48271) (by decide) (by decide)),bI (dR (i:=k) (j:=k) ⋯ ⋯),bI (cD (j:=16807) (by decide) (by decide)),bI (dR (i:=7919) (by decide) (by decide)),au (j:=2147483647) (by decide),ho,bI (dR (i:=one) (j:=one) ⋯ ⋯),bI (cD (j:=39373) (by decide) (by decide)),au (j:=2147483629) (by decide),ht,bI (dR (i:=one) (j:=other) ⋯ ⋯),au (j:=2147483587) (by decide),bI (cD (j:=2147483629) (by decide) (by decide)),decide_eq_true hmx,pL]
theorem ik {s:List Int}{m:Int}:∀ (ks lf fd:List Int) (z4 z5 z6 z7:Sl),(∀ k∈ks,0<=k/\k<=1000)->0<lf.length->fd.length+ks.length<=1000->(∀ d∈fd,0<=d/\d<1000000000000000000000000000000) ->
  ∃ lf' fd' y4 y5 y6 y7,forGo 4 b_Q0H_l1 (ks.map .int) [.sh (L s),.sh (.int m),.ow (L lf),.ow (L fd),z4,z5,z6,z7]=.nx [.sh (L s),.sh (.int m),.ow (L lf'),.ow (L fd'),y4,y5,y6,y7]/\fd'.length=fd.length+ks.length/\∀ d∈fd',0<=d/\d<1000000000000000000000000000000
 | [],lf,fd,z4,z5,z6,z7,_,_,_,h=>⟨lf,fd,z4,z5,z6,z7,rfl,by simp,h⟩
 | k::r,lf,fd,z4,z5,z6,z7,hk,hl,hf,h=>by
  rw[yE] at hf;have hk0:=hk k (yG ..);obtain⟨lf1,d,y5,y6,y7,e1,l1,d0,d1⟩:=mh (s:=s) (m:=m) (fd:=fd) hk0.1 hk0.2 hl ⋯ z5 z6 z7;obtain⟨lf2,fd2,x4,x5,x6,x7,e2,l2,h2⟩:=ik (s:=s) (m:=m) r lf1 (fd++[d]) (.sh (.int k)) y5 y6 y7 (λ x hx=>hk x (yF _ hx)) ⋯ (by simp;omega) (λ x hx=>by
   rcases List.mem_append.mp hx with hx|hx
   ·exact h x hx
   ·rw[Bz] at hx;subst hx;exact⟨d0,d1⟩)
  refine⟨lf2,fd2,x4,x5,x6,x7,?_,by rw[l2];simp;omega,h2⟩;rw[yB,bo (st':=[.sh (L s),.sh (.int m),.ow (L lf1),.ow (L (fd++[d])),.sh (.int k),y5,y6,y7])]
  ·exact e2
  ·simp only[yN,yM];exact e1
theorem sq {s:List Int}(hs:s.length<=63){m:Int}(hm:0<=m)(hm2:m<=900):∃ ds,F_Q0H [L s,.int m]=.ok (L ds) true/\(ds.length:Int)=m/\∀ d∈ds,0<=d/\d<1000000000000000000000000000000:=by
 have hcut:Dv.cutL s none (some 63)=s:=by
  unfold Dv.cutL Dv.cutI;simp only[Bl,B6];exact zD (by simp;omega)
 have hsl:=nA s false none (some 63);rw[hcut] at hsl;have hleft:∃ lf:List Int,0<lf.length/\F_Q0H [L s,.int m]=(match b_Q0H_t1 [.sh (L s),.sh (.int m),.ow (L lf),.no,.no,.no,.no,.no] with | .nx _=>.ok .non true | .ret d f=>.ok d f | .exc c _=>.exc c|_=>.bad):=by
  by_cases hz:s=[]
  ·subst hz
   refine⟨[0],by simp,?_⟩;have q:cmD .eq (.lst []) (.lst [])=.ok (.bl true) true:=fK [] [];have c:=qj (a:=[]) (b:=[0]) (by simp);have r1:=jC (x:=0) (n:=1) ⋯ ⋯;simp only[L,yJ,yB,yO,Int.toNat_one,List.replicate] at q c r1 hsl;simp only[F_Q0H,b_Q0H,b_Q0H_t3,b_Q0H_t2,b_Q0H_t1,b_Q0H,Dv.fn,sCons,sSet,keep_nil,Dv.give,Dv.open_,aA,aw,aE,sRetO,sFor,iRange,eB1,Dv.intD,eCm,eOp,eVar,eInt,eLst,lNil,lCons,eSlice,ePart,Dv.all,R.bind,RL.bind,Dv.R.bindL,Dv.RL.bindL,Out.bind,aW,ar,aj,ak,yB,yJ,yE,yR,List.replicate,yP,yO,yA,yD,yM,yN,yZ,yV,if_true,Nat.reduceAdd,Nat.reduceSub,decide_true,jL,hsl,q,r1,c]
   all_goals rfl
  ·refine⟨s,List.length_pos_iff.mpr hz,?_⟩
   have c:=qj (a:=s) (b:=[]) (by simp;omega);have r1:=jC (x:=0) (n:=0) ⋯ ⋯;rw[Al] at c;simp only[L,yJ,Int.toNat_zero,List.replicate] at c r1;simp only[F_Q0H,b_Q0H,b_Q0H_t3,b_Q0H_t2,b_Q0H_t1,Dv.fn,sCons,sSet,cY,keep_nil,Dv.give,Dv.open_,aA,aw,aE,sRetO,sFor,iRange,eB1,Dv.intD,eCm,eOp,eVar,eInt,eLst,lNil,lCons,eSlice,ePart,Dv.all,R.bind,RL.bind,Dv.R.bindL,Dv.RL.bindL,Out.bind,aW,ar,aj,ak,yB,yJ,yE,yR,List.replicate,yP,yO,yA,yD,yM,yN,yZ,yV,if_false,Nat.reduceAdd,Nat.reduceSub,yK,jL,hsl,decide_eq_false hz,yK,if_false,r1,c]
   all_goals rfl
 obtain⟨lf,hlf,e0⟩:=hleft;obtain⟨lf',ds,y4,y5,y6,y7,e,l,h⟩:=ik (s:=s) (m:=m) (upto m.toNat) lf [] .no .no .no .no (λ k hk=>by have:=mem_upto.mp hk;omega) hlf (by rw[upto_len];simp;omega) (by simp);refine⟨ds,?_,by rw[l,upto_len];simp;omega,h⟩;simp only[yJ,L] at e;rw[e0];simp only[b_Q0H_t1,b_Q0H_t2,b_Q0H_t3,sCons,sSet,keep_nil,Dv.give,Dv.open_,aA,aw,aE,sRetO,sFor,iRange,eVar,eLst,lNil,R.bind,RL.bind,Out.bind,aj,yB,yJ,yA,yD,yM,yN,yZ,if_true,cJ,Dv.flatL,vJ (n:=m) ⋯ ⋯,cu,e]
structure Fu (n:Int)(a b:List Int):Prop where
 nd:b.Nodup
 rg:∀ x∈b,0<=x/\x<n
 fl:Fill n a (Dv.isort b)
def fW (s:List Int)(k:Int):Int:=s.getD k.toNat 0
theorem gH {s:List Int}{k:Int}(h:0<=k)(h2:k<s.length):F_Q0F [L s,.int k]=.ok (.int (fW s k)) true:=by
 simp only[F_Q0F,b_Q0F,Dv.fn,sRet,eIx,Dv.ixD,eVar,Dv.all,R.bind,RL.bind,Out.bind,ar,aj,ak,yB,yJ,yE,yR,List.replicate,yP,yO,yA,yD,zH,Nat.reduceAdd,Nat.reduceSub,nQ h h2,fW]
end Cw
namespace Pl
def co (a:List Int)(i:Nat):Int:=a.getD i 0
def sh (f:Nat->Int):Nat->Int
 | 0=>0
 | p+1=>f p
def cf:List Int->(Nat->Int)->Nat->Int
 | [],_,_=>0
 | x::r,g,p=>x*g p+sh (cf r g) p
end Pl
namespace Cw
open Dv (Out R RL cmD bG eAnd eB1 eB2 eB3 eBl eCall eCm eComp my eIf eInt eIx eLst eNeg vm eNot eOp eOr ePart eSlice wd eTup eVar forGo qu qB iRange iRange2 iSeq iZip keepD lCons lNil opD rngOk sApp sAppF sAppG vD sAugIx sClear sCons sExpr u7 sExtF sFills sFor rk sForT sIf sNil sPar pH vn p7 lN sPut sRet su sRetO sSet qQ sSetF sSetG jB sUnpackL sWhile)
open Dv (D R RL EE EL EI RI Sl Out SS St)
open Bt
open Pl (co cf sh)
def cZ (n:Int):List Int:=(List.range n.toNat).map λ (i:Nat)=>1+(i:Int)
def divs (n:Int):List Int:=(cZ n).filter λ d=>decide (n%d=0)
theorem mem_divs {n d:Int}:d∈divs n ↔ 1<=d/\d<=n/\n%d=0:=by
 unfold divs cZ;rw[Ao,zQ]
 constructor
 ·rintro ⟨⟨i,hi,rfl⟩,h⟩
  have:=List.mem_range.mp hi;simp at h;exact⟨⋯,⋯,h⟩
 ·rintro ⟨h1,h2,h3⟩
  exact⟨⟨(d-1).toNat,List.mem_range.mpr ⋯,⋯⟩,by simp[h3]⟩
theorem sP (n:Int):(cZ n).Pairwise (·<·):=by
 unfold cZ;exact List.pairwise_map.mpr (List.pairwise_lt_range.imp λ {a b} h=>⋯)
theorem tK (n:Int):(divs n).Pairwise (·<·):=(sP n).filter _
theorem vb (n:Int)(h:1<=n):Dv.rangeL 1 (n+1-1).toNat=(cZ n).map .int:=by
 rw[dZ];unfold cZ;have:(n+1-1).toNat=n.toNat:=⋯
 rw[this]
theorem kB {n:Int}(h1:1<=n)(h2:n<=60):F_Q08 [.int n]=.ok (L (divs n)) true:=by
 have hc:c_Q08_1 [some (.int n)]=.ok (L (divs n)) true:=by
  have hr:(rngOk 1&&rngOk (n+1))=true:=by simp only[rngOk,yL,decide_eq_true_eq];omega
  have:=eN (elt:=eVar 0) (cond:=eCm .eq (eOp .mod (eVar 1) (eVar 0)) (eInt 0)) (is:=[0]) (it:=iRange2 (eInt 1) (eOp .add (eVar 0) (eInt 1))) (ρ:=[some (.int n)]) (c:=λ d=>decide (n%d=0)) (g:=λ d=>d) (xs:=cZ n) (f:=true)
   (by simp only[iRange2,eOp,eVar,eInt,R.bind,RL.bind,Out.bind,aj,yA,if_true,bf,hr,vb n h1]) (by unfold cZ;simp;omega) (λ d hd=>by
    have:0<d:=by unfold cZ at hd;obtain⟨i,_,rfl⟩:=List.mem_map.mp hd;omega
    simp only[eCm,eOp,eVar,eInt,Dv.pick,R.bind,RL.bind,Out.bind,aj,yB,yJ,yA,yD,yQ,bP,au this]) (λ d hd _=>by simp only[eVar,Dv.pick,aj,yB,yJ,yA,yQ])
  simp only[List.map_id'] at this;exact this
 have n1:¬ n<1:=⋯
 have n2:¬ 60<n:=⋯
 simp only[F_Q08,b_Q08,b_Q08_t1,Dv.fn,sCons,sNil,sIf,sRet,eOr,eCm,eVar,eInt,Dv.all,R.bind,RL.bind,Out.bind,ar,aj,yB,yJ,yE,yR,List.replicate,yP,yO,yA,Nat.reduceAdd,Nat.reduceSub,ia,nN,decide_eq_false n1,decide_eq_false n2,hc]
open Dv (D R RL EE EL EI RI Sl Out SS St aq)
open Bt Ts
def T (p:Sp):D:=.tup [.int p.1,.int p.2]
abbrev P (ps:List Sp):D:=.lst (ps.map T)
def S (a b:Int):D:=.tup [.int a,.int b]
theorem vP (p q:Sp):Dv.eqD (T p) (T q)=some (decide (p=q)):=by
 simp only[T,Dv.eqD,Dv.eqDL,yV];rw[Option.some.injEq,zm];simp[Prod.ext_iff]
theorem pM:∀ a b:List Sp,Dv.eqDL (a.map T) (b.map T)=some (decide (a=b))
 | [],[]=>by simp[Dv.eqDL]
 | [],_::_=>by simp[Dv.eqDL]
 | _::_,[]=>by simp[Dv.eqDL]
 | x::a,y::b=>by
  simp only[yB,Dv.eqDL,vP,pM a b];rw[Option.some.injEq,zm];simp
theorem so (p:Sp):Dv.depthD (T p)=1:=by simp[T,Dv.depthD,Dv.depthL]
theorem rB:∀ ps:List Sp,Dv.depthL (ps.map T)<=1
 | []=>by simp[Dv.depthL]
 | p::ps=>by have:=rB ps;simp only[yB,Dv.depthL,so];omega
theorem jS (ps:List Sp):Dv.depthD (P ps)<=2:=by have:=rB ps;unfold P Dv.depthD;omega
theorem si (a b:List Sp):cmD .eq (P a) (P b)=.ok (.bl (decide (a=b))) true:=by
 have h1:=jS a;have h2:=jS b;have e:Dv.eqD (P a) (P b)=some (decide (a=b)):=by unfold P;simp only[Dv.eqD];exact pM a b
 unfold cmD;simp only[decide_eq_true (show Dv.depthD (P a)<=9 by omega),decide_eq_true (show Dv.depthD (P b)<=9 by omega),Ae,if_true,e,Dv.optB]
theorem rS (a b:List Sp):cmD .ne (P a) (P b)=.ok (.bl (!decide (a=b))) true:=by
 have h1:=jS a;have h2:=jS b;have e:Dv.eqD (P a) (P b)=some (decide (a=b)):=by unfold P;simp only[Dv.eqD];exact pM a b
 unfold cmD;simp only[decide_eq_true (show Dv.depthD (P a)<=9 by omega),decide_eq_true (show Dv.depthD (P b)<=9 by omega),Ae,if_true,e,Dv.optB,zy]
theorem qN (p q:Sp):cmD .ne (T p) (T q)=.ok (.bl (!decide (p=q))) true:=by
 unfold cmD;simp only[so,decide_eq_true (show 1<=9 by omega),Ae,if_true,vP,Dv.optB,zy]
theorem uz (p:Sp):∀ ps:List Sp,Dv.eqsD (ps.map T) (T p)=some (ps.map λ q=>decide (q=p))
 | []=>rfl
 | q::ps=>by simp only[yB,Dv.eqsD,vP,uz p ps]
theorem wD {p:Sp}{ps:List Sp}(h:ps.length<=100000):Dv.inG false (T p) (P ps)=.ok (.bl (decide (p∈ps))) true:=by
 have h1:=rB ps;unfold P Dv.inG;simp only[so,decide_eq_true (show Dv.depthL (ps.map T)<=8 by omega),decide_eq_true (show 1<=8 by omega),decide_eq_true (show (ps.map T).length<=Dv.mx by rw[yC];exact h),Ae,if_true,uz];have:((ps.map λ q=>decide (q=p)).any id)=decide (p∈ps):=by
  rw[zm,AY,decide_eq_true_eq]
  constructor
  ·rintro ⟨b,hb,hb2⟩
   obtain⟨q,hq,rfl⟩:=List.mem_map.mp hb;have:q=p:=by simpa using hb2
   subst this;exact hq
  ·intro hp
   exact⟨true,List.mem_map.mpr ⟨p,hp,by simp⟩,rfl⟩
 rw[this];rfl
theorem l8:∀ ps:List Sp,Dv.tupsOf (ps.map T)=some (ps.map f2)
 | []=>rfl
 | p::ps=>by
  rw[yB,yB];show (match some [p.1,p.2],Dv.tupsOf (ps.map T) with|some (n::ns),some nss=>some ((n::ns)::nss)|_,_=>none)=_
  rw[l8 ps];rfl
theorem xC (ps:List Sp):(ps.map f2).map (λ ns=>D.tup (ns.map .int))=ps.map T:=by rw[zb];rfl
theorem jq {ps:List Sp}(h:ps.length<64)(f:Bool):Dv.sortedTD (P ps) f=.ok (P (psort ps)) f:=by
 unfold P Dv.sortedTD;simp only[l8];rw[if_pos (by rw[yC];exact h),iq,xC]
theorem uM:∀ ps:List Sp,Dv.prsOf (ps.map T)=some ps
 | []=>rfl
 | p::ps=>by
  rw[yB];show (Dv.prsOf (ps.map T)).map ((p.1,p.2)::·)=_
  rw[uM ps];rfl
theorem uR {α β:Type}{e:α->D}{g:α->D}{elt cond:EE}{free:Dv.Env}{c:α->Bool}:∀ {l:List α},(∀ x∈l,∃ f,cond (some (e x)::free)=.ok (.bl (c x)) f)->(∀ x∈l,c x=true->∃ f,elt (some (e x)::free)=.ok (g x) f) ->
  ∃ f,bG elt cond free (l.map e)=.ok ((l.filter c).map g) f
 | [],_,_=>⟨true,rfl⟩
 | x::l,h,k=>by
  obtain⟨f,e1⟩:=uR (β:=β) (l:=l) (λ y hy=>h y (yF _ hy)) λ y hy=>k y (yF _ hy)
  obtain⟨f1,h1⟩:=h x yG;rw[yB];unfold bG;cases q:c x with
  | false=>
   rw[q] at h1;rw[h1,List.filter_cons_of_neg (by simp[q])];exact⟨f,e1⟩
  | true=>
   rw[q] at h1;obtain⟨f2,h2⟩:=k x yG q;rw[h1,h2,e1,List.filter_cons_of_pos q];exact⟨_,rfl⟩
theorem iy {α:Type}{e:α->D}{g:α->D}{elt:EE}{free:Dv.Env}:∀ {l:List α},(∀ x∈l,elt (some (e x)::free)=.ok (g x) true)->bG elt (eBl true) free (l.map e)=.ok (l.map g) true
 | [],_=>rfl
 | x::l,k=>by
  rw[yB];unfold bG;rw[k x yG,iy λ y hy=>k y (yF _ hy)];rfl
variable {a b:Int}
theorem bM:Dv.ixD (S a b) (.int 0) false=.ok (.int a) true:=rfl
theorem bW:Dv.ixD (S a b) (.int 1) false=.ok (.int b) true:=rfl
theorem ji (h:Sides a b):opD .mul (.int a) (.int b)=.ok (.int (a*b)) true:=bI (dR (by have:=h.a0;omega) (by
 have h1:=h.le;have h2:=h.b0;have h3:=h.a0;have:a*1<=a*b:=zk ⋯ ⋯;omega))
theorem dC (h:Sides a b):F_Q05 [S a b]=.ok .non true:=by
 have h1:=h.a0;have h2:=h.b0;have h3:=h.le;have h4:=ab0 h;have em:Dv.minTD (S a b) false=.ok (.int (if b<a then b else a)) true:=rfl;have e1:¬ ((if b<a then b else a)<1):=by split <;>omega
 have ew:=dA (n:=a*b) ⋯ h3;have el:Dv.lenD (S a b) false=.ok (.int 2) true:=rfl;have e2:(decide ((2:Int)=2))=true:=rfl;have sS:Dv.scal (S a b)=false:=rfl;simp only[F_Q05,b_Q05,b_Q05_t1,Dv.fn,sCons,sIf,eOr,eCm,eB1,eVar,Dv.all,yB,yJ,yE,yR,List.replicate,yP,yO,yA,ar,R.bind,sS,el,eInt,cS,decide_true,em,ia,decide_eq_false e1,Out.bind,sNil,sExpr,eCall,lCons,lNil,eOp,eIx,bM,bW,ji h,ew,RL.bind,Dv.R.bindL,Dv.RL.bindL,Nat.reduceAdd,Nat.reduceSub,zd,zB]
theorem oy (h:Sides a b){x:Int}{acc:List Sp}(hl:acc.length<=1000):b_Q00_l1 [.sh (S a b),.ow (P acc),.sh (.int x)]=.nx [.sh (S a b),.ow (P (acc++(upto b.toNat).map λ y=>(x,y))),.sh (.int x)]:=by
 have h2:=h.b0;have h3:=h.b60;have hr:rngOk b=true:=by simp[rngOk];omega
 have e:c_Q00_1 [some (S a b),some (P acc),some (.int x)]=.ok (P ((upto b.toNat).map λ y=>(x,y))) true:=by
  unfold c_Q00_1 eComp;have:iRange (eIx (eVar 0) (eInt 1)) [some (S a b),some (P acc),some (.int x)]=.ok ((upto b.toNat).map .int) true:=by
   simp only[iRange,eIx,eVar,eInt,yA,R.bind,show Dv.scal (S a b)=false from rfl,bW,hr,if_true,cu]
  rw[this];simp only;rw[if_pos (by rw[yC,upto_len];unfold Dv.mx;omega)];rw[iy (g:=λ y=>T (x,y)) λ y hy=>rfl];simp only[P,zb];rfl
 have hx:decide ((acc.map T).length+(((upto b.toNat).map λ y=>((x,y):Sp)).map T).length<=Dv.mx)=true:=by
  refine decide_eq_true ?_
  rw[yC,yC,yC,upto_len];unfold Dv.mx;omega
 unfold P at e ⊢;simp only[b_Q00_l1,sExtF,Dv.all,yB,yJ,ar,aU,yA,yD,e,hx,if_true,yM,yN,Af]
theorem dG (h:Sides a b):∀ (xs:List Int) (acc:List Sp) (z:Sl),acc.length+xs.length*60<=4000->acc.length+xs.length*b.toNat<=1000->∃ z',forGo 2 b_Q00_l1 (xs.map .int) [.sh (S a b),.ow (P acc),z]=.nx [.sh (S a b),.ow (P (acc++xs.flatMap λ x=>(upto b.toNat).map λ y=>(x,y))),z']
 | [],acc,z,_,_=>⟨z,by simp[forGo]⟩
 | x::xs,acc,z,hl,hm=>by
  rw[yE] at hl hm;rw[BZ] at hm;obtain⟨z',e⟩:=dG h xs (acc++(upto b.toNat).map λ y=>(x,y)) (.sh (.int x)) (by rw[yY,yC,upto_len];have:=h.b60;omega) (by rw[yY,yC,upto_len];omega);refine⟨z',?_⟩;rw[yB,bo (oy h ⋯),e,zP,zw]
theorem eZ (h:Sides a b):∃ f,F_Q00 [S a b]=.ok (P (spots a b)) f:=by
 have h1:=h.a0;have h2:=h.b0;have h3:=h.a60;have h4:=h.le;have hr:rngOk a=true:=by simp[rngOk];omega
 have hm:a.toNat*b.toNat<=60:=by
  have e1:(a.toNat:Int)=a:=zF ⋯;have e2:(b.toNat:Int)=b:=zF ⋯;have:((a.toNat*b.toNat:Nat):Int)=a*b:=by rw[AD,e1,e2]
  omega
 obtain⟨z',e⟩:=dG h (upto a.toNat) [] .no (by rw[upto_len];simp;omega) (by rw[upto_len];simp;omega);rw[yO] at e;have e':forGo 2 b_Q00_l1 ((upto a.toNat).map .int) [.sh (S a b),.ow (.lst []),.no]=.nx [.sh (S a b),.ow (P (spots a b)),z']:=e;have i1:iRange (eIx (eVar 0) (eInt 0)) [some (S a b),none,none]=.ok ((upto a.toNat).map .int) true:=by
  simp only[iRange,eIx,eVar,eInt,yA,R.bind,show Dv.scal (S a b)=false from rfl,bM,hr,if_true,cu]
 refine⟨Dv.flatL ((spots a b).map T),?_⟩;simp only[F_Q00,b_Q00,b_Q00_t1,b_Q00_t2,Dv.fn,sCons,sSet,eLst,lNil,RL.bind,keep_nil,sFor,Dv.give,Dv.open_,aF,aw,aE,aA,yT,yZ,yB,yJ,yE,yR,List.replicate,yP,yO,yA,yD,yM,yN,yQ,Nat.reduceAdd,Nat.reduceSub,i1,e',Out.bind,sRetO,P]
open Classical in
open Classical in
theorem oN {n:Int}(h:1<=n):∃ l,divs n=1::l/\∀ d∈l,1<d/\d<=n/\n%d=0:=by
 have h1:(1:Int)∈divs n:=mem_divs.mpr ⟨⋯,h,Int.emod_one n⟩;have up:=tK n;cases hd:divs n with
 | nil=>rw[hd] at h1;simp at h1
 | cons x l=>
  rw[hd] at h1 up;have hx:=mem_divs.mp (show x∈divs n by rw[hd];exact yG ..);have e:x=1:=by
   rcases List.mem_cons.mp h1 with h1|h1
   ·exact h1.symm
   ·have:=(List.pairwise_cons.mp up).1 1 h1;omega
  subst e;refine⟨l,rfl,λ d hdl=>?_⟩;have h2:=(List.pairwise_cons.mp up).1 d hdl;have h3:=mem_divs.mp (show d∈divs n by rw[hd];exact yF _ hdl);exact⟨h2,h3.2.1,h3.2.2⟩
def fj (n:Int):List Int:=(divs n).drop 1
theorem jg {n d:Int}(h:1<=n):d∈fj n ↔ 1<d/\d<=n/\n%d=0:=by
 obtain⟨l,e,hl⟩:=oN h;unfold fj;rw[e]
 constructor
 ·exact λ hd=>hl d hd
 ·rintro ⟨h1,h2,h3⟩
  have:=mem_divs.mpr ⟨show 1<=d by omega,h2,h3⟩;rw[e] at this
  rcases List.mem_cons.mp this with h4|h4
  ·omega
  ·exact h4
theorem nP (ds:List D):Dv.cutL ds (some 1) none=ds.drop 1:=by
 unfold Dv.cutL Dv.cutI;have h1:¬ ((1:Int)<0):=⋯
 have t1:(1:Int).toNat=1:=rfl;simp only[h1,if_false,t1];by_cases h:1<=ds.length
 ·rw[Nat.min_eq_left h,zD (by simp)]
 ·have:ds=[]:=zC ⋯
  subst this;rfl
theorem wA (n:Int):Dv.cutL ((divs n).map D.int) (some 1) none=(fj n).map D.int:=by rw[nP,<- Bv];rfl
theorem nW {n:Int}(h2:n<=60):(fj n).length<=60:=by
 have:(divs n).length<=(cZ n).length:=Bj _ _;unfold cZ at this;simp at this;unfold fj;simp;omega
variable {a b:Int}
theorem scS:Dv.scal (S a b)=false:=rfl
theorem scP (ps:List Sp):Dv.scal (P ps)=false:=rfl
theorem scT (p:Sp):Dv.scal (T p)=false:=rfl
theorem u0 (ps:List Sp)(f:Bool):Dv.lenD (P ps) f=.ok (.int ps.length) true:=by unfold P Dv.lenD;simp only[yC]
theorem cj (h:Sides a b){ps:List Sp}(t:TB a b ps)(hl:ps.length<=1000):F_Q06 [S a b,P ps]=.ok .non true:=by
 obtain⟨f,e1⟩:=eZ h;have hs:=i7 (a:=a) (b:=b) (by have:=h.a0;omega) (by have:=h.b0;omega);have h60:=h.le;obtain⟨f2,e2⟩:=uR (β:=Unit) (e:=T) (g:=T) (elt:=eVar 0) (cond:=eB2 (Dv.inG false) (eVar 0) (eVar 1)) (free:=[some (P ps)]) (c:=λ p=>decide (p∈ps)) (l:=spots a b)
  (λ p _=>⟨true,by simp only[eB2,eVar,yA,yD,R.bind,wD (p:=p) (ps:=ps) ⋯]⟩) (λ p _ _=>⟨_,rfl⟩)
 rw[t.all] at e2;have e3:c_Q06_1 [some (S a b),some (P ps)]=.ok (P ps) f2:=by
  have e1':F_Q00 [S a b]=.ok (.lst ((spots a b).map T)) f:=e1;unfold c_Q06_1 eComp;simp only[iSeq,eCall,lCons,lNil,eVar,yA,Dv.R.bindL,Dv.RL.bindL,RL.bind,e1',Dv.pick,yB,yJ,yD,yQ];rw[if_pos (by rw[yC];unfold Dv.mx;omega),e2]
 have h0:¬ ((ps.length:Int)=0):=λ e=>t.ne (zC ⋯)
 simp only[F_Q06,b_Q06,b_Q06_t1,Dv.fn,sCons,sNil,sIf,sExpr,eB1,eOr,eCm,eVar,eInt,lNil,lCons,eCall,Dv.all,R.bind,RL.bind,Dv.R.bindL,Dv.RL.bindL,Out.bind,ar,ak,yB,yJ,yE,yR,List.replicate,yP,yO,yA,yD,yV,zd,Nat.reduceAdd,Nat.reduceSub,decide_true,bP,dC h,u0,decide_eq_false h0,e3,rS,decide_true]
theorem cop (h:Sides a b){d:Int}(h1:1<d)(h2:a%d=0):¬ b%d=0:=λ h3=>by
 have ha:=h.a0;have hb:=h.b0;have n0:=ab0 h;have e2:=Bn (Ab h2);have e3:=Bn (Ab h3);have q:0<b/d:=by
  rcases B7 0 (b/d) with q|q
  ·exact q
  ·have:d*(b/d)<=0:=Int.mul_nonpos_of_nonneg_of_nonpos ⋯ q
   omega
 have k0:0<a*(b/d):=Cb ha q;have lt:b/d<b:=by
  have:1*(b/d)<d*(b/d):=Int.mul_lt_mul_of_pos_right h1 q;omega
 have k1:a*(b/d)<a*b:=Int.mul_lt_mul_of_pos_left lt ha;have z:=fu h (j:=a*(b/d)) (k:=0) ⋯ k1 ⋯ ⋯ (by
  unfold Ts.phi;rw[BA,BX,BX];have:a*(b/d)=b*(a/d):=by
   calc a*(b/d)=d*(a/d)*(b/d):=by rw[e2]
    _=d*(b/d)*(a/d):=by rw[Bw,A4 (a/d),<- Bw]
    _=b*(a/d):=by rw[e3]
  rw[this,BA])
 omega
theorem ej (h:Sides a b):F_Q03 [S a b]=.ok .non true:=by
 have ha:=h.a0;have h60:=h.a60;have hl:=nW (n:=a) h60;have e1:c_Q03_1 [some (S a b)]=.ok (.lst ((fj a).map λ d=>D.bl (decide (b%d=0)))) true:=by
  unfold c_Q03_1 eComp;have hi:iSeq (eSlice (eCall F_Q08 (lCons (eIx (eVar 0) (eInt 0)) lNil)) (some (eInt 1)) none) [some (S a b)]=.ok ((fj a).map .int) true:=by
   simp only[iSeq,eIx,eVar,eInt,lNil,lCons,eCall,eSlice,ePart,R.bind,RL.bind,Dv.R.bindL,Dv.RL.bindL,Out.bind,yA,zH,yV,cJ,scS,bM,kB (show 1<=a by omega) h60,Dv.sliceD,wA]
  rw[hi];simp only;rw[if_pos (by rw[yC];unfold Dv.mx;omega)];rw[iy (g:=λ d=>D.bl (decide (b%d=0))) λ d hd=>?_];have:=(jg (show 1<=a by omega)).mp hd;simp only[eCm,eOp,eIx,eVar,eInt,Dv.pick,yB,yJ,yA,yD,yQ,R.bind,scS,bW,au (show 0<d by omega),bP]
 have e2:Dv.anyD (.lst ((fj a).map λ d=>D.bl (decide (b%d=0)))) true=.ok (.bl false) true:=by
  have hb:∀ l:List Int,Dv.blsOf (l.map λ d=>D.bl (decide (b%d=0)))=some (l.map λ d=>decide (b%d=0)):=by
   intro l;induction l with
   | nil=>rfl
   | cons x l ih=>simp only[yB,Dv.blsOf,ih,zy]
  unfold Dv.anyD;simp only[hb];have:((fj a).map λ d=>decide (b%d=0)).any id=false:=by
   rw[List.any_eq_false];intro x hx;obtain⟨d,hd,rfl⟩:=List.mem_map.mp hx;have:=(jg (show 1<=a by omega)).mp hd;simpa using cop h (show 1<d by omega) this.2.2
  rw[this]
 simp only[F_Q03,b_Q03,Dv.fn,sNil,sIf,eB1,Dv.all,R.bind,RL.bind,Out.bind,ar,yB,yJ,yE,yR,List.replicate,yP,yO,Nat.reduceAdd,Nat.reduceSub,e1,e2]
variable {a b:Int}
theorem gE (h:Sides a b)(k:Int):F_Q0X [S a b,.int k]=.ok (T (Ts.phi a b k)) true:=by
 have ha:=h.a0;have hb:=h.b0;simp only[F_Q0X,b_Q0X,Dv.fn,sRet,eIx,eOp,eVar,eInt,eTup,lNil,lCons,Dv.all,R.bind,RL.bind,Dv.R.bindL,Dv.RL.bindL,Out.bind,ar,aj,yB,yJ,yE,yR,List.replicate,yP,yO,yA,yD,yV,Nat.reduceAdd,Nat.reduceSub,scS,bM,bW,au ha,au hb];rfl
theorem pI (h:Sides a b):rngOk (a*b)=true:=by
 have:=h.le;have:=ab0 h;simp[rngOk];omega
theorem bZ (h:Sides a b){ps:List Sp}(t:TB a b ps)(hl:ps.length<=1000):F_Q0A [S a b,P ps]=.ok (L (flat a b ps)) true:=by
 have n0:=ab0 h;have h60:=h.le;have e1:c_Q0A_1 [some (S a b),some (P ps)]=.ok (L (flat a b ps)) true:=by
  have hi:iRange (eOp .mul (eIx (eVar 0) (eInt 0)) (eIx (eVar 0) (eInt 1))) [some (S a b),some (P ps)]=.ok ((upto (a*b).toNat).map .int) true:=by
   simp only[iRange,iRange,eIx,eOp,eVar,eInt,R.bind,RL.bind,Out.bind,yA,if_true,scS,bM,bW,ji h,pI h,cu]
  have:=eN (elt:=eVar 0) (cond:=eB2 (Dv.inG false) (eCall F_Q0X (lCons (eVar 2) (lCons (eVar 0) lNil))) (eVar 1)) (is:=[1,0]) (c:=λ k=>decide (Ts.phi a b k∈ps)) (g:=id) hi (by rw[upto_len];omega)
   (λ k _=>by simp only[eB2,eVar,lNil,lCons,eCall,Dv.pick,R.bind,RL.bind,Dv.R.bindL,Dv.RL.bindL,Out.bind,aj,ak,yB,yJ,yA,yD,yQ,yV,gE h,wD (p:=Ts.phi a b k) (ps:=ps) ⋯]) (λ k _ _=>rfl)
  unfold c_Q0A_1;rw[this,Bh];rfl
 simp only[F_Q0A,b_Q0A,b_Q0A_t2,b_Q0A_t1,Dv.fn,sCons,sRet,sExpr,eVar,lNil,lCons,eCall,Dv.all,R.bind,RL.bind,Dv.R.bindL,Dv.RL.bindL,Out.bind,ar,ak,yB,yJ,yE,yR,List.replicate,yP,yO,yA,yD,yV,zi,Nat.reduceAdd,Nat.reduceSub,cj h t hl,ej h,e1]
theorem mf (h:Sides a b){xs:List Int}(hx:Beat (a*b) xs):F_Q0B [S a b,L xs]=.ok (P (psort (xs.map (Ts.phi a b)))) true:=by
 have n0:=ab0 h;have h60:=h.le;have hl:=hx.len;have e1:c_Q0B_1 [some (S a b),some (L xs)]=.ok (P (xs.map (Ts.phi a b))) true:=by
  unfold c_Q0B_1 eComp;have hi:iSeq (eVar 1) [some (S a b),some (L xs)]=.ok (xs.map .int) false:=rfl;rw[hi];simp only;rw[if_pos (by rw[yC];unfold Dv.mx;omega)];rw[iy (g:=λ k=>T (Ts.phi a b k)) λ k _=>?_]
  ·unfold P;rw[zb];rfl
  ·simp only[eVar,lNil,lCons,eCall,Dv.pick,R.bind,RL.bind,Dv.R.bindL,Dv.RL.bindL,Out.bind,aj,yB,yJ,yA,yD,yQ,yV,gE h]
 have e2:=jq (ps:=xs.map (Ts.phi a b)) (by rw[yC];omega) true;simp only[F_Q0B,b_Q0B,b_Q0B_t3,b_Q0B_t2,b_Q0B_t1,Dv.fn,sCons,sRet,sExpr,eB1,eIx,eOp,eVar,eInt,lNil,lCons,eCall,Dv.all,R.bind,RL.bind,Dv.R.bindL,Dv.RL.bindL,Out.bind,ar,ak,yB,yJ,yE,yR,List.replicate,yP,yO,yA,yD,yV,zi,Nat.reduceAdd,Nat.reduceSub,dC h,scS,bM,bW,ji h,cG h60 hx,ej h,e1,e2]
theorem k7 (p:Sp):Dv.ixD (T p) (.int 0) false=.ok (.int p.1) true:=rfl
theorem ky (p:Sp):Dv.ixD (T p) (.int 1) false=.ok (.int p.2) true:=rfl
theorem l7 (h:Sides a b){ps:List Sp}{X:D}{s:Sp}{acc:List Sp}(hl:acc.length<=4000)(hp:ps.length<=1000):b_Q0Y_l1 [.sh (S a b),.sh (P ps),.sh X,.ow (P acc),.sh (T s)]=.nx [.sh (S a b),.sh (P ps),.sh X,.ow (P (acc++ps.map λ p=>((p.1+s.1)%a,(p.2+s.2)%b))),.sh (T s)]:=by
 have ha:=h.a0;have hb:=h.b0;have e:c_Q0Y_1 [some (S a b),some (P ps),some X,some (P acc),some (T s)]=.ok (P (ps.map λ p=>((p.1+s.1)%a,(p.2+s.2)%b))) true:=by
  unfold c_Q0Y_1 eComp;have hi:iSeq (eVar 1) [some (S a b),some (P ps),some X,some (P acc),some (T s)]=.ok (ps.map T) false:=rfl;rw[hi];simp only;rw[if_pos (by rw[yC];unfold Dv.mx;omega)];rw[iy (g:=λ p:Sp=>T ((p.1+s.1)%a,(p.2+s.2)%b)) λ p _=>?_]
  ·unfold P;rw[zb];rfl
  ·simp only[eIx,eOp,eVar,eInt,eTup,lNil,lCons,Dv.pick,R.bind,RL.bind,Dv.R.bindL,Dv.RL.bindL,Out.bind,yB,yJ,yA,yD,yQ,yV,bf,scT,scS,k7,ky,bM,bW,au ha,au hb]
   rfl
 have hx:decide ((acc.map T).length+((ps.map λ p=>(((p.1+s.1)%a,(p.2+s.2)%b):Sp)).map T).length<=Dv.mx)=true:=by
  refine decide_eq_true ?_
  rw[yC,yC,yC];unfold Dv.mx;omega
 have e':c_Q0Y_1 [some (S a b),some (P ps),some X,some (.lst (acc.map T)),some (T s)]=.ok (.lst ((ps.map λ p=>(((p.1+s.1)%a,(p.2+s.2)%b):Sp)).map T)) true:=e;show b_Q0Y_l1 [.sh (S a b),.sh (P ps),.sh X,.ow (.lst (acc.map T)),.sh (T s)]=_
 simp only[b_Q0Y_l1,sExtF,Dv.all,yB,yJ,ar,aU,yA,yD,e',hx,if_true,yM,yN];rw[<- Af]
theorem gF (h:Sides a b){ps:List Sp}{X:D}(hp:ps.length<=1000):∀ (ss:List Sp) (acc:List Sp) (z:Sl),acc.length+ps.length*ss.length<=4000->∃ z',forGo 4 b_Q0Y_l1 (ss.map T) [.sh (S a b),.sh (P ps),.sh X,.ow (P acc),z]=.nx [.sh (S a b),.sh (P ps),.sh X,.ow (P (acc++aq a b ps ss)),z']
 | [],acc,z,_=>⟨z,by simp[forGo,aq]⟩
 | s::ss,acc,z,hl=>by
  rw[yE,Ap] at hl;obtain⟨z',e⟩:=gF h hp ss (acc++ps.map λ p=>((p.1+s.1)%a,(p.2+s.2)%b)) (.sh (T s)) (by rw[yY,yC];omega);refine⟨z',?_⟩;rw[yB,bo (l7 h ⋯ hp),e,zw];rfl
theorem fH (h:Sides a b){ps ss:List Sp}(t:TB a b ps)(t2:TB a b ss)(hp:ps.length<=1000)(hs:ss.length<=1000)(hl:ps.length*ss.length<64):F_Q0Y [S a b,P ps,P ss]=.ok (.bl (dw a b ps ss)) true:=by
 obtain⟨z',e⟩:=gF h (X:=P ss) hp ss [] .no (by simp;omega);rw[yO] at e;have e':forGo 4 b_Q0Y_l1 (ss.map T) [.sh (S a b),.sh (P ps),.sh (P ss),.ow (.lst []),.no]=.nx [.sh (S a b),.sh (P ps),.sh (P ss),.ow (P (aq a b ps ss)),z']:=e;obtain⟨f,e1⟩:=eZ h;have e2:=jq (ps:=aq a b ps ss) (by rw[iS];exact hl) false;simp only[F_Q0Y,b_Q0Y,b_Q0Y_t4,b_Q0Y_t3,b_Q0Y_t2,b_Q0Y_t1,Dv.fn,sCons,sSet,keep_nil,Dv.give,Dv.open_,aF,aA,aw,aE,sRet,sExpr,sFor,iSeq,eB1,eCm,eVar,eLst,lNil,lCons,eCall,Dv.all,R.bind,RL.bind,Dv.R.bindL,Dv.RL.bindL,Out.bind,aW,ar,aU,ak,yB,yJ,yE,yR,List.replicate,yP,yO,yA,yD,yM,yN,yT,yZ,yQ,yV,zi,Nat.reduceAdd,Nat.reduceSub,cj h t hp,cj h t2 hs,e',scP,e2,e1,si,lA h t t2]
theorem i4:∀ (nss σ:List (List Int)) {x:List Int},x∈nss.foldl Dv.onceStepL σ ↔ x∈σ\/x∈nss
 | [],σ,x=>by simp
 | k::r,σ,x=>by
  rw[yT,i4 r];unfold Dv.onceStepL
  split
  ·rename_i q
   have:k∈σ:=by simpa using q
   constructor
   ·rintro (a|a)
    ·exact .inl a
    ·exact .inr (yF _ a)
   ·rintro (a|a)
    ·exact .inl a
    ·rcases List.mem_cons.mp a with rfl|a
     ·exact .inl this
     ·exact .inr a
  ·simp only[Am,Bz,zR,or_assoc,zY,false_or]
theorem kA:∀ (nss σ:List (List Int)),σ.Nodup->(nss.foldl Dv.onceStepL σ).Nodup
 | [],_,h=>h
 | k::r,σ,h=>by
  rw[yT];refine kA r _ ?_
  unfold Dv.onceStepL
  split
  ·exact h
  ·rename_i q
   have:k∉σ:=by simpa using q
   exact List.nodup_append.mpr ⟨h,by simp,λ x hx y hy e=>by simp at hy;subst hy;subst e;exact this hx⟩
theorem km:∀ (nss σ:List (List Int)),(nss.foldl Dv.onceStepL σ).length<=σ.length+nss.length
 | [],_=>by simp
 | k::r,σ=>by
  rw[yT];refine zr (km r _) ?_
  unfold Dv.onceStepL
  split <;>simp <;>omega
variable {a b:Int}
theorem rT (h:Sides a b){ps ss:List Sp}(t:TB a b ps)(t2:TB a b ss)(hl:ps.length*ss.length<=1000):F_Q0J [S a b,P ps,P ss]=.ok (.bl (dw a b ps ss)) true:=by
 have h1:=h.a0;have h2:=h.b0;have h3:=h.le;have l1:0<ps.length:=List.length_pos_iff.mpr t.ne;have l2:0<ss.length:=List.length_pos_iff.mpr t2.ne;have l3:0<ps.length*ss.length:=Bk l1 l2;have e:Dv.fillsR (S a b) (P ps) (P ss)=.ok (.bl (dw a b ps ss)) true:=by
  unfold S Dv.fillsR;simp only[uM,decide_eq_true h1,decide_eq_true h2,decide_eq_true (show a*b<=1000 by omega),decide_eq_true l3,decide_eq_true hl,Ae,if_true];rfl
 simp only[F_Q0J,b_Q0J,Dv.fn,sFills,yB,yJ,yP,yO,yE,yR,List.replicate,Nat.reduceAdd,Nat.reduceSub,if_true,e]
theorem qK (c:Int):∃ p∈sidesL,∃ f,F_Q0Q [.int c]=.ok (T p) f:=by
 have h0:0<=c%21:=A8 _ (by decide);have h1:c%21<21:=AH _ (by decide);have hk:(c%21).toNat<sidesL.length:=by show (c%21).toNat<21;omega
 refine⟨sidesL[(c%21).toNat],zt hk,?_⟩;have ha:Dv.at? (sidesL.map T) (c%21)=some (T sidesL[(c%21).toNat]):=by
  unfold Dv.at?;rw[if_pos h0,ze,yH hk];rfl
 have hx:Dv.ixD (P sidesL) (.int (c%21)) false=.ok (T sidesL[(c%21).toNat]) false:=by
  unfold P Dv.ixD;simp only[ha,scT,AA]
 have hc:∀ x y:List D,x.length+y.length<=1000->opD .add (.lst x) (.lst y)=.ok (.lst (x++y)) (Dv.flatL x&&Dv.flatL y):=λ x y h=>by
  unfold opD;simp only[if_pos (show x.length+y.length<=Dv.mx by unfold Dv.mx;omega)]
 refine⟨false,?_⟩;simp only[F_Q0Q,b_Q0Q,b_Q0Q_t1,Dv.fn,sCons,sSetG,Dv.give,sRet,eIx,eOp,eVar,eInt,eLst,eTup,lNil,lCons,Dv.all,R.bind,RL.bind,Dv.R.bindL,Dv.RL.bindL,Out.bind,ar,aj,ak,yB,yJ,yE,yR,List.replicate,yP,yO,yA,yD,yM,yN,yZ,yV,Nat.reduceAdd,Nat.reduceSub];rw[hc _ _ (by decide)];simp only[au (show (0:Int)<21 by decide)];exact(congrArg (λ r:R=>(match (match r with | .ok d f=>Out.ret d f | .exc c_1=>.exc c_1 [.sh (.int c),.sh (P (sidesL.take 13))] | .bad=>.bad) with | .nx _=>R.ok .non true | .ret d f=>.ok d f | .exc c _=>.exc c|_=>.bad)) hx).trans rfl
def sd (r:R)(x:Int):Bool:=match r with
 | .ok (.int y) true=>decide (x=y)
 | _=>false
theorem rR {r:R}{x:Int}(h:sd r x=true):r=.ok (.int x) true:=by
 unfold sd at h
 split at h
 ·simp at h;subst h;rfl
 ·cases h
theorem ue:(sidesL.all λ p=>sd (F_Q0K [.int p.1,.int p.2]) 1)=true:=by decide +kernel
theorem vE {p:Sp}(hp:p∈sidesL):F_Q0K [.int p.1,.int p.2]=.ok (.int 1) true:=rR (List.all_eq_true.mp ue p hp)
theorem cO (h:Sides a b){p:Sp}(hp:0<=p.1/\p.1<a/\0<=p.2/\p.2<b):F_Q0O [S a b,T p]=.ok (.int (plc a b p)) true:=by
 have n0:=ab0 h;have h60:=h.le;have ha:=h.a0;have hb:=h.b0;have e1:c_Q0O_1 [some (S a b),some (T p),none]=.ok (L [plc a b p]) true:=by
  have hi:iRange (eOp .mul (eIx (eVar 0) (eInt 0)) (eIx (eVar 0) (eInt 1))) [some (S a b),some (T p),none]=.ok ((upto (a*b).toNat).map .int) true:=by
   simp only[iRange,iRange,eIx,eOp,eVar,eInt,R.bind,RL.bind,Out.bind,yA,if_true,scS,bM,bW,ji h,pI h,cu]
  have:=eN (elt:=eVar 0) (cond:=(eAnd (eCm .eq (eOp .mod (eVar 0) (eIx (eVar 2) (eInt 0))) (eIx (eVar 1) (eInt 0))) (eCm .eq (eOp .mod (eVar 0) (eIx (eVar 2) (eInt 1))) (eIx (eVar 1) (eInt 1))))) (is:=[1,0]) (c:=λ k=>decide (k%a=p.1)&&decide (k%b=p.2)) (g:=id) hi (by rw[upto_len];omega)
   (λ k _=>by
    by_cases q:k%a=p.1
    ·simp only[eIx,eAnd,eCm,eOp,eVar,eInt,Dv.pick,R.bind,RL.bind,Out.bind,aj,yB,yJ,yA,yD,yQ,AB,bP,scS,scT,bM,bW,k7,ky,au ha,au hb,decide_eq_true q]
    ·simp only[eIx,eAnd,eCm,eOp,eVar,eInt,Dv.pick,R.bind,RL.bind,Out.bind,aj,yB,yJ,yA,yD,yQ,zT,bP,scS,scT,bM,bW,k7,ky,au ha,au hb,decide_eq_false q]) (λ k _ _=>rfl)
  unfold c_Q0O_1;rw[this,Bh,jw h hp]
 have e2:keepD (L [plc a b p]) true=some (.ow (L [plc a b p])):=cY _;have e3:Dv.ixD (L [plc a b p]) (.int 0) false=.ok (.int (plc a b p)) true:=rfl;simp only[F_Q0O,b_Q0O,b_Q0O_t1,Dv.fn,sCons,sSet,sRet,eIx,eVar,eInt,Dv.all,R.bind,RL.bind,Out.bind,aW,ar,aU,ak,yB,yJ,yE,yR,List.replicate,yP,yO,yA,yD,yM,yN,Nat.reduceAdd,Nat.reduceSub,e1,e2,e3]
theorem dN:∀ (xs ys:List Sp) (A B:D) (y z:Sl),xs.length=ys.length->∃ st',Dv.forGoT (Dv.tupTo [2,3]) b_Q0T_l1 (List.zipWith (λ x y=>D.tup [x,y]) (xs.map T) (ys.map T)) [.sh A,.sh B,y,z]=if xs=ys then .nx st' else .ret (.bl false) true
 | [],[],A,B,y,z,_=>⟨_,rfl⟩
 | [],_::_,A,B,y,z,h=>by simp at h
 | _::_,[],A,B,y,z,h=>by simp at h
 | x::xs,w::ys,A,B,y,z,h=>by
  obtain⟨st',e⟩:=dN xs ys A B (.sh (T x)) (.sh (T w)) (by simpa using h);refine⟨st',?_⟩;have h0:Dv.tupTo [2,3] (.tup [T x,T w]) [.sh A,.sh B,y,z]=some [.sh A,.sh B,.sh (T x),.sh (T w)]:=rfl;have i1:Dv.isTupD (T x) false=.ok (.bl true) true:=rfl;have i2:Dv.lenD (T x) false=.ok (.int 2) true:=rfl;have hb:b_Q0T_l1 [.sh A,.sh B,.sh (T x),.sh (T w)]=if x=w then .nx [.sh A,.sh B,.sh (T x),.sh (T w)] else .ret (.bl false) true:=by
   have i1':(match (T x:D),false with | .exn _,_=>R.bad | .ins _ _,_=>.bad | .raw _,_=>.bad | .tab _,_=>.bad | .tup _,_=>.ok (.bl true) true|_,_=>.ok (.bl false) true)=.ok (.bl true) true:=rfl;by_cases q:x=w
   ·rw[if_pos q]
    simp only[b_Q0T_l1,sCons,sIf,eOr,eNot,eB1,eVar,Dv.all,yB,yJ,yA,yD,ar,R.bind,scT,i1,i2,eCm,eInt,cS,decide_true,zd,eCall,lCons,lNil,eIx,k7,ky,Dv.R.bindL,Dv.RL.bindL,RL.bind,eR,sNil,Out.bind,qN,decide_eq_true q]
   ·rw[if_neg q]
    simp only[b_Q0T_l1,sCons,sIf,eOr,eNot,eB1,eVar,Dv.all,yB,yJ,yA,yD,ar,R.bind,scT,i1,i2,eCm,eInt,cS,decide_true,zd,eCall,lCons,lNil,eIx,k7,ky,Dv.R.bindL,Dv.RL.bindL,RL.bind,eR,sNil,Out.bind,qN,decide_eq_false q,zB,sRet,eBl]
  rw[yB,yB,A9];by_cases hxw:x=w
  ·rw[if_pos hxw] at hb
   rw[fQ h0 hb,e];simp[hxw]
  ·rw[if_neg hxw] at hb
   rw[gP h0 hb];simp[hxw]
theorem kb (xs ys:List Sp):F_Q0T [P xs,P ys]=.ok (.bl (decide (xs=ys))) true:=by
 by_cases h:xs.length=ys.length
 ·obtain⟨st',e⟩:=dN xs ys (P xs) (P ys) .no .no h
  have h1:(xs.length:Int)=ys.length:=⋯
  simp only[F_Q0T,b_Q0T,b_Q0T_t2,b_Q0T_t1,Dv.fn,sCons,sNil,sSet,sSetG,aM,jE,k8,cY,keep_nil,kW,Dv.give,Dv.open_,mX,aF,nF,aA,aw,aE,sIf,sRet,sRetO,su,sExpr,pH,sApp,sPut,sAugIx,u7,sClear,lN,sFor,sForT,sWhile,jB,sUnpackL,Dv.setAll,sPar,iSeq,iRange,iRange2,iZip,eB1,eB2,Dv.lenD,Dv.listD,Dv.absD,Dv.intD,Dv.max2D,Dv.min2D,Dv.isListD,Dv.isIntD,Dv.isBoolD,eIx,Dv.ixD,eOr,eAnd,eNot,eIf,eNeg,eCm,eOp,eVar,eInt,eBl,vm,wd,eLst,eTup,lNil,lCons,eCall,Dv.pick,eSlice,ePart,Dv.all,R.bind,RL.bind,Dv.R.bindL,Dv.RL.bindL,Out.bind,aW,ar,aU,sy,sI,jn,iO,nC,mY,qQ,rk,vn,p7,vD,qB,qu,my,Dv.isTupD,aj,j7,ly,ak,lg,yB,yJ,yE,yR,List.replicate,yP,yO,yA,yD,yM,yN,yT,yZ,yQ,Aw,zH,BB,yV,AB,Bo,AA,zi,zT,zd,zB,if_true,if_false,Nat.reduceAdd,Nat.reduceSub,Nat.reduceLeDiff,reduceIte,reduceCtorEq,decide_true,decide_false,yK,BM,List.flatten,bf,gL,ia,qG,nN,jm,bP,cS,qx,lP,fK,jJ,jL,qE,qC,qP,kM,uY,kX,cJ,yC,h1,e];by_cases h2:xs=ys
  ·simp[h2]
  ·simp[h2]
 ·have h1:¬ (xs.length:Int)=ys.length:=⋯
  have h2:¬ xs=ys:=λ z=>h (by rw[z])
  simp only[F_Q0T,b_Q0T,b_Q0T_t2,b_Q0T_t1,Dv.fn,sCons,sNil,sSet,sSetG,aM,jE,k8,cY,keep_nil,kW,Dv.give,Dv.open_,mX,aF,nF,aA,aw,aE,sIf,sRet,sRetO,su,sExpr,pH,sApp,sPut,sAugIx,u7,sClear,lN,sFor,sForT,sWhile,jB,sUnpackL,Dv.setAll,sPar,iSeq,iRange,iRange2,iZip,eB1,eB2,Dv.lenD,Dv.listD,Dv.absD,Dv.intD,Dv.max2D,Dv.min2D,Dv.isListD,Dv.isIntD,Dv.isBoolD,eIx,Dv.ixD,eOr,eAnd,eNot,eIf,eNeg,eCm,eOp,eVar,eInt,eBl,vm,wd,eLst,eTup,lNil,lCons,eCall,Dv.pick,eSlice,ePart,Dv.all,R.bind,RL.bind,Dv.R.bindL,Dv.RL.bindL,Out.bind,aW,ar,aU,sy,sI,jn,iO,nC,mY,qQ,rk,vn,p7,vD,qB,qu,my,Dv.isTupD,aj,j7,ly,ak,lg,yB,yJ,yE,yR,List.replicate,yP,yO,yA,yD,yM,yN,yT,yZ,yQ,Aw,zH,BB,yV,AB,Bo,AA,zi,zT,zd,zB,if_true,if_false,Nat.reduceAdd,Nat.reduceSub,Nat.reduceLeDiff,reduceIte,reduceCtorEq,decide_true,decide_false,yK,BM,List.flatten,bf,gL,ia,qG,nN,jm,bP,cS,qx,lP,fK,jJ,jL,qE,qC,qP,kM,uY,kX,cJ,yC,decide_eq_false h1,decide_eq_false h2]
variable {a b:Int}
def dsp (a b c:Int):Sp:=(c*69621%2147483629%a,c*69621%2147483629/64%b)
theorem uW (acc:List Sp)(p:Sp):(acc.map T)++[T p]=(acc++[p]).map T:=by simp
theorem lC (h:Sides a b){A:D}{c:Int}{acc:List Sp}{z:Sl}(hl:acc.length<=1000):b_Q0G_l1 [.sh A,.sh (S a b),.ow (P acc),.sh (.int c),z]=.nx [.sh A,.sh (S a b),.ow (P (acc++[dsp a b c])),.sh (.int c),.sh (.int (c*69621%2147483629))]:=by
 have ha:=h.a0;have hb:=h.b0;have hx:decide (acc.length<Dv.mx)=true:=decide_eq_true (by unfold Dv.mx;omega);simp only[b_Q0G_l1,sCons,sSet,aM,eIx,eOp,eVar,eInt,eTup,lNil,lCons,Dv.all,R.bind,RL.bind,Dv.R.bindL,Dv.RL.bindL,Out.bind,ar,aU,aj,yB,yJ,yA,yD,yM,yN,yV,if_true,yC,sAppF,bI (cD (j:=69621) (by decide) (by decide)),au (show (0:Int)<2147483629 by decide),scS,bM,bW,au ha,aT (show (0:Int)<64 by decide) (by decide),au hb,hx];show Out.nx [.sh A,.sh (S a b),.ow (.lst (acc.map T++[T (dsp a b c)])),_,_]=_
 rw[uW]
theorem ip (h:Sides a b){A:D}:∀ (cs:List Int) (acc:List Sp) (z y:Sl),acc.length+cs.length<=1000->∃ z' y',forGo 3 b_Q0G_l1 (cs.map .int) [.sh A,.sh (S a b),.ow (P acc),z,y]=.nx [.sh A,.sh (S a b),.ow (P (acc++cs.map (dsp a b))),z',y']
 | [],acc,z,y,_=>⟨z,y,by simp[forGo]⟩
 | c::cs,acc,z,y,hl=>by
  rw[yE] at hl;obtain⟨z',y',e⟩:=ip h cs (acc++[dsp a b c]) (.sh (.int c)) (.sh (.int (c*69621%2147483629))) (by rw[yY];simp;omega);refine⟨z',y',?_⟩;rw[yB,bo (lC h ⋯),e,zw];rfl
theorem rP {ps:List Sp}(h:ps.length<64)(hn:ps≠[])(hr:∀ p∈ps,0<=p.1/\p.1<a/\0<=p.2/\p.2<b)(f:Bool):∃ qs,Dv.sortSetTD (P ps) f=.ok (P qs) f/\TB a b qs/\qs.length<=ps.length:=by
 have m:∀ x,x∈Dv.onceL (ps.map f2) ↔ x∈ps.map f2:=λ x=>by unfold Dv.onceL;rw[i4];simp
 have e:Dv.onceL (ps.map f2)=((Dv.onceL (ps.map f2)).map g2).map f2:=by
  rw[zb];refine(hU λ l hl=>?_).symm;obtain⟨p,_,rfl⟩:=List.mem_map.mp ((m l).mp hl);rfl
 have nd:((Dv.onceL (ps.map f2)).map g2).Nodup:=fP (f:=f2) (by rw[<- e];exact kA _ _ (by simp));have le:(Dv.onceL (ps.map f2)).length<=ps.length:=by
  have:=km (ps.map f2) [];simp at this;unfold Dv.onceL;omega
 have m2:∀ p,p∈(Dv.onceL (ps.map f2)).map g2->p∈ps:=λ p hp=>by
  obtain⟨l,hl,rfl⟩:=List.mem_map.mp hp;obtain⟨q,hq,rfl⟩:=List.mem_map.mp ((m l).mp hl);exact hq
 refine⟨psort ((Dv.onceL (ps.map f2)).map g2),?_,jK (λ z=>?_) nd λ p hp=>hr p (m2 p hp),by rw[dU,yC];exact le⟩
 ·unfold P Dv.sortSetTD
  simp only[l8];rw[if_pos (by rw[yC];exact h)];have:=iq ((Dv.onceL (ps.map f2)).map g2);rw[<- e] at this;rw[this,xC]
 ·obtain⟨p,r,q⟩:=AL hn
  have:f2 p∈Dv.onceL (ps.map f2):=(m _).mpr (List.mem_map.mpr ⟨p,by rw[q];exact yG,rfl⟩);have h2:g2 (f2 p)∈(Dv.onceL (ps.map f2)).map g2:=List.mem_map.mpr ⟨_,this,rfl⟩;rw[z] at h2;cases h2
theorem mM (ps:List Sp):cmD .eq (P ps) (.lst [])=.ok (.bl (decide (ps=[]))) true:=si ps []
theorem pN (h:Sides a b){cs:List Int}(hl:cs.length<=40):∃ ps f,F_Q0G [L cs,S a b]=.ok (P ps) f/\TB a b ps/\ps.length<=40:=by
 have ha:=h.a0;have hb:=h.b0;obtain⟨z',y',e⟩:=ip h (A:=L cs) cs [] .no .no (by simp;omega);rw[yO] at e;have e':forGo 3 b_Q0G_l1 (cs.map .int) [.sh (L cs),.sh (S a b),.ow (.lst []),.no,.no]=.nx [.sh (L cs),.sh (S a b),.ow (P (cs.map (dsp a b))),z',y']:=e;have dr:∀ c,0<=(dsp a b c).1/\(dsp a b c).1<a/\0<=(dsp a b c).2/\(dsp a b c).2<b:=λ c=>gg ha hb _ _
 by_cases q:cs.map (dsp a b)=[]
 ·obtain⟨qs,s1,s2,s3⟩:=rP (a:=a) (b:=b) (ps:=[(a-1,0)]) (by simp) (by simp) (λ p hp=>by simp at hp;subst hp;exact⟨by show 0<=a-1;omega,by show a-1<a;omega,by show (0:Int)<=0;omega,hb⟩) false
  refine⟨qs,false,?_,s2,by simp at s3;omega⟩;rw[q] at e';have s1':Dv.sortSetTD (.lst [D.tup [.int (a-1),.int 0]]) false=.ok (P qs) false:=s1;have hx:decide (([]:List D).length<Dv.mx)=true:=by decide
  have hc:cmD .eq (.lst []) (.lst [])=.ok (.bl true) true:=mM [];have e2:forGo 3 b_Q0G_l1 (cs.map .int) [.sh (L cs),.sh (S a b),.ow (.lst []),.no,.no]=.nx [.sh (L cs),.sh (S a b),.ow (.lst []),z',y']:=e';simp only[F_Q0G,b_Q0G,b_Q0G_t3,b_Q0G_t2,b_Q0G_t1,Dv.fn,sCons,sSet,keep_nil,Dv.give,Dv.open_,aF,aA,aw,aE,sIf,sRet,sFor,iSeq,eB1,eIx,eCm,eOp,eVar,eInt,eLst,eTup,lNil,lCons,Dv.all,R.bind,RL.bind,Dv.R.bindL,Dv.RL.bindL,Out.bind,ar,aU,ak,yB,yJ,yE,yR,List.replicate,yP,yO,yA,yD,yM,yN,yT,yZ,yQ,yV,Nat.reduceAdd,Nat.reduceSub,gL,e2,hc,sAppF,scS,bM,hx,s1'];have hz:(0:Nat)<100000:=by decide
  simp only[ar,aU,ak,yB,yJ,yA,yD,if_true,decide_true,Dv.mx,decide_true,if_true,hz,s1']
 ·obtain⟨qs,s1,s2,s3⟩:=rP (a:=a) (b:=b) (ps:=cs.map (dsp a b)) (by rw[yC];omega) q (λ p hp=>by obtain⟨c,_,rfl⟩:=List.mem_map.mp hp;exact dr c) false
  refine⟨qs,false,?_,s2,by rw[yC] at s3;omega⟩;simp only[F_Q0G,b_Q0G,b_Q0G_t3,b_Q0G_t2,b_Q0G_t1,Dv.fn,sCons,sNil,sSet,keep_nil,Dv.give,Dv.open_,aF,aA,aw,aE,sIf,sRet,sFor,iSeq,eB1,eCm,eVar,eLst,lNil,Dv.all,R.bind,RL.bind,Out.bind,ar,aU,ak,yB,yJ,yE,yR,List.replicate,yP,yO,yA,yD,yM,yN,yT,yZ,yQ,Nat.reduceAdd,Nat.reduceSub,e',mM,decide_eq_false q,scP,s1]
theorem mv (h:Sides a b){A:D}{r u c:Int}{p:Sp}(hp:0<=p.1/\p.1<a){acc:List Sp}(hl:acc.length<=1000):b_Q0N_l1 [.sh (S a b),.sh A,.sh (.int r),.sh (.int u),.sh (.int (b*c)),.ow (P acc),.sh (.int p.1),.sh (.int p.2)]=.nx [.sh (S a b),.sh A,.sh (.int r),.sh (.int u),.sh (.int (b*c)),.ow (P (acc++[((p.1+r)%a,(p.2+u)%b)])),.sh (.int p.1),.sh (.int p.2)]:=by
 have ha:=h.a0;have hb:=h.b0;have h6:=h.a60;have hx:decide (acc.length<Dv.mx)=true:=decide_eq_true (by unfold Dv.mx;omega);have hm:(p.2+u+b*c*p.1)%b=(p.2+u)%b:=by rw[Bw,Int.add_mul_emod_self_left]
 simp only[b_Q0N_l1,eIx,eOp,eVar,eInt,eTup,lNil,lCons,Dv.all,R.bind,RL.bind,Dv.R.bindL,Dv.RL.bindL,Out.bind,ar,aU,aj,yB,yJ,yA,yD,yM,yN,yV,if_true,bf,yC,sAppF,scS,bM,bW,au ha,bI (cD (i:=b*c) (j:=p.1) ⋯ ⋯),au hb,hx,hm];show Out.nx [_,_,_,_,_,.ow (.lst (acc.map T++[T ((p.1+r)%a,(p.2+u)%b)])),_,_]=_
 rw[uW]
theorem g9 (h:Sides a b){A:D}{r u c:Int}:∀ (ps:List Sp) (acc:List Sp) (z y:Sl),(∀ p∈ps,0<=p.1/\p.1<a)->acc.length+ps.length<=1000->∃ z' y',Dv.forGoT (Dv.tupTo [6,7]) b_Q0N_l1 (ps.map T) [.sh (S a b),.sh A,.sh (.int r),.sh (.int u),.sh (.int (b*c)),.ow (P acc),z,y]=.nx [.sh (S a b),.sh A,.sh (.int r),.sh (.int u),.sh (.int (b*c)),.ow (P (acc++ps.map λ p=>((p.1+r)%a,(p.2+u)%b))),z',y']
 | [],acc,z,y,_,_=>⟨z,y,by simp[Dv.forGoT]⟩
 | p::ps,acc,z,y,hr,hl=>by
  rw[yE] at hl;obtain⟨z',y',e⟩:=g9 h (A:=A) (r:=r) (u:=u) (c:=c) ps (acc++[((p.1+r)%a,(p.2+u)%b)]) (.sh (.int p.1)) (.sh (.int p.2)) (λ q hq=>hr q (yF _ hq)) (by rw[yY];simp;omega);refine⟨z',y',?_⟩;have h0:Dv.tupTo [6,7] (T p) [.sh (S a b),.sh A,.sh (.int r),.sh (.int u),.sh (.int (b*c)),.ow (P acc),z,y]=some [.sh (S a b),.sh A,.sh (.int r),.sh (.int u),.sh (.int (b*c)),.ow (P acc),.sh (.int p.1),.sh (.int p.2)]:=rfl;rw[yB,fQ h0 (mv h (hr p yG) ⋯),e,zw];rfl
theorem gR (h:Sides a b){ps:List Sp}(hr:∀ p∈ps,0<=p.1/\p.1<a/\0<=p.2/\p.2<b)(hl:ps.length<64)(r u c:Int):F_Q0N [S a b,P ps,.int r,.int u,.int (b*c)]=.ok (P (mvd a b r u ps)) false:=by
 obtain⟨z',y',e⟩:=g9 h (A:=P ps) (r:=r) (u:=u) (c:=c) ps [] .no .no (λ p hp=>⟨(hr p hp).1,(hr p hp).2.1⟩) (by simp;omega);rw[yO] at e;have e':Dv.forGoT (Dv.tupTo [6,7]) b_Q0N_l1 (ps.map T) [.sh (S a b),.sh (P ps),.sh (.int r),.sh (.int u),.sh (.int (b*c)),.ow (.lst []),.no,.no]=_:=e;have e2:=jq (ps:=ps.map λ p=>(((p.1+r)%a,(p.2+u)%b):Sp)) (by rw[yC];exact hl) false;simp only[F_Q0N,b_Q0N,b_Q0N_t2,b_Q0N_t1,Dv.fn,sCons,sSet,keep_nil,Dv.give,Dv.open_,aF,aA,aw,aE,sRet,sForT,iSeq,eB1,eVar,eLst,lNil,Dv.all,R.bind,RL.bind,Out.bind,ar,aU,ak,yB,yJ,yE,yR,List.replicate,yP,yO,yA,yD,yM,yN,yT,yZ,yQ,Nat.reduceAdd,Nat.reduceSub,e',scP,e2];rfl
variable {a b:Int}
theorem b8 (c:Int):∀ (n:Nat) (lo:Int),(Dv.stepL lo c n).length=n
 | 0,_=>rfl
 | n+1,lo=>by rw[Dv.stepL,yE,b8]
theorem hZ {c:Int}(hc:0<c):∀ (n:Nat) (lo:Int),∀ x∈Dv.stepL lo c n,lo<=x/\x<lo+c*n
 | 0,_,x,hx=>by simp[Dv.stepL] at hx
 | n+1,lo,x,hx=>by
  rw[Dv.stepL] at hx;have e:c*((n+1:Nat):Int)=c+c*n:=by rw[Ai,Int.mul_add,B8,Int.add_comm]
  have q:0<=c*(n:Int):=Int.mul_nonneg ⋯ ⋯
  rcases List.mem_cons.mp hx with rfl|hx
  ·omega
  ·have:=hZ hc n (lo+c) x hx;omega
theorem kY {c:Int}(hc:0<c):∀ (n:Nat) (lo:Int),(Dv.stepL lo c n).Nodup
 | 0,_=>by simp[Dv.stepL]
 | n+1,lo=>by
  rw[Dv.stepL,zE];exact⟨λ hm=>by have:=hZ hc n _ _ hm;omega,kY hc n _⟩
theorem vM (n:Nat):Dv.upL 0 n=upto n:=by
 have:∀ (n:Nat) (lo:Int),Dv.upL lo n=(List.range n).map λ (i:Nat)=>lo+(i:Int):=by
  intro n
  induction n with
  | zero=>intro lo;rfl
  | succ n ih=>
   intro lo;rw[Dv.upL,ih,As,yB,zb];simp only[AZ,BF,List.cons.injEq,true_and];exact zv λ i _=>by simp only[DT,Ai];omega
 rw[this];unfold upto;exact zv λ i _=>⋯
structure Sub (s:Int)(A:List Int):Prop where
 nd:A.Nodup
 rg:∀ x∈A,0<=x/\x<s
theorem eS {s m:Int}(h1:1<=s)(h2:s<=60)(hm:0<=m):∃ A B f,F_Q0P [.int s,.int m]=.ok (.lst [L A,L B]) f/\Sub s A/\Sub s B/\((A.length*B.length:Nat):Int)=s:=by
 have hn:s∈divs s:=mem_divs.mpr ⟨h1,zZ _,Int.emod_self⟩;have hl:0<(divs s).length:=List.length_pos_of_mem hn;have hl2:(divs s).length<=60:=by
  have:(divs s).length<=(cZ s).length:=Bj _ _;have e:(cZ s).length<=60:=by unfold cZ;simp;omega
  omega
 have r0:=aY (a:=m) (show (0:Int)<(divs s).length by omega);generalize hk:m%((divs s).length:Int)=k at *;have hd:(divs s).getD k.toNat 0∈divs s:=getD_mem ⋯;have hat:=nQ (s:=divs s) (k:=k) r0.1 r0.2;generalize hdd:(divs s).getD k.toNat 0=d at *;obtain⟨d1,d2,d3⟩:=mem_divs.mp hd;have e1:c_Q0P_1 [some (.int s),some (.int m),none,none,none,none]=.ok (L (divs s)) true:=by
  have hi:iRange2 (eInt 1) (eOp .add (eVar 0) (eInt 1)) [some (.int s),some (.int m),none,none,none,none]=.ok ((cZ s).map .int) true:=by
   have hr:(rngOk 1&&rngOk (s+1))=true:=by simp[rngOk];omega
   simp only[iRange2,iRange2,eOp,eVar,eInt,R.bind,RL.bind,Out.bind,aj,yA,if_true,bf,hr];rw[dZ];unfold cZ;congr 2;rw[show (s+1-1).toNat=s.toNat by omega]
  have hu:(cZ s).length<=100000:=by unfold cZ;simp;omega
  have:=eN (elt:=eVar 0) (cond:=eCm .eq (eOp .mod (eVar 1) (eVar 0)) (eInt 0)) (is:=[0]) (c:=λ d=>decide (s%d=0)) (g:=id) hi hu
   (λ x hx=>by
    have:1<=x:=by unfold cZ at hx;obtain⟨i,_,rfl⟩:=List.mem_map.mp hx;omega
    simp only[eCm,eOp,eVar,eInt,Dv.pick,R.bind,RL.bind,Out.bind,aj,yB,yJ,yA,yD,yQ,bP,au (show 0<x by omega)]) (λ k _ _=>rfl)
  unfold c_Q0P_1;rw[this,Bh];rfl
 have q1:s/d*d=s:=Int.ediv_mul_cancel (Ab d3);have q0:0<s/d:=by
  rcases B7 0 (s/d) with q|q
  ·exact q
  ·have:s/d*d<=0:=Int.mul_nonpos_of_nonpos_of_nonneg q ⋯
   omega
 have e2:Dv.listRangeD (.int d) true=.ok (L (upto d.toNat)) true:=by
  have:(decide (0<=d)&&decide (d<=100000))=true:=by simp;omega
  simp only[Dv.listRangeD,this,if_true,vM]
 have e3:Dv.listRange3D (.int 0) (.int s) (.int d)=.ok (L (Dv.stepL 0 d (s/d).toNat)) true:=by
  have hr:(rngOk 0&&rngOk s&&rngOk d&&decide (0<d))=true:=by simp[rngOk];omega
  have hz:(s-0+d-1)/d=s/d:=by
   have:s-0+d-1=(d-1)+d*(s/d):=by rw[A4,q1];omega
   rw[this,Bf _ _ ⋯,Int.ediv_eq_zero_of_lt ⋯ ⋯,Int.zero_add]
  simp only[Dv.listRange3D,hr,if_true,hz]
 have hS1:Sub s (upto d.toNat):=⟨(c8 _).imp λ {x y} h e=>⋯,λ x hx=>by have:=mem_upto.mp hx;omega⟩;have hS2:Sub s (Dv.stepL 0 d (s/d).toNat):=⟨kY ⋯ _ _,λ x hx=>by
  have:=hZ (show 0<d by omega) _ _ x hx;rw[zF ⋯,A4,q1] at this;omega⟩
 have hz:((d.toNat*(s/d).toNat:Nat):Int)=s:=by
  rw[AD,zF ⋯,zF ⋯,A4,q1]
 have hx:Dv.ixD (L (divs s)) (.int k) false=.ok (.int d) true:=by unfold L Dv.ixD;simp only[hat,aj,zH]
 have lt2:(2:Int)<2 ^ 200:=by decide
 by_cases c:m/8%2=1
 ·refine⟨Dv.stepL 0 d (s/d).toNat,upto d.toNat,false,?_,hS2,hS1,by rw[upto_len,b8,A2];exact hz⟩
  simp only[F_Q0P,b_Q0P,b_Q0P_t5,b_Q0P_t4,b_Q0P_t3,b_Q0P_t2,b_Q0P_t1,Dv.fn,sCons,sSet,sSetG,aM,cY,Dv.give,Dv.open_,aF,aA,aw,aE,sIf,sRet,sPar,eB1,eIx,eCm,eOp,eVar,eInt,eLst,lNil,lCons,Dv.all,R.bind,RL.bind,Dv.R.bindL,Dv.RL.bindL,Out.bind,aW,ar,aU,aj,ak,yB,yJ,yE,yR,List.replicate,yP,yO,yA,yD,yM,yN,yT,yZ,yQ,yV,zi,Nat.reduceAdd,Nat.reduceSub,bP,yC,eB3,e1,au (show (0:Int)<(divs s).length by omega),Dv.lenD,hk,hx,e2,e3,aT (show (0:Int)<8 by decide) (by decide),au (show (0:Int)<2 by decide),decide_eq_true c]
 ·refine⟨upto d.toNat,Dv.stepL 0 d (s/d).toNat,false,?_,hS1,hS2,by rw[upto_len,b8];exact hz⟩
  simp only[F_Q0P,b_Q0P,b_Q0P_t5,b_Q0P_t4,b_Q0P_t3,b_Q0P_t2,b_Q0P_t1,Dv.fn,sCons,sNil,sSet,sSetG,aM,cY,Dv.give,Dv.open_,aF,aA,aw,aE,sIf,sRet,eB1,eIx,eCm,eOp,eVar,eInt,eLst,lNil,lCons,Dv.all,R.bind,RL.bind,Dv.R.bindL,Dv.RL.bindL,Out.bind,aW,ar,aU,aj,ak,yB,yJ,yE,yR,List.replicate,yP,yO,yA,yD,yM,yN,yT,yZ,yQ,yV,zi,Nat.reduceAdd,Nat.reduceSub,bP,yC,eB3,e1,au (show (0:Int)<(divs s).length by omega),Dv.lenD,hk,hx,e2,e3,aT (show (0:Int)<8 by decide) (by decide),au (show (0:Int)<2 by decide),decide_eq_false c]
variable {a b:Int}
def crs (A B:List Int):List Sp:=A.flatMap λ x=>B.map λ y=>(x,y)
theorem jG (A B:List Int):(crs A B).length=A.length*B.length:=by
 unfold crs;rw[Bu]
 induction A with
 | nil=>simp
 | cons x A ih=>rw[yB,BV,ih,yC,yE,B9,Nat.one_mul,AF]
theorem crs_mem {A B:List Int}{p:Sp}:p∈crs A B ↔ p.1∈A/\p.2∈B:=by
 unfold crs;rw[BK]
 constructor
 ·rintro ⟨x,hx,hp⟩
  obtain⟨y,hy,rfl⟩:=List.mem_map.mp hp;exact⟨hx,hy⟩
 ·rintro ⟨h1,h2⟩
  exact⟨p.1,h1,List.mem_map.mpr ⟨p.2,h2,rfl⟩⟩
theorem wH {A B:List Int}(ha:A.Nodup)(hb:B.Nodup):(crs A B).Nodup:=by
 unfold crs List.Nodup;rw[Bi];refine⟨λ x _=>?_,ha.imp λ {x y} h p hp q hq e=>?_⟩
 ·exact eJ hb λ y _ z _ e=>congrArg Prod.snd e
 ·obtain⟨_,_,rfl⟩:=List.mem_map.mp hp
  obtain⟨_,_,rfl⟩:=List.mem_map.mp hq;exact h (congrArg Prod.fst e)
theorem qZ {x y:List Sp}(h:x.length+y.length<=1000):∃ f,opD .add (P x) (P y)=.ok (P (x++y)) f:=by
 refine⟨Dv.flatL (x.map T)&&Dv.flatL (y.map T),?_⟩;unfold opD;simp only[yC,if_pos (show x.length+y.length<=Dv.mx by unfold Dv.mx;omega),<- Af]
theorem uZ {ys:List D}{k:Int}{B:List Int}(h:Dv.at? ys k=some (L B)):Dv.ixD (.lst ys) (.int k) false=.ok (L B) false:=by
 unfold Dv.ixD;simp only[h,ak,AA]
theorem uT {X0 X1 X2 X3 n fo:D}{ln k:Int}{B:List Int}{ys:List D}(hY:Dv.at? ys k=some (L B))(hB:B.length<=60):∀ (xs:List Int) (acc:List Sp) (z:Sl),acc.length+B.length*xs.length<=1000 ->
  ∃ z',forGo 10 b_Q0V_l1 (xs.map .int) [.sh X0,.sh X1,.sh X2,.sh X3,.sh (.lst ys),.sh (.int ln),.ow fo,.sh (.int k),.sh n,.sh (P acc),z]=.nx [.sh X0,.sh X1,.sh X2,.sh X3,.sh (.lst ys),.sh (.int ln),.ow fo,.sh (.int k),.sh n,.sh (P (acc++crs xs B)),z']
 | [],acc,z,_=>⟨z,by simp[forGo,crs]⟩
 | x::xs,acc,z,hl=>by
  rw[yE,Ap] at hl;obtain⟨z',e⟩:=uT (X0:=X0) (X1:=X1) (X2:=X2) (X3:=X3) (ln:=ln) (fo:=fo) (n:=n) hY hB xs (acc++B.map λ y=>(x,y)) (.sh (.int x)) (by rw[yY,yC];omega);refine⟨z',?_⟩;have e1:c_Q0V_1 [some X0,some X1,some X2,some X3,some (.lst ys),some (.int ln),none,some (.int k),some n,some (P acc),some (.int x)]=.ok (P (B.map λ y=>(x,y))) true:=by
   unfold c_Q0V_1 eComp;have hi:iSeq (eIx (eVar 4) (eVar 7)) [some X0,some X1,some X2,some X3,some (.lst ys),some (.int ln),none,some (.int k),some n,some (P acc),some (.int x)]=.ok (B.map .int) false:=by
    simp only[iSeq,eIx,eVar,R.bind,RL.bind,Out.bind,aj,ak,yA,yD,uZ hY]
   rw[hi];simp only;rw[if_pos (by rw[yC];unfold Dv.mx;omega)];rw[iy (g:=λ y=>T (x,y)) λ y _=>rfl];simp only[P,zb];rfl
  obtain⟨f,e2⟩:=qZ (x:=acc) (y:=B.map λ y=>(x,y)) (by rw[yC];omega);have eb:b_Q0V_l1 [.sh X0,.sh X1,.sh X2,.sh X3,.sh (.lst ys),.sh (.int ln),.ow fo,.sh (.int k),.sh n,.sh (P acc),.sh (.int x)]=.nx [.sh X0,.sh X1,.sh X2,.sh X3,.sh (.lst ys),.sh (.int ln),.ow fo,.sh (.int k),.sh n,.sh (P (acc++B.map λ y=>(x,y))),.sh (.int x)]:=by
   simp only[b_Q0V_l1,sSetG,Dv.give,Dv.open_,aF,aw,aE,eOp,eVar,R.bind,RL.bind,Out.bind,ak,yB,yJ,yA,yD,yM,yN,yT,yZ,yQ,e1,e2]
  rw[yB,bo eb,e,zw];rfl
theorem mU (h:Sides a b){ds:List Int}(hd:(ds.length:Int)=45){c k:Int}(hk:0<=k/\k<2){A B:List Int}{xs ys:List D}(hX:Dv.at? xs k=some (L A))(hY:Dv.at? ys k=some (L B))(sA:Sub a A)(sB:Sub b B)(hA:A≠[])(hB:B≠[])(hl:A.length*B.length<=60){fo:List D}(hf:fo.length<=10){z8 z9 z10:Sl}:
  ∃ ps z8' z9' z10',TB a b ps/\ps.length=A.length*B.length/\b_Q0V_l2 [.sh (L ds),.sh (.int 41),.sh (S a b),.sh (.lst xs),.sh (.lst ys),.sh (.int (b*c)),.ow (.lst fo),.sh (.int k),z8,z9,z10]=.nx [.sh (L ds),.sh (.int 41),.sh (S a b),.sh (.lst xs),.sh (.lst ys),.sh (.int (b*c)),.ow (.lst (fo++[P ps])),.sh (.int k),z8',z9',z10']:=by
 have ha:=h.a0;have hb:=h.b0;have a6:=h.a60;have b6:=h.b60;have hla:0<A.length:=List.length_pos_iff.mpr hA;have hlb:0<B.length:=List.length_pos_iff.mpr hB;have q1:A.length*1<=A.length*B.length:=Br _ hlb;have q2:1*B.length<=A.length*B.length:=Nat.mul_le_mul_right _ hla;have q3:=A2 A.length B.length;have e0:=gH (s:=ds) (k:=41+2+k) ⋯ ⋯;generalize hn:fW ds (41+2+k)*48271%2147483647=n at *;obtain⟨z',e1⟩:=uT (X0:=L ds) (X1:=.int 41) (X2:=S a b) (X3:=.lst xs) (n:=.int n) (fo:=.lst fo) (ln:=b*c) hY ⋯ A [] z10 (by simp;omega);rw[yO] at e1;have e1':forGo 10 b_Q0V_l1 (A.map .int) [.sh (L ds),.sh (.int 41),.sh (S a b),.sh (.lst xs),.sh (.lst ys),.sh (.int (b*c)),.ow (.lst fo),.sh (.int k),.sh (.int n),.sh (.lst []),z10]=_:=e1;have hr:∀ p∈crs A B,0<=p.1/\p.1<a/\0<=p.2/\p.2<b:=λ p hp=>by
  obtain⟨h1,h2⟩:=crs_mem.mp hp;have:=sA.rg _ h1;have:=sB.rg _ h2;omega
 have hne:crs A B≠[]:=λ z=>by have:=jG A B;have g:=Bk hla hlb;rw[z,yR] at this;omega
 have e2:=gR h hr (by rw[jG];omega) (n%61) (n/64%61) c;refine⟨mvd a b (n%61) (n/64%61) (crs A B),.sh (.int n),.sh (P (crs A B)),z',lI ha hb hne (wH sA.nd sB.nd) hr,by rw[ny,jG],?_⟩;have hx:decide (fo.length<Dv.mx)=true:=decide_eq_true (by unfold Dv.mx;omega);simp only[b_Q0V_l2,sCons,sSet,sSetG,aM,Dv.give,Dv.open_,aF,aw,aE,sFor,iSeq,eIx,eOp,eVar,eInt,eLst,lNil,lCons,eCall,Dv.all,R.bind,RL.bind,Dv.R.bindL,Dv.RL.bindL,Out.bind,ar,aU,aj,ak,yB,yJ,yA,yD,yM,yN,yT,yZ,yQ,yV,zi,if_true,bf,sAppG,e0,bI (cD (j:=48271) (by decide) (by decide)),au (show (0:Int)<2147483647 by decide),hn,uZ hX,e1',aT (show (0:Int)<64 by decide) (by decide),au (show (0:Int)<61 by decide),e2,hx]
theorem iF {p:Sp}(hp:p∈sidesL){ds:List Int}(hd:(ds.length:Int)=45)(dr:∀ d∈ds,0<=d):∃ ps ss f,F_Q0V [L ds,.int 41,S p.1 p.2]=.ok (.lst [P ps,P ss]) f/\TB p.1 p.2 ps/\TB p.1 p.2 ss/\ps.length*ss.length<=60:=by
 have h:=kG hp;have ha:=h.a0;have hb:=h.b0;have a6:=h.a60;have b6:=h.b60;have h6:=h.le;have c0:=gH (s:=ds) (k:=41) ⋯ ⋯;have c1:=gH (s:=ds) (k:=41+1) ⋯ ⋯;have p0:0<=fW ds 41:=dr _ (by unfold fW;exact getD_mem ⋯);obtain⟨A0,A1,fa,ea,sA0,sA1,la⟩:=eS (s:=p.1) (m:=fW ds 41%1000003) ⋯ a6 (aY (by decide)).1;obtain⟨B0,B1,fb,eb,sB0,sB1,lb⟩:=eS (s:=p.2) (m:=fW ds 41/16%1000003) ⋯ b6 (aY (by decide)).1;have nz:∀ {x y:List Int} {s:Int},0<s->((x.length*y.length:Nat):Int)=s->x≠[]/\y≠[]:=λ hs e=>by
  constructor
  ·rintro rfl;simp at e;omega
  ·rintro rfl;simp at e;omega
 obtain⟨nA0,nA1⟩:=nz ha la;obtain⟨nB0,nB1⟩:=nz hb lb;have key:A0.length*B0.length*(A1.length*B1.length)<=60:=by
  have e:((A0.length*B0.length*(A1.length*B1.length):Nat):Int)=p.1*p.2:=by
   rw[<- la,<- lb,<- AD];congr 1;rw[BY,BY,Nat.mul_left_comm B0.length]
  omega
 have g0:0<A0.length*B0.length:=Bk (List.length_pos_iff.mpr nA0) (List.length_pos_iff.mpr nB0);have g1:0<A1.length*B1.length:=Bk (List.length_pos_iff.mpr nA1) (List.length_pos_iff.mpr nB1);have k0:A0.length*B0.length<=60:=zr (A5 _ g1) key;have k1:A1.length*B1.length<=60:=zr (Ba _ g0) key;generalize hc:fW ds (41+1)%7=c at *;obtain⟨ps,y8,y9,y10,t1,l1,e1⟩:=mU h hd (c:=c) (k:=0) ⋯ (xs:=[L A0,L A1]) (ys:=[L B0,L B1]) (A:=A0) (B:=B0) rfl rfl sA0 sB0 nA0 nB0 k0 (fo:=[]) (by simp) (z8:=.no) (z9:=.no) (z10:=.no);obtain⟨ss,x8,x9,x10,t2,l2,e2⟩:=mU h hd (c:=c) (k:=1) ⋯ (xs:=[L A0,L A1]) (ys:=[L B0,L B1]) (A:=A1) (B:=B1) rfl rfl sA1 sB1 nA1 nB1 k1 (fo:=[P ps]) (by simp) (z8:=y8) (z9:=y9) (z10:=y10);have el:forGo 7 b_Q0V_l2 (Dv.rangeL 0 2) [.sh (L ds),.sh (.int 41),.sh (S p.1 p.2),.sh (.lst [L A0,L A1]),.sh (.lst [L B0,L B1]),.sh (.int (p.2*c)),.ow (.lst []),.no,.no,.no,.no]=.nx [.sh (L ds),.sh (.int 41),.sh (S p.1 p.2),.sh (.lst [L A0,L A1]),.sh (.lst [L B0,L B1]),.sh (.int (p.2*c)),.ow (.lst [P ps,P ss]),.sh (.int 1),x8,x9,x10]:=by
  show forGo 7 b_Q0V_l2 [.int 0,.int (0+1)] _=_
  rw[bo (st':=_) e1,bo (st':=_) e2];rfl
 have hr:rngOk 2=true:=by decide
 have hq:p.2/1=p.2:=Int.ediv_one _;refine⟨ps,ss,Dv.flatL [P ps,P ss],?_,t1,t2,by rw[l1,l2];exact key⟩;have m7:opD .mul (.int p.2) (.int c)=.ok (.int (p.2*c)) true:=bI (dR ⋯ ⋯);simp only[F_Q0V,b_Q0V,b_Q0V_t5,b_Q0V_t4,b_Q0V_t3,b_Q0V_t2,b_Q0V_t1,Dv.fn,sCons,sSet,sSetG,aM,keep_nil,Dv.give,Dv.open_,aF,aA,aw,sRetO,sFor,iRange,eIx,eOp,eVar,eInt,eLst,lNil,lCons,eCall,Dv.all,R.bind,RL.bind,Dv.R.bindL,Dv.RL.bindL,Out.bind,aW,ar,aj,ak,yB,yJ,yE,yR,List.replicate,yP,yO,yA,yD,yM,yN,yT,yZ,yQ,yV,if_true,Nat.reduceAdd,Nat.reduceSub,bf,c0,c1,scS,bM,bW,au (show (0:Int)<1000003 by decide),ea,aT (show (0:Int)<16 by decide) (by decide),eb,vE hp,aT (show (0:Int)<1 by decide) (by decide),hq,au (show (0:Int)<7 by decide),hc,m7,hr,show (2:Int).toNat=2 by decide,el]
variable {a b:Int}
theorem yu {α β:Type}(g:α->β)(xs:List α)(lo hi:Option Int):Dv.cutL (xs.map g) lo hi=(Dv.cutL xs lo hi).map g:=by
 unfold Dv.cutL;rw[yC,BW,Bv]
theorem xA {α:Type}{xs:List α}{k:Int}(h:0<=k)(h2:k<=xs.length):Dv.cutL xs none (some k)=xs.take k.toNat:=by
 unfold Dv.cutL Dv.cutI;simp only[Bl,B6,if_neg (show ¬ k<0 by omega)];congr 1;omega
theorem ub {α:Type}{xs:List α}{k:Int}(h:0<=k)(h2:k<=xs.length):Dv.cutL xs (some k) none=xs.drop k.toNat:=by
 unfold Dv.cutL Dv.cutI;simp only[if_neg (show ¬ k<0 by omega)];rw[show min k.toNat xs.length=k.toNat by omega,zD (by rw[Av];omega)]
theorem mF (ps:List Sp)(f:Bool)(lo hi:Option Int):∃ f',Dv.sliceD (P ps) f lo hi=.ok (P (Dv.cutL ps lo hi)) f':=by
 refine⟨f || Dv.flatL (Dv.cutL (ps.map T) lo hi),?_⟩;unfold Dv.sliceD;simp only[yu]
theorem jN (h:Sides a b){ps:List Sp}(t:TB a b ps)(hl:ps.length<=60)(m:Int):∃ qs f,F_Q0S [S a b,P ps,.int m]=.ok (P qs) f/\TB a b qs/\qs.length=ps.length:=by
 have ha:=h.a0;have hb:=h.b0;have l1:0<ps.length:=List.length_pos_iff.mpr t.ne;have r0:=aY (a:=m) (show (0:Int)<ps.length by omega);generalize hk:m%(ps.length:Int)=k at *;obtain⟨f1,s1⟩:=mF ps false none (some k);obtain⟨f2',s2⟩:=mF ps false (some (k+1)) none;rw[xA r0.1 ⋯] at s1;rw[ub ⋯ ⋯] at s2;have hz:(k+1).toNat=k.toNat+1:=⋯
 rw[hz] at s2;obtain⟨f3,s3⟩:=qZ (x:=ps.take k.toNat) (y:=ps.drop (k.toNat+1)) (by rw[zo,Av];omega);have er:ps.take k.toNat++ps.drop (k.toNat+1)=ps.eraseIdx k.toNat:=(Ay ps k.toNat).symm;rw[er] at s3;have rl:(ps.eraseIdx k.toNat).length=ps.length-1:=AK ⋯;have rs:(ps.eraseIdx k.toNat).Sublist ps:=List.eraseIdx_sublist ps k.toNat
 let q:Sp:=(m/64%a,m/4096%b)
 have eT:D.tup [.int (m/64%a),.int (m/4096%b)]=T q:=rfl;have hi:=wD (p:=q) (ps:=ps.eraseIdx k.toNat) ⋯;have lenP:=u0 ps false;by_cases c:q∈ps.eraseIdx k.toNat
 ·refine⟨ps,false,?_,t,rfl⟩
  rw[decide_eq_true c] at hi;simp only[F_Q0S,b_Q0S,b_Q0S_t4,b_Q0S_t3,b_Q0S_t2,b_Q0S_t1,Dv.fn,sCons,sSet,sSetG,aM,Dv.give,Dv.open_,aF,aA,aw,sIf,sRetO,eB1,eB2,eIx,eOp,eVar,eInt,eTup,lNil,lCons,eSlice,ePart,Dv.all,R.bind,RL.bind,Dv.R.bindL,Dv.RL.bindL,Out.bind,aW,ar,aj,ak,yB,yJ,yE,yR,List.replicate,yP,yO,yA,yD,yM,yN,yT,yZ,yQ,yV,Nat.reduceAdd,Nat.reduceSub,bf,scP,lenP,au (show (0:Int)<ps.length by omega),hk,s1,s2,s3,aT (show (0:Int)<64 by decide) (by decide),aT (show (0:Int)<4096 by decide) (by decide),scS,bM,bW,au ha,au hb,eT,hi]
 ·have nd:(ps.eraseIdx k.toNat++[q]).Nodup:=by
   rw[List.nodup_append];refine⟨t.nd.sublist rs,by simp,λ x hx y hy e=>?_⟩;simp at hy;subst hy;subst e;exact c hx
  have hrg:∀ p∈ps.eraseIdx k.toNat++[q],0<=p.1/\p.1<a/\0<=p.2/\p.2<b:=λ p hp=>by
   rcases List.mem_append.mp hp with hp|hp
   ·exact t.rg p (rs.subset hp)
   ·simp at hp;subst hp;exact gg ha hb _ _
  obtain⟨f4,s4⟩:=qZ (x:=ps.eraseIdx k.toNat) (y:=[q]) (by simp;omega);have s4':opD .add (P (ps.eraseIdx k.toNat)) (.lst [T q])=.ok (P (ps.eraseIdx k.toNat++[q])) f4:=s4;have s5:=jq (ps:=ps.eraseIdx k.toNat++[q]) (by simp;omega) f4;refine⟨psort (ps.eraseIdx k.toNat++[q]),f4,?_,jK (by simp) nd hrg,by rw[dU];simp;omega⟩;rw[decide_eq_false c] at hi;simp only[F_Q0S,b_Q0S,b_Q0S_t4,b_Q0S_t3,b_Q0S_t2,b_Q0S_t1,Dv.fn,sCons,sNil,sSet,sSetG,aM,Dv.give,Dv.open_,aF,aA,aw,sIf,sRet,eB1,eB2,eIx,eOp,eVar,eInt,eLst,eTup,lNil,lCons,eSlice,ePart,Dv.all,R.bind,RL.bind,Dv.R.bindL,Dv.RL.bindL,Out.bind,aW,ar,aj,ak,yB,yJ,yE,yR,List.replicate,yP,yO,yA,yD,yM,yN,yT,yZ,yQ,yV,Nat.reduceAdd,Nat.reduceSub,bf,scP,lenP,au (show (0:Int)<ps.length by omega),hk,s1,s2,s3,aT (show (0:Int)<64 by decide) (by decide),aT (show (0:Int)<4096 by decide) (by decide),scS,bM,bW,au ha,au hb,eT,hi,s4',s5]
theorem nv:∀ ps:List Sp,Dv.itemsOk (ps.map T)=true
 | []=>rfl
 | p::ps=>by
  rw[yB];show (Dv.flatL [.int p.1,.int p.2]&&Dv.itemsOk (ps.map T))=true
  rw[nv ps];rfl
theorem jA (h:Sides a b){ps:List Sp}(t:TB a b ps)(hl:ps.length<=60):F_Q0U [S a b,P ps]=.ok (.bl true) true:=by
 have ha:=h.a0;have hb:=h.b0;have n0:=ab0 h;have h60:=h.le;have fb:=bg h t;have fl:=g8 h t;have hd:=ku h t;have e1:∀ z,c_Q0U_1 [some (S a b),some (P ps),some (.int (a*b)),none,none,none,none,none,z]=.ok (L (ps.map (plc a b))) true:=λ z=>by
  unfold c_Q0U_1 eComp;have hi:iSeq (eVar 1) [some (S a b),some (P ps),some (.int (a*b)),none,none,none,none,none,z]=.ok (ps.map T) false:=rfl;rw[hi];simp only;rw[if_pos (by rw[yC];unfold Dv.mx;omega)];rw[iy (g:=λ p=>D.int (plc a b p)) λ p hp=>?_]
  ·simp only[L,zb];rfl
  ·simp only[eVar,lNil,lCons,eCall,Dv.pick,R.bind,RL.bind,Dv.R.bindL,Dv.RL.bindL,Out.bind,yB,yJ,yA,yD,yQ,yV,cO h (t.rg p hp)]
 have e2:=gm (xs:=ps.map (plc a b)) (by rw[yC];omega) true;rw[hd] at e2;obtain⟨fL,e3⟩:∃ f,Dv.listD (P ps) false=.ok (P ps) f:=⟨_,rfl⟩;have e4:=bZ h t ⋯;have e5:=gI (flat a b ps) (flat a b ps);have e6:=mf h fb;rw[mO h t] at e6;have e7:=kb ps ps;have e8:F_Q0N [S a b,P ps,.int 3,.int 5,.int 0]=.ok (P (mvd a b 3 5 ps)) false:=by
  have:=gR h t.rg ⋯ 3 5 0;rw[Int.mul_zero] at this;exact this
 have prg:=gg ha hb 3 5;have e9:F_Q0O [S a b,.tup [.int (3%a),.int (5%b)]]=.ok (.int (plc a b (3%a,5%b))) true:=cO h prg;have pb:=dD h prg;generalize hc:plc a b (3%a,5%b)=c at *;have t2:TB a b (mvd a b 3 5 ps):=lI ha hb t.ne t.nd t.rg;have e10:=bZ h t2 (by rw[ny];omega);rw[qR h t (c:=c) pb.2.2] at e10;have e11:∀ x4 x5 x6 x7:D,c_Q0U_2 [some (S a b),some (P ps),some (.int (a*b)),some (L (flat a b ps)),some x4,some x5,some x6,some x7,some (.int c)]=.ok (L ((flat a b ps).map λ x=>(x+c)%(a*b))) true:=λ x4 x5 x6 x7=>by
  have hi:iSeq (eVar 3) [some (S a b),some (P ps),some (.int (a*b)),some (L (flat a b ps)),some x4,some x5,some x6,some x7,some (.int c)]=.ok ((flat a b ps).map .int) false:=rfl;unfold c_Q0U_2;exact oE hi ⋯ λ x _=>by simp only[eOp,eVar,Dv.pick,R.bind,RL.bind,Out.bind,aj,yB,yJ,yA,yD,yQ,bf,au n0]
 have e12:=gm (xs:=(flat a b ps).map λ x=>(x+c)%(a*b)) (by rw[yC];omega) true;have e13:=gI (Dv.isort ((flat a b ps).map λ x=>(x+c)%(a*b))) (Dv.isort ((flat a b ps).map λ x=>(x+c)%(a*b)));have kf:keepD (L (flat a b ps)) true=some (.ow (L (flat a b ps))):=cY _;have hx:decide ((flat a b ps).length<Dv.mx)=true:=decide_eq_true (by unfold Dv.mx;omega);simp only[F_Q0U,b_Q0U,b_Q0U_t12,b_Q0U_t11,b_Q0U_t10,b_Q0U_t9,b_Q0U_t8,b_Q0U_t7,b_Q0U_t6,b_Q0U_t5,b_Q0U_t4,b_Q0U_t3,b_Q0U_t2,b_Q0U_t1,Dv.fn,sCons,sNil,sSet,sSetG,aM,cY,Dv.give,Dv.open_,aF,aA,aw,aE,sIf,sRet,sApp,sClear,eB1,eIx,eOr,eAnd,eNot,eCm,eOp,eVar,eInt,eTup,lNil,lCons,eCall,Dv.all,R.bind,RL.bind,Dv.R.bindL,Dv.RL.bindL,Out.bind,aW,ar,aU,aj,ak,yB,yJ,yE,yR,List.replicate,yP,yO,yA,yD,yM,yN,yT,yZ,yQ,yV,zi,zd,if_true,Nat.reduceAdd,Nat.reduceSub,decide_true,jJ,yC,sSetF,scS,bM,bW,ji h,e1,e2,scP,e3,e4,e5,decide_true,rS,e6,nv,e7,e8,au ha,au hb,e9,e10,e11,e12,e13,hx]
theorem law64_ok {s:List Int}(hs:s.length<=63):F_Q0L [L s]=.ok (.bl true) true:=by
 obtain⟨ds,e0,hd,dr⟩:=sq hs (m:=45) (by decide) (by decide);have a0:=nQ (s:=ds) (k:=0) ⋯ ⋯;have a1:=nQ (s:=ds) (k:=1) ⋯ ⋯;generalize hc0:ds.getD (0:Int).toNat 0=c0 at *;generalize hc1:ds.getD (1:Int).toNat 0=c1 at *;have x0:Dv.ixD (L ds) (.int 0) false=.ok (.int c0) true:=by unfold L Dv.ixD;simp only[a0,aj,zH]
 have x1:Dv.ixD (L ds) (.int 1) false=.ok (.int c1) true:=by unfold L Dv.ixD;simp only[a1,aj,zH]
 obtain⟨p,hp,f1,e1⟩:=qK c0;have h:=kG hp;have e1':F_Q0Q [.int c0]=.ok (S p.1 p.2) f1:=e1;have e2:Dv.sliceD (L ds) false (some 2) (some (2+c0/42%39))=.ok (L (Dv.cutL ds (some 2) (some (2+c0/42%39)))) true:=nA ds false _ _;have cl:(Dv.cutL ds (some 2) (some (2+c0/42%39))).length<=40:=by
  have:=aY (a:=c0/42) (show (0:Int)<39 by decide);unfold Dv.cutL Dv.cutI;rw[zo];simp only[if_neg (show ¬ ((2:Int)<0) by decide),if_neg (show ¬ (2+c0/42%39<0) by omega)];omega
 generalize hcs:Dv.cutL ds (some 2) (some (2+c0/42%39))=cs at *;obtain⟨qs,f2',e3,t3,l3⟩:=pN h cl;have e4:=jA h t3 ⋯;obtain⟨ps,ss,f3,e5,t1,t2,l5⟩:=iF hp hd λ d hd=>(dr d hd).1
 have lp:0<ps.length:=List.length_pos_iff.mpr t1.ne;have ls:0<ss.length:=List.length_pos_iff.mpr t2.ne;have lp2:ps.length<=60:=zr (A5 _ ls) l5;have ls2:ss.length<=60:=zr (Ba _ lp) l5;have h60:=h.le;have rest:∀ rs:List Sp,TB p.1 p.2 rs->rs.length=ss.length->b_Q0L_t6 [.sh (L s),.sh (L ds),.sh (.int c0),.sh (S p.1 p.2),.sh (P ps),.sh (P rs),.no,.no,.no,.no]=.ret (.bl true) true:=λ rs tr lr=>by
  have g1:=rT h t1 tr (by rw[lr];omega);have g2:=bZ h t1 ⋯;have g3:=bZ h tr ⋯;have g4:=fH h t1 tr ⋯ ⋯ (by rw[lr];omega);have g5:=lZ h60 (bg h t1) (bg h tr);rw[iC h t1 tr] at g5;have g6:=jA h t1 lp2;have g7:=jA h tr ⋯;generalize dw p.1 p.2 ps rs=v at *;have i0:Dv.ixD (.lst [L (flat p.1 p.2 ps),L (flat p.1 p.2 rs)]) (.int 0) false=.ok (L (flat p.1 p.2 ps)) false:=rfl;have i1:Dv.ixD (.lst [L (flat p.1 p.2 ps),L (flat p.1 p.2 rs)]) (.int 1) false=.ok (L (flat p.1 p.2 rs)) false:=rfl;simp only[b_Q0L_t6,b_Q0L_t7,b_Q0L_t8,b_Q0L_t9,b_Q0L_t10,b_Q0L_t11,sCons,sNil,sSet,sSetG,jE,Dv.give,Dv.open_,aF,aA,aw,sIf,sRet,eB1,Dv.isBoolD,eIx,eOr,eAnd,eNot,eCm,eOp,eVar,eInt,eLst,lNil,lCons,eCall,Dv.all,R.bind,RL.bind,Dv.R.bindL,Dv.RL.bindL,Out.bind,aW,ar,j7,ak,yB,yJ,yA,yD,yM,yN,yT,yZ,yQ,yV,zi,zd,lP,g1,g2,g3,g4,scS,bM,bW,ji h,i0,i1,g5,g6,g7,beq_self_eq_true]
 have eu:∀ f,F_Q0V [L ds,.int 41,S p.1 p.2]=.ok (.lst [P ps,P ss]) f->True:=λ _ _=>trivial
 by_cases c:c0/21%2=1
 ·obtain⟨rs,f4,e6,t6,l6⟩:=jN h t2 ls2 (c1*48271%2147483647)
  have er:=rest rs t6 l6;simp only[F_Q0L,b_Q0L,b_Q0L_t1,b_Q0L_t2,b_Q0L_t3,b_Q0L_t4,b_Q0L_t5,Dv.fn,sCons,sNil,sSet,sSetG,aM,Dv.give,Dv.open_,aF,aA,aw,sIf,sUnpackL,Dv.setAll,eIx,eNot,eCm,eOp,eVar,eInt,lNil,lCons,eCall,eSlice,ePart,Dv.all,R.bind,RL.bind,Dv.R.bindL,Dv.RL.bindL,Out.bind,aW,ar,aj,ak,yB,yJ,yE,yR,List.replicate,yP,yO,yA,yD,yM,yN,yT,yZ,yQ,yV,AB,zi,zT,zd,if_true,Nat.reduceAdd,Nat.reduceSub,bf,bP,e0,x0,x1,e1',aT (show (0:Int)<42 by decide) (by decide),au (show (0:Int)<39 by decide),e2,e3,e4,e5,aT (show (0:Int)<21 by decide) (by decide),au (show (0:Int)<2 by decide),decide_eq_true c,bI (cD (i:=c1) (j:=48271) (by decide) (by decide)),au (show (0:Int)<2147483647 by decide),e6,er]
 ·have er:=rest ss t2 rfl
  simp only[F_Q0L,b_Q0L,b_Q0L_t1,b_Q0L_t2,b_Q0L_t3,b_Q0L_t4,b_Q0L_t5,Dv.fn,sCons,sNil,sSet,sSetG,aM,Dv.give,Dv.open_,aF,aA,aw,sIf,sUnpackL,Dv.setAll,eIx,eNot,eCm,eOp,eVar,eInt,lNil,lCons,eCall,eSlice,ePart,Dv.all,R.bind,RL.bind,Dv.R.bindL,Dv.RL.bindL,Out.bind,aW,ar,aj,ak,yB,yJ,yE,yR,List.replicate,yP,yO,yA,yD,yM,yN,yT,yZ,yQ,yV,AB,zT,zd,if_true,Nat.reduceAdd,Nat.reduceSub,bf,bP,e0,x0,x1,e1',aT (show (0:Int)<42 by decide) (by decide),au (show (0:Int)<39 by decide),e2,e3,e4,e5,aT (show (0:Int)<21 by decide) (by decide),au (show (0:Int)<2 by decide),decide_eq_false c,er]
end Cw
noncomputable def PySem.W.Fast.tw15713958392939849950:PySem.Program:=PySem.Challenge.pw_canonwheel_k64_whole_flat_and_up
theorem PySem.W.Fast.te15713958392939849950:PySem.Challenge.pw_canonwheel_k64_whole_flat_and_up=PySem.W.Fast.tw15713958392939849950:=rfl
namespace PySem.W.Fast
def tw11127660578193808281:=()
def tw7762976690060991803:=()
def tw4868373832189909268:=()
def tw11466131634991618472:=()
def tw1641062736065593600:=()
def tw1989926678632007171:=()
def tw17502883941468399108:=()
def tw8649616295569721357:=()
def tw9663463111053736559:=()
def tw7387850081844367468:=()
def tw13801548322156352625:=()
def tw1767456020891966216:=()
def tw3514055237986875826:=()
def tw2256257508274047274:=()
def tw17577500854346524700:=()
def tw14165573215274889121:=()
def tw791959659000472572:=()
def tw16455017871032950385:=()
def tw7516768596959143171:=()
def tw8133893158953121018:=()
def tw11963087723507280421:=()
def tw5586899107477137534:=()
def tw16671945504107246835:=()
def tw11703366097012338351:=()
def tw5780620872210532882:=()
def tw6414649034388585758:=()
def tw5138035811757057130:=()
def tw13737480387254385966:=()
def tw16904622958503690276:=()
def tw5845466855105473414:=()
def tw2521585821967079293:=()
def tw7605332129514466979:=()
def tw4436679122713495152:=()
def tw15576968856902034745:=()
def tw8330037134829812443:=()
def tw6762061964872147731:=()
def tw10325735993925299061:=()
def tw12039079421436496342:=()
def tw4929915540519202814:=()
def tw9850400543022038244:=()
def tw8736874737900744495:=()
def tw6111381085965801200:=()
def tw12267870259796170171:=()
def tw4036869434358425188:=()
def tw10769555954867950768:=()
def tw10969417489961236691:=()
def tw18188928010150617167:=()
def tw10079349846067836752:=()
def tw11408069663096976553:=()
def tw12494613381986244393:=()
def tw8350345146682428784:=()
def tw16875259608647699053:=()
def tw1921928975066920212:=()
def tw472465774233161165:=()
def tw7891811676681234015:=()
def tw16000775494649166960:=()
def tw10429534849631267370:=()
def tw17678191277866330109:=()
def tw77804197810406935:=()
def tw14814765452102018097:=()
end PySem.W.Fast
open PySem PySem.W PyProof.Rows
set_option maxRecDepth 100000 in
set_option maxHeartbeats 0 in
theorem PySem.Challenge.cw_canonwheel_k64_whole_flat_and_up_holds : PySem.Challenge.rw_canonwheel_k64_whole_flat_and_up.Holds := by
 w_on; o_law; k_head; (case hw => w_witness2)
 k_fill
 refine Sd.walkD (l := PySem.Challenge.rw_canonwheel_k64_whole_flat_and_up) (k := 6) (x := "_law_script") (CX := fun w => Sd.CXe PySem.Challenge.rw_canonwheel_k64_whole_flat_and_up.prog w) (Fl := Cw.F_Q0L) rfl rfl ⟨rfl,by decide,by decide⟩ (fun w h Y => PySem.W.kIn_of Y) (fun w => Sd.cxe_ok) ?F ?S
 case F =>
  intro w mg fa h KX G hmg
  refine' Lk64.all_mk KX G hmg ?Y0 ?Y1 ?Y2 ?Y3 ?Y4 ?Y5 ?Y6 ?Y7 ?Y8 ?Y9 ?Y10 ?Y11 ?Y12 ?Y13 ?Y14 ?Y15 ?Y16 ?Y17 ?Y18 ?Y19 ?Y20 ?Y21 ?Y22 ?Y23 ?Y24 ?Y25 ?Y26 ?Y27 ?Y28 ?Y29 ?Y30 ?Y31 ?Y32 ?Y33 ?Y34 ?Y35 ?Y36 ?Y37 ?Y38 ?Y39 ?Y40 ?Y41 ?Y42 ?Y43 ?Y44 ?Y45 ?Y46 ?Y47 ?Y48
  (case Y0|Y1|Y2|Y3|Y4|Y5|Y6|Y7|Y8|Y9|Y10|Y11|Y12|Y13|Y14|Y15|Y16|Y17|Y18|Y19|Y20|Y21|Y22|Y23|Y24|Y25|Y26|Y27|Y28=>exact ⟨_,_,_,_,_,_,_,_,_,_,by k_is,by k_is,by k_is,by k_is⟩)
  (case Y29|Y30|Y31|Y32|Y33|Y34|Y35|Y36|Y37|Y38|Y39|Y40|Y41|Y42|Y43|Y44|Y45|Y46|Y47=>show _ = _; k_is)
  (case Y48=>(constructor; (refine' Sd.hx_cons ?_ (Sd.hx_cons ?_ (Sd.hx_cons ?_ (Sd.hx_cons ?_ (Sd.hx_cons ?_ (Sd.fm_nil))))) <;> first | exact ⟨by k_is,by kit_is,by k_exc,⟨_,_,_,_,_,_,_,_,_,_,_,_,_,_,_,_,by k_is⟩,by k_is,by k_is,by k_is⟩ | skip); repeat' first | apply Sd.sxx_cons | apply Sd.sx_cons | exact Sd.fm_nil | exact Sd.sx_nil | kit_is))
 case S => exact fun ns hl _ => Cw.law64_ok hl
