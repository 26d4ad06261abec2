import PyProof.Rows.All
import Wide.All
import OpenK.AllK
import Wide.FinOn
import Lean
import PyProof.EqAt
import PyProof.EqKinds
import PyProof.TupleCall
import KE.BitLaws
import KE.KRevIter
import PyProof.P3In
import PySem.SetTable
import PyProof.TupleKey
import PyProof.SetRoads
import PyProof.IsRules
import PyProof.Rows.SetFrom
import KE.KDictSum
import PySem.Challenge.RW_canonwheel_k44_partner_kinds
set_option Elab.async false
set_option linter.all false
set_option maxRecDepth 100000
set_option maxHeartbeats 4000000
set_option compiler.extract_closed false
set_option genSizeOf false
set_option genSizeOfSpec false
set_option bootstrap.genMatcherCode false
noncomputable section
open List renaming getElem?_cons_zero → A1, map_cons → A2, getElem?_cons_succ → A3, length_map → A4, mem_cons_of_mem → A5, mem_cons_self → A6, getD_eq_getElem?_getD → A7, length_cons → A8, map_nil → A9, getElem?_eq_getElem → Ba, set_cons_zero → Bb, set_cons_succ → Bc, size_toArray → Bd, cons_append → Bf, nil_append → Bg, length_nil → Bk, foldl_cons → Bn, length_append → Bo, mem_append_right → Bp, foldl_nil → Bq, getElem?_map → Bv, getElem?_append_left → Bx, lookup_cons → Bz, getElem?_set_self → BA, mem_of_getElem? → BB, getElem_of_mem → BC, length_set → BD, mem_cons → BE, not_mem_nil → BG, map_congr_left → BH, map_map → BI, getElem?_append_right → BJ, mem_append_left → BK, drop_eq_getElem_cons → BM, getElem_mem → BO, replicate_succ → BP, length_singleton → BQ, length_range → BR, getElem?_set_ne → BU, perm_ext_iff_of_nodup → BW, getElem?_eq_none → BY, eq_nil_of_length_eq_zero → BZ, mem_append → B0, append_assoc → B2, length_take → B4, zip_cons_cons → B5, append_nil → B6, flatten_cons → B7, getElem?_range → B9, getElem_map → Cb, mem_singleton → Cc, length_replicate → Cd, take_append_drop → Ce, map_append → Cf, foldl_append → Cg, flatMap_cons → Ci, mem_map → Cj, any_cons → Co, find?_cons → Cp, take_of_length_le → Cq, count_eq_zero_of_not_mem → Cr, reverse_cons → Cv, filter_cons → CH, filterMap_cons → CI, exists_mem_of_ne_nil → CJ, mem_filter → CO, getElem?_replicate → CT, ext_getElem? → CV, drop_eq_nil_of_le → CZ, drop_length → C2, getElem?_toArray → C3, mem_of_mem_drop → C4, length_zip → C5, set_set → C6, length_reverse → C7, set_comm → De, pairwise_iff_getElem → Dh, mem_of_find?_eq_some → Dj, getElem_append_right → Dk, getElem_append_left → Dl, ext_getElem → Dm, nodup_range → Do, of_mem_zip → Dx, zip_append → DA, nodup_cons → DB, range_succ_eq_map → DC, zipWith_cons_cons → DD, countP_mono_left → DF, length_filter_le → DG, drop_zero → DJ, length_flatMap → DO, drop_succ_cons → DP, zip_nil_right → DQ, take_sublist → DX, drop_sublist → DY, length_drop → DZ, getElem_zip → D1, countP_cons → D2, mem_flatMap → D4, all_eq_true → D5, perm_cons → Eb, nodup_nil → Ed, all_cons → Ee, sum_cons → Eh, map_id → Eo
open Bool renaming false_eq_true → Be, and_eq_true → Bj, and_true → Bm, false_ne_true → Br, and_false → Bu, not_true → By, not_false → BL, or_true → Cn, true_and → CM, eq_iff_iff → CN, beq_eq_decide_eq → C1, false_and → DI, or_eq_true → D6, and_assoc → Ec, and_self → Eg, or_false → Ei
open Nat renaming le_refl → Bh, ne_of_lt → Bl, lt_of_lt_of_le → Bw, lt_succ_self → BF, le_trans → BN, lt_irrefl → BS, zero_le → BV, lt_succ_of_lt → BX, le_succ → Ct, le_succ_of_le → Cu, le_of_lt → CB, lt_or_ge → CD, zero_add → CF, le_add_right → CG, eq_of_mul_eq_mul_left → CL, ne_of_gt → CS, succ_mul → CU, mul_le_mul → C9, lt_trichotomy → Di, le_of_eq → Dq, lt_trans → Dr, mul_comm → Ds, min_le_left → Dy, le_mul_of_pos_left → DE, log2_lt → DH, mul_le_mul_right → DL, mod_lt → DM, add_sub_cancel' → DN, add_sub_cancel → DS, succ_add → DU, pow_succ → DV, sub_self → DW, le_antisymm → D8, add_assoc → Ef, add_comm → Ej
open Option renaming getD_some → Bi, map_eq_some_iff → B3, map_some → CP, isSome_map → Dg, getD_none → D0
open Int renaming mul_le_mul_of_nonneg_left → B8, le_refl → Cy, toNat_natCast → Cz, emod_add_mul_ediv → CA, emod_eq_emod_iff_emod_sub_eq_zero → CK, natCast_mul → CQ, emod_eq_of_lt → CY, mul_lt_mul_of_pos_right → C8, mul_emod_right → Dc, fdiv_eq_ediv_of_nonneg → Dd, natCast_succ → Dp, dvd_of_emod_eq_zero → Dt, mul_comm → Du, add_zero → Dw, mul_nonneg → DK, emod_lt_of_pos → DR, le_trans → DT, natCast_zero → D3, le_antisymm → D7, emod_nonneg → D9, natCast_add → Ea, le_of_lt → Ek, mul_one → El, mul_add → Em, mul_sub → En, mul_neg → Ep
open PySem.W renaming Frag → Er, findIn → Ex, fnOf → EC, nsIn → EJ, mg_none_of → ET, mg_of → EZ, keepIn → E0, kitOne → E1, emptyDict → E6, codeIn → E7, instObj → Fd, kas_desc → Fe, kas_descPart → Fq, kia_one → Fv, excIn → Fw, plainGet → FA, hasDictIn → FG, isFn → FI, kas_tail3 → FL, kas_sort → FO, hideAll_get → FS, plainOver → FZ, kas_count → F4, kas_place → F5, makesIn → F7, plainGet_of → Gd, lookIn → Gg, nsOkIn → Gh, callWith_K → Gn, methodObj → Gw, hideAll → GK, takerIn → GL, cellsFrom_some → GP, methodCall_KW → GW, of_hideAll → Ho, tail_of_in → HA, handedIn → HJ, tailIn → HP
open PySem renaming wpAny_bind → Es, wpAny_pure → Eu, wpAny_mono → EB, wpAny_holding → EM, Env → EO, sizeLine_eq → EU, wpAny_setState_of → E8, codeAny_builtin → Fb, wpAny_truthy_bool → Ff, wpAny_newObj_type → Fg, plainId_quiet → Fi, wpAny_Call_Name_kw → Fp, wpAny_passesOwn → Fs, boot_len → Fz, wpAny_call_entry → FC, mem_of_lookup → FD, codeAny_mono → FJ, call_meets → FM, wpAny_askSetting → FQ, wpAny_pyIter_list → FY, wpAny_pyNext_list_item → F0, wpAny_standAt → F1, wpAny_pyNext_list_end → F3, wpAny_execs_nil → F6, lookup_relabel_local → Gb, wpAny_setEntries_of → Gf, wpAny_tryCatch → Gi, tupleKind_room_in1 → Gq, list_append → Gy, wpAny_getItem_list_slice → GC, wpAny_comprehension_free → GE, wpAny_forIn_list → GH, wpAny_callSpecial?_slot → GJ, wpAny_updateSeq → GN, wpAny_specialOf → GO, codeAny_compStart_list → GS, wpAny_letGo → GU, wpAny_isTrue_Compare1 → GV, wpAny_seqItems → GY, wpAny_eqIsQuiet_tuple → G0, builtinLookup_eq_fast → G3, isSubtype_type → G4, wpAny_call → G6, wpAny_newFunctionEnv → G8, evalPart_none → Hb, wpAny_newList → Hg, Within → Hm, seqIndex_neg → Hy, putSet_of → HD, wpAny_setField_rec → HF, seqIndex_of → HG, wpAny_of_eq → HH
open PySem.Heap renaming get?_push_of_some → Et, lt_size → Ew, get?_push_size → Ey, get?_update_other → Ez, get?_update_self → Ft, size_push → Fy, SameBut → FH
open PySem.Value renaming ref → EA, none → EG, int → Fh, type → FW, isInt_shape → FX, bool → G5, str → Hj, isStrOf → HS
open Array renaming getElem?_eq_getElem → ED, length_toList → EF, getD → EK, getElem?_setIfInBounds_ne → EN, getElem?_eq_none → EX, getElem?_setIfInBounds_self_of_lt → E4, getElem?_toList → FK, getElem?_map → FV, getElem?_replicate → GG, append_assoc → Hq, forIn_toList → HC, toList_map → HL
open PySem.F renaming plainAttrs_list → EH, slot_list_append → ER, type_list_append → ES, plain_min_loop → Fj, args_list_append_2 → F9, slot_list_lt → Gc, entry_list_append → Ge, slot_list_append → Gp, entry_min_loop → GF, args_list_lt_2 → GT, entry_list_lt → GX
open False renaming elim → EV
open PySem.Str renaming ofString → EW, empty → HR
open PySem.Obj renaming mapSeq → EY, putSet → FP
open PySem.Around renaming under_plainId → E2, under → Hr
open PySem.NameKind renaming free → E3, cell → He
open PySem.PyData renaming canLay0 → E5, depth → Fc, eqv → FN, eqvAll → F2, depthAll → Ga, canLayAll0 → Gz
open PyProof.Rows renaming callWith_type1 → E9, boot_sorted → FU, callWith_builtin1 → F8, assignInOrder_cons → Gk, subscriptTail_builtinR → GQ, listUpdate_at → Hf, seqEpoch_at → HI
open True renaming intro → Fk
open Classical renaming byContradiction → Fx, choose_spec → GZ, choose → HK
open PySem.Builtin.List renaming listTooLong → FB, listLengthHint → Gs
open PyProof.Rows.F renaming plain_set_update_loop → FE, entry_set_update_loop → GI
open ForInStep renaming yield → FF
open PySem.Expr renaming Constant → FR
open PySem.W.WData renaming int → FT, weightAll → GM, weight → HB, list → HN
open Sum.inl renaming inj → Gj
open PySem.Calls renaming spliced_cons → Gm, Name_function_global → Gu, spliced_nil → Gx, call_function_entry → GB, callWith_builtin → GR, evalArgs_plain → G7
open PySem.Builtin.Builtins renaming bindParams → Gr
open Function renaming comp → Gv
open PySem.PassesOwn renaming leaving → GA
open PySem.IsL renaming update → GD
open PySem.Value.type renaming inj → G1
open PySem.Paired renaming length → G9, snoc → H0
open PySem.Builtin.Int renaming intBits → Hh
open PySem.BindsTo renaming of_defaults → Hi
open PySem.SeqAt.EqAt renaming int_str → Hk, str_int → Hl, int_int → Hu
open PySem.Code renaming isFrame → Ht
open PySem.Heap.IsSliceOf renaming new → Hw
open PySem.pickOrder renaming go → HE
open PySem.SeqAt renaming EqAt → HM
open PySem.Builtin.Frozenset renaming updateFrom → HQ, newClass → HW, sizeOf → HY, slot0 → HZ
open PySem.SetTable renaming fits → HU, fill → HV
open PySem.W.KasT renaming ret → HX
theorem ZB (h:True:=by first|exact .inl rfl|exact .inr rfl|assumption):True:=h
theorem ZC (h:True:=by decide):True:=h
theorem ZD (h:True:=by first|exact nobehind _ (by decide) (by decide)|rfl):True:=h
theorem ZE (h:True:=by intro _;rfl):True:=h
theorem ZF (h:True:=by rfl):True:=h
theorem ZG (h:True:=by first|exact Or.inl rfl|exact Or.inr (Or.inl rfl)|exact Or.inr (Or.inr rfl)):True:=h
theorem ZH (h:True:=by intro _ _ z;cases z):True:=h
theorem ZI (h:True:=by intro _ _;rfl):True:=h
theorem ZJ (h:True:=by with_unfolding_all rfl):True:=h
namespace L2
open PySem PySem.Spec PyProof.Rows
abbrev Key:=Sum Int Str
def ji:Key->Value->Bool
 | .inl k,v=>Value.isInt k v
 | .inr x,v=>HS x v
def AU (w:World):Key->Int
 | .inl k=>hashInt k
 | .inr x=>hashStr w x
theorem bo:∀ {k:Key} {v:Value},ji k v=true->(∃ i t,k=Sum.inl i/\v=Fh i t)\/(∃ x t,k=Sum.inr x/\v=Hj x t)
 | .inl i,v,h=>by
  obtain⟨t,e⟩:=FX (k:=i) (v:=v) h;exact .inl ⟨i,t,rfl,e⟩
 | .inr x,v,h=>by
  obtain⟨t,e⟩:=Value.isStrOf_shape (x:=x) (v:=v) h;exact .inr ⟨x,t,rfl,e⟩
theorem qC (i:Int)(t:Tok):ji (.inl i) (.int i t)=true:=by simp[ji,Value.isInt]
theorem rP (x:Str)(t:Tok):ji (.inr x) (.str x t)=true:=by simp[ji,HS]
theorem yd (a b:Int):decide ((Sum.inl a:Key)=Sum.inl b)=(a == b):=by
 by_cases e:a=b
 ·subst e;simp
 ·have h:¬ (Sum.inl a:Key)=Sum.inl b:=λ q=>e (Gj q)
  rw[decide_eq_false h];exact(beq_eq_false_iff_ne.mpr e).symm
theorem yW (a b:Str):decide ((Sum.inr a:Key)=Sum.inr b)=decide (a=b):=by
 by_cases e:a=b
 ·subst e;simp
 ·have h:¬ (Sum.inr a:Key)=Sum.inr b:=λ q=>e (Sum.inr.inj q)
  rw[decide_eq_false h,decide_eq_false e]
theorem yC (a:Int)(b:Str):decide ((Sum.inl a:Key)=Sum.inr b)=false:=decide_eq_false (λ q=>nomatch q)
theorem zu (a:Str)(b:Int):decide ((Sum.inr a:Key)=Sum.inl b)=false:=decide_eq_false (λ q=>nomatch q)
def bF (prog:Program)(w:World):PySem.KeyKind prog w Key where
 is:=ji
 hash:=AU w
 inj:=λ v a b ha hb=>by
  rcases bo ha with ⟨i,t,rfl,rfl⟩|⟨x,t,rfl,rfl⟩
  ·rcases bo hb with ⟨j,u,rfl,e⟩|⟨y,u,rfl,e⟩
   ·injection e with e1 _;rw[e1]
   ·exact nomatch e
  ·rcases bo hb with ⟨j,u,rfl,e⟩|⟨y,u,rfl,e⟩
   ·exact nomatch e
   ·injection e with e1 _;rw[e1]
 byValue:=λ k v h=>by
  rcases bo h with ⟨i,t,rfl,rfl⟩|⟨x,t,rfl,rfl⟩ <;>rfl
 pyHash:=λ hv h=>by
  rcases bo hv with ⟨i,t,rfl,rfl⟩|⟨x,t,rfl,rfl⟩
  ·exact wpAny_pyHash_int h
  ·exact wpAny_pyHash_str h
 eqBool:=λ hu hv h=>by
  rcases bo hu with ⟨i,t,rfl,rfl⟩|⟨x,t,rfl,rfl⟩
  ·rcases bo hv with ⟨j,u,rfl,rfl⟩|⟨y,u,rfl,rfl⟩
   ·rw[yd] at h;exact wpAny_eqBool_int h
   ·rw[yC] at h;exact Hk i t y u _ _ _ _ h
  ·rcases bo hv with ⟨j,u,rfl,rfl⟩|⟨y,u,rfl,rfl⟩
   ·rw[zu] at h;exact Hl x t j u _ _ _ _ h
   ·rw[yW] at h;exact wpAny_eqBool_str h
 «strs»:=λ k x t v h=>by
  rcases bo h with ⟨i,u,rfl,e⟩|⟨y,u,rfl,e⟩
  ·exact nomatch e
  ·injection e with e1 _
   subst e1;cases v <;>rfl
theorem mz (prog:Program)(w:World)(i:Int)(t:Tok):(bF prog w).is (.inl i) (.int i t)=true:=qC i t
theorem mP (prog:Program)(w:World)(x:Str)(t:Tok):(bF prog w).is (.inr x) (.str x t)=true:=rP x t
inductive V where
 | non|bl (b:Bool)|int (i:Int)|str (x:Str)|byt (b:Array UInt8)|flt (b:UInt64)|ref (a:Addr)|ty (n:String)
 deriving DecidableEq
def RelV:V->Value->Prop
 | .non,u=>u=EG
 | .bl b,u=>u=G5 b
 | .int i,u=>∃ t,u=Fh i t
 | .str x,u=>∃ t,u=Hj x t
 | .byt b,u=>∃ t,u=Value.bytes b t
 | .flt b,u=>∃ t,u=Value.float b t
 | .ref a,u=>u=EA a
 | .ty n,u=>u=FW n
abbrev Vals:List V->List Value->Prop:=Paired RelV
theorem Vals.length {xs:List V}{us:List Value}(r:Vals xs us):xs.length=us.length:=G9 r
theorem Vals.get:∀ {xs:List V} {us:List Value} {i:Nat} {x:V},Vals xs us->xs[i]?=some x->∃ u,us[i]?=some u/\RelV x u
 | _,_,_,_,.nil,e=>by simp at e
 | _,_,0,_,.cons r _,e=>by simp at e;subst e;exact⟨_,rfl,r⟩
 | _,_,i+1,x,.cons _ t,e=>by
  obtain⟨u,h1,h2⟩:=Vals.get (i:=i) (x:=x) t (by simpa using e);exact⟨u,by simpa using h1,h2⟩
theorem Vals.set {x:V}{u:Value}(r:RelV x u):∀ {xs:List V} {us:List Value} (i:Nat),Vals xs us->Vals (xs.set i x) (us.set i u)
 | _,_,_,.nil=>.nil
 | _,_,0,.cons _ t=>.cons r t
 | _,_,i+1,.cons q t=>.cons q (Vals.set r i t)
theorem Vals.append {xs ys:List V}{us ws:List Value}(q:Vals xs us)(s:Vals ys ws):Vals (xs++ys) (us++ws):=by
 induction q with
 | nil=>exact s
 | cons r t ih=>exact .cons r ih
theorem Vals.take:∀ {xs:List V} {us:List Value} (n:Nat),Vals xs us->Vals (xs.take n) (us.take n)
 | _,_,0,_=>.nil
 | _,_,_+1,.nil=>.nil
 | _,_,n+1,.cons r t=>.cons r (Vals.take n t)
theorem Vals.drop:∀ {xs:List V} {us:List Value} (n:Nat),Vals xs us->Vals (xs.drop n) (us.drop n)
 | _,_,0,r=>r
 | _,_,_+1,.nil=>.nil
 | _,_,n+1,.cons _ t=>Vals.drop n t
def RelO:Option V->Option Value->Prop
 | some v,some u=>RelV v u
 | none,none=>True
 | _,_=>False
def KV {κ:Type}:List (κ×V)->List (κ×Value)->Prop:=Paired λ (p:κ×V) (q:κ×Value)=>p.1=q.1/\RelV p.2 q.2
def kV:Key->V
 | .inl i=>.int i
 | .inr x=>.str x
inductive HO where
  | lst (xs:List V)
  | tup (xs:List V)
  | dK (kvs:List (Key×V))|dT (kvs:List (List Key×V))
  | set (S:Int->Bool) (n:Nat)
  | ins (C dx:Addr) (fs:List (Str×V))
  | own (x:Addr)
  | xd (fs:List (Str×V))
  | met (f x:Addr)
  | rng (lo hi:Int)
  | frz (o:Obj) (u:HO)
  | tbl (ps:Array Value)
  | ext (φ:Heap->Prop)
abbrev Hp:=Addr->Option HO
def upd (H:Hp)(a:Addr)(o:HO):Hp:=λ b=>if b=a then some o else H b
theorem ai {H:Hp}{a:Addr}{o:HO}:upd H a o a=some o:=by unfold upd;rw[if_pos rfl]
theorem ag {H:Hp}{a b:Addr}{o:HO}(h:b≠a):upd H a o b=H b:=by unfold upd;rw[if_neg h]
theorem hU {H:Hp}{a:Addr}{o u:HO}:upd (upd H a o) a u=upd H a u:=by
 funext b;unfold upd;split <;>rfl
theorem zN {H:Hp}{a b:Addr}{o u:HO}(h:H a=some o)(h':H b=some u)(d:o≠u):a≠b:=by
 intro e;subst e;rw[h] at h';exact d (Option.some.inj h')
theorem au {H:Hp}{a b:Addr}{o:HO}(h:H a=some o)(h':H b=none):a≠b:=by
 intro e;subst e;rw[h] at h';cases h'
section
variable (P:Program)(w:World)
def ObjOk (H:Hp)(h:Heap)(a:Addr):HO->Prop
 | .lst xs=>xs.length<=sizeLine/\∃ (its:List Value) (n:Nat),Vals xs its/\h.get? a=some { cls:=.type "list",data:=.seq its.toArray n }
 | .tup xs=>xs.length<=sizeLine/\∃ its:List Value,Vals xs its/\IsTup h a its.toArray
 | .dK kvs=>kvs.length<=sizeLine/\(a == sysModules)=false/\∃ vs,KV kvs vs/\h.DictOf (bF P w) a vs
 | .dT kvs=>kvs.length<=sizeLine/\(a == sysModules)=false/\∃ xs:List (List Key×Addr×Value),
   Paired (λ (p:List Key×V) (q:List Key×Addr×Value)=>p.1=q.1/\H q.2.1=some (.tup (p.1.map kV))/\RelV p.2 q.2.2) kvs xs /\
   ∃ o es ep,h.get? a=some o/\o.ExactDict/\o.data=.dict es ep/\es.toList=xs.map (entryOfKey (tupleKind (bF P w)))/\(xs.map (·.1)).Nodup
 | .set S n=>h.SetOf (intKind P w) a S n
 | .ins C dx fs=>H dx=some (.own a)/\fs.length<=1000/\dx≠a/\h.get? a=some (Fd C dx) /\
   ∃ mA,h.Ns1 dx mA/\(∀ f,RelO (fs.lookup f) (mA f))/\Hm mA (fs.map (·.1))
 | .own _=>∃ o,h.get? a=some o
 | .xd fs=>∃ mA,h.Ns1 a mA/\∀ f,RelO (fs.lookup f) (mA f)
 | .rng lo hi=>∃ t u v,h.get? a=some { cls:=.type "range",data:=.fields #[.int lo t,.int hi u,.int 1 v] }
 | .frz o u=>h.get? a=some o/\ObjOk H h a u
 | .tbl ps=>h.get? a=some { cls:=.none,data:=.fields ps }
 | .met f x=>h.get? a=some (Gw (.ref f) (.ref x))
 | .ext φ=>φ h/\(∃ o,h.get? a=some o)/\∀ h1 h2:Heap,φ h1->(∀ o,h1.get? a=some o->h2.get? a=some o)->φ h2
def HOk (H:Hp)(h:Heap):Prop:=∀ a o,H a=some o->ObjOk P w H h a o
end
section
variable {P:Program}{w:World}{H H':Hp}{h h':Heap}{a:Addr}{o:HO}
theorem ObjOk.lt (x:ObjOk P w H h a o):a<h.objs.size:=by
 cases o with
 | lst xs=>obtain⟨_,_,_,_,e⟩:=x;exact Ew e
 | tup xs=>obtain⟨_,_,_,p⟩:=x;exact p.lt
 | dK kvs=>obtain⟨_,_,_,_,o,_,_,e,_⟩:=x;exact Ew e
 | dT kvs=>obtain⟨_,_,_,_,o,_,_,e,_⟩:=x;exact Ew e
 | set S n=>obtain⟨o,_,_,_,e,_⟩:=x;exact Ew e
 | ins C dx fs=>obtain⟨_,_,_,e,_⟩:=x;exact Ew e
 | own y=>obtain⟨_,e⟩:=x;exact Ew e
 | xd fs=>obtain⟨_,⟨_,_,_,e,_⟩,_⟩:=x;exact Ew e
 | rng lo hi=>obtain⟨_,_,_,e⟩:=x;exact Ew e
 | frz ob u=>obtain⟨e,_⟩:=x;exact Ew e
 | tbl ps=>exact Ew (show h.get? a=some _ from x)
 | met f y=>exact Ew (show h.get? a=some _ from x)
 | ext φ=>obtain⟨_,⟨_,e⟩,_⟩:=x;exact Ew e
theorem Paired.mapP {α β:Type}{F G:α->β->Prop}{l₁:List α}{l₂:List β}(q:Paired F l₁ l₂)(f:∀ a b,F a b->G a b):Paired G l₁ l₂:=by
 induction q with
 | nil=>exact .nil
 | cons r t ih=>exact .cons (f _ _ r) ih
theorem ObjOk.stay (x:ObjOk P w H h a o)(k:∀ b u,(b=a\/H b=some (.own a))->h.get? b=some u->h'.get? b=some u)
  (ho:∀ b,H b=some (.own a)->H' b=some (.own a)) (ht:∀ b xs,H b=some (.tup xs)->H' b=some (.tup xs)):ObjOk P w H' h' a o:=by
 induction o with
 | lst xs=>obtain⟨z,its,n,r,e⟩:=x;exact⟨z,its,n,r,k _ _ (.inl rfl) e⟩
 | tup xs=>obtain⟨z,its,r,ob,e,c⟩:=x;exact⟨z,its,r,ob,k _ _ (.inl rfl) e,c⟩
 | dK kvs=>obtain⟨z,y,vs,r,ob,es,ep,e,c⟩:=x;exact⟨z,y,vs,r,ob,es,ep,k _ _ (.inl rfl) e,c⟩
 | dT kvs=>
  obtain⟨z,y,xs,r,ob,es,ep,e,c⟩:=x;exact⟨z,y,xs,Paired.mapP r λ p q z=>⟨z.1,ht _ _ z.2.1,z.2.2⟩,ob,es,ep,k _ _ (.inl rfl) e,c⟩
 | set S n=>obtain⟨ob,es,ep,t,e,c⟩:=x;exact⟨ob,es,ep,t,k _ _ (.inl rfl) e,c⟩
 | ins C dx fs=>
  obtain⟨d,z,ne,e,mA,⟨od,es,ep,e2,c⟩,r⟩:=x;exact⟨ho _ d,z,ne,k _ _ (.inl rfl) e,mA,⟨od,es,ep,k _ _ (.inr d) e2,c⟩,r⟩
 | own y=>obtain⟨ob,e⟩:=x;exact⟨ob,k _ _ (.inl rfl) e⟩
 | xd fs=>obtain⟨mA,⟨od,es,ep,e,c⟩,r⟩:=x;exact⟨mA,⟨od,es,ep,k _ _ (.inl rfl) e,c⟩,r⟩
 | rng lo hi=>obtain⟨t,u,v,e⟩:=x;exact⟨t,u,v,k _ _ (.inl rfl) e⟩
 | frz ob u ih=>obtain⟨e,q⟩:=x;exact⟨k _ _ (.inl rfl) e,ih q⟩
 | tbl ps=>
  have e:h.get? a=some { cls:=.none,data:=.fields ps }:=x;show h'.get? a=some { cls:=.none,data:=.fields ps }
  exact k a _ (.inl rfl) e
 | met f y=>
  have e:h.get? a=some (Gw (.ref f) (.ref y)):=x;show h'.get? a=some (Gw (.ref f) (.ref y))
  exact k a _ (.inl rfl) e
 | ext φ=>obtain⟨p,⟨o,e⟩,st⟩:=x;exact⟨st _ _ p λ o q=>k _ _ (.inl rfl) q,⟨o,k _ _ (.inl rfl) e⟩,st⟩
theorem HOk.lt (x:HOk P w H h)(e:H a=some o):a<h.objs.size:=(x a o e).lt
theorem HOk.fresh (x:HOk P w H h)(e:h.objs.size<=a):H a=none:=by
 cases q:H a with
 | none=>rfl
 | some u=>exact absurd (Bw (x.lt q) e) (BS _)
theorem HOk.kept (x:HOk P w H h)(k:∀ b u,h.get? b=some u->h'.get? b=some u):HOk P w H h':=λ a o e=>
 (x a o e).stay (λ b u _ q=>k b u q) (λ _ q=>q) λ _ _ q=>q
theorem HOk.laid (x:HOk P w H h)(k:∀ b u,h.get? b=some u->h'.get? b=some u)(hp:h.objs.size<=a)(new:ObjOk P w (upd H a o) h' a o):HOk P w (upd H a o) h':=λ b u e=>by
 have hn:=x.fresh hp;by_cases hb:b=a
 ·subst hb;rw[ai] at e;cases e;exact new
 ·rw[ag hb] at e
  exact(x b u e).stay (λ c v _ q=>k c v q) (λ c q=>by rw[ag (au q hn)];exact q) λ c xs q=>by rw[ag (au q hn)];exact q
end
def Rd (H:Hp)(a:Addr)(u:HO):Prop:=H a=some u\/∃ o,H a=some (.frz o u)
theorem Rd.ok {P:Program}{w:World}{H:Hp}{h:Heap}{a:Addr}{u:HO}(r:Rd H a u)(x:HOk P w H h):ObjOk P w H h a u:=by
 rcases r with r|⟨o,r⟩
 ·exact x a u r
 ·obtain⟨_,q⟩:=x a _ r
  exact q
def Mut:Option HO->Prop
 | some (.lst _)=>True
 | some (.dK _)=>True
 | some (.dT _)=>True
 | some (.set _ _)=>True
 | some (.ins _ _ _)=>True
 | some (.ext _)=>True
 | _=>False
section
variable {P:Program}{w:World}{H:Hp}{h h':Heap}{x e:Addr}{o':HO}
theorem HOk.write (ok:HOk P w H h)(mu:Mut (H x))(he:e=x\/H e=some (.own x))(k:∀ b u,b≠e->h.get? b=some u->h'.get? b=some u)(heo:∃ u,h'.get? e=some u)
  (new:ObjOk P w (upd H x o') h' x o'):HOk P w (upd H x o') h':=λ b u q=>by
 have nown:∀ c y,H c=some (.own y)->c≠x:=λ c y r z=>by subst z;rw[r] at mu;exact mu
 have ntup:∀ c xs,H c=some (.tup xs)->c≠x:=λ c xs r z=>by subst z;rw[r] at mu;exact mu
 by_cases hb:b=x
 ·subst hb;rw[ai] at q;cases q;exact new
 ·rw[ag hb] at q
  by_cases hbe:b=e
  ·have q':H b=some (.own x):=by
    rcases he with z|z
    ·exact absurd (hbe.trans z) hb
    ·rw[hbe];exact z
   rw[q] at q';cases q';obtain⟨v,hv⟩:=heo;exact⟨v,by rw[hbe];exact hv⟩
  ·refine(ok b u q).stay (λ c v hc r=>k c v ?_ r) (λ c r=>by rw[ag (nown c b r)];exact r) λ c xs r=>by rw[ag (ntup c xs r)];exact r
   rcases hc with rfl|hc
   ·exact hbe
   ·rintro rfl
    rcases he with z|z
    ·exact nown c b hc z
    ·rw[hc] at z;cases z;exact hb rfl
end
structure Un (fs ex:List Addr)(H H':Hp)(h h':Heap):Prop where
 keep:∀ b o,h.get? b=some o->H b=none->b∉fs->b∉ex->h'.get? b=some o
 slot:∀ b o,h.get? b=some o->H b=none->b∈fs->b∉ex->∃ sl,h'.get? b=some { o with slots:=sl }
 free:∀ b o,h.get? b=some o->H b=none->b∉ex->H' b=none
 there:∀ b o,h.get? b=some o->b∉ex->∃ o',h'.get? b=some o'
 tups:∀ b xs,H b=some (.tup xs)->H' b=some (.tup xs)
 frzs:∀ b o u,H b=some (.frz o u)->H' b=some (.frz o u)
 tbls:∀ b ps,H b=some (.tbl ps)->∃ more,H' b=some (.tbl (ps++more))
section
variable {fs fs' ex ex':List Addr}{H H1 H2:Hp}{h h1 h2 h':Heap}{a x e:Addr}{o:HO}
theorem Un.any (u:Un fs ex H H1 h h1){b:Addr}{ob:Obj}(q:h.get? b=some ob)(n:H b=none)(hx:b∉ex):∃ sl,h1.get? b=some { ob with slots:=sl }:=by
 by_cases hb:b∈fs
 ·exact u.slot b ob q n hb hx
 ·exact⟨ob.slots,u.keep b ob q n hb hx⟩
theorem Un.kept (k:∀ b u,h.get? b=some u->h'.get? b=some u):Un fs ex H H h h':=
 ⟨λ b ob q _ _ _=>k b ob q,λ b ob q _ _ _=>⟨ob.slots,k b ob q⟩,λ _ _ _ n _=>n,λ b ob q _=>⟨ob,k b ob q⟩,λ _ _ q=>q,λ _ _ _ q=>q,λ _ ps q=>⟨#[],by rw[q];simp⟩⟩
theorem Un.refl:Un fs ex H H h h:=Un.kept λ _ _ q=>q
theorem Un.laid (k:∀ b u,h.get? b=some u->h'.get? b=some u)(hp:h.objs.size<=a)(hn:H a=none):Un fs ex H (upd H a o) h h' where
 keep:=λ b u q _ _ _=>k b u q
 slot:=λ b u q _ _ _=>⟨u.slots,k b u q⟩
 free:=λ b u q n _=>by rw[ag (Bl (Bw (Ew q) hp))];exact n
 there:=λ b u q _=>⟨u,k b u q⟩
 tups:=λ b xs q=>by rw[ag (au q hn)];exact q
 frzs:=λ b u xs q=>by rw[ag (au q hn)];exact q
 tbls:=λ b ps q=>⟨#[],by rw[ag (au q hn),q];simp⟩
theorem Un.write (mu:Mut (H x))(he:e=x\/H e=some (.own x))(k:∀ b u,b≠e->h.get? b=some u->h'.get? b=some u)(heo:∃ u,h'.get? e=some u):Un fs ex H (upd H x o) h h':=by
 have hx:∀ b,H b=none->b≠x:=λ b n z=>by subst z;rw[n] at mu;exact mu
 have hb:∀ b,H b=none->b≠e:=λ b n z=>by
  subst z
  rcases he with r|r
  ·exact hx b n r
  ·rw[n] at r;cases r
 have hm:∀ b u,H b=some u->¬ Mut (some u)->b≠x:=λ b u q nm z=>by subst z;rw[q] at mu;exact nm mu
 refine⟨λ b u q n _ _=>k b u (hb b n) q,λ b u q n _ _=>⟨u.slots,k b u (hb b n) q⟩,λ b u q n _=>by rw[ag (hx b n)];exact n,λ b u q _=>?_,
  λ b xs q=>by rw[ag (hm b _ q λ z=>z)];exact q,λ b u xs q=>by rw[ag (hm b _ q λ z=>z)];exact q,λ b ps q=>⟨#[],by rw[ag (hm b _ q λ z=>z),q];simp⟩⟩
 by_cases hbe:b=e
 ·subst hbe;exact heo
 ·exact⟨u,k b u hbe q⟩
end
def trk (h:Heap)(H:Hp):List Addr:=(List.range h.objs.size).filter λ a=>(H a).isSome
def ke (h:Heap)(H:Hp):Heap:=GK h (trk h H)
theorem qJ (h:Heap)(H:Hp):(ke h H).objs.size=h.objs.size:=PySem.W.hideAll_size _ _
theorem sW {h:Heap}{H:Hp}{b:Addr}{o:Obj}(e:h.get? b=some o)(n:H b=none):(ke h H).get? b=some o:=
 FS _ e λ hm=>by
  have q:(H b).isSome=true:=(List.mem_filter.mp hm).2;rw[n] at q;simp at q
theorem wL {h:Heap}{H:Hp}{b:Addr}{o:Obj}(e:(ke h H).get? b=some o):h.get? b=some o/\H b=none:=by
 have e':h.get? b=some o:=Ho (trk h H) e;refine⟨e',?_⟩;cases q:H b with
 | none=>rfl
 | some x=>
  have hm:b∈trk h H:=List.mem_filter.mpr ⟨List.mem_range.mpr (Ew e'),by simp[q]⟩;have z:(ke h H).get? b=none:=PySem.W.hideAll_none (trk h H) hm;rw[z] at e;cases e
def vZ (g h:Heap)(L:Addr):List (Addr×Obj):=(List.range h.objs.size).filterMap λ a=>if a=L\/(g.get? a).isSome=true then none else (h.get? a).map λ o=>(a,o)
def rest (g h:Heap)(L d:Addr):List (Addr×Obj):=(vZ g h L).filter λ p=>decide (p.1≠d)
structure Mod (K:Er)(mg:Str->Option Value)(base:Heap):Prop where
 kin:K.In base
 glob:base.Ns mainGlobals mg
 blt:∃ mb,base.Ns builtinsNs mb/\∀ x:Str,x≠"__name__"->mb x=bootBuiltins x
 nolimit:base.NoLimit
/-- the context: a def's body (or a comprehension's block) running. base: fixed through the whole law;s₀,H₀: the entry;outer: the frames whose slots others may change (a def's callers);stack: all frames that run;
   ex: iterators that were made ahead of the entry and are walked here (a comprehension's);fn: the names whose cells were made at the entry (a def: all;a comprehension's block: its own);calm: not within an except suite;pn: pins that every state bears;xe: what is wanted of an exception that leaves the code -/
structure Cx where
 prog:Program
 w:World
 K:Er
 mg:Str->Option Value
 base:Heap
 A:Around
 N:List Str
 s₀:Shared
 H₀:Hp
 env:Env
 outer:List Env
 stack:List Env
 ex:List Addr
 fn:Str->Bool
 calm:Bool
 pn:List (Addr×Obj)
 xe:Value->Shared->Prop
def frs (l:List Env):List Addr:=l.filterMap (·.frame)
abbrev Cx.fs (X:Cx):List Addr:=frs X.outer
def Vis (sc:Scope)(x:Str):Prop:=sc.names.lookup x=some .local\/sc.names.lookup x=some .cell\/sc.names.lookup x=some .free
def Loc (sc:Scope)(x:Str):Prop:=sc.names.lookup x=some .local\/sc.names.lookup x=some .cell
def Look (env:Env)(h:Heap)(m:Str->Option Value)(x:Str)(u:Value):Prop:=
 (env.kindOf x=some .local/\m x=some u)\/((env.kindOf x=some .cell\/env.kindOf x=some .free)/\∃ c,env.cells.lookup x=some c/\h.IsCell c (some u))
structure Cx.Ok (X:Cx):Prop where
 mod:Mod X.K X.mg X.base
 kind:X.env.scope.kind=.function
 glob:X.env.globals=mainGlobals
 blt:X.env.builtins=builtinsNs
 above:X.s₀.heap.objs.size<=X.env.locals
 inj:∀ x y c,X.env.cells.lookup x=some c->X.env.cells.lookup y=some c->x=y
 has:∀ x,(X.env.kindOf x=some .cell\/X.env.kindOf x=some .free)->∃ c,X.env.cells.lookup x=some c
 cab:∀ x c,X.fn x=true->X.env.cells.lookup x=some c->X.s₀.heap.objs.size<=c
 hd:X.calm=true->X.A.handled=none
 frames:X.A.frames=some X.stack
 stk:X.stack=X.outer\/(X.stack=X.env::X.outer/\X.env.frame=some X.env.locals)
 exf:∀ b∈X.ex,b≠X.env.locals/\∀ x c,X.env.cells.lookup x=some c->c≠b
 bs:∀ b o,X.base.get? b=some o->X.s₀.heap.get? b=some o/\X.H₀ b=none
 bsz:X.base.objs.size<=X.s₀.heap.objs.size
 noex:∀ b o,X.base.get? b=some o->b∉X.ex
 exfs:∀ b∈X.ex,b∉X.fs
 funs:X.s₀.heap.FunFrames X.base X.outer
 frf:∀ b∈X.fs,X.H₀ b=none
structure Inv (X:Cx)(pins:List (Addr×Obj))(σ:List (Option V))(H:Hp)(s:Shared):Prop where
 ok:X.Ok
 os:s.os=X.s₀.os
 bare:AllBare s.gens
 base:Un X.fs X.ex X.H₀ H X.s₀.heap s.heap
 loc:∃ m,s.heap.Ns X.env.locals m/\∀ (i:Nat) (x:Str) (v:V),X.N[i]?=some x->σ[i]?=some (some v)->Vis X.env.scope x->∃ u,RelV v u/\Look X.env s.heap m x u
 cell:∀ x c,X.env.cells.lookup x=some c->∃ v,s.heap.IsCell c v
 free:H X.env.locals=none
 freeC:∀ x c,X.env.cells.lookup x=some c->H c=none
 pin:∀ p∈X.pn++pins,s.heap.get? p.1=some p.2/\H p.1=none/\p.1≠X.env.locals/\p.1∉X.fs/\∀ v,p.2.data≠.cell v
 hok:HOk X.prog X.w H s.heap
 len:σ.length=X.N.length
section
variable {X:Cx}{pins:List (Addr×Obj)}{σ:List (Option V)}{H H':Hp}{s:Shared}{h':Heap}
theorem Cx.Ok.nofr (ok:X.Ok){b:Addr}{o:Obj}(e:X.base.get? b=some o):b∉X.fs:=λ hb=>by
 have:=(ok.funs.mem hb).1;rw[e] at this;cases this
theorem Inv.bs (I:Inv X pins σ H s):∀ b o,X.base.get? b=some o->s.heap.get? b=some o/\H b=none:=λ b o e=>
 ⟨I.base.keep b o (I.ok.bs b o e).1 (I.ok.bs b o e).2 (I.ok.nofr e) (I.ok.noex b o e),I.base.free b o (I.ok.bs b o e).1 (I.ok.bs b o e).2 (I.ok.noex b o e)⟩
theorem Inv.bk (I:Inv X pins σ H s):∀ b o,X.base.get? b=some o->s.heap.get? b=some o:=λ b o e=>(I.bs b o e).1
theorem Inv.mod (I:Inv X pins σ H s):Mod X.K X.mg X.base:=I.ok.mod
theorem Inv.kIn (I:Inv X pins σ H s):X.K.In s.heap:=I.ok.mod.kin.keeps I.bk
theorem Inv.lt (I:Inv X pins σ H s):X.env.locals<s.heap.objs.size:=let ⟨_,hn,_⟩:=I.loc;hn.lt
theorem Inv.sz (I:Inv X pins σ H s):X.s₀.heap.objs.size<=s.heap.objs.size:=BN I.ok.above (CB I.lt)
theorem Inv.nofs (I:Inv X pins σ H s){a:Addr}(h:s.heap.objs.size<=a):a∉X.fs:=λ hb=>by
 obtain⟨_,o,ho,_⟩:=I.ok.funs.mem hb;exact absurd (Bw (Ew ho) (BN I.sz h)) (BS _)
theorem Inv.cne (I:Inv X pins σ H s):∀ x c,X.env.cells.lookup x=some c->c≠X.env.locals:=λ x c e z=>by
 obtain⟨v,o,ho,hd⟩:=I.cell x c e;obtain⟨m,⟨o',es,ep,ho',hd',_⟩,_⟩:=I.loc;rw[z,ho'] at ho;cases ho;rw[hd'] at hd;cases hd
theorem Inv.funs (I:Inv X pins σ H s):s.heap.FunFrames X.base X.outer:=by
 have all:∀ (l:List Env),(∀ b∈frs l,b∈X.fs)->X.s₀.heap.FunFrames X.base l->s.heap.FunFrames X.base l:=by
  intro l
  induction l with
  | nil=>intro _ _;trivial
  | cons env r ih=>
   intro hs hl;obtain⟨hk,⟨L,o,hf,hn,ho,hd⟩,hr⟩:=hl;have hL:L∈X.fs:=hs L (by unfold frs;rw[CI,hf];exact A6);obtain⟨sl,e⟩:=I.base.slot L o ho (I.ok.frf L hL) hL λ z=>I.ok.exfs L z hL
   exact⟨hk,⟨L,_,hf,hn,e,hd⟩,ih (λ b hb=>hs b (by unfold frs;rw[CI,hf];exact A5 _ hb)) hr⟩
 exact all X.outer (λ _ hb=>hb) I.ok.funs
theorem Inv.stack (I:Inv X pins σ H s):s.heap.FunFrames X.base X.stack:=by
 rcases I.ok.stk with e|⟨e,hf⟩
 ·rw[e];exact I.funs
 ·rw[e]
  obtain⟨m,hn,_⟩:=I.loc;refine .cons (by rw[I.ok.kind];decide) hf hn ?_ I.funs
  exact Heap.get?_none_of_le (BN I.ok.bsz I.ok.above)
theorem Inv.stkSub (I:Inv X pins σ H s):∀ b∈frs X.stack,b∈X.env.locals::X.fs:=λ b hb=>by
 rcases I.ok.stk with e|⟨e,hf⟩
 ·rw[e] at hb;exact A5 _ hb
 ·rw[e] at hb
  unfold frs at hb;rw[CI,hf] at hb;exact hb
theorem Inv.stkFree (I:Inv X pins σ H s):∀ b∈frs X.stack,H b=none:=λ b hb=>by
 rcases List.mem_cons.mp (I.stkSub b hb) with e|hb
 ·rw[e];exact I.free
 ·obtain⟨_,o,ho,_⟩:=I.ok.funs.mem hb
  exact I.base.free b o ho (I.ok.frf b hb) λ z=>I.ok.exfs b z hb
theorem Inv.step {g':Array GenState}{t':Nat}{d':Drawn}{ch:List Addr}(I:Inv X pins σ H s)
  (hch:∀ b∈ch,(b∈X.ex\/X.s₀.heap.objs.size<=b)/\b≠X.env.locals/\(∀ x c,X.env.cells.lookup x=some c->c≠b)/\∀ p∈X.pn++pins,p.1≠b)
  (keep:∀ b o,b≠X.env.locals->b∉X.fs->b∉ch->s.heap.get? b=some o->H b=none->h'.get? b=some o)
  (slot:∀ b o,b≠X.env.locals->b∈X.fs->b∉ch->s.heap.get? b=some o->H b=none->∃ sl,h'.get? b=some { o with slots:=sl }) (free:∀ b o,b∉ch->s.heap.get? b=some o->H b=none->H' b=none)
  (there:∀ b o,b∉ch->s.heap.get? b=some o->∃ o',h'.get? b=some o')
  (tups:∀ b xs,H b=some (.tup xs)->H' b=some (.tup xs)) (frzs:∀ b o u,H b=some (.frz o u)->H' b=some (.frz o u)) (tbls:∀ b ps,H b=some (.tbl ps)->∃ more,H' b=some (.tbl (ps++more)))
  (ns:∀ m,s.heap.Ns X.env.locals m->h'.Ns X.env.locals m) (hok:HOk X.prog X.w H' h') (hg:AllBare g'):
  Inv X pins σ H' { s with heap:=h',gens:=g',drawn:=d',toks:=t' }:=by
 have neL:∀ b o,X.s₀.heap.get? b=some o->b≠X.env.locals:=λ b o e=>Bl (Bw (Ew e) I.ok.above)
 have neC:∀ b o,X.s₀.heap.get? b=some o->b∉X.ex->b∉ch:=λ b o e hx hb=>by
  rcases (hch b hb).1 with z|z
  ·exact hx z
  ·exact absurd (Bw (Ew e) z) (BS _)
 have cellK:∀ x c,X.env.cells.lookup x=some c->∀ v,s.heap.IsCell c v->h'.IsCell c v:=λ x c e v ⟨o,ho,hd⟩=>by
  have nch:c∉ch:=λ z=>(hch c z).2.2.1 x c e rfl
  by_cases hc:c∈X.fs
  ·obtain⟨sl,q⟩:=slot c o (I.cne x c e) hc nch ho (I.freeC x c e)
   exact⟨_,q,hd⟩
  ·exact⟨o,keep c o (I.cne x c e) hc nch ho (I.freeC x c e),hd⟩
 refine⟨I.ok,I.os,hg,⟨λ b o e n hb hx=>?_,λ b o e n hb hx=>?_,λ b o e n hx=>?_,λ b o e hx=>?_,λ b xs e=>tups b xs (I.base.tups b xs e),λ b o xs e=>frzs b o xs (I.base.frzs b o xs e),λ b ps e=>?_⟩,?_,λ x c e=>?_,?_,λ x c e=>?_,λ p hp=>?_,hok,I.len⟩
 ·exact keep b o (neL b o e) hb (neC b o e hx) (I.base.keep b o e n hb hx) (I.base.free b o e n hx)
 ·obtain⟨sl,e1⟩:=I.base.slot b o e n hb hx
  obtain⟨sl',e2⟩:=slot b _ (neL b o e) hb (neC b o e hx) e1 (I.base.free b o e n hx);exact⟨sl',e2⟩
 ·obtain⟨o',e1⟩:=I.base.there b o e hx
  exact free b o' (neC b o e hx) e1 (I.base.free b o e n hx)
 ·obtain⟨o',e1⟩:=I.base.there b o e hx
  exact there b o' (neC b o e hx) e1
 ·obtain⟨m1,e1⟩:=I.base.tbls b ps e
  obtain⟨m2,e2⟩:=tbls b _ e1;exact⟨m1++m2,by rw[e2,Hq]⟩
 ·obtain⟨m,hn,hl⟩:=I.loc
  refine⟨m,ns m hn,λ i x v e1 e2 e3=>?_⟩;obtain⟨u,r,l⟩:=hl i x v e1 e2 e3;refine⟨u,r,?_⟩
  rcases l with l|⟨k,c,e,z⟩
  ·exact .inl l
  ·exact .inr ⟨k,c,e,cellK x c e _ z⟩
 ·obtain⟨v,z⟩:=I.cell x c e
  exact⟨v,cellK x c e v z⟩
 ·obtain⟨m,⟨o,_,_,ho,_⟩,_⟩:=I.loc
  exact free _ o (λ z=>(hch _ z).2.1 rfl) ho I.free
 ·obtain⟨v,o,ho,hd⟩:=I.cell x c e
  exact free c o (λ z=>(hch c z).2.2.1 x c e rfl) ho (I.freeC x c e)
 ·obtain⟨e,n,ne,nf,d⟩:=I.pin p hp
  have nch:p.1∉ch:=λ z=>(hch p.1 z).2.2.2 p hp rfl
  exact⟨keep p.1 p.2 ne nf nch e n,free p.1 p.2 nch e n,ne,nf,d⟩
theorem Inv.un {t':Nat}(I:Inv X pins σ H s)(u:Un X.fs [] H H' s.heap h')(hok:HOk X.prog X.w H' h'):Inv X pins σ H' { s with heap:=h',toks:=t' }:=by
 obtain⟨m,⟨o,es,ep,ho,r⟩,_⟩:=id I.loc;obtain⟨sl,hL⟩:=u.any ho I.free (by simp);exact I.step (g':=s.gens) (d':=s.drawn) (ch:=[]) (λ _ z=>nomatch z) (λ b o _ hb _ e n=>u.keep b o e n hb (by simp)) (λ b o _ hb _ e n=>u.slot b o e n hb (by simp)) (λ b o _ e n=>u.free b o e n (by simp)) (λ b o _ e=>u.there b o e (by simp)) u.tups u.frzs u.tbls (λ m' hm=>by
  obtain⟨o',es',ep',ho',r'⟩:=hm;rw[ho] at ho';cases ho';exact⟨_,es',ep',hL,r'⟩) hok I.bare
theorem Inv.call {g':Array GenState}{t':Nat}{d':Drawn}{ch:List Addr}(I:Inv X pins σ H s)(u:Un (frs X.stack) ch H H' s.heap h')(hok:HOk X.prog X.w H' h')(hg:AllBare g')
  (hch:∀ b∈ch,(b∈X.ex\/X.s₀.heap.objs.size<=b)/\b≠X.env.locals/\(∀ x c,X.env.cells.lookup x=some c->c≠b)/\∀ p∈X.pn++pins,p.1≠b):
  Inv X pins σ H' { s with heap:=h',gens:=g',drawn:=d',toks:=t' }:=by
 obtain⟨m,⟨o,es,ep,ho,r⟩,_⟩:=id I.loc;obtain⟨sl,hL⟩:=u.any ho I.free λ z=>(hch _ z).2.1 rfl
 exact I.step (ch:=ch) hch (λ b o hL hb hc e n=>u.keep b o e n (λ z=>(List.mem_cons.mp (I.stkSub b z)).elim hL hb) hc) (λ b o _ _ hc e n=>u.any e n hc) (λ b o hc e n=>u.free b o e n hc) (λ b o hc e=>u.there b o e hc) u.tups u.frzs u.tbls (λ m' hm=>by
  obtain⟨o',es',ep',ho',r'⟩:=hm;rw[ho] at ho';cases ho';exact⟨_,es',ep',hL,r'⟩) hok hg
theorem Inv.turned {t':Nat}{it:Addr}(I:Inv X pins σ H s)(k:∀ b o,b≠it->s.heap.get? b=some o->h'.get? b=some o)(hn:H it=none)(hL:it≠X.env.locals)
  (h1:it∈X.ex\/X.s₀.heap.objs.size<=it) (h2:∀ x c,X.env.cells.lookup x=some c->c≠it) (h3:∀ p∈X.pn++pins,p.1≠it):Inv X pins σ H { s with heap:=h',toks:=t' }:=by
 have nit:∀ b u,H b=some u->b≠it:=λ b u e z=>by rw[z,hn] at e;cases e
 refine I.step (g':=s.gens) (d':=s.drawn) (ch:=[it]) (λ b hb=>?_) (λ b o _ _ hc e _=>k b o (λ z=>hc (by simp[z])) e) (λ b o _ _ hc e _=>⟨o.slots,k b o (λ z=>hc (by simp[z])) e⟩) (λ _ _ _ _ n=>n)
  (λ b o hc e=>⟨o,k b o (λ z=>hc (by simp[z])) e⟩) (λ _ _ e=>e) (λ _ _ _ e=>e) (λ b ps e=>⟨#[],by rw[e];simp⟩) (λ m hm=>?_) (λ b u e=>?_) I.bare
 ·have e:b=it:=by simpa using hb
  subst e;exact⟨h1,hL,h2,h3⟩
 ·obtain⟨o,es,ep,ho,r⟩:=hm
  exact⟨o,es,ep,k _ o (Ne.symm hL) ho,r⟩
 ·refine(I.hok b u e).stay (λ c v hc q=>k c v ?_ q) (λ _ q=>q) λ _ _ q=>q
  rcases hc with z|z
  ·rw[z];exact nit b u e
  ·exact nit c _ z
theorem Inv.tok (I:Inv X pins σ H s)(t:Nat):Inv X pins σ H { s with toks:=t }:=I.un (h':=s.heap) (t':=t) Un.refl I.hok
theorem Inv.kept {t':Nat}(I:Inv X pins σ H s)(k:∀ b u,s.heap.get? b=some u->h'.get? b=some u):Inv X pins σ H { s with heap:=h',toks:=t' }:=I.un (Un.kept k) (I.hok.kept k)
theorem Inv.laid {a:Addr}{o:HO}{t':Nat}(I:Inv X pins σ H s)(k:∀ b u,s.heap.get? b=some u->h'.get? b=some u)(hp:s.heap.objs.size<=a)(new:ObjOk X.prog X.w (upd H a o) h' a o):
  Inv X pins σ (upd H a o) { s with heap:=h',toks:=t' }:=I.un (Un.laid k hp (I.hok.fresh hp)) (I.hok.laid k hp new)
theorem Inv.write {x e:Addr}{o:HO}{t':Nat}(I:Inv X pins σ H s)(mu:Mut (H x))(he:e=x\/H e=some (.own x))(k:∀ b u,b≠e->s.heap.get? b=some u->h'.get? b=some u)(heo:∃ u,h'.get? e=some u)
  (new:ObjOk X.prog X.w (upd H x o) h' x o):Inv X pins σ (upd H x o) { s with heap:=h',toks:=t' }:=I.un (Un.write mu he k heo) (I.hok.write mu he k heo new)
theorem Inv.pins_of {pins':List (Addr×Obj)}(I:Inv X pins σ H s)(h:∀ p∈pins',s.heap.get? p.1=some p.2/\H p.1=none/\p.1≠X.env.locals/\p.1∉X.fs/\∀ v,p.2.data≠.cell v):Inv X pins' σ H s:=
 ⟨I.ok,I.os,I.bare,I.base,I.loc,I.cell,I.free,I.freeC,λ p hp=>(List.mem_append.mp hp).elim (λ z=>I.pin p (BK _ z)) (h p),I.hok,I.len⟩
theorem me {N:List Str}(hN:N.Nodup){i j:Nat}{x:Str}(a:N[i]?=some x)(b:N[j]?=some x):i=j:=by
 obtain⟨h1,e1⟩:=List.getElem?_eq_some_iff.mp a;obtain⟨h2,e2⟩:=List.getElem?_eq_some_iff.mp b;exact(List.getElem_inj hN).mp (e1.trans e2.symm)
theorem jZ {M:Model}{A:Around}{E:Value->Shared->Prop}{i:Nat}{x:Str}{v:V}{u:Value}{Q:Unit->Shared->Prop}(I:Inv X pins σ H s)(hN:X.N.Nodup)(hi:X.N[i]?=some x)(hx:Loc X.env.scope x)(r:RelV v u)
  (h:∀ s',Inv X pins (σ.set i (some v)) H s'->(∃ a,FH a s.heap s'.heap/\(a=X.env.locals\/X.env.cells.lookup x=some a))->Q () s') (hf:autoParam (X.fn x=true\/X.env.scope.names.lookup x=some .local) ZB._auto_1):wpAny M A (storeName X.env x u) Q E s:=by
 obtain⟨m,hn,hl⟩:=id I.loc;have hcls:(X.env.scope.kind == .class || (X.env.scope.kind == .module&&X.env.locals != X.env.globals))=false:=by rw[I.ok.kind];rfl
 have hiσ:i<σ.length:=by rw[I.len];exact(List.getElem?_eq_some_iff.mp hi).1
 have cne:=I.cne;have tracked:∀ {a:Addr} {h':Heap},(∃ o,s.heap.get? a=some o/\H a=none)->FH a s.heap h'->HOk X.prog X.w H h':=λ {a h'} ha hs b ob e=>by
  obtain⟨_,_,hfree⟩:=ha;refine(I.hok b ob e).stay (λ c w' hc q=>(hs.2 c ?_).trans q) (λ _ q=>q) λ _ _ q=>q
  rintro rfl
  rcases hc with rfl|hc
  ·rw[hfree] at e;cases e
  ·rw[hfree] at hc;cases hc
 rcases hx with hk|hk
 ·refine wpAny_storeName_local hk hn (λ h' hn' hs=>?_) hcls
  obtain⟨oL,_,_,hoL,_⟩:=id hn;refine h _ ⟨I.ok,I.os,I.bare,⟨λ b o e n hb hx=>?_,λ b o e n hb hx=>?_,I.base.free,λ b o e hx=>?_,I.base.tups,I.base.frzs,I.base.tbls⟩,⟨_,hn',λ j y v' e1 e2 e3=>?_⟩,λ y c e=>?_,I.free,I.freeC,λ p hp=>?_,tracked ⟨oL,hoL,I.free⟩ hs,by simpa using I.len⟩ ⟨_,hs,.inl rfl⟩
  ·exact(hs.2 b (Bl (Bw (Ew e) I.ok.above))).trans (I.base.keep b o e n hb hx)
  ·obtain⟨sl,e1⟩:=I.base.slot b o e n hb hx
   exact⟨sl,(hs.2 b (Bl (Bw (Ew e) I.ok.above))).trans e1⟩
  ·obtain⟨o',e1⟩:=I.base.there b o e hx
   exact⟨o',(hs.2 b (Bl (Bw (Ew e) I.ok.above))).trans e1⟩
  ·by_cases hj:j=i
   ·subst hj
    rw[hi] at e1;cases e1;rw[BA hiσ] at e2;cases e2;exact⟨u,r,.inl ⟨hk,by simp⟩⟩
   ·rw[BU (Ne.symm hj)] at e2
    obtain⟨u',r',q⟩:=hl j y v' e1 e2 e3;refine⟨u',r',?_⟩
    rcases q with ⟨k,e⟩|⟨k,c,e,z⟩
    ·refine .inl ⟨k,?_⟩
     have:y≠x:=λ e=>hj (me hN e1 (e▸hi))
     simp[this,e]
    ·exact .inr ⟨k,c,e,z.sameBut hs (cne y c e)⟩
  ·obtain⟨w',z⟩:=I.cell y c e
   exact⟨w',z.sameBut hs (cne y c e)⟩
  ·obtain⟨e,n,ne,nf,d⟩:=I.pin p hp
   exact⟨(hs.2 p.1 ne).trans e,n,ne,nf,d⟩
 ·have hfn:X.fn x=true:=by
   rcases hf with z|z
   ·exact z
   ·rw[z] at hk;cases hk
  obtain⟨c,hc⟩:=I.ok.has x (.inl hk);obtain⟨w',z⟩:=I.cell x c hc;refine wpAny_storeName_cell I.ok.kind hk hc z (λ h' hc' hs=>?_);obtain⟨oc,hoc,hocd⟩:=id z;refine h { s with heap:=h' } ⟨I.ok,I.os,I.bare,⟨λ b o e n hb hx=>?_,λ b o e n hb hx=>?_,I.base.free,λ b o e hx=>?_,I.base.tups,I.base.frzs,I.base.tbls⟩,⟨m,hn.sameBut hs (Ne.symm (cne x c hc)),λ j y v' e1 e2 e3=>?_⟩,λ y c' e=>?_,I.free,I.freeC,λ p hp=>?_,tracked ⟨oc,hoc,I.freeC x c hc⟩ hs,by simpa using I.len⟩ ⟨c,hs,.inr hc⟩
  ·exact(hs.2 b (Bl (Bw (Ew e) (I.ok.cab x c hfn hc)))).trans (I.base.keep b o e n hb hx)
  ·obtain⟨sl,e1⟩:=I.base.slot b o e n hb hx
   exact⟨sl,(hs.2 b (Bl (Bw (Ew e) (I.ok.cab x c hfn hc)))).trans e1⟩
  ·obtain⟨o',e1⟩:=I.base.there b o e hx
   exact⟨o',(hs.2 b (Bl (Bw (Ew e) (I.ok.cab x c hfn hc)))).trans e1⟩
  ·by_cases hj:j=i
   ·subst hj
    rw[hi] at e1;cases e1;rw[BA hiσ] at e2;cases e2;exact⟨u,r,.inr ⟨.inl hk,c,hc,hc'⟩⟩
   ·rw[BU (Ne.symm hj)] at e2
    obtain⟨u',r',q⟩:=hl j y v' e1 e2 e3;refine⟨u',r',?_⟩
    rcases q with q|⟨k,c',e,z'⟩
    ·exact .inl q
    ·refine .inr ⟨k,c',e,z'.sameBut hs ?_⟩
     rintro rfl
     exact hj (me hN e1 (I.ok.inj _ _ _ e hc▸hi))
  ·by_cases hcc:c'=c
   ·subst hcc;exact⟨_,hc'⟩
   ·obtain⟨w2,z2⟩:=I.cell y c' e
    exact⟨w2,z2.sameBut hs hcc⟩
  ·obtain⟨e,n,ne,nf,d⟩:=I.pin p hp
   refine⟨(hs.2 p.1 ?_).trans e,n,ne,nf,d⟩;intro q;rw[q,hoc] at e;have q':oc=p.2:=Option.some.inj e;exact d w' (by rw[<- q'];exact hocd)
theorem e9 {M:Model}{A:Around}{E:Value->Shared->Prop}{i:Nat}{x:Str}{v:V}{u:Value}{Q:Unit->Shared->Prop}(I:Inv X pins σ H s)(hN:X.N.Nodup)(hi:X.N[i]?=some x)(hx:Loc X.env.scope x)(r:RelV v u)
  (h:∀ s',Inv X pins (σ.set i (some v)) H s'->Q () s') (hf:autoParam (X.fn x=true\/X.env.scope.names.lookup x=some .local) ZB._auto_1):wpAny M A (storeName X.env x u) Q E s:=
 jZ I hN hi hx r (λ s' I' _=>h s' I') hf
theorem Inv.call' {s':Shared}{ch:List Addr}(I:Inv X pins σ H s)(ho:s'.os=s.os)(u:Un (frs X.stack) ch H H' s.heap s'.heap)(hok:HOk X.prog X.w H' s'.heap)(hg:AllBare s'.gens)
  (hch:∀ b∈ch,(b∈X.ex\/X.s₀.heap.objs.size<=b)/\b≠X.env.locals/\(∀ x c,X.env.cells.lookup x=some c->c≠b)/\∀ p∈X.pn++pins,p.1≠b):Inv X pins σ H' s':=by
 obtain⟨h',g',d',t',o'⟩:=s';have e:o'=s.os:=ho;subst e;exact I.call (g':=g') (t':=t') (d':=d') u hok hg hch
end
abbrev XK:=Value->Option Addr->Hp->Prop
abbrev St:=List (Option V)
abbrev VK:=V->Hp->Prop
abbrev TE:=St->Hp->VK->Prop
abbrev TT:=St->Hp->(Bool->Hp->Prop)->Prop
abbrev TA:=St->Hp->(List V->Hp->Prop)->Prop
structure Ends where
 nx:St->Hp->Prop
 rt:VK
 bk:St->Hp->Prop:=λ _ _=>False
 ct:St->Hp->Prop:=λ _ _=>False
abbrev TS:=Ends->St->Hp->Prop
def EP (X:Cx)(pins:List (Addr×Obj))(σ:St)(Q:VK)(u:Value)(s':Shared):Prop:=∃ v H',Inv X pins σ H' s'/\RelV v u/\Q v H'
def TP (X:Cx)(pins:List (Addr×Obj))(σ:St)(Q:Bool->Hp->Prop)(b:Bool)(s':Shared):Prop:=∃ H',Inv X pins σ H' s'/\Q b H'
def AP (X:Cx)(pins:List (Addr×Obj))(σ:St)(Q:List V->Hp->Prop)(us:List Value)(s':Shared):Prop:=∃ vs H',Inv X pins σ H' s'/\Vals vs us/\Q vs H'
def SP (X:Cx)(pins:List (Addr×Obj))(D:Ends)(f:Flow)(s':Shared):Prop:=
 match f with
 | .next=>∃ σ' H',Inv X pins σ' H' s'/\D.nx σ' H'
 | .brk=>∃ σ' H',Inv X pins σ' H' s'/\D.bk σ' H'
 | .cont=>∃ σ' H',Inv X pins σ' H' s'/\D.ct σ' H'
 | .ret u=>∃ v σ' H',Inv X pins σ' H' s'/\RelV v u/\D.rt v H'
def PE (X:Cx)(e:Expr)(t:TE):Prop:=
 ∀ (pins:List (Addr×Obj)) (s:Shared) (σ:St) (H:Hp) (Q:VK),Inv X pins σ H s->t σ H Q->wpAny (model X.prog X.w) X.A (eval e X.env) (EP X pins σ Q) X.xe s
def PT (X:Cx)(e:Expr)(t:TT):Prop:=
 ∀ (pins:List (Addr×Obj)) (s:Shared) (σ:St) (H:Hp) (Q:Bool->Hp->Prop),Inv X pins σ H s->t σ H Q->wpAny (model X.prog X.w) X.A (isTrue e X.env (eval e X.env)) (TP X pins σ Q) X.xe s
def PW (X:Cx)(e:Expr)(t:TT):Prop:=
 ∀ (whole:Sem Value) (pins:List (Addr×Obj)) (s:Shared) (σ:St) (H:Hp) (Q:Bool->Hp->Prop),Inv X pins σ H s->t σ H Q->wpAny (model X.prog X.w) X.A (isTrue e X.env whole) (TP X pins σ Q) X.xe s
theorem PW.pt {X:Cx}{e:Expr}{t:TT}(h:PW X e t):PT X e t:=h _
def PA (X:Cx)(es:List Expr)(t:TA):Prop:=
 ∀ (pos:Pos) (pins:List (Addr×Obj)) (s:Shared) (σ:St) (H:Hp) (Q:List V->Hp->Prop),Inv X pins σ H s->t σ H Q->wpAny (model X.prog X.w) X.A (spliced (backTo pos (starEach es X.env))) (AP X pins σ Q) X.xe s
def PS (X:Cx)(st:Stmt)(t:TS):Prop:=
 ∀ (pins:List (Addr×Obj)) (s:Shared) (σ:St) (H:Hp) (D:Ends),Inv X pins σ H s->t D σ H->wpAny (model X.prog X.w) X.A (exec st X.env) (SP X pins D) X.xe s
def PSs (X:Cx)(st:List Stmt)(t:TS):Prop:=
 ∀ (pins:List (Addr×Obj)) (s:Shared) (σ:St) (H:Hp) (D:Ends),Inv X pins σ H s->t D σ H->wpAny (model X.prog X.w) X.A (execs st X.env) (SP X pins D) X.xe s
theorem thn {α:Type}{t:Sem α}{Q Q':α->Shared->Prop}{M:Model}{A:Around}{E:Value->Shared->Prop}{s:Shared}(h:wpAny M A t Q E s)(hQ:∀ a s,Q a s->Q' a s):wpAny M A t Q' E s:=EB h hQ λ _ _ x=>x
section
variable {X:Cx}
def bc (i:Nat):TE:=λ σ H Q=>∃ v,σ[i]?=some (some v)/\Q v H
def tC (v:V):TE:=λ _ H Q=>Q v H
theorem c8 {i:Nat}{x:Str}{pos:Pos}(hN:X.N[i]?=some x)(hv:Vis X.env.scope x)(hd:autoParam ((x == ("__debug__":Str))=false) ZC._auto_1)(hcd:autoParam ((x == ("__classdict__":Str))=false) ZC._auto_1):PE X (.Name x pos) (bc i):=by
 intro pins s σ H Q I h;obtain⟨v,e,h⟩:=h;obtain⟨m,hn,hl⟩:=I.loc;obtain⟨u,r,l⟩:=hl i x v hN e hv;have fin:EP X pins σ Q u s:=⟨v,H,I,r,h⟩
 rcases l with ⟨hk,hm⟩|⟨hk,c,hc,hcell⟩
 ·exact wpAny_Name (wpAny_loadName_local I.ok.kind hk hn hm fin) hd
 ·rcases hk with hk|hk
  ·exact wpAny_Name (wpAny_loadName_cell I.ok.kind hk hc hcell fin) hd
  ·exact wpAny_Name (wpAny_loadName_free I.ok.kind hk hc hcell fin hcd) hd
theorem dM {i j pos}:PE X (.Constant (.int i) j pos) (tC (.int i)):=λ _ _ _ H _ I h=>wpAny_Constant_int ⟨.int i,H,I.tok _,⟨_,rfl⟩,h⟩
theorem Aw {b j pos}:PE X (.Constant (.bool b) j pos) (tC (.bl b)):=λ _ _ _ H _ I h=>Constant_bool ⟨.bl b,H,I,rfl,h⟩
theorem nZ {j pos}:PE X (.Constant .none j pos) (tC .non):=λ _ _ _ H _ I h=>Constant_none ⟨.non,H,I,rfl,h⟩
theorem nB {x j pos}:PE X (.Constant (.str x) j pos) (tC (.str x)):=λ _ _ _ H _ I h=>Calls.Constant_str ⟨.str x,H,I.tok _,⟨_,rfl⟩,h⟩
def Gl (X:Cx)(x:Str):Prop:=X.env.kindOf x=some .globalImplicit
theorem ku {E:Value->Shared->Prop}{pins:List (Addr×Obj)}{s:Shared}{σ:St}{H:Hp}{x:Str}{u:Value}{pos:Pos}{Q:Value->Shared->Prop}(I:Inv X pins σ H s)(hg:Gl X x)(hm:X.mg x=some u)(h:Q u s)
  (hd:autoParam ((x == ("__debug__":Str))=false) ZC._auto_1):wpAny (model X.prog X.w) X.A (eval (.Name x pos) X.env) Q E s:=
 Gu I.ok.kind hg (Calls.loadGlobal_global (by rw[I.ok.glob];exact I.mod.glob.keeps I.bk) hm h) hd
theorem d7 {E:Value->Shared->Prop}{pins:List (Addr×Obj)}{s:Shared}{σ:St}{H:Hp}{x:Str}{u:Value}{pos:Pos}{Q:Value->Shared->Prop}(I:Inv X pins σ H s)(hg:Gl X x)(hm:X.mg x=none)(hv:bootBuiltins x=some u)(h:Q u s)
  (hn:autoParam (x≠"__name__") ZC._auto_1) (hd:autoParam ((x == ("__debug__":Str))=false) ZC._auto_1):wpAny (model X.prog X.w) X.A (eval (.Name x pos) X.env) Q E s:=by
 obtain⟨mb,h1,h2⟩:=I.mod.blt;exact Gu I.ok.kind hg (Calls.loadGlobal_builtin (by rw[I.ok.glob];exact I.mod.glob.keeps I.bk) hm (by rw[I.ok.blt];exact h1.keeps I.bk) ((h2 x hn).trans hv) h) hd
theorem kG {x:Str}{v:V}{u:Value}{pos:Pos}(hg:Gl X x)(hm:X.mg x=some u)(r:RelV v u)(hd:autoParam ((x == ("__debug__":Str))=false) ZC._auto_1):PE X (.Name x pos) (tC v):=
 λ _ _ _ H _ I h=>ku I hg hm ⟨v,H,I,r,h⟩ hd
theorem w8 {x:Str}{v:V}{u:Value}{pos:Pos}(hg:Gl X x)(hm:X.mg x=none)(hv:bootBuiltins x=some u)(r:RelV v u)(hn:autoParam (x≠"__name__") ZC._auto_1)(hd:autoParam ((x == ("__debug__":Str))=false) ZC._auto_1):PE X (.Name x pos) (tC v):=
 λ _ _ _ H _ I h=>d7 I hg hm hv ⟨v,H,I,r,h⟩ hn hd
variable {a b:Expr}{ta tb:TE}{pos:Pos}
def PC (X:Cx)(op:CmpOp)(a b:Expr)(t:TE):Prop:=
 ∀ (pins:List (Addr×Obj)) (s:Shared) (σ:St) (H:Hp) (Q:VK),Inv X pins σ H s->t σ H Q ->
  wpAny (model X.prog X.w) X.A (eval a X.env) (λ v s₁=>wpAny (model X.prog X.w) X.A (eval b X.env) (λ u s₂=>wpAny (model X.prog X.w) X.A (compareOp op v u) (EP X pins σ Q) X.xe s₂) X.xe s₁) X.xe s
theorem nobehind (b:Expr){op:CmpOp}(h:op≠.In)(h2:op≠.NotIn):behindInMarks op b=false:=by
 have e1:(op == CmpOp.In)=false:=by cases op <;>first|rfl|exact absurd rfl h
 have e2:(op == CmpOp.NotIn)=false:=by cases op <;>first|rfl|exact absurd rfl h2
 cases b <;>simp[behindInMarks,e1,e2]
def xJ (ta:TE):TE:=λ σ H Q=>ta σ H λ x H1=>Q (.bl (!decide (x=.non))) H1
theorem RelV.none_iff {x:V}{v:Value}(r:RelV x v):(v == EG)=decide (x=.non):=by
 cases x with
 | non=>cases r;rfl
 | bl _=>cases r;rfl
 | int _=>obtain⟨t,rfl⟩:=r;rfl
 | str _=>obtain⟨t,rfl⟩:=r;rfl
 | byt _=>obtain⟨t,rfl⟩:=r;rfl
 | flt _=>obtain⟨t,rfl⟩:=r;rfl
 | ref _=>cases r;rfl
 | ty _=>cases r;rfl
theorem wY {j pos'}(ha:PE X a ta):PC X .IsNot a (.Constant .none j pos') (xJ ta):=by
 intro pins s σ H Q I h;refine thn (ha pins s σ H _ I h) λ v s1 ⟨x,H1,I1,r1,q1⟩=>?_
 exact Constant_none (isnot_none_gen ⟨.bl _,H1,I1,by rw[r1.none_iff];rfl,q1⟩)
def tB (t:TE):TT:=λ σ H Q=>t σ H λ x H1=>∃ c,x=.bl c/\Q c H1
theorem yQ {op:CmpOp}{t:TE}(h:PC X op a b t)(h1:autoParam (behindInMarks op b=false) ZD._auto_1):PT X (.Compare a [op] [b] pos) (tB t):=by
 intro pins s σ H Q I hw;refine GV (thn (h pins s σ H _ I hw) λ v s1 h1=>thn h1 λ u s2 h2=>thn h2 λ c s3 ⟨x,H1,I1,r1,q1⟩=>?_) h1;obtain⟨d,rfl,q⟩:=q1;cases r1;exact Ff ⟨H1,I1,q⟩
theorem yK {e:Expr}{t:TE}(h:PE X e t)(he:autoParam (∀ whole,isTrue e X.env whole=(do let v <- whole;standAt e.pos;holding [v] (truthy v))) ZE._auto_1):PT X e (tB t):=by
 intro pins s σ H Q I hw;refine isTrue_plain (thn (h pins s σ H _ I hw) λ v s1 ⟨x,H1,I1,r1,q1⟩=>?_) (he _);obtain⟨d,rfl,q⟩:=q1;cases r1;exact Ff ⟨H1,I1,q⟩
variable {tA tB':TT}{rest:List Expr}
def tOr (t u:TT):TT:=λ σ H Q=>t σ H λ c H1=>if c=true then Q true H1 else u σ H1 Q
def AS (t:TT):TT:=λ σ H Q=>t σ H λ c H1=>Q (!c) H1
theorem wD (ha:PT X a tA):PW X (.BoolOp .And [a] pos) tA:=by
 intro wh pins s σ H Q I h;refine isTrue_and (thn (ha pins s σ H Q I h) λ c s1 e=>?_);cases c with
 | true=>exact isTrue_and_nil e
 | false=>exact e
theorem yM (ha:PT X a tA):PW X (.BoolOp .Or [a] pos) tA:=by
 intro wh pins s σ H Q I h;refine isTrue_or (thn (ha pins s σ H Q I h) λ c s1 e=>?_);cases c with
 | false=>exact isTrue_or_nil e
 | true=>exact e
theorem Aa (ha:PT X a tA)(hb:PW X (.BoolOp .Or (b::rest) pos) tB'):PW X (.BoolOp .Or (a::b::rest) pos) (tOr tA tB'):=by
 intro wh pins s σ H Q I h;refine isTrue_or (thn (ha pins s σ H _ I h) λ c s1 ⟨H1,I1,q1⟩=>?_);cases c with
 | true=>exact⟨H1,I1,q1⟩
 | false=>exact hb wh pins s1 σ H1 Q I1 q1
theorem yb (ha:PT X a tA):PT X (.UnaryOp .Not a pos) (AS tA):=by
 intro pins s σ H Q I h;exact isTrue_not (ha pins s σ H (λ c H1=>Q (!c) H1) I h)
def AA (ta tb:TE):TE:=λ σ H Q=>ta σ H λ x H1=>∃ c,x=.bl c/\if c=true then tb σ H1 Q else Q (.bl false) H1
def Ah (ta:TE):TE:=λ σ H Q=>ta σ H λ x H1=>∃ c,x=.bl c/\Q (.bl (!c)) H1
theorem yT {op}{t:TE}(h:PE X a t):PE X (.BoolOp op [a] pos) t:=λ pins s σ H Q I hw=>BoolOp_one (h pins s σ H Q I hw)
theorem yA (ha:PE X a ta)(hb:PE X (.BoolOp .And (b::rest) pos) tb):PE X (.BoolOp .And (a::b::rest) pos) (AA ta tb):=by
 intro pins s σ H Q I h;refine BoolOp_and (thn (ha pins s σ H _ I h) λ v s1 ⟨x,H1,I1,r1,q1⟩=>?_);obtain⟨c,rfl,q1⟩:=q1;cases r1;refine Ff ?_
 cases c with
 | true=>exact hb pins s1 σ H1 Q I1 q1
 | false=>exact⟨.bl false,H1,I1,rfl,q1⟩
theorem yz (ha:PE X a ta):PE X (.UnaryOp .Not a pos) (Ah ta):=by
 intro pins s σ H Q I h;refine UnaryOp_ (thn (ha pins s σ H _ I h) λ v s1 ⟨x,H1,I1,r1,q1⟩=>?_);obtain⟨c,rfl,q1⟩:=q1;cases r1;exact not_of (Ff ⟨.bl (!c),H1,I1,rfl,q1⟩)
end
def SqL (K:Er)(H:Hp)(a:Addr)(xs:List V):Prop:=
 Rd H a (.lst xs) \/
  ∃ (o:Obj) (its:Array Value) (n:Nat),K.lookup a=some o/\o.cls=.type "list"/\o.dict=none/\o.data=.seq its n/\its.size<=sizeLine/\Vals xs its.toList
def SqT (K:Er)(H:Hp)(a:Addr)(xs:List V):Prop:=
 Rd H a (.tup xs) \/
  ∃ (o:Obj) (its:Array Value) (n:Nat),K.lookup a=some o/\o.cls=.type "tuple"/\o.data=.seq its n/\its.size<=sizeLine/\Vals xs its.toList
def AV:Value->Option V
 | .none=>some .non
 | .bool b=>some (.bl b)
 | .int i _=>some (.int i)
 | .str x _=>some (.str x)
 | .bytes b _=>some (.byt b)
 | .float b _=>some (.flt b)
 | .ref a=>some (.ref a)
 | .type n=>some (.ty n)
 | _=>none
theorem RelV.abs {x:V}{u:Value}(r:RelV x u):AV u=some x:=by
 cases x with
 | non=>cases r;rfl
 | bl _=>cases r;rfl
 | int _=>obtain⟨t,rfl⟩:=r;rfl
 | str _=>obtain⟨t,rfl⟩:=r;rfl
 | byt _=>obtain⟨t,rfl⟩:=r;rfl
 | flt _=>obtain⟨t,rfl⟩:=r;rfl
 | ref _=>cases r;rfl
 | ty _=>cases r;rfl
theorem RelV.inj {x y:V}{u:Value}(r:RelV x u)(q:RelV y u):x=y:=Option.some.inj (r.abs.symm.trans q.abs)
theorem Vals.inj {xs ys:List V}{us:List Value}(q:Vals xs us)(p:Vals ys us):xs=ys:=by
 induction q generalizing ys with
 | nil=>cases p;rfl
 | cons r t ih=>
  cases p with
  | cons r' t'=>rw[r.inj r',ih t']
section
variable {X:Cx}{pins:List (Addr×Obj)}{σ:St}{H:Hp}{s:Shared}{a:Addr}{xs ys:List V}
theorem SqL.of {K:Er}(h:H a=some (.lst xs)):SqL K H a xs:=.inl (.inl h)
theorem Inv.list (I:Inv X pins σ H s)(h:SqL X.K H a xs):∃ its:List Value,Vals xs its/\PlainL s.heap a its.toArray/\xs.length<=sizeLine:=by
 rcases h with h|⟨o,its,n,hk,hc,hd,hs,hz,r⟩
 ·obtain⟨z,its,n,r,e⟩:=h.ok I.hok
  exact⟨its,r,⟨_,n,e,rfl,rfl,rfl⟩,z⟩
 ·refine⟨its.toList,r,⟨o,n,I.kIn a o hk,hc,hd,by simpa using hs⟩,?_⟩
  have e:=r.length;simp only[EF] at e;omega
theorem Inv.tuple (I:Inv X pins σ H s)(h:SqT X.K H a xs):∃ its:List Value,Vals xs its/\IsTup s.heap a its.toArray/\xs.length<=sizeLine:=by
 rcases h with h|⟨o,its,n,hk,hc,hs,hz,r⟩
 ·obtain⟨z,its,r,p⟩:=h.ok I.hok
  exact⟨its,r,p,z⟩
 ·refine⟨its.toList,r,⟨o,I.kIn a o hk,hc,n,by simpa using hs⟩,?_⟩
  have e:=r.length;simp only[EF] at e;omega
theorem Inv.list_inj (I:Inv X pins σ H s)(h:SqL X.K H a xs)(h':SqL X.K H a ys):xs=ys:=by
 obtain⟨its,r,⟨o,n,e,_,_,d⟩,_⟩:=I.list h;obtain⟨its',r',⟨o',n',e',_,_,d'⟩,_⟩:=I.list h';rw[e] at e';cases e';rw[d] at d';injection d' with d1 _
 have:its=its':=by simpa using congrArg Array.toList d1
 subst this;exact r.inj r'
end
abbrev Cx.wish (X:Cx)(E:Value->Shared->Prop):Cx:={ X with xe:=E }
abbrev Cx.nox (X:Cx):Cx:=X.wish λ _ _=>False
theorem Cx.Ok.wish {X:Cx}(ok:X.Ok)(E:Value->Shared->Prop):(X.wish E).Ok:=
 ⟨ok.mod,ok.kind,ok.glob,ok.blt,ok.above,ok.inj,ok.has,ok.cab,ok.hd,ok.frames,ok.stk,ok.exf,ok.bs,ok.bsz,ok.noex,ok.exfs,ok.funs,ok.frf⟩
theorem Cx.Ok.unwish {X:Cx}{E:Value->Shared->Prop}(ok:(X.wish E).Ok):X.Ok:=
 ⟨ok.mod,ok.kind,ok.glob,ok.blt,ok.above,ok.inj,ok.has,ok.cab,ok.hd,ok.frames,ok.stk,ok.exf,ok.bs,ok.bsz,ok.noex,ok.exfs,ok.funs,ok.frf⟩
section
variable {X:Cx}{pins:List (Addr×Obj)}{σ:St}{H:Hp}{s:Shared}{E:Value->Shared->Prop}
theorem Inv.wish (I:Inv X pins σ H s)(E:Value->Shared->Prop):Inv (X.wish E) pins σ H s:=⟨I.ok.wish E,I.os,I.bare,I.base,I.loc,I.cell,I.free,I.freeC,I.pin,I.hok,I.len⟩
theorem Inv.unwish (I:Inv (X.wish E) pins σ H s):Inv X pins σ H s:=⟨I.ok.unwish,I.os,I.bare,I.base,I.loc,I.cell,I.free,I.freeC,I.pin,I.hok,I.len⟩
theorem SP.unwish {D:Ends}{f:Flow}{s':Shared}(h:SP (X.wish E) pins D f s'):SP X pins D f s':=by
 cases f with
 | next=>obtain⟨σ',H',I,q⟩:=h;exact⟨σ',H',I.unwish,q⟩
 | brk=>obtain⟨σ',H',I,q⟩:=h;exact⟨σ',H',I.unwish,q⟩
 | cont=>obtain⟨σ',H',I,q⟩:=h;exact⟨σ',H',I.unwish,q⟩
 | ret u=>obtain⟨v,σ',H',I,r,q⟩:=h;exact⟨v,σ',H',I.unwish,r,q⟩
theorem PE.nox {e:Expr}{t:TE}(h:PE X.nox e t):PE X e t:=λ pins s σ H Q I hw=>
 EB (h pins s σ H Q (I.wish _) hw) (λ _ _ ⟨v,H',I',r,q⟩=>⟨v,H',I'.unwish,r,q⟩) λ _ _ z=>EV z
theorem PT.nox {e:Expr}{t:TT}(h:PT X.nox e t):PT X e t:=λ pins s σ H Q I hw=>
 EB (h pins s σ H Q (I.wish _) hw) (λ _ _ ⟨H',I',q⟩=>⟨H',I'.unwish,q⟩) λ _ _ z=>EV z
theorem PSs.nox {st:List Stmt}{t:TS}(h:PSs X.nox st t):PSs X st t:=λ pins s σ H D I hw=>
 EB (h pins s σ H D (I.wish _) hw) (λ _ _ q=>q.unwish) λ _ _ z=>EV z
end
section
variable {X:Cx}{st:Stmt}{rest:List Stmt}{t u:TS}{e:Expr}{te:TE}{pos:Pos}
def o7:TS:=λ D σ H=>D.nx σ H
def cJ (t u:TS):TS:=λ D σ H=>t { D with nx:=u D } σ H
theorem gU:PSs X [] o7:=λ _ _ σ H _ I h=>F6 ⟨σ,H,I,h⟩
theorem aB (h1:PS X st t)(h2:PSs X rest u):PSs X (st::rest) (cJ t u):=by
 intro pins s σ H D I h;refine wpAny_execs_cons (thn (h1 pins s σ H { D with nx:=u D } I h) λ f s1 q=>?_);cases f with
 | next=>
  obtain⟨σ',H',I',q⟩:=q;exact h2 pins s1 σ' H' D I' q
 | ret v=>exact q
 | brk=>exact q
 | cont=>exact q
theorem br (h1:PS X st t):PSs X [st] t:=by
 intro pins s σ H D I h;refine wpAny_execs_cons (thn (h1 pins s σ H D I h) λ f s1 q=>?_);cases f with
 | next=>exact F6 q
 | ret v=>exact q
 | brk=>exact q
 | cont=>exact q
theorem Inv.quiet {pins:List (Addr×Obj)}{σ:St}{H:Hp}{s:Shared}(I:Inv X pins σ H s):interactive X.env=false:=by simp[interactive,I.ok.kind]
def fI (te:TE):TS:=λ D σ H=>te σ H λ _ H1=>D.nx σ H1
theorem bM (he:PE X e te)(hs:autoParam (swapsWith e none pos.line X.env=pure false) ZF._auto_1):PS X (.Expr e pos) (fI te):=by
 intro pins s σ H D I h;exact wpAny_Expr_any (thn (he pins s σ H _ I h) λ v s1 ⟨x,H1,I1,r1,q1⟩=>⟨σ,H1,I1,q1⟩) I.quiet hs
def ui (te:TE):TS:=λ D σ H=>te σ H D.rt
theorem gj (he:PE X e te):PS X (.Return (some e) pos) (ui te):=by
 intro pins s σ H D I h;exact wpAny_Return_some (thn (he pins s σ H _ I h) λ v s1 ⟨x,H1,I1,r1,q1⟩=>⟨x,σ,H1,I1,r1,q1⟩)
def tD (c:TT)(t u:TS):TS:=λ D σ H=>c σ H λ b H1=>if b=true then t D σ H1 else u D σ H1
theorem mf {c:Expr}{a b:List Stmt}{tc:TT}(hc:PT X c tc)(ha:PSs X a t)(hb:PSs X b u):PS X (.If c a b pos) (tD tc t u):=by
 intro pins s σ H D I h;refine wpAny_If (thn (hc pins s σ H _ I h) λ d s1 ⟨H1,I1,q1⟩=>?_);cases d with
 | true=>exact ha pins s1 σ H1 D I1 q1
 | false=>exact hb pins s1 σ H1 D I1 q1
end
abbrev TG:=V->St->Hp->(St->Hp->Prop)->Prop
abbrev TGs:=List V->St->Hp->(St->Hp->Prop)->Prop
def PG (X:Cx)(target:Expr)(t:TG):Prop:=
 ∀ (pins:List (Addr×Obj)) (s:Shared) (σ:St) (H:Hp) (v:V) (u:Value) (Q:St->Hp->Prop),Inv X pins σ H s->RelV v u->t v σ H Q ->
  wpAny (model X.prog X.w) X.A (assign target X.env u) (λ _ s'=>∃ σ' H',Inv X pins σ' H' s'/\Q σ' H') X.xe s
def PGs (X:Cx)(ts:List Expr)(t:TGs):Prop:=
 ∀ (pins:List (Addr×Obj)) (s:Shared) (σ:St) (H:Hp) (vs:List V) (us:List Value) (Q:St->Hp->Prop),Inv X pins σ H s->Vals vs us->t vs σ H Q ->
  wpAny (model X.prog X.w) X.A (assignInOrder ((assignEach ts X.env).map (·.2)) us) (λ _ s'=>∃ σ' H',Inv X pins σ' H' s'/\Q σ' H') X.xe s
abbrev yL:=V->V->V->Hp->(Hp->Prop)->Prop
def Am (X:Cx)(t:yL):Prop:=
 ∀ (pins:List (Addr×Obj)) (s:Shared) (σ:St) (H:Hp) (o i v:V) (ov iv u:Value) (Q:Hp->Prop),Inv X pins σ H s->RelV o ov->RelV i iv->RelV v u->t o i v H Q ->
  wpAny (model X.prog X.w) X.A (setItem ov iv u) (λ _ s'=>∃ H',Inv X pins σ H' s'/\Q H') X.xe s
section
variable {X:Cx}{pos:Pos}
def dZ (i:Nat):TG:=λ v σ H Q=>Q (σ.set i (some v)) H
theorem ej {i:Nat}{x:Str}(hN:X.N.Nodup)(hi:X.N[i]?=some x)(hx:Loc X.env.scope x)(hf:autoParam (X.fn x=true\/X.env.scope.names.lookup x=some .local) ZB._auto_1):PG X (.Name x pos) (dZ i):=by
 intro pins s σ H v u Q I r h;exact wpAny_assign_Name (e9 I hN hi hx r (λ s' I'=>⟨_,H,I',h⟩) hf)
def AE:TGs:=λ vs σ H Q=>vs=[]/\Q σ H
def xO (t:TG)(u:TGs):TGs:=λ vs σ H Q=>∃ v r,vs=v::r/\t v σ H λ σ' H'=>u r σ' H' Q
theorem p4:PGs X [] AE:=by
 intro pins s σ H vs us Q I r h;obtain⟨e,h⟩:=h;subst e;cases r;exact assignInOrder_nil ⟨σ,H,I,h⟩
theorem mL {e:Expr}{es:List Expr}{t:TG}{u:TGs}(h1:PG X e t)(h2:PGs X es u)
  (hs:autoParam ((assignEach (e::es) X.env).map (·.2)=assign e X.env::(assignEach es X.env).map (·.2)) ZF._auto_1):PGs X (e::es) (xO t u):=by
 intro pins s σ H vs us Q I r h;obtain⟨v,vr,e1,h⟩:=h;subst e1;cases r with
 | cons r rr=>
  rw[hs];refine Gk (thn (h1 pins s σ H _ _ _ I r h) λ _ s1 ⟨σ1,H1,I1,q1⟩=>?_);exact h2 pins s1 σ1 H1 _ _ Q I1 rr q1
def AL (K:Er)(n:Nat)(t:TGs):TG:=λ v σ H Q=>∃ a xs,v=.ref a/\SqT K H a xs/\xs.length=n/\t xs σ H Q
theorem nK {es:List Expr}{k:Nat}{t:TGs}{n:Nat}(hc:X.calm=true)(h:PGs X es t)
  (hn:autoParam ((assignEach es X.env).length=n) ZF._auto_1) (hst:autoParam ((assignEach es X.env).findIdx? (·.1)=none) ZF._auto_1):PG X (.Tuple es k pos) (AL X.K n t):=by
 intro pins s σ H v u Q I r hw;obtain⟨a,xs,e1,hq,hl,hw⟩:=hw;subst e1;cases r;obtain⟨its,rv,ht,hz⟩:=I.tuple hq;refine assign_Tuple_tuple (I.ok.hd hc) ht (by simp[hn,<- hl,rv.length]) hst λ h' hx=>?_
 have I1:Inv X pins σ H { s with heap:=h' }:=I.kept (t':=s.toks) λ b o e=>hx b o (Bl (Ew e)) e
 exact h pins _ σ H xs _ Q I1 (by simpa using rv) hw
def AH (to ti:TE)(t:yL):TG:=λ v σ H Q=>to σ H λ o H1=>ti σ H1 λ i H2=>t o i v H2 λ H3=>Q σ H3
theorem u7 {o i:Expr}{to ti:TE}{t:yL}(ho:PE X o to)(hi:PE X i ti)(hs:Am X t)
  (ha:autoParam (∀ v,assign (.Subscript o i pos) X.env v=(do
   let ov <- holding [v] (eval o X.env)
   let iv <- holding [v,ov] (eval i X.env)
   standAt pos
   holding [v,ov,iv] (setItem ov iv v)
   release [v,ov,iv] [])) ZE._auto_1):PG X (.Subscript o i pos) (AH to ti t):=by
 intro pins s σ H v u Q I r h;rw[ha];refine Es (EM (thn (ho pins s σ H _ I h) λ ov s1 ⟨x,H1,I1,r1,q1⟩=>?_));refine Es (EM (thn (hi pins s1 σ H1 _ I1 q1) λ iv s2 ⟨y,H2,I2,r2,q2⟩=>?_));refine Es (F1 (Es (EM (thn (hs pins s2 σ H2 x y v ov iv u _ I2 r1 r2 r q2) λ _ s3 ⟨H3,I3,q3⟩=>?_))));exact wpAny_release ⟨σ,H3,I3,q3⟩
def jb (te:TE)(g:TG):TS:=λ D σ H=>te σ H λ x H1=>g x σ H1 D.nx
theorem kL {tg e:Expr}{te:TE}{g:TG}(he:PE X e te)(hg:PG X tg g)(hs:autoParam (swapsWithSole [tg] e pos.line X.env=pure false) ZF._auto_1)(hw:autoParam (swappedStores [tg] e X.env=pure none) ZF._auto_1)
  (h1:autoParam ((assignEach [tg] X.env).map (·.2)=[assign tg X.env]) ZF._auto_1):PS X (.Assign [tg] e pos) (jb te g):=by
 intro pins s σ H D I h;refine wpAny_Assign_stores (thn (he pins s σ H _ I h) λ v s1 ⟨x,H1,I1,r1,q1⟩=>?_) hs hw;rw[h1];exact thn (hg pins s1 σ H1 x v _ I1 r1 q1) λ _ s2 q=>q
theorem cZ {i:Nat}{x:Str}{e:Expr}{te:TE}{pos':Pos}(hN:X.N.Nodup)(hi:X.N[i]?=some x)(hx:Loc X.env.scope x)(he:PE X e te)(hs:autoParam (swapsWith e (some (.Name x pos')) pos.line X.env=pure false) ZF._auto_1)(hf:autoParam (X.fn x=true\/X.env.scope.names.lookup x=some .local) ZB._auto_1):
  PS X (.Assign [.Name x pos'] e pos) (jb te (dZ i)):=by
 intro pins s σ H D I h;refine wpAny_Assign_Name (thn (he pins s σ H _ I h) λ v s1 ⟨y,H1,I1,r1,q1⟩=>?_) hs;exact e9 I1 hN hi hx r1 (λ s2 I2=>⟨_,H1,I2,q1⟩) hf
def AI (i j:Nat)(ta:TA):TS:=λ D σ H=>ta σ H λ vs H1=>∃ v w,vs=[v,w]/\D.nx ((σ.set i (some v)).set j (some w)) H1
theorem yV {i j:Nat}{x y:Str}{a b:Expr}{ta:TA}{px py pt:Pos}{kt k2 pt2}(hc:X.calm=true)(hN:X.N.Nodup)(hi:X.N[i]?=some x)(hj:X.N[j]?=some y)(hij:i≠j)
  (hx:X.env.scope.names.lookup x=some .local) (hy:X.env.scope.names.lookup y=some .local) (ha:PA X [a,b] ta)
  (hw:swappedStores [.Tuple [.Name x px,.Name y py] kt pt] (.Tuple [a,b] k2 pt2) X.env=pure (some [x,y]))
  (hs:autoParam (swapsWithSole [.Tuple [.Name x px,.Name y py] kt pt] (.Tuple [a,b] k2 pt2) pos.line X.env=pure false) ZF._auto_1):
  PS X (.Assign [.Tuple [.Name x px,.Name y py] kt pt] (.Tuple [a,b] k2 pt2) pos) (AI i j ta):=by
 intro pins s σ H D I h;rw[exec_Assign_arm];refine Es (F1 ?_);rw[hs];refine Es (Eu ?_);rw[if_neg (by decide)];refine Es (Tuple_ (thn (ha _ pins s σ H _ I h) λ us s1 ⟨vs,H1,I1,r1,q1⟩=>?_));obtain⟨v,w,e1,q1⟩:=q1;subst e1;obtain⟨u1,u2,rfl,rv,rw'⟩:∃ u1 u2,us=[u1,u2]/\RelV v u1/\RelV w u2:=by
  cases r1 with
  | cons p q=>
   cases q with
   | cons p' q'=>
    cases q';exact⟨_,_,rfl,p,p'⟩
 refine Fg ?_ (by show 2<=sizeLine;decide)
 have I2:Inv X pins σ H1 { s1 with heap:=s1.heap.push { cls:=.type "tuple",data:=.seq [u1,u2].toArray } }:=I1.kept (t':=s1.toks) λ b o e=>Et _ e
 rw[hw];refine Es (Eu ?_);show wpAny (model X.prog X.w) X.A (do rule "assign.swapped-stores";let items <- unpackItems (.ref s1.heap.objs.size) 2 none;assignInOrder [λ v=>bindName X.env y v,λ v=>bindName X.env x v] items.reverse;pure Flow.next) _ _ _
 refine Es (wpAny_rule (Es (unpackItems_tuple (items:=#[u1,u2]) (I.ok.hd hc) (IsTup.new s1.heap _) λ h' hx'=>?_)));have I3:=I2.kept (h':=h') (t':=s1.toks) λ b o e=>hx' b o (Bl (Ew e)) e
 show wpAny _ _ (assignInOrder [λ v=>bindName X.env y v,λ v=>bindName X.env x v] [u2,u1] >>= λ _=>pure Flow.next) _ _ _
 refine Es (Gk (wpAny_bindName (e9 I3 hN hj (.inl hy) rw' (λ s2 I4=>?_) (.inr hy))));refine Gk (wpAny_bindName (e9 I4 hN hi (.inl hx) rv (λ s3 I5=>assignInOrder_nil (Eu ?_)) (.inr hx)));rw[De _ _ (Ne.symm hij)] at I5;exact⟨_,H1,I5,q1⟩
end
section
variable {X:Cx}{pos:Pos}
def sN (c:TT)(tb:TS):TS:=λ D σ H=>∃ W:Nat->St->Hp->Prop,(∃ m,W m σ H)/\∀ m σ H,W m σ H ->
 c σ H λ b H1=>if b=true then ∃ N:St->Hp->Prop,(∀ σ' H',N σ' H'->∃ m',m'<m/\W m' σ' H')/\tb { D with nx:=N,ct:=N,bk:=D.nx } σ H1 else D.nx σ H1
theorem uo {c:Expr}{body:List Stmt}{tc:TT}{tb:TS}(hp:PassesOwn (model X.prog X.w) X.A X.env X.xe)(hc:PT X c tc)(hb:PSs X body tb):PS X (.While c body [] pos) (sN tc tb):=by
 intro pins s σ H D I h;obtain⟨W,⟨m0,w0⟩,turn⟩:=h;refine wpAny_While (codeAny_whileLoop (λ n s'=>∃ σ' H',Inv X pins σ' H' s'/\W n σ' H') ?_ m0 ⟨σ,H,I,w0⟩)
 rintro n s1 ⟨σ1,H1,I1,w1⟩
 refine Fs hp (thn (hc pins s1 σ1 H1 _ I1 (turn n σ1 H1 w1)) λ b s2 ⟨H2,I2,q2⟩=>?_);cases b with
 | true=>
  obtain⟨N,hN,q2⟩:=q2;rw[if_pos rfl];refine Fs hp (thn (hb pins s2 σ1 H2 _ I2 q2) λ f s3 q3=>?_);cases f with
  | next=>
   obtain⟨σ3,H3,I3,n3⟩:=q3;obtain⟨m',hm,w3⟩:=hN σ3 H3 n3;exact⟨m',hm,σ3,H3,I3,w3⟩
  | cont=>
   obtain⟨σ3,H3,I3,n3⟩:=q3;obtain⟨m',hm,w3⟩:=hN σ3 H3 n3;exact⟨m',hm,σ3,H3,I3,w3⟩
  | brk=>exact q3
  | ret v=>exact q3
 | false=>
  rw[if_neg Br];exact F6 ⟨σ1,H2,I2,q2⟩
end
structure It where
 go:Nat->Hp->Prop
 yld:Nat->Hp->V->Hp->Prop
 stop:Nat->Hp->Prop
def eY (X:Cx)(pins:List (Addr×Obj))(H:Hp)(b:Addr):Prop:=
 H b=none/\b≠X.env.locals/\b∉X.fs/\(b∈X.ex\/X.s₀.heap.objs.size<=b)/\(∀ x c,X.env.cells.lookup x=some c->c≠b)/\∀ p∈X.pn++pins,p.1≠b
theorem Inv.fpOk {X:Cx}{pins:List (Addr×Obj)}{σ:St}{H H':Hp}{s:Shared}{b:Addr}(I:Inv X pins σ H s)(hb:s.heap.objs.size<=b)(hn:H' b=none):eY X pins H' b:=by
 refine⟨hn,CS (Bw I.lt hb),I.nofs hb,.inr (BN I.sz hb),λ x c e z=>?_,λ p hp z=>?_⟩
 ·obtain⟨v,q⟩:=I.cell x c e
  exact absurd (Bw q.lt (by rw[z];exact hb)) (BS _)
 ·exact absurd (Bw (Ew (I.pin p hp).1) (by rw[z];exact hb)) (BS _)
structure Turn (P:Program)(w:World)(K:Er)(tg:Expr)(J:It)(fp:List Addr)(it:Addr)(tn:Nat->Heap->Prop):Prop where
 mem:it∈fp
 obj:∀ i h,tn i h->∀ b∈fp,∃ o,h.get? b=some o/\∀ v,o.data≠.cell v
 keep:∀ i h h',tn i h->(∀ b∈fp,∀ o,h.get? b=some o->h'.get? b=some o)->tn i h'
 item:∀ (X:Cx),X.prog=P->X.w=w->X.K=K->X.calm=true->∀ (i:Nat) (pins:List (Addr×Obj)) (s:Shared) (σ:St) (H:Hp) (E:Value->Shared->Prop),Inv X pins σ H s->(∀ b∈fp,eY X pins H b)->tn i s.heap->J.go i H ->
  wpAny (model P w) X.A (pyNext (.ref it)) (λ r s1=>∃ u,r=some u /\
   wpAny (model P w) X.A (letOwnedTupleGo tg (.ref it) u) (λ _ s2=>∃ x H',Inv X pins σ H' s2/\RelV x u/\J.yld i H x H'/\tn (i+1) s2.heap/\∀ b∈fp,H' b=none) E s1) E s
 done:∀ (X:Cx),X.prog=P->X.w=w->X.K=K->X.calm=true->∀ (i:Nat) (pins:List (Addr×Obj)) (s:Shared) (σ:St) (H:Hp) (E:Value->Shared->Prop),Inv X pins σ H s->(∀ b∈fp,eY X pins H b)->tn i s.heap->J.stop i H ->
  wpAny (model P w) X.A (pyNext (.ref it)) (λ r s1=>r=none/\Inv X pins σ H s1) E s
 self:∀ (A:Around) (i:Nat) (s:Shared) (Q:Value->Shared->Prop) (E:Value->Shared->Prop),tn i s.heap->Q (.ref it) s->wpAny (model P w) A (pyIter (.ref it)) Q E s
abbrev TI:=St->Hp->(It->Hp->Prop)->Prop
def PIE (X:Cx)(pins:List (Addr×Obj))(σ:St)(tg:Expr)(R:It->Hp->Prop)(itv:Value)(s2:Shared):Prop:=
 ∃ (it:Addr) (fp:List Addr) (tn:Nat->Heap->Prop) (J:It) (H':Hp),itv=.ref it/\Inv X pins σ H' s2/\Turn X.prog X.w X.K tg J fp it tn/\tn 0 s2.heap/\(∀ b∈fp,eY X pins H' b)/\R J H'
def PI (X:Cx)(tg iter:Expr)(wi:TI):Prop:=
 ∀ (pins:List (Addr×Obj)) (s:Shared) (σ:St) (H:Hp) (R:It->Hp->Prop),Inv X pins σ H s->wi σ H R ->
  wpAny (model X.prog X.w) X.A (eval iter X.env) (λ v s1=>wpAny (model X.prog X.w) X.A (pyIter v) (PIE X pins σ tg R) X.xe s1) X.xe s
theorem xE {M:Model}{A:Around}{E:Value->Shared->Prop}{s:Shared}{tg:Expr}{it:Addr}{u:Value}{o:Obj}{n:String}{vs:Array Value}{Q:Unit->Shared->Prop}(ho:s.heap.get? it=some o)(hc:o.cls=.type n)(hd:o.data=.fields vs)
    (hn:["enumerate","zip","dict_itemiterator","dict_reverseitemiterator","odict_iterator","itertools.zip_longest","itertools.pairwise"].contains n=false) (hQ:Q () s):wpAny M A (letOwnedTupleGo tg (.ref it) u) Q E s:=by
  unfold letOwnedTupleGo;cases tg <;>first
    | exact Eu hQ
    | (cases u <;>first
        | exact Eu hQ
        | (refine Es (wpAny_load ho ?_)
           rw[hc,hd];show wpAny M A (if (["enumerate","zip","dict_itemiterator","dict_reverseitemiterator","odict_iterator","itertools.zip_longest","itertools.pairwise"].contains n&&vs[0]? == some (rawInt _))=true then _ else _) Q E s
           rw[if_neg (by intro h;rw[hn,DI] at h;cases h)];exact Eu hQ))
def Itl (K:Er)(a:Addr):It:=
 ⟨λ i H=>∃ xs x,SqL K H a xs/\xs[i]?=some x,λ i H x H'=>H'=H/\∀ xs,SqL K H a xs->xs[i]?=some x,λ i H=>∃ xs,SqL K H a xs/\xs.length<=i⟩
def Itr (lo:Int)(n:Nat):It:=⟨λ i _=>i<n,λ i H x H'=>H'=H/\x=.int (lo+i),λ i _=>n<=i⟩
theorem qI {P:Program}{w:World}{K:Er}{tg:Expr}(a it:Addr):Turn P w K tg (Itl K a) [it] it (λ i h=>h.IsListIter it a i) where
 mem:=by simp
 obj:=λ i h st b hb=>by
  have e:b=it:=by simpa using hb
  subst e;obtain⟨o,e,c,d⟩:=st;exact⟨o,e,λ v z=>by rw[d] at z;cases z⟩
 keep:=λ i h h' st k=>st.at λ o e=>k it (by simp) o e
 item:=by
  intro X hP hw hK hc i pins s σ H E I hf st hg;subst hP hw hK;obtain⟨xs,x,hq,hx⟩:=hg;obtain⟨its,rv,p,hz⟩:=I.list hq;obtain⟨u,hu,ru⟩:=rv.get hx;obtain⟨f0,f1,f2,f3,f4,f5⟩:=hf it (by simp);refine F0 st p.isList (x:=u) (by simpa using hu) λ h' st' sb=>?_
  have I1:Inv X pins σ H { s with heap:=h' }:=I.turned (t':=s.toks) (λ b o hb e=>(sb.2 b hb).trans e) f0 f1 f3 f4 f5;obtain⟨o,e,c,d⟩:=id st';exact⟨u,rfl,xE (s:={ s with heap:=h' }) e c d (by decide) ⟨x,H,I1,ru,⟨rfl,λ ys hy=>by rw[I.list_inj hy hq];exact hx⟩,st',λ b hb=>(hf b hb).1⟩⟩
 done:=by
  intro X hP hw hK hc i pins s σ H E I hf st hg;subst hP hw hK;obtain⟨xs,hq,hx⟩:=hg;obtain⟨its,rv,p,hz⟩:=I.list hq;obtain⟨f0,f1,f2,f3,f4,f5⟩:=hf it (by simp);have hl:=rv.length;exact F3 (I.ok.hd hc) st p.isList (by simp;omega) λ h' eb=>⟨rfl,I.turned (t':=s.toks) (λ b o hb e=>eb b o hb e) f0 f1 f3 f4 f5⟩
 self:=λ _ _ _ _ _ st h=>wpAny_pyIter_listiter st h
theorem oe {P:Program}{w:World}{K:Er}{tg:Expr}(it:Addr)(lo:Int)(n:Nat):Turn P w K tg (Itr lo n) [it] it (λ i h=>IsRangeIter h it (lo+(i:Nat)*1) ((n:Int)-(i:Nat)) 1) where
 mem:=by simp
 obj:=λ i h st b hb=>by
  have e:b=it:=by simpa using hb
  subst e;exact⟨_,st,λ v z=>by
   have z':Data.fields _=Data.cell v:=z;cases z'⟩
 keep:=λ i h h' st k=>k it (by simp) _ st
 item:=by
  intro X hP hw hK hc i pins s σ H E I hf st hg;subst hP hw hK;obtain⟨f0,f1,f2,f3,f4,f5⟩:=hf it (by simp);have W:=Walks.range (prog:=X.prog) (w:=X.w) (I.ok.hd hc) it lo 1 n;refine W.item i s _ _ hg st λ v h' tk hv st' kk=>?_
  obtain⟨t,rfl⟩:=hv;have I1:Inv X pins σ H { s with heap:=h',toks:=tk }:=I.turned (λ b o hb e=>kk b o (by simpa using hb) e) f0 f1 f3 f4 f5;refine⟨_,rfl,xE (s:={ s with heap:=h',toks:=tk }) (n:="range_iterator") st' rfl rfl (by decide) ⟨.int (lo+i),H,I1,⟨t,?_⟩,⟨rfl,rfl⟩,st',λ b hb=>(hf b hb).1⟩⟩;rw[El]
 done:=by
  intro X hP hw hK hc i pins s σ H E I hf st hg;subst hP hw hK;obtain⟨f0,f1,f2,f3,f4,f5⟩:=hf it (by simp);exact wpAny_pyNext_range_end (I.ok.hd hc) st (by have:n<=i:=hg;omega) λ h' eb=>⟨rfl,I.turned (t':=s.toks) (λ b o hb e=>eb b o hb e) f0 f1 f3 f4 f5⟩
 self:=λ _ _ _ _ _ st h=>wpAny_pyIter_rangeiter st h
section
variable {X:Cx}{tg:Expr}
def xl (K:Er)(tl:TE):TI:=λ σ H R=>tl σ H λ x H1=>∃ a,x=.ref a/\(∃ xs,SqL K H1 a xs)/\R (Itl K a) H1
theorem kJ {l:Expr}{tl:TE}(hl:PE X l tl):PI X tg l (xl X.K tl):=by
 intro pins s σ H R I h;refine thn (hl pins s σ H _ I h) λ v s1 ⟨x,H1,I1,r1,q1⟩=>?_
 obtain⟨a,e,⟨xs,hq⟩,q⟩:=q1;subst e;cases r1;obtain⟨its,rv,p,hz⟩:=I1.list hq;refine FY p.isList ?_
 refine⟨s1.heap.objs.size,[s1.heap.objs.size],_,_,H1,rfl,I1.kept (t':=s1.toks) λ b o e=>Et _ e,qI a _,⟨_,Ey _ rfl,rfl,rfl⟩,λ b hb=>?_,q⟩;have e:b=s1.heap.objs.size:=by simpa using hb
 subst e;exact I1.fpOk (Bh _) (I1.hok.fresh (Bh _))
theorem lD {pins:List (Addr×Obj)}{σ:St}{H:Hp}{s:Shared}{R:It->Hp->Prop}{E:Value->Shared->Prop}{lo hi:Int}{t u v:Tok}{tk:Nat}(I:Inv X pins σ H s)(h1:-(2 ^ 62)<=lo)(h2:lo<2 ^ 62)(h3:-(2 ^ 62)<=hi)(h4:hi<2 ^ 62)
  (q:R (Itr lo (hi-lo).toNat) H):wpAny (model X.prog X.w) X.A (pyIter (.ref s.heap.objs.size)) (PIE X pins σ tg R) E { s with heap:=s.heap.push { cls:=.type "range",data:=.fields #[.int lo t,.int hi u,.int 1 v] },toks:=tk }:=by
 refine wpAny_pyIter_range (IsRange.new ..) (small_one h1 h2 h3 h4) ?_
 have I1:Inv X pins σ H { s with heap:=s.heap.push { cls:=.type "range",data:=.fields #[.int lo t,.int hi u,.int 1 v] },toks:=tk }:=I.kept λ b o e=>Et _ e
 refine⟨(s.heap.push { cls:=.type "range",data:=.fields #[.int lo t,.int hi u,.int 1 v] }).objs.size,[(s.heap.push { cls:=.type "range",data:=.fields #[.int lo t,.int hi u,.int 1 v] }).objs.size],_,_,H,rfl,
  I1.kept (t':=tk) λ b o e=>Et _ e,oe _ lo (hi-lo).toNat,?_,λ b hb=>?_,q⟩
 ·have e1:lo+((0:Nat):Int)*1=lo:=by simp
  have e2:(((hi-lo).toNat:Nat):Int)-((0:Nat):Int)=Builtin.Range.rangeSize lo hi 1:=by rw[rangeSize_one];split <;>omega
  show IsRangeIter _ _ (lo+((0:Nat):Int)*1) ((((hi-lo).toNat:Nat):Int)-((0:Nat):Int)) 1
  rw[e1,e2];exact Ey _ rfl
 ·have e:b=(s.heap.push { cls:=.type "range",data:=.fields #[.int lo t,.int hi u,.int 1 v] }).objs.size:=by simpa using hb
  subst e;exact I1.fpOk (Bh _) (I1.hok.fresh (Bh _))
def zQ (ta:TA):TI:=λ σ H R=>ta σ H λ vs H1=>∃ j:Int,vs=[.int j]/\-(2 ^ 62)<=j/\j<2 ^ 62/\R (Itr 0 j.toNat) H1
def Ac (ta:TA):TI:=λ σ H R=>ta σ H λ vs H1=>∃ i j:Int,vs=[.int i,.int j]/\(-(2 ^ 62)<=i/\i<2 ^ 62/\-(2 ^ 62)<=j/\j<2 ^ 62)/\R (Itr i (j-i).toNat) H1
theorem qD {a:Expr}{ta:TA}{p pos:Pos}(hg:Gl X "range")(hm:X.mg "range"=none)(ha:PA X [a] ta)(hs:autoParam (starEach [a] X.env=[(false,eval a X.env)]) ZF._auto_1):PI X tg (.Call (.Name "range" p) [a] [] pos) (zQ ta):=by
 intro pins s σ H R I h;refine Call_ (d7 I hg hm boot_range (E9 (thn (ha pos pins s σ H _ I h) λ us s1 ⟨vs,H1,I1,r1,q1⟩=>?_) hs rfl));obtain⟨j,e,q1,q2,q⟩:=q1;subst e;cases r1 with
 | cons r rr=>
  cases rr;obtain⟨t,rfl⟩:=r;exact call_range_1 (lD I1 (by omega) (by omega) q1 q2 (by simpa using q))
theorem rT {a b:Expr}{ta:TA}{p pos:Pos}(hg:Gl X "range")(hm:X.mg "range"=none)(ha:PA X [a,b] ta)(hs:autoParam (starEach [a,b] X.env=[(false,eval a X.env),(false,eval b X.env)]) ZF._auto_1)(hs2:autoParam (starEach [b] X.env=[(false,eval b X.env)]) ZF._auto_1):
  PI X tg (.Call (.Name "range" p) [a,b] [] pos) (Ac ta):=by
 intro pins s σ H R I h;refine Call_ (d7 I hg hm boot_range (E9 (thn (ha pos pins s σ H _ I h) λ us s1 ⟨vs,H1,I1,r1,q1⟩=>?_) (by rw[hs,hs2]) (by rw[hs2];rfl)));obtain⟨i,j,e,⟨q1,q2,q3,q4⟩,q⟩:=q1;subst e;cases r1 with
 | cons r rr=>
  cases rr with
  | cons r' rr=>
   cases rr;obtain⟨t,rfl⟩:=r;obtain⟨t',rfl⟩:=r';exact call_range_2 (lD I1 q1 q2 q3 q4 q)
def zT (wi:TI)(g:TG)(tb:TS):TS:=λ D σ H=>wi σ H λ J H1=>∃ W:Nat->Nat->St->Hp->Prop,(∃ m,W 0 m σ H1)/\∀ i m σ H,W i m σ H ->
 (J.stop i H/\D.nx σ H)\/(J.go i H/\∃ N:St->Hp->Prop,(∀ σ' H',N σ' H'->∃ m',m'<m/\W (i+1) m' σ' H')/\∀ x H',J.yld i H x H'->g x σ H' λ σ2 H2=>tb { D with nx:=N,ct:=N,bk:=D.nx } σ2 H2)
def fM (fp:List Addr)(h:Heap):List (Addr×Obj):=fp.filterMap λ b=>(h.get? b).map λ o=>(b,o)
theorem b8 {fp:List Addr}{h:Heap}{b:Addr}{o:Obj}(hb:b∈fp)(e:h.get? b=some o):(b,o)∈fM fp h:=List.mem_filterMap.mpr ⟨b,hb,by rw[e];rfl⟩
theorem qL {fp:List Addr}{h:Heap}{p:Addr×Obj}(hp:p∈fM fp h):p.1∈fp/\h.get? p.1=some p.2:=by
 obtain⟨b,hb,e⟩:=List.mem_filterMap.mp hp;cases q:h.get? b with
 | none=>rw[q] at e;cases e
 | some o=>
  rw[q] at e;have e':(b,o)=p:=Option.some.inj e;subst e';exact⟨hb,q⟩
theorem Inv.pinned {pins:List (Addr×Obj)}{σ:St}{H:Hp}{s:Shared}{fp:List Addr}(I:Inv X pins σ H s)(hf:∀ b∈fp,eY X pins H b)(ho:∀ b∈fp,∃ o,s.heap.get? b=some o/\∀ v,o.data≠.cell v):Inv X (pins++fM fp s.heap) σ H s:=
 I.pins_of λ p hp=>(List.mem_append.mp hp).elim (λ z=>I.pin p (Bp _ z)) λ z=>by
  obtain⟨hb,e⟩:=qL z;obtain⟨f0,f1,f2,_⟩:=hf p.1 hb;obtain⟨o,e',d⟩:=ho p.1 hb;rw[e] at e';cases e';exact⟨e,f0,f1,f2,d⟩
theorem Inv.unpinned {pins pl:List (Addr×Obj)}{σ:St}{H:Hp}{s:Shared}(I:Inv X (pins++pl) σ H s):Inv X pins σ H s:=I.pins_of λ p hp=>I.pin p (Bp _ (BK _ hp))
theorem nJ {iter:Expr}{body:List Stmt}{wi:TI}{g:TG}{tb:TS}{pos:Pos}(hp:PassesOwn (model X.prog X.w) X.A X.env X.xe)(hc:X.calm=true)(hi:PI X tg iter wi)(hg:PG X tg g)(hb:PSs X body tb)
  (hs:autoParam (∀ x,foldedSetIterable iter X.env x=pure x) ZE._auto_1):PS X (.For tg iter body [] pos) (zT wi g tb):=by
 intro pins s σ H D I h;refine wpAny_For (thn (hi pins s σ H _ I h) λ v s1 h1=>thn h1 λ itv s2 h2=>?_) hs;obtain⟨it,fp,tn,J,H2,e,I2,T,st2,f2,W,⟨m0,w0⟩,turn⟩:=h2;subst e;have stat:∀ {H':Hp},(∀ b∈fp,H' b=none)->∀ b∈fp,eY X pins H' b:=λ hn b hb=>⟨hn b hb,(f2 b hb).2⟩
 refine codeAny_forLoop_any (λ n s'=>∃ i σ' H',Inv X pins σ' H' s'/\tn i s'.heap/\(∀ b∈fp,H' b=none)/\W i n σ' H') ?_ m0 ⟨0,σ,H2,I2,st2,λ b hb=>(f2 b hb).1,w0⟩
 rintro n s3 ⟨i,σ3,H3,I3,st3,fr3,w3⟩
 rcases turn i n σ3 H3 w3 with ⟨stop,qn⟩|⟨go,N,hN,step⟩
 ·refine Fs hp (thn (T.done X rfl rfl rfl hc i pins s3 σ3 H3 X.xe I3 (stat fr3) st3 stop) λ r s4 ⟨hr,I4⟩=>?_)
  subst hr;exact F6 ⟨σ3,H3,I4,qn⟩
 ·refine Fs hp (thn (T.item X rfl rfl rfl hc i pins s3 σ3 H3 X.xe I3 (stat fr3) st3 go) λ r s4 ⟨u,hr,h4⟩=>?_)
  subst hr;refine Fs hp (thn h4 λ _ s5 ⟨x,H5,I5,r5,y5,st5,fr5⟩=>?_);have I5':=I5.pinned (stat fr5) (T.obj _ _ st5);refine Fs hp (thn (hg _ s5 σ3 H5 x u _ I5' r5 (step x H5 y5)) λ _ s6 ⟨σ6,H6,I6,q6⟩=>?_);refine Fs hp (thn (hb _ s6 σ6 H6 _ I6 q6) λ f s7 q7=>?_);have again:∀ {σ7:St} {H7:Hp},Inv X (pins++fM fp s5.heap) σ7 H7 s7->N σ7 H7->∃ m,m<n/\∃ i σ' H',Inv X pins σ' H' s7/\tn i s7.heap/\(∀ b∈fp,H' b=none)/\W i m σ' H':=λ {σ7 H7} I7 n7=>by
   obtain⟨m',hm,w7⟩:=hN σ7 H7 n7;refine⟨m',hm,i+1,σ7,H7,I7.unpinned,T.keep _ _ _ st5 λ b hb o e=>(I7.pin (b,o) (Bp _ (Bp _ (b8 hb e)))).1,λ b hb=>?_,w7⟩;obtain⟨o,e,d⟩:=T.obj _ _ st5 b hb;exact(I7.pin (b,o) (Bp _ (Bp _ (b8 hb e)))).2.1
  cases f with
  | next=>obtain⟨σ7,H7,I7,n7⟩:=q7;exact again I7 n7
  | cont=>obtain⟨σ7,H7,I7,n7⟩:=q7;exact again I7 n7
  | brk=>obtain⟨σ7,H7,I7,q7⟩:=q7;exact⟨σ7,H7,I7.unpinned,q7⟩
  | ret v=>obtain⟨x7,σ7,H7,I7,r7,q7⟩:=q7;exact⟨x7,σ7,H7,I7.unpinned,r7,q7⟩
end
theorem uA {K:Er}{a:Addr}{xs:List V}{g:TG}{tb:TS}{D:Ends}{σ:St}{H:Hp}(Pv:Nat->St->Hp->Prop)(h0:Pv 0 σ H)(hl:∀ i σ H,i<=xs.length->Pv i σ H->SqL K H a xs)
  (hs:∀ i x σ H,xs[i]?=some x->Pv i σ H->g x σ H λ σ2 H2=>tb { D with nx:=Pv (i+1),ct:=Pv (i+1),bk:=D.nx } σ2 H2) (hd:∀ σ H,Pv xs.length σ H->D.nx σ H):
  ∃ W:Nat->Nat->St->Hp->Prop,(∃ m,W 0 m σ H)/\∀ i m σ H,W i m σ H ->
   ((Itl K a).stop i H/\D.nx σ H)\/((Itl K a).go i H/\∃ N:St->Hp->Prop,(∀ σ' H',N σ' H'->∃ m',m'<m/\W (i+1) m' σ' H')/\∀ x H',(Itl K a).yld i H x H'->g x σ H' λ σ2 H2=>tb { D with nx:=N,ct:=N,bk:=D.nx } σ2 H2):=by
 refine⟨λ i m σ H=>m=xs.length-i/\i<=xs.length/\Pv i σ H,⟨xs.length,by simp,BV _,h0⟩,?_⟩
 rintro i m σ H ⟨rfl,hi,p⟩
 have q:=hl i σ H hi p;by_cases hlt:i<xs.length
 ·refine .inr ⟨⟨xs,xs[i],q,by simp[hlt]⟩,Pv (i+1),λ σ' H' p'=>⟨xs.length-(i+1),by omega,rfl,hlt,p'⟩,λ x H' y=>?_⟩
  obtain⟨e,y⟩:=y;subst e;exact hs i x σ _ (y xs q) p
 ·have e:i=xs.length:=by omega
  subst e;exact .inl ⟨⟨xs,q,Bh _⟩,hd σ H p⟩
abbrev R2:=V->V->Hp->VK->Prop
def OpR (X:Cx)(f:Value->Value->Sem Value)(r:R2):Prop:=
 ∀ (pins:List (Addr×Obj)) (s:Shared) (σ:St) (H:Hp) (x y:V) (v u:Value) (Q:VK),Inv X pins σ H s->RelV x v->RelV y u->r x y H Q ->
  wpAny (model X.prog X.w) X.A (f v u) (EP X pins σ Q) X.xe s
def UnR (X:Cx)(f:Value->Sem Value)(r:V->Hp->VK->Prop):Prop:=
 ∀ (pins:List (Addr×Obj)) (s:Shared) (σ:St) (H:Hp) (x:V) (v:Value) (Q:VK),Inv X pins σ H s->RelV x v->r x H Q ->
  wpAny (model X.prog X.w) X.A (f v) (EP X pins σ Q) X.xe s
def cU (X:Cx)(f:Value)(r:List V->Hp->VK->Prop):Prop:=
 ∀ (pins:List (Addr×Obj)) (s:Shared) (σ:St) (H:Hp) (xs:List V) (us:List Value) (Q:VK),Inv X pins σ H s->Vals xs us->r xs H Q ->
  wpAny (model X.prog X.w) X.A (call f us) (EP X pins σ Q) X.xe s
def tOp (r:R2)(ta tb:TE):TE:=λ σ H Q=>ta σ H λ x H1=>tb σ H1 λ y H2=>r x y H2 Q
def tUn (r:V->Hp->VK->Prop)(ta:TE):TE:=λ σ H Q=>ta σ H λ x H1=>r x H1 Q
def rI (C:Int->Int->Prop)(g:Int->Int->V):R2:=λ x y H Q=>∃ i j,x=.int i/\y=.int j/\C i j/\Q (g i j) H
def rI0 (g:Int->Int->V):R2:=λ x y H Q=>∃ i j,x=.int i/\y=.int j/\Q (g i j) H
def rU (g:Int->V):V->Hp->VK->Prop:=λ x H Q=>∃ i,x=.int i/\Q (g i) H
section
variable {X:Cx}{a b c:Expr}{ta tb tc:TE}{pos:Pos}
theorem yH (ha:PE X a ta)(hb:PE X b tb){pins:List (Addr×Obj)}{s:Shared}{σ:St}{H:Hp}{R:V->V->Hp->Prop}(I:Inv X pins σ H s)
  (h:ta σ H λ x H1=>tb σ H1 λ y H2=>R x y H2) {Q:Value->Shared->Prop} {f:Value->Value->Sem Value}
  (hf:∀ v u s2 x y H2,Inv X pins σ H2 s2->RelV x v->RelV y u->R x y H2->wpAny (model X.prog X.w) X.A (f v u) Q X.xe s2):
  wpAny (model X.prog X.w) X.A (eval a X.env) (λ v s₁=>wpAny (model X.prog X.w) X.A (eval b X.env) (λ u s₂=>wpAny (model X.prog X.w) X.A (f v u) Q X.xe s₂) X.xe s₁) X.xe s:=by
 refine thn (ha pins s σ H _ I h) λ v s1 ⟨x,H1,I1,r1,q1⟩=>?_
 refine thn (hb pins s1 σ H1 _ I1 q1) λ u s2 ⟨y,H2,I2,r2,q2⟩=>?_
 exact hf v u s2 x y H2 I2 r1 r2 q2
theorem xt {op:Operator}{r:R2}(ho:OpR X (binaryOp op) r)(ha:PE X a ta)(hb:PE X b tb):PE X (.BinOp a op b pos) (tOp r ta tb):=by
 intro pins s σ H Q I h;exact wpAny_BinOp (yH ha hb I h λ v u s2 x y H2 I2 rx ry q=>ho pins s2 σ H2 x y v u Q I2 rx ry q)
theorem zK {op:UnaryOp}{r:V->Hp->VK->Prop}(ho:UnR X (unaryOp op) r)(ha:PE X a ta):PE X (.UnaryOp op a pos) (tUn r ta):=by
 intro pins s σ H Q I h;exact UnaryOp_ (thn (ha pins s σ H _ I h) λ v s1 ⟨x,H1,I1,r1,q1⟩=>ho pins s1 σ H1 x v Q I1 r1 q1)
theorem opI {f:Value->Value->Sem Value}{C:Int->Int->Prop}{g:Int->Int->Int}
  (rule:∀ (i j:Int) (t u:Tok) (s:Shared) (Q:Value->Shared->Prop) (E:Value->Shared->Prop),C i j->Q (.int (g i j) s.toks) { s with toks:=s.toks+1 }->wpAny (model X.prog X.w) X.A (f (.int i t) (.int j u)) Q E s):
  OpR X f (rI C λ i j=>.int (g i j)):=by
 intro pins s σ H x y v u Q I rx ry h;obtain⟨i,j,rfl,rfl,hc,q⟩:=h;obtain⟨t,rfl⟩:=rx;obtain⟨t',rfl⟩:=ry;exact rule i j t t' s _ _ hc ⟨.int (g i j),H,I.tok _,⟨_,rfl⟩,q⟩
theorem AC {f:Value->Value->Sem Value}{g:Int->Int->Int}
  (rule:∀ (i j:Int) (t u:Tok) (s:Shared) (Q:Value->Shared->Prop) (E:Value->Shared->Prop),Q (.int (g i j) s.toks) { s with toks:=s.toks+1 }->wpAny (model X.prog X.w) X.A (f (.int i t) (.int j u)) Q E s):
  OpR X f (rI0 λ i j=>.int (g i j)):=by
 intro pins s σ H x y v u Q I rx ry h;obtain⟨i,j,rfl,rfl,q⟩:=h;obtain⟨t,rfl⟩:=rx;obtain⟨t',rfl⟩:=ry;exact rule i j t t' s _ _ ⟨.int (g i j),H,I.tok _,⟨_,rfl⟩,q⟩
theorem vd {f:Value->Value->Sem Value}{g:Int->Int->Bool}
  (rule:∀ (i j:Int) (t u:Tok) (s:Shared) (Q:Value->Shared->Prop) (E:Value->Shared->Prop),Q (.bool (g i j)) s->wpAny (model X.prog X.w) X.A (f (.int i t) (.int j u)) Q E s):
  OpR X f (rI0 λ i j=>.bl (g i j)):=by
 intro pins s σ H x y v u Q I rx ry h;obtain⟨i,j,rfl,rfl,q⟩:=h;obtain⟨t,rfl⟩:=rx;obtain⟨t',rfl⟩:=ry;exact rule i j t t' s _ _ ⟨.bl (g i j),H,I,rfl,q⟩
def CMul (i j:Int):Prop:=(-(2 ^ 64)<i/\i<2 ^ 64)\/(-(2 ^ 64)<j/\j<2 ^ 64)
theorem CMul.ok {i j:Int}(h:CMul i j):IntMulOk i j:=by
 rcases h with ⟨h1,h2⟩|⟨h1,h2⟩
 ·exact .of_left (intBits_le_64 h1 h2)
 ·exact .of_right (intBits_le_64 h1 h2)
theorem nN (k:Nat):(0:Int)<=2 ^ k:=by
 rw[two_pow_cast];exact Int.natCast_nonneg _
theorem yP:OpR X (binaryOp .Add) (rI0 λ i j=>.int (i+j)):=AC λ _ _ _ _ _ _ _ q=>add_int q
theorem y0:OpR X (binaryOp .Sub) (rI0 λ i j=>.int (i-j)):=AC λ _ _ _ _ _ _ _ q=>sub_int q
theorem xX:OpR X (binaryOp .Mod) (rI (λ _ j=>0<j) λ i j=>.int (i%j)):=opI λ i j _ _ _ _ _ hc q=>by
 have h1:(0:Int)<j:=hc;exact mod_int' (by omega) (by rw[Int.fmod_eq_emod_of_nonneg i (by omega)];exact q)
theorem zv:OpR X (binaryOp .RShift) (rI (λ _ j=>0<=j) λ i j=>.int (i/2 ^ j.toNat)):=opI λ i j _ _ _ _ _ hc q=>
 rshift_int hc (by rw[Dd i (nN _)];exact q)
theorem unI {f:Value->Sem Value}{g:Int->Int}
  (rule:∀ (i:Int) (t:Tok) (s:Shared) (Q:Value->Shared->Prop) (E:Value->Shared->Prop),Q (.int (g i) s.toks) { s with toks:=s.toks+1 }->wpAny (model X.prog X.w) X.A (f (.int i t)) Q E s):
  UnR X f (rU λ i=>.int (g i)):=by
 intro pins s σ H x v Q I rx h;obtain⟨i,rfl,q⟩:=h;obtain⟨t,rfl⟩:=rx;exact rule i t s _ _ ⟨.int (g i),H,I.tok _,⟨_,rfl⟩,q⟩
theorem yc:UnR X (unaryOp .USub) (rU λ i=>.int (-i)):=unI λ _ _ _ _ _ q=>neg_int q
end
def scal:V->V->Bool
 | .non,.non=>true | .non,.int _=>true | .int _,.non=>true | .non,.bl _=>true | .bl _,.non=>true | .non,.str _=>true | .str _,.non=>true
 | .int _,.int _=>true | .bl _,.bl _=>true | .str _,.str _=>true | .byt _,.byt _=>true
 | .int _,.str _=>true | .str _,.int _=>true | .bl _,.str _=>true | .str _,.bl _=>true
 | _,_=>false
def rEq:R2:=λ x y H Q=>scal x y=true/\Q (.bl (decide (x=y))) H
theorem v7 {i j:Int}:decide (V.int i=V.int j)=(i == j):=by
 rw[CN];simp
theorem zm {i j:Bool}:decide (V.bl i=V.bl j)=(i == j):=by
 rw[CN];simp
theorem wI {i j:Str}:decide (V.str i=V.str j)=(i == j):=by
 rw[CN];simp
theorem vg {i j:Array UInt8}:decide (V.byt i=V.byt j)=(i.toList == j.toList):=by
 rw[CN];cases i;cases j;simp
section
variable {X:Cx}{a b c:Expr}{ta tb tc:TE}{pos:Pos}
theorem bP {pins:List (Addr×Obj)}{σ:St}{H:Hp}{s:Shared}{Q:VK}{k k':Bool}(I:Inv X pins σ H s)(q:Q (.bl k) H)(e:k=k'):EP X pins σ Q (.bool k') s:=by
 subst e;exact⟨.bl k,H,I,rfl,q⟩
theorem xq:OpR X (compareOp .Eq) rEq:=by
 intro pins s σ H x y v u Q I rx ry h;obtain⟨hs,q⟩:=h;cases x with
 | non=>
  cases rx;cases y with
  | non=>cases ry;exact PySem.EqNone.eq_none_none (bP I q (by simp))
  | bl j=>cases ry;exact PySem.EqNone.eq_none_bool (bP I q (by simp))
  | int j=>obtain⟨t',rfl⟩:=ry;exact PySem.EqNone.eq_none_int (bP I q (by simp))
  | str j=>obtain⟨t',rfl⟩:=ry;exact PySem.EqNone.eq_none_str (bP I q (by simp))
  | _=>exact absurd (show false=true from hs) Br
 | bl i=>
  cases rx;cases y with
  | non=>cases ry;exact PySem.EqNone.eq_bool_none (bP I q (by simp))
  | bl j=>cases ry;exact eq_bool (bP I q zm)
  | str j=>obtain⟨t',rfl⟩:=ry;exact PySem.EqMixed.eq_bool_str (bP I q (by simp))
  | _=>exact absurd (show false=true from hs) Br
 | int i=>
  obtain⟨t,rfl⟩:=rx;cases y with
  | non=>cases ry;exact PySem.EqNone.eq_int_none (bP I q (by simp))
  | int j=>obtain⟨t',rfl⟩:=ry;exact eq_int (bP I q v7)
  | str j=>obtain⟨t',rfl⟩:=ry;exact PySem.EqMixed.eq_int_str (bP I q (by simp))
  | _=>exact absurd (show false=true from hs) Br
 | str i=>
  obtain⟨t,rfl⟩:=rx;cases y with
  | non=>cases ry;exact PySem.EqNone.eq_str_none (bP I q (by simp))
  | bl j=>cases ry;exact PySem.EqMixed.eq_str_bool (bP I q (by simp))
  | int j=>obtain⟨t',rfl⟩:=ry;exact PySem.EqMixed.eq_str_int (bP I q (by simp))
  | str j=>obtain⟨t',rfl⟩:=ry;exact eq_str (bP I q wI)
  | _=>exact absurd (show false=true from hs) Br
 | byt i=>
  obtain⟨t,rfl⟩:=rx;cases y with
  | byt j=>obtain⟨t',rfl⟩:=ry;exact PySem.W.eq_bytes (bP I q vg)
  | _=>exact absurd (show false=true from hs) Br
 | _=>cases y <;>exact absurd (show false=true from hs) Br
theorem Ad:OpR X (compareOp .Lt) (rI0 λ i j=>.bl (decide (i<j))):=vd λ _ _ _ _ _ _ _ q=>lt_int q
theorem zP:OpR X (compareOp .LtE) (rI0 λ i j=>.bl (decide (i<=j))):=vd λ _ _ _ _ _ _ _ q=>le_int q
theorem u9:OpR X (compareOp .Gt) (rI0 λ i j=>.bl (decide (j<i))):=vd λ _ _ _ _ _ _ _ q=>gt_int q
theorem Af:OpR X (compareOp .GtE) (rI0 λ i j=>.bl (decide (j<=i))):=vd λ _ _ _ _ _ _ _ q=>ge_int q
theorem OpR.or {f:Value->Value->Sem Value}{r r':R2}(h:OpR X f r)(h':OpR X f r'):OpR X f (λ x y H Q=>r x y H Q\/r' x y H Q):=by
 intro pins s σ H x y v u Q I rx ry q
 rcases q with q|q
 ·exact h pins s σ H x y v u Q I rx ry q
 ·exact h' pins s σ H x y v u Q I rx ry q
theorem nomark (b:Expr){op:CmpOp}(h:autoParam (op≠.In) ZC._auto_1)(h2:autoParam (op≠.NotIn) ZC._auto_1):behindInMarks op b=false:=by
 have e1:(op == CmpOp.In)=false:=by cases op <;>first|rfl|exact absurd rfl h
 have e2:(op == CmpOp.NotIn)=false:=by cases op <;>first|rfl|exact absurd rfl h2
 cases b <;>simp[behindInMarks,e1,e2]
theorem wG {op:CmpOp}{r:R2}(ho:OpR X (compareOp op) r)(ha:PE X a ta)(hb:PE X b tb)(hm:behindInMarks op b=false):PE X (.Compare a [op] [b] pos) (tOp r ta tb):=by
 intro pins s σ H Q I h;exact wpAny_Compare1 (yH ha hb I h λ v u s2 x y H2 I2 rx ry q=>ho pins s2 σ H2 x y v u Q I2 rx ry q) hm
def lF (t:TE):TT:=λ σ H Q=>t σ H λ x H'=>∃ k,x=.bl k/\Q k H'
theorem fH {op:CmpOp}{r:R2}(ho:OpR X (compareOp op) r)(ha:PE X a ta)(hb:PE X b tb)(hm:behindInMarks op b=false):PT X (.Compare a [op] [b] pos) (lF (tOp r ta tb)):=by
 intro pins s σ H Q I h;refine GV (thn (ha pins s σ H _ I h) λ v s1 ⟨x,H1,I1,r1,q1⟩=>thn (hb pins s1 σ H1 _ I1 q1) λ u s2 ⟨y,H2,I2,r2,q2⟩=>
  thn (ho pins s2 σ H2 x y v u _ I2 r1 r2 q2) λ c s3 ⟨z,H3,I3,r3,k,e,q3⟩=>?_) hm
 subst e;cases r3;exact Ff ⟨H3,I3,q3⟩
theorem kR:(sizeLine:Nat)<2 ^ 63:=by rw[EU];decide
theorem vals1 {x:V}{us:List Value}(r:Vals [x] us):∃ u,us=[u]/\RelV x u:=by
 cases r with
 | cons r1 r2=>cases r2;exact⟨_,rfl,r1⟩
theorem vals2 {x y:V}{us:List Value}(r:Vals [x,y] us):∃ u w',us=[u,w']/\RelV x u/\RelV y w':=by
 cases r with
 | cons r1 r2=>
  cases r2 with
  | cons r3 r4=>cases r4;exact⟨_,_,rfl,r1,r3⟩
theorem rD (hc:X.calm=true):cU X (.builtin "max") (λ xs H Q=>∃ i j,xs=[.int i,.int j]/\Q (.int (if j > i then j else i)) H):=by
 intro pins s σ H xs us Q I r h;obtain⟨i,j,rfl,q⟩:=h;obtain⟨u,w',rfl,⟨t,rfl⟩,⟨t',rfl⟩⟩:=vals2 r;refine max_two_ints (I.ok.hd hc) λ h' tk k=>⟨_,H,I.kept k,?_,q⟩
 by_cases hj:j > i
 ·rw[if_pos hj,if_pos hj];exact⟨_,rfl⟩
 ·rw[if_neg hj,if_neg hj];exact⟨_,rfl⟩
end
structure ObjM (h:Heap)(x dx C:Addr)(mA:Str->Option Value):Prop where
 obj:h.get? x=some (Fd C dx)
 ns:h.Ns1 dx mA
 ne:dx≠x
theorem rO {h:Heap}{dx:Addr}{mA:Str->Option Value}(n:h.Ns1 dx mA):∃ od,h.get? dx=some od/\∀ name,Gg name od=some (mA name):=by
 obtain⟨o,es,ep,ho,hd,hk,_,hm⟩:=n;refine⟨o,ho,λ name=>?_⟩;have e:=hm name;unfold nsFind findBy at e;rw[<- Array.find?_toList] at e;unfold Gg;rw[hd];dsimp only
 split
 ·rename_i y q
  rw[q] at e;exact congrArg some e
 ·rename_i q
  rw[q] at e;have a:es.toList.any (·.refKey)=false:=by
   rw[List.any_eq_false];intro y hy;obtain⟨z,t,hkey⟩:=hk y (Array.mem_toList_iff.mp hy);simp[DictEntry.refKey,hkey]
  have a':¬ es.toList.any (·.refKey)=true:=by rw[a];exact Br
  rw[if_neg a'];exact congrArg some e
theorem ObjM.look {h:Heap}{x dx C:Addr}{mA:Str->Option Value}(I:ObjM h x dx C mA):∃ od,PySem.W.InstAt h x (Fd C dx) C (some od)/\∀ name,Gg name od=some (mA name):=
 let ⟨od,ho,hl⟩:=rO I.ns
 ⟨od,⟨I.obj,rfl,rfl,ho⟩,hl⟩
section
variable {prog:Program}{w:World}{A:Around}{E:Value->Shared->Prop}{s:Shared}{K:Er}{x dx C f:Addr}{mA:Str->Option Value}{name:Str}{v:Value}
theorem get_map {expr:Bool}{Q:Value->Shared->Prop}(X:K.In s.heap)(I:ObjM s.heap x dx C mA)(hg:FA K C name=true)(hh:FG K C=true)
  (ha:Ex K (.ref C) name=some none) (hv:mA name=some v) (hv':HJ v=true) (h:Q v { s with toks:=s.toks+1 }):
  wpAny (model prog w) A (getAttr (.ref x) name expr) Q E s:=by
 obtain⟨od,J,hl⟩:=I.look;exact PySem.W.get_value X J (Gd hg).1 (PySem.W.findObj_own hh ha rfl (by rw[hl,hv])) hv' h
theorem ux {pl:Sem Bool}{Q:Value×List Value->Shared->Prop}(X:K.In s.heap)(I:ObjM s.heap x dx C mA)(hg:FA K C name=true)
  (hf:Ex K (.ref C) name=some (some (.ref f))) (ht:FI K (.ref f)=true) (hv:mA name=none) (h:Q (.ref f,[.ref x]) s):
  wpAny (model prog w) A (getMethod (.ref x) name pl) Q E s:=by
 obtain⟨od,J,hl⟩:=I.look;exact PySem.W.method_fn X J (Gd hg).1 (Gd hg).2 hf (beq_iff_eq.mp ht) (by show (Gg name od).map (·.isSome)=some false;rw[hl,hv];rfl) h
theorem wX {ns:List Str}{Q:Unit->Shared->Prop}(X:K.In s.heap)(I:ObjM s.heap x dx C mA)
  (hs:Ex K (.ref C) "__setattr__"=some (some (.builtin "object.__setattr__"))) (hp:FZ K C=true) (ht:GL K C name=some none) (hh:FG K C=true)
  (hw:Hm mA ns) (hsz:ns.length<=sizeLine)
  (h:∀ h',ObjM h' x dx C (λ y=>if y=name then some v else mA y)->FH dx s.heap h'->Q () { s with heap:=h',toks:=s.toks+2 }):
  wpAny (model prog w) A (setAttr (.ref x) name v) Q E s:=by
 obtain⟨od,J,hl⟩:=I.look;refine PySem.W.set_plain X J hs (PySem.W.osa_open (s:={ s with toks:=s.toks+1 }) (r:=none) X J hp ht λ b=>?_);obtain⟨cd,hc,hd'⟩:=PySem.W.any_some hh;have hx:s.heap.get? x=some ⟨.ref C,some dx,.plain,#[]⟩:=I.obj;refine Es (Eu (Es (Es (wpAny_loadPart hx (Es (PySem.W.Looks.here (s:={ s with toks:=s.toks+1 }) (PySem.W.looks_clsIn X hc) ?_))))));rw[hd'];refine Eu (a:=some dx) (Es (Eu (Es ?_)));refine wpAny_nsSet1 (s:={ s with toks:=s.toks+1 }) I.ns λ h' hn2 hs2=>?_
 obtain⟨oD,esD,epD,hoD,hdD,hcD⟩:=hn2.count (PySem.Within.cons name v hw);refine Es (wpAny_lookBehind hoD (by rw[hdD];exact pastItsLine_dict (BN hcD (by rw[A8];omega))) ?_);exact Eu (h _ ⟨(hs2.2 _ (Ne.symm I.ne)).trans I.obj,hn2,I.ne⟩ hs2)
theorem uV {R:Result->Shared->Prop}{vs:List Value}{kw:List (Str×Value)}(X:K.In s.heap)(hm:F7 K C=true)
  (hi:Ex K (.ref C) "__init__"=some (some (.ref f))) (hf:PySem.W.typeIn K (.ref f)=some (.type "function"))
  (h:codeAny (model prog w) (A.under (.builtin "type.__call__" ⟨.ref C::vs,kw⟩)) (.call (.ref f) ⟨.ref (s.heap.objs.size+1)::vs,kw⟩) (PySem.W.InitBack (s.heap.objs.size+1) R)
   { s with heap:=(s.heap.push E6).push (Fd C s.heap.objs.size) }):
  codeAny (model prog w) A (.call (.ref C) ⟨vs,kw⟩) R s:=by
 obtain⟨hh,g,d,t,os⟩:=s;exact PySem.W.make_core (PySem.W.makes_of X hm) (PySem.W.looks_findIn X hi) (λ self=>PySem.W.bind_fn X self hf) (.inl rfl) h
end
def aA (f:Str)(v:V):List (Str×V)->List (Str×V)
 | []=>[(f,v)]
 | (g,x)::r=>if g=f then (g,v)::r else (g,x)::aA f v r
theorem gG (f g:Str)(v:V):∀ fs:List (Str×V),(aA f v fs).lookup g=if g=f then some v else fs.lookup g
 | []=>by
  show List.lookup g [(f,v)]=_
  by_cases h:g=f
  ·have hb:(g == f)=true:=beq_iff_eq.mpr h
   simp only[List.lookup,hb,if_pos h]
  ·have hb:(g == f)=false:=beq_eq_false_iff_ne.mpr h
   simp only[List.lookup,hb,if_neg h]
 | (k,x)::r=>by
  have ih:=gG f g v r;rw[show aA f v ((k,x)::r)=(if k=f then (k,v)::r else (k,x)::aA f v r) from rfl];by_cases hk:k=f
  ·rw[if_pos hk]
   by_cases h:g=k
   ·have hb:(g == k)=true:=beq_iff_eq.mpr h
    simp only[List.lookup,hb,if_pos (h.trans hk)]
   ·have hb:(g == k)=false:=beq_eq_false_iff_ne.mpr h
    simp only[List.lookup,hb,if_neg (λ e:g=f=>h (e.trans hk.symm))]
  ·rw[if_neg hk]
   by_cases h:g=k
   ·have hb:(g == k)=true:=beq_iff_eq.mpr h
    simp only[List.lookup,hb,if_neg (λ e:g=f=>hk (h.symm.trans e))]
   ·have hb:(g == k)=false:=beq_eq_false_iff_ne.mpr h
    simp only[List.lookup,hb];exact ih
theorem gd (f:Str)(v:V):∀ fs:List (Str×V),f∈(aA f v fs).map (·.1)/\∀ g,g∈fs.map (·.1)->g∈(aA f v fs).map (·.1)
 | []=>⟨by simp[aA],λ g h=>by simp at h⟩
 | (k,x)::r=>by
  obtain⟨i1,i2⟩:=gd f v r;rw[show aA f v ((k,x)::r)=(if k=f then (k,v)::r else (k,x)::aA f v r) from rfl];by_cases hk:k=f
  ·rw[if_pos hk]
   subst hk;exact⟨by simp,λ g h=>by simpa using h⟩
  ·rw[if_neg hk]
   refine⟨?_,λ g h=>?_⟩
   ·rw[A2]
    exact A5 _ i1
   ·rw[A2] at h ⊢
    rcases List.mem_cons.mp h with e|e
    ·exact List.mem_cons.mpr (.inl e)
    ·exact A5 _ (i2 g e)
theorem gM (f:Str)(v:V):∀ fs:List (Str×V),(aA f v fs).length<=fs.length+1
 | []=>by simp[aA]
 | (k,x)::r=>by
  have ih:=gM f v r;rw[show aA f v ((k,x)::r)=(if k=f then (k,v)::r else (k,x)::aA f v r) from rfl];by_cases hk:k=f
  ·rw[if_pos hk,A8,A8];omega
  ·rw[if_neg hk,A8,A8];omega
theorem RelO.some_of {v:V}{o:Option Value}(r:RelO (some v) o):∃ u,o=some u/\RelV v u:=by
 cases o with
 | none=>exact(show False from r).elim
 | some u=>exact⟨u,rfl,r⟩
theorem RelO.none_of {o:Option Value}(r:RelO none o):o=none:=by
 cases o with
 | none=>rfl
 | some u=>exact(show False from r).elim
theorem qO {v:V}{u:Value}(r:RelV v u):HJ u=true:=by
 cases v with
 | non=>cases (show u=EG from r);rfl
 | bl b=>cases (show u=G5 b from r);rfl
 | int i=>obtain⟨t,e⟩:=(show ∃ t,u=Fh i t from r);cases e;rfl
 | str x=>obtain⟨t,e⟩:=(show ∃ t,u=Hj x t from r);cases e;rfl
 | byt b=>obtain⟨t,e⟩:=(show ∃ t,u=Value.bytes b t from r);cases e;rfl
 | flt b=>obtain⟨t,e⟩:=(show ∃ t,u=Value.float b t from r);cases e;rfl
 | ref a=>cases (show u=EA a from r);rfl
 | ty n=>cases (show u=FW n from r);rfl
section
variable {P:Program}{w:World}{H H':Hp}{h h':Heap}{a C dx:Addr}{fs fs':List (Str×V)}
theorem ki (hok:HOk P w H h)(e:H a=some (.ins C dx fs)):∃ mA,ObjM h a dx C mA/\(∀ f,RelO (fs.lookup f) (mA f))/\Hm mA (fs.map (·.1))/\fs.length<=1000/\H dx=some (.own a):=by
 obtain⟨d,z,ne,ob,mA,n,r,q⟩:=(show ObjOk P w H h a (.ins C dx fs) from hok a _ e);exact⟨mA,⟨ob,n,ne⟩,r,q,z,d⟩
end
structure Cls (K:Er)(C:Addr):Prop where
 pg:FA K C HR=true
 hd:FG K C=true
 po:FZ K C=true
 sa:Ex K (.ref C) "__setattr__"=some (some (.builtin "object.__setattr__"))
theorem Cls.get {K:Er}{C:Addr}(c:Cls K C)(f:Str):FA K C f=true:=c.pg
def NoAttr (K:Er)(C:Addr)(f:Str):Prop:=Ex K (.ref C) f=some none
theorem NoAttr.taker {K:Er}{C:Addr}{f:Str}(n:NoAttr K C f):GL K C f=some none:=by
 unfold GL;rw[show Ex K (.ref C) f=some none from n];rfl
structure Meth (K:Er)(C:Addr)(m:Str)(f:Addr):Prop where
 at_:Ex K (.ref C) m=some (some (.ref f))
 fn:FI K (.ref f)=true
 kp:E0 K (.ref f)=true
section
variable {X:Cx}{pins:List (Addr×Obj)}{σ:St}{H:Hp}{s:Shared}{a C dx:Addr}{fs:List (Str×V)}{f:Str}{v:V}{A:Around}{E:Value->Shared->Prop}
theorem iq {b:Bool}{Q:Value->Shared->Prop}(I:Inv X pins σ H s)(e:H a=some (.ins C dx fs))(c:Cls X.K C)(n:NoAttr X.K C f)(l:fs.lookup f=some v)
  (h:∀ u s',Inv X pins σ H s'->RelV v u->Q u s'):wpAny (model X.prog X.w) A (getAttr (.ref a) f b) Q E s:=by
 obtain⟨mA,O,r,_,_,_⟩:=ki I.hok e;obtain⟨u,hu,ru⟩:=RelO.some_of (v:=v) (o:=mA f) (by rw[<- l];exact r f);exact get_map I.kIn O (c.get f) c.hd n hu (qO ru) (h u _ (I.tok _) ru)
theorem iG {m:Str}{g:Addr}{pl:Sem Bool}{Q:Value×List Value->Shared->Prop}(I:Inv X pins σ H s)(e:H a=some (.ins C dx fs))(c:Cls X.K C)(k:Meth X.K C m g)(l:fs.lookup m=none)
  (h:Q (.ref g,[.ref a]) s):wpAny (model X.prog X.w) A (getMethod (.ref a) m pl) Q E s:=by
 obtain⟨mA,O,r,_,_,_⟩:=ki I.hok e;have hn:mA m=none:=RelO.none_of (by rw[<- l];exact r m);exact ux I.kIn O (c.get m) k.at_ k.fn hn h
theorem iE {y:V}{u:Value}{Q:Unit->Shared->Prop}(I:Inv X pins σ H s)(e:H a=some (.ins C dx fs))(c:Cls X.K C)(n:NoAttr X.K C f)(hl:fs.length<1000)(ry:RelV y u)
  (h:∀ s',Inv X pins σ (upd H a (.ins C dx (aA f y fs))) s'->Q () s'):wpAny (model X.prog X.w) A (setAttr (.ref a) f u) Q E s:=by
 obtain⟨mA,O,r,wi,_,ho⟩:=ki I.hok e;have hz:(fs.map (·.1)).length<=sizeLine:=by rw[A4,EU];omega
 refine wX I.kIn O c.sa c.po n.taker c.hd wi hz λ h' O' sb=>h _ ?_
 have hd:∃ o,h'.get? dx=some o:=let ⟨o,_,_,e',_⟩:=O'.ns;⟨o,e'⟩
 refine I.write (x:=a) (e:=dx) (by rw[e];exact Fk) (.inr ho) (λ b q hb z=>(sb.2 b hb).trans z) hd ?_
 refine⟨by rw[ag O.ne];exact ho,?_,O.ne,O'.obj,_,O'.ns,λ g=>?_,λ g hg=>?_⟩
 ·have:=gM f y fs;omega
 ·show RelO ((aA f y fs).lookup g) (if g=f then some u else mA g)
  rw[gG];by_cases q:g=f
  ·rw[if_pos q,if_pos q];exact ry
  ·rw[if_neg q,if_neg q];exact r g
 ·by_cases q:g=f
  ·rw[q];exact(gd f y fs).1
  ·refine(gd f y fs).2 g (wi g λ z=>hg ?_)
   show (if g=f then some u else mA g)=none
   rw[if_neg q];exact z
theorem Inv.made (I:Inv X pins σ H s):Inv X pins σ (upd (upd H s.heap.objs.size (.own (s.heap.objs.size+1))) (s.heap.objs.size+1) (.ins C s.heap.objs.size []))
  { s with heap:=(s.heap.push E6).push (Fd C s.heap.objs.size) }:=by
 have e1:(s.heap.push E6).get? s.heap.objs.size=some E6:=Ey s.heap rfl;have e2:((s.heap.push E6).push (Fd C s.heap.objs.size)).get? (s.heap.objs.size+1)=some (Fd C s.heap.objs.size):=by
  have:=Ey (s.heap.push E6) (o:=Fd C s.heap.objs.size) rfl
  rwa [Fy] at this
 have e3:(s.heap.push E6).Ns s.heap.objs.size (λ _=>none):=⟨E6,#[],_,e1,rfl,(λ e he=>absurd he (by simp)),λ _=>rfl⟩;have I1:=I.laid (a:=s.heap.objs.size) (o:=.own (s.heap.objs.size+1)) (h':=s.heap.push E6) (t':=s.toks) (λ b u q=>Et _ q) (Bh _) ⟨_,e1⟩;refine I1.laid (a:=s.heap.objs.size+1) (o:=.ins C s.heap.objs.size []) (t':=s.toks) (λ b u q=>Et _ q) (Dq (Fy _ _)) ?_
 have ne:s.heap.objs.size≠s.heap.objs.size+1:=Bl (BF _);refine⟨by rw[ag ne,ai],BV _,ne,e2,λ _=>none,(Heap.Ns1.of_empty e3).at λ o q=>Et _ q,λ _=>Fk,λ y hy=>absurd rfl hy⟩
theorem vR {prog:Program}{w:World}{env:Env}{e:Expr}{f:Str}{pos:Pos}{s:Shared}{Q:Value->Shared->Prop}(hb:attributeBase e f env (eval e env)=eval e env)
  (h:wpAny (model prog w) A (eval e env) (λ o s₁=>wpAny (model prog w) A (getAttr o f true) Q E s₁) E s):wpAny (model prog w) A (eval (.Attribute e f pos) env) Q E s:=
 Attribute_any_ h (by rw[arm_eval_Attribute,hb])
end
def gO (K:Er)(ta:TE)(f:Str):TE:=λ σ H Q=>ta σ H λ x H1=>∃ a C dx fs v,x=.ref a/\H1 a=some (.ins C dx fs)/\Cls K C/\NoAttr K C f/\fs.lookup f=some v/\Q v H1
def mD (K:Er)(ta tv:TE)(f:Str):TS:=λ D σ H=>tv σ H λ y H1=>ta σ H1 λ x H2=>∃ a C dx fs,x=.ref a/\H2 a=some (.ins C dx fs)/\Cls K C/\NoAttr K C f/\fs.length<1000 /\
 D.nx σ (upd H2 a (.ins C dx (aA f y fs)))
def AD (X:Cx)(op:Operator)(rd:V->V->Hp->VK->Prop):Prop:=
 ∀ (pins:List (Addr×Obj)) (s:Shared) (σ:St) (H:Hp) (x y:V) (u v:Value) (Q:VK),Inv X pins σ H s->RelV x u->RelV y v->rd x y H Q->wpAny (model X.prog X.w) X.A (inplaceOp op u v) (EP X pins σ Q) X.xe s
def oF (K:Er)(ta tv:TE)(rd:V->V->Hp->VK->Prop)(f:Str):TS:=λ D σ H=>ta σ H λ x H1=>∃ a C dx fs v,x=.ref a/\H1 a=some (.ins C dx fs)/\Cls K C/\NoAttr K C f/\fs.lookup f=some v /\
 tv σ H1 λ y H2=>rd v y H2 λ z H3=>∃ dx' fs',H3 a=some (.ins C dx' fs')/\fs'.length<1000/\D.nx σ (upd H3 a (.ins C dx' (aA f z fs')))
section
variable {X:Cx}{o e value:Expr}{f:Str}{pos pos' tpos:Pos}{ta tv:TE}
theorem cu (he:PE X e ta)(hb:attributeBase e f X.env (eval e X.env)=eval e X.env):PE X (.Attribute e f pos) (gO X.K ta f):=by
 intro pins s σ H Q I h;refine vR hb (thn (he pins s σ H _ I h) λ u s1 ⟨x,H1,I1,rx,a,C,dx,fs,v,ex,ea,c,n,l,q⟩=>?_);subst ex;obtain rfl:u=EA a:=rx;exact iq I1 ea c n l λ u' s2 I2 ru=>⟨v,H1,I2,ru,q⟩
theorem eV (ha:PE X o ta)(hv:PE X value tv)(hs:swapsWith value (some (.Attribute o f pos')) pos.line X.env=pure false):PS X (.Assign [.Attribute o f pos'] value pos) (mD X.K ta tv f):=by
 intro pins s σ H D I h;refine plainObj_wpAny_Assign_Attribute (thn (hv pins s σ H _ I h) λ u s1 ⟨y,H1,I1,ry,q⟩=>thn (ha pins s1 σ H1 _ I1 q) λ ov s2 ⟨x,H2,I2,rx,a,C,dx,fs,ex,ea,c,n,l,q2⟩=>?_) hs;subst ex;obtain rfl:ov=EA a:=rx;exact iE I2 ea c n l ry λ s3 I3=>⟨σ,_,I3,q2⟩
theorem qX {op:Operator}{rd:V->V->Hp->VK->Prop}(ha:PE X o ta)(hv:PE X value tv)(hop:AD X op rd):PS X (.AugAssign (.Attribute o f tpos) op value pos) (oF X.K ta tv rd f):=by
 intro pins s σ H D I h;refine wpAny_AugAssign_AttributeAny (thn (ha pins s σ H _ I h) λ ov s1 ⟨x,H1,I1,rx,a,C,dx,fs,v,ex,ea,c,n,l,q⟩=>?_);subst ex;obtain rfl:ov=EA a:=rx;refine iq I1 ea c n l λ u s2 I2 ru=>thn (hv pins s2 σ H1 _ I2 q) λ w3 s3 ⟨y,H2,I3,ry,q3⟩=>thn (hop pins s3 σ H2 v y u w3 _ I3 ru ry q3) λ w4 s4 ⟨z,H3,I4,rz,dx',fs',ea',l',q4⟩=>?_
 exact iE I4 ea' c n l' rz λ s5 I5=>⟨σ,_,I5,q4⟩
def zI:V->V->Hp->VK->Prop:=λ x y H Q=>∃ i j,x=.int i/\y=.int j/\Q (.int (i+j)) H
theorem yO:AD X .Add zI:=by
 rintro pins s σ H x y u v Q I rx ry ⟨i,j,rfl,rfl,q⟩
 obtain⟨t,rfl⟩:=(show ∃ t,u=Fh i t from rx);obtain⟨t',rfl⟩:=(show ∃ t',v=Fh j t' from ry);exact PyProof.Rows.iadd_int ⟨.int (i+j),H,I.tok _,⟨_,rfl⟩,q⟩
end
structure Room (k:Nat)(A:Around):Prop where
 hd:A.handled=none
 dp:A.depth+3*k+5<recursionLimit
 un:A.units+16*k+200<cLine
theorem Room.mono {j k:Nat}{A:Around}(r:Room k A)(h:j<=k):Room j A:=⟨r.hd,by have:=r.dp;omega,by have:=r.un;omega⟩
theorem Room.deeper {k:Nat}{A:Around}(r:Room (k+1) A)(env:Env):Room k (A.deeper env):=
 ⟨r.hd,by have:=r.dp;show A.depth+1+3*k+5<_;omega,by have:=r.un;show A.units+3+16*k+200<_;omega⟩
theorem ni {A:Around}{C:Addr}{us:List Value}{kw:List (Str×Value)}:(A.under (.builtin "type.__call__" ⟨.ref C::us,kw⟩)).depth=A.depth+1:=by
 first|rfl|simp[Hr,Code.weight,Code.isCreation,Code.isGuard,Code.isCaller,Code.frames,Ht,guardIds]
theorem m4 {A:Around}{C:Addr}{us:List Value}{kw:List (Str×Value)}:(A.under (.builtin "type.__call__" ⟨.ref C::us,kw⟩)).units=A.units+1:=by
 first|rfl|simp[Hr,Code.cUnits,Code.frames,Ht]
theorem Room.make {k:Nat}{A:Around}(r:Room (k+1) A)(C:Addr)(us:List Value)(kw:List (Str×Value)):Room k (A.under (.builtin "type.__call__" ⟨.ref C::us,kw⟩)):=
 ⟨r.hd,by have:=r.dp;rw[ni];omega,by have:=r.un;rw[m4];omega⟩
theorem Room.depth {k:Nat}{A:Around}(r:Room k A):A.depth<recursionLimit:=by have:=r.dp;omega
theorem Room.units {k:Nat}{A:Around}(r:Room k A):A.units+64<cLine:=by have:=r.un;omega
def bR:TA:=λ _ H Q=>Q [] H
def aZ (ta:TE)(tr:TA):TA:=λ σ H Q=>ta σ H λ x H1=>tr σ H1 λ xs H2=>Q (x::xs) H2
section
variable {X:Cx}{e:Expr}{es:List Expr}{te:TE}{t:TA}{pos:Pos}
theorem az:PA X [] bR:=λ _ _ _ _ H Q I h=>Gx ⟨[],H,I,.nil,h⟩
theorem ar (ha:PE X e te)(hr:PA X es t)(hs:autoParam (starEach (e::es) X.env=(false,eval e X.env)::starEach es X.env) ZF._auto_1):PA X (e::es) (aZ te t):=by
 intro pos pins s σ H Q I h;rw[hs];show wpAny _ _ (spliced ((false,eval e X.env)::backTo pos (starEach es X.env))) _ _ s
 refine Gm (thn (ha pins s σ H _ I h) λ u s1 ⟨x,H1,I1,r1,q1⟩=>?_);exact thn (hr pos pins s1 σ H1 _ I1 q1) λ us s2 ⟨xs,H2,I2,r2,q2⟩=>⟨x::xs,H2,I2,.cons r1 r2,q2⟩
def wo (t:TA):TE:=λ σ H Q=>t σ H λ xs H1=>xs.length<=sizeLine/\∀ p,H1 p=none->Q (.ref p) (upd H1 p (.tup xs))
def lE (t:TA):TE:=λ σ H Q=>t σ H λ xs H1=>xs.length<=sizeLine/\∀ p,H1 p=none->Q (.ref p) (upd H1 p (.lst xs))
theorem kU {x1}(h:PA X es t):PE X (.Tuple es x1 pos) (wo t):=by
 intro pins s σ H Q I hq;refine wpAny_Tuple_spliced (thn (h pos pins s σ H _ I hq) λ us s1 ⟨xs,H1,I1,r,z,q⟩=>⟨by rw[<- r.length];exact z,?_⟩);have hf:H1 s1.heap.objs.size=none:=I1.hok.fresh (Bh _);refine⟨.ref s1.heap.objs.size,upd H1 s1.heap.objs.size (.tup xs),I1.laid (t':=s1.toks) (λ b u e=>Et _ e) (Bh _) ?_,rfl,q _ hf⟩;exact⟨z,us,r,⟨_,Ey _ rfl,rfl,_,rfl⟩⟩
theorem dJ (h:PA X es t):PE X (.List es pos) (lE t):=by
 intro pins s σ H Q I hq;refine wpAny_List_spliced (thn (h pos pins s σ H _ I hq) λ us s1 ⟨xs,H1,I1,r,z,q⟩=>⟨by rw[<- r.length];exact z,?_⟩);have hf:H1 s1.heap.objs.size=none:=I1.hok.fresh (Bh _);refine⟨.ref s1.heap.objs.size,upd H1 s1.heap.objs.size (.lst xs),I1.laid (t':=s1.toks) (λ b u e=>Et _ e) (Bh _) ?_,rfl,q _ hf⟩;exact⟨z,us,0,r,Ey _ rfl⟩
end
abbrev Sp:=List V->Hp->VK->XK->Prop
abbrev CXT:=List Env->Hp->Shared->XK->Value->Shared->Prop
structure Env0 (P:Program)(w:World)(K:Er)(mg:Str->Option Value)(base:Heap)(A:Around)(outer:List Env)(s:Shared)(H:Hp):Prop where
 frames:A.frames=some outer
 mod:Mod K mg base
 bs:∀ b o,base.get? b=some o->s.heap.get? b=some o/\H b=none
 bsz:base.objs.size<=s.heap.objs.size
 funs:s.heap.FunFrames base outer
 frf:∀ b∈frs outer,H b=none
 hok:HOk P w H s.heap
 bare:AllBare s.gens
def CE (outer:List Env)(P:Program)(w:World)(H:Hp)(s:Shared)(Q:VK)(u:Value)(s':Shared):Prop:=
 ∃ v H',s'.os=s.os/\AllBare s'.gens/\Un (frs outer) [] H H' s.heap s'.heap/\HOk P w H' s'.heap/\RelV v u/\Q v H'
def CR (CX:CXT)(outer:List Env)(P:Program)(w:World)(H:Hp)(s:Shared)(Q:VK)(E:XK)(r:Result)(s':Shared):Prop:=
 match r with
 | .ok (.ret u)=>CE outer P w H s Q u s'
 | .ok _=>False
 | .error e=>CX outer H s E e s'
structure FnOk (P:Program)(w:World)(K:Er)(mg:Str->Option Value)(base:Heap)(CX:CXT)(k:Nat)(f:Addr)(fd:FuncData)(ps:List Str)(sp:Sp):Prop where
 len:∀ vs H Q E,sp vs H Q E->vs.length=ps.length
 run:∀ (A:Around) (outer:List Env) (s:Shared) (H:Hp) (args:Args) (us:List Value) (vs:List V) (Q:VK) (E:XK),Room k A->Env0 P w K mg base A outer s H->BindsTo s fd args (ps.zip us)->Vals vs us->sp vs H Q E ->
  codeAny (model P w) A (.call (.ref f) args) (CR CX outer P w H s Q E) s
theorem FnOk.mono {P:Program}{w:World}{K:Er}{mg:Str->Option Value}{base:Heap}{CX:CXT}{j k:Nat}{f:Addr}{fd:FuncData}{ps:List Str}{sp:Sp}(F:FnOk P w K mg base CX j f fd ps sp)(h:j<=k):
  FnOk P w K mg base CX k f fd ps sp:=⟨F.len,λ A outer s H args us vs Q E hr=>F.run A outer s H args us vs Q E (hr.mono h)⟩
theorem Env0.make {P:Program}{w:World}{K:Er}{mg:Str->Option Value}{base:Heap}{A:Around}{outer:List Env}{s:Shared}{H:Hp}(e:Env0 P w K mg base A outer s H)(C:Addr)(us:List Value)(kw:List (Str×Value)):
  Env0 P w K mg base (A.under (.builtin "type.__call__" ⟨.ref C::us,kw⟩)) outer s H:=⟨by first|exact e.frames|(simpa[Hr,Code.envs,Ht,pushEnvs] using e.frames),e.mod,e.bs,e.bsz,e.funs,e.frf,e.hok,e.bare⟩
section
variable {X:Cx}{pins:List (Addr×Obj)}{σ:St}{H:Hp}{s s':Shared}
theorem Inv.env0 (I:Inv X pins σ H s):Env0 X.prog X.w X.K X.mg X.base X.A X.stack s H:=
 ⟨I.ok.frames,I.ok.mod,I.bs,BN I.ok.bsz I.sz,I.stack,I.stkFree,I.hok,I.bare⟩
theorem Inv.after {Q:VK}{u:Value}(I:Inv X pins σ H s)(h:CE X.stack X.prog X.w H s Q u s'):EP X pins σ Q u s':=by
 obtain⟨v,H',os,bare,un,hok,r,q⟩:=h;obtain⟨hh,g,d,t,os'⟩:=s';obtain rfl:os'=s.os:=os;exact⟨v,H',I.call (h':=hh) (g':=g) (d':=d) (t':=t) (ch:=[]) un hok bare (λ b z=>absurd z (by simp)),r,q⟩
end
def pf (C:Addr)(m:Str)(sp:Sp)(dvs:List V)(E:XK)(ta:TE)(t:TA):TE:=λ σ H Q=>ta σ H λ x H1=>∃ a dx fs,x=.ref a/\H1 a=some (.ins C dx fs)/\fs.lookup m=none /\
 t σ H1 λ vs H2=>sp (x::(vs++dvs)) H2 Q E
def oJ (C:Addr)(sp:Sp)(dvs:List V)(E:XK)(t:TA):TE:=λ σ H Q=>t σ H λ vs H1=>∀ x dx,H1 x=none->H1 dx=none->dx≠x ->
 sp (.ref x::(vs++dvs)) (upd (upd H1 dx (.own x)) x (.ins C dx [])) (λ v H2=>v=.non/\Q (.ref x) H2) E
def Binds (K:Er)(fd:FuncData)(ps:List Str)(ds:List Value):Prop:=
 ∀ (s:Shared) (us:List Value),K.In s.heap->(us++ds).length=ps.length->BindsTo s fd ⟨us,[]⟩ (ps.zip (us++ds))
theorem Binds.all {K:Er}{fd:FuncData}{ps:List Str}(h:∀ us:List Value,us.length=ps.length->bindArgs fd ⟨us,[]⟩=pure (ps.zip us)):Binds K fd ps []:=λ s us _ hl=>by
 rw[B6] at hl ⊢;exact .of_eq (h us hl)
def fT (CX:CXT)(X:Cx)(E:XK):Prop:=∀ (pins:List (Addr×Obj)) (σ:St) (H:Hp) (s:Shared) (e:Value) (s':Shared),Inv X pins σ H s->CX X.stack H s E e s'->X.xe e s'
section
variable {X:Cx}{CX:CXT}{k:Nat}{f C:Addr}{fd:FuncData}{ps:List Str}{sp:Sp}{dvs:List V}{ds:List Value}{E:XK}{x m:Str}{p pos apos:Pos}{e o:Expr}{es:List Expr}{ta:TE}{t:TA}
theorem uY {pins:List (Addr×Obj)}{σ:St}{H:Hp}{s:Shared}{Q:VK}{us:List Value}{vs:List V}(F:FnOk X.prog X.w X.K X.mg X.base CX k f fd ps sp)(hr:Room k X.A)(hb:Binds X.K fd ps ds)(hd:Vals dvs ds)(hx:fT CX X E)
  (I:Inv X pins σ H s) (r:Vals vs us) (h:sp (vs++dvs) H Q E):wpAny (model X.prog X.w) X.A (call (.ref f) us) (EP X pins σ Q) X.xe s:=by
 have r2:Vals (vs++dvs) (us++ds):=r.append hd;have hl:(us++ds).length=ps.length:=by rw[<- r2.length];exact F.len _ _ _ _ h
 refine G6 (FJ (F.run X.A X.stack s H ⟨us,[]⟩ (us++ds) (vs++dvs) Q E hr I.env0 (hb s us I.kIn hl) r2 h) λ r s' hq=>?_);cases r with
 | error e=>exact hx pins σ H s e s' I hq
 | ok fl=>
  cases fl with
  | ret u=>exact I.after hq
  | next=>exact EV hq
  | brk=>exact EV hq
  | cont=>exact EV hq
theorem xh {pl:Sem Bool}(he:PE X o ta)(c:Cls X.K C)(hm:Meth X.K C m f)(F:FnOk X.prog X.w X.K X.mg X.base CX k f fd ps sp)(hr:Room k X.A)(hb:Binds X.K fd ps ds)(hd:Vals dvs ds)(hx:fT CX X E)(ha:PA X (e::es) t)
  (hst:autoParam (starEach (e::es) X.env=(false,eval e X.env)::starEach es X.env) ZF._auto_1) (hpl:autoParam ((backTo pos (starEach es X.env)).any (·.1)=false) ZF._auto_1)
  (ht:autoParam (eval (.Call (.Attribute o m apos) (e::es) [] pos) X.env=(do
   let ov <- eval o X.env
   standAt apos.atName
   let (f,first) <- holding [ov] (getMethod ov m pl)
   callWith pos f first (backTo pos (starEach (e::es) X.env)) (backToKw pos (keywordEach [] X.env)))) ZF._auto_1):
  PE X (.Call (.Attribute o m apos) (e::es) [] pos) (pf C m sp dvs E ta t):=by
 intro pins s σ H Q I h;refine GW (pl:=pl) (thn (he pins s σ H _ I h) λ u s1 ⟨x,H1,I1,rx,a,dx,fs,ex,ea,l,q⟩=>?_) ht;subst ex;obtain rfl:u=EA a:=rx;refine iG I1 ea c hm l ?_
 refine Gn (first:=[.ref a]) (h₀:=X.base) I.ok.mod.kin hm.kp (thn (ha pos pins s1 σ H1 _ I1 q) λ us s2 ⟨vs,H2,I2,r,q2⟩=>⟨I2.kIn,?_⟩) hst hpl;exact uY (us:=.ref a::us) (vs:=.ref a::vs) F hr hb hd hx I2 (.cons rfl r) q2
theorem tX {pl:Sem Bool}(he:PE X o ta)(c:Cls X.K C)(hm:Meth X.K C m f)(F:FnOk X.prog X.w X.K X.mg X.base CX k f fd ps sp)(hr:Room k X.A)(hb:Binds X.K fd ps ds)(hd:Vals dvs ds)(hx:fT CX X E)
  (ht:autoParam (eval (.Call (.Attribute o m apos) [] [] pos) X.env=(do
   let ov <- eval o X.env
   standAt apos.atName
   let (f,first) <- holding [ov] (getMethod ov m pl)
   callWith pos f first (backTo pos (starEach [] X.env)) (backToKw pos (keywordEach [] X.env)))) ZF._auto_1):
  PE X (.Call (.Attribute o m apos) [] [] pos) (pf C m sp dvs E ta bR):=by
 intro pins s σ H Q I h;refine GW (pl:=pl) (thn (he pins s σ H _ I h) λ u s1 ⟨x,H1,I1,rx,a,dx,fs,ex,ea,l,q⟩=>?_) ht;subst ex;obtain rfl:u=EA a:=rx;refine iG I1 ea c hm l ?_
 exact PySem.W.callWith_K0 (first:=[.ref a]) I1.kIn hm.kp (uY (us:=[.ref a]) (vs:=[.ref a]) F hr hb hd hx I1 (.cons rfl .nil) q)
structure Mk (K:Er)(C f:Addr):Prop where
 makes:F7 K C=true
 init:Ex K (.ref C) "__init__"=some (some (.ref f))
 fn:FI K (.ref f)=true
 kp:E0 K (.ref C)=true
theorem uF {pins:List (Addr×Obj)}{σ:St}{H:Hp}{s:Shared}{Q:VK}{us:List Value}{vs:List V}(M:Mk X.K C f)(F:FnOk X.prog X.w X.K X.mg X.base CX k f fd ps sp)(hr:Room (k+1) X.A)(hb:Binds X.K fd ps ds)(hd:Vals dvs ds)
  (hx:fT CX X E) (I:Inv X pins σ H s) (r:Vals vs us)
  (h:∀ x dx,H x=none->H dx=none->dx≠x->sp (.ref x::(vs++dvs)) (upd (upd H dx (.own x)) x (.ins C dx [])) (λ v H2=>v=.non/\Q (.ref x) H2) E):
  wpAny (model X.prog X.w) X.A (call (.ref C) us) (EP X pins σ Q) X.xe s:=by
 have hq:=h (s.heap.objs.size+1) s.heap.objs.size (I.hok.fresh (Ct _)) (I.hok.fresh (Bh _)) (Bl (BF _));have I2:=Inv.made (C:=C) I;have r2:Vals (V.ref (s.heap.objs.size+1)::(vs++dvs)) (EA (s.heap.objs.size+1)::(us++ds)):=.cons rfl (r.append hd);have hl:(EA (s.heap.objs.size+1)::us++ds).length=ps.length:=by
  have e:=r2.length;rw[F.len _ _ _ _ hq] at e;exact e.symm
 refine G6 (uV (f:=f) I.kIn M.makes M.init (beq_iff_eq.mp M.fn) (FJ (F.run _ X.stack _ _ ⟨EA (s.heap.objs.size+1)::us,[]⟩ (EA (s.heap.objs.size+1)::(us++ds)) _ _ E (hr.make C us [])
  (I2.env0.make C us []) (hb _ (EA (s.heap.objs.size+1)::us) I2.kIn hl) r2 hq) λ r s' hq'=>?_))
 cases r with
 | error e=>exact hx pins σ _ _ e s' I2 hq'
 | ok fl=>
  cases fl with
  | ret u=>
   obtain⟨v,H',I3,rv,ev,q3⟩:=I2.after hq';subst ev;exact⟨rv,⟨V.ref (s.heap.objs.size+1),H',I3,rfl,q3⟩⟩
  | next=>exact EV hq'
  | brk=>exact EV hq'
  | cont=>exact EV hq'
theorem kS (M:Mk X.K C f)(F:FnOk X.prog X.w X.K X.mg X.base CX k f fd ps sp)(hr:Room (k+1) X.A)(hg:Gl X x)(hm:X.mg x=some (.ref C))(hb:Binds X.K fd ps ds)(hd:Vals dvs ds)(hx:fT CX X E)
  (ha:PA X (e::es) t) (hdb:autoParam ((x == ("__debug__":Str))=false) ZC._auto_1) (he:autoParam (starEach (e::es) X.env=(false,eval e X.env)::starEach es X.env) ZF._auto_1) (hpl:autoParam ((backTo pos (starEach es X.env)).any (·.1)=false) ZF._auto_1):
  PE X (.Call (.Name x p) (e::es) [] pos) (oJ C sp dvs E t):=by
 intro pins s σ H Q I h;refine Fp (ku I hg hm ?_ hdb);refine Gn (h₀:=X.base) I.ok.mod.kin M.kp (thn (ha pos pins s σ H _ I h) λ us s1 ⟨vs,H1,I1,r,q⟩=>⟨I1.kIn,?_⟩) he hpl;exact uF M F hr hb hd hx I1 r q
end
structure FnScope (N P:List Str)(sc:Scope):Prop where
 kind:sc.kind=.function
 co:sc.isCoroutine=false
 gen:sc.isGenerator=false
 nd:N.Nodup
 pre:N.take P.length=P
 par:∀ x∈P,sc.names.lookup x=some .local\/sc.names.lookup x=some .cell
 nofree:∀ y∈sc.names,y.2≠.free
theorem jv {kindOf:Str->Option NameKind}{x:Str}:∀ {binds:List (Str×Value)} {m:Str->Option Value},(∀ v,(x,v)∉binds)->bindL kindOf binds m x=m x
 | [],_,_=>rfl
 | (n,v)::r,m,h=>by
  unfold bindL;rw[jv λ w hw=>h w (A5 _ hw)]
  split
  ·have:x≠n:=by rintro rfl;exact h v A6
   simp[this]
  ·rfl
theorem j8 {kindOf:Str->Option NameKind}{x:Str}:∀ {binds:List (Str×Value)} {m:Str->Option Value},(∀ v,(x,v)∉binds)->bindC kindOf binds m x=m x
 | [],_,_=>rfl
 | (n,v)::r,m,h=>by
  unfold bindC;rw[j8 λ w hw=>h w (A5 _ hw)]
  split
  ·rfl
  ·have:x≠n:=by rintro rfl;exact h v A6
   simp[this]
theorem jw {kindOf:Str->Option NameKind}{x:Str}{v:Value}:∀ {P:List Str} {vs:List Value} {i:Nat} {m:Str->Option Value},P.Nodup->P[i]?=some x->vs[i]?=some v->kindOf x=some .local ->
  bindL kindOf (P.zip vs) m x=some v
 | [],_,_,_,_,h,_,_=>by simp at h
 | _::_,[],_,_,_,_,h,_=>by simp at h
 | p::P,w::vs,0,m,nd,h1,h2,hk=>by
  simp at h1 h2;subst h1;subst h2;show bindL kindOf ((p,w)::P.zip vs) m p=_
  unfold bindL;rw[jv λ v hv=>(List.nodup_cons.mp nd).1 (Dx hv).1,if_pos hk];simp
 | p::P,w::vs,i+1,m,nd,h1,h2,hk=>by
  show bindL kindOf ((p,w)::P.zip vs) m x=_
  unfold bindL;exact jw (i:=i) (List.nodup_cons.mp nd).2 (by simpa using h1) (by simpa using h2) hk
theorem jM {kindOf:Str->Option NameKind}{x:Str}{v:Value}:∀ {P:List Str} {vs:List Value} {i:Nat} {m:Str->Option Value},P.Nodup->P[i]?=some x->vs[i]?=some v->kindOf x≠some .local ->
  bindC kindOf (P.zip vs) m x=some v
 | [],_,_,_,_,h,_,_=>by simp at h
 | _::_,[],_,_,_,_,h,_=>by simp at h
 | p::P,w::vs,0,m,nd,h1,h2,hk=>by
  simp at h1 h2;subst h1;subst h2;show bindC kindOf ((p,w)::P.zip vs) m p=_
  unfold bindC;rw[j8 λ v hv=>(List.nodup_cons.mp nd).1 (Dx hv).1,if_neg hk];simp
 | p::P,w::vs,i+1,m,nd,h1,h2,hk=>by
  show bindC kindOf ((p,w)::P.zip vs) m x=_
  unfold bindC;exact jM (i:=i) (List.nodup_cons.mp nd).2 (by simpa using h1) (by simpa using h2) hk
def start (N:List Str)(vs:List V):St:=vs.map some++List.replicate (N.length-vs.length) none
def cq (CX:CXT)(P:Program)(w:World)(K:Er)(mg:Str->Option Value)(base:Heap)(N:List Str)(qual:Str)(scope:Scope)(f:Addr)(cd:Value)(A:Around)(outer:List Env)(s:Shared)(H:Hp)(E:XK):Cx where
 prog:=P
 w:=w
 K:=K
 mg:=mg
 base:=base
 A:=A.deeper (envOfC qual scope s.heap.objs.size f cd)
 N:=N
 s₀:=s
 H₀:=H
 env:=envOfC qual scope s.heap.objs.size f cd
 outer:=outer
 stack:=envOfC qual scope s.heap.objs.size f cd::outer
 ex:=[]
 calm:=true
 fn:=λ _=>true
 pn:=[]
 xe:=λ e s'=>wpAny (model P w) (A.deeper (envOfC qual scope s.heap.objs.size f cd)) (leaving (envOfC qual scope s.heap.objs.size f cd) e) (λ _ s''=>CX outer H s E e s'') (λ e' s''=>CX outer H s E e' s'') s'
theorem mF {sc:Scope}{n:Nat}{x:Str}(h:sc.names.lookup x=some .cell):∃ c,(cellsFrom n sc.names []).lookup x=some c:=by
 have q:=GP sc.names n [] (.inl h);exact Option.isSome_iff_exists.mp q
theorem rq {CX:CXT}{P:Program}{w:World}{K:Er}{mg:Str->Option Value}{base:Heap}{N ps:List Str}{qual:Str}{scope:Scope}{f:Addr}{cd:Value}{A:Around}{outer:List Env}{s s1:Shared}{H:Hp}{E:XK}{us:List Value}{vs:List V}
  (S:FnScope N ps scope) (hd:A.handled=none) (e0:Env0 P w K mg base A outer s H) (hl:vs.length=ps.length) (r:Vals vs us)
  (x:InCallC s s.heap.objs.size (bindL (envOfC qual scope s.heap.objs.size f cd).kindOf (ps.zip us) λ _=>none) (cellsFrom (s.heap.objs.size+1) scope.names []) (bindC (envOfC qual scope s.heap.objs.size f cd).kindOf (ps.zip us) λ _=>none) s1):
  Inv (cq CX P w K mg base N qual scope f cd A outer s H E) [] (start N vs) H s1:=by
 have hpl:ps.length<=N.length:=by have:=congrArg List.length S.pre;rw[B4] at this;omega
 obtain⟨h1,tk,rfl,hk⟩:=x.done;have noA:∀ b:Addr,b∉(cq CX P w K mg base N qual scope f cd A outer s H E).ex:=λ b z=>absurd (show b∈([]:List Addr) from z) (by simp)
 refine⟨⟨e0.mod,S.kind,rfl,rfl,Bh _,λ y z c h1 h2=>?_,λ y hy=>?_,λ y c _ h=>?_,λ _=>hd,Around.frames_deeper e0.frames,.inr ⟨rfl,rfl⟩,λ b z=>absurd z (noA b),e0.bs,e0.bsz,λ b _ _=>noA b,λ b z=>absurd z (noA b),e0.funs,e0.frf⟩,
  rfl,e0.bare,Un.kept hk,⟨_,x.toInCall.ns,λ i y v h1 h2 h3=>?_⟩,λ y c h=>⟨_,x.cell y c h⟩,e0.hok.fresh (Bh _),λ y c h=>?_,λ p hp=>absurd (show p∈([]:List (Addr×Obj)) from hp) (by simp),e0.hok.kept hk,?_⟩
 ·exact name_of_addr x.apart (FD h1) (FD h2)
 ·have hy:scope.names.lookup y=some .cell\/scope.names.lookup y=some .free:=hy
  rcases hy with hy|hy
  ·exact mF hy
  ·exact absurd rfl (S.nofree _ (FD hy))
 ·exact CB (x.above y c (FD h))
 ·have hi:i<vs.length:=by
   unfold start at h2;by_cases hi:i<vs.length
   ·exact hi
   ·rw[BJ (by simpa using hi)] at h2
    rw[CT] at h2
    split at h2 <;>cases h2
  have ha:vs[i]?=some v:=by
   unfold start at h2;rw[Bx (by simpa using hi),Bv] at h2;cases e:vs[i]? with
   | none=>rw[e] at h2;cases h2
   | some a=>rw[e] at h2;cases h2;rfl
  obtain⟨u,hu,rv⟩:=r.get ha;have hp:ps[i]?=some y:=by
   rw[<- S.pre,List.getElem?_take_of_lt (by omega)];exact h1
  have ndP:ps.Nodup:=by rw[<- S.pre];exact S.nd.sublist (DX _ _)
  refine⟨u,rv,?_⟩
  rcases S.par y (BB hp) with k|k
  ·exact .inl ⟨k,jw ndP hp hu k⟩
  ·obtain⟨c,e⟩:=mF (n:=s.heap.objs.size+1) k
   refine .inr ⟨.inl k,c,e,?_⟩;have q:=x.cell y c e;rw[jM ndP hp hu (by show scope.names.lookup y≠_;rw[k];decide)] at q;exact q
 ·exact e0.hok.fresh (CB (x.above y c (FD h)))
 ·unfold start
  show _=N.length
  rw[Bo,A4,Cd];omega
theorem pM {CX:CXT}{P:Program}{w:World}{K:Er}{mg:Str->Option Value}{base:Heap}{k:Nat}{f:Addr}{name qual:Str}{params:Arguments}{body:List Stmt}{scope:Scope}{dV kV doc pm cdv ct oc:Value}{an od:Option Addr}
  {osl:Array (Option Value)} {N ps:List Str} {sp:Sp} (lk:K.lookup f=some ⟨oc,od,.func (EC name qual params body scope dV kV doc pm an cdv ct),osl⟩) (hcd:E7 K cdv qual=true) (S:FnScope N ps scope)
  (len:∀ vs H Q E,sp vs H Q E->vs.length=ps.length)
  (hbody:∀ (A:Around) (outer:List Env) (s:Shared) (H:Hp) (vs:List V) (Q:VK) (E:XK),Room k (A.deeper (envOfC qual scope s.heap.objs.size f cdv))->sp vs H Q E ->
   ∃ t,PSs (cq CX P w K mg base N qual scope f cdv A outer s H E) body t/\t { nx:=λ _ H'=>Q .non H',rt:=Q } (start N vs) H):
  FnOk P w K mg base CX (k+1) f (EC name qual params body scope dV kV doc pm an cdv ct) ps sp:=by
 refine⟨len,λ A outer s H args us vs Q E hr e0 hb r hsp=>?_⟩;have hl:=len _ _ _ _ hsp;have KX:K.In s.heap:=e0.mod.kin.keeps λ b o e=>(e0.bs b o e).1
 have lim:s.heap.NoLimit:=e0.mod.nolimit.keeps λ b o e=>(e0.bs b o e).1
 have hkind:∀ y∈ps.zip us,scope.names.lookup y.1=some .local\/(scope.names.lookup y.1=some .cell/\((cellsFrom (s.heap.objs.size+1) scope.names []).lookup y.1).isSome=true):=λ⟨n,v⟩ hy=>by
  rcases S.par n (Dx hy).1 with q|q
  ·exact .inl q
  ·exact .inr ⟨q,GP _ _ _ (.inl q)⟩
 refine codeAny_call_function hr.depth (KX _ _ lk) rfl S.co S.gen rfl (PySem.W.codeRec_of KX hcd) (hb _ _ _ _ ?_);refine wpAny_newFunctionEnv_cells S.kind hkind λ env he s1 x=>?_
 subst he;refine⟨lim.keeps x.toInCall.keep,codeAny_func ?_⟩;obtain⟨t,ht,hq⟩:=hbody A outer s H vs Q E (hr.deeper _) hsp;have I:Inv (cq CX P w K mg base N qual scope f cdv A outer s H E) [] (start N vs) H s1:=rq S hr.hd e0 hl r x;refine EB (ht [] s1 (start N vs) H _ I hq) (λ fl s' hs=>?_) λ e s' hs=>hs
 have fin:∀ {σ':St} {H':Hp} {v:V} {u:Value},Inv (cq CX P w K mg base N qual scope f cdv A outer s H E) [] σ' H' s'->RelV v u->Q v H'->CE outer P w H s Q u s':=
  λ {σ' H' v u} J rv q=>⟨v,H',J.os,J.bare,J.base,J.hok,rv,q⟩
 cases fl with
 | ret u=>
  obtain⟨v,σ',H',J,rv,q⟩:=hs;exact fin J rv q
 | next=>
  obtain⟨σ',H',J,q⟩:=hs;exact fin (v:=V.non) (u:=EG) J rfl q
 | brk=>
  obtain⟨_,_,_,q⟩:=hs;exact EV q
 | cont=>
  obtain⟨_,_,_,q⟩:=hs;exact EV q
section
variable {X:Cx}{x:Str}{p pos:Pos}{e:Expr}{es:List Expr}{t:TA}{id T:String}{r:List V->Hp->VK->Prop}
def tCB (r:List V->Hp->VK->Prop)(t:TA):TE:=λ σ H Q=>t σ H λ vs H1=>r vs H1 Q
theorem bX (hc:cU X (.builtin id) r)(hg:Gl X x)(hm:X.mg x=none)(hv:bootBuiltins x=some (.builtin id))(ha:PA X (e::es) t)(hn:autoParam (x≠"__name__") ZC._auto_1)(hdb:autoParam ((x == ("__debug__":Str))=false) ZC._auto_1)
  (he:autoParam (starEach (e::es) X.env=(false,eval e X.env)::starEach es X.env) ZF._auto_1) (hpl:autoParam ((backTo pos (starEach es X.env)).any (·.1)=false) ZF._auto_1):PE X (.Call (.Name x p) (e::es) [] pos) (tCB r t):=by
 intro pins s σ H Q I h;refine Fp (d7 I hg hm hv ?_ hn hdb);exact F8 (thn (ha pos pins s σ H _ I h) λ us s1 ⟨vs,H1,I1,r1,q1⟩=>hc pins s1 σ H1 vs us Q I1 r1 q1) he hpl
theorem rV (hc:cU X (.type T) r)(hg:Gl X x)(hm:X.mg x=none)(hv:bootBuiltins x=some (.type T))(ha:PA X (e::es) t)(hn:autoParam (x≠"__name__") ZC._auto_1)(hdb:autoParam ((x == ("__debug__":Str))=false) ZC._auto_1)
  (he:autoParam (starEach (e::es) X.env=(false,eval e X.env)::starEach es X.env) ZF._auto_1) (hpl:autoParam ((backTo pos (starEach es X.env)).any (·.1)=false) ZF._auto_1):PE X (.Call (.Name x p) (e::es) [] pos) (tCB r t):=by
 intro pins s σ H Q I h;refine Fp (d7 I hg hm hv ?_ hn hdb);exact E9 (thn (ha pos pins s σ H _ I h) λ us s1 ⟨vs,H1,I1,r1,q1⟩=>hc pins s1 σ H1 vs us Q I1 r1 q1) he hpl
end
end L2
namespace HT
open PySem PyProof.Rows
theorem u6 (A:Around)(s:Shared)(a:Int)(t:Tok)(c:Int)(u:Tok):∃ e,HM A s (.int a t) (.int c u) e/\(e=true ↔ a=c):=
 ⟨(a == c),Hu a t c u,by simp⟩
theorem tP (A:Around)(s:Shared)(a:Int)(t:Tok)(c:Int)(u:Tok)(prog:Program)(w:World)(E:Value->Shared->Prop)(Q:Value->Shared->Prop)(h:Q (.bool (decide (a<c))) s):
  wpAny (model prog w) A (richCompare .Lt (.int a t) (.int c u)) Q E s:=
 (PyProof.Rows.lt_int h:wpAny (model prog w) A (compareOp .Lt (.int a t) (.int c u)) Q E s)
section
open PySem.SeqAt
open PySem.AutoSeq1 (wpAny_loadPart')
open PySem.MeetsSeq PySem.MeetsSeq2 PySem.MeetsSeq3
end
section
variable {prog:Program}{w:World}{A:Around}{E:Value->Shared->Prop}{s:Shared}
def sIx (n d:Nat):Option Int->Nat
 | none=>d
 | some v=>if v<0 then (v+(n:Int)).toNat else min v.toNat n
end
end HT
namespace L2
open PySem PySem.Spec PyProof.Rows
abbrev TO:=St->Hp->(Option Int->Hp->Prop)->Prop
def PO (X:Cx)(e:Option Expr)(t:TO):Prop:=
 ∀ (pins:List (Addr×Obj)) (s:Shared) (σ:St) (H:Hp) (Q:Option Int->Hp->Prop),Inv X pins σ H s->t σ H Q ->
  wpAny (model X.prog X.w) X.A (evalPart e X.env) (λ u s'=>∃ o H',Inv X pins σ H' s'/\IsPart u o/\Q o H') X.xe s
def wN:TO:=λ _ H Q=>Q none H
def xr (t:TE):TO:=λ σ H Q=>t σ H λ x H1=>∃ i,x=.int i/\Q (some i) H1
theorem intsAre_of {ns:List Int}:∀ {us:List Value},Vals (ns.map V.int) us->IntsAre us ns:=by
 induction ns with
 | nil=>intro us r;rw[A9] at r;cases r;exact .nil
 | cons n ns ih=>
  intro us r;rw[A2] at r;cases r with
  | cons r1 r2=>
   obtain⟨t,e⟩:=r1;subst e;exact .cons n t (ih r2)
section
variable {X:Cx}{e:Expr}{te:TE}{lo hi:Option Expr}{tl th:TO}{pos p2:Pos}
theorem vI:PO X none wN:=by
 intro pins s σ H Q I h;rw[Hb];exact Eu ⟨none,H,I,.none,h⟩
theorem pO (h:PE X e te):PO X (some e) (xr te):=by
 intro pins s σ H Q I hw;rw[evalPart_some];refine thn (h pins s σ H _ I hw) λ u s1 ⟨x,H1,I1,r1,q1⟩=>?_
 obtain⟨i,rfl,q⟩:=q1;obtain⟨t,rfl⟩:=r1;exact⟨some i,H1,I1,.int i t,q⟩
def SlR (X:Cx)(r:V->Option Int->Option Int->Hp->VK->Prop):Prop:=
 ∀ (pins:List (Addr×Obj)) (s:Shared) (σ:St) (H:Hp) (x:V) (v vl vu:Value) (lo hi:Option Int) (sl:Addr) (Q:VK),Inv X pins σ H s->RelV x v->s.heap.IsSliceOf sl vl vu .none->IsPart vl lo->IsPart vu hi->r x lo hi H Q ->
  ∃ T id,typeLookup (.type T) "__getitem__"=pure (some (.builtin id))/\s.TypeIs v T/\wpAny (model X.prog X.w) X.A (getItem v (.ref sl)) (EP X pins σ Q) X.xe s
def tSl (r:V->Option Int->Option Int->Hp->VK->Prop)(te:TE)(tl th:TO):TE:=λ σ H Q=>te σ H λ x H1=>tl σ H1 λ l H2=>th σ H2 λ u H3=>r x l u H3 Q
theorem uL {r:V->Option Int->Option Int->Hp->VK->Prop}(hr:SlR X r)(he:PE X e te)(hl:PO X lo tl)(hu:PO X hi th):PE X (.Subscript e (.Slice lo hi none p2) pos) (tSl r te tl th):=by
 intro pins s σ H Q I h;refine Subscript_ (thn (he pins s σ H _ I h) λ v s1 ⟨x,H1,I1,r1,q1⟩=>?_);refine wpAny_Slice (thn (hl pins s1 σ H1 _ I1 q1) λ vl s2 ⟨l,H2,I2,pl,q2⟩=>thn (hu pins s2 σ H2 _ I2 q2) λ vu s3 ⟨u,H3,I3,pu,q3⟩=>?_);rw[Hb];refine Eu ?_
 have I4:Inv X pins σ H3 { s3 with heap:=s3.heap.push { cls:=.type "slice",data:=.fields #[vl,vu,.none] } }:=I3.kept (t':=s3.toks) λ b ob q=>Et _ q
 obtain⟨T,id,hT,ht,hg⟩:=hr pins { s3 with heap:=s3.heap.push { cls:=.type "slice",data:=.fields #[vl,vu,.none] } } σ H3 x v vl vu l u s3.heap.objs.size Q I4 r1 (Hw ..) pl pu q3;show wpAny (model X.prog X.w) X.A (subscriptTail e (.Slice lo hi none p2) v (.ref s3.heap.objs.size)) (EP X pins σ Q) X.xe { s3 with heap:=s3.heap.push { cls:=.type "slice",data:=.fields #[vl,vu,.none] } }
 exact tail_any (ops:=[.ref s3.heap.objs.size,v]) ht hT hg (by with_unfolding_all rfl)
def qE (xs:List V)(lo hi:Option Int):List V:=(xs.drop (HT.sIx xs.length 0 lo)).take (HT.sIx xs.length xs.length hi-HT.sIx xs.length 0 lo)
theorem md (xs:List V)(lo hi:Option Int):(qE xs lo hi).length<=xs.length:=by
 unfold qE;rw[B4,DZ];omega
end
def ixN (n:Nat)(i:Int):Option Nat:=if 0<=i then (if i<n then some i.toNat else none) else if -(n:Int)<=i then some (i+n).toNat else none
def atI {α:Type}(xs:List α)(i:Int):Option α:=(ixN xs.length i).bind λ j=>xs[j]?
theorem oE {n:Nat}{i:Int}{j:Nat}(h:ixN n i=some j):seqIndex? i n=some j/\j<n/\-(n:Int)<=i/\i<n:=by
 unfold ixN at h;by_cases h0:0<=i
 ·rw[if_pos h0] at h
  by_cases h1:i<n
  ·rw[if_pos h1] at h
   have e:i.toNat=j:=Option.some.inj h;exact⟨by rw[HG h0 h1,e],by omega,by omega,h1⟩
  ·rw[if_neg h1] at h;cases h
 ·rw[if_neg h0] at h
  by_cases h1:-(n:Int)<=i
  ·rw[if_pos h1] at h
   have e:(i+n).toNat=j:=Option.some.inj h;exact⟨by rw[Hy (by omega) h1,e],by omega,h1,by omega⟩
  ·rw[if_neg h1] at h;cases h
theorem ox {α:Type}{xs:List α}{i:Int}{v:α}(h:atI xs i=some v):∃ j,seqIndex? i xs.length=some j/\xs[j]?=some v/\j<xs.length/\-(xs.length:Int)<=i/\i<xs.length:=by
 unfold atI at h;cases e:ixN xs.length i with
 | none=>rw[e] at h;cases h
 | some j=>
  rw[e] at h;obtain⟨h1,h2,h3,h4⟩:=oE e;exact⟨j,h1,h,h2,h3,h4⟩
theorem om {α:Type}{xs:List α}{j:Nat}{v:α}(h:xs[j]?=some v):atI xs (j:Int)=some v:=by
 have hj:j<xs.length:=(List.getElem?_eq_some_iff.mp h).1;have e:ixN xs.length (j:Int)=some j:=by
  unfold ixN;rw[if_pos (by omega),if_pos (by omega)];simp
 unfold atI;rw[e];exact h
def qm (b:Expr):Prop:=∀ o i,subscripted b false o i=operate [o,i] (getItem o i)
def IxR (X:Cx)(r:R2):Prop:=
 ∀ (value slice:Expr) (pins:List (Addr×Obj)) (s:Shared) (σ:St) (H:Hp) (x y:V) (v u:Value) (Q:VK),Inv X pins σ H s->RelV x v->RelV y u->r x y H Q ->
  subscripted slice false v u=operate [v,u] (getItem v u)->wpAny (model X.prog X.w) X.A (subscriptTail value slice v u) (EP X pins σ Q) X.xe s
def MtR (X:Cx)(id:String)(r:V->List V->Hp->VK->Prop):Prop:=
 ∀ (pins:List (Addr×Obj)) (s:Shared) (σ:St) (H:Hp) (x:V) (xs:List V) (v:Value) (us:List Value) (Q:VK),Inv X pins σ H s->RelV x v->Vals xs us->r x xs H Q ->
  wpAny (model X.prog X.w) X.A (call (.builtin id) (v::us)) (EP X pins σ Q) X.xe s
section
variable {X:Cx}{a b:Expr}{ta tb:TE}{pos:Pos}
theorem IxR.or {r r':R2}(h:IxR X r)(h':IxR X r'):IxR X (λ x y H Q=>r x y H Q\/r' x y H Q):=by
 intro value slice pins s σ H x y v u Q I rx ry q hs
 rcases q with q|q
 ·exact h value slice pins s σ H x y v u Q I rx ry q hs
 ·exact h' value slice pins s σ H x y v u Q I rx ry q hs
theorem tT {r:R2}(hr:IxR X r)(ha:PE X a ta)(hb:PE X b tb)(hs:qm b):PE X (.Subscript a b pos) (tOp r ta tb):=by
 intro pins s σ H Q I h;exact Subscript_ (yH ha hb I h λ v u s2 x y H2 I2 rx ry q=>hr a b pins s2 σ H2 x y v u Q I2 rx ry q (hs _ _))
def zo (K:Er):R2:=λ x y H Q=>∃ p xs i v,x=.ref p/\y=.int i/\SqL K H p xs/\atI xs i=some v/\Q v H
def AM (K:Er):R2:=λ x y H Q=>∃ p xs i v,x=.ref p/\y=.int i/\SqT K H p xs/\atI xs i=some v/\Q v H
theorem ix_list:IxR X (zo X.K):=by
 intro value slice pins s σ H x y v u Q I rx ry h hs;obtain⟨p,xs,i,z,rfl,rfl,hq,he,q⟩:=h;cases rx;obtain⟨t,rfl⟩:=ry;obtain⟨its,r,pl,hz⟩:=I.list hq;obtain⟨j,h1,h2,h3,h4,h5⟩:=ox he;obtain⟨w,ew,rw'⟩:=r.get h2;have hl:=r.length;have hn:=kR;have fin:EP X pins σ Q w s:=⟨z,H,I,rw',q⟩;by_cases h0:0<=i
 ·have hj:i.toNat=j:=by
   rw[HG h0 h5] at h1;exact Option.some.inj h1
  exact item_listR pl.isList h0 (by omega) (by rw[hj];simpa using ew) fin hs
 ·have hj:(i+(its.toArray.size:Int)).toNat=j:=by
   rw[Hy (by omega) h4] at h1;rw[Bd,<- hl];exact Option.some.inj h1
  exact GQ (x:=w) pl.isList.typeIs slot_list_getitem.lookup
   (wpAny_getItem_list_neg (Q:=λ r s'=>r=w/\EP X pins σ Q r s') pl.isList (by omega) (by rw[Bd] <;>omega) (by omega) (by rw[hj];simpa using ew) ⟨rfl,fin⟩) hs
theorem zh:IxR X (AM X.K):=by
 intro value slice pins s σ H x y v u Q I rx ry h hs;obtain⟨p,xs,i,z,rfl,rfl,hq,he,q⟩:=h;cases rx;obtain⟨t,rfl⟩:=ry;obtain⟨its,r,pl,hz⟩:=I.tuple hq;obtain⟨j,h1,h2,h3,h4,h5⟩:=ox he;obtain⟨w,ew,rw'⟩:=r.get h2;have hl:=r.length;have hn:=kR;have fin:EP X pins σ Q w s:=⟨z,H,I,rw',q⟩;exact GQ (x:=w) pl.typeIs slot_tuple_getitem.lookup
  (getItem_tuple (j:=j) (Q:=λ r s'=>r=w/\EP X pins σ Q r s') pl (by omega) (by omega) (by rw[Bd,<- hl];exact h1) (by simpa using ew) ⟨rfl,fin⟩) hs
theorem m8 (its:List Value)(n j:Nat)(u:Value):EY (·.setIfInBounds j u) { cls:=.type "list",data:=.seq its.toArray n }={ cls:=.type "list",data:=.seq (its.set j u).toArray n }:=by
 simp[EY]
theorem Inv.lst {pins:List (Addr×Obj)}{σ:St}{H:Hp}{s:Shared}{p:Addr}{xs:List V}(I:Inv X pins σ H s)(h:H p=some (.lst xs)):
  ∃ (its:List Value) (n:Nat),Vals xs its/\s.heap.get? p=some { cls:=.type "list",data:=.seq its.toArray n }/\xs.length<=sizeLine:=by
 obtain⟨z,its,n,r,e⟩:=I.hok p _ h;exact⟨its,n,r,e,z⟩
theorem Inv.lstUpd {pins:List (Addr×Obj)}{σ:St}{H:Hp}{s:Shared}{p:Addr}{xs ys:List V}{its its':List Value}{n n':Nat}{f:Obj->Obj}(I:Inv X pins σ H s)(h:H p=some (.lst xs))
  (ho:s.heap.get? p=some { cls:=.type "list",data:=.seq its.toArray n }) (hf:f { cls:=.type "list",data:=.seq its.toArray n }={ cls:=.type "list",data:=.seq its'.toArray n' }) (r:Vals ys its') (hz:ys.length<=sizeLine) (t:Nat):
  Inv X pins σ (upd H p (.lst ys)) { s with heap:=s.heap.update p f,toks:=t }:=by
 have e:(s.heap.update p f).get? p=some { cls:=.type "list",data:=.seq its'.toArray n' }:=by
  rw[Ft f ho (by rw[hf] <;>rfl),hf]
 refine I.write (x:=p) (e:=p) (by rw[h];trivial) (.inl rfl) (λ b u hb q=>(Ez _ _ (Ne.symm hb)).trans q) ⟨_,e⟩ ?_
 exact⟨hz,its',n',r,e⟩
def xC:V->V->V->Hp->(Hp->Prop)->Prop:=λ o i v H Q=>∃ p xs k j,o=.ref p/\i=.int k/\H p=some (.lst xs)/\ixN xs.length k=some j/\Q (upd H p (.lst (xs.set j v)))
theorem set_list:Am X xC:=by
 intro pins s σ H o i v ov iv u Q I ro ri rv h;obtain⟨p,xs,k,j,rfl,rfl,hp,hj,q⟩:=h;cases ro;obtain⟨t,rfl⟩:=ri;obtain⟨its,n,r,ho,hz⟩:=I.lst hp;obtain⟨h1,h2,h3,h4⟩:=oE hj;have hl:=r.length;have hn:=kR;have I':Inv X pins σ (upd H p (.lst (xs.set j v))) { s with heap:=s.heap.update p (EY (·.setIfInBounds j u)) }:=
  I.lstUpd hp ho (m8 its n j u) (r.set rv j) (by rw[BD];exact hz) s.toks
 by_cases h0:0<=k
 ·have hk:k.toNat=j:=by
   rw[HG h0 h4] at h1;exact Option.some.inj h1
  exact PySem.W.ki_setAt ho h0 (by omega) (by rw[Bd,<- hl];exact h4) (by rw[hk];exact⟨_,I',q⟩)
 ·have hk:(k+(its.toArray.size:Int)).toNat=j:=by
   rw[Hy (by omega) h3] at h1;rw[Bd,<- hl];exact Option.some.inj h1
  exact PySem.W.ki_setBack ho (by omega) (by rw[Bd,<- hl];exact h3) (by omega) (by rw[hk];exact⟨_,I',q⟩)
theorem kh (lo hi:Option Int)(n:Nat):(sliceBounds lo hi none n).1=((HT.sIx n 0 lo:Nat):Int)/\(sliceBounds lo hi none n).2.1=((HT.sIx n n hi:Nat):Int)/\(sliceBounds lo hi none n).2.2=1:=by
 refine⟨?_,?_,rfl⟩
 ·cases lo with
  | none=>simp[sliceBounds,HT.sIx]
  | some i=>
   simp only[sliceBounds,HT.sIx,D0,show (1:Int) > 0 by decide,if_true];by_cases h:i<0
   ·simp only[h,if_true] <;>omega
   ·simp only[h,if_false] <;>omega
 ·cases hi with
  | none=>simp[sliceBounds,HT.sIx]
  | some i=>
   simp only[sliceBounds,HT.sIx,D0,show (1:Int) > 0 by decide,if_true];by_cases h:i<0
   ·simp only[h,if_true] <;>omega
   ·simp only[h,if_false] <;>omega
theorem ja (its:List Value)(lo hi:Option Int):slicePick its.toArray lo hi none=((its.drop (HT.sIx its.length 0 lo)).take (HT.sIx its.length its.length hi-HT.sIx its.length 0 lo)).toArray:=by
 obtain⟨h1,h2,h3⟩:=kh lo hi its.toArray.size;unfold slicePick;rw[h1,h2,h3];simp only[sliceRange_one,pick_run,Bd] <;>rfl
def AQ (K:Er):V->Option Int->Option Int->Hp->VK->Prop:=λ x lo hi H Q=>∃ a xs,x=.ref a/\SqL K H a xs/\∀ p,H p=none->Q (.ref p) (upd H p (.lst (qE xs lo hi)))
theorem vE:SlR X (AQ X.K):=by
 intro pins s σ H x v vl vu lo hi sl Q I rx hs pl pu h;obtain⟨a,xs,rfl,hx,q⟩:=h;cases rx;obtain⟨its,r,ht,hz⟩:=I.list hx;have hlen:=r.length;refine⟨"list",_,slot_list_getitem.lookup,ht.isList.typeIs,?_⟩;refine GC ht.isList hs pl pu .none (by simp) ?_ (by rw[Bd] <;>omega)
 rw[ja,<- hlen];refine⟨.ref s.heap.objs.size,_,I.laid (t':=s.toks) (o:=.lst (qE xs lo hi)) (λ b ob q=>Et _ q) (Bh _) ?_,rfl,q _ (I.hok.fresh (Bh _))⟩;exact⟨BN (md xs lo hi) hz,_,0,(r.drop (HT.sIx xs.length 0 lo)).take (HT.sIx xs.length xs.length hi-HT.sIx xs.length 0 lo),Ey _ rfl⟩
def eG:V->Bool
 | .non=>true
 | .bl _=>true
 | .int _=>true
 | .str _=>true
 | _=>false
def eqV:V->V->Bool
 | .non,.non=>true
 | .bl a,.bl b=>a == b
 | .bl a,.int b=>(if a then 1 else 0) == b
 | .int a,.bl b=>a == (if b then 1 else 0)
 | .int a,.int b=>a == b
 | .str a,.str b=>a == b
 | _,_=>false
theorem ye {A:Around}{s:Shared}{y x:V}{u v:Value}(ry:RelV y u)(rx:RelV x v)(fy:eG y=true)(fx:eG x=true):HM A s u v (eqV y x):=by
 cases y with
 | non=>
  cases ry;cases x with
  | non=>cases rx;exact SeqAt.EqAt.same _
  | bl b=>cases rx;exact SeqAt.EqAt.none_bool b
  | int b=>obtain⟨t,rfl⟩:=rx;exact SeqAt.EqAt.none_int b t
  | str b=>obtain⟨t,rfl⟩:=rx;exact SeqAt.EqAt.none_str b t
  | _=>exact absurd (show false=true from fx) Br
 | bl a=>
  cases ry;cases x with
  | non=>cases rx;exact SeqAt.EqAt.bool_none a
  | bl b=>cases rx;exact SeqAt.EqAt.bool_bool a b
  | int b=>obtain⟨t,rfl⟩:=rx;exact SeqAt.EqAt.bool_int a b t
  | str b=>obtain⟨t,rfl⟩:=rx;exact SeqAt.EqAt.bool_str a b t
  | _=>exact absurd (show false=true from fx) Br
 | int a=>
  obtain⟨t',rfl⟩:=ry;cases x with
  | non=>cases rx;exact SeqAt.EqAt.int_none a t'
  | bl b=>cases rx;exact SeqAt.EqAt.int_bool a t' b
  | int b=>obtain⟨t,rfl⟩:=rx;exact Hu a t' b t
  | str b=>obtain⟨t,rfl⟩:=rx;exact Hk a t' b t
  | _=>exact absurd (show false=true from fx) Br
 | str a=>
  obtain⟨t',rfl⟩:=ry;cases x with
  | non=>cases rx;exact SeqAt.EqAt.str_none a t'
  | bl b=>cases rx;exact SeqAt.EqAt.str_bool a t' b
  | int b=>obtain⟨t,rfl⟩:=rx;exact Hl a t' b t
  | str b=>obtain⟨t,rfl⟩:=rx;exact SeqAt.EqAt.str_str a t' b t
  | _=>exact absurd (show false=true from fx) Br
 | _=>exact absurd (show false=true from fy) Br
def eqU (x:V)(u:Value):Bool:=match u with
 | .none=>eqV .non x
 | .bool b=>eqV (.bl b) x
 | .int i _=>eqV (.int i) x
 | .str z _=>eqV (.str z) x
 | _=>false
theorem sZ {x y:V}{u:Value}(r:RelV y u)(f:eG y=true):eqU x u=eqV y x:=by
 cases y with
 | non=>cases r;rfl
 | bl b=>cases r;rfl
 | int i=>obtain⟨t,rfl⟩:=r;rfl
 | str z=>obtain⟨t,rfl⟩:=r;rfl
 | _=>exact absurd (show false=true from f) Br
theorem k7 {x:V}:∀ {xs:List V} {us:List Value},Vals xs us->xs.all eG=true->us.any (eqU x)=xs.any λ y=>eqV y x
 | _,_,.nil,_=>rfl
 | y::xs,u::us,.cons r t,f=>by
  rw[Ee,Bj] at f;rw[Co,Co,sZ r f.1,k7 t f.2]
theorem iR {A:Around}{s:Shared}{x:V}{v:Value}(rx:RelV x v)(fx:eG x=true):∀ {xs:List V} {us:List Value},Vals xs us->xs.all eG=true->∀ u∈us,HM A s u v (eqU x u)
 | _,_,.nil,_=>λ u hu=>by cases hu
 | y::xs,u::us,.cons r t,f=>λ u' hu=>by
  rw[Ee,Bj] at f
  rcases List.mem_cons.mp hu with rfl|hu
  ·rw[sZ r f.1];exact ye r rx f.1 fx
  ·exact iR rx fx t f.2 u' hu
def inV (x:V)(xs:List V):Bool:=xs.any λ y=>eqV y x
def rIn (K:Er)(neg:Bool):R2:=λ x y H Q=>∃ p xs,y=.ref p/\(SqL K H p xs\/SqT K H p xs)/\eG x=true/\xs.all eG=true/\Q (.bl (if neg then !inV x xs else inV x xs)) H
theorem kg:OpR X (compareOp .NotIn) (rIn X.K true):=by
 intro pins s σ H x y v u Q I rx ry h;obtain⟨p,xs,rfl,hq,fx,fs,q⟩:=h;cases ry
 rcases hq with hq|hq
 ·obtain⟨its,r,pl,hz⟩:=I.list hq
  refine SeqAt.notIn_listAt (eqU x) pl.isList (λ w hw=>iR rx fx r fs w (by simpa using hw)) ⟨.bl _,H,I,rfl,?_⟩;rw[show its.toArray.any (eqU x)=its.any (eqU x) by simp,k7 r fs];exact q
 ·obtain⟨its,r,pl,hz⟩:=I.tuple hq
  refine SeqAt.notIn_tupleAt (eqU x) pl (λ w hw=>iR rx fx r fs w (by simpa using hw)) ⟨.bl _,H,I,rfl,?_⟩;rw[show its.toArray.any (eqU x)=its.any (eqU x) by simp,k7 r fs];exact q
theorem bG:cU X (.builtin "len") (λ xs H Q=>∃ p ys,xs=[.ref p]/\(SqL X.K H p ys\/SqT X.K H p ys)/\Q (.int ys.length) H):=by
 intro pins s σ H xs us Q I r h;obtain⟨p,ys,rfl,hq,q⟩:=h;obtain⟨u,rfl,rx⟩:=vals1 r;cases rx;have hn:=kR
 rcases hq with hq|hq
 ·obtain⟨its,r',pl,hz⟩:=I.list hq
  have hlen:=r'.length;exact Calls.call_len_list pl.isList (by simp only[Bd] <;>omega) ⟨.int ys.length,H,I.tok _,⟨s.toks+1,by rw[Bd,hlen]⟩,q⟩
 ·obtain⟨its,r',pl,hz⟩:=I.tuple hq
  have hlen:=r'.length;exact len_tuple pl (by simp only[Bd] <;>omega) ⟨.int ys.length,H,I.tok _,⟨s.toks+1,by rw[Bd,hlen]⟩,q⟩
theorem kq:cU X (.type "list") (λ xs H Q=>∃ p ys,xs=[.ref p]/\(SqL X.K H p ys\/SqT X.K H p ys)/\∀ l,H l=none->Q (.ref l) (upd H l (.lst ys))):=by
 intro pins s σ H xs us Q I r h;obtain⟨p,ys,rfl,hq,q⟩:=h;obtain⟨u,rfl,rx⟩:=vals1 r;cases rx;have fin:∀ (its:List Value),Vals ys its->ys.length<=sizeLine->∀ (h':Heap) (c':Nat),(∀ b o',s.heap.get? b=some o'->h'.get? b=some o') ->
   h'.get? s.heap.objs.size=some { cls:=.type "list",dict:=none,data:=.seq its.toArray c',slots:=#[] }->EP X pins σ Q (.ref s.heap.objs.size) { s with heap:=h' }:=λ its r' hz h' c' kp e=>
  ⟨.ref s.heap.objs.size,_,I.laid (t':=s.toks) kp (Bh _) (show ObjOk X.prog X.w _ h' _ (.lst ys) from ⟨hz,its,c',r',e⟩),rfl,q _ (I.hok.fresh (Bh _))⟩
 rcases hq with hq|hq
 ·obtain⟨its,r',pl,hz⟩:=I.list hq
  have hlen:=r'.length;obtain⟨o,ho,hc,n,hd⟩:=pl.isList;exact call_list_seq p (.inl rfl) ho hc hd (λ h' c' kp e=>fin its r' hz h' c' kp e) (by simp only[Bd] <;>omega)
 ·obtain⟨its,r',pl,hz⟩:=I.tuple hq
  have hlen:=r'.length;obtain⟨o,ho,hc,n,hd⟩:=pl;exact call_list_seq p (.inr rfl) ho hc hd (λ h' c' kp e=>fin its r' hz h' c' kp e) (by simp only[Bd] <;>omega)
theorem jd:cU X (.type "tuple") (λ xs H Q=>∃ p ys,xs=[.ref p]/\((SqL X.K H p ys/\∀ l,H l=none->Q (.ref l) (upd H l (.tup ys)))\/(SqT X.K H p ys/\Q (.ref p) H))):=by
 intro pins s σ H xs us Q I r h;obtain⟨p,ys,rfl,h⟩:=h;obtain⟨u,rfl,rx⟩:=vals1 r;cases rx
 rcases h with ⟨hq,q⟩|⟨hq,q⟩
 ·obtain⟨its,r',pl,hz⟩:=I.list hq
  have hlen:=r'.length;refine call_tuple_list pl.isList (λ h' kp=>?_) (by simp only[Bd] <;>omega);have I1:Inv X pins σ H { s with heap:=h' }:=I.kept (t':=s.toks) kp;have I2:Inv X pins σ (upd H h'.objs.size (.tup ys)) { s with heap:=h'.push { cls:=.type "tuple",data:=.seq its.toArray } }:=
   I1.laid (t':=s.toks) (λ b o e=>Et _ e) (Bh _) (show ObjOk X.prog X.w _ _ _ (.tup ys) from ⟨hz,its,r',IsTup.new _ _⟩)
  exact⟨.ref h'.objs.size,_,I2,rfl,q _ (I1.hok.fresh (Bh _))⟩
 ·obtain⟨its,r',pl,hz⟩:=I.tuple hq
  exact call_tuple_same pl ⟨.ref p,H,I,rfl,q⟩
def tyV (K:Er)(T:String)(x:V)(H:Hp):Prop:=match x with
 | .str _=>T="str"
 | .int _=>T="int"
 | .ref p=>(T="list"/\∃ xs,SqL K H p xs)\/(T="tuple"/\∃ o,K.lookup p=some o/\o.cls=.type "tuple"/\o.dict=none) \/
   (T="dict"/\((∃ kvs,H p=some (.dK kvs))\/∃ kvs,H p=some (.dT kvs)))\/(T="set"/\∃ S n,H p=some (.set S n))
 | _=>False
theorem tN {pins:List (Addr×Obj)}{σ:St}{H:Hp}{s:Shared}{T:String}{x:V}{v:Value}(I:Inv X pins σ H s)(r:RelV x v)(ty:tyV X.K T x H):
  s.TypeIs v T/\∀ a,v=.ref a->∃ ob,s.heap.get? a=some ob/\ob.dict=none:=by
 cases x with
 | str z=>
  obtain⟨t,rfl⟩:=r;cases (show T="str" from ty);exact⟨typeIs_str s z t,λ _ e=>nomatch e⟩
 | int i=>
  obtain⟨t,rfl⟩:=r;cases (show T="int" from ty);exact⟨typeIs_int s i t,λ _ e=>nomatch e⟩
 | ref p=>
  cases r
  rcases ty with ⟨rfl,xs,hq⟩|⟨rfl,o,hk,hc,hd⟩|⟨rfl,hk⟩|⟨rfl,S,n,hk⟩
  ·obtain⟨its,_,pl,_⟩:=I.list hq
   refine⟨pl.isList.typeIs,λ a e=>?_⟩;cases e;obtain⟨o,n,e,c,hd,_⟩:=pl;exact⟨o,e,hd⟩
  ·refine⟨⟨o,I.kIn p o hk,hc⟩,λ a e=>?_⟩
   cases e;exact⟨o,I.kIn _ o hk,hd⟩
  ·have z:∃ o,s.heap.get? p=some o/\o.ExactDict:=by
    rcases hk with ⟨kvs,hk⟩|⟨kvs,hk⟩
    ·obtain⟨_,_,_,_,o,_,_,e,ex,_⟩:=I.hok p _ hk
     exact⟨o,e,ex⟩
    ·obtain⟨_,_,_,_,o,_,_,e,ex,_⟩:=I.hok p _ hk
     exact⟨o,e,ex⟩
   obtain⟨o,e,ex⟩:=z;refine⟨⟨o,e,ex.1⟩,λ a e2=>?_⟩;cases e2;exact⟨o,e,ex.2.1⟩
  ·obtain⟨o,_,_,_,e,ex,_⟩:=I.hok p _ hk
   refine⟨⟨o,e,ex.1⟩,λ a e2=>?_⟩;cases e2;exact⟨o,e,ex.2.1⟩
 | _=>exact EV ty
def zD (K:Er)(T:String)(r:V->List V->Hp->VK->Prop)(to:TE):TE:=λ σ H Q=>to σ H λ x H1=>tyV K T x H1/\r x [] H1 Q
def tBM (K:Er)(T:String)(r:V->List V->Hp->VK->Prop)(to:TE)(t:TA):TE:=λ σ H Q=>to σ H λ x H1=>tyV K T x H1/\t σ H1 λ xs H2=>r x xs H2 Q
variable {o e:Expr}{es:List Expr}{to:TE}{t:TA}{name:Str}{apos cpos:Pos}{T id:String}{r:V->List V->Hp->VK->Prop}
theorem xU (pa:PlainAttrs T)(slot:Slot T name id)(hty:typeOf (.builtin id)=pure (.type "method_descriptor"))(hm:MtR X id r)(ho:PE X o to)
  (hbase:autoParam (attributeBase o name X.env (eval o X.env)=eval o X.env) ZF._auto_1) (hline:autoParam ((apos.endLine == cpos.line)=true) ZF._auto_1):PE X (.Call (.Attribute o name apos) [] [] cpos) (zD X.K T r to):=by
 intro pins s σ H Q I h;refine wpAny_Call_method0_late hbase hline (thn (ho pins s σ H _ I h) λ v s1 ⟨x,H1,I1,r1,ty,q1⟩=>?_);obtain⟨h1,h2⟩:=tN I1 r1 ty;exact⟨T,id,pa,slot,hty,h1,h2,GR rfl (PySem.evalArgs_none (hm pins s1 σ H1 x [] v [] Q I1 r1 .nil q1))⟩
theorem eN (pa:PlainAttrs T)(slot:Slot T name id)(hty:typeOf (.builtin id)=pure (.type "method_descriptor"))(hm:MtR X id r)(ho:PE X o to)(ha:PA X (e::es) t)
  (hbase:autoParam (attributeBase o name X.env (eval o X.env)=eval o X.env) ZF._auto_1)
  (hfew:autoParam (((backTo cpos (starEach (e::es) X.env)).all (λ x=>!x.1)&&(backToKw cpos (keywordEach [] X.env)).all (λ x=>x.1.isSome)
   && decide ((e::es).length+([]:List Keyword).length+(if ([]:List Keyword).isEmpty then 0 else 1)<30))=true) ZF._auto_1)
  (hline:autoParam ((apos.endLine == cpos.line)=true) ZF._auto_1) (hs:autoParam (starEach (e::es) X.env=(false,eval e X.env)::starEach es X.env) ZF._auto_1) (hplain:autoParam ((backTo cpos (starEach es X.env)).any (·.1)=false) ZF._auto_1):
  PE X (.Call (.Attribute o name apos) (e::es) [] cpos) (tBM X.K T r to t):=by
 intro pins s σ H Q I h;refine wpAny_Call_method_late hbase hfew hline rfl (thn (ho pins s σ H _ I h) λ v s1 ⟨x,H1,I1,r1,ty,q1⟩=>?_);obtain⟨h1,h2⟩:=tN I1 r1 ty;refine⟨T,id,pa,slot,hty,h1,h2,?_⟩;have hA:=ha cpos pins s1 σ H1 _ I1 q1;rw[hs] at hA ⊢;refine GR (by show (false || (backTo cpos (starEach es X.env)).any (·.1))=false;rw[hplain] <;>rfl) (G7 ?_);exact thn hA λ us s2 ⟨vs,H2,I2,r2,q2⟩=>hm pins s2 σ H2 x vs v us Q I2 r1 r2 q2
end
def MtM (X:Cx)(id:String)(r:V->List V->Hp->VK->Prop):Prop:=
 ∀ (pins:List (Addr×Obj)) (s:Shared) (σ:St) (H:Hp) (x:V) (xs:List V) (v:Value) (us:List Value) (Q:VK),Inv X pins σ H s->RelV x v->Vals xs us->r x xs H Q ->
  wpAny (model X.prog X.w) X.A (call (.builtin id) (v::us)) (EP X pins σ Q) X.xe s
theorem Vals.one {x:V}{us:List Value}(r:Vals [x] us):∃ u,us=[u]/\RelV x u:=by
 cases r with
 | cons r1 r2=>cases r2;exact⟨_,rfl,r1⟩
theorem Vals.zero:∀ {us:List Value},Vals [] us->us=[]
 | _,.nil=>rfl
theorem Vals.dropLast {xs:List V}{us:List Value}(h:Vals xs us):Vals xs.dropLast us.dropLast:=by
 induction h with
 | nil=>exact .nil
 | cons r t ih=>
  cases t with
  | nil=>exact .nil
  | cons q t'=>exact .cons r ih
theorem Vals.rep {xs:List V}{us:List Value}(h:Vals xs us):∀ k:Nat,Vals (List.replicate k xs).flatten (List.replicate k us).flatten
 | 0=>.nil
 | k+1=>by
  rw[BP,BP,B7,B7];exact Vals.append h (Vals.rep h k)
theorem m6 {α:Type}(l:List α):l.eraseIdx (l.length-1)=l.dropLast:=by
 induction l with
 | nil=>rfl
 | cons a r ih=>
  cases r with
  | nil=>rfl
  | cons b r=>
   have e:(a::b::r).length-1=((b::r).length-1)+1:=by
    have h1:(a::b::r).length=r.length+2:=rfl;have h2:(b::r).length=r.length+1:=rfl;omega
   rw[e,List.eraseIdx_cons_succ,ih]
   all_goals rfl
theorem foldl_rep (its:List Value):∀ (k:Nat) (acc:List Value),
  List.foldl (λ x1 x2=>x1++x2) acc.toArray (List.replicate k its.toArray)=(acc++(List.replicate k its).flatten).toArray
 | 0,acc=>by simp
 | k+1,acc=>by
  have e:acc.toArray++its.toArray=(acc++its).toArray:=by simp
  have e2:(acc++its)++(List.replicate k its).flatten=acc++(List.replicate (k+1) its).flatten:=by
   rw[BP,B7,B2]
  rw[<- e2,<- foldl_rep its k (acc++its),<- e,BP,Bn]
section
variable {X:Cx}{pins:List (Addr×Obj)}{σ:St}{H:Hp}{s:Shared}{l b:Addr}{xs ys zs:List V}
theorem Inv.lset {its its':List Value}{n:Nat}{f:Array Value->Array Value}{t':Nat}(I:Inv X pins σ H s)(hH:H l=some (.lst xs))
  (e:s.heap.get? l=some { cls:=.type "list",data:=.seq its.toArray n }) (hf:f its.toArray=its'.toArray) (hv:Vals ys its') (hz:ys.length<=sizeLine):
  Inv X pins σ (upd H l (.lst ys)) { s with heap:=s.heap.update l (EY f),toks:=t' }:=by
 have q:=GD e f;rw[hf] at q;refine I.write (x:=l) (e:=l) (by rw[hH];exact trivial) (.inl rfl) (λ b' u hb hu=>(Ez s.heap (EY f) (Ne.symm hb)).trans hu) ⟨_,q⟩ ?_
 exact⟨hz,its',_,hv,q⟩
theorem Inv.lnew {its:List Value}{t':Nat}(I:Inv X pins σ H s)(hv:Vals ys its)(hz:ys.length<=sizeLine):
  Inv X pins σ (upd H s.heap.objs.size (.lst ys)) { s with heap:=s.heap.push { cls:=.type "list",data:=.seq its.toArray },toks:=t' }:=
 I.laid (λ _ _ q=>Et _ q) (Bh _) ⟨hz,its,0,hv,Ey _ rfl⟩
theorem Inv.fresh (I:Inv X pins σ H s):H s.heap.objs.size=none:=I.hok.fresh (Bh _)
theorem Inv.lstM (I:Inv X pins σ H s)(hH:H l=some (.lst xs)):xs.length<=sizeLine/\∃ (its:List Value) (n:Nat),Vals xs its/\xs.length=its.length/\s.heap.get? l=some { cls:=.type "list",data:=.seq its.toArray n }:=by
 obtain⟨z,its,n,r,e⟩:=I.hok l _ hH;exact⟨z,its,n,r,r.length,e⟩
theorem mE {n:Nat}(h:n<=sizeLine):FB n=false:=by
 unfold FB;exact decide_eq_false (by omega)
end
section
variable {X:Cx}
def dg:V->List V->Hp->VK->Prop:=λ x vs H Q=>∃ l xs y,x=.ref l/\vs=[y]/\H l=some (.lst xs)/\xs.length<sizeLine/\Q .non (upd H l (.lst (xs++[y])))
theorem bH:MtM X "list.append" dg:=by
 intro pins s σ H x vs v us Q I rx rv h;obtain⟨l,xs,y,rfl,rfl,hH,hz,q⟩:=h;cases rx;obtain⟨u,rfl,ru⟩:=rv.one;obtain⟨z,its,n,r,hl,e⟩:=I.lstM hH;refine FM Gp ⟨_,e,rfl⟩ Ge (F9 _ _) (Gy l its.toArray n u (by rw[Bd];omega)) ⟨e,?_⟩;refine⟨.non,_,I.lset (its':=its++[u]) hH e (by simp) (r.append (.cons ru .nil)) ?_,rfl,q⟩;rw[Bo,BQ];omega
def pV:V->List V->Hp->VK->Prop:=λ x vs H Q=>∃ l b xs zs,x=.ref l/\vs=[.ref b]/\H l=some (.lst xs)/\H b=some (.lst zs)/\xs.length+zs.length<=sizeLine/\Q .non (upd H l (.lst (xs++zs)))
theorem si:MtM X "list.extend" pV:=by
 intro pins s σ H x vs v us Q I rx rv h;obtain⟨l,b,xs,zs,rfl,rfl,hH,hB,hz,q⟩:=h;cases rx;obtain⟨u,rfl,ru⟩:=rv.one;cases ru;obtain⟨z,its,n,r,hl,e⟩:=I.lstM hH;obtain⟨z2,its2,n2,r2,hl2,e2⟩:=I.lstM hB;have hsz:its.toArray.size+its2.toArray.size<=sizeLine:=by rw[Bd,Bd];omega
 have hlong:¬ (!its.toArray.isEmpty&&FB (its.toArray.size+its2.toArray.size))=true:=by
  rw[mE hsz,Bu];exact Br
 refine FM F.slot_list_extend ⟨_,e,rfl⟩ F.entry_list_extend (F.args_list_extend_2 _ _)
  (AutoSeq1.list_extend_list_list_0 l its.toArray n b its2.toArray n2 hlong (by rw[Bd];omega) (by omega)) ⟨e,e2,?_⟩
 refine⟨.non,_,I.lset (its':=its++its2) hH e (by simp) (r.append r2) ?_,rfl,q⟩;rw[Bo];omega
def Az:V->List V->Hp->VK->Prop:=λ x vs H Q=>∃ l xs y,x=.ref l/\vs=[]/\H l=some (.lst xs)/\xs[xs.length-1]?=some y/\Q y (upd H l (.lst xs.dropLast))
theorem yJ:MtM X "list.pop" Az:=by
 intro pins s σ H x vs v us Q I rx rv h;obtain⟨l,xs,y,rfl,rfl,hH,hy,q⟩:=h;cases rx;have hus:=rv.zero;subst hus;obtain⟨z,its,n,r,hl,e⟩:=I.lstM hH;obtain⟨u,hu,ru⟩:=r.get hy;have hy':its.toArray[its.toArray.size-1]?=some u:=by
  show its.toArray[its.length-1]?=some u
  rw[<- FK,<- hl];exact hu
 refine FM F.slot_list_pop ⟨_,e,rfl⟩ F.entry_list_pop (F.args_list_pop_1 _) (MeetsSeq.list_pop_last l its.toArray n u hy' (by rw[Bd];omega)) ⟨e,?_⟩;refine⟨y,_,I.lset (its':=its.dropLast) hH e ?_ r.dropLast ?_,ru,q⟩
 ·show its.toArray.eraseIdxIfInBounds (its.toArray.size-1)=its.dropLast.toArray
  rw[Bd,List.eraseIdxIfInBounds_toArray,m6]
 ·rw[List.length_dropLast]
  omega
theorem len_rep {α:Type}(xs:List α)(k:Nat):(List.replicate k xs).flatten.length=k*xs.length:=by
 induction k with
 | zero=>simp
 | succ k ih=>rw[BP,B7,Bo,ih,CU,Ej]
end
end L2
namespace Att
open PySem PySem.W PySem.Calls PyProof.Rows
theorem gQ {P:Params}{h:Heap}:∀ (ns:List Int) (vs:List Value),WellAll P h vs (ns.map FT)->IntsAre vs ns:=by
 intro ns
 induction ns with
 | nil=>
  intro vs w;rw[A9] at w;cases w;exact .nil
 | cons n ns ih=>
  intro vs w;rw[A2] at w;cases w with
  | cons a b=>
   cases a;exact .cons _ _ (ih _ b)
theorem script_of {l:OpenLaw}{n:Nat}(hn:l.most=some n){P:Params}{h:Heap}{args:List WData}{vals:List Value}
  (hpre:l.row.toRowW.claim.pre args=true) (hwl:WellAll P h vals args):
  ∃ a vs ns,vals=[EA a]/\args=[HN (ns.map FT)]/\h.get? a=some { cls:=.type "list",data:=.seq vs.toArray }/\IntsAre vs ns/\ns.length<=n:=by
 have hsh:WShape.hasAll [] args [.list .int]=true:=(pre_splitW hpre).1;have hc:l.pre.holds [] { args:=args }=true:=(pre_splitW hpre).2;obtain⟨d,r,rfl,h1,h2⟩:=hasAllW_cons hsh;obtain rfl:=hasAllW_nil h2;obtain⟨xs,rfl,h3⟩:=hasW_list h1;obtain⟨ns,rfl⟩:=items_int h3;have hlen:ns.length<=n:=by
  unfold OpenLaw.pre at hc;have h4:(WTm.not (.lt (.lit (.int (n:Int))) (.len (.arg 0)))).holds [] { args:=[.list (ns.map .int)] }=true:=by
   have h4:=(holds_andW hc).1;rw[hn] at h4;exact h4
  have h5:=condW_of h4 (w_not (w_lt w_lit (w_len_list (w_arg rfl))));rw[A4] at h5;refine Nat.le_of_not_lt λ q=>?_
  have q':(n:Int)<((ns.length:Nat):Int):=by omega
  first
   | (rw[decide_eq_true q'] at h5;exact absurd h5 (by decide))
   | (simp at h5;omega)
 cases hwl with
 | cons w1 w2=>
  cases w2;cases w1 with
  | list ho hall=>exact⟨_,_,ns,rfl,rfl,ho,gQ ns _ hall,hlen⟩
theorem post_true (l:OpenLaw)(args:List WData):l.row.toRowW.claim.post args (.bool true) args=true:=
 postW_of (r:=l.row.toRowW) (X:=(true == true))
  (show WShape.has [] (.bool true) .bool=true by first|rfl|decide|simp[WShape.has,WShape.arms,WShape.armsAll])
  (show (WTm.eq .res (.lit (.bool true))).value [] { args:=args,res:=some (.bool true),after:=args }=some (.bool (true == true)) from w_eq_bool (w_res rfl) w_lit) rfl
section
variable {prog:Program}{w:World}{A:Around}{E:Value->Shared->Prop}{s:Shared}{K:Frag}
def ledger (h:Heap)(L d:Addr):List (Addr×Obj):=(List.range h.objs.size).filterMap λ a=>if a=L\/a=d then none else (h.get? a).map λ o=>(a,o)
end
end Att
namespace L2
open PySem PySem.Spec PyProof.Rows
theorem j5:∀ {vs:List Value} {ns:List Int},IntsAre vs ns->Vals (ns.map V.int) vs
 | _,_,.nil=>.nil
 | _,_,.cons n t h=>.cons ⟨t,rfl⟩ (j5 h)
def Aj (H:Hp):Prop:=∀ b,H b=none\/∃ o xs,H b=some (.frz o (.lst xs))
theorem law_call {P:Program}{w:World}{K:Er}{mg mb:Str->Option Value}{CX:CXT}{k:Nat}{fa a:Addr}{fd:FuncData}{x:Str}{sp:Sp}{s₁:Shared}{vs:List Value}{ns:List Int}
  (KX:K.In s₁.heap) (hns:s₁.heap.Ns mainGlobals mg) (hb:s₁.heap.Ns builtinsNs mb) (hbb:∀ x:Str,x≠"__name__"->mb x=bootBuiltins x) (hlim:s₁.heap.NoLimit) (hg:s₁.gens=#[])
  (ha:s₁.heap.get? a=some { cls:=.type "list",data:=.seq vs.toArray }) (hi:IntsAre vs ns) (hl:ns.length<=sizeLine) (hr:Room k callerA)
  (F:∀ base:Heap,K.In base->base.Ns mainGlobals mg->FnOk P w K mg base CX k fa fd [x] sp) (hbind:∀ (s:Shared) (u:Value),BindsTo s fd ⟨[u],[]⟩ [(x,u)])
  (hsp:∀ H:Hp,Aj H->SqL K H a (ns.map V.int)->sp [.ref a] H (λ v _=>v=.bl true) λ _ _ _=>False)
  (hCX:∀ H e s',CX [] H s₁ (λ _ _ _=>False) e s'->False):
  codeAny (model P w) callerA (.call (.ref fa) ⟨[.ref a],[]⟩) (λ r s'=>r=.ok (.ret (.bool true))/\OldK s₁.heap s'.heap/\s'.os=s₁.os/\AllBare s'.gens) s₁:=by
 have rv:=j5 hi;have lenV:=hi.length;have core:∀ H:Hp,Aj H->SqL K H a (ns.map V.int)->HOk P w H s₁.heap->(∀ b,H b≠none->b=a)->(H a≠none->K.lookup a=none) ->
   codeAny (model P w) callerA (.call (.ref fa) ⟨[.ref a],[]⟩) (λ r s'=>r=.ok (.ret (.bool true))/\OldK s₁.heap s'.heap/\s'.os=s₁.os/\AllBare s'.gens) s₁:=by
  intro H hO hS hok hA hK;have base_of:∀ {b:Addr} {o:Obj},s₁.heap.get? b=some o->H b=none->(ke s₁.heap H).get? b=some o:=λ e n=>sW e n
  have noA:∀ {b:Addr} {o:Obj} {es:Array DictEntry} {ep:Nat},s₁.heap.get? b=some o->o.data=.dict es ep->H b=none:=λ {b o es ep} e d=>by
   cases q:H b with
   | none=>rfl
   | some u=>
    have e':b=a:=hA b (by rw[q];simp);subst e';rw[ha] at e;cases e;have d':Data.seq vs.toArray _=Data.dict es ep:=d;cases d'
  have nsK:∀ {b:Addr} {m:Str->Option Value},s₁.heap.Ns b m->(ke s₁.heap H).Ns b m:=λ {b m} ⟨o,es,ep,e,d,r⟩=>⟨o,es,ep,base_of e (noA e d),d,r⟩
  have hKb:K.In (ke s₁.heap H):=λ b o e=>base_of (KX b o e) (by
   cases q:H b with
   | none=>rfl
   | some u=>
    have e':b=a:=hA b (by rw[q];simp);subst e';rw[hK (by rw[q];simp)] at e;cases e)
  have hM:Mod K mg (ke s₁.heap H):=⟨hKb,nsK hns,⟨mb,nsK hb,hbb⟩,let ⟨mc,h1,h2⟩:=hlim;⟨mc,nsK h1,h2⟩⟩;have e0:Env0 P w K mg (ke s₁.heap H) callerA [] s₁ H:=⟨rfl,hM,λ b o e=>wL e,Dq (qJ _ _),trivial,λ b hb=>absurd (show b∈([]:List Addr) from hb) (by simp),hok,.of_eq hg⟩;refine FJ ((F _ hKb (nsK hns)).run callerA [] s₁ H ⟨[.ref a],[]⟩ [.ref a] [.ref a] _ _ hr e0 (hbind s₁ (.ref a)) (.cons rfl .nil) (hsp H hO hS)) λ r s' h=>?_
  cases r with
  | error e=>exact(hCX H e s' h).elim
  | ok fl=>
   cases fl with
   | next=>exact EV h
   | brk=>exact EV h
   | cont=>exact EV h
   | ret u=>
    obtain⟨v,H',os,bare,un,hok',r',q⟩:=h;have q':v=.bl true:=q;subst q';obtain rfl:u=G5 true:=r';refine⟨rfl,OldK.of_keep λ b o e=>?_,os,bare⟩;cases q:H b with
    | none=>exact un.keep b o e q (by intro z;exact absurd (show b∈([]:List Addr) from z) (by simp)) (by simp)
    | some u=>
     rcases hO b with z|⟨ob,xs,z⟩
     ·rw[q] at z;cases z
     ·have z2:=un.frzs b ob _ z
      obtain⟨e1,_⟩:=hok b _ z;obtain⟨e2,_⟩:=hok' b _ z2;rw[e] at e1;cases e1;exact e2
 cases hk:K.lookup a with
 | some o=>
  have e:=KX a o hk;rw[ha] at e;cases e;refine core (λ _=>none) (λ _=>.inl rfl) (.inr ⟨_,vs.toArray,_,hk,rfl,rfl,rfl,by rw[Bd,lenV];exact hl,by simpa using rv⟩) (λ b u z=>by have z':(none:Option HO)=some u:=z;cases z') (λ b z=>absurd rfl z) λ z=>absurd rfl z
 | none=>
  refine core (λ b=>if b=a then some (.frz { cls:=.type "list",data:=.seq vs.toArray } (.lst (ns.map V.int))) else none) (λ b=>?_) (.inl (.inr ⟨{ cls:=.type "list",data:=.seq vs.toArray },if_pos rfl⟩)) (λ b u z=>?_) (λ b z=>?_) λ _=>hk
  ·by_cases hb:b=a
   ·exact .inr ⟨_,_,if_pos hb⟩
   ·exact .inl (if_neg hb)
  ·by_cases hb:b=a
   ·have z':=(if_pos hb).symm.trans z
    cases z';subst hb;exact⟨ha,by rw[A4];exact hl,vs,_,rv,ha⟩
   ·have z':=(if_neg hb).symm.trans z
    cases z'
  ·by_cases hb:b=a
   ·exact hb
   ·exact absurd (if_neg hb) z
def inClass (s:Stmt)(j:Nat):Stmt:=match s with
 | .ClassDef _ _ _ body _ _ _ _ _ _ _=>body.getD j (.Pass ⟨0,0,0,0⟩)
 | _=>.Pass ⟨0,0,0,0⟩
def aO (s:Stmt):Arguments:=match s with
 | .FunctionDef _ a _ _ _ _ _ _ _ _=>a
 | _=>{ posonlyargs:=[],args:=[],vararg:=none,kwonlyargs:=[],kw_defaults:=[],kwarg:=none,defaults:=[] }
def aE (s:Stmt):List Stmt:=match s with
 | .FunctionDef _ _ b _ _ _ _ _ _ _=>b
 | _=>[]
def ae (s:Stmt):Scope:=match s with
 | .FunctionDef _ _ _ _ _ _ sc _ _ _=>sc
 | _=>{ kind:=.function,names:=[],isGenerator:=false,isCoroutine:=false }
abbrev CX0:CXT:=λ _ _ _ _ _ _=>False
structure Fun (K:Er)(x qual:Str)(st:Stmt)(f:Addr)(fd:FuncData):Prop where
 ex:∃ (oc:Value) (od:Option Addr) (kV doc pm:Value) (an:Option Addr) (cdv ct:Value) (osl:Array (Option Value)),
  fd=EC x qual (aO st) (aE st) (ae st) .none kV doc pm an cdv ct/\K.lookup f=some ⟨oc,od,.func fd,osl⟩/\E7 K cdv qual=true
 kp:E0 K (.ref f)=true
section
variable {P:Program}{w:World}{K:Er}{mg:Str->Option Value}{base:Heap}
theorem Fun.ok {x qual:Str}{st:Stmt}{f:Addr}{fd:FuncData}{N ps:List Str}{k:Nat}{sp:Sp}(F:Fun K x qual st f fd)(S:FnScope N ps (ae st))(len:∀ vs H Q E,sp vs H Q E->vs.length=ps.length)
  (hbody:∀ (cdv:Value) (A:Around) (outer:List Env) (s:Shared) (H:Hp) (vs:List V) (Q:VK) (E:XK),Room k (A.deeper (envOfC qual (ae st) s.heap.objs.size f cdv))->sp vs H Q E ->
   ∃ t,PSs (cq CX0 P w K mg base N qual (ae st) f cdv A outer s H E).nox (aE st) t/\t { nx:=λ _ H'=>Q .non H',rt:=Q } (start N vs) H):FnOk P w K mg base CX0 (k+1) f fd ps sp:=by
 obtain⟨oc,od,kV,doc,pm,an,cdv,ct,osl,rfl,lk,hcd⟩:=F.ex;refine pM lk hcd S len λ A outer s H vs Q E hr hsp=>?_
 obtain⟨t,h,q⟩:=hbody cdv A outer s H vs Q E hr hsp;exact⟨t,h.nox,q⟩
end
section
variable {X:Cx}
theorem pv (i:Nat){x:Str}{pos:Pos}(hN:autoParam (X.N[i]?=some x) ZF._auto_1)(hv:autoParam (Vis X.env.scope x) ZG._auto_1)(hd:autoParam ((x == ("__debug__":Str))=false) ZC._auto_1)
  (hcd:autoParam ((x == ("__classdict__":Str))=false) ZC._auto_1):PE X (.Name x pos) (bc i):=c8 hN hv hd hcd
end
theorem yr {A B:Prop}(h:B):if false=true then A else B:=by
 rw[if_neg Br];exact h
theorem yR {A B:Prop}(h:A):if true=true then A else B:=by
 rw[if_pos rfl];exact h
def Same (H H':Hp):Prop:=∀ b o,H b=some o->H' b=some o
theorem Same.refl (H:Hp):Same H H:=λ _ _ h=>h
theorem Same.trans {H H1 H2:Hp}(a:Same H H1)(b:Same H1 H2):Same H H2:=λ c o h=>b c o (a c o h)
theorem Same.free {H H':Hp}(e:Same H H'){l:Addr}(h:H' l=Option.none):H l=Option.none:=by
 cases q:H l with
 | none=>rfl
 | some o=>
  rw[e l o q] at h;cases h
section
variable {κ:Type}[DecidableEq κ]
def gP (kvs:List (κ×V))(k:κ):Option V:=(kvs.find? λ kv=>decide (kv.1=k)).map (·.2)
def putK (kvs:List (κ×V))(k:κ)(v:V):List (κ×V):=
 if (kvs.any λ kv=>decide (kv.1=k))=true then kvs.map (λ kv=>if kv.1=k then (kv.1,v) else kv) else kvs++[(k,v)]
theorem fu {p:κ×V}{r:List (κ×V)}{k:κ}(e:p.1=k):gP (p::r) k=some p.2:=by simp[gP,Cp,e]
theorem dY {p:κ×V}{r:List (κ×V)}{k:κ}(e:¬ p.1=k):gP (p::r) k=gP r k:=by simp[gP,Cp,e]
theorem lM (k:κ):∀ kvs:List (κ×V),(kvs.any λ kv=>decide (kv.1=k))=(gP kvs k).isSome
 | []=>rfl
 | p::r=>by
  rw[Co];by_cases e:p.1=k
  ·simp only[fu e,decide_eq_true e,Bool.true_or,Option.isSome_some]
  ·rw[dY e,decide_eq_false e,Bool.false_or];exact lM k r
theorem gw (kvs:List (κ×V))(k:κ)(v:V):(putK kvs k v).length<=kvs.length+1:=by
 unfold putK
 split
 ·rw[A4];omega
 ·rw[Bo,A8,Bk];omega
theorem RelO.isSome_eq {o:Option V}{u:Option Value}(r:RelO o u):o.isSome=u.isSome:=by
 cases o with
 | none=>cases u with
  | none=>rfl
  | some _=>exact(show False from r).elim
 | some _=>cases u with
  | none=>exact(show False from r).elim
  | some _=>rfl
theorem RelO.getD {o:Option V}{u:Option Value}{d:V}{d':Value}(r:RelO o u)(rd:RelV d d'):RelV (o.getD d) (u.getD d'):=by
 cases o with
 | none=>cases u with
  | none=>exact rd
  | some _=>exact(show False from r).elim
 | some _=>cases u with
  | none=>exact(show False from r).elim
  | some _=>exact r
theorem KV.val {kvs:List (κ×V)}{vs:List (κ×Value)}(r:KV kvs vs)(k:κ):RelO (gP kvs k) (valueAt vs k):=by
 unfold KV at r
 induction r with
 | nil=>exact Fk
 | @cons p q ps qs h t ih=>
  obtain⟨h1,h2⟩:=h;by_cases e:p.1=k
  ·have e':q.1=k:=h1.symm.trans e
   have b:valueAt (q::qs) k=some q.2:=by simp[valueAt,Cp,e']
   rw[fu e,b];exact h2
  ·have e':¬ q.1=k:=λ z=>e (h1.trans z)
   have b:valueAt (q::qs) k=valueAt qs k:=by simp[valueAt,Cp,e']
   rw[dY e,b];exact ih
theorem KV.any {kvs:List (κ×V)}{vs:List (κ×Value)}(r:KV kvs vs)(k:κ):(kvs.any λ kv=>decide (kv.1=k))=vs.any λ kv=>decide (kv.1=k):=by
 unfold KV at r
 induction r with
 | nil=>rfl
 | cons h t ih=>rw[Co,Co,ih,h.1]
theorem KV.repl {kvs:List (κ×V)}{vs:List (κ×Value)}(r:KV kvs vs)(k:κ){y:V}{u:Value}(ry:RelV y u):
  KV (kvs.map λ kv=>if kv.1=k then (kv.1,y) else kv) (vs.map λ kv=>if kv.1=k then (kv.1,u) else kv):=by
 unfold KV at r ⊢
 induction r with
 | nil=>exact .nil
 | @cons p q ps qs h t ih=>
  rw[A2,A2];refine .cons ?_ ih
  obtain⟨h1,h2⟩:=h;by_cases e:p.1=k
  ·rw[if_pos e,if_pos (h1.symm.trans e)];exact⟨h1,ry⟩
  ·rw[if_neg e,if_neg (λ z=>e (h1.trans z))];exact⟨h1,h2⟩
theorem KV.put {kvs:List (κ×V)}{vs:List (κ×Value)}(r:KV kvs vs)(k:κ){y:V}{u:Value}(ry:RelV y u):KV (putK kvs k y) (stored vs k u):=by
 unfold putK stored;rw[r.any k];by_cases e:(vs.any λ kv=>decide (kv.1=k))=true
 ·rw[if_pos e,if_pos e];exact r.repl k ry
 ·rw[if_neg e,if_neg e];exact H0 r ⟨rfl,ry⟩
theorem KV.length {kvs:List (κ×V)}{vs:List (κ×Value)}(r:KV kvs vs):kvs.length=vs.length:=G9 r
end
theorem oM {P:Program}{w:World}{k:Key}{u:Value}(r:RelV (kV k) u):(bF P w).is k u=true:=by
 cases k with
 | inl i=>obtain⟨t,e⟩:=(show ∃ t,u=Fh i t from r);subst e;exact mz P w i t
 | inr x=>obtain⟨t,e⟩:=(show ∃ t,u=Hj x t from r);subst e;exact mP P w x t
theorem ka {P:Program}{w:World}:∀ {ks:List Key} {us:List Value},Vals (ks.map kV) us->ItemsAre (bF P w) ks us
 | [],_,r=>by rw[A9] at r;cases r;exact .nil
 | k::ks,_,r=>by
  rw[A2] at r;cases r with
  | cons h t=>exact .cons (oM h) (ka t)
abbrev KT (H:Hp):List (List Key×V)->List (List Key×Addr×Value)->Prop:=Paired λ p q=>p.1=q.1/\H q.2.1=some (.tup (p.1.map kV))/\RelV p.2 q.2.2
theorem KT.val {H:Hp}{kvs:List (List Key×V)}{xs:List (List Key×Addr×Value)}(r:KT H kvs xs)(k:List Key):RelO (gP kvs k) ((atKey xs k).map (·.2)):=by
 induction r with
 | nil=>exact Fk
 | @cons p q ps qs h t ih=>
  obtain⟨h1,_,h2⟩:=h;by_cases e:p.1=k
  ·have e':q.1=k:=h1.symm.trans e
   have b:atKey (q::qs) k=some q.2:=by simp[atKey,Cp,e']
   rw[fu e,b];exact h2
  ·have e':¬ q.1=k:=λ z=>e (h1.trans z)
   have b:atKey (q::qs) k=atKey qs k:=by simp[atKey,Cp,e']
   rw[dY e,b];exact ih
theorem KT.repl {H:Hp}{kvs:List (List Key×V)}{xs:List (List Key×Addr×Value)}(r:KT H kvs xs)(k:List Key){y:V}{u:Value}(ry:RelV y u):
  KT H (kvs.map λ kv=>if kv.1=k then (kv.1,y) else kv) (xs.map (putAt k u)):=by
 induction r with
 | nil=>exact .nil
 | @cons p q ps qs h t ih=>
  rw[A2,A2];refine .cons ?_ ih
  obtain⟨h1,h2,h3⟩:=h;unfold putAt;by_cases e:p.1=k
  ·rw[if_pos e,if_pos (h1.symm.trans e)];exact⟨h1,h2,ry⟩
  ·rw[if_neg e,if_neg (λ z=>e (h1.trans z))];exact⟨h1,h2,h3⟩
theorem KT.put {H:Hp}{kvs:List (List Key×V)}{xs:List (List Key×Addr×Value)}(r:KT H kvs xs)(k:List Key){b:Addr}{y:V}{u:Value}(hb:H b=some (.tup (k.map kV)))(ry:RelV y u):
  KT H (putK kvs k y) (storedH xs k b u):=by
 have e:(kvs.any λ kv=>decide (kv.1=k))=(atKey xs k).isSome:=by
  rw[lM,(r.val k).isSome_eq,Dg]
 unfold putK storedH;rw[e];by_cases q:(atKey xs k).isSome=true
 ·rw[if_pos q,if_pos q];exact r.repl k ry
 ·rw[if_neg q,if_neg q];exact H0 r ⟨rfl,hb,ry⟩
theorem KT.keeps {H H':Hp}{kvs:List (List Key×V)}{xs:List (List Key×Addr×Value)}(r:KT H kvs xs)(ht:∀ b ys,H b=some (.tup ys)->H' b=some (.tup ys)):KT H' kvs xs:=
 Paired.mapP r λ _ _ z=>⟨z.1,ht _ _ z.2.1,z.2.2⟩
section
variable {P:Program}{w:World}{H:Hp}{h:Heap}{a:Addr}
theorem xH {u:HO}(ok:HOk P w H h)(e:Rd H a u):ObjOk P w H h a u:=e.ok ok
theorem ma {kvs:List (Key×V)}(ok:HOk P w H h)(e:Rd H a (.dK kvs)):kvs.length<=sizeLine/\(a == sysModules)=false/\∃ vs,KV kvs vs/\h.DictOf (bF P w) a vs:=
 show ObjOk P w H h a (.dK kvs) from xH ok e
theorem zS {kvs:List (Key×V)}(ok:HOk P w H h)(e:H a=some (.dK kvs)):kvs.length<=sizeLine/\(a == sysModules)=false/\∃ vs,KV kvs vs/\h.DictOf (bF P w) a vs:=ma ok (.inl e)
theorem kr {ks:List Key}(ok:HOk P w H h)(e:H a=some (.tup (ks.map kV))):(tupleKind (bF P w)).is h ks a:=by
 obtain⟨_,its,r,o,h1,h2,n,h3⟩:=(show ObjOk P w H h a (.tup (ks.map kV)) from ok a _ e);exact⟨o,its.toArray,n,h1,h2,h3,by simpa using ka r⟩
theorem p8 {kvs:List (List Key×V)}(ok:HOk P w H h)(e:Rd H a (.dT kvs)):kvs.length<=sizeLine/\(a == sysModules)=false /\
  ∃ xs,KT H kvs xs/\h.DictOfH (tupleKind (bF P w)) a xs:=by
 obtain⟨z,y,xs,r,o,es,ep,h1,h2,h3,h4,h5⟩:=(show ObjOk P w H h a (.dT kvs) from xH ok e);refine⟨z,y,xs,r,o,es,ep,h1,h2,h3,h4,λ x hx=>?_,h5⟩;have all:∀ {l:List (List Key×V)} {m:List (List Key×Addr×Value)},KT H l m->∀ x∈m,(tupleKind (bF P w)).is h x.1 x.2.1:=by
  intro l m q
  induction q with
  | nil=>intro x hx;exact nomatch hx
  | @cons p q ps qs hq t ih=>
   intro x hx
   rcases List.mem_cons.mp hx with e|hx
   ·subst e
    exact kr ok (by rw[<- hq.1];exact hq.2.1)
   ·exact ih x hx
 exact all r x hx
theorem AB {kvs:List (List Key×V)}(ok:HOk P w H h)(e:H a=some (.dT kvs)):kvs.length<=sizeLine/\(a == sysModules)=false /\
  ∃ xs,KT H kvs xs/\h.DictOfH (tupleKind (bF P w)) a xs:=p8 ok (.inl e)
end
def xf (H:Hp)(a:Addr)(y:V)(r:Option V):Prop:=
 (∃ kvs k,Rd H a (.dK kvs)/\y=kV k/\r=gP kvs k)\/∃ kvs k b,Rd H a (.dT kvs)/\y=.ref b/\H b=some (.tup (k.map kV))/\r=gP kvs k
def zy (H:Hp)(a:Addr)(y v:V)(H':Hp):Prop:=
 (∃ kvs k,H a=some (.dK kvs)/\y=kV k/\kvs.length<sizeLine/\H'=upd H a (.dK (putK kvs k v))) \/
 ∃ kvs k b,H a=some (.dT kvs)/\y=.ref b/\H b=some (.tup (k.map kV))/\kvs.length<sizeLine/\H'=upd H a (.dT (putK kvs k v))
section
variable {X:Cx}{pins:List (Addr×Obj)}{σ:St}{H:Hp}{s:Shared}{a:Addr}{y v:V}{u r:Value}{o:Option V}{A:Around}{E:Value->Shared->Prop}
theorem Inv.big (I:Inv X pins σ H s):sysModules<s.heap.objs.size:=by
 have h:mainGlobals<s.heap.objs.size:=(I.mod.glob.keeps I.bk).lt;exact Dr (by decide) h
theorem AK {Q:Value->Shared->Prop}(hu:A.units+1<cLine)(I:Inv X pins σ H s)(g:xf H a y o)(ry:RelV y u)(h:∀ s',Inv X pins σ H s'->Q (.bool o.isSome) s'):
  wpAny (model X.prog X.w) A (compareOp .In u (.ref a)) Q E s:=by
 rcases g with ⟨kvs,k,e,ey,l⟩|⟨kvs,k,b,e,ey,eb,l⟩
 ·subst ey
  obtain⟨z,hd,vs,rel,dd⟩:=ma I.hok e;refine wpAny_in_of (oM ry) hd dd.mapOf ?_
  rw[<- (rel.val k).isSome_eq,<- l];exact h _ (I.tok _)
 ·subst ey
  cases (show u=EA b from ry);obtain⟨z,hd,xs,rel,dd⟩:=p8 I.hok e;refine wpAny_in_heap (Gq hu) (kr I.hok eb) hd dd ?_
  have q:=(rel.val k).isSome_eq;rw[Dg] at q;rw[<- q,<- l];exact h _ (I.tok _)
theorem vn {Q:Value->Shared->Prop}(hu:A.units+1<cLine)(I:Inv X pins σ H s)(g:xf H a y o)(ry:RelV y u)(h:∀ s',Inv X pins σ H s'->Q (.bool (!o.isSome)) s'):
  wpAny (model X.prog X.w) A (compareOp .NotIn u (.ref a)) Q E s:=by
 rcases g with ⟨kvs,k,e,ey,l⟩|⟨kvs,k,b,e,ey,eb,l⟩
 ·subst ey
  obtain⟨z,hd,vs,rel,dd⟩:=ma I.hok e;refine wpAny_notIn_of (oM ry) hd dd.mapOf ?_
  rw[<- (rel.val k).isSome_eq,<- l];exact h _ (I.tok _)
 ·subst ey
  cases (show u=EA b from ry);obtain⟨z,hd,xs,rel,dd⟩:=p8 I.hok e;refine wpAny_notIn_heap (Gq hu) (kr I.hok eb) hd dd ?_
  have q:=(rel.val k).isSome_eq;rw[Dg] at q;rw[<- q,<- l];exact h _ (I.tok _)
theorem p5 {h':Heap}{t':Nat}{ob:HO}(I:Inv X pins σ H s)(mu:Mut (H a))(hs:FH a s.heap h')(he:∃ q,h'.get? a=some q)(new:ObjOk X.prog X.w (upd H a ob) h' a ob):
  Inv X pins σ (upd H a ob) { s with heap:=h',toks:=t' }:=
 I.write (x:=a) (e:=a) mu (.inl rfl) (λ b q hb z=>(hs.2 b hb).trans z) he new
theorem za {P:Program}{w:World}{H':Hp}{h':Heap}{kvs:List (Key×V)}{vs:List (Key×Value)}(z:kvs.length<=sizeLine)(hd:(a == sysModules)=false)(rel:KV kvs vs)(dd:h'.DictOf (bF P w) a vs):
  ObjOk P w H' h' a (.dK kvs):=⟨z,hd,vs,rel,dd⟩
theorem rH {H':Hp}{Q:Unit->Shared->Prop}(hu:A.units+1<cLine)(I:Inv X pins σ H s)(g:zy H a y v H')(ry:RelV y u)(rv:RelV v r)(h:∀ s',Inv X pins σ H' s'->Q () s'):
  wpAny (model X.prog X.w) A (setItem (.ref a) u r) Q E s:=by
 rcases g with ⟨kvs,k,e,ey,l,eH⟩|⟨kvs,k,b,e,ey,eb,l,eH⟩
 ·subst ey eH
  obtain⟨z,hd,vs,rel,dd⟩:=zS I.hok e;have hz:vs.length<=sizeLine:=by rw[<- rel.length];exact z
  have hl:(putK kvs k v).length<=sizeLine:=by have:=gw kvs k v;omega
  refine wpAny_setItem_pairs (hsz:=hz) (oM ry) dd λ h' dd' hs=>h _ ?_
  have he:∃ q,h'.get? a=some q:=let ⟨q,_,_,hq,_⟩:=dd';⟨q,hq⟩
  exact p5 I (by rw[e];exact Fk) hs he (za hl hd (rel.put k rv) dd')
 ·subst ey eH
  cases (show u=EA b from ry);obtain⟨z,hd,xs,rel,dd⟩:=AB I.hok e;have hz:xs.length<=sizeLine:=by rw[<- G9 rel];exact z
  have hl:(putK kvs k v).length<=sizeLine:=by have:=gw kvs k v;omega
  refine wpAny_setItem_heap (hsz:=hz) (Gq hu) (kr I.hok eb) dd λ h' dd' hs=>h _ ?_
  obtain⟨q,es,ep,hq,h2,h3,h4,_,h5⟩:=dd';refine p5 I (by rw[e];exact Fk) hs ⟨q,hq⟩ ⟨hl,hd,_,(rel.put k eb rv).keeps λ c ys ec=>?_,q,es,ep,hq,h2,h3,h4,h5⟩;rw[ag (zN ec e (λ z=>nomatch z))];exact ec
end
section
variable {X:Cx}{pins:List (Addr×Obj)}{σ:St}{H:Hp}{s:Shared}{a:Addr}{kvs:List (Key×V)}{k:Key}{u:Value}{A:Around}{E:Value->Shared->Prop}
theorem Ae {Q:Value->Shared->Prop}(I:Inv X pins σ H s)(e:Rd H a (.dK kvs))(h:∀ t s',Inv X pins σ H s'->Q (.int kvs.length t) s'):wpAny (model X.prog X.w) A (call (.builtin "len") [.ref a]) Q E s:=by
 obtain⟨z,hd,vs,rel,dd⟩:=ma I.hok e;refine call_len_dict hd dd (by rw[<- rel.length];rw[EU] at z;omega) ?_
 rw[<- rel.length];exact h _ _ (I.tok _)
end
def sDPut (td ty tv:TE):TS:=λ D σ H=>tv σ H λ v H1=>td σ H1 λ x H2=>ty σ H2 λ y H3=>∃ a H4,x=.ref a/\zy H3 a y v H4/\D.nx σ H4
section
variable {X:Cx}{o i e value:Expr}{pos pos' tpos:Pos}{td ty tv:TE}
theorem vL (hu:X.A.units+1<cLine)(ho:PE X o td)(hi:PE X i ty)(hv:PE X value tv)(hs:swapsWith value (some (.Subscript o i pos')) pos.line X.env=pure false):
  PS X (.Assign [.Subscript o i pos'] value pos) (sDPut td ty tv):=by
 intro pins s σ H D I h;refine wpAny_Assign_Subscript (thn (hv pins s σ H _ I h) λ r s1 ⟨v,H1,I1,rv,q1⟩=>thn (ho pins s1 σ H1 _ I1 q1) λ u s2 ⟨x,H2,I2,rx,q2⟩=>thn (hi pins s2 σ H2 _ I2 q2) λ iv s3 ⟨y,H3,I3,ry,a,H4,ex,g,q3⟩=>?_) hs;subst ex;obtain rfl:u=EA a:=rx;exact rH hu I3 g ry rv λ s4 I4=>⟨σ,H4,I4,q3⟩
end
theorem tU {P:Program}{w:World}{H:Hp}(h:Heap)(hb:sysModules<h.objs.size):ObjOk P w H (h.push { cls:=.type "dict",data:=.dict #[] }) h.objs.size (.dK []):=
 ⟨BV _,beq_eq_false_iff_ne.mpr (Ne.symm (Bl hb)),[],.nil,Heap.DictOf.new h⟩
def zt:TE:=λ _ H Q=>∀ p,H p=none->Q (.ref p) (upd H p (.dK []))
section
variable {X:Cx}{pos:Pos}
theorem tH:PE X (.Dict [] [] pos) zt:=λ pins s σ H Q I h=>
 wpAny_Dict_empty ⟨.ref s.heap.objs.size,_,I.laid (a:=s.heap.objs.size) (o:=.dK []) (t':=s.toks) (λ _ _ q=>Et _ q) (Bh _) (tU s.heap I.big),rfl,h _ (I.hok.fresh (Bh _))⟩
end
structure M1 (X:Cx)(o:Expr)(m:Str)(apos:Pos)(e:Expr)(cpos:Pos):Prop where
 base:attributeBase o m X.env (eval o X.env)=eval o X.env
 few:((backTo cpos (starEach [e] X.env)).all (λ x=>!x.1)&&(backToKw cpos (keywordEach [] X.env)).all (λ x=>x.1.isSome)
  && decide (([e]:List Expr).length+([]:List Keyword).length+(if ([]:List Keyword).isEmpty then 0 else 1)<30))=true
 line:(apos.endLine == cpos.line)=true
 trees:backTo cpos (starEach [e] X.env)=[(false,eval e X.env)]
structure M2 (X:Cx)(o:Expr)(m:Str)(apos:Pos)(e f:Expr)(cpos:Pos):Prop where
 base:attributeBase o m X.env (eval o X.env)=eval o X.env
 few:((backTo cpos (starEach [e,f] X.env)).all (λ x=>!x.1)&&(backToKw cpos (keywordEach [] X.env)).all (λ x=>x.1.isSome)
  && decide (([e,f]:List Expr).length+([]:List Keyword).length+(if ([]:List Keyword).isEmpty then 0 else 1)<30))=true
 line:(apos.endLine == cpos.line)=true
 trees:backTo cpos (starEach [e,f] X.env)=[(false,eval e X.env),(false,eval f X.env)]
def IsD (H:Hp)(a:Addr):Prop:=(∃ kvs,Rd H a (.dK kvs))\/∃ kvs,Rd H a (.dT kvs)
theorem ym {X:Cx}{pins:List (Addr×Obj)}{σ:St}{H:Hp}{s:Shared}{a:Addr}(I:Inv X pins σ H s)(d:IsD H a):
  s.TypeIs (.ref a) "dict"/\(∀ b,EA a=.ref b->∃ ob,s.heap.get? b=some ob/\ob.dict=none)/\(a == sysModules)=false:=by
 rcases d with ⟨kvs,e⟩|⟨kvs,e⟩
 ·obtain⟨_,hd,vs,_,dd⟩:=ma I.hok e
  refine⟨dd.typeIs,λ b q=>?_,hd⟩;cases q;obtain⟨ob,_,_,h1,h2,_⟩:=dd;exact⟨ob,h1,h2.2.1⟩
 ·obtain⟨_,hd,xs,_,dd⟩:=p8 I.hok e
  refine⟨dd.typeIs,λ b q=>?_,hd⟩;cases q;obtain⟨ob,_,_,h1,h2,_⟩:=dd;exact⟨ob,h1,h2.2.1⟩
end L2
namespace Dv
inductive D where
 | non
 | bl (b:Bool)
 | int (i:Int)
  | str (x:List Nat)
 | lst (ds:List D)
 | tup (ds:List D)
  | exn (c:String)
  | raw (a:Nat)
  | tab (rows:List (List Int))
  | dct (ks:List Int) (ds:List D)
  | ins (ns:List String) (ds:List D)
def scal:D->Bool
 | .lst _=>false
 | .tup _=>false
 | .exn _=>false
 | .raw _=>false
 | .tab _=>false
 | .dct _ _=>false
 | .ins _ _=>false
 | _=>true
def noTy:D->Bool
 | .exn _=>true
 | .raw _=>true
 | .tab _=>true
 | .ins _ _=>true
 | _=>false
def flatL:List D->Bool
 | []=>true
 | d::r=>scal d&&flatL r
def clipS (x:List Nat):List Nat:=x.map (·%1114112)
mutual
def eqD:D->D->Option Bool
 | .non,.non=>some true
 | .bl a,.bl b=>some (a == b)
 | .int a,.int b=>some (decide (a=b))
 | .str a,.str b=>some (decide (clipS a=clipS b))
 | .lst a,.lst b=>eqDL a b
 | .tup a,.tup b=>eqDL a b
 | _,_=>none
def eqDL:List D->List D->Option Bool
 | [],[]=>some true
 | [],_::_=>some false
 | _::_,[]=>some false
 | a::x,b::y=>
  match eqD a b,eqDL x y with
  | some p,some q=>some (p&&q)
  | _,_=>none
end
mutual
def depthD:D->Nat
 | .lst ds=>depthL ds+1
 | .tup ds=>depthL ds+1
 | .exn _=>100
 | .raw _=>100
 | .tab _=>100
 | .dct _ _=>100
 | .ins _ _=>100
 | _=>0
def depthL:List D->Nat
 | []=>0
 | d::r=>max (depthD d) (depthL r)
end
def intsOf:List D->Option (List Int)
 | []=>some []
 | .int i::r=>(intsOf r).map (i::·)
 | _::_=>none
def bits (a:Int):Nat:=if a=0 then 0 else a.natAbs.log2+1
def mulOk (i j:Int):Bool:=decide (bits i<=64) || decide (bits j<=64) || (decide (bits i<=1048576)&&decide (bits j<=1048576))
def divOk (j:Int):Bool:=decide (0<j)&&decide (j.natAbs.log2<9000)
def ins (i:Int):List Int->List Int
 | []=>[i]
 | j::r=>if i<=j then i::j::r else j::ins i r
def isort:List Int->List Int
 | []=>[]
 | i::r=>ins i (isort r)
inductive R where
 | ok (d:D) (fr:Bool)
 | exc (c:String)
 | bad
inductive RL where
 | ok (ds:List D) (fr:Bool)
 | exc (c:String)
 | bad
abbrev R.bind (r:R)(k:D->Bool->R):R:=match r with
 | .ok d fr=>k d fr
 | .exc c=>.exc c
 | .bad=>.bad
abbrev RL.bind (r:RL)(k:List D->Bool->R):R:=match r with
 | .ok d fr=>k d fr
 | .exc c=>.exc c
 | .bad=>.bad
abbrev R.bindL (r:R)(k:D->Bool->RL):RL:=match r with
 | .ok d fr=>k d fr
 | .exc c=>.exc c
 | .bad=>.bad
abbrev RL.bindL (r:RL)(k:List D->Bool->RL):RL:=match r with
 | .ok d fr=>k d fr
 | .exc c=>.exc c
 | .bad=>.bad
abbrev Env:=List (Option D)
abbrev EE:=Env->R
abbrev EL:=Env->RL
inductive Op where
 | add|sub|mul|mod|fdiv|pow|shr|band
inductive Cm where
 | lt|le|gt|ge|eq|ne|isin|notin|isT|isNotT
def mx:Nat:=100000
def opD:Op->D->D->R
 | .add,.int i,.int j=>.ok (.int (i+j)) true
 | .add,.lst a,.lst b=>if a.length+b.length<=mx then .ok (.lst (a++b)) (flatL a&&flatL b) else .bad
 | .sub,.int i,.int j=>.ok (.int (i-j)) true
 | .mul,.int i,.int j=>if mulOk i j then .ok (.int (i*j)) true else .bad
 | .mul,.lst a,.int j=>if decide (-100000<=j)&&decide (j<=mx)&&decide (a.length*j.toNat<=mx) then .ok (.lst (List.replicate j.toNat a).flatten) (flatL a) else .bad
 | .mod,.int i,.int j=>if decide (0<j) then .ok (.int (i%j)) true else .bad
 | .fdiv,.int i,.int j=>if divOk j then .ok (.int (i/j)) true else .bad
 | .pow,.int i,.int j=>if decide (0<=j)&&decide (j<=1000)&&decide (i.natAbs<1000000) then .ok (.int (i ^ j.toNat)) true else .bad
 | .band,.int i,.int j=>if decide (j=1) then .ok (.int (i%2)) true else .bad
 | .shr,.int i,.int j=>if decide (0<=j) then .ok (.int (i/2 ^ j.toNat)) true else .bad
 | _,_,_=>.bad
theorem opD_ai (i j:Int):opD .add (.int i) (.int j)=.ok (.int (i+j)) true:=rfl
theorem opD_al (a b:List D):opD .add (.lst a) (.lst b)=if a.length+b.length<=mx then .ok (.lst (a++b)) (flatL a&&flatL b) else .bad:=rfl
theorem opD_su (i j:Int):opD .sub (.int i) (.int j)=.ok (.int (i-j)) true:=rfl
theorem opD_mi (i j:Int):opD .mul (.int i) (.int j)=if mulOk i j then .ok (.int (i*j)) true else .bad:=rfl
theorem opD_ml (a:List D)(j:Int):opD .mul (.lst a) (.int j)=if decide (-100000<=j)&&decide (j<=mx)&&decide (a.length*j.toNat<=mx) then .ok (.lst (List.replicate j.toNat a).flatten) (flatL a) else .bad:=rfl
theorem opD_mo (i j:Int):opD .mod (.int i) (.int j)=if decide (0<j) then .ok (.int (i%j)) true else .bad:=rfl
theorem opD_fd (i j:Int):opD .fdiv (.int i) (.int j)=if divOk j then .ok (.int (i/j)) true else .bad:=rfl
theorem opD_po (i j:Int):opD .pow (.int i) (.int j)=if decide (0<=j)&&decide (j<=1000)&&decide (i.natAbs<1000000) then .ok (.int (i ^ j.toNat)) true else .bad:=rfl
theorem opD_ba (i j:Int):opD .band (.int i) (.int j)=if decide (j=1) then .ok (.int (i%2)) true else .bad:=rfl
theorem opD_sh (i j:Int):opD .shr (.int i) (.int j)=if decide (0<=j) then .ok (.int (i/2 ^ j.toNat)) true else .bad:=rfl
def inD (i:Int):List D->Option Bool
 | []=>some false
 | .int j::r=>(inD i r).map (decide (j=i) || ·)
 | _::_=>none
def optB:Option Bool->R
 | some b=>.ok (.bl b) true
 | none=>.bad
def cmD:Cm->D->D->R
 | .eq,a,b=>if decide (depthD a<=9)&&decide (depthD b<=9) then optB (eqD a b) else .bad
 | .ne,a,b=>if decide (depthD a<=9)&&decide (depthD b<=9) then optB ((eqD a b).map (!·)) else .bad
 | .lt,.int i,.int j=>.ok (.bl (decide (i<j))) true
 | .le,.int i,.int j=>.ok (.bl (decide (i<=j))) true
 | .gt,.int i,.int j=>.ok (.bl (decide (j<i))) true
 | .ge,.int i,.int j=>.ok (.bl (decide (j<=i))) true
 | .isin,.int i,.lst b=>optB (inD i b)
 | .notin,.int i,.lst b=>optB ((inD i b).map (!·))
 | .isT,.bl a,.bl true=>.ok (.bl a) true
 | .isNotT,.bl a,.bl true=>.ok (.bl (!a)) true
 | _,_,_=>.bad
theorem cmD_eq (a b:D):cmD .eq a b=if decide (depthD a<=9)&&decide (depthD b<=9) then optB (eqD a b) else .bad:=rfl
theorem cmD_ne (a b:D):cmD .ne a b=if decide (depthD a<=9)&&decide (depthD b<=9) then optB ((eqD a b).map (!·)) else .bad:=rfl
theorem cmD_lt (i j:Int):cmD .lt (.int i) (.int j)=.ok (.bl (decide (i<j))) true:=rfl
theorem cmD_le (i j:Int):cmD .le (.int i) (.int j)=.ok (.bl (decide (i<=j))) true:=rfl
theorem cmD_gt (i j:Int):cmD .gt (.int i) (.int j)=.ok (.bl (decide (j<i))) true:=rfl
theorem cmD_ge (i j:Int):cmD .ge (.int i) (.int j)=.ok (.bl (decide (j<=i))) true:=rfl
theorem cmD_in (i:Int)(b:List D):cmD .isin (.int i) (.lst b)=optB (inD i b):=rfl
theorem cmD_ni (i:Int)(b:List D):cmD .notin (.int i) (.lst b)=optB ((inD i b).map (!·)):=rfl
theorem cmD_it (a:Bool):cmD .isT (.bl a) (.bl true)=.ok (.bl a) true:=rfl
theorem cmD_nt (a:Bool):cmD .isNotT (.bl a) (.bl true)=.ok (.bl (!a)) true:=rfl
def eVar (i:Nat):EE:=λ ρ=>match ρ[i]? with
 | some (some d)=>.ok d (scal d)
 | _=>.bad
def eInt (i:Int):EE:=λ _=>.ok (.int i) true
def eBl (b:Bool):EE:=λ _=>.ok (.bl b) true
def eOp (o:Op)(a b:EE):EE:=λ ρ=>(a ρ).bind λ x _=>(b ρ).bind λ y _=>opD o x y
def eCm (o:Cm)(a b:EE):EE:=λ ρ=>(a ρ).bind λ x _=>(b ρ).bind λ y _=>cmD o x y
def eNeg (a:EE):EE:=λ ρ=>(a ρ).bind λ x _=>match x with
 | .int i=>.ok (.int (-i)) true
 | _=>.bad
def eAnd (a b:EE):EE:=λ ρ=>(a ρ).bind λ x _=>match x with
 | .bl true=>b ρ
 | .bl false=>.ok (.bl false) true
 | _=>.bad
def eOr (a b:EE):EE:=λ ρ=>(a ρ).bind λ x _=>match x with
 | .bl true=>.ok (.bl true) true
 | .bl false=>b ρ
 | _=>.bad
def eNot (a:EE):EE:=λ ρ=>(a ρ).bind λ x _=>match x with
 | .bl b=>.ok (.bl (!b)) true
 | _=>.bad
def lNil:EL:=λ _=>.ok [] true
def lCons (a:EE)(r:EL):EL:=λ ρ=>(a ρ).bindL λ d f=>(r ρ).bindL λ ds g=>.ok (d::ds) (f&&g)
def eLst (a:EL):EE:=λ ρ=>(a ρ).bind λ ds f=>.ok (.lst ds) f
def eTup (a:EL):EE:=λ ρ=>(a ρ).bind λ ds f=>.ok (.tup ds) f
def at? (ds:List D)(i:Int):Option D:=if 0<=i then ds[i.toNat]? else if -(ds.length:Int)<=i then ds[(i+ds.length).toNat]? else none
def ixD (a i:D)(f:Bool):R:=match a,i with
 | .lst ds,.int k=>match at? ds k with
  | some d=>.ok d (f || scal d)
  | none=>.bad
 | .tup ds,.int k=>match at? ds k with
  | some d=>.ok d (f || scal d)
  | none=>.bad
 | _,_=>.bad
def eIx (a i:EE):EE:=λ ρ=>(a ρ).bind λ x f=>(i ρ).bind λ y _=>ixD x y f
def eCall (F:List D->R)(a:EL):EE:=λ ρ=>(a ρ).bind λ ds _=>F ds
def eB1 (F:D->Bool->R)(a:EE):EE:=λ ρ=>(a ρ).bind F
def lenD:D->Bool->R
 | .lst ds,_=>.ok (.int ds.length) true
 | .tup ds,_=>.ok (.int ds.length) true
 | _,_=>.bad
def sortedD:D->Bool->R
 | .lst ds,_=>match intsOf ds with
  | some ns=>if ns.length<64 then .ok (.lst ((isort ns).map .int)) true else .bad
  | none=>.bad
 | _,_=>.bad
def listD:D->Bool->R
 | .lst ds,f=>.ok (.lst ds) (f || flatL ds)
 | .tup ds,f=>.ok (.lst ds) (f || flatL ds)
 | _,_=>.bad
def cutI (n:Nat)(dflt:Nat):Option Int->Nat
 | none=>dflt
 | some i=>if i<0 then (i+(n:Int)).toNat else min i.toNat n
def cutL {α:Type}(ds:List α)(lo hi:Option Int):List α:=(ds.drop (cutI ds.length 0 lo)).take (cutI ds.length ds.length hi-cutI ds.length 0 lo)
def sliceD (a:D)(f:Bool)(lo hi:Option Int):R:=match a with
 | .lst ds=>.ok (.lst (cutL ds lo hi)) (f || flatL (cutL ds lo hi))
 | _=>.bad
def ePart (p:Option EE)(ρ:Env)(k:Option Int->R):R:=match p with
 | none=>k none
 | some e=>(e ρ).bind λ d _=>match d with
  | .int i=>k (some i)
  | _=>.bad
def eSlice (a:EE)(lo hi:Option EE):EE:=λ ρ=>(a ρ).bind λ x f=>ePart lo ρ λ i=>ePart hi ρ λ j=>sliceD x f i j
def eB2 (F:D->D->R)(a b:EE):EE:=λ ρ=>(a ρ).bind λ x _=>(b ρ).bind λ y _=>F x y
def max2D:D->D->R
 | .int i,.int j=>.ok (.int (if j > i then j else i)) true
 | _,_=>.bad
def isListD:D->Bool->R
 | .exn _,_=>.bad
 | .ins _ _,_=>.bad
 | .raw _,_=>.bad
 | .tab _,_=>.bad
 | .lst _,_=>.ok (.bl true) true
 | _,_=>.ok (.bl false) true
def isIntD:D->Bool->R
 | .exn _,_=>.bad
 | .ins _ _,_=>.bad
 | .raw _,_=>.bad
 | .tab _,_=>.bad
 | .int _,_=>.ok (.bl true) true
 | .bl _,_=>.ok (.bl true) true
 | _,_=>.ok (.bl false) true
def isBoolD:D->Bool->R
 | .exn _,_=>.bad
 | .ins _ _,_=>.bad
 | .raw _,_=>.bad
 | .tab _,_=>.bad
 | .bl _,_=>.ok (.bl true) true
 | _,_=>.ok (.bl false) true
def subX (c k:String):Bool:=c == k || k == "WheelError" || k == "ValueError"
inductive RI where
 | ok (ds:List D) (fr:Bool)
 | exc (c:String)
 | bad
abbrev EI:=Env->RI
def rangeL (lo:Int):Nat->List D
 | 0=>[]
 | n+1=>.int lo::rangeL (lo+1) n
def iSeq (a:EE):EI:=λ ρ=>match a ρ with
 | .ok (.lst ds) f=>.ok ds f
 | .exc c=>.exc c
 | _=>.bad
def rngOk (i:Int):Bool:=decide (-1000000<=i)&&decide (i<=1000000)
def iRange (a:EE):EI:=λ ρ=>match a ρ with
 | .ok (.int j) _=>if rngOk j then .ok (rangeL 0 j.toNat) true else .bad
 | .exc c=>.exc c
 | _=>.bad
def iRange2 (a b:EE):EI:=λ ρ=>match a ρ with
 | .ok (.int i) _=>match b ρ with
  | .ok (.int j) _=>if rngOk i&&rngOk j then .ok (rangeL i (j-i).toNat) true else .bad
  | .exc c=>.exc c
  | _=>.bad
 | .exc c=>.exc c
 | _=>.bad
def iZip (a b:EE):EI:=λ ρ=>match a ρ with
 | .ok (.lst xs) _=>match b ρ with
  | .ok (.lst ys) _=>.ok (List.zipWith (λ x y=>.tup [x,y]) xs ys) true
  | .exc c=>.exc c
  | _=>.bad
 | .exc c=>.exc c
 | _=>.bad
def compGo (elt:EE)(cond:EE)(free:Env):List D->RL
 | []=>.ok [] true
 | d::r=>match cond (some d::free) with
  | .ok (.bl true) _=>match elt (some d::free) with
   | .ok x f=>match compGo elt cond free r with
    | .ok xs g=>.ok (x::xs) (f&&g)
    | _=>.bad
   | _=>.bad
  | .ok (.bl false) _=>compGo elt cond free r
  | _=>.bad
def pick (ρ:Env)(is:List Nat):Env:=is.map λ i=>(ρ[i]?).getD none
def eComp (elt cond:EE)(is:List Nat)(it:EI):EE:=λ ρ=>match it ρ with
 | .ok ds _=>if ds.length<=mx then match compGo elt cond (pick ρ is) ds with
   | .ok xs f=>.ok (.lst xs) f
   | _=>.bad
  else .bad
 | .exc c=>.exc c
 | .bad=>.bad
inductive Sl where
 | no
 | sh (d:D)
 | ow (d:D)
  | dp (d:D)
  | jk (n m:Nat)
abbrev St:=List Sl
def Sl.get:Sl->Option D
 | .no=>none
 | .sh d=>some d
 | .ow d=>some d
 | .dp d=>some d
 | .jk _ _=>none
def Sl.shared:Sl->Option D
 | .sh d=>some d
 | _=>none
def Sl.give:Sl->Sl
 | .ow d=>.sh d
 | .dp d=>.sh d
 | s=>s
def all (st:St):Env:=st.map Sl.get
def open_ (st:St):Env:=st.map Sl.shared
def give (is:List Nat)(st:St):St:=is.foldl (λ st i=>st.set i ((st[i]?.getD .no).give)) st
inductive Out where
 | nx (st:St)
 | ret (d:D) (nw:Bool)
 | brk (st:St)
 | cont (st:St)
 | exc (c:String) (st:St)
 | bad
abbrev SS:=St->Out
abbrev Out.bind (o:Out)(k:St->Out):Out:=match o with
 | .nx st=>k st
 | o=>o
def sNil:SS:=λ st=>.nx st
def sCons (a r:SS):SS:=λ st=>(a st).bind r
def keepD (d:D)(f:Bool):Option Sl:=match d with
 | .lst ds=>if f&&flatL ds then some (.ow d) else none
 | .tup _=>none
 | .exn _=>none
 | .raw _=>none
 | .tab _=>none
 | .ins _ _=>none
 | .dct ks ds=>if f&&ks.isEmpty&&ds.isEmpty then some (.ow d) else none
 | _=>some (.sh d)
def sSet (i:Nat)(e:EE):SS:=λ st=>match e (all st) with
 | .ok d f=>match keepD d f with
  | some s=>.nx (st.set i s)
  | none=>.bad
 | .exc c=>.exc c st
 | .bad=>.bad
def sSetG (is:List Nat)(i:Nat)(e:EE):SS:=λ st=>match e (open_ (give is st)) with
 | .ok d _=>.nx ((give is st).set i (.sh d))
 | .exc c=>.exc c st
 | .bad=>.bad
def sExpr (e:EE):SS:=λ st=>match e (all st) with
 | .ok _ _=>.nx st
 | .exc c=>.exc c st
 | .bad=>.bad
def sRet (e:EE):SS:=λ st=>match e (all st) with
 | .ok d f=>.ret d f
 | .exc c=>.exc c st
 | .bad=>.bad
def sRetO (i:Nat):SS:=λ st=>match st[i]? with
 | some (.ow (.lst ds))=>.ret (.lst ds) (flatL ds)
 | some (.ow (.dct ks ds))=>.ret (.dct ks ds) false
 | some (.dp d)=>.ret d true
 | some (.sh d)=>.ret d (scal d)
 | _=>.bad
def sIf (c:EE)(a b:SS):SS:=λ st=>match c (all st) with
 | .ok (.bl true) _=>a st
 | .ok (.bl false) _=>b st
 | .exc c=>.exc c st
 | _=>.bad
def sRaise (c:String):SS:=λ st=>.exc c st
def sApp (i:Nat)(e:EE):SS:=λ st=>match st[i]? with
 | some (.ow (.lst ds))=>match e (all st) with
  | .ok d _=>if scal d&&decide (ds.length<mx) then .nx (st.set i (.ow (.lst (ds++[d])))) else .bad
  | .exc c=>.exc c st
  | .bad=>.bad
 | _=>.bad
def sPut (i:Nat)(k e:EE):SS:=λ st=>match st[i]? with
 | some (.ow (.lst ds))=>match e (all st) with
  | .ok d _=>match k (all st) with
   | .ok (.int j) _=>if scal d&&decide (0<=j)&&decide (j<ds.length) then .nx (st.set i (.ow (.lst (ds.set j.toNat d)))) else .bad
   | .exc c=>.exc c st
   | _=>.bad
  | .exc c=>.exc c st
  | .bad=>.bad
 | _=>.bad
def forGo (x:Nat)(body:SS):List D->SS
 | [],st=>.nx st
 | d::r,st=>match body (st.set x (.sh d)) with
  | .nx st'=>forGo x body r st'
  | .cont st'=>forGo x body r st'
  | .brk st'=>.nx st'
  | o=>o
def sFor (is:List Nat)(x:Nat)(it:EI)(body:SS):SS:=λ st=>match it (open_ (give is st)) with
 | .ok ds _=>forGo x body ds (give is st)
 | .exc c=>.exc c st
 | .bad=>.bad
def setAll:List Nat->List D->St->St
 | i::is,d::ds,st=>setAll is ds (st.set i (.sh d))
 | _,_,st=>st
def sUnpack (is:List Nat)(xs:List Nat)(e:EE):SS:=λ st=>match e (open_ (give is st)) with
 | .ok (.tup ds) _=>if ds.length=xs.length then .nx (setAll xs ds (give is st)) else .bad
 | .exc c=>.exc c st
 | _=>.bad
def sPar (is:List Nat)(x y:Nat)(a b:EE):SS:=λ st=>match a (open_ (give is st)) with
 | .ok d _=>match b (open_ (give is st)) with
  | .ok d' _=>.nx (((give is st).set x (.sh d)).set y (.sh d'))
  | .exc c=>.exc c st
  | .bad=>.bad
 | .exc c=>.exc c st
 | .bad=>.bad
def forGoT (tgt:D->St->Option St)(body:SS):List D->SS
 | [],st=>.nx st
 | d::r,st=>match tgt d st with
  | none=>.bad
  | some st1=>match body st1 with
   | .nx st'=>forGoT tgt body r st'
   | .cont st'=>forGoT tgt body r st'
   | .brk st'=>.nx st'
   | o=>o
def sForT (is:List Nat)(tgt:D->St->Option St)(it:EI)(body:SS):SS:=λ st=>match it (open_ (give is st)) with
 | .ok ds _=>forGoT tgt body ds (give is st)
 | .exc c=>.exc c st
 | .bad=>.bad
def tupTo (xs:List Nat)(d:D)(s:St):Option St:=match d with
 | .tup ds=>if ds.length=xs.length then some (setAll xs ds s) else none
 | _=>none
def fn (n:Nat)(body:SS)(ds:List D):R:=match body (ds.map .sh++List.replicate (n-ds.length) .no) with
 | .nx _=>.ok .non true
 | .ret d f=>.ok d f
 | .exc c _=>.exc c
 | _=>.bad
end Dv
namespace Sd
open PySem PySem.Spec PyProof.Rows L2
open Dv (D R RL EE EL EI RI)
abbrev St:=L2.St
def SqX (K:Er)(H:Hp)(a:Addr)(xs:List V):Prop:=
 Rd H a (.lst xs)\/∃ (its:List Value) (n:Nat),K.lookup a=some { cls:=.type "list",data:=.seq its.toArray n }/\xs.length<=sizeLine/\Vals xs its
theorem SqX.seq {K:Er}{H:Hp}{a:Addr}{xs:List V}(h:SqX K H a xs):SqL K H a xs:=by
 rcases h with h|⟨its,n,e,z,r⟩
 ·exact .inl h
 ·refine .inr ⟨_,its.toArray,n,e,rfl,rfl,rfl,?_,by simpa using r⟩
  rw[Bd,<- r.length];exact z
theorem SqX.of {K:Er}{H:Hp}{a:Addr}{xs:List V}(h:H a=some (.lst xs)):SqX K H a xs:=.inl (.inl h)
theorem Rd.same {H H':Hp}{a:Addr}{o:HO}(e:Same H H')(h:Rd H a o):Rd H' a o:=by
 rcases h with h|⟨u,h⟩
 ·exact .inl (e _ _ h)
 ·exact .inr ⟨u,e _ _ h⟩
theorem SqX.same {K:Er}{H H':Hp}{a:Addr}{xs:List V}(e:Same H H')(h:SqX K H a xs):SqX K H' a xs:=by
 rcases h with h|h
 ·exact .inl (Rd.same e h)
 ·exact .inr h
theorem Inv.listX {X:Cx}{pins:List (Addr×Obj)}{σ:St}{H:Hp}{s:Shared}{a:Addr}{xs:List V}(I:Inv X pins σ H s)(h:SqX X.K H a xs):
  ∃ (its:List Value) (n:Nat),Vals xs its/\s.heap.get? a=some { cls:=.type "list",data:=.seq its.toArray n }/\xs.length<=sizeLine:=by
 rcases h with h|⟨its,n,e,z,r⟩
 ·obtain⟨z,its,n,r,e⟩:=h.ok I.hok
  exact⟨its,n,r,e,z⟩
 ·exact⟨its,n,r,I.kIn a _ e,z⟩
def Ai (a C:Addr):Heap->Prop:=λ h=>∃ o vs,h.get? a=some o/\o.cls=.ref C/\o.data=.fields vs
def Tbr (H:Hp):List Addr->List (List Int)->Prop
 | [],[]=>True
 | b::bs,r::rs=>Rd H b (.lst (r.map V.int))/\Tbr H bs rs
 | _,_=>False
theorem Tbr.same {H H':Hp}(e:∀ {b:Addr} {o:HO},Rd H b o->Rd H' b o):∀ {bs:List Addr} {rows:List (List Int)},Tbr H bs rows->Tbr H' bs rows
 | [],[],_=>Fk
 | b::bs,r::rs,h=>⟨e h.1,Tbr.same e h.2⟩
 | [],_::_,h=>h.elim
 | _::_,[],h=>h.elim
mutual
def Rp (K:Er)(H:Hp):D->V->Prop
 | .non,v=>v=.non
 | .bl b,v=>v=.bl b
 | .int i,v=>v=.int i
 | .str x,v=>v=.str ⟨(Dv.clipS x).toArray⟩
 | .lst ds,v=>∃ a vs,v=.ref a/\SqX K H a vs/\RpL K H ds vs
 | .tup ds,v=>∃ a vs,v=.ref a/\Rd H a (.tup vs)/\RpL K H ds vs
 | .exn c,v=>∃ a C,v=.ref a/\EJ K mainGlobals (EW c)=some (some (.ref C))/\H a=some (.ext (Ai a C))
 | .raw a,v=>v=.ref a
 | .tab rows,v=>∃ t bs,v=.ref t/\Rd H t (.lst (bs.map V.ref))/\t∉bs/\bs.Nodup/\Tbr H bs rows
 | .dct ks ds,v=>∃ a vs,v=.ref a/\ks.length=ds.length/\Rd H a (.dK ((ks.map Sum.inl).zip vs))/\RpL K H ds vs
 | .ins ns ds,v=>∃ a C dx fs vs,v=.ref a/\H a=some (.ins C dx fs)/\Cls K C/\ns.length=ds.length/\(∀ n u,(n,u)∈ns.zip vs->NoAttr K C (EW n)/\fs.lookup (EW n)=some u)/\RpL K H ds vs
def RpL (K:Er)(H:Hp):List D->List V->Prop
 | [],vs=>vs=[]
 | d::r,vs=>∃ v ws,vs=v::ws/\Rp K H d v/\RpL K H r ws
end
mutual
theorem Rp.same {K:Er}{H H':Hp}(e:Same H H'):∀ {d:D} {v:V},Rp K H d v->Rp K H' d v
 | .non,_,h=>by unfold Rp at h ⊢;exact h
 | .bl _,_,h=>by unfold Rp at h ⊢;exact h
 | .int _,_,h=>by unfold Rp at h ⊢;exact h
 | .str _,_,h=>by unfold Rp at h ⊢;exact h
 | .raw _,_,h=>by unfold Rp at h ⊢;exact h
 | .tab _,v,h=>by
  unfold Rp at h ⊢;obtain⟨t,bs,h1,h2,h3,h4,h5⟩:=h;exact⟨t,bs,h1,Rd.same e h2,h3,h4,h5.same λ q=>Rd.same e q⟩
 | .lst ds,v,h=>by
  unfold Rp at h ⊢;obtain⟨a,vs,h1,h2,h3⟩:=h;exact⟨a,vs,h1,h2.same e,RpL.same e h3⟩
 | .tup ds,v,h=>by
  unfold Rp at h ⊢;obtain⟨a,vs,h1,h2,h3⟩:=h;exact⟨a,vs,h1,Rd.same e h2,RpL.same e h3⟩
 | .exn c,v,h=>by
  unfold Rp at h ⊢;obtain⟨a,C,h1,h2,h3⟩:=h;exact⟨a,C,h1,h2,e _ _ h3⟩
 | .dct ks ds,v,h=>by
  unfold Rp at h ⊢;obtain⟨a,vs,h1,h2,h3,h4⟩:=h;exact⟨a,vs,h1,h2,Rd.same e h3,RpL.same e h4⟩
 | .ins ns ds,v,h=>by
  unfold Rp at h ⊢;obtain⟨a,C,dx,fs,vs,h1,h2,h3,h4,h5,h6⟩:=h;exact⟨a,C,dx,fs,vs,h1,e _ _ h2,h3,h4,h5,RpL.same e h6⟩
theorem RpL.same {K:Er}{H H':Hp}(e:Same H H'):∀ {ds:List D} {vs:List V},RpL K H ds vs->RpL K H' ds vs
 | [],_,h=>by unfold RpL at h ⊢;exact h
 | d::r,vs,h=>by
  unfold RpL at h ⊢;obtain⟨v,ws,h1,h2,h3⟩:=h;exact⟨v,ws,h1,Rp.same e h2,RpL.same e h3⟩
end
theorem RpL.length {K:Er}{H:Hp}:∀ {ds:List D} {vs:List V},RpL K H ds vs->vs.length=ds.length
 | [],_,h=>by unfold RpL at h;subst h;rfl
 | d::r,vs,h=>by
  unfold RpL at h;obtain⟨v,ws,rfl,_,h3⟩:=h;rw[A8,A8,RpL.length h3]
theorem Rp.scal {K K':Er}{H H':Hp}{d:D}{v:V}(f:Dv.scal d=true)(h:Rp K H d v):Rp K' H' d v:=by
 cases d with
 | lst ds=>exact absurd f (by simp[Dv.scal])
 | tup ds=>exact absurd f (by simp[Dv.scal])
 | exn c=>exact absurd f (by simp[Dv.scal])
 | raw c=>exact absurd f (by simp[Dv.scal])
 | tab c=>exact absurd f (by simp[Dv.scal])
 | dct ks ds=>exact absurd f (by simp[Dv.scal])
 | ins ks ds=>exact absurd f (by simp[Dv.scal])
 | _=>unfold Rp at h ⊢;exact h
theorem RpL.flat {K K':Er}{H H':Hp}:∀ {ds:List D} {vs:List V},Dv.flatL ds=true->RpL K H ds vs->RpL K' H' ds vs
 | [],_,_,h=>by unfold RpL at h ⊢;exact h
 | d::r,vs,f,h=>by
  unfold Dv.flatL at f;rw[Bj] at f;unfold RpL at h ⊢;obtain⟨v,ws,h1,h2,h3⟩:=h;exact⟨v,ws,h1,h2.scal f.1,RpL.flat f.2 h3⟩
theorem RpL.append {K:Er}{H:Hp}:∀ {ds es:List D} {vs ws:List V},RpL K H ds vs->RpL K H es ws->RpL K H (ds++es) (vs++ws)
 | [],_,_,_,h,g=>by unfold RpL at h;subst h;exact g
 | d::r,es,vs,ws,h,g=>by
  unfold RpL at h;obtain⟨v,vs',rfl,h2,h3⟩:=h;rw[Bf,Bf];unfold RpL;exact⟨v,_,rfl,h2,RpL.append h3 g⟩
theorem RpL.get {K:Er}{H:Hp}:∀ {ds:List D} {vs:List V} {i:Nat} {d:D},RpL K H ds vs->ds[i]?=some d->∃ v,vs[i]?=some v/\Rp K H d v
 | [],_,_,_,_,e=>by simp at e
 | x::r,vs,0,d,h,e=>by
  unfold RpL at h;obtain⟨v,ws,rfl,h2,_⟩:=h;simp at e;subst e;exact⟨v,rfl,h2⟩
 | x::r,vs,i+1,d,h,e=>by
  unfold RpL at h;obtain⟨v,ws,rfl,_,h3⟩:=h;obtain⟨u,h4,h5⟩:=RpL.get (i:=i) (d:=d) h3 (by simpa using e);exact⟨u,by simpa using h4,h5⟩
theorem RpL.cons {K:Er}{H:Hp}{d:D}{v:V}{ds:List D}{vs:List V}(h:Rp K H d v)(g:RpL K H ds vs):RpL K H (d::ds) (v::vs):=by
 unfold RpL;exact⟨v,vs,rfl,h,g⟩
theorem RpL.nil {K:Er}{H:Hp}:RpL K H [] []:=by unfold RpL;rfl
theorem RpL.set {K:Er}{H:Hp}{d:D}{v:V}(g:Rp K H d v):∀ {ds:List D} {vs:List V} (i:Nat),RpL K H ds vs->RpL K H (ds.set i d) (vs.set i v)
 | [],_,i,h=>by unfold RpL at h;subst h;exact .nil
 | x::r,vs,0,h=>by
  unfold RpL at h;obtain⟨u,ws,rfl,_,h3⟩:=h;exact .cons g h3
 | x::r,vs,i+1,h=>by
  unfold RpL at h;obtain⟨u,ws,rfl,h2,h3⟩:=h;exact .cons h2 (RpL.set g i h3)
theorem RpL.ints {K:Er}{H:Hp}:∀ {ds:List D} {vs:List V} {ns:List Int},Dv.intsOf ds=some ns->RpL K H ds vs->vs=ns.map V.int
 | [],vs,ns,e,h=>by
  simp[Dv.intsOf] at e;subst e;unfold RpL at h;exact h
 | d::r,vs,ns,e,h=>by
  unfold RpL at h;obtain⟨v,ws,rfl,h2,h3⟩:=h;cases d with
  | int i=>
   simp only[Dv.intsOf,B3] at e;obtain⟨ms,e1,rfl⟩:=e;unfold Rp at h2;subst h2;rw[RpL.ints e1 h3,A2]
  | _=>simp[Dv.intsOf] at e
theorem RpL.ofInts {K:Er}{H:Hp}:∀ (ns:List Int),RpL K H (ns.map .int) (ns.map V.int)
 | []=>.nil
 | n::r=>.cons (by unfold Rp;rfl) (RpL.ofInts r)
structure Ext (Hv H Hv' H':Hp):Prop where
 hh:Same H H'
 vv:Same Hv Hv'
 vh:Same Hv' H'
 new:∀ b o,Hv' b=some o->Hv b=none->H b=none
 all:∀ b,H b=none->Hv' b=H' b
 nf:∀ b o u,H b=none->H' b≠some (.frz o u)
theorem Ext.refl {Hv H:Hp}(e:Same Hv H):Ext Hv H Hv H:=⟨.refl _,.refl _,e,λ b o h n=>(by rw[n] at h;cases h),λ b h=>(by rw[h];exact e.free h),λ b o u h=>by rw[h];intro z;cases z⟩
theorem Ext.trans {Hv H Hv1 H1 Hv2 H2:Hp}(a:Ext Hv H Hv1 H1)(b:Ext Hv1 H1 Hv2 H2):Ext Hv H Hv2 H2:=
 ⟨a.hh.trans b.hh,a.vv.trans b.vv,b.vh,λ c o h n=>(by
  cases q:Hv1 c with
  | some u=>exact a.new c u q n
  | none=>exact a.hh.free (b.new c o h q)),λ c h=>by
  cases q:H1 c with
  | none=>exact b.all c q
  | some o=>rw[b.hh c o q];exact b.vv c o ((a.all c h).trans q),λ c o u h=>by
  cases q:H1 c with
  | none=>exact b.nf c o u q
  | some w=>rw[b.hh c w q,<- q];exact a.nf c o u h⟩
theorem ia {H:Hp}{p:Addr}(h:H p=none)(o:HO):Same H (upd H p o):=λ b u q=>by rw[ag (au q h)];exact q
theorem Ext.new1 {Hv H:Hp}(e:Same Hv H){p:Addr}(h:H p=none)(o:HO)(ho:autoParam (∀ a u,o≠.frz a u) ZH._auto_1):Ext Hv H (upd Hv p o) (upd H p o):=by
 refine⟨ia h o,ia (e.free h) o,λ b u q=>?_,λ b u q n=>?_,λ b q=>?_,λ b a u q=>?_⟩
 ·by_cases hb:b=p
  ·subst hb;rw[ai] at q ⊢;exact q
  ·rw[ag hb] at q ⊢;exact e _ _ q
 ·by_cases hb:b=p
  ·subst hb;exact h
  ·rw[ag hb,n] at q;cases q
 ·by_cases hb:b=p
  ·subst hb;rw[ai,ai]
  ·rw[ag hb,ag hb,q];exact e.free q
 ·by_cases hb:b=p
  ·subst hb;rw[ai];exact λ z=>ho a u (Option.some.inj z)
  ·rw[ag hb,q];intro z;cases z
def Hnew (H H':Hp):Hp:=λ b=>match H b with
 | none=>H' b
 | some _=>none
theorem Hnew.mono {H H1 H2 H3:Hp}(a:Same H H1)(c:Same H2 H3):Same (Hnew H1 H2) (Hnew H H3):=λ b o h=>by
 unfold Hnew at h ⊢;cases q:H b with
 | some u=>rw[a b u q] at h;cases h
 | none=>
  cases q1:H1 b with
  | some u=>rw[q1] at h;cases h
  | none=>rw[q1] at h;exact c b o h
theorem Ext.news {Hv H Hv' H':Hp}(x:Ext Hv H Hv' H'):Same (Hnew H H') Hv':=λ b o h=>by
 unfold Hnew at h;cases q:H b with
 | some u=>rw[q] at h;cases h
 | none=>rw[q] at h;rw[x.all b q];exact h
theorem Hnew.sub {H H':Hp}:Same (Hnew H H') H':=λ b o h=>by
 unfold Hnew at h;cases q:H b with
 | some u=>rw[q] at h;cases h
 | none=>rw[q] at h;exact h
mutual
theorem Rp.frag {K:Er}{H:Hp}:∀ {d:D} {v:V},Rp [] H d v->Rp K H d v
 | .non,_,h=>by unfold Rp at h ⊢;exact h
 | .bl _,_,h=>by unfold Rp at h ⊢;exact h
 | .int _,_,h=>by unfold Rp at h ⊢;exact h
 | .str _,_,h=>by unfold Rp at h ⊢;exact h
 | .raw _,_,h=>by unfold Rp at h ⊢;exact h
 | .tab _,_,h=>by unfold Rp at h ⊢;exact h
 | .lst ds,v,h=>by
  unfold Rp at h ⊢;obtain⟨a,vs,h1,h2,h3⟩:=h;refine⟨a,vs,h1,?_,RpL.frag h3⟩
  rcases h2 with h2|⟨its,n,e,_⟩
  ·exact .inl h2
  ·simp at e
 | .tup ds,v,h=>by
  unfold Rp at h ⊢;obtain⟨a,vs,h1,h2,h3⟩:=h;exact⟨a,vs,h1,h2,RpL.frag h3⟩
 | .exn c,v,h=>by
  unfold Rp at h;obtain⟨a,C,h1,h2,h3⟩:=h;simp[EJ] at h2
 | .dct ks ds,v,h=>by
  unfold Rp at h ⊢;obtain⟨a,vs,h1,h2,h3,h4⟩:=h;exact⟨a,vs,h1,h2,h3,RpL.frag h4⟩
 | .ins ns ds,v,h=>by
  unfold Rp at h;obtain⟨a,C,dx,fs,vs,h1,h2,h3,h4,h5,h6⟩:=h;exact absurd h3.sa (by simp[Ex])
theorem RpL.frag {K:Er}{H:Hp}:∀ {ds:List D} {vs:List V},RpL [] H ds vs->RpL K H ds vs
 | [],_,h=>by unfold RpL at h ⊢;exact h
 | d::r,vs,h=>by
  unfold RpL at h ⊢;obtain⟨v,ws,h1,h2,h3⟩:=h;exact⟨v,ws,h1,Rp.frag h2,RpL.frag h3⟩
end
theorem Hnew.at {H:Hp}{p:Addr}(h:H p=none)(o:HO):Hnew H (upd H p o) p=some o:=by
 unfold Hnew;rw[h];exact ai
def Ok (K:Er)(Hv H:Hp)(W:XK)(cls:String->Value)(r:R)(Q:VK):Prop:=match r with
 | .ok d fr=>∀ v Hv' H',Ext Hv H Hv' H'->Rp K Hv' d v->(fr=true->Rp [] (Hnew H H') d v)->Q v H'
 | .exc c=>∀ Hv' H',Ext Hv H Hv' H'->W (cls c) none H'
 | .bad=>False
def OkL (K:Er)(Hv H:Hp)(W:XK)(cls:String->Value)(r:RL)(Q:List V->Hp->Prop):Prop:=match r with
 | .ok ds fr=>∀ vs Hv' H',Ext Hv H Hv' H'->RpL K Hv' ds vs->(fr=true->RpL [] (Hnew H H') ds vs)->Q vs H'
 | .exc c=>∀ Hv' H',Ext Hv H Hv' H'->W (cls c) none H'
 | .bad=>False
def EnvR (K:Er)(Hv:Hp)(ρ:Dv.Env)(σ:St):Prop:=∀ (i:Nat) (d:D),ρ[i]?=some (some d)->∃ v,σ[i]?=some (some v)/\Rp K Hv d v
theorem EnvR.same {K:Er}{Hv Hv':Hp}{ρ:Dv.Env}{σ:St}(e:Same Hv Hv')(h:EnvR K Hv ρ σ):EnvR K Hv' ρ σ:=λ i d q=>
 let ⟨v,h1,h2⟩:=h i d q;⟨v,h1,h2.same e⟩
structure Ctx where
 X:Cx
 W:St->XK
 cls:String->Value
 CX:CXT
 un:X.A.units+64<cLine
 own:PassesOwn (model X.prog X.w) X.A X.env X.xe
 pass:∀ (pins:List (Addr×Obj)) (σ:St) (H:Hp) (s:Shared) (e:Value) (s':Shared),Inv X pins σ H s->CX X.stack H s (W σ) e s'->X.xe e s'
 cxF:∀ (outer:List EO) (H:Hp) (s:Shared) (e:Value) (s':Shared),CX outer H s (λ _ _ _=>False) e s'->False
def Tak (C:Ctx)(t:TE)(f:EE):Prop:=∀ σ H Hv ρ Q,EnvR C.X.K Hv ρ σ->Same Hv H->Ok C.X.K Hv H (C.W σ) C.cls (f ρ) Q->t σ H Q
def TakL (C:Ctx)(t:TA)(f:EL):Prop:=∀ σ H Hv ρ Q,EnvR C.X.K Hv ρ σ->Same Hv H->OkL C.X.K Hv H (C.W σ) C.cls (f ρ) Q->t σ H Q
def SE (C:Ctx)(e:Expr)(f:EE):Prop:=∃ t:TE,PE C.X e t/\Tak C t f
def SL (C:Ctx)(es:List Expr)(f:EL):Prop:=∃ t:TA,PA C.X es t/\TakL C t f/\∀ ρ ds fr,f ρ=.ok ds fr->ds.length=es.length
def SC (C:Ctx)(e:Expr)(f:EE):Prop:=
 ∃ t:TT,PT C.X e t/\∀ σ H Hv ρ Q,EnvR C.X.K Hv ρ σ->Same Hv H->Ok C.X.K Hv H (C.W σ) C.cls (f ρ) (λ v H'=>∃ b,v=.bl b/\Q b H')->t σ H Q
theorem Ok.later {K:Er}{Hv H Hv1 H1:Hp}{W:XK}{cls:String->Value}{r:R}{Q:VK}(x:Ext Hv H Hv1 H1)(h:Ok K Hv H W cls r Q):Ok K Hv1 H1 W cls r Q:=by
 cases r with
 | ok d fr=>exact λ v Hv' H' y r n=>h v Hv' H' (x.trans y) r λ z=>(n z).same (Hnew.mono x.hh (.refl _))
 | exc c=>exact λ Hv' H' y=>h Hv' H' (x.trans y)
 | bad=>exact h
theorem Ok.now {K:Er}{Hv H:Hp}{W:XK}{cls:String->Value}{d:D}{fr:Bool}{Q:VK}{v:V}(h:Ok K Hv H W cls (.ok d fr) Q)(e:Same Hv H)(r:Rp K Hv d v)(z:Dv.scal d=true):Q v H:=
 h v Hv H (.refl e) r λ _=>r.scal z
theorem Ok.at {K:Er}{Hv H Hv1 H1:Hp}{W:XK}{cls:String->Value}{d:D}{fr:Bool}{Q:VK}{v:V}(h:Ok K Hv H W cls (.ok d fr) Q)(x:Ext Hv H Hv1 H1)(r:Rp K Hv1 d v)(z:Dv.scal d=true):Q v H1:=
 h v Hv1 H1 x r λ _=>r.scal z
theorem Ok.newL {K:Er}{Hv H Hv1 H1:Hp}{W:XK}{cls:String->Value}{ds:List D}{fr:Bool}{Q:VK}{vs:List V}(h:Ok K Hv H W cls (.ok (.lst ds) fr) Q)(x:Ext Hv H Hv1 H1)(r:RpL K Hv1 ds vs)
  (n:fr=true->RpL [] (Hnew H H1) ds vs) (p:Addr) (hp:H1 p=none):Q (.ref p) (upd H1 p (.lst vs)):=by
 have y:=Ext.new1 x.vh hp (.lst vs);refine h _ _ _ (x.trans y) ?_ λ z=>?_
 ·unfold Rp
  exact⟨p,vs,rfl,SqX.of ai,r.same y.vv⟩
 ·unfold Rp
  have hH:H p=none:=x.hh.free hp;refine⟨p,vs,rfl,SqX.of (by unfold Hnew;rw[hH];exact ai),(n z).same (Hnew.mono (.refl _) y.hh)⟩
theorem Ok.newT {K:Er}{Hv H Hv1 H1:Hp}{W:XK}{cls:String->Value}{ds:List D}{fr:Bool}{Q:VK}{vs:List V}(h:Ok K Hv H W cls (.ok (.tup ds) fr) Q)(x:Ext Hv H Hv1 H1)(r:RpL K Hv1 ds vs)
  (n:fr=true->RpL [] (Hnew H H1) ds vs) (p:Addr) (hp:H1 p=none):Q (.ref p) (upd H1 p (.tup vs)):=by
 have y:=Ext.new1 x.vh hp (.tup vs);refine h _ _ _ (x.trans y) ?_ λ z=>?_
 ·unfold Rp
  exact⟨p,vs,rfl,.inl ai,r.same y.vv⟩
 ·unfold Rp
  have hH:H p=none:=x.hh.free hp;refine⟨p,vs,rfl,.inl (by unfold Hnew;rw[hH];exact ai),(n z).same (Hnew.mono (.refl _) y.hh)⟩
section
variable {C:Ctx}{a b c:Expr}{es:List Expr}{f g h:EE}{fl:EL}{ta tb tc:TE}{tl:TA}{pos:Pos}
theorem Tak.step (qa:Tak C ta f){σ:St}{H Hv Hv1 H1:Hp}{ρ:Dv.Env}{Q T:VK}{k:D->Bool->R}(e:EnvR C.X.K Hv ρ σ)(x:Ext Hv H Hv1 H1)(q:Ok C.X.K Hv H (C.W σ) C.cls ((f ρ).bind k) Q)
  (next:∀ v d fr Hv2 H2,f ρ=.ok d fr->Ext Hv H Hv2 H2->Ext Hv1 H1 Hv2 H2->Rp C.X.K Hv2 d v->(fr=true->Rp [] (Hnew H H2) d v)->Ok C.X.K Hv H (C.W σ) C.cls (k d fr) Q->T v H2):ta σ H1 T:=by
 refine qa σ H1 Hv1 ρ _ (e.same x.vv) x.vh ?_
 cases hf:f ρ with
 | bad=>rw[hf] at q;exact q
 | exc c=>rw[hf] at q;exact λ Hv' H' y=>q Hv' H' (x.trans y)
 | ok d fr=>
  rw[hf] at q;exact λ v Hv2 H2 y r n=>next v d fr Hv2 H2 hf (x.trans y) y r (λ z=>(n z).same (Hnew.mono x.hh (.refl _))) q
theorem TakL.step (qa:TakL C tl fl){σ:St}{H Hv Hv1 H1:Hp}{ρ:Dv.Env}{Q:VK}{T:List V->Hp->Prop}{k:List D->Bool->R}(e:EnvR C.X.K Hv ρ σ)(x:Ext Hv H Hv1 H1)(q:Ok C.X.K Hv H (C.W σ) C.cls ((fl ρ).bind k) Q)
  (next:∀ vs ds fr Hv2 H2,fl ρ=.ok ds fr->Ext Hv H Hv2 H2->Ext Hv1 H1 Hv2 H2->RpL C.X.K Hv2 ds vs->(fr=true->RpL [] (Hnew H H2) ds vs)->Ok C.X.K Hv H (C.W σ) C.cls (k ds fr) Q->T vs H2):tl σ H1 T:=by
 refine qa σ H1 Hv1 ρ _ (e.same x.vv) x.vh ?_
 cases hf:fl ρ with
 | bad=>rw[hf] at q;exact q
 | exc c=>rw[hf] at q;exact λ Hv' H' y=>q Hv' H' (x.trans y)
 | ok d fr=>
  rw[hf] at q;exact λ v Hv2 H2 y r n=>next v d fr Hv2 H2 hf (x.trans y) y r (λ z=>(n z).same (Hnew.mono x.hh (.refl _))) q
theorem aa (i:Nat){x:Str}(hN:autoParam (C.X.N[i]?=some x) ZF._auto_1)(hv:autoParam (Vis C.X.env.scope x) ZG._auto_1)(hd:autoParam ((x == ("__debug__":Str))=false) ZC._auto_1)
  (hcd:autoParam ((x == ("__classdict__":Str))=false) ZC._auto_1):SE C (.Name x pos) (Dv.eVar i):=by
 refine⟨bc i,c8 hN hv hd hcd,λ σ H Hv ρ Q e s q=>?_⟩;unfold Dv.eVar at q;cases r:ρ[i]? with
 | none=>rw[r] at q;exact q.elim
 | some o=>
  cases o with
  | none=>rw[r] at q;exact q.elim
  | some d=>
   rw[r] at q;obtain⟨v,h1,h2⟩:=e i d r;exact⟨v,h1,q v Hv H (.refl s) h2 λ z=>h2.scal z⟩
theorem ao {i:Int}{j:Nat}:SE C (.Constant (.int i) j pos) (Dv.eInt i):=
 ⟨_,dM,λ _ _ _ _ _ _ s q=>q.now (v:=.int i) s (by unfold Rp;rfl) rfl⟩
theorem gC {i:Bool}{j:Nat}:SE C (.Constant (.bool i) j pos) (Dv.eBl i):=
 ⟨_,Aw,λ _ _ _ _ _ _ s q=>q.now (v:=.bl i) s (by unfold Rp;rfl) rfl⟩
def OpS (C:Ctx)(op:Value->Value->Sem Value)(F:D->D->R):Prop:=
 ∃ r:R2,OpR C.X op r/\∀ x y d d' H Hv H1 Hv1 W Q,Ext Hv H Hv1 H1->Rp C.X.K Hv1 d x->Rp C.X.K Hv1 d' y->Ok C.X.K Hv H W C.cls (F d d') Q->r x y H1 Q
theorem ko {op:Value->Value->Sem Value}{F:D->D->R}{r:R2}(hr:∀ x y d d' H Hv H1 Hv1 W Q,Ext Hv H Hv1 H1->Rp C.X.K Hv1 d x->Rp C.X.K Hv1 d' y->Ok C.X.K Hv H W C.cls (F d d') Q->r x y H1 Q)
  (qa:Tak C ta f) (qb:Tak C tb g):Tak C (tOp r ta tb) (λ ρ=>(f ρ).bind λ x _=>(g ρ).bind λ y _=>F x y):=λ σ H Hv ρ Q e s q=>
 qa.step e (.refl s) q λ v d fr Hv1 H1 _ x1 _ rp1 _ q1=>qb.step e x1 q1 λ v2 d2 fr2 Hv2 H2 _ x2 y2 rp2 _ q2=>
  hr v v2 d d2 H Hv H2 Hv2 _ Q x2 (rp1.same y2.vv) rp2 q2
theorem fX {op:Operator}{F:D->D->R}(o:OpS C (binaryOp op) F)(ha:SE C a f)(hb:SE C b g):SE C (.BinOp a op b pos) (λ ρ=>(f ρ).bind λ x _=>(g ρ).bind λ y _=>F x y):=by
 obtain⟨r,ho,hr⟩:=o;obtain⟨ta,pa,qa⟩:=ha;obtain⟨tb,pb,qb⟩:=hb;exact⟨_,xt ho pa pb,ko (op:=binaryOp op) hr qa qb⟩
theorem yB {op:CmpOp}{F:D->D->R}(o:OpS C (compareOp op) F)(ha:SE C a f)(hb:SE C b g)(hm:behindInMarks op b=false):SE C (.Compare a [op] [b] pos) (λ ρ=>(f ρ).bind λ x _=>(g ρ).bind λ y _=>F x y):=by
 obtain⟨r,ho,hr⟩:=o;obtain⟨ta,pa,qa⟩:=ha;obtain⟨tb,pb,qb⟩:=hb;exact⟨_,wG ho pa pb hm,ko (op:=compareOp op) hr qa qb⟩
theorem cV {op:CmpOp}{F:D->D->R}(o:OpS C (compareOp op) F)(ha:SE C a f)(hb:SE C b g)(hm:behindInMarks op b=false):SC C (.Compare a [op] [b] pos) (λ ρ=>(f ρ).bind λ x _=>(g ρ).bind λ y _=>F x y):=by
 obtain⟨r,ho,hr⟩:=o;obtain⟨ta,pa,qa⟩:=ha;obtain⟨tb,pb,qb⟩:=hb;exact⟨_,fH ho pa pb hm,λ σ H Hv ρ Q e s q=>ko (op:=compareOp op) hr qa qb σ H Hv ρ _ e s q⟩
theorem eP (ha:SE C a f)(he:autoParam (∀ whole,isTrue a C.X.env whole=(do let v <- whole;standAt a.pos;holding [v] (truthy v))) ZE._auto_1):SC C a f:=by
 obtain⟨t,p,q⟩:=ha;exact⟨_,yK p he,λ σ H Hv ρ Q e s w=>q σ H Hv ρ _ e s w⟩
def SW (C:Ctx)(e:Expr)(f:EE):Prop:=
 ∃ t:TT,PW C.X e t/\∀ σ H Hv ρ Q,EnvR C.X.K Hv ρ σ->Same Hv H->Ok C.X.K Hv H (C.W σ) C.cls (f ρ) (λ v H'=>∃ b,v=.bl b/\Q b H')->t σ H Q
def TakC (C:Ctx)(t:TT)(f:EE):Prop:=∀ σ H Hv ρ Q,EnvR C.X.K Hv ρ σ->Same Hv H->Ok C.X.K Hv H (C.W σ) C.cls (f ρ) (λ v H'=>∃ b,v=.bl b/\Q b H')->t σ H Q
theorem TakC.step {tt:TT}(qa:TakC C tt f){σ:St}{H Hv Hv1 H1:Hp}{ρ:Dv.Env}{Q:VK}{T:Bool->Hp->Prop}{k:D->Bool->R}(e:EnvR C.X.K Hv ρ σ)(x:Ext Hv H Hv1 H1)(q:Ok C.X.K Hv H (C.W σ) C.cls ((f ρ).bind k) Q)
  (nb:∀ d fr,f ρ=.ok d fr->(∀ b,d≠.bl b)->k d fr=.bad)
  (next:∀ b fr Hv2 H2,f ρ=.ok (.bl b) fr->Ext Hv H Hv2 H2->Ext Hv1 H1 Hv2 H2->Ok C.X.K Hv H (C.W σ) C.cls (k (.bl b) fr) Q->T b H2):tt σ H1 T:=by
 refine qa σ H1 Hv1 ρ _ (e.same x.vv) x.vh ?_
 cases hf:f ρ with
 | bad=>rw[hf] at q;exact q
 | exc c=>rw[hf] at q;exact λ Hv' H' y=>q Hv' H' (x.trans y)
 | ok d fr=>
  intro v Hv2 H2 y r n;cases d with
  | bl b=>
   unfold Rp at r;rw[hf] at q;exact⟨b,r,next b fr Hv2 H2 hf (x.trans y) y q⟩
  | _=>
   have z:=nb _ _ hf (by intro b z;cases z);rw[hf] at q;have q':Ok C.X.K Hv H (C.W σ) C.cls (k _ fr) Q:=q;rw[z] at q';exact q'.elim
theorem fQ (op:BoolOp)(ha:SC C a f):SW C (.BoolOp op [a] pos) f:=by
 obtain⟨t,p,q⟩:=ha;cases op with
 | And=>exact⟨t,wD p,q⟩
 | Or=>exact⟨t,yM p,q⟩
theorem ju {rest:List Expr}(ha:SC C a f)(hb:SW C (.BoolOp .Or (b::rest) pos) g):SW C (.BoolOp .Or (a::b::rest) pos) (Dv.eOr f g):=by
 obtain⟨t,p,q⟩:=ha;obtain⟨u,p2,q2⟩:=hb;refine⟨_,Aa p p2,λ σ H Hv ρ Q e s w=>?_⟩;refine TakC.step q e (.refl s) w (λ d fr _ nb=>by cases d <;>first|rfl|exact absurd rfl (nb _)) λ b fr Hv2 H2 hf x y w2=>?_
 cases b with
 | false=>exact yr (q2 σ H2 Hv2 ρ _ (e.same x.vv) x.vh (Ok.later x (show Ok _ _ _ _ _ (g ρ) _ from w2)))
 | true=>
  obtain⟨b,e1,q3⟩:=(show Ok C.X.K Hv H (C.W σ) C.cls (.ok (.bl true) true) (λ v H'=>∃ b,v=.bl b/\Q b H') from w2).at (v:=.bl true) x (by unfold Rp;rfl) rfl;cases e1;exact yR q3
theorem qN (h:SW C a f):SC C a f:=let ⟨t,p,q⟩:=h;⟨t,p.pt,q⟩
theorem f7 (ha:SC C a f):SC C (.UnaryOp .Not a pos) (Dv.eNot f):=by
 obtain⟨t,p,q⟩:=ha;refine⟨_,yb p,λ σ H Hv ρ Q e s w=>?_⟩;refine TakC.step q e (.refl s) w (λ d fr _ nb=>by cases d <;>first|rfl|exact absurd rfl (nb _)) λ b fr Hv2 H2 hf x y w2=>?_
 obtain⟨b',e1,q3⟩:=(show Ok C.X.K Hv H (C.W σ) C.cls (.ok (.bl (!b)) true) (λ v H'=>∃ b,v=.bl b/\Q b H') from w2).at (v:=.bl (!b)) x (by unfold Rp;rfl) rfl;cases e1;exact q3
theorem uh {op:BoolOp}(ha:SE C a f):SE C (.BoolOp op [a] pos) f:=let ⟨t,p,q⟩:=ha;⟨t,yT p,q⟩
theorem uN {rest:List Expr}(ha:SE C a f)(hb:SE C (.BoolOp .And (b::rest) pos) g):SE C (.BoolOp .And (a::b::rest) pos) (Dv.eAnd f g):=by
 obtain⟨t,p,q⟩:=ha;obtain⟨u,p2,q2⟩:=hb;refine⟨_,yA p p2,λ σ H Hv ρ Q e s w=>?_⟩;refine Tak.step q e (.refl s) w λ v d fr Hv2 H2 hf x y rp n w2=>?_
 cases d with
 | bl c=>
  unfold Rp at rp;refine⟨c,rp,?_⟩;cases c with
  | true=>exact yR (q2 σ H2 Hv2 ρ _ (e.same x.vv) x.vh (Ok.later x (show Ok _ _ _ _ _ (g ρ) _ from w2)))
  | false=>exact yr ((show Ok C.X.K Hv H (C.W σ) C.cls (.ok (.bl false) true) Q from w2).at (v:=.bl false) x (by unfold Rp;rfl) rfl)
 | _=>exact(show False from w2).elim
theorem yo (ha:SE C a f):SE C (.UnaryOp .Not a pos) (Dv.eNot f):=by
 obtain⟨t,p,q⟩:=ha;refine⟨_,yz p,λ σ H Hv ρ Q e s w=>?_⟩;refine Tak.step q e (.refl s) w λ v d fr Hv2 H2 hf x y rp n w2=>?_
 cases d with
 | bl c=>
  unfold Rp at rp;exact⟨c,rp,(show Ok C.X.K Hv H (C.W σ) C.cls (.ok (.bl (!c)) true) Q from w2).at (v:=.bl (!c)) x (by unfold Rp;rfl) rfl⟩
 | _=>exact(show False from w2).elim
theorem mX (ha:SE C a f):SE C (.UnaryOp .USub a pos) (Dv.eNeg f):=by
 obtain⟨t,p,q⟩:=ha;refine⟨_,zK yc p,λ σ H Hv ρ Q e s w=>?_⟩;refine Tak.step q e (.refl s) w λ v d fr Hv2 H2 hf x y rp n w2=>?_
 cases d with
 | int i=>
  unfold Rp at rp;exact⟨i,rp,(show Ok C.X.K Hv H (C.W σ) C.cls (.ok (.int (-i)) true) Q from w2).at (v:=.int (-i)) x (by unfold Rp;rfl) rfl⟩
 | _=>exact(show False from w2).elim
theorem aq:SL C [] Dv.lNil:=⟨_,az,λ σ H Hv ρ Q e s q=>q [] Hv H (.refl s) .nil λ _=>.nil,λ ρ ds fr h=>by cases h;rfl⟩
theorem af (ha:SE C a f)(hr:SL C es fl)(hs:autoParam (starEach (a::es) C.X.env=(false,eval a C.X.env)::starEach es C.X.env) ZF._auto_1):SL C (a::es) (Dv.lCons f fl):=by
 obtain⟨t,p,q⟩:=ha;obtain⟨u,p2,q2,l2⟩:=hr;refine⟨_,ar p p2 hs,λ σ H Hv ρ Q e s w=>?_,λ ρ ds fr h=>?_⟩
 rotate_left
 ·unfold Dv.lCons at h
  cases hf:f ρ with
  | bad=>rw[hf] at h;cases h
  | exc c=>rw[hf] at h;cases h
  | ok d f1=>
   cases hg:fl ρ with
   | bad=>rw[hf,hg] at h;cases h
   | exc c=>rw[hf,hg] at h;cases h
   | ok d2 f2=>
    rw[hf,hg] at h;cases h;rw[A8,A8,l2 ρ d2 f2 hg]
 unfold Dv.lCons at w;refine q σ H Hv ρ _ e s ?_
 cases hf:f ρ with
 | bad=>rw[hf] at w;exact w
 | exc c=>rw[hf] at w;exact w
 | ok d fr=>
  rw[hf] at w;intro v Hv1 H1 x1 r1 n1;refine q2 σ H1 Hv1 ρ _ (e.same x1.vv) x1.vh ?_
  cases hg:fl ρ with
  | bad=>rw[hg] at w;exact w
  | exc c=>rw[hg] at w;exact λ Hv' H' y=>w Hv' H' (x1.trans y)
  | ok ds fr2=>
   rw[hg] at w;intro vs Hv2 H2 x2 r2 n2;refine w (v::vs) Hv2 H2 (x1.trans x2) (.cons (r1.same x2.vv) r2) λ z=>?_
   have z':fr=true/\fr2=true:=by simpa using z
   exact .cons ((n1 z'.1).same (Hnew.mono (.refl _) x2.hh)) ((n2 z'.2).same (Hnew.mono x1.hh (.refl _)))
theorem cg {n:Nat}(h:n<=Dv.mx):n<=sizeLine:=by
 unfold Dv.mx at h;rw[EU];omega
theorem bq (h:SL C es fl)(hz:autoParam (es.length<=Dv.mx) ZC._auto_1):SE C (.List es pos) (Dv.eLst fl):=by
 obtain⟨t,p,q,hn⟩:=h;refine⟨_,dJ p,λ σ H Hv ρ Q e s w=>?_⟩;refine TakL.step q e (.refl s) w λ vs ds fr Hv2 H2 hf x y rp n w2=>⟨?_,λ p hp=>?_⟩
 ·rw[rp.length,hn ρ ds fr hf];exact cg hz
 ·exact Ok.newL w2 x rp n p hp
theorem nV {k}(h:SL C es fl)(hz:autoParam (es.length<=Dv.mx) ZC._auto_1):SE C (.Tuple es k pos) (Dv.eTup fl):=by
 obtain⟨t,p,q,hn⟩:=h;refine⟨_,kU p,λ σ H Hv ρ Q e s w=>?_⟩;refine TakL.step q e (.refl s) w λ vs ds fr Hv2 H2 hf x y rp n w2=>⟨?_,λ p hp=>?_⟩
 ·rw[rp.length,hn ρ ds fr hf];exact cg hz
 ·exact Ok.newT w2 x rp n p hp
end
section
variable {C:Ctx}{a b c:Expr}{es:List Expr}{f g h:EE}{fl:EL}{pos:Pos}
theorem uC {op:Value->Value->Sem Value}{K:Int->Int->Prop}{G:Int->Int->V}{F:D->D->R}(o:OpR C.X op (rI K G))
  (hF:∀ d d',(∃ i j x,d=.int i/\d'=.int j/\K i j/\F d d'=.ok x true/\Dv.scal x=true/\∀ K' H',Rp K' H' x (G i j))\/F d d'=.bad):OpS C op F:=by
 refine⟨_,o,λ x y d d' H Hv H1 Hv1 W Q e rx ry q=>?_⟩
 rcases hF d d' with ⟨i,j,z,rfl,rfl,hk,hz,hs,hr⟩|hb
 ·unfold Rp at rx ry
  rw[hz] at q;exact⟨i,j,rx,ry,hk,q.at e (hr _ _) hs⟩
 ·rw[hb] at q;exact q.elim
theorem iS {op:Value->Value->Sem Value}{G:Int->Int->V}{F:D->D->R}(o:OpR C.X op (rI0 G))
  (hF:∀ d d',(∃ i j x,d=.int i/\d'=.int j/\F d d'=.ok x true/\Dv.scal x=true/\∀ K' H',Rp K' H' x (G i j))\/F d d'=.bad):OpS C op F:=by
 refine⟨_,o,λ x y d d' H Hv H1 Hv1 W Q e rx ry q=>?_⟩
 rcases hF d d' with ⟨i,j,z,rfl,rfl,hz,hs,hr⟩|hb
 ·unfold Rp at rx ry
  rw[hz] at q;exact⟨i,j,rx,ry,q.at e (hr _ _) hs⟩
 ·rw[hb] at q;exact q.elim
theorem cn {K:Er}{H:Hp}{i:Int}:Rp K H (.int i) (.int i):=by unfold Rp;rfl
theorem cT {K:Er}{H:Hp}{i:Bool}:Rp K H (.bl i) (.bl i):=by unfold Rp;rfl
theorem u4 {K:Er}{H:Hp}:Rp K H .non .non:=by unfold Rp;rfl
theorem yy:OpS C (binaryOp .Sub) (Dv.opD .sub):=iS y0 λ d d'=>by
 cases d <;>first
  | exact .inr rfl
  | (cases d' <;>first
   | exact .inr rfl
   | exact .inl ⟨_,_,_,rfl,rfl,rfl,rfl,λ _ _=>cn⟩)
theorem yh:OpS C (binaryOp .Mod) (Dv.opD .mod):=uC xX λ d d'=>by
 cases d with
 | int i=>
  cases d' with
  | int j=>
   by_cases h:0<j
   ·exact .inl ⟨i,j,.int (i%j),rfl,rfl,h,by simp[Dv.opD_ai,Dv.opD_al,Dv.opD_su,Dv.opD_mi,Dv.opD_ml,Dv.opD_mo,Dv.opD_fd,Dv.opD_po,Dv.opD_ba,Dv.opD_sh,h],rfl,λ _ _=>cn⟩
   ·exact .inr (by simp[Dv.opD_ai,Dv.opD_al,Dv.opD_su,Dv.opD_mi,Dv.opD_ml,Dv.opD_mo,Dv.opD_fd,Dv.opD_po,Dv.opD_ba,Dv.opD_sh,h])
  | _=>exact .inr rfl
 | _=>exact .inr rfl
theorem t7:OpR C.X (binaryOp .FloorDiv) (rI (λ _ j=>0<j/\j.natAbs.log2<9000) λ i j=>.int (i/j)):=opI λ i j _ _ _ _ _ hc q=>by
 have h1:(0:Int)<j:=hc.1;exact floordiv_int (by omega) (by rw[Dd i (by omega)];exact q) (.inl (PyProof.noPylong_of_log2 hc.2))
theorem we:OpS C (binaryOp .FloorDiv) (Dv.opD .fdiv):=uC t7 λ d d'=>by
 cases d with
 | int i=>
  cases d' with
  | int j=>
   by_cases h:Dv.divOk j=true
   ·refine .inl ⟨i,j,.int (i/j),rfl,rfl,?_,by simp[Dv.opD_ai,Dv.opD_al,Dv.opD_su,Dv.opD_mi,Dv.opD_ml,Dv.opD_mo,Dv.opD_fd,Dv.opD_po,Dv.opD_ba,Dv.opD_sh,h],rfl,λ _ _=>cn⟩
    unfold Dv.divOk at h;simpa using h
   ·exact .inr (by simp[Dv.opD_ai,Dv.opD_al,Dv.opD_su,Dv.opD_mi,Dv.opD_ml,Dv.opD_mo,Dv.opD_fd,Dv.opD_po,Dv.opD_ba,Dv.opD_sh,h])
  | _=>exact .inr rfl
 | _=>exact .inr rfl
theorem xY:OpS C (binaryOp .RShift) (Dv.opD .shr):=uC zv λ d d'=>by
 cases d with
 | int i=>
  cases d' with
  | int j=>
   by_cases h:0<=j
   ·exact .inl ⟨i,j,.int (i/2 ^ j.toNat),rfl,rfl,h,by simp[Dv.opD_ai,Dv.opD_al,Dv.opD_su,Dv.opD_mi,Dv.opD_ml,Dv.opD_mo,Dv.opD_fd,Dv.opD_po,Dv.opD_ba,Dv.opD_sh,h],rfl,λ _ _=>cn⟩
   ·exact .inr (by simp[Dv.opD_ai,Dv.opD_al,Dv.opD_su,Dv.opD_mi,Dv.opD_ml,Dv.opD_mo,Dv.opD_fd,Dv.opD_po,Dv.opD_ba,Dv.opD_sh,h])
  | _=>exact .inr rfl
 | _=>exact .inr rfl
def xn (K:Er):R2:=λ x y H Q=>∃ l b xs zs,x=.ref l/\y=.ref b/\SqX K H l xs/\SqX K H b zs/\xs.length+zs.length<=sizeLine/\∀ p,H p=none->Q (.ref p) (upd H p (.lst (xs++zs)))
theorem pU {X:Cx}:OpR X (binaryOp .Add) (xn X.K):=by
 intro pins s σ H x y v u Q I rx ry h;obtain⟨l,b,xs,zs,rfl,rfl,hH,hB,hz,q⟩:=h;cases rx;cases ry;obtain⟨its,n,r,e,z⟩:=Inv.listX I hH;obtain⟨its2,n2,r2,e2,z2⟩:=Inv.listX I hB;have hl:=r.length;have hl2:=r2.length;refine PySem.P.add_list e e2 ?_ (by rw[Bd,Bd];omega)
 have ea:its.toArray++its2.toArray=(its++its2).toArray:=by simp
 rw[ea];exact⟨.ref _,_,I.lnew (t':=s.toks) (r.append r2) (by rw[Bo];omega),rfl,q _ I.fresh⟩
theorem ze:OpS C (binaryOp .Add) (Dv.opD .add):=by
 refine⟨_,OpR.or yP pU,λ x y d d' H Hv H1 Hv1 W Q e rx ry q=>?_⟩;cases d with
 | int i=>
  cases d' with
  | int j=>
   unfold Rp at rx ry;exact .inl ⟨i,j,rx,ry,(show Ok _ _ _ _ _ (.ok (.int (i+j)) true) Q from q).at e cn rfl⟩
  | _=>exact(show False from q).elim
 | lst xs=>
  cases d' with
  | lst ys=>
   unfold Rp at rx ry;obtain⟨l,vs,rfl,h1,h2⟩:=rx;obtain⟨m,ws,rfl,h3,h4⟩:=ry;by_cases hz:xs.length+ys.length<=Dv.mx
   ·have q':Ok C.X.K Hv H W C.cls (.ok (.lst (xs++ys)) (Dv.flatL xs&&Dv.flatL ys)) Q:=by simpa[Dv.opD_ai,Dv.opD_al,Dv.opD_su,Dv.opD_mi,Dv.opD_ml,Dv.opD_mo,Dv.opD_fd,Dv.opD_po,Dv.opD_ba,Dv.opD_sh,hz] using q
    refine .inr ⟨l,m,vs,ws,rfl,rfl,h1.same e.vh,h3.same e.vh,?_,λ p hp=>Ok.newL q' e (h2.append h4) (λ z=>?_) p hp⟩
    ·rw[h2.length,h4.length];exact cg hz
    ·rw[Bj] at z
     exact(h2.flat z.1).append (h4.flat z.2)
   ·have q':False:=by simpa[Dv.opD_ai,Dv.opD_al,Dv.opD_su,Dv.opD_mi,Dv.opD_ml,Dv.opD_mo,Dv.opD_fd,Dv.opD_po,Dv.opD_ba,Dv.opD_sh,hz,Ok] using q
    exact q'.elim
  | _=>exact(show False from q).elim
 | _=>exact(show False from q).elim
theorem vP (i:Int):Hh i=Dv.bits i:=by
 unfold Hh Dv.bits;by_cases h:i=0
 ·simp[h]
 ·simp[h]
theorem w6:OpR C.X (binaryOp .Mult) (rI (λ i j=>Dv.mulOk i j=true) λ i j=>.int (i*j)):=opI λ i j _ _ _ _ _ hc q=>by
 refine mul_int q ?_
 unfold Dv.mulOk at hc;simp only[D6,Bj,decide_eq_true_eq,<- vP] at hc
 rcases hc with (hc|hc)|hc
 ·exact .of_left hc
 ·exact .of_right hc
 ·exact .of_bits (by simpa using hc.1) (by simpa using hc.2)
def zW (K:Er):R2:=λ x y H Q=>∃ l k xs,x=.ref l/\y=.int k/\SqX K H l xs/\-(2 ^ 63)<=k/\k<2 ^ 63/\xs.length*k.toNat<=sizeLine /\
 ∀ p,H p=none->Q (.ref p) (upd H p (.lst (List.replicate k.toNat xs).flatten))
theorem vN {X:Cx}:OpR X (binaryOp .Mult) (zW X.K):=by
 intro pins s σ H x y v u Q I rx ry h;obtain⟨l,k,xs,rfl,rfl,hH,h1,h2,hz,q⟩:=h;cases rx;obtain⟨t,rfl⟩:=ry;obtain⟨its,n,r,e,z⟩:=Inv.listX I hH;have hl:=r.length;have hlen:its.toArray.size*k.toNat<=sizeLine:=by rw[Bd,<- hl];exact hz
 have hcap:¬ its.toArray.size*k.toNat > (2 ^ 63-1)/8:=by
  have:(sizeLine:Nat)<=(2 ^ 63-1)/8:=by decide
  omega
 have hfit:¬ (!Builtin.List.listFitsIndex k)=true:=by
  rw[fitsIndex_both h1 h2];exact Br
 have hlong:¬ FB (its.toArray.size*k.toNat)=true:=by
  rw[mE hlen];exact Br
 have hnew:List.foldl (λ x1 x2=>x1++x2) #[] (List.replicate (if its.toArray.isEmpty=true then 0 else k.toNat) its.toArray)=(List.replicate k.toNat its).flatten.toArray:=by
  have f0:∀ m:Nat,List.foldl (λ x1 x2=>x1++x2) #[] (List.replicate m its.toArray)=(List.replicate m its).flatten.toArray:=λ m=>by
   have:=foldl_rep its m [];rw[Bg] at this;exact this
  rw[f0];cases its with
  | nil=>simp
  | cons a r'=>rw[if_neg (by simp)]
 refine wpAny_binaryOp_repeat_ref (T:="list") (U:="int") (by decide) ⟨_,e,rfl⟩ (λ s'=>typeIs_int s' k t) noFill_list_mul F.fills_int_mul F.slot_int_rmul repeat_list F.slot_int_index.lookup
  (FM F.slot_int_rmul (typeIs_int s k t) F.entry_int_rmul (F.args_int_rmul_2 _ _) (int___rmul___int_list k t l its.toArray n)
   ⟨e,rfl,⟨_,e,rfl⟩,FM F.slot_list_mul ⟨_,e,rfl⟩ F.entry_list_mul (F.args_list_mul_2 _ _) (AutoListH.list___mul___list_int_3 l its.toArray n k t hfit hcap hlong) ⟨e,?_⟩⟩)
 rw[hnew];exact⟨.ref _,_,I.lnew (t':=s.toks) (r.rep k.toNat) (by rw[len_rep,Ds];exact hz),rfl,q _ I.fresh⟩
theorem RpL.rep {K:Er}{H:Hp}{ds:List D}{vs:List V}(h:RpL K H ds vs):∀ k:Nat,RpL K H (List.replicate k ds).flatten (List.replicate k vs).flatten
 | 0=>.nil
 | k+1=>by
  rw[BP,BP,B7,B7];exact h.append (RpL.rep h k)
theorem yp:OpS C (binaryOp .Mult) (Dv.opD .mul):=by
 refine⟨_,OpR.or w6 vN,λ x y d d' H Hv H1 Hv1 W Q e rx ry q=>?_⟩;cases d with
 | int i=>
  cases d' with
  | int j=>
   unfold Rp at rx ry;by_cases h:Dv.mulOk i j=true
   ·have q':Ok C.X.K Hv H W C.cls (.ok (.int (i*j)) true) Q:=by simpa[Dv.opD_ai,Dv.opD_al,Dv.opD_su,Dv.opD_mi,Dv.opD_ml,Dv.opD_mo,Dv.opD_fd,Dv.opD_po,Dv.opD_ba,Dv.opD_sh,h] using q
    exact .inl ⟨i,j,rx,ry,h,q'.at e cn rfl⟩
   ·have q':False:=by simpa[Dv.opD_ai,Dv.opD_al,Dv.opD_su,Dv.opD_mi,Dv.opD_ml,Dv.opD_mo,Dv.opD_fd,Dv.opD_po,Dv.opD_ba,Dv.opD_sh,h,Ok] using q
    exact q'.elim
  | _=>exact(show False from q).elim
 | lst xs=>
  cases d' with
  | int j=>
   unfold Rp at rx ry;obtain⟨l,vs,rfl,h1,h2⟩:=rx;subst ry;by_cases hz:(decide (-100000<=j)&&decide (j<=Dv.mx)&&decide (xs.length*j.toNat<=Dv.mx))=true
   ·have q':Ok C.X.K Hv H W C.cls (.ok (.lst (List.replicate j.toNat xs).flatten) (Dv.flatL xs)) Q:=by
     simp only[Dv.opD_ai,Dv.opD_al,Dv.opD_su,Dv.opD_mi,Dv.opD_ml,Dv.opD_mo,Dv.opD_fd,Dv.opD_po,Dv.opD_ba,Dv.opD_sh,hz,if_true] at q;exact q
    simp only[Bj,decide_eq_true_eq] at hz;have hj:j<=100000:=hz.1.2;have hj0:-100000<=j:=hz.1.1;refine .inr ⟨l,j,vs,rfl,rfl,h1.same e.vh,by omega,by omega,?_,λ p hp=>Ok.newL q' e (h2.rep _) (λ z=>?_) p hp⟩
    ·rw[h2.length];exact cg hz.2
    ·exact(h2.flat z).rep _
   ·simp only[Dv.opD_ai,Dv.opD_al,Dv.opD_su,Dv.opD_mi,Dv.opD_ml,Dv.opD_mo,Dv.opD_fd,Dv.opD_po,Dv.opD_ba,Dv.opD_sh,hz] at q
    exact(show False from q).elim
  | _=>exact(show False from q).elim
 | _=>exact(show False from q).elim
theorem zw:OpS C (compareOp .Lt) (Dv.cmD .lt):=iS Ad λ d d'=>by
 cases d <;>first
  | exact .inr rfl
  | (cases d' <;>first|exact .inr rfl|exact .inl ⟨_,_,_,rfl,rfl,rfl,rfl,λ _ _=>cT⟩)
theorem zF:OpS C (compareOp .LtE) (Dv.cmD .le):=iS zP λ d d'=>by
 cases d <;>first
  | exact .inr rfl
  | (cases d' <;>first|exact .inr rfl|exact .inl ⟨_,_,_,rfl,rfl,rfl,rfl,λ _ _=>cT⟩)
theorem Al:OpS C (compareOp .Gt) (Dv.cmD .gt):=iS u9 λ d d'=>by
 cases d <;>first
  | exact .inr rfl
  | (cases d' <;>first|exact .inr rfl|exact .inl ⟨_,_,_,rfl,rfl,rfl,rfl,λ _ _=>cT⟩)
theorem Ap:OpS C (compareOp .GtE) (Dv.cmD .ge):=iS Af λ d d'=>by
 cases d <;>first
  | exact .inr rfl
  | (cases d' <;>first|exact .inr rfl|exact .inl ⟨_,_,_,rfl,rfl,rfl,rfl,λ _ _=>cT⟩)
mutual
def pd:D->PyData
 | .non=>.none
 | .bl b=>.bool b
 | .int i=>.int i
 | .str x=>.str ⟨(Dv.clipS x).toArray⟩
 | .lst ds=>.list (pdL ds)
 | .tup ds=>.tuple (pdL ds)
 | .exn _=>.none
 | .raw _=>.none
 | .tab _=>.none
 | .dct _ _=>.none
 | .ins _ _=>.none
def pdL:List D->List PyData
 | []=>[]
 | d::r=>pd d::pdL r
end
mutual
theorem gv:∀ d:D,(pd d).canLay0=true
 | .non=>by simp[pd,E5]
 | .bl _=>by simp[pd,E5]
 | .int _=>by simp[pd,E5]
 | .str x=>by
  have:∀ n:Nat,n%1114112<1114112:=λ n=>DM _ (by decide)
  simp[pd,E5,PyData.strOk,Dv.clipS,this]
 | .lst ds=>by simp[pd,E5,gS ds]
 | .tup ds=>by simp[pd,E5,gS ds]
 | .exn _=>by simp[pd,E5]
 | .raw _=>by simp[pd,E5]
 | .tab _=>by simp[pd,E5]
 | .dct _ _=>by simp[pd,E5]
 | .ins _ _=>by simp[pd,E5]
theorem gS:∀ ds:List D,Gz (pdL ds)=true
 | []=>by simp[pdL,Gz]
 | d::r=>by simp[pdL,Gz,gv d,gS r]
end
mutual
theorem dS:∀ d:D,(pd d).depth<=Dv.depthD d
 | .non=>by simp[pd,Fc,Dv.depthD]
 | .bl _=>by simp[pd,Fc,Dv.depthD]
 | .int _=>by simp[pd,Fc,Dv.depthD]
 | .str _=>by simp[pd,Fc,Dv.depthD]
 | .lst ds=>by have:=eA ds;simp[pd,Fc,Dv.depthD];omega
 | .tup ds=>by have:=eA ds;simp[pd,Fc,Dv.depthD];omega
 | .exn _=>by simp[pd,Fc,Dv.depthD]
 | .raw _=>by simp[pd,Fc,Dv.depthD]
 | .tab _=>by simp[pd,Fc,Dv.depthD]
 | .dct _ _=>by simp[pd,Fc,Dv.depthD]
 | .ins _ _=>by simp[pd,Fc,Dv.depthD]
theorem eA:∀ ds:List D,Ga (pdL ds)<=Dv.depthL ds
 | []=>by simp[pdL,Ga,Dv.depthL]
 | d::r=>by have:=dS d;have:=eA r;simp[pdL,Ga,Dv.depthL];omega
end
mutual
theorem kA:∀ (a b:D) (r:Bool),Dv.eqD a b=some r->FN (pd a) (pd b)=r
 | .non,b,r,h=>by
  cases b with
  | non=>cases (show some true=some r from h);simp[pd,FN]
  | _=>exact(nomatch (show (none:Option Bool)=some r from h))
 | .bl p,b,r,h=>by
  cases b with
  | bl q=>cases (show some (p == q)=some r from h);simp[pd,FN]
  | _=>exact(nomatch (show (none:Option Bool)=some r from h))
 | .int p,b,r,h=>by
  cases b with
  | int q=>cases (show some (decide (p=q))=some r from h);simp[pd,FN,C1]
  | _=>exact(nomatch (show (none:Option Bool)=some r from h))
 | .str p,b,r,h=>by
  cases b with
  | str q=>cases (show some (decide (Dv.clipS p=Dv.clipS q))=some r from h);simp[pd,FN,C1]
  | _=>exact(nomatch (show (none:Option Bool)=some r from h))
 | .lst xs,b,r,h=>by
  cases b with
  | lst ys=>
   have h:Dv.eqDL xs ys=some r:=h;simp only[pd,FN];exact kX _ _ _ h
  | _=>exact(nomatch (show (none:Option Bool)=some r from h))
 | .tup xs,b,r,h=>by
  cases b with
  | tup ys=>
   have h:Dv.eqDL xs ys=some r:=h;simp only[pd,FN];exact kX _ _ _ h
  | _=>exact(nomatch (show (none:Option Bool)=some r from h))
 | .exn _,b,r,h=>by cases b <;>exact(nomatch (show (none:Option Bool)=some r from h))
 | .raw _,b,r,h=>by cases b <;>exact(nomatch (show (none:Option Bool)=some r from h))
 | .tab _,b,r,h=>by cases b <;>exact(nomatch (show (none:Option Bool)=some r from h))
 | .dct _ _,b,r,h=>by cases b <;>exact(nomatch (show (none:Option Bool)=some r from h))
theorem kX:∀ (a b:List D) (r:Bool),Dv.eqDL a b=some r->F2 (pdL a) (pdL b)=r
 | [],[],r,h=>by simp[Dv.eqDL] at h;subst h;simp[pdL,F2]
 | [],_::_,r,h=>by simp[Dv.eqDL] at h;subst h;simp[pdL,F2]
 | _::_,[],r,h=>by simp[Dv.eqDL] at h;subst h;simp[pdL,F2]
 | x::xs,y::ys,r,h=>by
  simp only[Dv.eqDL] at h;cases h1:Dv.eqD x y with
  | none=>rw[h1] at h;cases h
  | some p=>
   cases h2:Dv.eqDL xs ys with
   | none=>rw[h1,h2] at h;cases h
   | some q=>
    rw[h1,h2] at h;cases h;simp only[pdL,F2,kA x y p h1,kX xs ys q h2]
end
mutual
theorem cN {X:Cx}{pins:List (Addr×Obj)}{σ:St}{H:Hp}{s:Shared}(I:Inv X pins σ H s):∀ (d:D) (v:V) (u:Value),Rp X.K H d v->RelV v u->Dv.depthD d<=9->∃ as,Reads s.heap u (pd d) as
 | .non,v,u,h,r,_=>by unfold Rp at h;subst h;cases r;unfold pd;exact⟨_,.none⟩
 | .bl b,v,u,h,r,_=>by unfold Rp at h;subst h;cases r;unfold pd;exact⟨_,.bool b⟩
 | .int i,v,u,h,r,_=>by unfold Rp at h;subst h;obtain⟨t,rfl⟩:=r;unfold pd;exact⟨_,.int i t⟩
 | .str x,v,u,h,r,_=>by unfold Rp at h;subst h;obtain⟨t,rfl⟩:=r;unfold pd;exact⟨_,.str _ t⟩
 | .exn _,v,u,h,r,hd=>by unfold Dv.depthD at hd;omega
 | .raw _,v,u,h,r,hd=>by unfold Dv.depthD at hd;omega
 | .tab _,v,u,h,r,hd=>by unfold Dv.depthD at hd;omega
 | .dct _ _,v,u,h,r,hd=>by unfold Dv.depthD at hd;omega
 | .lst ds,v,u,h,r,hd=>by
  unfold Rp at h;unfold Dv.depthD at hd;obtain⟨a,vs,rfl,h1,h2⟩:=h;cases r;obtain⟨its,n,rv,e,_⟩:=Inv.listX I h1;obtain⟨as,ra⟩:=gc I ds vs its h2 rv (by omega);unfold pd;exact⟨_,.list e rfl rfl (by simpa using ra)⟩
 | .tup ds,v,u,h,r,hd'=>by
  unfold Rp at h;unfold Dv.depthD at hd';obtain⟨a,vs,rfl,h1,h2⟩:=h;cases r;obtain⟨_,its,rv,o,e,hc,n,hd⟩:=h1.ok I.hok;obtain⟨as,ra⟩:=gc I ds vs its h2 rv (by omega);unfold pd;exact⟨_,.tuple e hc hd (by simpa using ra)⟩
theorem gc {X:Cx}{pins:List (Addr×Obj)}{σ:St}{H:Hp}{s:Shared}(I:Inv X pins σ H s):∀ (ds:List D) (vs:List V) (us:List Value),RpL X.K H ds vs->Vals vs us->Dv.depthL ds<=9->∃ as,ReadsAll s.heap us (pdL ds) as
 | [],vs,us,h,r,_=>by unfold RpL at h;subst h;cases r;unfold pdL;exact⟨_,.nil⟩
 | d::ds,vs,us,h,r,hd=>by
  unfold RpL at h;unfold Dv.depthL at hd;obtain⟨v,ws,rfl,h1,h2⟩:=h;cases r with
  | cons r1 r2=>
   obtain⟨as,ra⟩:=cN I d v _ h1 r1 (by omega);obtain⟨bs,rb⟩:=gc I ds ws _ h2 r2 (by omega);unfold pdL;exact⟨_,.cons ra rb⟩
end
def zA (K:Er)(neg:Bool):R2:=λ x y H Q=>∃ d d' b,Rp K H d x/\Rp K H d' y/\Dv.depthD d<=9/\Dv.depthD d'<=9/\Dv.eqD d d'=some b/\Q (.bl (if neg then !b else b)) H
theorem yw (hu:C.X.A.units+64<cLine):OpR C.X (compareOp .Eq) (zA C.X.K false):=by
 intro pins s σ H x y v u Q I rx ry h;obtain⟨d,d',b,h1,h2,z1,z2,e,q⟩:=h;obtain⟨as,ra⟩:=cN I d x v h1 rx z1;obtain⟨bs,rb⟩:=cN I d' y u h2 ry z2;refine SeqAt.compareEq_reads ra rb (gv d) (gv d') ?_ ⟨.bl b,H,I,?_,q⟩
 ·have:=dS d
  have:=dS d';have:=Dy (pd d).depth (pd d').depth;omega
 ·rw[kA _ _ _ e];rfl
theorem xV (hu:C.X.A.units+64<cLine):OpR C.X (compareOp .NotEq) (zA C.X.K true):=by
 intro pins s σ H x y v u Q I rx ry h;obtain⟨d,d',b,h1,h2,z1,z2,e,q⟩:=h;obtain⟨as,ra⟩:=cN I d x v h1 rx z1;obtain⟨bs,rb⟩:=cN I d' y u h2 ry z2;refine SeqAt.compareNe_reads ra rb (gv d) (gv d') ?_ ⟨.bl (!b),H,I,?_,q⟩
 ·have:=dS d
  have:=dS d';have:=Dy (pd d).depth (pd d').depth;omega
 ·rw[kA _ _ _ e];rfl
theorem os_eq:OpS C (compareOp .Eq) (Dv.cmD .eq):=by
 refine⟨_,yw C.un,λ x y d d' H Hv H1 Hv1 W Q e rx ry q=>?_⟩;simp only[Dv.cmD_eq,Dv.cmD_ne,Dv.cmD_lt,Dv.cmD_le,Dv.cmD_gt,Dv.cmD_ge,Dv.cmD_in,Dv.cmD_ni,Dv.cmD_it,Dv.cmD_nt] at q;by_cases hz:(decide (Dv.depthD d<=9)&&decide (Dv.depthD d'<=9))=true
 ·rw[if_pos hz] at q
  simp only[Bj,decide_eq_true_eq] at hz;cases he:Dv.eqD d d' with
  | none=>rw[he] at q;exact(show False from q).elim
  | some b=>
   rw[he] at q;exact⟨d,d',b,rx.same e.vh,ry.same e.vh,hz.1,hz.2,he,Ok.at (d:=.bl b) (fr:=true) q e cT rfl⟩
 ·rw[if_neg hz] at q;exact(show False from q).elim
theorem zx:OpS C (compareOp .NotEq) (Dv.cmD .ne):=by
 refine⟨_,xV C.un,λ x y d d' H Hv H1 Hv1 W Q e rx ry q=>?_⟩;simp only[Dv.cmD_eq,Dv.cmD_ne,Dv.cmD_lt,Dv.cmD_le,Dv.cmD_gt,Dv.cmD_ge,Dv.cmD_in,Dv.cmD_ni,Dv.cmD_it,Dv.cmD_nt] at q;by_cases hz:(decide (Dv.depthD d<=9)&&decide (Dv.depthD d'<=9))=true
 ·rw[if_pos hz] at q
  simp only[Bj,decide_eq_true_eq] at hz;cases he:Dv.eqD d d' with
  | none=>rw[he] at q;exact(show False from q).elim
  | some b=>
   rw[he] at q;exact⟨d,d',b,rx.same e.vh,ry.same e.vh,hz.1,hz.2,he,Ok.at (d:=.bl (!b)) (fr:=true) q e cT rfl⟩
 ·rw[if_neg hz] at q;exact(show False from q).elim
theorem ot:∀ (i:Int) (ds:List D) (vs:List V) (b:Bool) {K:Er} {H:Hp},Dv.inD i ds=some b->RpL K H ds vs->vs.all eG=true/\inV (.int i) vs=b
 | i,[],vs,b,K,H,h,r=>by
  unfold RpL at r;subst r;simp[Dv.inD] at h;subst h;exact⟨rfl,rfl⟩
 | i,d::ds,vs,b,K,H,h,r=>by
  unfold RpL at r;obtain⟨v,ws,rfl,h1,h2⟩:=r;cases d with
  | int j=>
   simp only[Dv.inD,B3] at h;obtain⟨c,hc,rfl⟩:=h;obtain⟨z1,z2⟩:=ot i ds ws c hc h2;unfold Rp at h1;subst h1;refine⟨by simp[eG,z1],?_⟩;have:inV (.int i) (.int j::ws)=(eqV (.int j) (.int i) || inV (.int i) ws):=rfl;rw[this,z2];show ((j == i) || c)=(decide (j=i) || c)
   rw[C1]
  | _=>simp[Dv.inD] at h
theorem uM:OpS C (compareOp .NotIn) (Dv.cmD .notin):=by
 refine⟨_,kg,λ x y d d' H Hv H1 Hv1 W Q e rx ry q=>?_⟩;cases d with
 | int i=>
  cases d' with
  | lst ds=>
   simp only[Dv.cmD_eq,Dv.cmD_ne,Dv.cmD_lt,Dv.cmD_le,Dv.cmD_gt,Dv.cmD_ge,Dv.cmD_in,Dv.cmD_ni,Dv.cmD_it,Dv.cmD_nt] at q;cases hi:Dv.inD i ds with
   | none=>rw[hi] at q;exact(show False from q).elim
   | some b=>
    rw[hi] at q;unfold Rp at rx ry;subst rx;obtain⟨l,vs,rfl,h1,h2⟩:=ry;obtain⟨z1,z2⟩:=ot i ds vs b hi h2;refine⟨l,vs,rfl,.inl (h1.same e.vh).seq,rfl,z1,?_⟩;rw[z2];exact Ok.at (d:=.bl (!b)) (fr:=true) q e cT rfl
  | _=>exact(show False from q).elim
 | _=>exact(show False from q).elim
theorem kb {ds:List D}{vs:List V}{K:Er}{H:Hp}{i:Int}{d:D}(r:RpL K H ds vs)(h:Dv.at? ds i=some d):∃ v,atI vs i=some v/\Rp K H d v:=by
 unfold Dv.at? at h;unfold atI ixN;have hl:=r.length;by_cases h0:0<=i
 ·rw[if_pos h0] at h
  obtain⟨v,h1,h2⟩:=r.get h;have hlt:i.toNat<vs.length:=(List.getElem?_eq_some_iff.mp h1).1;refine⟨v,?_,h2⟩;rw[if_pos h0,if_pos (by omega)];exact h1
 ·rw[if_neg h0] at h
  by_cases h1:-(ds.length:Int)<=i
  ·rw[if_pos h1] at h
   obtain⟨v,h2,h3⟩:=r.get h;refine⟨v,?_,h3⟩;rw[if_neg h0,if_pos (by omega)];rw[hl];exact h2
  ·rw[if_neg h1] at h;cases h
theorem pJ {K:Er}{H Hv H2 Hv2:Hp}{ds:List D}{v:V}{fr:Bool}{k:Int}{d:D}(x:Ext Hv H Hv2 H2)(hk:Dv.at? ds k=some d):
  (Rp K Hv2 (.lst ds) v->(fr=true->Rp [] (Hnew H H2) (.lst ds) v)->∃ l vs u,v=.ref l/\SqX K H2 l vs/\atI vs k=some u/\Rp K Hv2 d u/\((fr || Dv.scal d)=true->Rp [] (Hnew H H2) d u)) /\
  (Rp K Hv2 (.tup ds) v->(fr=true->Rp [] (Hnew H H2) (.tup ds) v)->∃ l vs u,v=.ref l/\Rd H2 l (.tup vs)/\atI vs k=some u/\Rp K Hv2 d u/\((fr || Dv.scal d)=true->Rp [] (Hnew H H2) d u)):=by
 constructor
 ·intro rp n
  cases fr with
  | true=>
   have rn:=n rfl;unfold Rp at rn;obtain⟨l,vs,rfl,h1,h2⟩:=rn;obtain⟨u,h3,h4⟩:=kb h2 hk;refine⟨l,vs,u,rfl,?_,h3,(Rp.frag h4).same x.news,λ _=>h4⟩
   rcases h1 with h1|⟨its,n,e,_⟩
   ·exact .inl (Rd.same Hnew.sub h1)
   ·simp at e
  | false=>
   unfold Rp at rp;obtain⟨l,vs,rfl,h1,h2⟩:=rp;obtain⟨u,h3,h4⟩:=kb h2 hk;exact⟨l,vs,u,rfl,h1.same x.vh,h3,h4,λ z=>h4.scal (by simpa using z)⟩
 ·intro rp n
  cases fr with
  | true=>
   have rn:=n rfl;unfold Rp at rn;obtain⟨l,vs,rfl,h1,h2⟩:=rn;obtain⟨u,h3,h4⟩:=kb h2 hk;exact⟨l,vs,u,rfl,Rd.same Hnew.sub h1,h3,(Rp.frag h4).same x.news,λ _=>h4⟩
  | false=>
   unfold Rp at rp;obtain⟨l,vs,rfl,h1,h2⟩:=rp;obtain⟨u,h3,h4⟩:=kb h2 hk;exact⟨l,vs,u,rfl,Rd.same x.vh h1,h3,h4,λ z=>h4.scal (by simpa using z)⟩
theorem iu (ha:SE C a f)(hb:SE C b g)(hs:autoParam (qm b) ZI._auto_1):SE C (.Subscript a b pos) (Dv.eIx f g):=by
 obtain⟨ta,pa,qa⟩:=ha;obtain⟨tb,pb,qb⟩:=hb;refine⟨_,tT (ix_list.or zh) pa pb hs,λ σ H Hv ρ Q e s w=>?_⟩;refine qa.step e (.refl s) w λ v d fr Hv1 H1 _ x1 _ rp1 n1 q1=>qb.step e x1 q1 λ v2 d2 fr2 Hv2 H2 _ x2 y2 rp2 _ q2=>?_
 have rp:=rp1.same y2.vv;have rn:fr=true->Rp [] (Hnew H H2) d v:=λ z=>(n1 z).same (Hnew.mono (.refl _) y2.hh)
 cases d2 with
 | int k=>
  unfold Rp at rp2;cases d with
  | lst ds=>
   have q3:Ok C.X.K Hv H (C.W σ) C.cls (match Dv.at? ds k with|some d=>.ok d (fr || Dv.scal d)|none=>.bad) Q:=q2;cases hk:Dv.at? ds k with
   | none=>rw[hk] at q3;exact(show False from q3).elim
   | some d=>
    rw[hk] at q3;obtain⟨l,vs,u,e1,h1,h2,h3,h4⟩:=(pJ (fr:=fr) x2 hk).1 rp rn;exact .inl ⟨l,vs,k,u,e1,rp2,h1.seq,h2,q3 u Hv2 H2 x2 h3 h4⟩
  | tup ds=>
   have q3:Ok C.X.K Hv H (C.W σ) C.cls (match Dv.at? ds k with|some d=>.ok d (fr || Dv.scal d)|none=>.bad) Q:=q2;cases hk:Dv.at? ds k with
   | none=>rw[hk] at q3;exact(show False from q3).elim
   | some d=>
    rw[hk] at q3;obtain⟨l,vs,u,e1,h1,h2,h3,h4⟩:=(pJ (fr:=fr) x2 hk).2 rp rn;exact .inr ⟨l,vs,k,u,e1,rp2,.inl h1,h2,q3 u Hv2 H2 x2 h3 h4⟩
  | _=>exact(show False from q2).elim
 | _=>cases d <;>exact(show False from q2).elim
def C1S (C:Ctx)(fv:Value)(F:D->Bool->R):Prop:=
 ∃ r,cU C.X fv r/\∀ x d fr H Hv H1 Hv1 W Q,Ext Hv H Hv1 H1->Rp C.X.K Hv1 d x->(fr=true->Rp [] (Hnew H H1) d x)->Ok C.X.K Hv H W C.cls (F d fr) Q->r [x] H1 Q
theorem lh {x:Str}{p:Pos}{id:String}{F:D->Bool->R}(o:C1S C (.builtin id) F)(hg:Gl C.X x)(hm:C.X.mg x=none)(hv:bootBuiltins x=some (.builtin id))(ha:SE C a f)
  (hn:autoParam (x≠"__name__") ZC._auto_1) (hdb:autoParam ((x == ("__debug__":Str))=false) ZC._auto_1) (he:autoParam (starEach [a] C.X.env=[(false,eval a C.X.env)]) ZF._auto_1):SE C (.Call (.Name x p) [a] [] pos) (Dv.eB1 F f):=by
 obtain⟨r,ho,hr⟩:=o;obtain⟨t,pa,qa⟩:=ha;refine⟨_,bX ho hg hm hv (ar pa az he) hn hdb he rfl,λ σ H Hv ρ Q e s w=>?_⟩;exact qa.step e (.refl s) w λ v d fr Hv1 H1 _ x1 _ rp1 n1 q1=>hr v d fr H Hv H1 Hv1 _ Q x1 rp1 n1 q1
theorem xR {x:Str}{p:Pos}{id:String}{F:D->Bool->R}(o:C1S C (.type id) F)(hg:Gl C.X x)(hm:C.X.mg x=none)(hv:bootBuiltins x=some (.type id))(ha:SE C a f)
  (hn:autoParam (x≠"__name__") ZC._auto_1) (hdb:autoParam ((x == ("__debug__":Str))=false) ZC._auto_1) (he:autoParam (starEach [a] C.X.env=[(false,eval a C.X.env)]) ZF._auto_1):SE C (.Call (.Name x p) [a] [] pos) (Dv.eB1 F f):=by
 obtain⟨r,ho,hr⟩:=o;obtain⟨t,pa,qa⟩:=ha;refine⟨_,rV ho hg hm hv (ar pa az he) hn hdb he rfl,λ σ H Hv ρ Q e s w=>?_⟩;exact qa.step e (.refl s) w λ v d fr Hv1 H1 _ x1 _ rp1 n1 q1=>hr v d fr H Hv H1 Hv1 _ Q x1 rp1 n1 q1
theorem yt:C1S C (.builtin "len") Dv.lenD:=by
 refine⟨_,bG,λ x d fr H Hv H1 Hv1 W Q e rx n q=>?_⟩;cases d with
 | lst ds=>
  unfold Rp at rx;obtain⟨l,vs,rfl,h1,h2⟩:=rx;refine⟨l,vs,rfl,.inl (h1.same e.vh).seq,?_⟩;rw[h2.length];exact Ok.at (d:=.int ds.length) (fr:=true) q e cn rfl
 | tup ds=>
  unfold Rp at rx;obtain⟨l,vs,rfl,h1,h2⟩:=rx;refine⟨l,vs,rfl,.inr (.inl (Rd.same e.vh h1)),?_⟩;rw[h2.length];exact Ok.at (d:=.int ds.length) (fr:=true) q e cn rfl
 | _=>exact(show False from q).elim
theorem wF:C1S C (.type "list") Dv.listD:=by
 refine⟨_,kq,λ x d fr H Hv H1 Hv1 W Q e rx n q=>?_⟩;cases d with
 | lst ds=>
  cases fr with
  | true=>
   have rn:=n rfl;unfold Rp at rn;obtain⟨l,vs,rfl,h1,h2⟩:=rn;have h1':SqX C.X.K H1 l vs:=by
    rcases h1 with h1|⟨its,n,e,_⟩
    ·exact .inl (Rd.same Hnew.sub h1)
    ·simp at e
   exact⟨l,vs,rfl,.inl h1'.seq,λ p hp=>Ok.newL q e ((RpL.frag h2).same e.news) (λ _=>h2) p hp⟩
  | false=>
   unfold Rp at rx;obtain⟨l,vs,rfl,h1,h2⟩:=rx;exact⟨l,vs,rfl,.inl (h1.same e.vh).seq,λ p hp=>Ok.newL q e h2 (λ z=>h2.flat (by simpa using z)) p hp⟩
 | tup ds=>
  cases fr with
  | true=>
   have rn:=n rfl;unfold Rp at rn;obtain⟨l,vs,rfl,h1,h2⟩:=rn;exact⟨l,vs,rfl,.inr (.inl (Rd.same Hnew.sub h1)),λ p hp=>Ok.newL q e ((RpL.frag h2).same e.news) (λ _=>h2) p hp⟩
  | false=>
   unfold Rp at rx;obtain⟨l,vs,rfl,h1,h2⟩:=rx;exact⟨l,vs,rfl,.inr (.inl (Rd.same e.vh h1)),λ p hp=>Ok.newL q e h2 (λ z=>h2.flat (by simpa using z)) p hp⟩
 | _=>exact(show False from q).elim
theorem cM (i:Int):∀ l:List Int,(Dv.ins i l).Perm (i::l)
 | []=>.refl _
 | j::r=>by
  unfold Dv.ins
  split
  ·exact .refl _
  ·exact((cM i r).cons j).trans (.swap i j r)
theorem ay:∀ l:List Int,(Dv.isort l).Perm l
 | []=>.refl _
 | i::r=>(cM i _).trans ((ay r).cons i)
theorem cD (i:Int):∀ l:List Int,l.Pairwise (·<=·)->(Dv.ins i l).Pairwise (·<=·)
 | [],_=>by simp[Dv.ins]
 | j::r,h=>by
  unfold Dv.ins
  split
  ·rename_i hij
   refine List.pairwise_cons.mpr ⟨λ x hx=>?_,h⟩
   rcases List.mem_cons.mp hx with rfl|hx
   ·exact hij
   ·exact DT hij ((List.pairwise_cons.mp h).1 x hx)
  ·rename_i hij
   refine List.pairwise_cons.mpr ⟨λ x hx=>?_,cD i r (List.pairwise_cons.mp h).2⟩
   rcases List.mem_cons.mp ((cM i r).mem_iff.mp hx) with rfl|hx
   ·omega
   ·exact(List.pairwise_cons.mp h).1 x hx
theorem bb:∀ l:List Int,(Dv.isort l).Pairwise (·<=·)
 | []=>.nil
 | i::r=>cD i _ (bb r)
theorem bQ:∀ {a b:List Int},a.Perm b->a.Pairwise (·<=·)->b.Pairwise (·<=·)->a=b
 | [],b,p,_,_=>by simpa using p.symm.eq_nil
 | x::a,[],p,_,_=>absurd p.eq_nil (by simp)
 | x::a,y::b,p,ha,hb=>by
  have h1:=List.pairwise_cons.mp ha;have h2:=List.pairwise_cons.mp hb;have e:x=y:=by
   have hx:x∈y::b:=p.mem_iff.mp A6;have hy:y∈x::a:=p.mem_iff.mpr A6
   rcases List.mem_cons.mp hx with e|hx
   ·exact e
   rcases List.mem_cons.mp hy with e|hy
   ·exact e.symm
   exact D7 (h1.1 y hy) (h2.1 x hx)
  subst e;rw[bQ ((Eb x).mp p) h1.2 h2.2]
theorem kB {vs:List Value}{ns:List Int}(h:IntsAre vs ns):Vals (ns.map V.int) vs:=by
 induction h with
 | nil=>exact .nil
 | cons n t _ ih=>exact .cons ⟨t,rfl⟩ ih
theorem lu {X:Cx}:cU X (.builtin "sorted") (λ xs H Q=>∃ p ns,xs=[.ref p]/\SqX X.K H p (ns.map V.int)/\ns.length<64/\∀ l,H l=none->Q (.ref l) (upd H l (.lst ((Dv.isort ns).map V.int)))):=by
 intro pins s σ H xs us Q I r h;obtain⟨p,ns,rfl,hq,h64,q⟩:=h;obtain⟨u,rfl,rx⟩:=vals1 r;cases rx;obtain⟨its,n,rv,e,z⟩:=Inv.listX I hq;have hi:=intsAre_of rv;have hl:=rv.length;rw[A4] at hl;refine sorted_ints (ns:=ns) ⟨_,e,rfl,n,rfl⟩ hi (by omega) λ out ns' a1 a2 a3=>?_
 have e1:ns'=Dv.isort ns:=bQ (a2.trans (ay ns).symm) a3 (bb ns);subst e1;obtain⟨ep,hat⟩:=sortedAll_at s.heap its out;have hf:H (s.heap.objs.size+1)=none:=I.hok.fresh (Ct _);refine⟨.ref (s.heap.objs.size+1),_,I.laid (t':=s.toks) (o:=.lst ((Dv.isort ns).map V.int)) (λ b u q=>sortedAll_old q) (Ct _) ?_,rfl,q _ hf⟩;refine⟨?_,out.toList,ep,kB a1,by simpa[seqObj] using hat⟩;rw[A4,(ay ns).length_eq];rw[EU];omega
theorem rQ:C1S C (.builtin "sorted") Dv.sortedD:=by
 refine⟨_,lu,λ x d fr H Hv H1 Hv1 W Q e rx n q=>?_⟩;cases d with
 | lst ds=>
  simp only[Dv.sortedD] at q;cases hi:Dv.intsOf ds with
  | none=>rw[hi] at q;exact(show False from q).elim
  | some ns=>
   rw[hi] at q;by_cases h64:ns.length<64
   ·simp only[h64,if_true] at q
    unfold Rp at rx;obtain⟨l,vs,rfl,h1,h2⟩:=rx;have e1:=RpL.ints hi h2;subst e1;exact⟨l,ns,rfl,h1.same e.vh,h64,λ p hp=>Ok.newL q e (RpL.ofInts _) (λ _=>RpL.ofInts _) p hp⟩
   ·simp only[h64,if_false] at q
    exact(show False from q).elim
 | _=>exact(show False from q).elim
end
open Dv (D R RL EE EL EI RI Sl Out SS)
def Nd (K:Er)(Hc:Hp):D->HO->Prop
 | .lst ds,o=>∃ vs,o=.lst vs/\RpL K Hc ds vs
 | .dct ks ds,o=>∃ vs,o=.dK ((ks.map Sum.inl).zip vs)/\ks.length=ds.length/\RpL K Hc ds vs
 | _,_=>False
theorem Nd.same {K:Er}{H H':Hp}{d:D}{o:HO}(e:Same H H')(h:Nd K H d o):Nd K H' d o:=by
 cases d with
 | lst ds=>obtain⟨vs,h1,h2⟩:=h;exact⟨vs,h1,h2.same e⟩
 | dct ks ds=>obtain⟨vs,h1,h2,h3⟩:=h;exact⟨vs,h1,h2,h3.same e⟩
 | _=>exact(show False from h).elim
theorem Nd.rp {K:Er}{H:Hp}{d:D}{o:HO}{a:Addr}(h:Nd K H d o)(ha:H a=some o):Rp K H d (.ref a):=by
 cases d with
 | lst ds=>obtain⟨vs,rfl,h2⟩:=h;unfold Rp;exact⟨a,vs,rfl,SqX.of ha,h2⟩
 | dct ks ds=>obtain⟨vs,rfl,h2,h3⟩:=h;unfold Rp;exact⟨a,vs,rfl,h2,.inl ha,h3⟩
 | _=>exact(show False from h).elim
def Jk (R:Hp)(n m:Nat)(v:V):Prop:=∃ t vs,v=.ref t/\(R t=some (.lst vs)\/R t=some (.tup vs))/\vs.length=n/\∀ x∈vs,∃ b ws,x=.ref b/\b≠t/\R b=some (.lst ws)/\ws.length<=m
structure RelC (K:Er)(Hv₀ H₀ Hc:Hp)(O:Nat->Hp)(st:Dv.St)(σ:St)(H:Hp):Prop where
 h0:Same H₀ H
 vc:Same Hv₀ Hc
 ch:Same Hc H
 new:∀ b o,Hc b=some o->Hv₀ b=none->H₀ b=none
 nf:∀ b o u,H₀ b=none->H b≠some (.frz o u)
 len:st.length=σ.length
 sh:∀ (i:Nat) (d:D),st[i]?=some (Sl.sh d)->∃ v,σ[i]?=some (some v)/\Rp K Hc d v
 ow:∀ (i:Nat) (d:D),st[i]?=some (Sl.ow d)->∃ (a:Addr) (o:HO),σ[i]?=some (some (V.ref a))/\O i a=some o/\Nd K Hc d o
 dp:∀ (i:Nat) (d:D),st[i]?=some (Sl.dp d)->∃ v,σ[i]?=some (some v)/\Rp [] (O i) d v
 jk:∀ (i n m:Nat),st[i]?=some (Sl.jk n m)->∃ v,σ[i]?=some (some v)/\Jk (O i) n m v
 oh:∀ (i:Nat) (b:Addr) (o:HO),O i b=some o->H b=some o/\Hc b=none/\H₀ b=none
 one:∀ (i j:Nat) (b:Addr) (o o':HO),O i b=some o->O j b=some o'->i=j
def Rel (K:Er)(Hv₀ H₀:Hp)(st:Dv.St)(σ:St)(H:Hp):Prop:=∃ Hc O,RelC K Hv₀ H₀ Hc O st σ H
section
variable {K:Er}{Hv₀ H₀ Hc:Hp}{O:Nat->Hp}{st:Dv.St}{σ:St}{H:Hp}
theorem RelC.less {Hv1:Hp}(r:RelC K Hc H₀ Hv1 O st σ H)(vc:Same Hv₀ Hc)(new:∀ b o,Hc b=some o->Hv₀ b=none->H₀ b=none):RelC K Hv₀ H₀ Hv1 O st σ H:=
 ⟨r.h0,vc.trans r.vc,r.ch,λ b o h n=>(by
  cases q:Hc b with
  | some u=>exact new b u q n
  | none=>exact r.new b o h q),r.nf,r.len,r.sh,r.ow,r.dp,r.jk,r.oh,r.one⟩
def v8 (O:Nat->Hp)(b:Addr):Prop:=∃ (i:Nat) (o:HO),O i b=some o
open Classical in
def e8 (Hc:Hp)(O:Nat->Hp)(H:Hp):Hp:=λ b=>if v8 O b then H b else Hc b
theorem RelC.cAll (r:RelC K Hv₀ H₀ Hc O st σ H):Same Hc (e8 Hc O H):=λ b o h=>by
 unfold e8;by_cases q:v8 O b
 ·obtain⟨i,u,h1⟩:=q
  rw[(r.oh i b u h1).2.1] at h;cases h
 ·rw[if_neg q];exact h
theorem RelC.oAll (r:RelC K Hv₀ H₀ Hc O st σ H)(i:Nat):Same (O i) (e8 Hc O H):=λ b o h=>by
 unfold e8;rw[if_pos ⟨i,o,h⟩];exact(r.oh i b o h).1
theorem RelC.allH (r:RelC K Hv₀ H₀ Hc O st σ H):Same (e8 Hc O H) H:=λ b o h=>by
 unfold e8 at h;by_cases q:v8 O b
 ·rw[if_pos q] at h;exact h
 ·rw[if_neg q] at h;exact r.ch b o h
theorem RelC.allNew (r:RelC K Hv₀ H₀ Hc O st σ H):∀ b o,e8 Hc O H b=some o->Hv₀ b=none->H₀ b=none:=λ b o h n=>by
 unfold e8 at h;by_cases q:v8 O b
 ·obtain⟨i,u,h1⟩:=q
  exact(r.oh i b u h1).2.2
 ·rw[if_neg q] at h;exact r.new b o h n
theorem vX {i:Nat}{d:D}(h:(Dv.all st)[i]?=some (some d)):st[i]?=some (.sh d)\/st[i]?=some (.ow d)\/st[i]?=some (.dp d):=by
 unfold Dv.all at h;rw[Bv] at h;cases q:st[i]? with
 | none=>rw[q] at h;cases h
 | some s=>
  rw[q] at h;cases s with
  | no=>cases h
  | sh x=>cases h;exact .inl rfl
  | ow x=>cases h;exact .inr (.inl rfl)
  | dp x=>cases h;exact .inr (.inr rfl)
  | jk n m=>cases h
theorem get_open {i:Nat}{d:D}(h:(Dv.open_ st)[i]?=some (some d)):st[i]?=some (.sh d):=by
 unfold Dv.open_ at h;rw[Bv] at h;cases q:st[i]? with
 | none=>rw[q] at h;cases h
 | some s=>
  rw[q] at h;cases s with
  | sh x=>cases h;rfl
  | _=>cases h
theorem RelC.envAll (r:RelC K Hv₀ H₀ Hc O st σ H):EnvR K (e8 Hc O H) (Dv.all st) σ:=λ i d h=>by
 rcases vX h with h|h|h
 ·obtain⟨v,h1,h2⟩:=r.sh i d h
  exact⟨v,h1,h2.same r.cAll⟩
 ·obtain⟨a,o,h1,h2,h3⟩:=r.ow i d h
  exact⟨_,h1,(h3.same r.cAll).rp (r.oAll i a o h2)⟩
 ·obtain⟨v,h1,h2⟩:=r.dp i d h
  exact⟨v,h1,Rp.frag (h2.same (r.oAll i))⟩
theorem RelC.envOpen (r:RelC K Hv₀ H₀ Hc O st σ H):EnvR K Hc (Dv.open_ st) σ:=λ i d h=>r.sh i d (get_open h)
theorem RelC.grow {H':Hp}(r:RelC K Hv₀ H₀ Hc O st σ H)(hh:Same H H')(nf:∀ b o u,H b=none->H' b≠some (.frz o u)):RelC K Hv₀ H₀ Hc O st σ H':=
 ⟨r.h0.trans hh,r.vc,r.ch.trans hh,r.new,λ b o u h=>(by
  cases q:H b with
  | none=>exact nf b o u q
  | some w=>rw[hh b w q,<- q];exact r.nf b o u h),r.len,r.sh,r.ow,r.dp,r.jk,λ i b o h=>⟨hh _ _ (r.oh i b o h).1,(r.oh i b o h).2⟩,r.one⟩
theorem RelC.growC {Hc' H':Hp}(r:RelC K Hv₀ H₀ Hc O st σ H)(x:Ext Hc H Hc' H'):RelC K Hv₀ H₀ Hc' O st σ H':=by
 have g:=r.grow x.hh x.nf;refine⟨g.h0,r.vc.trans x.vv,x.vh,λ b o h n=>?_,g.nf,g.len,λ i d h=>?_,λ i d h=>?_,r.dp,r.jk,λ i b o h=>?_,g.one⟩
 ·cases q:Hc b with
  | some u=>exact r.new b u q n
  | none=>exact r.h0.free (x.new b o h q)
 ·obtain⟨v,h1,h2⟩:=r.sh i d h
  exact⟨v,h1,h2.same x.vv⟩
 ·obtain⟨a,o,h1,h2,h3⟩:=r.ow i d h
  exact⟨a,o,h1,h2,h3.same x.vv⟩
 ·obtain⟨h1,h2,h3⟩:=r.oh i b o h
  refine⟨x.hh _ _ h1,?_,h3⟩;cases q:Hc' b with
  | none=>rfl
  | some u=>
   have:=x.new b u q h2;rw[this] at h1;cases h1
theorem cR {α:Type}{l:List α}{i j:Nat}{x y:α}(h:(l.set i x)[j]?=some y):(j=i/\y=x/\i<l.length)\/(j≠i/\l[j]?=some y):=by
 by_cases e:j=i
 ·subst e
  by_cases hl:j<l.length
  ·rw[BA hl] at h
   exact .inl ⟨rfl,(Option.some.inj h).symm,hl⟩
  ·rw[BY (by rw[BD];omega)] at h
   cases h
 ·rw[BU (Ne.symm e)] at h
  exact .inr ⟨e,h⟩
theorem RelC.setAny {i:Nat}{s:Sl}{v:Option V}{H':Hp}{O':Nat->Hp}(r:RelC K Hv₀ H₀ Hc O st σ H)(h0:Same H₀ H')(ch:Same Hc H')(nf:∀ b o u,H₀ b=none->H' b≠some (.frz o u))(hO:∀ j,j≠i->O' j=O j)
  (sh:∀ d,s=.sh d->∃ w,v=some w/\Rp K Hc d w) (ow:∀ d,s=.ow d->∃ a o,v=some (.ref a)/\O' i a=some o/\Nd K Hc d o) (dp:∀ d,s=.dp d->∃ w,v=some w/\Rp [] (O' i) d w) (jk:∀ n m,s=.jk n m->∃ w,v=some w/\Jk (O' i) n m w)
  (oh:∀ j b o,O' j b=some o->H' b=some o/\Hc b=none/\H₀ b=none) (one:∀ j b o o',O' i b=some o->j≠i->O j b≠some o'):RelC K Hv₀ H₀ Hc O' (st.set i s) (σ.set i v) H':=by
 have at_:∀ {j:Nat},j=i->i<st.length->(σ.set i v)[j]?=some v:=λ {j} e hl=>by subst e;exact BA (by rw[<- r.len];exact hl)
 have no:∀ {j:Nat},j≠i->(σ.set i v)[j]?=σ[j]?:=λ hj=>BU (Ne.symm hj)
 refine⟨h0,r.vc,ch,r.new,nf,by rw[BD,BD];exact r.len,λ j x h=>?_,λ j x h=>?_,λ j x h=>?_,λ j n m h=>?_,oh,λ j k b o o' h1 h2=>?_⟩
 ·rcases cR h with ⟨e,e2,hl⟩|⟨hj,h⟩
  ·obtain⟨w,e3,rp⟩:=sh x e2.symm
   exact⟨w,by rw[at_ e hl,e3],rp⟩
  ·obtain⟨u,h1,h2⟩:=r.sh j x h
   exact⟨u,by rw[no hj];exact h1,h2⟩
 ·rcases cR h with ⟨e,e2,hl⟩|⟨hj,h⟩
  ·obtain⟨a,o,e3,e4,rp⟩:=ow x e2.symm
   exact⟨a,o,by rw[at_ e hl,e3],by rw[e];exact e4,rp⟩
  ·obtain⟨a,o,h1,h2,h3⟩:=r.ow j x h
   exact⟨a,o,by rw[no hj];exact h1,by rw[hO j hj];exact h2,h3⟩
 ·rcases cR h with ⟨e,e2,hl⟩|⟨hj,h⟩
  ·obtain⟨w,e3,rp⟩:=dp x e2.symm
   exact⟨w,by rw[at_ e hl,e3],by rw[e];exact rp⟩
  ·obtain⟨u,h1,h2⟩:=r.dp j x h
   exact⟨u,by rw[no hj];exact h1,by rw[hO j hj];exact h2⟩
 ·rcases cR h with ⟨e,e2,hl⟩|⟨hj,h⟩
  ·obtain⟨w,e3,rp⟩:=jk n m e2.symm
   exact⟨w,by rw[at_ e hl,e3],by rw[e];exact rp⟩
  ·obtain⟨u,h1,h2⟩:=r.jk j n m h
   exact⟨u,by rw[no hj];exact h1,by rw[hO j hj];exact h2⟩
 ·by_cases e1:j=i
  ·by_cases e2:k=i
   ·rw[e1,e2]
   ·rw[e1] at h1;rw[hO k e2] at h2;exact absurd h2 (one k b o o' h1 e2)
  ·by_cases e2:k=i
   ·rw[e2] at h2;rw[hO j e1] at h1;exact absurd h1 (one j b o' o h2 e1)
   ·rw[hO j e1] at h1;rw[hO k e2] at h2;exact r.one j k b o o' h1 h2
theorem RelC.setSh {i:Nat}{d:D}{v:V}(r:RelC K Hv₀ H₀ Hc O st σ H)(rp:Rp K Hc d v):RelC K Hv₀ H₀ Hc O (st.set i (.sh d)) (σ.set i (some v)) H:=
 r.setAny r.h0 r.ch r.nf (λ _ _=>rfl) (λ x e=>by cases e;exact⟨v,rfl,rp⟩) (λ x e=>nomatch e) (λ x e=>nomatch e) (λ n m e=>nomatch e) r.oh λ j b o o' h hj h2=>hj (r.one j i b o' o h2 h)
theorem RelC.setNo {i:Nat}{v:Option V}(r:RelC K Hv₀ H₀ Hc O st σ H):RelC K Hv₀ H₀ Hc O (st.set i .no) (σ.set i v) H:=
 r.setAny r.h0 r.ch r.nf (λ _ _=>rfl) (λ x e=>nomatch e) (λ x e=>nomatch e) (λ x e=>nomatch e) (λ n m e=>nomatch e) r.oh λ j b o o' h hj h2=>hj (r.one j i b o' o h2 h)
def mK (O:Nat->Hp)(i:Nat)(R:Hp):Nat->Hp:=λ j=>if j=i then R else O j
theorem be {R:Hp}{i:Nat}:mK O i R i=R:=if_pos rfl
theorem bN {R:Hp}{i j:Nat}(h:j≠i):mK O i R j=O j:=if_neg h
def only (a:Addr)(o:HO):Hp:=λ b=>if b=a then some o else none
theorem qR {a:Addr}{o:HO}:only a o a=some o:=if_pos rfl
theorem oN {a b:Addr}{o u:HO}(h:only a o b=some u):b=a/\u=o:=by
 unfold only at h;by_cases e:b=a
 ·rw[if_pos e] at h;exact⟨e,(Option.some.inj h).symm⟩
 ·rw[if_neg e] at h;cases h
theorem RelC.setOw {i:Nat}{d:D}{o:HO}{a:Addr}(r:RelC K Hv₀ H₀ Hc O st σ H)(ha:H a=some o)(hc:Hc a=none)(h0:H₀ a=none)(no:∀ j,j≠i->O j a=none)
  (nd:Nd K Hc d o):RelC K Hv₀ H₀ Hc (mK O i (only a o)) (st.set i (.ow d)) (σ.set i (some (.ref a))) H:=
 r.setAny r.h0 r.ch r.nf (λ j hj=>bN hj) (λ x e=>nomatch e) (λ x e=>by cases e;exact⟨a,o,rfl,by rw[be];exact qR,nd⟩) (λ x e=>nomatch e) (λ n m e=>nomatch e)
  (λ j b u h=>by
   by_cases hj:j=i
   ·rw[hj,be] at h
    obtain⟨rfl,rfl⟩:=oN h;exact⟨ha,hc,h0⟩
   ·rw[bN hj] at h;exact r.oh j b u h)
  λ j b u u' h hj h2=>by
   rw[be] at h;obtain⟨rfl,rfl⟩:=oN h;rw[no j hj] at h2;cases h2
theorem RelC.setDp {i:Nat}{d:D}{v:V}{R:Hp}(r:RelC K Hv₀ H₀ Hc O st σ H)(hR:∀ b o,R b=some o->H b=some o/\Hc b=none/\H₀ b=none/\∀ j,j≠i->O j b=none)
  (rp:Rp [] R d v):RelC K Hv₀ H₀ Hc (mK O i R) (st.set i (.dp d)) (σ.set i (some v)) H:=
 r.setAny r.h0 r.ch r.nf (λ j hj=>bN hj) (λ x e=>nomatch e) (λ x e=>nomatch e) (λ x e=>by cases e;exact⟨v,rfl,by rw[be];exact rp⟩) (λ n m e=>nomatch e)
  (λ j b u h=>by
   by_cases hj:j=i
   ·rw[hj,be] at h
    exact⟨(hR b u h).1,(hR b u h).2.1,(hR b u h).2.2.1⟩
   ·rw[bN hj] at h;exact r.oh j b u h)
  λ j b u u' h hj h2=>by
   rw[be] at h;rw[(hR b u h).2.2.2 j hj] at h2;cases h2
theorem gr {α:Type}{l:List α}{i:Nat}{x:α}(h:l[i]?=some x):l.set i x=l:=by
 refine CV λ j=>?_
 by_cases hj:j=i
 ·subst hj;rw[BA (List.getElem?_eq_some_iff.mp h).1,h]
 ·rw[BU (Ne.symm hj)]
theorem RelC.putAny {i:Nat}{s:Sl}{v:V}{a:Addr}{u o:HO}(r:RelC K Hv₀ H₀ Hc O st σ H)(hσ:σ[i]?=some (some v))(ha:O i a=some u)(ho:∀ q w,o≠.frz q w)
  (ow:∀ d,s=.ow d->v=.ref a/\Nd K Hc d o) (jk:∀ n m,s=.jk n m->Jk (upd (O i) a o) n m v) (hs:∀ d,s≠.sh d/\s≠.dp d):
  RelC K Hv₀ H₀ Hc (mK O i (upd (O i) a o)) (st.set i s) σ (upd H a o):=by
 obtain⟨h1,h2,h3⟩:=r.oh i a u ha;have hset:σ.set i (some v)=σ:=gr hσ;have key:=r.setAny (i:=i) (s:=s) (v:=some v) (H':=upd H a o) (O':=mK O i (upd (O i) a o)) (λ b w h=>by rw[ag (au h h3)];exact r.h0 b w h) (λ b w h=>by rw[ag (au h h2)];exact r.ch b w h)
  (λ b q w h=>by
   by_cases hb:b=a
   ·subst hb;rw[ai];exact λ z=>ho q w (Option.some.inj z)
   ·rw[ag hb];exact r.nf b q w h)
  (λ j hj=>bN hj) (λ d e=>absurd e (hs d).1) (λ d e=>⟨a,o,by rw[(ow d e).1],by rw[be,ai],(ow d e).2⟩) (λ d e=>absurd e (hs d).2) (λ n m e=>⟨v,rfl,by rw[be];exact jk n m e⟩)
  (λ j b w h=>by
   by_cases hj:j=i
   ·rw[hj,be] at h
    by_cases hb:b=a
    ·subst hb;rw[ai] at h ⊢;exact⟨h,h2,h3⟩
    ·rw[ag hb] at h ⊢;exact r.oh i b w h
   ·rw[bN hj] at h
    have hb:b≠a:=λ z=>hj (r.one j i b w u h (by rw[z];exact ha))
    rw[ag hb];exact r.oh j b w h)
  λ j b w w' h hj h4=>by
   rw[be] at h;by_cases hb:b=a
   ·exact hj (r.one j i b w' u h4 (by rw[hb];exact ha))
   ·rw[ag hb] at h;exact hj (r.one j i b w' w h4 h)
 rw[hset] at key;exact key
theorem RelC.put {i:Nat}{d:D}{ds:List D}{ws:List V}{a:Addr}(r:RelC K Hv₀ H₀ Hc O st σ H)(hi:st[i]?=some (.ow d))(hσ:σ[i]?=some (some (.ref a)))(rp:RpL K Hc ds ws):
  ∃ O',RelC K Hv₀ H₀ Hc O' (st.set i (.ow (.lst ds))) σ (upd H a (.lst ws)):=by
 obtain⟨a',o,h1,h2,h3⟩:=r.ow i d hi;rw[hσ] at h1;cases h1;exact⟨_,r.putAny hσ h2 (by intro _ _ z;cases z) (λ x e=>by cases e;exact⟨rfl,ws,rfl,rp⟩) (λ n m e=>nomatch e) λ x=>⟨nofun,nofun⟩⟩
theorem RelC.putDct {i:Nat}{d:D}{ks:List Int}{ds:List D}{ws:List V}{a:Addr}(r:RelC K Hv₀ H₀ Hc O st σ H)(hi:st[i]?=some (.ow d))(hσ:σ[i]?=some (some (.ref a)))(hl:ks.length=ds.length)(rp:RpL K Hc ds ws):
  ∃ O',RelC K Hv₀ H₀ Hc O' (st.set i (.ow (.dct ks ds))) σ (upd H a (.dK ((ks.map Sum.inl).zip ws))):=by
 obtain⟨a',o,h1,h2,h3⟩:=r.ow i d hi;rw[hσ] at h1;cases h1;exact⟨_,r.putAny hσ h2 (by intro _ _ z;cases z) (λ x e=>by cases e;exact⟨rfl,ws,rfl,hl,rp⟩) (λ n m e=>nomatch e) λ x=>⟨nofun,nofun⟩⟩
def eJ (A B:Hp):Hp:=λ b=>match A b with
 | some o=>some o
 | none=>B b
theorem oZ {A B:Hp}:Same A (eJ A B):=λ b o h=>by unfold eJ;rw[h]
theorem pZ {A B:Hp}(d:∀ b o,B b=some o->A b=none):Same B (eJ A B):=λ b o h=>by unfold eJ;rw[d b o h];exact h
theorem il {A B:Hp}{b:Addr}{o:HO}(h:eJ A B b=some o):A b=some o\/(A b=none/\B b=some o):=by
 unfold eJ at h;cases q:A b with
 | some u=>rw[q] at h;exact .inl h
 | none=>rw[q] at h;exact .inr ⟨rfl,h⟩
theorem RelC.give1 {i:Nat}(r:RelC K Hv₀ H₀ Hc O st σ H):∃ Hc' O',Same Hc Hc'/\RelC K Hv₀ H₀ Hc' O' (st.set i ((st[i]?.getD .no).give)) σ H:=by
 cases hi:st[i]? with
 | none=>
  refine⟨Hc,O,.refl _,?_⟩;rw[List.set_eq_of_length_le (by have:=List.getElem?_eq_none_iff.mp hi;omega)];exact r
 | some s=>
  have hs:st.set i s=st:=gr hi;have key:∀ (d:D) (v:V),σ[i]?=some (some v)->Rp K (eJ Hc (O i)) d v->∃ Hc' O',Same Hc Hc'/\RelC K Hv₀ H₀ Hc' O' (st.set i (.sh d)) σ H:=λ d v hσ rp=>by
   have sm:Same Hc (eJ Hc (O i)):=oZ;have hset:σ.set i (some v)=σ:=gr hσ;have r1:RelC K Hv₀ H₀ (eJ Hc (O i)) (mK O i λ _=>none) (st.set i .no) σ H:=by
    refine⟨r.h0,r.vc.trans sm,λ b o h=>?_,λ b o h n=>?_,r.nf,by rw[BD];exact r.len,λ j x h=>?_,λ j x h=>?_,λ j x h=>?_,λ j n m h=>?_,λ j b o h=>?_,λ j k b o o' h1 h2=>?_⟩
    ·rcases il h with h|⟨_,h⟩
     ·exact r.ch b o h
     ·exact(r.oh i b o h).1
    ·rcases il h with h|⟨_,h⟩
     ·exact r.new b o h n
     ·exact(r.oh i b o h).2.2
    ·rcases cR h with ⟨_,e,_⟩|⟨hj,h⟩
     ·cases e
     ·obtain⟨u,h1,h2⟩:=r.sh j x h
      exact⟨u,h1,h2.same sm⟩
    ·rcases cR h with ⟨_,e,_⟩|⟨hj,h⟩
     ·cases e
     ·obtain⟨a,o,h1,h2,h3⟩:=r.ow j x h
      exact⟨a,o,h1,by rw[bN hj];exact h2,h3.same sm⟩
    ·rcases cR h with ⟨_,e,_⟩|⟨hj,h⟩
     ·cases e
     ·obtain⟨u,h1,h2⟩:=r.dp j x h
      exact⟨u,h1,by rw[bN hj];exact h2⟩
    ·rcases cR h with ⟨_,e,_⟩|⟨hj,h⟩
     ·cases e
     ·obtain⟨u,h1,h2⟩:=r.jk j n m h
      exact⟨u,h1,by rw[bN hj];exact h2⟩
    ·by_cases hj:j=i
     ·rw[hj,be] at h;cases h
     ·rw[bN hj] at h
      obtain⟨h1,h2,h3⟩:=r.oh j b o h;refine⟨h1,?_,h3⟩;cases q:eJ Hc (O i) b with
      | none=>rfl
      | some u=>
       rcases il q with q|⟨_,q⟩
       ·rw[h2] at q;cases q
       ·exact absurd (r.one j i b o u h q) hj
    ·by_cases hj:j=i
     ·rw[hj,be] at h1;cases h1
     ·by_cases hk:k=i
      ·rw[hk,be] at h2;cases h2
      ·rw[bN hj] at h1;rw[bN hk] at h2;exact r.one j k b o o' h1 h2
   have r2:=r1.setSh (i:=i) rp;rw[hset,C6] at r2;exact⟨_,_,sm,r2⟩
  cases s with
  | no=>exact⟨Hc,O,.refl _,by show RelC K Hv₀ H₀ Hc O (st.set i .no) σ H;rw[hs];exact r⟩
  | sh d=>exact⟨Hc,O,.refl _,by show RelC K Hv₀ H₀ Hc O (st.set i (.sh d)) σ H;rw[hs];exact r⟩
  | jk n m=>exact⟨Hc,O,.refl _,by show RelC K Hv₀ H₀ Hc O (st.set i (.jk n m)) σ H;rw[hs];exact r⟩
  | ow d=>
   obtain⟨a,o,h1,h2,h3⟩:=r.ow i d hi;exact key d _ h1 ((h3.same oZ).rp (pZ (λ b o h=>(r.oh i b o h).2.1) a o h2))
  | dp d=>
   obtain⟨v,h1,h2⟩:=r.dp i d hi;exact key d v h1 (Rp.frag (h2.same (pZ λ b o h=>(r.oh i b o h).2.1)))
theorem RelC.give:∀ (is:List Nat) {st:Dv.St} {Hc:Hp} {O:Nat->Hp},RelC K Hv₀ H₀ Hc O st σ H->∃ Hc' O',Same Hc Hc'/\RelC K Hv₀ H₀ Hc' O' (Dv.give is st) σ H
 | [],st,Hc,O,r=>⟨Hc,O,.refl _,r⟩
 | i::is,st,Hc,O,r=>by
  obtain⟨Hc1,O1,s1,r1⟩:=r.give1 (i:=i);obtain⟨Hc2,O2,s2,r2⟩:=RelC.give is r1;exact⟨Hc2,O2,s1.trans s2,r2⟩
end
def OkS (C:Ctx)(Hv₀ H₀:Hp)(E:Ends)(o:Out):Prop:=match o with
 | .nx st=>∀ σ' H',Rel C.X.K Hv₀ H₀ st σ' H'->E.nx σ' H'
 | .ret d nw=>∀ v Hv' H',Ext Hv₀ H₀ Hv' H'->Rp C.X.K Hv' d v->(nw=true->Rp [] (Hnew H₀ H') d v)->E.rt v H'
 | .brk st=>∀ σ' H',Rel C.X.K Hv₀ H₀ st σ' H'->E.bk σ' H'
 | .cont st=>∀ σ' H',Rel C.X.K Hv₀ H₀ st σ' H'->E.ct σ' H'
 | .exc c st=>∀ σ' H',Rel C.X.K Hv₀ H₀ st σ' H'->C.W σ' (C.cls c) none H'
 | .bad=>False
def yS (C:Ctx)(t:TS)(f:SS):Prop:=∀ Hv₀ H₀ E σ H st,Rel C.X.K Hv₀ H₀ st σ H->OkS C Hv₀ H₀ E (f st)->t E σ H
def SSt (C:Ctx)(s:Stmt)(f:SS):Prop:=∃ t:TS,PS C.X s t/\yS C t f
def SSs (C:Ctx)(ss:List Stmt)(f:SS):Prop:=∃ t:TS,PSs C.X ss t/\yS C t f
section
variable {C:Ctx}{a b c:Expr}{e:Expr}{f g h:EE}{F G:SS}{s:Stmt}{ss:List Stmt}{pos pos':Pos}{E:Ends}
theorem bh:SSs C [] Dv.sNil:=⟨_,gU,λ Hv₀ H₀ E σ H st r q=>q σ H r⟩
theorem aj (h1:SSt C s F)(h2:SSs C ss G):SSs C (s::ss) (Dv.sCons F G):=by
 obtain⟨t,p,q⟩:=h1;obtain⟨u,p2,q2⟩:=h2;refine⟨_,aB p p2,λ Hv₀ H₀ E σ H st r w=>?_⟩;refine q Hv₀ H₀ { E with nx:=u E } σ H st r ?_
 have w':OkS C Hv₀ H₀ E ((F st).bind G):=w;cases hf:F st with
 | nx st'=>rw[hf] at w';exact λ σ' H' r'=>q2 Hv₀ H₀ E σ' H' st' r' w'
 | ret d nw=>rw[hf] at w';exact w'
 | brk st=>rw[hf] at w';exact w'
 | cont st=>rw[hf] at w';exact w'
 | exc c st=>rw[hf] at w';exact w'
 | bad=>rw[hf] at w';exact w'
theorem av (h1:SSt C s F):SSs C [s] F:=by
 obtain⟨t,p,q⟩:=h1;exact⟨t,br p,q⟩
theorem Tak.all {t:TE}(q:Tak C t f){Hv₀ H₀ Hc H:Hp}{O:Nat->Hp}{σ:St}{st:Dv.St}(r:RelC C.X.K Hv₀ H₀ Hc O st σ H){T:VK}
  (hx:∀ c,f (Dv.all st)=.exc c->∀ H',RelC C.X.K Hv₀ H₀ Hc O st σ H'->C.W σ (C.cls c) none H') (hb:f (Dv.all st)≠.bad)
  (ok:∀ d fr v Hv' H',f (Dv.all st)=.ok d fr->Ext (e8 Hc O H) H Hv' H'->RelC C.X.K Hv₀ H₀ Hc O st σ H'->Rp C.X.K Hv' d v->(fr=true->Rp [] (Hnew H H') d v)->T v H'):t σ H T:=by
 refine q σ H (e8 Hc O H) (Dv.all st) T r.envAll r.allH ?_
 cases hf:f (Dv.all st) with
 | bad=>exact absurd hf hb
 | exc c=>exact λ Hv' H' x=>hx c hf H' (r.grow x.hh x.nf)
 | ok d fr=>exact λ v Hv' H' x rp n=>ok d fr v Hv' H' hf x (r.grow x.hh x.nf) rp n
theorem Tak.open {t:TE}(q:Tak C t f){Hv₀ H₀ Hc H:Hp}{O:Nat->Hp}{σ:St}{st:Dv.St}(r:RelC C.X.K Hv₀ H₀ Hc O st σ H){T:VK}
  (hx:∀ c,f (Dv.open_ st)=.exc c->∀ Hc' H',Ext Hc H Hc' H'->C.W σ (C.cls c) none H') (hb:f (Dv.open_ st)≠.bad)
  (ok:∀ d fr v Hc' H',f (Dv.open_ st)=.ok d fr->Ext Hc H Hc' H'->RelC C.X.K Hv₀ H₀ Hc' O st σ H'->Rp C.X.K Hc' d v->T v H'):t σ H T:=by
 refine q σ H Hc (Dv.open_ st) T r.envOpen r.ch ?_
 cases hf:f (Dv.open_ st) with
 | bad=>exact absurd hf hb
 | exc c=>exact λ Hv' H' x=>hx c hf Hv' H' x
 | ok d fr=>exact λ v Hv' H' x rp n=>ok d fr v Hv' H' hf x (r.growC x) rp
theorem dj (he:SE C e f)(hs:autoParam (swapsWith e none pos.line C.X.env=pure false) ZF._auto_1):SSt C (.Expr e pos) (Dv.sExpr f):=by
 obtain⟨t,p,q⟩:=he;refine⟨_,bM p hs,λ Hv₀ H₀ E σ H st ⟨Hc,O,r⟩ w=>?_⟩;unfold Dv.sExpr at w;refine q.all r (λ c hf H' r'=>?_) (λ hf=>?_) λ d fr v Hv' H' hf x r' rp n=>?_
 ·rw[hf] at w;exact w σ H' ⟨Hc,O,r'⟩
 ·rw[hf] at w;exact w
 ·rw[hf] at w;exact w σ H' ⟨Hc,O,r'⟩
theorem RelC.ret {Hv₀ H₀ Hc H Hv' H':Hp}{O:Nat->Hp}{σ:St}{st:Dv.St}{K:Er}(r:RelC K Hv₀ H₀ Hc O st σ H)(x:Ext (e8 Hc O H) H Hv' H'):∃ Hv2,Ext Hv₀ H₀ Hv2 H'/\Same Hv' Hv2:=by
 have key:∀ b o,Hv' b=some o->Hv₀ b=none->H₀ b=none:=λ b o h n=>by
  cases q:e8 Hc O H b with
  | some u=>exact r.allNew b u q n
  | none=>exact r.h0.free (x.new b o h q)
 refine⟨λ b=>match H₀ b with|none=>H' b|some _=>Hv' b,⟨r.h0.trans x.hh,λ b o h=>?_,λ b o h=>?_,λ b o h n=>?_,λ b h=>?_,λ b o u h=>?_⟩,λ b o h=>?_⟩
 ·have h2:Hv' b=some o:=x.vv _ _ (r.cAll _ _ (r.vc b o h))
  show (match H₀ b with|none=>H' b|some _=>Hv' b)=some o
  cases H₀ b with
  | none=>exact x.vh b o h2
  | some _=>exact h2
 ·have h':(match H₀ b with|none=>H' b|some _=>Hv' b)=some o:=h
  cases q:H₀ b with
  | none=>rw[q] at h';exact h'
  | some _=>rw[q] at h';exact x.vh b o h'
 ·have h':(match H₀ b with|none=>H' b|some _=>Hv' b)=some o:=h
  cases q:H₀ b with
  | none=>rfl
  | some u=>
   rw[q] at h';have:=key b o h' n;rw[q] at this;cases this
 ·show (match H₀ b with|none=>H' b|some _=>Hv' b)=H' b
  rw[h]
 ·exact(r.grow x.hh x.nf).nf b o u h
 ·show (match H₀ b with|none=>H' b|some _=>Hv' b)=some o
  cases H₀ b with
  | none=>exact x.vh b o h
  | some _=>exact h
theorem ba (he:SE C e f):SSt C (.Return (some e) pos) (Dv.sRet f):=by
 obtain⟨t,p,q⟩:=he;refine⟨_,gj p,λ Hv₀ H₀ E σ H st ⟨Hc,O,r⟩ w=>?_⟩;unfold Dv.sRet at w;refine q.all r (λ c hf H' r'=>?_) (λ hf=>?_) λ d fr v Hv' H' hf x r' rp n=>?_
 ·rw[hf] at w;exact w σ H' ⟨Hc,O,r'⟩
 ·rw[hf] at w;exact w
 ·rw[hf] at w
  obtain⟨Hv2,x2,s2⟩:=r.ret x;exact w v Hv2 H' x2 (rp.same s2) λ z=>(n z).same (Hnew.mono r.h0 (.refl _))
theorem fJ (i:Nat){x:Str}(hN:autoParam (C.X.N[i]?=some x) ZF._auto_1)(hv:autoParam (Vis C.X.env.scope x) ZG._auto_1)(hd:autoParam ((x == ("__debug__":Str))=false) ZC._auto_1)
  (hcd:autoParam ((x == ("__classdict__":Str))=false) ZC._auto_1):SSt C (.Return (some (.Name x pos')) pos) (Dv.sRetO i):=by
 refine⟨_,gj (c8 hN hv hd hcd),λ Hv₀ H₀ E σ H st ⟨Hc,O,r⟩ w=>?_⟩;unfold Dv.sRetO at w;obtain⟨Hv2,x2,s2⟩:=r.ret (.refl r.allH);cases hi:st[i]? with
 | none=>rw[hi] at w;exact(show False from w).elim
 | some s=>
  rw[hi] at w;cases s with
  | no=>exact(show False from w).elim
  | sh d=>
   obtain⟨v,h1,h2⟩:=r.sh i d hi;exact⟨v,h1,w v Hv2 H x2 ((h2.same r.cAll).same s2) λ z=>h2.scal z⟩
  | jk n m=>exact(show False from w).elim
  | dp d=>
   obtain⟨v,h1,h2⟩:=r.dp i d hi;exact⟨v,h1,w v Hv2 H x2 ((Rp.frag (h2.same (r.oAll i))).same s2) λ _=>h2.same λ b o h=>by
    unfold Hnew;rw[(r.oh i b o h).2.2];exact(r.oh i b o h).1⟩
  | ow d=>
   obtain⟨a,o,h1,h2,h3⟩:=r.ow i d hi;have rp:Rp C.X.K Hv2 d (.ref a):=by
    obtain⟨v,h6,h7⟩:=r.envAll i d (by unfold Dv.all;rw[Bv,hi];rfl);rw[h1] at h6;cases h6;exact h7.same s2
   cases d with
   | lst ds=>
    refine⟨_,h1,w (.ref a) Hv2 H x2 rp λ z=>?_⟩;obtain⟨vs,rfl,h5⟩:=h3;unfold Rp;refine⟨a,vs,rfl,SqX.of ?_,h5.flat z⟩;unfold Hnew;rw[(r.oh i a _ h2).2.2];exact(r.oh i a _ h2).1
   | dct ks ds=>exact⟨_,h1,w (.ref a) Hv2 H x2 rp λ z=>nomatch z⟩
   | _=>exact(show False from h3).elim
theorem bD {pa pb:List Stmt}(hc:SC C c f)(ha:SSs C pa F)(hb:SSs C pb G):SSt C (.If c pa pb pos) (Dv.sIf f F G):=by
 obtain⟨tc,pc,qc⟩:=hc;obtain⟨t,p,q⟩:=ha;obtain⟨u,p2,q2⟩:=hb;refine⟨_,mf pc p p2,λ Hv₀ H₀ E σ H st ⟨Hc,O,r⟩ w=>?_⟩;unfold Dv.sIf at w;refine qc σ H (e8 Hc O H) (Dv.all st) _ r.envAll r.allH ?_
 cases hf:f (Dv.all st) with
 | bad=>rw[hf] at w;exact w
 | exc c=>rw[hf] at w;exact λ Hv' H' x=>w σ H' ⟨Hc,O,r.grow x.hh x.nf⟩
 | ok d fr=>
  rw[hf] at w;intro v Hv' H' x rp n;cases d with
  | bl b=>
   unfold Rp at rp;refine⟨b,rp,?_⟩;cases b with
   | true=>exact yR (q Hv₀ H₀ E σ H' st ⟨Hc,O,r.grow x.hh x.nf⟩ w)
   | false=>exact yr (q2 Hv₀ H₀ E σ H' st ⟨Hc,O,r.grow x.hh x.nf⟩ w)
  | _=>exact(show False from w).elim
theorem pS {t:TE}(q:Tak C t f)(i:Nat){Hv₀ H₀ H:Hp}{σ:St}{st:Dv.St}(r:Rel C.X.K Hv₀ H₀ st σ H)(w:OkS C Hv₀ H₀ E (Dv.sSet i f st)):t σ H λ v H'=>E.nx (σ.set i (some v)) H':=by
 obtain⟨Hc,O,r⟩:=r;unfold Dv.sSet at w;refine q.all r (λ c hf H' r'=>?_) (λ hf=>?_) λ d fr v Hv' H' hf x r' rp n=>?_
 ·rw[hf] at w;exact w σ H' ⟨Hc,O,r'⟩
 ·rw[hf] at w;exact w
 ·rw[hf] at w
  cases d with
  | lst ds=>
   simp only[Dv.keepD] at w;by_cases z:(fr&&Dv.flatL ds)=true
   ·simp only[z,if_true] at w
    rw[Bj] at z;have rn:=n z.1;unfold Rp at rn;obtain⟨a,vs,rfl,h1,h2⟩:=rn;have h1':Hnew H H' a=some (.lst vs):=by
     rcases h1 with (h1|⟨o,h1⟩)|⟨its,m,e,_⟩
     ·exact h1
     ·exfalso
      have hn:H a=none:=by
       unfold Hnew at h1;cases q:H a with
       | none=>rfl
       | some u=>rw[q] at h1;cases h1
      exact x.nf a o _ hn (Hnew.sub a _ h1)
     ·simp at e
    have hn:H a=none:=by
     unfold Hnew at h1';cases q:H a with
     | none=>rfl
     | some u=>rw[q] at h1';cases h1'
    refine w _ H' ⟨Hc,_,r'.setOw (Hnew.sub a _ h1') (r.ch.free hn) (r.h0.free hn) (λ j _=>?_) ⟨vs,rfl,h2.flat z.2⟩⟩;cases q:O j a with
    | none=>rfl
    | some u=>have:=(r.oh j a u q).1;rw[hn] at this;cases this
   ·simp only[z] at w
    exact(show False from w).elim
  | tup ds=>exact(show False from w).elim
  | exn c=>exact(show False from w).elim
  | raw _=>exact(show False from w).elim
  | ins _ _=>exact(show False from w).elim
  | tab _=>exact(show False from w).elim
  | dct ks ds=>
   simp only[Dv.keepD] at w;by_cases z:(fr&&ks.isEmpty&&ds.isEmpty)=true
   ·simp only[z,if_true] at w
    simp only[Bj,List.isEmpty_iff] at z;obtain⟨⟨z1,z2⟩,z3⟩:=z;subst z2 z3;have rn:=n z1;unfold Rp at rn;obtain⟨a,vs,rfl,_,h1,h2⟩:=rn;unfold RpL at h2;subst h2;have h1':Hnew H H' a=some (.dK []):=by
     rcases h1 with h1|⟨o,h1⟩
     ·exact h1
     ·exfalso
      have hn:H a=none:=by
       unfold Hnew at h1;cases q:H a with
       | none=>rfl
       | some u=>rw[q] at h1;cases h1
      exact x.nf a o _ hn (Hnew.sub a _ h1)
    have hn:H a=none:=by
     unfold Hnew at h1';cases q:H a with
     | none=>rfl
     | some u=>rw[q] at h1';cases h1'
    refine w _ H' ⟨Hc,_,r'.setOw (Hnew.sub a _ h1') (r.ch.free hn) (r.h0.free hn) (λ j _=>?_) ⟨[],rfl,rfl,.nil⟩⟩;cases q:O j a with
    | none=>rfl
    | some u=>have:=(r.oh j a u q).1;rw[hn] at this;cases this
   ·simp only[z] at w
    exact(show False from w).elim
  | _=>exact w _ H' ⟨Hc,O,r'.setSh (Rp.scal rfl rp)⟩
theorem aG {i:Nat}{x:Str}(he:SE C e f)(hN:C.X.N.Nodup)(hi:C.X.N[i]?=some x)(hx:Loc C.X.env.scope x)(hs:autoParam (swapsWith e (some (.Name x pos')) pos.line C.X.env=pure false) ZF._auto_1)
  (hf:autoParam (C.X.fn x=true\/C.X.env.scope.names.lookup x=some .local) ZB._auto_1):SSt C (.Assign [.Name x pos'] e pos) (Dv.sSet i f):=by
 obtain⟨t,p,q⟩:=he;exact⟨_,cZ hN hi hx p hs hf,λ Hv₀ H₀ E σ H st r w=>pS q i r w⟩
theorem lS {t:TE}(q:Tak C t f)(is:List Nat)(i:Nat){Hv₀ H₀ H:Hp}{σ:St}{st:Dv.St}(r:Rel C.X.K Hv₀ H₀ st σ H)(w:OkS C Hv₀ H₀ E (Dv.sSetG is i f st)):t σ H λ v H'=>E.nx (σ.set i (some v)) H':=by
 obtain⟨Hc0,O0,r0⟩:=r;obtain⟨Hc,O,_,r⟩:=r0.give is;unfold Dv.sSetG at w;refine q.open r (λ c hf Hc' H' x=>?_) (λ hf=>?_) λ d fr v Hc' H' hf x r' rp=>?_
 ·rw[hf] at w;exact w σ H' ⟨Hc0,O0,r0.grow x.hh x.nf⟩
 ·rw[hf] at w;exact w
 ·rw[hf] at w
  exact w _ H' ⟨Hc',O,r'.setSh rp⟩
theorem cS (is:List Nat){i:Nat}{x:Str}(he:SE C e f)(hN:C.X.N.Nodup)(hi:C.X.N[i]?=some x)(hx:Loc C.X.env.scope x)(hs:autoParam (swapsWith e (some (.Name x pos')) pos.line C.X.env=pure false) ZF._auto_1)
  (hf:autoParam (C.X.fn x=true\/C.X.env.scope.names.lookup x=some .local) ZB._auto_1):SSt C (.Assign [.Name x pos'] e pos) (Dv.sSetG is i f):=by
 obtain⟨t,p,q⟩:=he;exact⟨_,cZ hN hi hx p hs hf,λ Hv₀ H₀ E σ H st r w=>lS q is i r w⟩
theorem RelC.own {Hv₀ H₀ Hc H:Hp}{O:Nat->Hp}{σ:St}{st:Dv.St}{K:Er}{i:Nat}{ds:List D}(r:RelC K Hv₀ H₀ Hc O st σ H)(hi:st[i]?=some (.ow (.lst ds))):
  ∃ a vs,σ[i]?=some (some (.ref a))/\H a=some (.lst vs)/\RpL K Hc ds vs:=by
 obtain⟨a,o,h1,h2,vs,rfl,h3⟩:=r.ow i _ hi;exact⟨a,vs,h1,(r.oh i a _ h2).1,h3⟩
theorem tY {i:Nat}{x:Str}{apos cpos:Pos}{px:Pos}(he:SE C e f)(hN:autoParam (C.X.N[i]?=some x) ZF._auto_1)(hv:autoParam (Vis C.X.env.scope x) ZG._auto_1)
    (hd:autoParam ((x == ("__debug__":Str))=false) ZC._auto_1) (hcd:autoParam ((x == ("__classdict__":Str))=false) ZC._auto_1) (hst:autoParam (starEach [e] C.X.env=[(false,eval e C.X.env)]) ZF._auto_1)
    (hbase:autoParam (attributeBase (.Name x px) "append" C.X.env (eval (.Name x px) C.X.env)=eval (.Name x px) C.X.env) ZF._auto_1)
    (hfew:autoParam (((backTo cpos (starEach [e] C.X.env)).all (λ x=>!x.1)&&(backToKw cpos (keywordEach [] C.X.env)).all (λ x=>x.1.isSome)
      && decide ([e].length+([]:List Keyword).length+(if ([]:List Keyword).isEmpty then 0 else 1)<30))=true) ZF._auto_1)
    (hline:autoParam ((apos.endLine == cpos.line)=true) ZF._auto_1)
    (hs:autoParam (swapsWith (.Call (.Attribute (.Name x px) "append" apos) [e] [] cpos) none pos.line C.X.env=pure false) ZF._auto_1):
    SSt C (.Expr (.Call (.Attribute (.Name x px) "append" apos) [e] [] cpos) pos) (Dv.sApp i f):=by
  obtain⟨t,p,q⟩:=he;refine⟨_,bM (eN EH ER ES bH (c8 hN hv hd hcd) (ar p az hst) hbase hfew hline hst rfl) hs,λ Hv₀ H₀ E σ H st ⟨Hc,O,r⟩ w=>?_⟩;unfold Dv.sApp at w;cases hi:st[i]? with
  | none=>rw[hi] at w;exact(show False from w).elim
  | some s=>
    rw[hi] at w;cases s with
    | no=>exact(show False from w).elim
    | sh d=>exact(show False from w).elim
    | dp d=>exact(show False from w).elim
    | jk n m=>exact(show False from w).elim
    | ow d0=>
     cases d0 with
     | lst ds=>
      obtain⟨a,vs,h1,h2,h5⟩:=r.own hi;refine⟨_,h1,.inl ⟨rfl,vs,SqL.of h2⟩,?_⟩;refine q.all r (λ c hf H' r'=>?_) (λ hf=>?_) λ d fr v Hv' H' hf x r' rp n=>?_
      · simp only[hf] at w;exact w σ H' ⟨Hc,O,r'⟩
      · simp only[hf] at w;exact w
      · simp only[hf] at w
        by_cases z:(Dv.scal d&&decide (ds.length<Dv.mx))=true
        · simp only[z,if_true] at w
          rw[Bj,decide_eq_true_eq] at z;obtain⟨O',r2⟩:=r'.put hi h1 (h5.append (.cons (rp.scal z.1) .nil));refine⟨a,vs,v,rfl,rfl,x.hh _ _ h2,?_,w σ _ ⟨Hc,O',r2⟩⟩;have:=h5.length;have:=cg (CB z.2);have e1:(100000:Nat)<sizeLine:=by rw[EU];decide
          have e2:ds.length<100000:=z.2;omega
        · simp only[z] at w
          exact(show False from w).elim
     | _=>exact(show False from w).elim
end
section
variable {C:Ctx}{a b c e o k:Expr}{f g h:EE}{fl:EL}{F G:SS}{s:Stmt}{ss:List Stmt}{pos pos':Pos}{E:Ends}
def Wlk (K:Er)(J:It)(Hv:Hp)(ds:List D):Prop:=
 ∀ (i:Nat) (H:Hp),Same Hv H->(∀ d,ds[i]?=some d->J.go i H/\∀ x H',J.yld i H x H'->∃ Hv',Ext Hv H Hv' H'/\Rp K Hv' d x)/\(i=ds.length->J.stop i H)
def OkI (K:Er)(Hv H:Hp)(W:XK)(cls:String->Value)(r:RI)(T:It->Hp->Prop):Prop:=match r with
 | .ok ds _=>∀ J Hv' H',Ext Hv H Hv' H'->Wlk K J Hv' ds->T J H'
 | .exc c=>∀ Hv' H',Ext Hv H Hv' H'->W (cls c) none H'
 | .bad=>False
def SI (C:Ctx)(tg it:Expr)(f:EI):Prop:=
 ∃ wi:TI,PI C.X tg it wi/\∀ σ H Hv ρ T,EnvR C.X.K Hv ρ σ->Same Hv H->OkI C.X.K Hv H (C.W σ) C.cls (f ρ) T->wi σ H T
theorem aU {tg:Expr}(he:SE C e f):SI C tg e (Dv.iSeq f):=by
 obtain⟨t,p,q⟩:=he;refine⟨_,kJ p,λ σ H Hv ρ T er s w=>?_⟩;refine q σ H Hv ρ _ er s ?_
 unfold Dv.iSeq at w;cases hf:f ρ with
 | bad=>rw[hf] at w;exact w
 | exc c=>rw[hf] at w;exact w
 | ok d fr=>
  rw[hf] at w;intro v Hv' H' x rp n;cases d with
  | lst ds=>
   unfold Rp at rp;obtain⟨l,vs,rfl,h1,h2⟩:=rp;refine⟨l,rfl,⟨vs,(h1.same x.vh).seq⟩,w _ Hv' H' x λ i H2 s2=>⟨λ d hd=>?_,λ hi=>?_⟩⟩
   ·obtain⟨u,h3,h4⟩:=h2.get hd
    refine⟨⟨vs,u,(h1.same s2).seq,h3⟩,λ x H3 ⟨e1,hy⟩=>?_⟩;subst e1;have:=hy vs (h1.same s2).seq;rw[h3] at this;cases this;exact⟨Hv',.refl s2,h4⟩
   ·exact⟨vs,(h1.same s2).seq,by rw[h2.length,hi];exact Bh _⟩
  | _=>exact(show False from w).elim
theorem qu (lo:Int):∀ (n i:Nat) (d:D),(Dv.rangeL lo n)[i]?=some d->i<n/\d=.int (lo+i):=by
 intro n
 induction n generalizing lo with
 | zero=>intro i d h;simp[Dv.rangeL] at h
 | succ n ih=>
  intro i d h;cases i with
  | zero=>simp[Dv.rangeL] at h;subst h;exact⟨by omega,by simp⟩
  | succ i=>
   simp only[Dv.rangeL,A3] at h;obtain⟨h1,h2⟩:=ih (lo+1) i d h;exact⟨by omega,by rw[h2];congr 1;omega⟩
theorem qY (lo:Int):∀ n:Nat,(Dv.rangeL lo n).length=n:=by
 intro n
 induction n generalizing lo with
 | zero=>rfl
 | succ n ih=>simp[Dv.rangeL,ih]
theorem j0 {K:Er}{Hv:Hp}(lo:Int)(n:Nat):Wlk K (Itr lo n) Hv (Dv.rangeL lo n):=λ i H s=>⟨λ d hd=>by
  obtain⟨h1,rfl⟩:=qu lo n i d hd;refine⟨h1,λ x H' ⟨e1,e2⟩=>?_⟩;subst e1 e2;exact⟨Hv,.refl s,cn⟩,λ hi=>by rw[qY] at hi;subst hi;exact Bh _⟩
theorem ug {j:Int}(h:Dv.rngOk j=true):-(2 ^ 62)<=j/\j<2 ^ 62:=by
 unfold Dv.rngOk at h;simp only[Bj,decide_eq_true_eq] at h;omega
theorem bK {tg:Expr}{p:Pos}(hg:Gl C.X "range")(hm:C.X.mg "range"=none)(he:SE C e f)(hs:autoParam (starEach [e] C.X.env=[(false,eval e C.X.env)]) ZF._auto_1):
  SI C tg (.Call (.Name "range" p) [e] [] pos) (Dv.iRange f):=by
 obtain⟨t,pe,q⟩:=he;refine⟨_,qD hg hm (ar pe az hs) hs,λ σ H Hv ρ T er s w=>?_⟩;refine q σ H Hv ρ _ er s ?_
 unfold Dv.iRange at w;cases hf:f ρ with
 | bad=>rw[hf] at w;exact w
 | exc c=>rw[hf] at w;exact w
 | ok d fr=>
  rw[hf] at w;intro v Hv' H' x rp n;cases d with
  | int j=>
   unfold Rp at rp;subst rp;by_cases hr:Dv.rngOk j=true
   ·simp only[hr,if_true] at w
    obtain⟨h1,h2⟩:=ug hr;exact⟨j,rfl,h1,h2,w _ Hv' H' x (j0 0 j.toNat)⟩
   ·simp only[hr] at w
    exact(show False from w).elim
  | _=>exact(show False from w).elim
theorem sd {tg:Expr}{p:Pos}(hg:Gl C.X "range")(hm:C.X.mg "range"=none)(he:SE C e f)(hb:SE C b g)(hs:autoParam (starEach [e,b] C.X.env=[(false,eval e C.X.env),(false,eval b C.X.env)]) ZF._auto_1)
  (hs2:autoParam (starEach [b] C.X.env=[(false,eval b C.X.env)]) ZF._auto_1):SI C tg (.Call (.Name "range" p) [e,b] [] pos) (Dv.iRange2 f g):=by
 obtain⟨t,pe,q⟩:=he;obtain⟨t2,pe2,q2⟩:=hb;refine⟨_,rT hg hm (ar pe (ar pe2 az hs2) (by rw[hs,hs2])) hs hs2,λ σ H Hv ρ T er s w=>?_⟩;refine q σ H Hv ρ _ er s ?_
 unfold Dv.iRange2 at w;cases hf:f ρ with
 | bad=>rw[hf] at w;exact w
 | exc c=>rw[hf] at w;exact w
 | ok d fr=>
  rw[hf] at w;intro v Hv' H' x rp n;cases d with
  | int i=>
   unfold Rp at rp;subst rp;refine q2 σ H' Hv' ρ _ (er.same x.vv) x.vh ?_
   cases hg':g ρ with
   | bad=>simp only[hg'] at w;exact w
   | exc c=>simp only[hg'] at w;exact λ Hv2 H2 y=>w Hv2 H2 (x.trans y)
   | ok d2 fr2=>
    simp only[hg'] at w;intro v2 Hv2 H2 y rp2 n2;cases d2 with
    | int j=>
     unfold Rp at rp2;subst rp2;by_cases hr:(Dv.rngOk i&&Dv.rngOk j)=true
     ·simp only[hr,if_true] at w
      rw[Bj] at hr;obtain⟨h1,h2⟩:=ug hr.1;obtain⟨h3,h4⟩:=ug hr.2;exact⟨i,j,rfl,⟨h1,h2,h3,h4⟩,w _ Hv2 H2 (x.trans y) (j0 i _)⟩
     ·simp only[hr] at w
      exact(show False from w).elim
    | _=>exact(show False from w).elim
  | _=>exact(show False from w).elim
def SG (C:Ctx)(tg:Expr)(st:D->Dv.St->Option Dv.St):Prop:=
 ∃ g:TG,PG C.X tg g/\∀ Hv₀ H₀ Hc O H σ s s' d v T,RelC C.X.K Hv₀ H₀ Hc O s σ H->Rp C.X.K Hc d v->st d s=some s'->(∀ σ' ,RelC C.X.K Hv₀ H₀ Hc O s' σ' H->T σ' H)->g v σ H T
theorem wR {i:Nat}{x:Str}(hN:C.X.N.Nodup)(hi:C.X.N[i]?=some x)(hx:Loc C.X.env.scope x)(hf:autoParam (C.X.fn x=true\/C.X.env.scope.names.lookup x=some .local) ZB._auto_1):
  SG C (.Name x pos) (λ d s=>some (s.set i (.sh d))):=by
 refine⟨_,ej hN hi hx hf,λ Hv₀ H₀ Hc O H σ s s' d v T r rp e h=>?_⟩;cases e;exact h _ (r.setSh rp)
theorem RelC.self {K:Er}{Hv₀ H₀ Hc H:Hp}{O:Nat->Hp}{st:Dv.St}{σ:St}(r:RelC K Hv₀ H₀ Hc O st σ H):RelC K Hc H₀ Hc O st σ H:=
 ⟨r.h0,.refl _,r.ch,λ b o h n=>(by rw[n] at h;cases h),r.nf,r.len,r.sh,r.ow,r.dp,r.jk,r.oh,r.one⟩
theorem OkS.less {Hv₀ Hc H₀:Hp}{o:Out}(h:OkS C Hv₀ H₀ E o)(vc:Same Hv₀ Hc)(new:∀ b o,Hc b=some o->Hv₀ b=none->H₀ b=none):OkS C Hc H₀ E o:=by
 have rl:∀ {st σ H},Rel C.X.K Hc H₀ st σ H->Rel C.X.K Hv₀ H₀ st σ H:=λ⟨Hd,O,r⟩=>⟨Hd,O,r.less vc new⟩
 cases o with
 | nx st=>exact λ σ H r=>h σ H (rl r)
 | ret d nw=>
  refine λ v Hv' H' x rp n=>h v Hv' H' ⟨x.hh,vc.trans x.vv,x.vh,λ b o q m=>?_,x.all,x.nf⟩ rp n
  cases z:Hc b with
  | some u=>exact new b u z m
  | none=>exact x.new b o q z
 | brk st=>exact λ σ H r=>h σ H (rl r)
 | cont st=>exact λ σ H r=>h σ H (rl r)
 | exc c st=>exact λ σ H r=>h σ H (rl r)
 | bad=>exact h
theorem zd {tgt:D->Dv.St->Option Dv.St}{g:TG}{tb:TS}{J:It}{ds:List D}{Hc H₀ H:Hp}{σ:St}{st:Dv.St}
  (qg:∀ Hv₀ H₀ Hc O H σ s s' d v T,RelC C.X.K Hv₀ H₀ Hc O s σ H->Rp C.X.K Hc d v->tgt d s=some s'->(∀ σ' ,RelC C.X.K Hv₀ H₀ Hc O s' σ' H->T σ' H)->g v σ H T)
  (qb:yS C tb F) (wl:Wlk C.X.K J Hc ds) (r:Rel C.X.K Hc H₀ st σ H) (w:OkS C Hc H₀ E (Dv.forGoT tgt F ds st)):
  ∃ W:Nat->Nat->St->Hp->Prop,(∃ m,W 0 m σ H)/\∀ i m σ H,W i m σ H ->
   (J.stop i H/\E.nx σ H)\/(J.go i H/\∃ N:St->Hp->Prop,(∀ σ' H',N σ' H'->∃ m',m'<m/\W (i+1) m' σ' H')/\∀ x H',J.yld i H x H'->g x σ H' λ σ2 H2=>tb { E with nx:=N,ct:=N,bk:=E.nx } σ2 H2):=by
 refine⟨λ i m σ H=>m=ds.length-i/\i<=ds.length/\∃ st,Rel C.X.K Hc H₀ st σ H/\OkS C Hc H₀ E (Dv.forGoT tgt F (ds.drop i) st),⟨_,rfl,BV _,st,r,w⟩,?_⟩
 rintro i m σ H ⟨rfl,hi,st,⟨Hd,O,r⟩,w⟩
 obtain⟨w1,w2⟩:=wl i H (r.vc.trans r.ch);by_cases hlt:i<ds.length
 ·have hd:ds[i]?=some ds[i]:=by simp[hlt]
  have e1:ds.drop i=ds[i]::ds.drop (i+1):=BM hlt;rw[e1] at w;generalize ds[i]=d at hd e1 w;obtain⟨go,yl⟩:=w1 d hd;refine .inr ⟨go,λ σ' H'=>∃ st,Rel C.X.K Hc H₀ st σ' H'/\OkS C Hc H₀ E (Dv.forGoT tgt F (ds.drop (i+1)) st),λ σ' H' h=>⟨ds.length-(i+1),by omega,rfl,hlt,h⟩,λ x H' hy=>?_⟩;obtain⟨Hv',x1,rp⟩:=yl x H' hy;unfold Dv.forGoT at w;cases ht:tgt d st with
  | none=>simp only[ht] at w;exact(show False from w).elim
  | some st1=>
   simp only[ht] at w;have x2:Ext Hd H (λ b=>match H b with|none=>H' b|some _=>Hd b) H':=by
    refine⟨x1.hh,λ b o q=>?_,λ b o q=>?_,λ b o q n=>?_,λ b q=>?_,x1.nf⟩
    ·show (match H b with|none=>H' b|some _=>Hd b)=some o
     cases z:H b with
     | none=>rw[r.ch b o q] at z;cases z
     | some _=>exact q
    ·have q':(match H b with|none=>H' b|some _=>Hd b)=some o:=q
     cases z:H b with
     | none=>rw[z] at q';exact q'
     | some u=>rw[z] at q';exact x1.hh _ _ (r.ch b o q')
    ·have q':(match H b with|none=>H' b|some _=>Hd b)=some o:=q
     cases z:H b with
     | none=>rfl
     | some u=>rw[z] at q';rw[n] at q';cases q'
    ·show (match H b with|none=>H' b|some _=>Hd b)=H' b
     rw[q]
   have r2:=r.growC x2;have sub:Same Hv' (λ b=>match H b with|none=>H' b|some _=>Hd b):=λ b o q=>by
    show (match H b with|none=>H' b|some _=>Hd b)=some o
    cases z:H b with
    | none=>exact x1.vh b o q
    | some u=>
     cases z2:Hc b with
     | none=>have:=x1.new b o q z2;rw[z] at this;cases this
     | some u'=>
      have h1:=x1.vv b u' z2;rw[q] at h1;cases h1;exact r.vc b o z2
   refine qg Hc H₀ _ _ H' σ st st1 d x _ r2 (rp.same sub) ht λ σ2 r3=>?_
   refine qb Hc H₀ _ σ2 H' st1 ⟨_,_,r3⟩ ?_
   cases hb:F st1 with
   | nx st'=>simp only[hb] at w;exact λ σ' H' r'=>⟨st',r',w⟩
   | cont st'=>simp only[hb] at w;exact λ σ' H' r'=>⟨st',r',w⟩
   | brk st'=>simp only[hb] at w;exact w
   | ret d nw=>simp only[hb] at w;exact w
   | exc c st'=>simp only[hb] at w;exact w
   | bad=>simp only[hb] at w;exact w
 ·have e:i=ds.length:=by omega
  refine .inl ⟨w2 e,?_⟩;rw[e,C2] at w;exact w σ H ⟨Hd,O,r⟩
theorem g9 (is:List Nat){tg it:Expr}{body:List Stmt}{tgt:D->Dv.St->Option Dv.St}{fi:EI}(hi:SI C tg it fi)(hg:SG C tg tgt)(hb:SSs C body F)(hcalm:autoParam (C.X.calm=true) ZF._auto_1)
  (hs:autoParam (∀ x,foldedSetIterable it C.X.env x=pure x) ZE._auto_1):SSt C (.For tg it body [] pos) (Dv.sForT is tgt fi F):=by
 obtain⟨wi,pi,qi⟩:=hi;obtain⟨g,pg,qg⟩:=hg;obtain⟨tb,pb,qb⟩:=hb;refine⟨_,nJ C.own hcalm pi pg pb hs,λ Hv₀ H₀ E σ H st ⟨Hc0,O0,r0⟩ w=>?_⟩;obtain⟨Hc,O,_,r⟩:=r0.give is;unfold Dv.sForT at w;refine qi σ H Hc (Dv.open_ (Dv.give is st)) _ r.envOpen r.ch ?_
 cases hf:fi (Dv.open_ (Dv.give is st)) with
 | bad=>simp only[hf] at w;exact w
 | exc c=>simp only[hf] at w;exact λ Hv' H' x=>w σ H' ⟨Hc0,O0,r0.grow x.hh x.nf⟩
 | ok ds fr=>
  simp only[hf] at w;intro J Hc' H' x wl;have r1:=r.growC x;exact zd qg qb wl ⟨Hc',O,r1.self⟩ (w.less r1.vc r1.new)
theorem kQ (x:Nat)(body:SS):∀ (ds:List D) (st:Dv.St),Dv.forGoT (λ d s=>some (s.set x (.sh d))) body ds st=Dv.forGo x body ds st
 | [],st=>rfl
 | d::r,st=>by
  unfold Dv.forGoT Dv.forGo;cases h:body (st.set x (.sh d)) with
  | nx st'=>simp only[h];exact kQ x body r st'
  | cont st'=>simp only[h];exact kQ x body r st'
  | _=>simp only[h]
theorem cm (is:List Nat){i:Nat}{x:Str}{it:Expr}{body:List Stmt}{fi:EI}(hi:SI C (.Name x pos') it fi)(hb:SSs C body F)(hN:C.X.N.Nodup)(hn:C.X.N[i]?=some x)(hx:Loc C.X.env.scope x)
  (hf:autoParam (C.X.fn x=true\/C.X.env.scope.names.lookup x=some .local) ZB._auto_1) (hs:autoParam (∀ x,foldedSetIterable it C.X.env x=pure x) ZE._auto_1) (hcalm:autoParam (C.X.calm=true) ZF._auto_1):
  SSt C (.For (.Name x pos') it body [] pos) (Dv.sFor is i fi F):=by
 obtain⟨t,p,q⟩:=g9 (pos:=pos) is hi (wR (pos:=pos') hN hn hx hf) hb hcalm hs;refine⟨t,p,λ Hv₀ H₀ E σ H st r w=>q Hv₀ H₀ E σ H st r ?_⟩;unfold Dv.sForT;unfold Dv.sFor at w;cases hf:fi (Dv.open_ (Dv.give is st)) with
 | bad=>simp only[hf] at w ⊢;exact w
 | exc c=>simp only[hf] at w ⊢;exact w
 | ok ds fr=>simp only[hf] at w ⊢;rw[kQ];exact w
def spD (K:Er)(cls:String->Value)(F:List D->R)(n:Nat):Sp:=λ vs H Q E=>∃ ds Hv,ds.length=n/\Same Hv H/\RpL K Hv ds vs/\Ok K Hv H E cls (F ds) Q
theorem vJ {K:Er}{cls:String->Value}{F:List D->R}{n:Nat}{vs:List V}{H:Hp}{Q:VK}{E:XK}(h:spD K cls F n vs H Q E):vs.length=n:=by
 obtain⟨ds,Hv,h1,_,h2,_⟩:=h;rw[h2.length,h1]
theorem jD {N:List Str}{vs:List V}{i:Nat}{v:V}(h:vs[i]?=some v):(L2.start N vs)[i]?=some (some v):=by
 have hl:i<vs.length:=(List.getElem?_eq_some_iff.mp h).1;unfold L2.start;rw[Bx (by simpa using hl),Bv,h];rfl
theorem qH {K:Er}{Hv H:Hp}{ds:List D}{vs:List V}{N:List Str}(s:Same Hv H)(rp:RpL K Hv ds vs)(hN:ds.length<=N.length):
  RelC K Hv H Hv (λ _ _=>none) (ds.map Sl.sh++List.replicate (N.length-ds.length) Sl.no) (L2.start N vs) H:=by
 have hl:=rp.length;have get:∀ {i:Nat} {x:Sl},(ds.map Sl.sh++List.replicate (N.length-ds.length) Sl.no)[i]?=some x->(∃ d,x=.sh d/\ds[i]?=some d)\/x=.no:=λ {i x} h=>by
  by_cases hi:i<ds.length
  ·rw[Bx (by simpa using hi),Bv] at h
   cases q:ds[i]? with
   | none=>rw[q] at h;cases h
   | some d=>rw[q] at h;cases h;exact .inl ⟨d,rfl,rfl⟩
  ·rw[BJ (by simpa using hi),CT] at h
   split at h
   ·cases h;exact .inr rfl
   ·cases h
 refine⟨.refl _,.refl _,s,λ b o h n=>(by rw[n] at h;cases h),λ b o u h=>(by rw[h];intro z;cases z),?_,λ i d h=>?_,λ i d h=>?_,λ i d h=>?_,λ i n m h=>?_,(λ i b o h=>nomatch h),(λ i j b o o' h=>nomatch h)⟩
 ·unfold L2.start
  simp only[Bo,A4,Cd];omega
 ·rcases get h with ⟨d',e,h2⟩|e
  ·cases e
   obtain⟨v,h3,h4⟩:=rp.get h2;exact⟨v,jD h3,h4⟩
  ·cases e
 ·rcases get h with ⟨d',e,_⟩|e <;>cases e
 ·rcases get h with ⟨d',e,_⟩|e <;>cases e
 ·rcases get h with ⟨d',e,_⟩|e <;>cases e
theorem yI {Hv H:Hp}{ds:List D}{Q:VK}{W:XK}{n:Nat}{body:SS}(hW:C.W=λ _=>W)(h:Ok C.X.K Hv H W C.cls (Dv.fn n body ds) Q):
  OkS C Hv H { nx:=λ _ H'=>Q .non H',rt:=Q } (body (ds.map Sl.sh++List.replicate (n-ds.length) Sl.no)):=by
 unfold Dv.fn at h;have ext:∀ {st σ' H'},Rel C.X.K Hv H st σ' H'->∃ Hv2,Ext Hv H Hv2 H':=λ {st σ' H'} ⟨Hc,O,r⟩=>by
  obtain⟨Hv2,x,_⟩:=r.ret (.refl r.allH);exact⟨Hv2,x⟩
 cases hb:body (ds.map Sl.sh++List.replicate (n-ds.length) Sl.no) with
 | nx st=>
  simp only[hb] at h;intro σ' H' r;obtain⟨Hv2,x⟩:=ext r;exact h .non Hv2 H' x u4 λ _=>u4
 | ret d nw=>simp only[hb] at h;exact λ v Hv' H' x rp nn=>h v Hv' H' x rp nn
 | brk st=>simp only[hb] at h;exact(show False from h).elim
 | cont st=>simp only[hb] at h;exact(show False from h).elim
 | exc c st=>
  simp only[hb] at h;intro σ' H' r;obtain⟨Hv2,x⟩:=ext r;rw[hW];exact h Hv2 H' x
 | bad=>simp only[hb] at h;exact(show False from h).elim
end
structure CXok (P:Program)(w:World)(CX:CXT):Prop where
 no:∀ (outer:List EO) (H:Hp) (s:Shared) (e:Value) (s':Shared),CX outer H s (λ _ _ _=>False) e s'->False
 leave:∀ (K:Er) (mg:Str->Option Value) (base:Heap) (N:List Str) (qual:Str) (scope:Scope) (f:Addr) (cd:Value) (A:Around) (outer:List EO) (s:Shared) (H:Hp) (E:XK)
  (pins:List (Addr×Obj)) (σ:St) (H1:Hp) (s1:Shared) (e:Value) (s':Shared),Inv (cq CX P w K mg base N qual scope f cd A outer s H E) pins σ H1 s1 ->
  CX (cq CX P w K mg base N qual scope f cd A outer s H E).stack H1 s1 E e s'->(cq CX P w K mg base N qual scope f cd A outer s H E).xe e s'
section
variable {P:Program}{w:World}{K:Er}{mg:Str->Option Value}{base:Heap}{CX:CXT}
def cF {P:Program}{w:World}(hC:CXok P w CX)(cls:String->Value)(K:Er)(mg:Str->Option Value)(base:Heap)(N:List Str)(qual:Str)(scope:Scope)(f:Addr)(cd:Value)(A:Around)(outer:List EO)(s:Shared)(H:Hp)(E:XK)
  {k:Nat} (hr:Room k (A.deeper (envOfC qual scope s.heap.objs.size f cd))):Ctx where
 X:=cq CX P w K mg base N qual scope f cd A outer s H E
 W:=λ _=>E
 cls:=cls
 CX:=CX
 un:=hr.units
 own:=GA
 pass:=λ pins σ H1 s1 e s' I h=>hC.leave K mg base N qual scope f cd A outer s H E pins σ H1 s1 e s' I h
 cxF:=hC.no
theorem zL (hC:CXok P w CX)(cls:String->Value){x qual:Str}{st:Stmt}{f:Addr}{N ps:List Str}{k:Nat}{body:SS}(oc:Value)(od:Option Addr)(dV kV doc pm:Value)(an:Option Addr)(cdv ct:Value)(osl:Array (Option Value))
  (lk:K.lookup f=some ⟨oc,od,.func (EC x qual (aO st) (aE st) (ae st) dV kV doc pm an cdv ct),osl⟩) (hcd:E7 K cdv qual=true) (S:FnScope N ps (ae st))
  (hbody:∀ (A:Around) (outer:List EO) (s:Shared) (H:Hp) (E:XK) (hr:Room k (A.deeper (envOfC qual (ae st) s.heap.objs.size f cdv))),
   SSs (cF hC cls K mg base N qual (ae st) f cdv A outer s H E hr) (aE st) body):
  FnOk P w K mg base CX (k+1) f (EC x qual (aO st) (aE st) (ae st) dV kV doc pm an cdv ct) ps (spD K cls (Dv.fn N.length body) ps.length):=by
 refine pM lk hcd S (λ vs H Q E h=>vJ h) λ A outer s H vs Q E hr h=>?_
 obtain⟨ds,Hv,hl,sv,rp,ok⟩:=h;obtain⟨t,p,q⟩:=hbody A outer s H E hr;have hpl:ps.length<=N.length:=by
  have:=congrArg List.length S.pre;rw[B4] at this;omega
 exact⟨t,p,q Hv H _ (L2.start N vs) H _ ⟨Hv,_,qH sv rp (by omega)⟩ (yI (C:=cF hC cls K mg base N qual (ae st) f cdv A outer s H E hr) rfl ok)⟩
end
section
variable {C:Ctx}{a b c e o:Expr}{es:List Expr}{f g h:EE}{fl:EL}{F G:SS}{pos pos':Pos}{E:Ends}
theorem i6 {X:Cx}{CX:CXT}{W:St->XK}{k:Nat}{fa:Addr}{fd:FuncData}{ps:List Str}{sp:Sp}{dvs:List V}{ds:List Value}{x:Str}{p:Pos}{t:TA}(Fn:FnOk X.prog X.w X.K X.mg X.base CX k fa fd ps sp)(hr:Room k X.A)(hg:Gl X x)(hm:X.mg x=some (.ref fa))(hk:E0 X.K (.ref fa)=true)
  (hb:Binds X.K fd ps ds) (hd:Vals dvs ds) (hx:∀ (pins:List (Addr×Obj)) (σ:St) (H:Hp) (s:Shared) (e:Value) (s':Shared),Inv X pins σ H s->CX X.stack H s (W σ) e s'->X.xe e s')
  (ha:PA X (e::es) t) (hdb:(x == ("__debug__":Str))=false) (he:starEach (e::es) X.env=(false,eval e X.env)::starEach es X.env) (hpl:(backTo pos (starEach es X.env)).any (·.1)=false):
  PE X (.Call (.Name x p) (e::es) [] pos) (λ σ H Q=>t σ H λ vs H1=>sp (vs++dvs) H1 Q (W σ)):=by
 intro pins s σ H Q I h;refine Fp (ku I hg hm ?_ hdb);refine Gn (h₀:=X.base) I.ok.mod.kin hk (thn (ha pos pins s σ H _ I h) λ us s1 ⟨vs,H1,I1,r,q⟩=>⟨I1.kIn,?_⟩) he hpl;have r2:Vals (vs++dvs) (us++ds):=r.append hd;have hl:(us++ds).length=ps.length:=by rw[<- r2.length];exact Fn.len _ _ _ _ q
 refine G6 (FJ (Fn.run X.A X.stack s1 H1 ⟨us,[]⟩ (us++ds) (vs++dvs) Q (W σ) hr I1.env0 (hb s1 us I1.kIn hl) r2 q) λ rr s' hq=>?_);cases rr with
 | error e=>exact hx pins σ H1 s1 e s' I1 hq
 | ok fl=>
  cases fl with
  | ret u=>exact I1.after hq
  | next=>exact EV hq
  | brk=>exact EV hq
  | cont=>exact EV hq
theorem vq {k j:Nat}{fa:Addr}{fd:FuncData}{ps:List Str}{Fm:List D->R}{dds:List D}{dvs:List V}{dus:List Value}{x:Str}{p:Pos}(Fn:FnOk C.X.prog C.X.w C.X.K C.X.mg C.X.base C.CX j fa fd ps (spD C.X.K C.cls Fm ps.length))(hr:Room k C.X.A)(hj:j<=k)
  (hg:Gl C.X x) (hm:C.X.mg x=some (.ref fa)) (hk:E0 C.X.K (.ref fa)=true) (hb:Binds C.X.K fd ps dus) (hd:Vals dvs dus) (hdd:∀ K H,RpL K H dds dvs) (ha:SL C (e::es) fl) (hlen:autoParam ((e::es).length+dds.length=ps.length) ZF._auto_1)
  (hdb:autoParam ((x == ("__debug__":Str))=false) ZC._auto_1) (he:autoParam (starEach (e::es) C.X.env=(false,eval e C.X.env)::starEach es C.X.env) ZF._auto_1) (hpl:autoParam ((backTo pos (starEach es C.X.env)).any (·.1)=false) ZF._auto_1):
  SE C (.Call (.Name x p) (e::es) [] pos) (Dv.eCall (λ ds=>Fm (ds++dds)) fl):=by
 obtain⟨t,pa,qa,hl⟩:=ha;refine⟨_,i6 (W:=C.W) (Fn.mono hj) hr hg hm hk hb hd C.pass pa hdb he hpl,λ σ H Hv ρ Q er s w=>?_⟩;refine qa.step er (.refl s) w λ vs ds fr Hv1 H1 hf x1 _ rp _ w1=>?_
 refine⟨ds++dds,Hv1,?_,x1.vh,rp.append (hdd _ _),Ok.later x1 w1⟩;rw[Bo,hl ρ ds fr hf];exact hlen
def aT (X:Cx)(N:List Str)(scope:Scope)(cl:List (Str×Addr))(L:Addr)(s₀:Shared)(H₀:Hp)(ex:List Addr):Cx:=
 { X with N:=N,s₀:=s₀,H₀:=H₀,env:=compEnvC scope cl L X.env,outer:=X.stack,ex:=ex,fn:=λ _=>false,pn:=[],xe:=λ _ _=>False }
def bz (C:Ctx)(N:List Str)(scope:Scope)(cl:List (Str×Addr))(L:Addr)(s₀:Shared)(H₀:Hp)(ex:List Addr):Ctx where
 X:=aT C.X N scope cl L s₀ H₀ ex
 W:=λ _ _ _ _=>False
 cls:=C.cls
 CX:=C.CX
 un:=C.un
 own:=PassesOwn.never
 pass:=λ _ _ _ _ _ _ _ h=>C.cxF _ _ _ _ _ h
 cxF:=C.cxF
theorem eX {env:EO}:∀ (names:List (Str×NameKind)) (acc:List (Str×Addr)),(∀ y∈names,y.2=.free->∃ c,env.cells.lookup y.1=some c) ->
  ∃ cl,(forIn names acc λ (x:Str×NameKind) (cs:List (Str×Addr))=>(if (x.2 == .free)=true then do let a <- cellOf env x.1;pure (FF ((x.1,a)::cs)) else pure (FF cs):Sem (ForInStep (List (Str×Addr)))))=pure cl /\
   (∀ x c,cl.lookup x=some c->acc.lookup x=some c\/env.cells.lookup x=some c)/\(∀ y∈names,y.2=.free->∃ c,cl.lookup y.1=some c)/\(∀ x c,acc.lookup x=some c->∃ c',cl.lookup x=some c')
 | [],acc,_=>⟨acc,rfl,λ _ _ h=>.inl h,(λ _ h=>nomatch h),λ x c h=>⟨c,h⟩⟩
 | (n,k)::r,acc,h=>by
  simp only[List.forIn_cons];by_cases hk:(k == E3)=true
  ·obtain⟨c,hc⟩:=h (n,k) A6 (by simpa using hk)
   obtain⟨cl,e,h1,h2,h3⟩:=eX r ((n,c)::acc) λ y hy=>h y (A5 _ hy)
   refine⟨cl,?_,λ x d hx=>?_,λ y hy hf=>?_,λ x d hx=>?_⟩
   ·simp only[hk,if_true]
    have e2:cellOf env n=pure c:=by unfold cellOf;rw[hc]
    rw[e2];exact e
   ·rcases h1 x d hx with q|q
    ·rw[Bz] at q
     cases z:x == n with
     | true=>
      rw[z] at q;have:x=n:=by simpa using z
      subst this;cases q;exact .inr hc
     | false=>rw[z] at q;exact .inl q
    ·exact .inr q
   ·rcases List.mem_cons.mp hy with rfl|hy
    ·exact h3 n c (by simp[Bz])
    ·exact h2 y hy hf
   ·by_cases z:(x == n)=true
    ·exact h3 x c (by simp[Bz,z])
    ·exact h3 x d (by rw[Bz];simp only[Bool.not_eq_true] at z;rw[z];exact hx)
  ·obtain⟨cl,e,h1,h2,h3⟩:=eX r acc λ y hy=>h y (A5 _ hy)
   refine⟨cl,?_,h1,λ y hy hf=>?_,h3⟩
   ·simp only[hk]
    exact e
   ·rcases List.mem_cons.mp hy with rfl|hy
    ·exact absurd (by simpa using hf) hk
    ·exact h2 y hy hf
theorem ie {env:EO}{scope:Scope}(h:∀ y∈scope.names,y.2=.free->∃ c,env.cells.lookup y.1=some c):
  ∃ cl,closureFor scope env=pure cl/\(∀ x c,cl.lookup x=some c->env.cells.lookup x=some c)/\∀ y∈scope.names,y.2=.free->∃ c,cl.lookup y.1=some c:=by
 obtain⟨cl,e,h1,h2,_⟩:=eX scope.names [] h;refine⟨cl,?_,λ x c hx=>?_,h2⟩
 ·unfold closureFor
  exact(congrArg (λ m:Sem (List (Str×Addr))=>m >>= λ s=>pure s) e).trans rfl
 ·rcases h1 x c hx with q|q
  ·simp at q
  ·exact q
end
theorem iV {prog:Program}{w:World}{A:Around}{T:Result->Shared->Prop}{s:Shared}{elt target iter:Expr}{ifs:List Expr}{scope:Scope}{pos:Pos}{it acc:Value}{env:EO}(J:Nat->Shared->Prop)
  (turn:∀ n s,J n s->wpAny (model prog w) A (pyNext it) (λ r s1=>match r with
   | none=>T (.ok .next) s1
   | some v=>wpAny (model prog w) A (letOwnedTupleGo target it v) (λ _ s2=>wpAny (model prog w) A (assign target env v) (λ _ s3=>
     wpAny (model prog w) A (forIn ifs true λ c r=>if r=true then do let ok <- isTrue c env (eval c env);pure (FF ok) else pure (FF r)) (λ ok s4=>
      if ok=true then wpAny (model prog w) A (eval elt env) (λ x s5=>wpAny (model prog w) A (call (.builtin "list.append") [acc,x]) (λ _ s6=>∃ m,m<n/\J m s6) (λ _ _=>False) s5) (λ _ _=>False) s4
      else ∃ m,m<n/\J m s4) (λ _ _=>False) s3) (λ _ _=>False) s2) (λ _ _=>False) s1) (λ _ _=>False) s)
  (n:Nat) (h:J n s):codeAny (model prog w) A (.compLoop (.ListComp elt [⟨target,iter,ifs,0⟩] scope pos) 0 it acc env) T s:=by
 refine codeAny_loop rfl J (λ n s hJ=>?_) n h;show wpAny _ A ((compTurn (.ListComp elt [⟨target,iter,ifs,0⟩] scope pos) 0 it acc env).onRaise (λ x=>do noteFrame x env;theTreesLotGoes x)) _ _ s
 refine wpAny_noted ?_
 rw[compTurn_list];refine Es (F1 (Es (EB (turn n s hJ) (λ r s1 h1=>?_) λ _ _ z=>z.elim)));cases r with
 | none=>exact Eu h1
 | some v=>
  refine Es (EB h1 (λ _ s2 h2=>Es (EB h2 (λ _ s3 h3=>Es (EB h3 (λ ok s4 h4=>?_) λ _ _ z=>z.elim)) λ _ _ z=>z.elim)) λ _ _ z=>z.elim);cases ok with
  | false=>exact Eu ⟨rfl,h4⟩
  | true=>
   refine Es (Es (EB h4 (λ x s5 h5=>Es (EB h5 (λ _ s6 h6=>?_) λ _ _ z=>z.elim)) λ _ _ z=>z.elim));exact Eu (Eu ⟨rfl,h6⟩)
theorem dq {env:EO}:∀ {names:List (Str×NameKind)} {x:Str},names.lookup x=some .free ->
  (names.map λ (n,k)=>if (k == E3&&env.scope.kind == .function&&env.kindOf n == some .cell) then (n,He) else (n,k)).lookup x=some .cell \/
  (names.map λ (n,k)=>if (k == E3&&env.scope.kind == .function&&env.kindOf n == some .cell) then (n,He) else (n,k)).lookup x=some .free
 | [],_,h=>by simp at h
 | (n,k)::r,x,h=>by
  have ih:=@dq env r x;simp only[A2];cases hx:x == n with
  | true=>
   simp only[Bz,hx] at h;cases h;by_cases hc:(E3 == E3&&env.scope.kind == .function&&env.kindOf n == some .cell)=true
   ·rw[if_pos hc];left;simp[Bz,hx]
   ·rw[if_neg hc];right;simp[Bz,hx]
  | false=>
   simp only[Bz,hx] at h;by_cases hc:(k == E3&&env.scope.kind == .function&&env.kindOf n == some .cell)=true
   ·rw[if_pos hc];simp only[Bz,hx];exact ih h
   ·rw[if_neg hc];simp only[Bz,hx];exact ih h
theorem cG {env:EO}:∀ {names:List (Str×NameKind)} {x:Str} {kd:NameKind},(∀ y∈names,y.2≠.cell)->kd=.cell\/kd=.free ->
  (names.map λ (n,k)=>if (k == E3&&env.scope.kind == .function&&env.kindOf n == some .cell) then (n,He) else (n,k)).lookup x=some kd->(x,E3)∈names
 | [],_,_,_,_,h=>by simp at h
 | (n,k)::r,x,kd,nc,hk,h=>by
  have ih:=@cG env r x kd (λ y hy=>nc y (A5 _ hy)) hk;simp only[A2] at h;cases hx:x == n with
  | true=>
   have e:x=n:=by simpa using hx
   subst e;by_cases hc:(k == E3&&env.scope.kind == .function&&env.kindOf x == some .cell)=true
   ·have:k=.free:=by
     simp only[Bj,beq_iff_eq] at hc;exact hc.1.1
    subst this;exact A6
   ·rw[if_neg hc] at h
    simp only[Bz,hx] at h;have e2:k=kd:=by simpa using h
    subst e2
    rcases hk with rfl|rfl
    ·exact absurd rfl (nc (x,.cell) A6)
    ·exact A6
  | false=>
   refine A5 _ (ih ?_);by_cases hc:(k == E3&&env.scope.kind == .function&&env.kindOf n == some .cell)=true
   ·rw[if_pos hc] at h;simp only[Bz,hx] at h;exact h
   ·rw[if_neg hc] at h;simp only[Bz,hx] at h;exact h
structure CompNames (X:Cx)(scope:Scope)(x:Str)(fs:List Str)(is:List Nat):Prop where
 kind:scope.kind=.function
 cell:∀ y∈scope.names,y.2≠.cell
 names:∀ y∈scope.names,y.2=.local->scope.names.lookup y.1=some .local
 tgt:scope.names.lookup x=some .local
 nd:(x::fs).Nodup
 free:∀ y∈scope.names,y.2=.free->X.env.kindOf y.1=some .cell\/X.env.kindOf y.1=some .free
 fsf:∀ y∈fs,scope.names.lookup y=some .free
 len:is.length=fs.length
 at':∀ (j:Nat) (y:Str),fs[j]?=some y->∃ i,is[j]?=some i/\X.N[i]?=some y
theorem mem_lookup {α β:Type}[BEq α][LawfulBEq α]:∀ {l:List (α×β)} {x:α} {y:β},l.lookup x=some y->(x,y)∈l
 | [],_,_,h=>by simp at h
 | (a,b)::r,x,y,h=>by
  rw[Bz] at h;cases hx:x == a with
  | true=>
   rw[hx] at h;have e:x=a:=by simpa using hx
   subst e;cases h;exact A6
  | false=>rw[hx] at h;exact A5 _ (mem_lookup h)
def STs (C:Ctx)(ifs:List Expr)(f:EE):Prop:=
 ∃ t:TT,(∀ (pins:List (Addr×Obj)) (s:Shared) (σ:St) (H:Hp) (Q:Bool->Hp->Prop),Inv C.X pins σ H s->t σ H Q ->
  wpAny (model C.X.prog C.X.w) C.X.A (forIn ifs true λ c r=>if r=true then do let ok <- isTrue c C.X.env (eval c C.X.env);pure (FF ok) else pure (FF r)) (TP C.X pins σ Q) C.X.xe s)/\TakC C t f
theorem bO {C:Ctx}:STs C [] (Dv.eBl true):=
 ⟨λ _ H Q=>Q true H,λ pins s σ H Q I h=>wpAny_tests_nil ⟨H,I,h⟩,λ σ H Hv ρ Q e s q=>by
  obtain⟨b,e1,q⟩:=q.now (v:=.bl true) s cT rfl;cases e1;exact q⟩
theorem nC {C:Ctx}{c:Expr}{f:EE}(h:SC C c f):STs C [c] f:=by
 obtain⟨t,p,q⟩:=h;exact⟨t,λ pins s σ H Q I h=>wpAny_tests_one (p pins s σ H Q I h),q⟩
theorem gb {P:Program}{w:World}{H:Hp}{h:Heap}{a:Addr}{o:HO}(x:HOk P w H h)(hn:H a=none)(new:ObjOk P w (upd H a o) h a o):HOk P w (upd H a o) h:=λ b u e=>by
 by_cases hb:b=a
 ·subst hb;rw[ai] at e;cases e;exact new
 ·rw[ag hb] at e
  exact(x b u e).stay (λ c v _ q=>q) (λ c q=>by rw[ag (au q hn)];exact q) λ c xs q=>by rw[ag (au q hn)];exact q
theorem qj {P:Program}{w:World}{H:Hp}{h h':Heap}{a:Addr}(x:HOk P w H h)(hn:H a=none)(k:∀ b o,b≠a->h.get? b=some o->h'.get? b=some o):HOk P w H h':=λ b u e=>by
 refine(x b u e).stay (λ c v hc q=>k c v ?_ q) (λ c q=>q) λ c xs q=>q
 rcases hc with rfl|hc
 ·exact au e hn
 ·exact au hc hn
section
variable {C:Ctx}
theorem lW {ρ:Dv.Env}{is:List Nat}{j:Nat}{d:D}(h:(Dv.pick ρ is)[j]?=some (some d)):∃ i,is[j]?=some i/\ρ[i]?=some (some d):=by
 unfold Dv.pick at h;rw[Bv] at h;cases q:is[j]? with
 | none=>rw[q] at h;cases h
 | some i=>
  rw[q] at h;have h':(ρ[i]?).getD none=some d:=Option.some.inj h;refine⟨i,rfl,?_⟩;cases z:ρ[i]? with
  | none=>rw[z] at h';cases h'
  | some o=>rw[z] at h';exact congrArg some h'
def bp (σ:St)(is:List Nat):St:=is.map λ i=>(σ[i]?).getD none
theorem jE {σ:St}{is:List Nat}{j i:Nat}{v:V}(hi:is[j]?=some i)(h:σ[i]?=some (some v)):(bp σ is)[j]?=some (some v):=by
 unfold bp;rw[Bv,hi];show some ((σ[i]?).getD none)=_
 rw[h];rfl
theorem lO {σ:St}{is:List Nat}{j:Nat}{v:V}(h:(bp σ is)[j]?=some (some v)):∃ i,is[j]?=some i/\σ[i]?=some (some v):=by
 unfold bp at h;rw[Bv] at h;cases q:is[j]? with
 | none=>rw[q] at h;cases h
 | some i=>
  rw[q] at h;have h':(σ[i]?).getD none=some v:=Option.some.inj h;refine⟨i,rfl,?_⟩;cases z:σ[i]? with
  | none=>rw[z] at h';cases h'
  | some o=>rw[z] at h';exact congrArg some h'
theorem tI {K:Er}{Hv:Hp}{ρ:Dv.Env}{σ:St}{is:List Nat}{d:D}{v:V}(e:EnvR K Hv ρ σ)(r:Rp K Hv d v):EnvR K Hv (some d::Dv.pick ρ is) (some v::bp σ is):=λ j x h=>by
 cases j with
 | zero=>cases h;exact⟨v,rfl,r⟩
 | succ j=>
  obtain⟨i,h1,h2⟩:=lW (show (Dv.pick ρ is)[j]?=some (some x) from h);obtain⟨u,h3,h4⟩:=e i x h2;exact⟨u,jE h1 h3,h4⟩
theorem qz {X:Cx}{pins:List (Addr×Obj)}{σ:St}{H1:Hp}{s2:Shared}{scope:Scope}{x:Str}{fs:List Str}{is:List Nat}{cl:List (Str×Addr)}{fp:List Addr}{L:Addr}(I:Inv X pins σ H1 s2)(S:CompNames X scope x fs is)
  (clsub:∀ x c,cl.lookup x=some c->X.env.cells.lookup x=some c) (clhas:∀ y∈scope.names,y.2=.free->∃ c,cl.lookup y.1=some c) (f2:∀ b∈fp,eY X pins H1 b) (fin:∀ b∈fp,b<s2.heap.objs.size) (hL:s2.heap.objs.size<=L):
  (aT X (x::fs) scope cl L s2 H1 fp).Ok:=by
 refine⟨I.ok.mod,S.kind,I.ok.glob,I.ok.blt,hL,λ y z c h1 h2=>I.ok.inj y z c (clsub y c h1) (clsub z c h2),λ y hy=>?_,λ y c h=>(by cases h),I.ok.hd,I.ok.frames,.inl rfl,λ b hb=>⟨?_,λ y c h=>?_⟩,I.bs,BN I.ok.bsz I.sz,λ b o e hb=>?_,λ b hb hf=>?_,I.stack,I.stkFree⟩
 ·have:(y,E3)∈scope.names:=by
   rcases hy with hy|hy
   ·exact cG (env:=X.env) S.cell (.inl rfl) hy
   ·exact cG (env:=X.env) S.cell (.inr rfl) hy
  exact clhas _ this rfl
 ·exact Bl (Bw (fin b hb) hL)
 ·exact(f2 b hb).2.2.2.2.1 y c (clsub y c h)
 ·obtain⟨_,_,_,h4,_⟩:=f2 b hb
  rcases h4 with h4|h4
  ·exact I.ok.noex b o e h4
  ·exact absurd (Ew (I.ok.bs b o e).1) (Nat.not_lt.mpr h4)
 ·obtain⟨_,h2,h3,_⟩:=f2 b hb
  rcases List.mem_cons.mp (I.stkSub b hf) with e|e
  ·exact h2 e
  ·exact h3 e
theorem uD {X:Cx}{pins:List (Addr×Obj)}{σ:St}{H1:Hp}{s2:Shared}{scope:Scope}{x:Str}{fs:List Str}{is:List Nat}{cl:List (Str×Addr)}{fp:List Addr}{L:Addr}{h1:Heap}{t1:Nat}{m:Str->Option Value}(I:Inv X pins σ H1 s2)(S:CompNames X scope x fs is)
  (clsub:∀ x c,cl.lookup x=some c->X.env.cells.lookup x=some c) (clhas:∀ y∈scope.names,y.2=.free->∃ c,cl.lookup y.1=some c) (f2:∀ b∈fp,eY X pins H1 b) (fin:∀ b∈fp,b<s2.heap.objs.size) (hL:s2.heap.objs.size<=L)
  (old:∀ b o,s2.heap.get? b=some o->h1.get? b=some o) (hn:h1.Ns L m):Inv (aT X (x::fs) scope cl L s2 H1 fp) [] (none::bp σ is) H1 { s2 with heap:=h1,toks:=t1 }:=by
 refine⟨qz I S clsub clhas f2 fin hL,rfl,I.bare,Un.kept old,⟨m,hn,λ i y v e1 e2 e3=>?_⟩,λ y c e=>?_,I.hok.fresh hL,λ y c e=>I.freeC y c (clsub y c e),λ p hp=>absurd (show p∈([]:List (Addr×Obj)) from hp) (by simp),I.hok.kept old,?_⟩
 ·cases i with
  | zero=>cases e2
  | succ j=>
   have e1':fs[j]?=some y:=e1
   obtain⟨i,h1',h2'⟩:=lO (show (bp σ is)[j]?=some (some v) from e2);obtain⟨i',h3,h4⟩:=S.at' j y e1';rw[h1'] at h3;cases h3;have hfr:=S.fsf y (BB e1');have hk:=S.free (y,.free) (mem_lookup hfr) rfl;obtain⟨mm,hm,hl⟩:=I.loc;have vis:Vis X.env.scope y:=by
    rcases hk with k|k
    ·exact .inr (.inl k)
    ·exact .inr (.inr k)
   obtain⟨u,r,l⟩:=hl i y v h4 h2' vis;refine⟨u,r,?_⟩
   rcases l with ⟨k,_⟩|⟨_,c,hc,hcell⟩
   ·have k:X.env.kindOf y=some .local:=k
    rcases hk with k' | k' <;>rw[k] at k' <;>cases k'
   ·obtain⟨c',hc'⟩:=clhas (y,.free) (mem_lookup hfr) rfl
    have:=clsub y c' hc';rw[hc] at this;cases this;obtain⟨oc,hoc,hod⟩:=hcell;refine .inr ⟨?_,c,hc',oc,old c oc hoc,hod⟩;exact dq (env:=X.env) hfr
 ·obtain⟨v,oc,hoc,hod⟩:=I.cell y c (clsub y c e)
  exact⟨v,oc,old c oc hoc,hod⟩
 ·show (none::bp σ is).length=(x::fs).length
  rw[A8,A8];unfold bp;rw[A4,S.len]
end
theorem j3 {Hv1 H1 Hvn Hn Hv' H':Hp}(x:Ext Hv1 H1 Hvn Hn)(y:Ext Hv1 Hn Hv' H'):∃ Hvm,Ext Hvn Hn Hvm H'/\Same Hv' Hvm:=by
 refine⟨λ b=>match Hn b with|none=>H' b|some _=>Hvn b,⟨y.hh,λ b o q=>?_,λ b o q=>?_,λ b o q n=>?_,λ b q=>?_,y.nf⟩,λ b o q=>?_⟩
 ·show (match Hn b with|none=>H' b|some _=>Hvn b)=some o
  cases z:Hn b with
  | none=>rw[x.vh b o q] at z;cases z
  | some _=>exact q
 ·have q':(match Hn b with|none=>H' b|some _=>Hvn b)=some o:=q
  cases z:Hn b with
  | none=>rw[z] at q';exact q'
  | some u=>rw[z] at q';exact y.hh _ _ (x.vh b o q')
 ·have q':(match Hn b with|none=>H' b|some _=>Hvn b)=some o:=q
  cases z:Hn b with
  | none=>rfl
  | some u=>rw[z] at q';rw[n] at q';cases q'
 ·show (match Hn b with|none=>H' b|some _=>Hvn b)=H' b
  rw[q]
 ·show (match Hn b with|none=>H' b|some _=>Hvn b)=some o
  cases z:Hn b with
  | none=>exact y.vh b o q
  | some u=>
   cases z2:Hv1 b with
   | none=>have:=y.new b o q z2;rw[z] at this;cases this
   | some u'=>
    have h1:=y.vv b u' z2;rw[q] at h1;cases h1;exact x.vv b o z2
section
variable {C:Ctx}{elt iter:Expr}{x:Str}{px pos:Pos}{ifs:List Expr}{scope:Scope}{fs:List Str}{is:List Nat}{fi:EI}{fe fc:EE}
structure CompAt (C:Ctx)(x:Str)(fs:List Str)(is:List Nat)(scope:Scope)(cl:List (Str×Addr))(L Da:Addr)(s2:Shared)(H1 Hv1:Hp)(fp:List Addr)(tn:Nat->Heap->Prop)(σ:St)(ds:List D)(i:Nat)(o:Option V)(vs:List V)(xs:List D)(f1:Bool)(Hn Hvn:Hp)(s:Shared):Prop where
 le:i<=ds.length
 inv:Inv (aT C.X (x::fs) scope cl L s2 H1 fp) [] (o::bp σ is) Hn s
 at_:tn i s.heap
 fpn:∀ b∈fp,Hn b=none
 obj:∃ (its:List Value) (ne:Nat),s.heap.get? Da=some { cls:=.type "list",data:=.seq its.toArray ne }/\Vals vs its
 dn:Hn Da=none
 few:vs.length<=i
 ext:Ext Hv1 H1 Hvn Hn
 rp:RpL C.X.K Hvn xs vs
 fr:f1=true->RpL [] (Hnew H1 Hn) xs vs
theorem t6 {cl:List (Str×Addr)}{L Da:Addr}{s2:Shared}{H1:Hp}{fp:List Addr}{σ:St}{pins:List (Addr×Obj)}{its:List Value}{ne:Nat}{vs:List V}{Hn:Hp}{s1:Shared}{o:Option V}{h':Heap}
  (I2:Inv C.X pins σ H1 s2) (f2:∀ b∈fp,eY C.X pins H1 b) (eD:Da=s2.heap.objs.size) (eL:L=s2.heap.objs.size+1)
  (I:Inv (aT C.X (x::fs) scope cl L s2 H1 fp) [] (o::bp σ is) Hn s1) (obj:s1.heap.get? Da=some { cls:=.type "list",data:=.seq its.toArray ne }) (rv:Vals vs its) (dn:Hn Da=none) (few:vs.length<=sizeLine)
  (sb:∀ b,b≠L->h'.get? b=s1.heap.get? b):Inv C.X pins σ (upd Hn Da (.lst vs)) { s1 with heap:=h' }:=by
 have lt:∀ b o,s2.heap.get? b=some o->b≠Da/\b≠L:=λ b o e=>by
  have hlt:=Ew e;rw[eD,eL];exact⟨Bl hlt,Bl (BX hlt)⟩
 have hDL:Da≠L:=by rw[eD,eL];exact Bl (BF _)
 have kp:∀ b o,b≠L->s1.heap.get? b=some o->h'.get? b=some o:=λ b o hb e=>(sb b hb).trans e
 refine I2.call' (s':={ s1 with heap:=h' }) (ch:=fp) I.os ⟨λ b ob e n hb hx=>?_,λ b ob e n hb hx=>?_,λ b ob e n hx=>?_,λ b ob e hx=>?_,λ b us e=>?_,λ b ob u e=>?_,λ b ps e=>?_⟩ ?_ I.bare λ b hb=>⟨(f2 b hb).2.2.2.1,(f2 b hb).2.1,(f2 b hb).2.2.2.2.1,(f2 b hb).2.2.2.2.2⟩
 ·exact kp b ob (lt b ob e).2 (I.base.keep b ob e n hb hx)
 ·obtain⟨sl,h1⟩:=I.base.slot b ob e n hb hx
  exact⟨sl,kp b _ (lt b ob e).2 h1⟩
 ·rw[ag (lt b ob e).1];exact I.base.free b ob e n hx
 ·obtain⟨o',h1⟩:=I.base.there b ob e hx
  exact⟨o',kp b _ (lt b ob e).2 h1⟩
 ·have h1:=I.base.tups b us e
  rw[ag (au h1 dn)];exact h1
 ·have h1:=I.base.frzs b ob u e
  rw[ag (au h1 dn)];exact h1
 ·obtain⟨more,h1⟩:=I.base.tbls b ps e
  exact⟨more,by rw[ag (au h1 dn)];exact h1⟩
 ·exact gb (qj I.hok I.free kp) dn ⟨few,its,ne,rv,kp Da _ hDL obj⟩
theorem l7 {elt cond:EE}{free:Dv.Env}{d:D}{r:List D}{xs:List D}{f:Bool}(h:Dv.compGo elt cond free (d::r)=.ok xs f):
  (∃ g x fx xs' f',cond (some d::free)=.ok (.bl true) g/\elt (some d::free)=.ok x fx/\Dv.compGo elt cond free r=.ok xs' f'/\xs=x::xs'/\f=(fx&&f')) \/
  (∃ g,cond (some d::free)=.ok (.bl false) g/\Dv.compGo elt cond free r=.ok xs f):=by
 unfold Dv.compGo at h;cases hc:cond (some d::free) with
 | bad=>simp only[hc] at h;cases h
 | exc c=>simp only[hc] at h;cases h
 | ok b g=>
  cases b with
  | bl b=>
   cases b with
   | true=>
    simp only[hc] at h;cases he:elt (some d::free) with
    | bad=>simp only[he] at h;cases h
    | exc c=>simp only[he] at h;cases h
    | ok x fx=>
     simp only[he] at h;cases hr:Dv.compGo elt cond free r with
     | bad=>simp only[hr] at h;cases h
     | exc c=>simp only[hr] at h;cases h
     | ok xs' f'=>
      simp only[hr] at h;cases h;exact .inl ⟨g,x,fx,xs',f',rfl,rfl,rfl,rfl,rfl⟩
   | false=>simp only[hc] at h;exact .inr ⟨g,rfl,h⟩
  | _=>simp only[hc] at h;cases h
def g8 (C:Ctx)(pins:List (Addr×Obj))(σ:St)(Q:VK)(Da L:Addr)(s5:Shared):Prop:=
 (∃ m,s5.heap.Ns L m)/\L≠C.X.env.locals/\(∀ x c,C.X.env.cells.lookup x=some c->c≠L)/\C.X.s₀.heap.objs.size<=L/\(∀ p∈C.X.pn++pins,p.1≠L) /\
  ∃ H',H' L=none/\Q (.ref Da) H'/\∀ h',(∀ b,b≠L->h'.get? b=s5.heap.get? b)->Inv C.X pins σ H' { s5 with heap:=h' }
theorem jU {pins:List (Addr×Obj)}{s:Shared}{σ:St}{H Hv:Hp}{ρ:Dv.Env}{Q:VK}{use:Option (Value->Sem Unit)}{Q':Value->Shared->Prop}{pos':Pos}(hclm:C.X.calm=true)(S:CompNames C.X scope x fs is)(hi:SI C (.Name x px) iter fi)(he:∀ cl L s₀ H₀ ex,SE (bz C (x::fs) scope cl L s₀ H₀ ex) elt fe)(hc:∀ cl L s₀ H₀ ex,STs (bz C (x::fs) scope cl L s₀ H₀ ex) ifs fc)
  (hs:∀ v,foldedSetIterable iter C.X.env v=pure v) (I:Inv C.X pins σ H s) (er:EnvR C.X.K Hv ρ σ) (sv:Same Hv H) (ok:Ok C.X.K Hv H (C.W σ) C.cls (Dv.eComp fe fc is fi ρ) Q)
  (hfin:∀ Da L s5,g8 C pins σ Q Da L s5->compPost (model C.X.prog C.X.w) C.X.A C.X.xe use Q' (.ref Da) L (.ok .next) s5):
  wpAny (model C.X.prog C.X.w) C.X.A (comprehension (.ListComp elt [⟨.Name x px,iter,ifs,0⟩] scope pos) scope C.X.env pos' (newList []) false (eval iter C.X.env) use) Q' C.X.xe s:=by
 obtain⟨wi,pi,qi⟩:=hi;obtain⟨cl,hcl,clsub,clhas⟩:=ie (env:=C.X.env) (scope:=scope) λ y hy hf=>I.ok.has y.1 (S.free y hy hf)
 have h0:wi σ H (λ J H1=>∃ Hv1 ds xs fr,Ext Hv H Hv1 H1/\Wlk C.X.K J Hv1 ds/\ds.length<=Dv.mx/\Dv.compGo fe fc (Dv.pick ρ is) ds=.ok xs fr/\Ok C.X.K Hv H (C.W σ) C.cls (.ok (.lst xs) fr) Q):=by
  refine qi σ H Hv ρ _ er sv ?_
  unfold Dv.eComp at ok;cases hf:fi ρ with
  | bad=>simp only[hf] at ok;exact ok
  | exc c=>simp only[hf] at ok;exact ok
  | ok ds g=>
   simp only[hf] at ok;by_cases hz:ds.length<=Dv.mx
   ·simp only[hz,if_true] at ok
    cases hgo:Dv.compGo fe fc (Dv.pick ρ is) ds with
    | bad=>simp only[hgo] at ok;exact(show False from ok).elim
    | exc c=>simp only[hgo] at ok;exact(show False from ok).elim
    | ok xs fr=>
     simp only[hgo] at ok;exact λ J Hv1 H1 x1 wl=>⟨Hv1,ds,xs,fr,x1,wl,hz,hgo,ok⟩
   ·simp only[hz,if_false] at ok
    exact(show False from ok).elim
 refine GE (use:=use) rfl hs hcl S.kind S.names (EB (pi pins s σ H _ I h0) (λ v s1 h1=>EB h1 (λ itv s2 h2=>?_) λ _ _ z=>z) λ _ _ z=>z);obtain⟨it,fp,tn,J,H1,rfl,I2,T,st2,f2,Hv1,ds,xs,fr,x1,wl,hz,hgo,okE⟩:=h2;clear ok;have fin:∀ b∈fp,b<s2.heap.objs.size:=λ b hb=>by
  obtain⟨o,e,_⟩:=T.obj 0 _ st2 b hb;exact Ew e
 refine Fg (G8 S.cell (by intro y hy;simp at hy) (λ h1 hns hsb=>?_) S.kind);dsimp only at hns hsb ⊢;generalize hH2:s2.heap.push { cls:=.type "list",dict:=none,data:=.seq ([]:List Value).toArray }=G2 at hns hsb ⊢;have hL:G2.objs.size=s2.heap.objs.size+1:=by rw[<- hH2,Fy]
 generalize eL:G2.objs.size=L at hns hsb ⊢;rw[eL] at hL;have old:∀ b o,s2.heap.get? b=some o->h1.get? b=some o:=λ b o e=>by
  have hlt:=Ew e;exact hsb.extBut b o (by rw[hL];exact Bl (BX hlt)) (Et _ (hH2▸Et _ e))
 have hacc:h1.get? s2.heap.objs.size=some { cls:=.type "list",data:=.seq ([]:List Value).toArray 0 }:=hsb.extBut _ _ (by rw[hL];exact Bl (BF _)) (Et _ (hH2▸Ey _ rfl));generalize eD:s2.heap.objs.size=Da at hacc hL ⊢;have hDfp:Da∉fp:=λ hb=>by
  have:=fin Da hb;rw[eD] at this;exact BS _ this
 have hDL:Da≠L:=by rw[hL];exact Bl (BF _)
 have hsL:s2.heap.objs.size<=L:=by rw[hL,eD];exact Ct _
 have hsD:s2.heap.objs.size<=Da:=Dq eD;obtain⟨te,pe,qe⟩:=he cl L s2 H1 fp;obtain⟨tt,pt,qt⟩:=hc cl L s2 H1 fp;have hDfs:Da∉frs C.X.stack:=λ hb=>by
  obtain⟨_,ob,hob,_⟩:=I2.stack.mem hb;have:=Ew hob;rw[eD] at this;exact BS _ this
 have hcalm:(aT C.X (x::fs) scope cl L s2 H1 fp).calm=true:=hclm;have start:CompAt C x fs is scope cl L Da s2 H1 Hv1 fp tn σ ds 0 none [] [] true H1 Hv1 { s2 with heap:=h1,toks:=s2.toks+([]:List (Str×Value)).length }:=
  ⟨BV _,uD I2 S clsub clhas f2 fin hsL old hns,T.keep 0 _ _ st2 λ b hb o e=>old b o e,λ b hb=>(f2 b hb).1,⟨[],0,hacc,.nil⟩,I2.hok.fresh hsD,Bh _,.refl x1.vh,.nil,λ _=>.nil⟩
 have loop:∀ (T0:Result->Shared->Prop) (s4:Shared),(∀ s',g8 C pins σ Q Da L s'->T0 (.ok .next) s')->CompAt C x fs is scope cl L Da s2 H1 Hv1 fp tn σ ds 0 none [] [] true H1 Hv1 s4 ->
   codeAny (model C.X.prog C.X.w) C.X.A (.compLoop (.ListComp elt [⟨.Name x px,iter,ifs,0⟩] scope pos) 0 (.ref it) (.ref Da) (compEnvC scope cl L C.X.env)) T0 s4:=by
  intro T0 s4 hT hst;refine iV (λ n s=>∃ i o vs xs1 f1 xs2 fr2 Hn Hvn,n=ds.length-i/\CompAt C x fs is scope cl L Da s2 H1 Hv1 fp tn σ ds i o vs xs1 f1 Hn Hvn s/\Dv.compGo fe fc (Dv.pick ρ is) (ds.drop i)=.ok xs2 fr2/\xs=xs1++xs2/\fr=(f1&&fr2)) ?_ ds.length ⟨0,none,[],[],true,xs,fr,H1,Hv1,rfl,hst,hgo,rfl,by simp⟩
  rintro n s ⟨i,o,vs,xs1,f1,xs2,fr2,Hn,Hvn,rfl,A,hg2,hxs,hfr⟩
  obtain⟨its,ne,hob,rv⟩:=A.obj;have I1:Inv (aT C.X (x::fs) scope cl L s2 H1 fp) [(Da,{ cls:=.type "list",data:=.seq its.toArray ne })] (o::bp σ is) Hn s:=A.inv.pins_of λ p hp=>by
   have e:p=(Da,({ cls:=.type "list",data:=.seq its.toArray ne }:Obj)):=by simpa using hp
   subst e;exact⟨hob,A.dn,hDL,hDfs,λ v z=>by cases z⟩
  have hfp:∀ Hx:Hp,(∀ b∈fp,Hx b=none)->∀ b∈fp,eY (aT C.X (x::fs) scope cl L s2 H1 fp) [(Da,{ cls:=.type "list",data:=.seq its.toArray ne })] Hx b:=λ Hx hx b hb=>by
   refine⟨hx b hb,?_,λ hf=>?_,.inl hb,λ y c e=>(f2 b hb).2.2.2.2.1 y c (clsub y c e),λ p hp=>?_⟩
   ·have:=fin b hb
    exact λ z=>by
     have z':b=L:=z;rw[z'] at this;exact absurd this (Nat.not_lt.mpr hsL)
   ·obtain⟨_,ob,hob',_⟩:=I2.stack.mem hf
    rcases List.mem_cons.mp (I2.stkSub b hf) with e|e
    ·exact(f2 b hb).2.1 e
    ·exact(f2 b hb).2.2.1 e
   ·have e:p=(Da,({ cls:=.type "list",data:=.seq its.toArray ne }:Obj)):=by simpa using (show p∈[]++[(Da,({ cls:=.type "list",data:=.seq its.toArray ne }:Obj))] from hp)
    subst e;exact λ z=>hDfp (by rw[show Da=b from z];exact hb)
  obtain⟨w1,w2⟩:=wl i Hn (A.ext.vv.trans A.ext.vh);by_cases hlt:i<ds.length
  ·have hd:ds[i]?=some ds[i]:=by simp[hlt]
   have e1:ds.drop i=ds[i]::ds.drop (i+1):=BM hlt;rw[e1] at hg2;generalize ds[i]=d at hd e1 hg2;obtain⟨go,yl⟩:=w1 d hd;refine EB (T.item (aT C.X (x::fs) scope cl L s2 H1 fp) rfl rfl rfl hcalm i _ s _ Hn (λ _ _=>False) I1 (hfp Hn A.fpn) A.at_ go) (λ r s5 h5=>?_) λ _ _ z=>z
   obtain⟨u,rfl,h5⟩:=h5;refine EB h5 (λ _ s6 h6=>?_) λ _ _ z=>z
   obtain⟨xv,H6,I6,ru,y6,tn6,fr6⟩:=h6;obtain⟨Hv6,x6,rp6⟩:=yl xv H6 y6;obtain⟨Hvm,xm,sm⟩:=j3 A.ext x6;have I6p:=I6.pinned (fp:=fp) (hfp H6 fr6) (T.obj _ _ tn6);have dn6:H6 Da=none:=(I6.pin (Da,{ cls:=.type "list",data:=.seq its.toArray ne }) (Bp _ (by simp))).2.1;have hg:=ej (X:=aT C.X (x::fs) scope cl L s2 H1 fp) (pos:=px) (i:=0) (x:=x) S.nd rfl (.inl (Gb S.tgt)) (.inr (Gb S.tgt));refine EB (hg _ s6 _ H6 xv u (λ σ' H'=>σ'=some xv::bp σ is/\H'=H6) I6p ru ⟨rfl,rfl⟩) (λ _ s7 h7=>?_) λ _ _ z=>z
   obtain⟨σ7,H7,I7,e7,e7'⟩:=h7;subst e7 e7';have er7:EnvR C.X.K Hvm (some d::Dv.pick ρ is) (some xv::bp σ is):=tI (er.same ((x1.vv.trans A.ext.vv).trans xm.vv)) (rp6.same sm);have back:∀ {s':Shared} {H':Hp} {σ':St},Inv (aT C.X (x::fs) scope cl L s2 H1 fp) ([(Da,{ cls:=.type "list",data:=.seq its.toArray ne })]++fM fp s6.heap) σ' H' s'->tn (i+1) s'.heap/\(∀ b∈fp,H' b=none)/\s'.heap.get? Da=some { cls:=.type "list",data:=.seq its.toArray ne }/\H' Da=none:=λ {s' H' σ'} I'=>by
    refine⟨T.keep _ _ _ tn6 λ b hb o e=>(I'.pin (b,o) (Bp _ (Bp _ (b8 hb e)))).1,λ b hb=>?_,?_,?_⟩
    ·obtain⟨o,e,_⟩:=T.obj _ _ tn6 b hb
     exact(I'.pin (b,o) (Bp _ (Bp _ (b8 hb e)))).2.1
    ·exact(I'.pin (Da,{ cls:=.type "list",data:=.seq its.toArray ne }) (Bp _ (BK _ (by simp)))).1
    ·exact(I'.pin (Da,{ cls:=.type "list",data:=.seq its.toArray ne }) (Bp _ (BK _ (by simp)))).2.1
   rcases l7 hg2 with ⟨g,xd,fx,xs',f',hcond,helt,hrest,exs,ef⟩|⟨g,hcond,hrest⟩
   ·-- the item is taken
    refine EB (pt _ s7 _ H7 (λ b H'=>b=true/\∃ Hvq,Ext Hvm H7 Hvq H') I7 (qt _ H7 Hvm (some d::Dv.pick ρ is) _ er7 xm.vh ?_)) (λ okb s8 h8=>?_) λ _ _ z=>z
    ·rw[hcond]
     intro v Hv' H' xx rpb _;unfold Rp at rpb;exact⟨true,rpb,rfl,Hv',xx⟩
    obtain⟨H8,I8,rfl,Hv8,x8⟩:=h8;rw[if_pos rfl];refine EB (pe _ s8 _ H8 (λ v H'=>∃ Hv',Ext Hv8 H8 Hv' H'/\Rp C.X.K Hv' xd v/\(fx=true->Rp [] (Hnew H8 H') xd v)) I8 (qe _ H8 Hv8 (some d::Dv.pick ρ is) _ (er7.same x8.vv) x8.vh ?_)) (λ uv s9 h9=>?_) λ _ _ z=>z
    ·show Ok C.X.K Hv8 H8 _ C.cls (fe (some d::Dv.pick ρ is)) _
     rw[helt];exact λ v Hv' H' xx rpb nn=>⟨Hv',xx,rpb,nn⟩
    obtain⟨v9,H9,I9,r9,Hv9,x9,rp9,n9⟩:=h9;obtain⟨tn9,fpn9,ob9,dn9⟩:=back I9;have hlen:=rv.length;refine FM Gp ⟨_,ob9,rfl⟩ Ge (F9 _ _) (Gy Da its.toArray ne uv (by rw[Bd];have:=A.few;have:=cg hz;omega)) ⟨ob9,?_⟩;refine⟨ds.length-(i+1),by omega,i+1,some xv,vs++[v9],xs1++[xd],f1&&fx,xs',f',H9,Hv9,rfl,⟨hlt,?_,?_,fpn9,?_,dn9,?_,?_,?_,?_⟩,hrest,by rw[hxs,exs];simp,by rw[hfr,ef,Ec]⟩
    ·have I9':Inv (aT C.X (x::fs) scope cl L s2 H1 fp) [] (some xv::bp σ is) H9 s9:=I9.pins_of λ p hp=>absurd hp (by simp)
     exact I9'.turned (it:=Da) (λ b ob hb e=>(Ez _ _ (Ne.symm hb)).trans e) dn9 hDL (.inr hsD) (λ y c e z=>by
      obtain⟨w',oc,hoc,_⟩:=I2.cell y c (clsub y c e);have:=Ew hoc;rw[z] at this;exact absurd this (Nat.not_lt.mpr hsD)) (λ p hp=>absurd (show p∈([]:List (Addr×Obj)) from hp) (by simp))
    ·exact T.keep _ _ _ tn9 λ b hb ob e=>(Ez _ _ (λ z=>hDfp (by rw[z];exact hb))).trans e
    ·have q:=GD ob9 (λ a=>a.push uv)
     exact⟨its++[uv],_,by simpa using q,rv.append (.cons r9 .nil)⟩
    ·rw[Bo,BQ];have:=A.few;omega
    ·exact A.ext.trans (xm.trans (x8.trans x9))
    ·exact(A.rp.same ((xm.vv.trans x8.vv).trans x9.vv)).append (.cons rp9 .nil)
    ·intro z
     rw[Bj] at z;refine((A.fr z.1).same (Hnew.mono (.refl _) ((xm.hh.trans x8.hh).trans x9.hh))).append (.cons ((n9 z.2).same (Hnew.mono ((A.ext.hh.trans xm.hh).trans x8.hh) (.refl _))) .nil)
   ·-- the item is left out
    refine EB (pt _ s7 _ H7 (λ b H'=>b=false/\∃ Hvq,Ext Hvm H7 Hvq H') I7 (qt _ H7 Hvm (some d::Dv.pick ρ is) _ er7 xm.vh ?_)) (λ okb s8 h8=>?_) λ _ _ z=>z
    ·rw[hcond]
     intro v Hv' H' xx rpb _;unfold Rp at rpb;exact⟨false,rpb,rfl,Hv',xx⟩
    obtain⟨H8,I8,rfl,Hv8,x8⟩:=h8;rw[if_neg Br];obtain⟨tn8,fpn8,ob8,dn8⟩:=back I8;refine⟨ds.length-(i+1),by omega,i+1,some xv,vs,xs1,f1,xs2,fr2,H8,Hv8,rfl,⟨hlt,I8.pins_of λ p hp=>absurd hp (by simp),tn8,fpn8,⟨its,ne,ob8,rv⟩,dn8,Cu A.few,A.ext.trans (xm.trans x8),A.rp.same (xm.vv.trans x8.vv),λ z=>(A.fr z).same (Hnew.mono (.refl _) (xm.hh.trans x8.hh))⟩,hrest,hxs,hfr⟩
  ·have ei:i=ds.length:=D8 A.le (by omega)
   refine EB (T.done (aT C.X (x::fs) scope cl L s2 H1 fp) rfl rfl rfl hcalm i _ s _ Hn (λ _ _=>False) I1 (hfp Hn A.fpn) A.at_ (w2 ei)) (λ r s5 h5=>?_) λ _ _ z=>z
   obtain⟨rfl,I5⟩:=h5;refine hT s5 ?_
   obtain⟨m5,hn5,_⟩:=I5.loc;rw[ei,C2] at hg2;cases hg2;rw[B6] at hxs;rw[Bm] at hfr;subst hxs hfr;have ob5:=(I5.pin (Da,{ cls:=.type "list",data:=.seq its.toArray ne }) (Bp _ (by simp))).1;refine⟨⟨m5,hn5⟩,λ z=>absurd I2.lt (by rw[<- z];exact Nat.not_lt.mpr hsL),λ y c e z=>?_,BN I2.sz hsL,λ p hp z=>?_,upd Hn Da (.lst vs),?_,?_,λ h' sb=>?_⟩
   ·obtain⟨w',oc,hoc,_⟩:=I2.cell y c e
    exact absurd (Ew hoc) (by rw[z];exact Nat.not_lt.mpr hsL)
   ·exact absurd (Ew (I2.pin p hp).1) (by rw[z];exact Nat.not_lt.mpr hsL)
   ·rw[ag (Ne.symm hDL)];exact A.inv.free
   ·exact Ok.newL okE (x1.trans A.ext) A.rp (λ z=>(A.fr z).same (Hnew.mono x1.hh (.refl _))) Da A.dn
   ·exact t6 I2 f2 eD.symm (by rw[hL,eD]) (I5.pins_of λ p hp=>absurd hp (by simp)) ob5 rv A.dn (by have:=A.few;have:=A.le;have:=cg hz;omega) sb
 refine GS (loop _ _ (λ s' h=>hfin Da L s' h) start) ?_
 exact T.self _ 0 _ _ _ start.at_ (loop _ _ (λ s' h=>hfin Da L s' h) start)
theorem bI (S:CompNames C.X scope x fs is)(hi:SI C (.Name x px) iter fi)(he:∀ cl L s₀ H₀ ex,SE (bz C (x::fs) scope cl L s₀ H₀ ex) elt fe)(hc:∀ cl L s₀ H₀ ex,STs (bz C (x::fs) scope cl L s₀ H₀ ex) ifs fc)
  (hs:autoParam (∀ v,foldedSetIterable iter C.X.env v=pure v) ZE._auto_1) (hclm:autoParam (C.X.calm=true) ZF._auto_1):SE C (.ListComp elt [⟨.Name x px,iter,ifs,0⟩] scope pos) (Dv.eComp fe fc is fi):=by
 refine⟨λ σ H Q=>∃ Hv ρ,EnvR C.X.K Hv ρ σ/\Same Hv H/\Ok C.X.K Hv H (C.W σ) C.cls (Dv.eComp fe fc is fi ρ) Q,?_,λ σ H Hv ρ Q e s q=>⟨Hv,ρ,e,s,q⟩⟩;intro pins s σ H Q I ⟨Hv,ρ,er,sv,ok⟩;rw[eval_ListComp];refine jU (use:=none) hclm S hi he hc hs I er sv ok λ Da L s5 h=>?_
 obtain⟨⟨m,hn⟩,_,_,_,_,H',hL,q,iv⟩:=h;exact⟨m,hn,λ h' sb=>⟨.ref Da,H',iv h' λ b hb=>sb.2 b hb,rfl,q⟩⟩
theorem eU {i:Nat}{y:Str}{py spos:Pos}(S:CompNames C.X scope x fs is)(hi:SI C (.Name x px) iter fi)(he:∀ cl L s₀ H₀ ex,SE (bz C (x::fs) scope cl L s₀ H₀ ex) elt fe)(hc:∀ cl L s₀ H₀ ex,STs (bz C (x::fs) scope cl L s₀ H₀ ex) ifs fc)
  (hN:C.X.N.Nodup) (hy:C.X.N[i]?=some y) (hl:C.X.env.scope.names.lookup y=some .local) (hsw:swapsWith (.ListComp elt [⟨.Name x px,iter,ifs,0⟩] scope pos) (some (.Name y py)) spos.line C.X.env=pure true) (hs:∀ v,foldedSetIterable iter C.X.env v=pure v) (hclm:C.X.calm=true):
  PS C.X (.Assign [.Name y py] (.ListComp elt [⟨.Name x px,iter,ifs,0⟩] scope pos) spos) (λ E σ H=>∃ Hv ρ,EnvR C.X.K Hv ρ σ/\Same Hv H/\Ok C.X.K Hv H (C.W σ) C.cls (Dv.eComp fe fc is fi ρ) λ v H'=>E.nx (σ.set i (some v)) H'):=by
 intro pins s σ H E I ⟨Hv,ρ,er,sv,ok⟩;rw[exec_Assign_Name_used _ _ _ _ hsw];refine Es (F1 (Es ?_));show wpAny _ _ (do let _ <- comprehension (.ListComp elt [⟨.Name x px,iter,ifs,0⟩] scope pos) scope C.X.env _ (newList []) false (eval iter C.X.env) (some (assign (.Name y py) C.X.env))) _ _ s
 refine Es (EB (jU (use:=some (assign (.Name y py) C.X.env)) (Q':=λ _ s'=>∃ σ' H',Inv C.X pins σ' H' s'/\E.nx σ' H') hclm S hi he hc hs I er sv ok λ Da L s5 h=>?_) (λ _ s' hq=>Eu (Eu hq)) λ _ _ e=>e);obtain⟨⟨m,hn⟩,h1,h2,h3,h4,H',hL,q,iv⟩:=h;have I5:Inv C.X pins σ H' s5:=iv s5.heap λ b _=>rfl
 show wpAny _ _ (assign (.Name y py) C.X.env (.ref Da)) _ _ s5
 refine wpAny_assign_Name (jZ (v:=.ref Da) I5 hN hy (.inl hl) rfl (λ s6 I6 ⟨a,sb,ha⟩=>?_) (.inr hl));have hLa:L≠a:=by
  rcases ha with rfl|ha
  ·exact h1
  ·exact λ z=>h2 y a ha z.symm
 refine⟨m,hn.sameBut sb hLa,λ h' sb'=>⟨_,H',?_,q⟩⟩;exact I6.turned (t':=s6.toks) (it:=L) (λ b o hb e=>(sb'.2 b hb).trans e) hL h1 (.inr h3) h2 h4
theorem iW {i:Nat}{y:Str}{py spos:Pos}(S:CompNames C.X scope x fs is)(hi:SI C (.Name x px) iter fi)(he:∀ cl L s₀ H₀ ex,SE (bz C (x::fs) scope cl L s₀ H₀ ex) elt fe)(hc:∀ cl L s₀ H₀ ex,STs (bz C (x::fs) scope cl L s₀ H₀ ex) ifs fc)
  (hN:C.X.N.Nodup) (hy:C.X.N[i]?=some y) (hl:C.X.env.scope.names.lookup y=some .local) (hsw:autoParam (swapsWith (.ListComp elt [⟨.Name x px,iter,ifs,0⟩] scope pos) (some (.Name y py)) spos.line C.X.env=pure true) ZF._auto_1) (hs:autoParam (∀ v,foldedSetIterable iter C.X.env v=pure v) ZE._auto_1) (hclm:autoParam (C.X.calm=true) ZF._auto_1):
  SSt C (.Assign [.Name y py] (.ListComp elt [⟨.Name x px,iter,ifs,0⟩] scope pos) spos) (Dv.sSet i (Dv.eComp fe fc is fi)):=
 ⟨_,eU S hi he hc hN hy hl hsw hs hclm,λ Hv₀ H₀ E σ H st r w=>pS (f:=Dv.eComp fe fc is fi) (t:=λ σ H Q=>∃ Hv ρ,EnvR C.X.K Hv ρ σ/\Same Hv H/\Ok C.X.K Hv H (C.W σ) C.cls (Dv.eComp fe fc is fi ρ) Q) (λ σ H Hv ρ Q e s q=>⟨Hv,ρ,e,s,q⟩) i r w⟩
theorem l5 (gs:List Nat){i:Nat}{y:Str}{py spos:Pos}(S:CompNames C.X scope x fs is)(hi:SI C (.Name x px) iter fi)(he:∀ cl L s₀ H₀ ex,SE (bz C (x::fs) scope cl L s₀ H₀ ex) elt fe)(hc:∀ cl L s₀ H₀ ex,STs (bz C (x::fs) scope cl L s₀ H₀ ex) ifs fc)
  (hN:C.X.N.Nodup) (hy:C.X.N[i]?=some y) (hl:C.X.env.scope.names.lookup y=some .local) (hsw:autoParam (swapsWith (.ListComp elt [⟨.Name x px,iter,ifs,0⟩] scope pos) (some (.Name y py)) spos.line C.X.env=pure true) ZF._auto_1) (hs:autoParam (∀ v,foldedSetIterable iter C.X.env v=pure v) ZE._auto_1) (hclm:autoParam (C.X.calm=true) ZF._auto_1):
  SSt C (.Assign [.Name y py] (.ListComp elt [⟨.Name x px,iter,ifs,0⟩] scope pos) spos) (Dv.sSetG gs i (Dv.eComp fe fc is fi)):=
 ⟨_,eU S hi he hc hN hy hl hsw hs hclm,λ Hv₀ H₀ E σ H st r w=>lS (f:=Dv.eComp fe fc is fi) (t:=λ σ H Q=>∃ Hv ρ,EnvR C.X.K Hv ρ σ/\Same Hv H/\Ok C.X.K Hv H (C.W σ) C.cls (Dv.eComp fe fc is fi ρ) Q) (λ σ H Hv ρ Q e s q=>⟨Hv,ρ,e,s,q⟩) gs i r w⟩
end
section
variable {C:Ctx}{a b c e o k:Expr}{es:List Expr}{f g h:EE}{fl:EL}{F G:SS}{pos pos':Pos}{E:Ends}
theorem oB (n d:Nat)(o:Option Int):Dv.cutI n d o=HT.sIx n d o:=by cases o <;>rfl
theorem RpL.drop {K:Er}{H:Hp}:∀ {ds:List D} {vs:List V} (n:Nat),RpL K H ds vs->RpL K H (ds.drop n) (vs.drop n)
 | _,_,0,h=>h
 | [],_,n+1,h=>by unfold RpL at h;subst h;exact .nil
 | d::r,vs,n+1,h=>by
  unfold RpL at h;obtain⟨v,ws,rfl,_,h3⟩:=h;exact RpL.drop n h3
theorem RpL.take {K:Er}{H:Hp}:∀ {ds:List D} {vs:List V} (n:Nat),RpL K H ds vs->RpL K H (ds.take n) (vs.take n)
 | _,_,0,_=>.nil
 | [],_,n+1,h=>by unfold RpL at h;subst h;exact .nil
 | d::r,vs,n+1,h=>by
  unfold RpL at h;obtain⟨v,ws,rfl,h2,h3⟩:=h;exact .cons h2 (RpL.take n h3)
theorem RpL.cut {K:Er}{H:Hp}{ds:List D}{vs:List V}(h:RpL K H ds vs)(lo hi:Option Int):RpL K H (Dv.cutL ds lo hi) (qE vs lo hi):=by
 unfold Dv.cutL qE;rw[h.length,oB,oB];exact(h.drop _).take _
def SO (C:Ctx)(e:Option Expr)(f:Option EE):Prop:=
 ∃ t:TO,PO C.X e t/\∀ σ H Hv ρ (Q:VK) (T:Option Int->Hp->Prop) (k:Option Int->R) Hv1 H1,EnvR C.X.K Hv ρ σ->Ext Hv H Hv1 H1->Ok C.X.K Hv H (C.W σ) C.cls (Dv.ePart f ρ k) Q ->
  (∀ i Hv2 H2,Ext Hv H Hv2 H2->Ext Hv1 H1 Hv2 H2->Ok C.X.K Hv H (C.W σ) C.cls (k i) Q->T i H2)->t σ H1 T
theorem wK:SO C none none:=⟨_,vI,λ σ H Hv ρ Q T k Hv1 H1 e x q n=>n none Hv1 H1 x (.refl x.vh) q⟩
theorem vo (he:SE C e f):SO C (some e) (some f):=by
 obtain⟨t,p,q⟩:=he;refine⟨_,pO p,λ σ H Hv ρ Q T k Hv1 H1 er x w n=>?_⟩;refine Tak.step q er x w λ v d fr Hv2 H2 hf x2 y2 rp _ w2=>?_
 cases d with
 | int i=>
  unfold Rp at rp;exact⟨i,rp,n (some i) Hv2 H2 x2 y2 w2⟩
 | _=>exact(show False from w2).elim
theorem uT {lo hi:Option Expr}{fl fh:Option EE}{p2:Pos}(he:SE C e f)(hl:SO C lo fl)(hh:SO C hi fh):SE C (.Subscript e (.Slice lo hi none p2) pos) (Dv.eSlice f fl fh):=by
 obtain⟨t,p,q⟩:=he;obtain⟨tl,pl,ql⟩:=hl;obtain⟨th,ph,qh⟩:=hh;refine⟨_,uL vE p pl ph,λ σ H Hv ρ Q er s w=>?_⟩;refine Tak.step q er (.refl s) w λ v d fr Hv1 H1 _ x1 _ rp1 n1 w1=>?_
 refine ql σ H Hv ρ Q _ _ Hv1 H1 er x1 w1 λ i Hv2 H2 x2 y2 w2=>?_
 refine qh σ H Hv ρ Q _ _ Hv2 H2 er x2 w2 λ j Hv3 H3 x3 y3 w3=>?_
 have y13:=y2.trans y3;cases d with
 | lst ds=>
  cases fr with
  | true=>
   have rn:=(n1 rfl).same (Hnew.mono (.refl _) y13.hh);unfold Rp at rn;obtain⟨l,vs,rfl,h1,h2⟩:=rn;have h1':SqX C.X.K H3 l vs:=by
    rcases h1 with h1|⟨its,n,e,_⟩
    ·exact .inl (Rd.same Hnew.sub h1)
    ·simp at e
   exact⟨l,vs,rfl,h1'.seq,λ p hp=>Ok.newL (fr:=true || Dv.flatL (Dv.cutL ds i j)) w3 x3 (((RpL.frag h2).same x3.news).cut i j) (λ _=>h2.cut i j) p hp⟩
  | false=>
   have rp:=rp1.same y13.vv;unfold Rp at rp;obtain⟨l,vs,rfl,h1,h2⟩:=rp;exact⟨l,vs,rfl,(h1.same x3.vh).seq,λ p hp=>Ok.newL (fr:=false || Dv.flatL (Dv.cutL ds i j)) w3 x3 (h2.cut i j) (λ z=>(h2.cut i j).flat (by simpa using z)) p hp⟩
 | _=>exact(show False from w3).elim
def C2S (C:Ctx)(fv:Value)(F:D->D->R):Prop:=
 ∃ r,cU C.X fv r/\∀ x y d d' H Hv H1 Hv1 W Q,Ext Hv H Hv1 H1->Rp C.X.K Hv1 d x->Rp C.X.K Hv1 d' y->Ok C.X.K Hv H W C.cls (F d d') Q->r [x,y] H1 Q
theorem zZ {x:Str}{p:Pos}{id:String}{F:D->D->R}(hc:C2S C (.builtin id) F)(hg:Gl C.X x)(hm:C.X.mg x=none)(hv:bootBuiltins x=some (.builtin id))(ha:SE C a f)(hb:SE C b g)
  (hn:autoParam (x≠"__name__") ZC._auto_1) (hdb:autoParam ((x == ("__debug__":Str))=false) ZC._auto_1) (he:autoParam (starEach [a,b] C.X.env=(false,eval a C.X.env)::starEach [b] C.X.env) ZF._auto_1) (he2:autoParam (starEach [b] C.X.env=[(false,eval b C.X.env)]) ZF._auto_1):SE C (.Call (.Name x p) [a,b] [] pos) (Dv.eB2 F f g):=by
 obtain⟨r,ho,hr⟩:=hc;obtain⟨t,pa,qa⟩:=ha;obtain⟨u,pb,qb⟩:=hb;refine⟨_,bX ho hg hm hv (ar pa (ar pb az he2) he) hn hdb he (by rw[he2];rfl),λ σ H Hv ρ Q e s w=>?_⟩;exact qa.step e (.refl s) w λ v d fr Hv1 H1 _ x1 _ rp1 _ q1=>qb.step e x1 q1 λ v2 d2 fr2 Hv2 H2 _ x2 y2 rp2 _ q2=>hr v v2 d d2 H Hv H2 Hv2 _ Q x2 (rp1.same y2.vv) rp2 q2
theorem zq (hcl:C.X.calm=true):C2S C (.builtin "max") Dv.max2D:=by
 refine⟨_,rD hcl,λ x y d d' H Hv H1 Hv1 W Q e rx ry q=>?_⟩;cases d with
 | int i=>
  cases d' with
  | int j=>
   unfold Rp at rx ry;subst rx ry;exact⟨i,j,rfl,Ok.at (d:=.int (if j > i then j else i)) (fr:=true) q e cn rfl⟩
  | _=>exact(show False from q).elim
 | _=>exact(show False from q).elim
def tyD:D->String
 | .non=>"NoneType"
 | .bl _=>"bool"
 | .int _=>"int"
 | .str _=>"str"
 | .lst _=>"list"
 | .tup _=>"tuple"
 | .exn _=>"BaseException"
 | .raw _=>"BaseException"
 | .tab _=>"BaseException"
 | .ins _ _=>"BaseException"
 | .dct _ _=>"dict"
theorem uS {X:Cx}:cU X (.builtin "isinstance") (λ xs H Q=>∃ x d T b,xs=[x,.ty T]/\Rp X.K H d x/\Dv.noTy d=false/\E1 X.K (.type (tyD d)) (.type T)=some b/\Q (.bl b) H):=by
 intro pins s σ H xs us Q I r h;obtain⟨x,d,T,b,rfl,rp,hnx,hk,q⟩:=h;obtain⟨u,w',rfl,ru,rw'⟩:=vals2 r;have rw2:w'=FW T:=rw';subst rw2;have fin:∀ tk,EP X pins σ Q (.bool b) { s with toks:=tk }:=λ tk=>⟨.bl b,H,I.tok tk,rfl,q⟩
 cases d with
 | non=>unfold Rp at rp;subst rp;cases ru;exact Fv PySem.W.kitx_none I.kIn Fk hk (λ z=>nomatch z) fin
 | bl y=>unfold Rp at rp;subst rp;cases ru;exact Fv PySem.W.kitx_bool I.kIn Fk hk (λ z=>nomatch z) fin
 | int i=>unfold Rp at rp;subst rp;obtain⟨t,rfl⟩:=ru;exact Fv PySem.W.kitx_int I.kIn Fk hk (λ z=>nomatch z) fin
 | str y=>unfold Rp at rp;subst rp;obtain⟨t,rfl⟩:=ru;exact Fv PySem.W.kitx_str I.kIn Fk hk (λ z=>nomatch z) fin
 | lst ds=>
  unfold Rp at rp;obtain⟨l,vs,rfl,h1,h2⟩:=rp;cases ru;obtain⟨its,n,rv,e,_⟩:=Inv.listX I h1;exact Fv PySem.W.kitx_list I.kIn ⟨_,e,rfl⟩ hk (λ z=>nomatch z) fin
 | tup ds=>
  unfold Rp at rp;obtain⟨l,vs,rfl,h1,h2⟩:=rp;cases ru;obtain⟨_,its,rv,ob,e,hc,n,hd⟩:=h1.ok I.hok;exact Fv PySem.W.kitx_tuple I.kIn ⟨ob,e,hc⟩ hk (λ z=>nomatch z) fin
 | exn c=>exact absurd hnx (by simp[Dv.noTy])
 | raw c=>exact absurd hnx (by simp[Dv.noTy])
 | ins c d=>exact absurd hnx (by simp[Dv.noTy])
 | tab c=>exact absurd hnx (by simp[Dv.noTy])
 | dct ks ds=>
  unfold Rp at rp;obtain⟨l,vs,rfl,h0,h1,h2⟩:=rp;cases ru;exact Fv PySem.W.kitx_dict I.kIn (ym I (.inl ⟨_,h1⟩)).1 hk (λ z=>nomatch z) fin
theorem mY {x:Str}{T:String}{p p2:Pos}{F:D->Bool->R}(β:D->Bool)(hF:∀ d fr,Dv.noTy d=false->F d fr=.ok (.bl (β d)) true)(hX:∀ d fr,Dv.noTy d=true->F d fr=.bad)(hβ:∀ K d,E1 K (.type (tyD d)) (.type T)=some (β d))(hg:Gl C.X "isinstance")(hm:C.X.mg "isinstance"=none)(hgx:Gl C.X x)(hmx:C.X.mg x=none)
  (hvx:bootBuiltins x=some (.type T)) (ha:SE C a f) (hn:autoParam (x≠"__name__") ZC._auto_1) (hdb:autoParam ((x == ("__debug__":Str))=false) ZC._auto_1) (he:autoParam (starEach [a,.Name x p2] C.X.env=(false,eval a C.X.env)::starEach [.Name x p2] C.X.env) ZF._auto_1)
  (he2:autoParam (starEach [.Name x p2] C.X.env=[(false,eval (.Name x p2) C.X.env)]) ZF._auto_1):SE C (.Call (.Name "isinstance" p) [a,.Name x p2] [] pos) (Dv.eB1 F f):=by
 obtain⟨t,pa,qa⟩:=ha;refine⟨_,bX uS hg hm (by decide +kernel) (ar pa (ar (w8 (v:=.ty T) hgx hmx hvx rfl hn hdb) az he2) he) (by decide) (by decide) he (by rw[he2];rfl),λ σ H Hv ρ Q e s w=>?_⟩;refine qa.step e (.refl s) w λ v d fr Hv1 H1 _ x1 _ rp1 _ q1=>?_
 by_cases hd:Dv.noTy d=true
 ·rw[hX d fr hd] at q1
  exact q1.elim
 ·have hd':Dv.noTy d=false:=by simpa using hd
  rw[hF d fr hd'] at q1;exact⟨v,d,T,β d,rfl,rp1.same x1.vh,hd',hβ _ d,q1.at x1 cT rfl⟩
def zX:D->Bool
 | .int _=>true
 | .bl _=>true
 | _=>false
def xS:D->Bool
 | .bl _=>true
 | _=>false
def xT:D->Bool
 | .lst _=>true
 | _=>false
theorem vS (K:Er)(d:D):E1 K (.type (tyD d)) (.type "int")=some (zX d):=by cases d <;>rfl
theorem ue (K:Er)(d:D):E1 K (.type (tyD d)) (.type "bool")=some (xS d):=by cases d <;>rfl
theorem tJ (K:Er)(d:D):E1 K (.type (tyD d)) (.type "list")=some (xT d):=by cases d <;>rfl
theorem rh (d:D)(fr:Bool)(h:Dv.noTy d=false):Dv.isIntD d fr=.ok (.bl (zX d)) true:=by cases d <;>first|rfl|exact absurd h (by simp[Dv.noTy])
theorem m3 (d:D)(fr:Bool)(h:Dv.noTy d=false):Dv.isBoolD d fr=.ok (.bl (xS d)) true:=by cases d <;>first|rfl|exact absurd h (by simp[Dv.noTy])
theorem ng (d:D)(fr:Bool)(h:Dv.noTy d=false):Dv.isListD d fr=.ok (.bl (xT d)) true:=by cases d <;>first|rfl|exact absurd h (by simp[Dv.noTy])
theorem yj {i:Nat}{x:Str}{px kpos:Pos}(he:SE C e f)(hk:SE C k g)(hN:autoParam (C.X.N[i]?=some x) ZF._auto_1)(hv:autoParam (Vis C.X.env.scope x) ZG._auto_1)
    (hd:autoParam ((x == ("__debug__":Str))=false) ZC._auto_1) (hcd:autoParam ((x == ("__classdict__":Str))=false) ZC._auto_1)
    (ha:autoParam (∀ v,assign (.Subscript (.Name x px) k kpos) C.X.env v=(do
      let ov <- holding [v] (eval (.Name x px) C.X.env)
      let iv <- holding [v,ov] (eval k C.X.env)
      standAt kpos
      holding [v,ov,iv] (setItem ov iv v)
      release [v,ov,iv] [])) ZE._auto_1)
    (hs:autoParam (swapsWithSole [.Subscript (.Name x px) k kpos] e pos.line C.X.env=pure false) ZF._auto_1) (hw:autoParam (swappedStores [.Subscript (.Name x px) k kpos] e C.X.env=pure none) ZF._auto_1)
    (h1:autoParam ((assignEach [.Subscript (.Name x px) k kpos] C.X.env).map (·.2)=[assign (.Subscript (.Name x px) k kpos) C.X.env]) ZF._auto_1):SSt C (.Assign [.Subscript (.Name x px) k kpos] e pos) (Dv.sPut i g f):=by
  obtain⟨t,p,q⟩:=he;obtain⟨t2,p2,q2⟩:=hk;refine⟨_,kL p (u7 (c8 hN hv hd hcd) p2 set_list ha) hs hw h1,λ Hv₀ H₀ E σ H st ⟨Hc,O,r⟩ w=>?_⟩;unfold Dv.sPut at w;cases hi:st[i]? with
  | none=>rw[hi] at w;exact(show False from w).elim
  | some s=>
    rw[hi] at w;cases s with
    | no=>exact(show False from w).elim
    | sh d=>exact(show False from w).elim
    | dp d=>exact(show False from w).elim
    | jk n m=>exact(show False from w).elim
    | ow d0=>
     cases d0 with
     | non=>exact(show False from w).elim
     | bl _=>exact(show False from w).elim
     | int _=>exact(show False from w).elim
     | str _=>exact(show False from w).elim
     | tup _=>exact(show False from w).elim
     | exn _=>exact(show False from w).elim
     | raw _=>exact(show False from w).elim
     | ins _ _=>exact(show False from w).elim
     | tab _=>exact(show False from w).elim
     | dct _ _=>exact(show False from w).elim
     | lst ds=>
      obtain⟨a,vs,h1,h2,h5⟩:=r.own hi;refine q.all r (λ c hf H' r'=>?_) (λ hf=>?_) λ d fr v Hv' H' hf x r' rp n=>?_
      · simp only[hf] at w;exact w σ H' ⟨Hc,O,r'⟩
      · simp only[hf] at w;exact w
      · simp only[hf] at w
        refine⟨_,h1,?_⟩;refine q2.all r' (λ c hg H2 r2=>?_) (λ hg=>?_) λ d2 fr2 v2 Hv2 H2 hg x2 r2 rp2 n2=>?_
        · simp only[hg] at w;exact w σ H2 ⟨Hc,O,r2⟩
        · simp only[hg] at w;exact w
        · simp only[hg] at w
          cases d2 with
          | int j=>
            unfold Rp at rp2;by_cases z:(Dv.scal d&&decide (0<=j)&&decide (j<ds.length))=true
            · simp only[z,if_true] at w
              simp only[Bj,decide_eq_true_eq] at z;have hl:=h5.length;obtain⟨O',r3⟩:=r2.put hi h1 (h5.set (rp.scal z.1.1) j.toNat);refine⟨a,vs,j,j.toNat,rfl,rp2,x2.hh _ _ (x.hh _ _ h2),?_,w σ _ ⟨Hc,O',r3⟩⟩;unfold ixN;rw[if_pos z.1.2,if_pos (by rw[hl];exact z.2)]
            · simp only[z] at w
              exact(show False from w).elim
          | _=>exact(show False from w).elim
def SGs (C:Ctx)(ts:List Expr)(xs:List Nat):Prop:=
 ∃ t:TGs,PGs C.X ts t/\∀ Hv₀ H₀ Hc O H σ s ds vs T,RelC C.X.K Hv₀ H₀ Hc O s σ H->RpL C.X.K Hc ds vs->ds.length=xs.length->(∀ σ',RelC C.X.K Hv₀ H₀ Hc O (Dv.setAll xs ds s) σ' H->T σ' H)->t vs σ H T
theorem iH:SGs C [] []:=⟨_,p4,λ Hv₀ H₀ Hc O H σ s ds vs T r rp hl h=>by
 cases ds with
 | nil=>unfold RpL at rp;exact⟨rp,h σ r⟩
 | cons d ds=>cases hl⟩
theorem bW {i:Nat}{x:Str}{ts:List Expr}{xs:List Nat}(hs:SGs C ts xs)(hN:C.X.N.Nodup)(hi:C.X.N[i]?=some x)(hx:Loc C.X.env.scope x)(hf:autoParam (C.X.fn x=true\/C.X.env.scope.names.lookup x=some .local) ZB._auto_1)
  (ha:autoParam ((assignEach (.Name x pos::ts) C.X.env).map (·.2)=assign (.Name x pos) C.X.env::(assignEach ts C.X.env).map (·.2)) ZF._auto_1):SGs C (.Name x pos::ts) (i::xs):=by
 obtain⟨t,p,q⟩:=hs;refine⟨_,mL (ej hN hi hx hf) p ha,λ Hv₀ H₀ Hc O H σ s ds vs T r rp hl h=>?_⟩;cases ds with
 | nil=>cases hl
 | cons d ds=>
  unfold RpL at rp;obtain⟨v,ws,rfl,h1,h2⟩:=rp;exact⟨v,ws,rfl,q Hv₀ H₀ Hc O H _ _ ds ws T (r.setSh h1) h2 (by simpa using hl) h⟩
theorem qZ (is:List Nat){ts:List Expr}{xs:List Nat}{kt:Nat}{tpos:Pos}(he:SE C e f)(hg:SGs C ts xs)(hl:ts.length=xs.length)(hn:autoParam ((assignEach ts C.X.env).length=ts.length) ZF._auto_1)(hst:autoParam ((assignEach ts C.X.env).findIdx? (·.1)=none) ZF._auto_1)
  (hs:autoParam (swapsWithSole [.Tuple ts kt tpos] e pos.line C.X.env=pure false) ZF._auto_1) (hw:autoParam (swappedStores [.Tuple ts kt tpos] e C.X.env=pure none) ZF._auto_1) (h1:autoParam ((assignEach [.Tuple ts kt tpos] C.X.env).map (·.2)=[assign (.Tuple ts kt tpos) C.X.env]) ZF._auto_1) (hcl:autoParam (C.X.calm=true) ZF._auto_1):
  SSt C (.Assign [.Tuple ts kt tpos] e pos) (Dv.sUnpack is xs f):=by
 obtain⟨t,p,q⟩:=he;obtain⟨g,pg,qg⟩:=hg;refine⟨_,kL p (nK hcl pg hn hst) hs hw h1,λ Hv₀ H₀ E σ H st ⟨Hc0,O0,r0⟩ w=>?_⟩;obtain⟨Hc,O,_,r⟩:=r0.give is;unfold Dv.sUnpack at w;refine q.open r (λ c hf Hc' H' x=>?_) (λ hf=>?_) λ d fr v Hc' H' hf x r' rp=>?_
 ·simp only[hf] at w;exact w σ H' ⟨Hc0,O0,r0.grow x.hh x.nf⟩
 ·simp only[hf] at w;exact w
 ·simp only[hf] at w
  cases d with
  | tup ds=>
   by_cases hz:ds.length=xs.length
   ·simp only[hz,if_true] at w
    unfold Rp at rp;obtain⟨a,vs,rfl,h2,h3⟩:=rp;exact⟨a,vs,rfl,.inl (Rd.same x.vh h2),by rw[h3.length,hz,hl],qg Hv₀ H₀ Hc' O H' σ _ ds vs _ r' h3 hz λ σ' r2=>w σ' H' ⟨Hc',O,r2⟩⟩
   ·simp only[hz,if_false] at w;exact(show False from w).elim
  | _=>exact(show False from w).elim
theorem yX (is:List Nat){i j:Nat}{x y:Str}{px py pt:Pos}{kt k2:Nat}{pt2:Pos}(ha:SE C a f)(hb:SE C b g)(hN:C.X.N.Nodup)(hi:C.X.N[i]?=some x)(hj:C.X.N[j]?=some y)(hij:i≠j)
  (hx:C.X.env.scope.names.lookup x=some .local) (hy:C.X.env.scope.names.lookup y=some .local) (hw:autoParam (swappedStores [.Tuple [.Name x px,.Name y py] kt pt] (.Tuple [a,b] k2 pt2) C.X.env=pure (some [x,y])) ZF._auto_1)
  (hs:autoParam (swapsWithSole [.Tuple [.Name x px,.Name y py] kt pt] (.Tuple [a,b] k2 pt2) pos.line C.X.env=pure false) ZF._auto_1) (he:autoParam (starEach [a,b] C.X.env=(false,eval a C.X.env)::starEach [b] C.X.env) ZF._auto_1) (he2:autoParam (starEach [b] C.X.env=[(false,eval b C.X.env)]) ZF._auto_1) (hcl:autoParam (C.X.calm=true) ZF._auto_1):
  SSt C (.Assign [.Tuple [.Name x px,.Name y py] kt pt] (.Tuple [a,b] k2 pt2) pos) (Dv.sPar is i j f g):=by
 obtain⟨t,p,q⟩:=ha;obtain⟨u,p2,q2⟩:=hb;refine⟨_,yV hcl hN hi hj hij hx hy (ar p (ar p2 az he2) he) hw hs,λ Hv₀ H₀ E σ H st ⟨Hc0,O0,r0⟩ w=>?_⟩;obtain⟨Hc,O,_,r⟩:=r0.give is;unfold Dv.sPar at w;refine q.open r (λ c hf Hc' H' x=>?_) (λ hf=>?_) λ d fr v Hc' H' hf x r' rp=>?_
 ·simp only[hf] at w;exact w σ H' ⟨Hc0,O0,r0.grow x.hh x.nf⟩
 ·simp only[hf] at w;exact w
 ·simp only[hf] at w
  refine q2.open r' (λ c hg Hc2 H2 x2=>?_) (λ hg=>?_) λ d2 fr2 v2 Hc2 H2 hg x2 r2 rp2=>?_
  ·simp only[hg] at w
   have xx:=x.trans x2;exact w σ H2 ⟨Hc0,O0,r0.grow xx.hh xx.nf⟩
  ·simp only[hg] at w;exact w
  ·simp only[hg] at w
   exact⟨v,v2,rfl,w _ H2 ⟨Hc2,O,(r2.setSh (rp.same x2.vv)).setSh rp2⟩⟩
end
def ItZ (K:Er)(l1 l2:Addr):It:=
  ⟨λ i H=>∃ (xs ys:List V) (x y:V),SqL K H l1 xs/\SqL K H l2 ys/\xs[i]?=some x/\ys[i]?=some y,
   λ i H v H'=>∃ p,H p=none/\v=.ref p/\∀ xs ys,SqL K H l1 xs->SqL K H l2 ys->∃ x y,xs[i]?=some x/\ys[i]?=some y/\H'=upd H p (.tup [x,y]),
   λ i H=>∃ xs ys,SqL K H l1 xs/\SqL K H l2 ys/\(xs.length<=i\/ys.length<=i)⟩
theorem Inv.but {X:Cx}{pins:List (Addr×Obj)}{σ:St}{H:Hp}{s:Shared}{ch:List Addr}{h':Heap}(I:Inv X pins σ H s)(hf:∀ b∈ch,eY X pins H b)(k:∀ b o,b∉ch->s.heap.get? b=some o->h'.get? b=some o):Inv X pins σ H { s with heap:=h' }:=by
 have nch:∀ b u,H b=some u->b∉ch:=λ b u e hb=>by rw[(hf b hb).1] at e;cases e
 refine I.step (g':=s.gens) (d':=s.drawn) (t':=s.toks) (ch:=ch) (λ b hb=>⟨(hf b hb).2.2.2.1,(hf b hb).2.1,(hf b hb).2.2.2.2.1,(hf b hb).2.2.2.2.2⟩) (λ b o _ _ hc e _=>k b o hc e) (λ b o _ _ hc e _=>⟨o.slots,k b o hc e⟩) (λ _ _ _ _ n=>n)
  (λ b o hc e=>⟨o,k b o hc e⟩) (λ _ _ e=>e) (λ _ _ _ e=>e) (λ b ps e=>⟨#[],by rw[e];simp⟩) (λ m hm=>?_) (λ b u e=>?_) I.bare
 ·obtain⟨o,es,ep,ho,r⟩:=hm
  exact⟨o,es,ep,k _ _ (λ hb=>(hf _ hb).2.1 rfl) ho,r⟩
 ·refine(I.hok b u e).stay (λ c v hc q=>k c v ?_ q) (λ c q=>q) λ c xs q=>q
  rcases hc with rfl|hc
  ·exact nch _ u e
  ·exact nch _ _ hc
theorem sI {P:Program}{w:World}{K:Er}{es:List Expr}{kt:Nat}{tpos:Pos}{z TI TO i1 i2 l1 l2:Addr}(Dz:ZipApart z TI TO i1 i2 l1 l2):
  Turn P w K (.Tuple es kt tpos) (ItZ K l1 l2) [z,TI,TO,i1,i2] z (λ i h=>IsZip h z TI TO .none/\IsPair h TI (.ref i1) (.ref i2)/\(∃ a b,IsPair h TO a b)/\h.IsListIter i1 l1 i/\h.IsListIter i2 l2 i) where
 mem:=by simp
 obj:=λ i h ⟨a1,a2,⟨_,_,a3⟩,⟨o4,e4,_,d4⟩,⟨o5,e5,_,d5⟩⟩ b hb=>by
  simp only[BE,BG,or_false] at hb
  rcases hb with rfl|rfl|rfl|rfl|rfl
  ·exact⟨_,a1,λ v q=>by cases q⟩
  ·exact⟨_,a2,λ v q=>by cases q⟩
  ·exact⟨_,a3,λ v q=>by cases q⟩
  ·exact⟨_,e4,λ v q=>by rw[d4] at q;cases q⟩
  ·exact⟨_,e5,λ v q=>by rw[d5] at q;cases q⟩
 keep:=λ i h h' ⟨a1,a2,⟨x,y,a3⟩,a4,a5⟩ k=>⟨k z (by simp) _ a1,k TI (by simp) _ a2,⟨x,y,k TO (by simp) _ a3⟩,a4.at λ o e=>k i1 (by simp) o e,a5.at λ o e=>k i2 (by simp) o e⟩
 item:=by
  intro X hP hw hK hc i pins s σ H E I hf ⟨a1,a2,⟨xa,xb,a3⟩,a4,a5⟩ hg;subst hP hw hK;obtain⟨xs,ys,x,y,hq1,hq2,hx,hy⟩:=hg;obtain⟨its1,r1,p1,z1⟩:=I.list hq1;obtain⟨its2,r2,p2,z2⟩:=I.list hq2;obtain⟨u1,e1,ru1⟩:=r1.get hx;obtain⟨u2,e2,ru2⟩:=r2.get hy;refine wpAny_pyNext_zip_item Dz a1 a2 a3 a4 a5 p1.isList p2.isList (x:=u1) (y:=u2) (by simpa using e1) (by simpa using e2) λ h' b1 b2 b3 b4 b5 b6 kk=>?_
  refine⟨_,rfl,wpAny_letOwnedTupleGo_zip b1 λ h2 hz sb=>?_⟩;have hf0:H s.heap.objs.size=none:=I.hok.fresh (Bh _);have ltz:s.heap.objs.size≠z:=CS (Ew a1);have kept:∀ b o,b∉[z,TI,TO,i1,i2]->s.heap.get? b=some o->h2.get? b=some o:=λ b o hb e=>by
   simp only[BE,BG,or_false,not_or] at hb;exact(sb.2 b hb.1).trans (kk b o hb.1 hb.2.2.1 hb.2.2.2.1 hb.2.2.2.2 e)
  have I2:Inv X pins σ H { s with heap:=h2 }:=Inv.but I hf kept;have tp:IsTup h2 s.heap.objs.size #[u1,u2]:=⟨_,(sb.2 _ ltz).trans b5,rfl,_,rfl⟩;have I3:Inv X pins σ (upd H s.heap.objs.size (.tup [x,y])) { s with heap:=h2 }:=by
   have hk2:HOk X.prog X.w (upd H s.heap.objs.size (.tup [x,y])) h2:=gb I2.hok hf0 ⟨by show 2<=sizeLine;decide,[u1,u2],.cons ru1 (.cons ru2 .nil),tp⟩;have nsz:∀ b o,s.heap.get? b=some o->b≠s.heap.objs.size:=λ b o e=>Bl (Ew e)
   refine I.step (g':=s.gens) (d':=s.drawn) (t':=s.toks) (ch:=[z,TI,TO,i1,i2]) (λ b hb=>⟨(hf b hb).2.2.2.1,(hf b hb).2.1,(hf b hb).2.2.2.2.1,(hf b hb).2.2.2.2.2⟩) (λ b o _ _ hc e _=>kept b o hc e) (λ b o _ _ hc e _=>⟨o.slots,kept b o hc e⟩) (λ b o _ e n=>by rw[ag (nsz b o e)];exact n)
    (λ b o hc e=>⟨o,kept b o hc e⟩) (λ b us e=>by rw[ag (au e hf0)];exact e) (λ b ob us e=>by rw[ag (au e hf0)];exact e) (λ b ps e=>⟨#[],by rw[ag (au e hf0),e];simp⟩) (λ m hm=>?_) hk2 I.bare
   obtain⟨o,es,ep,ho,r⟩:=hm;exact⟨o,es,ep,kept _ _ (λ hb=>(hf _ hb).2.1 rfl) ho,r⟩
  have c4:h2.IsListIter i1 l1 (i+1):=b3.extBut sb.extBut Dz.i1z;have c5:h2.IsListIter i2 l2 (i+1):=b4.extBut sb.extBut Dz.i2z;refine⟨.ref s.heap.objs.size,_,I3,rfl,⟨s.heap.objs.size,hf0,rfl,λ as bs h1 h2'=>?_⟩,⟨hz,?_,⟨u1,u2,(sb.2 TO Dz.TOz).trans b2⟩,c4,c5⟩,λ b hb=>?_⟩
  ·exact⟨x,y,by rw[I.list_inj h1 hq1];exact hx,by rw[I.list_inj h2' hq2];exact hy,rfl⟩
  ·exact(sb.2 TI Dz.TIz).trans (kk TI _ Dz.TIz Dz.TITO Dz.TIi1 Dz.TIi2 a2)
  ·have hbs:b≠s.heap.objs.size:=by
    simp only[BE,BG,or_false] at hb
    rcases hb with rfl|rfl|rfl|rfl|rfl
    ·exact Bl (Ew a1)
    ·exact Bl (Ew a2)
    ·exact Bl (Ew a3)
    ·obtain⟨o,e,_⟩:=a4;exact Bl (Ew e)
    ·obtain⟨o,e,_⟩:=a5;exact Bl (Ew e)
   rw[ag hbs];exact(hf b hb).1
 done:=by
  intro X hP hw hK hc i pins s σ H E I hf ⟨a1,a2,⟨xa,xb,a3⟩,a4,a5⟩ hg;subst hP hw hK;obtain⟨xs,ys,hq1,hq2,hx⟩:=hg;obtain⟨its1,r1,p1,z1⟩:=I.list hq1;obtain⟨its2,r2,p2,z2⟩:=I.list hq2;have n1:=r1.length;have n2:=r2.length;refine wpAny_pyNext_zip_end (I.ok.hd hc) Dz a1 a2 a3 a4 a5 p1.isList p2.isList (by
   rcases hx with hx|hx
   ·left;simp;omega
   ·right;simp;omega) λ h' kk=>⟨rfl,Inv.but I hf λ b o hb e=>?_⟩
  simp only[BE,BG,or_false,not_or] at hb;exact kk b o hb.1 hb.2.2.1 hb.2.2.2.1 hb.2.2.2.2 e
 self:=λ _ _ _ _ _ st h=>wpAny_pyIter_zip st.1 h
def zC (K:Er)(ta:TA):TI:=λ σ H T=>ta σ H λ vs H1=>∃ l1 l2 xs ys,vs=[.ref l1,.ref l2]/\SqL K H1 l1 xs/\SqL K H1 l2 ys/\T (ItZ K l1 l2) H1
theorem yG {X:Cx}{a b:Expr}{ta:TA}{es:List Expr}{kt:Nat}{tpos p pos:Pos}(hg:Gl X "zip")(hm:X.mg "zip"=none)(ha:PA X [a,b] ta)(hs:starEach [a,b] X.env=[(false,eval a X.env),(false,eval b X.env)])(hs2:starEach [b] X.env=[(false,eval b X.env)]):
  PI X (.Tuple es kt tpos) (.Call (.Name "zip" p) [a,b] [] pos) (zC X.K ta):=by
 intro pins s σ H R I h;refine Call_ (d7 I hg hm (by decide +kernel:bootBuiltins "zip"=some (.type "zip")) (E9 (thn (ha pos pins s σ H _ I h) λ us s1 ⟨vs,H1,I1,r1,q1⟩=>?_) (by rw[hs,hs2]) (by rw[hs2];rfl)));obtain⟨l1,l2,xs,ys,rfl,hq1,hq2,q⟩:=q1;obtain⟨u1,u2,rfl,e1,e2⟩:=vals2 r1;cases e1;cases e2;obtain⟨its1,rr1,p1,z1⟩:=I1.list hq1;obtain⟨its2,rr2,p2,z2⟩:=I1.list hq2;refine call_zip_2 p1.isList p2.isList λ h' c1 c2 c3 c4 c5 c6 kk=>?_
 have lt1:l1<s1.heap.objs.size:=by obtain⟨o,e,_⟩:=p1.isList;exact Ew e
 have lt2:l2<s1.heap.objs.size:=by obtain⟨o,e,_⟩:=p2.isList;exact Ew e
 have I2:Inv X pins σ H1 { s1 with heap:=h' }:=I1.kept (t':=s1.toks) kk;generalize hN:s1.heap.objs.size=N at c1 c2 c3 c4 c5 c6 lt1 lt2 ⊢;have Dz:ZipApart (N+4) (N+2) (N+3) N (N+1) l1 l2:=by
  have far:∀ {l:Addr},l<N->∀ k:Nat,l≠N+k:=λ h k=>Bl (Bw h (CG _ _))
  have ne:∀ {a b:Nat},a<b->a≠b:=λ h=>Bl h
  have ne':∀ {a b:Nat},b<a->a≠b:=λ h=>CS h
  exact⟨ne (by omega),ne (by omega),ne (by omega),ne (by omega),ne (by omega),ne' (by omega),ne' (by omega),ne' (by omega),ne' (by omega),ne (by omega),far lt1 4,far lt1 3,Bl lt1,far lt1 1,far lt2 4,far lt2 3,Bl lt2,far lt2 1⟩
 refine wpAny_pyIter_zip c1 ⟨N+4,[N+4,N+2,N+3,N,N+1],_,_,H1,rfl,I2,sI Dz,⟨c1,c2,⟨_,_,c3⟩,c4,c5⟩,λ b hb=>?_,q⟩;have hb':s1.heap.objs.size<=b:=by
  rw[hN];simp only[BE,BG,or_false] at hb
  rcases hb with rfl|rfl|rfl|rfl|rfl
  ·exact CG _ _
  ·exact CG _ _
  ·exact CG _ _
  ·exact Bh _
  ·exact CG _ _
 exact I1.fpOk hb' (I1.hok.fresh hb')
theorem zip_get {xs ys:List D}{i:Nat}{d:D}(h:(List.zipWith (λ x y=>D.tup [x,y]) xs ys)[i]?=some d):∃ x y,xs[i]?=some x/\ys[i]?=some y/\d=.tup [x,y]:=by
 rw[List.getElem?_zipWith] at h;cases h1:xs[i]? with
 | none=>rw[h1] at h;cases h
 | some x=>
  cases h2:ys[i]? with
  | none=>rw[h1,h2] at h;cases h
  | some y=>rw[h1,h2] at h;cases h;exact⟨x,y,rfl,rfl,rfl⟩
theorem sV {C:Ctx}{a b:Expr}{f g:EE}{es:List Expr}{kt:Nat}{tpos p pos:Pos}(hg:Gl C.X "zip")(hm:C.X.mg "zip"=none)(ha:SE C a f)(hb:SE C b g)(hs:autoParam (starEach [a,b] C.X.env=[(false,eval a C.X.env),(false,eval b C.X.env)]) ZF._auto_1)(hs2:autoParam (starEach [b] C.X.env=[(false,eval b C.X.env)]) ZF._auto_1):
  SI C (.Tuple es kt tpos) (.Call (.Name "zip" p) [a,b] [] pos) (Dv.iZip f g):=by
 obtain⟨t,pe,q⟩:=ha;obtain⟨t2,pe2,q2⟩:=hb;refine⟨_,yG hg hm (ar pe (ar pe2 az hs2) (by rw[hs,hs2])) hs hs2,λ σ H Hv ρ T er s w=>?_⟩;refine q σ H Hv ρ _ er s ?_
 unfold Dv.iZip at w;cases hf:f ρ with
 | bad=>rw[hf] at w;exact w
 | exc c=>rw[hf] at w;exact w
 | ok d fr=>
  rw[hf] at w;intro v Hv' H' x rp n;cases d with
  | lst xs=>
   refine q2 σ H' Hv' ρ _ (er.same x.vv) x.vh ?_
   cases hg':g ρ with
   | bad=>simp only[hg'] at w;exact w
   | exc c=>simp only[hg'] at w;exact λ Hv2 H2 y=>w Hv2 H2 (x.trans y)
   | ok d2 fr2=>
    simp only[hg'] at w;intro v2 Hv2 H2 y rp2 n2;cases d2 with
    | lst ys=>
     have rp1:=rp.same y.vv;unfold Rp at rp1 rp2;obtain⟨l1,vs,rfl,h1,h2⟩:=rp1;obtain⟨l2,ws,rfl,h3,h4⟩:=rp2;refine⟨l1,l2,vs,ws,rfl,(h1.same y.vh).seq,(h3.same y.vh).seq,w _ Hv2 H2 (x.trans y) λ i H3 s3=>⟨λ d hd=>?_,λ hi=>?_⟩⟩
     ·obtain⟨dx,dy,g1,g2,rfl⟩:=zip_get hd
      obtain⟨vx,k1,k2⟩:=h2.get g1;obtain⟨vy,k3,k4⟩:=h4.get g2;refine⟨⟨vs,ws,vx,vy,(h1.same s3).seq,(h3.same s3).seq,k1,k3⟩,λ u H4 ⟨p,hp,e1,hh⟩=>?_⟩;obtain⟨x',y',m1,m2,rfl⟩:=hh vs ws (h1.same s3).seq (h3.same s3).seq;rw[k1] at m1;rw[k3] at m2;cases m1;cases m2;subst e1;have nx:=Ext.new1 s3 hp (.tup [vx,vy]);refine⟨_,nx,?_⟩;unfold Rp;exact⟨p,_,rfl,.inl ai,.cons (k2.same nx.vv) (.cons (k4.same nx.vv) .nil)⟩
     ·refine⟨vs,ws,(h1.same s3).seq,(h3.same s3).seq,?_⟩
      rw[h2.length,h4.length];rw[List.length_zipWith] at hi;omega
    | _=>exact(show False from w).elim
  | _=>exact(show False from w).elim
theorem nq {C:Ctx}{ts:List Expr}{xs:List Nat}{kt:Nat}{tpos:Pos}(hg:SGs C ts xs)(hl:ts.length=xs.length)(hn:autoParam ((assignEach ts C.X.env).length=ts.length) ZF._auto_1)(hst:autoParam ((assignEach ts C.X.env).findIdx? (·.1)=none) ZF._auto_1)(hcl:autoParam (C.X.calm=true) ZF._auto_1):
  SG C (.Tuple ts kt tpos) (Dv.tupTo xs):=by
 obtain⟨g,pg,qg⟩:=hg;refine⟨_,nK hcl pg hn hst,λ Hv₀ H₀ Hc O H σ s s' d v T r rp e h=>?_⟩;unfold Dv.tupTo at e;cases d with
 | tup ds=>
  by_cases hz:ds.length=xs.length
  ·simp only[hz,if_true] at e
   cases e;unfold Rp at rp;obtain⟨a,vs,rfl,h2,h3⟩:=rp;exact⟨a,vs,rfl,.inl (Rd.same r.ch h2),by rw[h3.length,hz,hl],qg Hv₀ H₀ Hc O H σ s ds vs _ r h3 hz h⟩
  ·simp only[hz,if_false] at e
   cases e
 | _=>cases e
section
variable {C:Ctx}{a b c e:Expr}{f g h:EE}{pos:Pos}
theorem bj (ha:SE C a f)(hb:SE C b g):SE C (.BinOp a .Add b pos) (Dv.eOp .add f g):=fX ze ha hb
theorem uK (ha:SE C a f)(hb:SE C b g):SE C (.BinOp a .Sub b pos) (Dv.eOp .sub f g):=fX yy ha hb
theorem bV (ha:SE C a f)(hb:SE C b g):SE C (.BinOp a .Mult b pos) (Dv.eOp .mul f g):=fX yp ha hb
theorem aS (ha:SE C a f)(hb:SE C b g):SE C (.BinOp a .Mod b pos) (Dv.eOp .mod f g):=fX yh ha hb
theorem dv (ha:SE C a f)(hb:SE C b g):SE C (.BinOp a .FloorDiv b pos) (Dv.eOp .fdiv f g):=fX we ha hb
theorem nX (ha:SE C a f)(hb:SE C b g):SE C (.BinOp a .RShift b pos) (Dv.eOp .shr f g):=fX xY ha hb
theorem xy (ha:SE C a f)(hb:SE C b g):SE C (.Compare a [.Eq] [b] pos) (Dv.eCm .eq f g):=yB os_eq ha hb (nomark _)
theorem t4 (ha:SE C a f)(hb:SE C b g):SC C (.Compare a [.Lt] [b] pos) (Dv.eCm .lt f g):=cV zw ha hb (nomark _)
theorem xK (ha:SE C a f)(hb:SE C b g):SC C (.Compare a [.LtE] [b] pos) (Dv.eCm .le f g):=cV zF ha hb (nomark _)
theorem xQ (ha:SE C a f)(hb:SE C b g):SC C (.Compare a [.Gt] [b] pos) (Dv.eCm .gt f g):=cV Al ha hb (nomark _)
theorem AF (ha:SE C a f)(hb:SE C b g):SC C (.Compare a [.GtE] [b] pos) (Dv.eCm .ge f g):=cV Ap ha hb (nomark _)
theorem gN (ha:SE C a f)(hb:SE C b g):SC C (.Compare a [.Eq] [b] pos) (Dv.eCm .eq f g):=cV os_eq ha hb (nomark _)
theorem lB (ha:SE C a f)(hb:SE C b g):SC C (.Compare a [.NotEq] [b] pos) (Dv.eCm .ne f g):=cV zx ha hb (nomark _)
theorem tW (ha:SE C a f)(hb:SE C b g)(hm:autoParam (behindInMarks .NotIn b=false) ZJ._auto_1):SC C (.Compare a [.NotIn] [b] pos) (Dv.eCm .notin f g):=cV uM ha hb hm
theorem zl {x:Str}{i:Int}{t:Tok}(hg:Gl C.X x)(hm:C.X.mg x=some (.int i t))(hd:autoParam ((x == ("__debug__":Str))=false) ZC._auto_1):SE C (.Name x pos) (Dv.eInt i):=
 ⟨_,kG (v:=.int i) hg hm ⟨t,rfl⟩ hd,λ _ _ _ _ _ _ s q=>q.now (v:=.int i) s cn rfl⟩
theorem ck {p:Pos}(hm:C.X.mg "len"=none)(hg:Gl C.X "len")(ha:SE C a f)(he:autoParam (starEach [a] C.X.env=[(false,eval a C.X.env)]) ZF._auto_1):SE C (.Call (.Name "len" p) [a] [] pos) (Dv.eB1 Dv.lenD f):=lh yt hg hm Fz ha (by decide) (by decide) he
theorem c9 {p:Pos}(hm:C.X.mg "sorted"=none)(hg:Gl C.X "sorted")(ha:SE C a f)(he:autoParam (starEach [a] C.X.env=[(false,eval a C.X.env)]) ZF._auto_1):SE C (.Call (.Name "sorted" p) [a] [] pos) (Dv.eB1 Dv.sortedD f):=lh rQ hg hm FU ha (by decide) (by decide) he
theorem oy {p:Pos}(hm:C.X.mg "list"=none)(hg:Gl C.X "list")(ha:SE C a f)(he:autoParam (starEach [a] C.X.env=[(false,eval a C.X.env)]) ZF._auto_1):SE C (.Call (.Name "list" p) [a] [] pos) (Dv.eB1 Dv.listD f):=xR wF hg hm (by decide +kernel) ha (by decide) (by decide) he
theorem wq {p:Pos}(hm:C.X.mg "max"=none)(hg:Gl C.X "max")(ha:SE C a f)(hb:SE C b g)(he:autoParam (starEach [a,b] C.X.env=(false,eval a C.X.env)::starEach [b] C.X.env) ZF._auto_1)(he2:autoParam (starEach [b] C.X.env=[(false,eval b C.X.env)]) ZF._auto_1)(hcl:autoParam (C.X.calm=true) ZF._auto_1):SE C (.Call (.Name "max" p) [a,b] [] pos) (Dv.eB2 Dv.max2D f g):=zZ (zq hcl) hg hm (by decide +kernel) ha hb (by decide) (by decide) he he2
theorem sR {p p2:Pos}(hm:C.X.mg "isinstance"=none)(hmx:C.X.mg "int"=none)(hg:Gl C.X "isinstance")(hgx:Gl C.X "int")(ha:SE C a f)(he:autoParam (starEach [a,.Name "int" p2] C.X.env=(false,eval a C.X.env)::starEach [.Name "int" p2] C.X.env) ZF._auto_1)
  (he2:autoParam (starEach [.Name "int" p2] C.X.env=[(false,eval (.Name "int" p2) C.X.env)]) ZF._auto_1):SE C (.Call (.Name "isinstance" p) [a,.Name "int" p2] [] pos) (Dv.eB1 Dv.isIntD f):=mY _ rh (λ d fr h=>by cases d <;>first|rfl|exact absurd h (by simp[Dv.noTy])) vS hg hm hgx hmx (by decide +kernel) ha (by decide) (by decide) he he2
theorem rX {p p2:Pos}(hm:C.X.mg "isinstance"=none)(hmx:C.X.mg "bool"=none)(hg:Gl C.X "isinstance")(hgx:Gl C.X "bool")(ha:SE C a f)(he:autoParam (starEach [a,.Name "bool" p2] C.X.env=(false,eval a C.X.env)::starEach [.Name "bool" p2] C.X.env) ZF._auto_1)
  (he2:autoParam (starEach [.Name "bool" p2] C.X.env=[(false,eval (.Name "bool" p2) C.X.env)]) ZF._auto_1):SE C (.Call (.Name "isinstance" p) [a,.Name "bool" p2] [] pos) (Dv.eB1 Dv.isBoolD f):=mY _ m3 (λ d fr h=>by cases d <;>first|rfl|exact absurd h (by simp[Dv.noTy])) ue hg hm hgx hmx (by decide +kernel) ha (by decide) (by decide) he he2
theorem jQ {p p2:Pos}(hm:C.X.mg "isinstance"=none)(hmx:C.X.mg "list"=none)(hg:Gl C.X "isinstance")(hgx:Gl C.X "list")(ha:SE C a f)(he:autoParam (starEach [a,.Name "list" p2] C.X.env=(false,eval a C.X.env)::starEach [.Name "list" p2] C.X.env) ZF._auto_1)
  (he2:autoParam (starEach [.Name "list" p2] C.X.env=[(false,eval (.Name "list" p2) C.X.env)]) ZF._auto_1):SE C (.Call (.Name "isinstance" p) [a,.Name "list" p2] [] pos) (Dv.eB1 Dv.isListD f):=mY _ ng (λ d fr h=>by cases d <;>first|rfl|exact absurd h (by simp[Dv.noTy])) tJ hg hm hgx hmx (by decide +kernel) ha (by decide) (by decide) he he2
end
structure Df (K:Er)(mg:Str->Option Value)(x:Str)(st:Stmt)(ps:List Str)(f:Addr)(fd:FuncData):Prop where
 m:mg x=some (.ref f)
 kp:E0 K (.ref f)=true
 ex:∃ (oc:Value) (od:Option Addr) (dV kV doc pm:Value) (an:Option Addr) (cdv ct:Value) (osl:Array (Option Value)),
  fd=EC x x (aO st) (aE st) (ae st) dV kV doc pm an cdv ct/\K.lookup f=some ⟨oc,od,.func fd,osl⟩/\E7 K cdv x=true
 bd:Binds K fd ps []
section
variable {P:Program}{w:World}{K:Er}{mg:Str->Option Value}{base:Heap}{CX:CXT}{cls:String->Value}
theorem Df.ok (hC:CXok P w CX){x:Str}{st:Stmt}{f:Addr}{fd:FuncData}{N ps:List Str}{k:Nat}{body:SS}(d:Df K mg x st ps f fd)(S:FnScope N ps (ae st))
  (hbody:∀ (cdv:Value) (A:Around) (outer:List EO) (s:Shared) (H:Hp) (E:XK) (hr:Room k (A.deeper (envOfC x (ae st) s.heap.objs.size f cdv))),SSs (cF hC cls K mg base N x (ae st) f cdv A outer s H E hr) (aE st) body):
  FnOk P w K mg base CX (k+1) f fd ps (spD K cls (Dv.fn N.length body) ps.length):=by
 obtain⟨oc,od,dV,kV,doc,pm,an,cdv,ct,osl,rfl,lk,hcd⟩:=d.ex;exact zL hC cls oc od dV kV doc pm an cdv ct osl lk hcd S (hbody cdv)
theorem xM {x:Str}{st:Stmt}{ps:List Str}{f:Addr}{oc:Value}{od an:Option Addr}{osl:Array (Option Value)}{dV kV doc pm cdv ct:Value}(m:mg x=some (.ref f))(l:K.lookup f=some ⟨oc,od,.func (EC x x (aO st) (aE st) (ae st) dV kV doc pm an cdv ct),osl⟩)
  (c:E7 K cdv x=true) (k:E0 K (.ref f)=true)
  (h:∀ (kV doc pm:Value) (an:Option Addr) (cdv ct:Value) (us:List Value),us.length=ps.length->bindArgs (EC x x (aO st) (aE st) (ae st) dV kV doc pm an cdv ct) ⟨us,[]⟩=pure (ps.zip us)):
  Df K mg x st ps f (EC x x (aO st) (aE st) (ae st) dV kV doc pm an cdv ct):=⟨m,k,⟨oc,od,dV,kV,doc,pm,an,cdv,ct,osl,rfl,l,c⟩,.all (h kV doc pm an cdv ct)⟩
end
theorem yY {K:Er}{mg:Str->Option Value}{x:Str}{st:Stmt}{ps:List Str}{f:Addr}{oc:Value}{od an:Option Addr}{osl:Array (Option Value)}{dV kV doc pm cdv ct:Value}(m:mg x=some (.ref f))(l:K.lookup f=some ⟨oc,od,.func (EC x x (aO st) (aE st) (ae st) dV kV doc pm an cdv ct),osl⟩)
  (c:E7 K cdv x=true) (k:E0 K (.ref f)=true) (bd:Binds K (EC x x (aO st) (aE st) (ae st) dV kV doc pm an cdv ct) ps []):
  Df K mg x st ps f (EC x x (aO st) (aE st) (ae st) dV kV doc pm an cdv ct):=⟨m,k,⟨oc,od,dV,kV,doc,pm,an,cdv,ct,osl,rfl,l,c⟩,bd⟩
theorem aK {C:Ctx}{e:Expr}{es:List Expr}{fl:EL}{k j:Nat}{fa:Addr}{fd:FuncData}{st:Stmt}{ps:List Str}{Fm:List D->R}{x:Str}{p pos:Pos}(d:Df C.X.K C.X.mg x st ps fa fd)(Fn:FnOk C.X.prog C.X.w C.X.K C.X.mg C.X.base C.CX j fa fd ps (spD C.X.K C.cls Fm ps.length))(hr:Room k C.X.A)(hj:j<=k)
  (hg:Gl C.X x) (ha:SL C (e::es) fl) (hlen:autoParam ((e::es).length=ps.length) ZF._auto_1) (hdb:autoParam ((x == ("__debug__":Str))=false) ZC._auto_1) (he:autoParam (starEach (e::es) C.X.env=(false,eval e C.X.env)::starEach es C.X.env) ZF._auto_1) (hpl:autoParam ((backTo pos (starEach es C.X.env)).any (·.1)=false) ZF._auto_1):
  SE C (.Call (.Name x p) (e::es) [] pos) (Dv.eCall Fm fl):=by
 have q:=vq (pos:=pos) (p:=p) (dds:=[]) (dvs:=[]) (dus:=[]) Fn hr hj hg d.m d.kp d.bd .nil (λ _ _=>.nil) ha (by simpa using hlen) hdb he hpl;have e1:(λ ds=>Fm (ds++[]))=Fm:=by funext ds;rw[B6]
 rw[e1] at q;exact q
def tE (fsc:Scope)(N:List Str)(scope:Scope)(x:Str)(fs:List Str)(is:List Nat):Bool:=
 scope.kind == .function&&scope.names.all (λ y=>!(y.2 == .cell))&&scope.names.all (λ y=>!(y.2 == .local) || scope.names.lookup y.1 == some .local)&&scope.names.lookup x == some .local&&decide (x::fs).Nodup &&
 scope.names.all (λ y=>!(y.2 == .free) || (fsc.names.lookup y.1 == some .cell || fsc.names.lookup y.1 == some .free))&&fs.all (λ y=>scope.names.lookup y == some .free)&&is.length == fs.length&&(fs.zip is).all (λ p=>N[p.2]? == some p.1)
theorem aI {X:Cx}{fsc:Scope}{N:List Str}{scope:Scope}{x:Str}{fs:List Str}{is:List Nat}(h1:X.env.scope=fsc)(h2:X.N=N)(h:tE fsc N scope x fs is=true):CompNames X scope x fs is:=by
 subst h1 h2;unfold tE at h;simp only[Bj] at h;obtain⟨⟨⟨⟨⟨⟨⟨⟨a1,a2⟩,a3⟩,a4⟩,a5⟩,a6⟩,a7⟩,a8⟩,a9⟩:=h;refine⟨by simpa using a1,λ y hy=>?_,λ y hy hl=>?_,by simpa using a4,by simpa using a5,λ y hy hf=>?_,λ y hy=>?_,by simpa using a8,λ j y hj=>?_⟩
 ·have:=List.all_eq_true.mp a2 y hy
  simpa using this
 ·have:=List.all_eq_true.mp a3 y hy
  simpa[hl] using this
 ·have:=List.all_eq_true.mp a6 y hy
  show X.env.scope.names.lookup y.1=some .cell\/X.env.scope.names.lookup y.1=some .free
  simpa[hf] using this
 ·have:=List.all_eq_true.mp a7 y hy
  simpa using this
 ·have hl:is.length=fs.length:=by simpa using a8
  have hjl:j<fs.length:=(List.getElem?_eq_some_iff.mp hj).1;refine⟨is[j]'(by omega),by simp,?_⟩;have hm:(y,is[j]'(by omega))∈fs.zip is:=by
   have e1:fs[j]=y:=(List.getElem?_eq_some_iff.mp hj).2;have:(fs.zip is)[j]'(by rw[C5];omega)=(y,is[j]'(by omega)):=by rw[D1,e1]
   rw[<- this];exact BO _
  have:=List.all_eq_true.mp a9 _ hm;simpa using this
theorem Df.is {P:Program}{w:World}{K:Er}{mg:Str->Option Value}{base:Heap}{CX:CXT}{cls:String->Value}(hC:CXok P w CX){x:Str}{st:Stmt}{f:Addr}{fd:FuncData}{ps:List Str}{F:List D->R}{m j:Nat}(N:List Str)(k:Nat)(body:SS)(d:Df K mg x st ps f fd)(S:FnScope N ps (ae st))
  (hj:j=k+1) (hm:m=ps.length) (hF:F=Dv.fn N.length body)
  (hbody:∀ (cdv:Value) (A:Around) (outer:List EO) (s:Shared) (H:Hp) (E:XK) (hr:Room k (A.deeper (envOfC x (ae st) s.heap.objs.size f cdv))),SSs (cF hC cls K mg base N x (ae st) f cdv A outer s H E hr) (aE st) body):
  FnOk P w K mg base CX j f fd ps (spD K cls F m):=by
 subst hj hm hF;exact d.ok hC S hbody
structure Fly (P:Program)(w:World)(outer:List EO)(H:Hp)(s:Shared)(a:Addr)(cls:Value)(H':Hp)(B:Heap)(t:Addr)(s':Shared):Prop where
 os:s'.os=s.os
 bare:AllBare s'.gens
 fl:Heap.FlyingW B outer a cls (.ref t) s'.heap
 keepB:∀ b o,s.heap.get? b=some o->H b=none->b∉frs outer->B.get? b=some o
 thereB:∀ b o,s.heap.get? b=some o->b∉frs outer->∃ o',B.get? b=some o'
 slot:∀ b o,s.heap.get? b=some o->H b=none->b∈frs outer->∃ sl,s'.heap.get? b=some { o with slots:=sl }
 free:∀ b o,s.heap.get? b=some o->H b=none->H' b=none
 tups:∀ b xs,H b=some (.tup xs)->H' b=some (.tup xs)
 frzs:∀ b o u,H b=some (.frz o u)->H' b=some (.frz o u)
 tbls:∀ b ps,H b=some (.tbl ps)->∃ more,H' b=some (.tbl (ps++more))
 hokB:HOk P w H' B
def CXe (P:Program)(w:World):CXT:=λ outer H s E e s'=>∃ a cls H' B t,e=.ref a/\Fly P w outer H s a cls H' B t s'/\E cls none H'
theorem vA {P:Program}{w:World}{H:Hp}{h h':Heap}(x:HOk P w H h)(k:∀ b u,H b≠none->h.get? b=some u->h'.get? b=some u):HOk P w H h':=λ a o e=>
 (x a o e).stay (λ b u hb q=>k b u (by
  rcases hb with rfl|hb
  ·rw[e];exact λ z=>nomatch z
  ·rw[hb];exact λ z=>nomatch z) q) (λ _ q=>q) λ _ _ q=>q
theorem dk {B h:Heap}{l:List EO}{b:Addr}{o:Obj}(f:h.FunFrames B l)(hb:b∈frs l)(e:h.get? b=some o):∀ vs,o.data≠.fields vs:=by
 obtain⟨_,o',e',n⟩:=f.mem hb;rw[e] at e';cases e';exact n
section
variable {P:Program}{w:World}{K:Er}{mg:Str->Option Value}{base:Heap}{N:List Str}{qual:Str}{scope:Scope}{f:Addr}{cd:Value}{A:Around}{outer:List EO}{s:Shared}{H:Hp}{E:XK}
theorem cv {b:Addr}{o:Obj}(e:s.heap.get? b=some o)(hb:b∉frs outer):b∉frs (envOfC qual scope s.heap.objs.size f cd::outer):=λ m=>by
 have m':b∈s.heap.objs.size::frs outer:=m
 rcases List.mem_cons.mp m' with rfl|m'
 ·exact absurd (Ew e) (BS _)
 ·exact hb m'
theorem iU {b:Addr}(hb:b∈frs outer):b∈frs (envOfC qual scope s.heap.objs.size f cd::outer):=A5 (s.heap.objs.size) hb
theorem rE (pins:List (Addr×Obj))(σ:St)(H1:Hp)(s1:Shared)(e:Value)(s':Shared)(I:Inv (cq (CXe P w) P w K mg base N qual scope f cd A outer s H E) pins σ H1 s1)
  (h:CXe P w (cq (CXe P w) P w K mg base N qual scope f cd A outer s H E).stack H1 s1 E e s'):(cq (CXe P w) P w K mg base N qual scope f cd A outer s H E).xe e s':=by
 obtain⟨a,cls,H',B,t,rfl,F,q⟩:=h;have noex:∀ b:Addr,b∉(cq (CXe P w) P w K mg base N qual scope f cd A outer s H E).ex:=λ b z=>absurd (show b∈([]:List Addr) from z) (by simp)
 refine wpAny_leaves_onW (L:=s.heap.objs.size) I.ok.frames rfl F.fl λ h' x1 x2=>?_
 refine⟨a,cls,H',B,t,rfl,⟨F.os.trans I.os,F.bare,x1,λ b o e n hb=>?_,λ b o e hb=>?_,λ b o e n hb=>?_,λ b o e n=>?_,λ b xs e=>?_,λ b o u e=>?_,λ b ps e=>?_,F.hokB⟩,q⟩
 ·exact F.keepB b o (I.base.keep b o e n hb (noex b)) (I.base.free b o e n (noex b)) (cv e hb)
 ·obtain⟨o1,e1⟩:=I.base.there b o e (noex b)
  exact F.thereB b o1 e1 (cv e hb)
 ·obtain⟨sl,e1⟩:=I.base.slot b o e n hb (noex b)
  obtain⟨sl2,e2⟩:=F.slot b _ e1 (I.base.free b o e n (noex b)) (iU hb);obtain⟨sl3,e3⟩:=x2 b _ e2 (dk F.fl.2.2.1 (iU hb) e2);exact⟨sl3,e3⟩
 ·obtain⟨o1,e1⟩:=I.base.there b o e (noex b)
  exact F.free b o1 e1 (I.base.free b o e n (noex b))
 ·exact F.tups b xs (I.base.tups b xs e)
 ·exact F.frzs b o u (I.base.frzs b o u e)
 ·obtain⟨m1,e1⟩:=I.base.tbls b ps e
  obtain⟨m2,e2⟩:=F.tbls b _ e1;exact⟨m1++m2,by rw[e2,Hq]⟩
theorem cxe_ok {P:Program}{w:World}:CXok P w (CXe P w):=⟨λ _ _ _ _ _ ⟨_,_,_,_,_,_,_,q⟩=>q,λ _ _ _ _ _ _ _ _ _ _ _ _ _ pins σ H1 s1 e s' I h=>rE pins σ H1 s1 e s' I h⟩
theorem mC {pins:List (Addr×Obj)}{σ:St}{H1:Hp}{s1:Shared}{h':Heap}{e:Addr}{cls:Value}{vs:List Value}(I:Inv (cq (CXe P w) P w K mg base N qual scope f cd A outer s H E) pins σ H1 s1)
  (hx:Heap.MadeExcOf s1.heap h' e cls vs) (hE:E cls none H1):(cq (CXe P w) P w K mg base N qual scope f cd A outer s H E).xe (.ref e) { s1 with heap:=h' }:=by
 have noex:∀ b:Addr,b∉(cq (CXe P w) P w K mg base N qual scope f cd A outer s H E).ex:=λ b z=>absurd (show b∈([]:List Addr) from z) (by simp)
 have hfr:s1.heap.FunFrames (GK s1.heap (frs (envOfC qual scope s.heap.objs.size f cd::outer))) (envOfC qual scope s.heap.objs.size f cd::outer):=
  PySem.W.funFrames_hide I.stack λ env he b hb=>List.mem_filterMap.mpr ⟨env,he,hb⟩
 refine wpAny_leaves_madeW (L:=s.heap.objs.size) (base:=GK s1.heap (frs (envOfC qual scope s.heap.objs.size f cd::outer))) I.ok.frames rfl (λ b o q=>Ho _ q) hfr hx λ h2 t x1 x2 x3 x4=>?_
 refine⟨e,cls,H1,_,t,rfl,⟨I.os,I.bare,x1,λ b o q n hb=>?_,λ b o q hb=>?_,λ b o q n hb=>?_,λ b o q n=>I.base.free b o q n (noex b),λ b xs q=>I.base.tups b xs q,λ b o u q=>I.base.frzs b o u q,λ b ps q=>I.base.tbls b ps q,?_⟩,hE⟩
 ·exact FS _ (I.base.keep b o q n hb (noex b)) (cv q hb)
 ·obtain⟨o1,e1⟩:=I.base.there b o q (noex b)
  exact⟨o1,FS _ e1 (cv q hb)⟩
 ·obtain⟨sl,e1⟩:=I.base.slot b o q n hb (noex b)
  obtain⟨sl2,e2⟩:=x4 b _ (hx.keeps _ _ e1) (dk hfr (iU hb) e1);exact⟨sl2,e2⟩
 ·refine vA I.hok λ b u hb q=>FS _ q λ m=>hb ?_
  exact I.stkFree b m
end
structure XCls (K:Er)(mg:Str->Option Value)(c:String)(C:Addr):Prop where
 m:mg (EW c)=some (.ref C)
 ns:EJ K mainGlobals (EW c)=some (some (.ref C))
 ex:Fw K C [.type "ValueError",.type "Exception",.type "BaseException",.type "object"] "ValueError.__new__"=true
 lk:∃ bm N nm qn bs hd sn sub ab col dd k0 k1 k2 k3 k5,K.lookup C=some (excClassObj nm qn C N bs bm hd sn sub ab col dd k0 k1 k2 k3 k5 "ValueError.__new__")
theorem rG {K:Er}{C:Addr}{bm0:List Value}{newId:String}(q:Fw K C bm0 newId=true)(l:∃ bm N nm qn bs hd sn sub ab col dd k0 k1 k2 k3 k5,K.lookup C=some (excClassObj nm qn C N bs bm hd sn sub ab col dd k0 k1 k2 k3 k5 newId)):
  ∃ bm N nm qn bs hd sn sub ab col dd k0 k1 k2 k3 k5,K.lookup C=some (excClassObj nm qn C N bs bm hd sn sub ab col dd k0 k1 k2 k3 k5 newId)/\Gh K N=true/\EJ K N "__init__"=some none/\HP K bm0 bm=true:=by
 obtain⟨bm,N,nm,qn,bs,hd,sn,sub,ab,col,dd,k0,k1,k2,k3,k5,l⟩:=l;unfold Fw at q;rw[l] at q;have q:(C == C&&newId == newId&&!false&&HP K bm0 bm&&Gh K N&&EJ K N "__init__" == some none)=true:=q;simp only[Bj,beq_iff_eq] at q;exact⟨bm,N,nm,qn,bs,hd,sn,sub,ab,col,dd,k0,k1,k2,k3,k5,l,q.1.2,q.2,q.1.1.2⟩
theorem wJ {K:Er}{h h':Heap}{N:Addr}{m:Str->Option Value}(X:K.In h)(X':K.In h')(e:Gh K N=true)(n:h.Ns N m):h'.Ns N m:=by
 obtain⟨o,es,ep,ho,hd,r⟩:=n;unfold Gh at e
 split at e
 ·rename_i a b c d q
  have:=X _ _ q;rw[ho] at this;cases this;exact⟨_,es,ep,X' _ _ q,hd,r⟩
 ·cases e
theorem lY {P:Program}{w:World}{K:Er}{mg:Str->Option Value}{base:Heap}{N:List Str}{qual:Str}{scope:Scope}{f:Addr}{cd:Value}{A:Around}{outer:List EO}{s:Shared}{H:Hp}{E:XK}{c:String}{Ca:Addr}{tx:Str}{j:Nat}{np p2 cpos pos:Pos}
  (x:XCls K mg c Ca) (hg:Gl (cq (CXe P w) P w K mg base N qual scope f cd A outer s H E) (EW c)) (hd:(EW c == ("__debug__":Str))=false) (hh:(A.deeper (envOfC qual scope s.heap.objs.size f cd)).handled=none):
  PS (cq (CXe P w) P w K mg base N qual scope f cd A outer s H E) (.Raise (some (.Call (.Name (EW c) np) [.Constant (.str tx) j p2] [] cpos)) none pos) (λ _ _ H1=>E (.ref Ca) none H1):=by
 intro pins s1 σ H1 D I hE;obtain⟨bm,Na,nm,qn,bs,hdd,sn,sub,ab,col,dd,k0,k1,k2,k3,k5,hC,hN,hni,hT⟩:=rG x.ex x.lk;have T:=HA I.kIn hT;refine wpAny_Raise_call_subT (C:=Ca) (nm:=nm) (q:=qn) (N:=Na) (bs:=bs) (bm:=bm) (hdct:=hdd) (sn:=sn) (sub:=sub) (ab:=ab) (col:=col) (dd:=dd) (k0:=k0) (k1:=k1) (k2:=k2) (k3:=k3) (k5:=k5) PySem.F.excBase_ValueError (mN:=s1.heap.nsMap Na) (T.hasType (by decide)) hh rfl (PySem.W.nsMap_none_of_in I.kIn hN hni) ?_
 have pn:=kG (X:=cq (CXe P w) P w K mg base N qual scope f cd A outer s H E) (v:=.ref Ca) (pos:=np) hg x.m rfl hd;refine thn (pn pins s1 σ H1 (λ v H2=>v=.ref Ca/\H2=H1) I ⟨rfl,rfl⟩) ?_
 rintro u s2 ⟨v,H2,I2,r2,rfl,rfl⟩
 obtain rfl:u=EA Ca:=r2;refine⟨rfl,G7 ?_⟩;have pa:=ar (X:=cq (CXe P w) P w K mg base N qual scope f cd A outer s H E) (e:=.Constant (.str tx) j p2) nB az;refine thn (pa cpos pins s2 σ H2 (λ vs H3=>vs=[.str tx]/\H3=H2) I2 ⟨rfl,rfl⟩) ?_
 rintro us s3 ⟨vs,H3,I3,r3,rfl,rfl⟩
 have hl:us.length=1:=r3.length.symm;refine⟨rfl,by rw[hl];decide,I3.kIn _ _ hC,wJ I.kIn I3.kIn hN (.of_isNs (PySem.W.isNs_of_in I.kIn hN)),HA I3.kIn hT,λ h' e hx=>?_⟩;exact mC I3 hx hE
theorem ir {P:Program}{w:World}{K:Er}{mg:Str->Option Value}{base:Heap}{cls:String->Value}{N:List Str}{qual:Str}{scope:Scope}{f:Addr}{cd:Value}{A:Around}{outer:List EO}{s:Shared}{H:Hp}{E:XK}{k:Nat}{hr:Room k (A.deeper (envOfC qual scope s.heap.objs.size f cd))}{c:String}{Ca:Addr}{tx:Str}{j:Nat}{np p2 cpos pos:Pos}
  (x:XCls K mg c Ca) (hcls:cls c=.ref Ca) (hg:Gl (cq (CXe P w) P w K mg base N qual scope f cd A outer s H E) (EW c)) (hd:autoParam ((EW c == ("__debug__":Str))=false) ZC._auto_1):
  SSs (cF (cxe_ok (P:=P) (w:=w)) cls K mg base N qual scope f cd A outer s H E hr) [.Raise (some (.Call (.Name (EW c) np) [.Constant (.str tx) j p2] [] cpos)) none pos] (Dv.sRaise c):=by
 refine⟨_,br (lY x hg hd hr.hd),λ Hv₀ H₀ E' σ H' st r q=>?_⟩;have q':E (cls c) none H':=q σ H' r;rw[hcls] at q';exact q'
structure XLook (K:Er)(C:Addr):Prop where
 ex:Fw K C [.type "ValueError",.type "Exception",.type "BaseException",.type "object"] "ValueError.__new__"=true
 lk:∃ bm N nm qn bs hd sn sub ab col dd k0 k1 k2 k3 k5,K.lookup C=some (excClassObj nm qn C N bs bm hd sn sub ab col dd k0 k1 k2 k3 k5 "ValueError.__new__")
 ga:Ex K (.ref C) "__getattribute__"=some (some (.builtin "BaseException.__getattribute__"))
 gn:Ex K (.ref C) "__getattr__"=some none
 kc:Ex K (.ref C) "__class__"=some (some (.builtin "object.__class__"))
structure XAll (K:Er)(mg:Str->Option Value)(ad:String->Option Addr):Prop where
 cl:∀ c C,ad c=some C->XCls K mg c C/\XLook K C
 sub:∀ c C k C',ad c=some C->ad k=some C'->E1 K (.ref C) (.ref C')=some (Dv.subX c k)
 val:∀ c C,ad c=some C->E1 K (.ref C) (.type "ValueError")=some true
theorem Fly.un {P:Program}{w:World}{outer:List EO}{H H':Hp}{s s':Shared}{a t:Addr}{cls:Value}{B h:Heap}(F:Fly P w outer H s a cls H' B t s')(sb:B.StaysIn h)(sm:s'.heap.UpToSlots h)(hf:∀ b∈frs outer,H b=none):
  Un (frs outer) [] H H' s.heap h where
 keep:=λ b o e n hb _=>sb b o (F.keepB b o e n hb)
 slot:=λ b o e n hb _=>by
  obtain⟨sl,e1⟩:=F.slot b o e n hb;obtain⟨sl2,e2⟩:=sm b _ e1 (dk F.fl.2.2.1 hb e1);exact⟨sl2,e2⟩
 free:=λ b o e n _=>F.free b o e n
 there:=λ b o e _=>by
  by_cases hb:b∈frs outer
  ·obtain⟨sl,e1⟩:=F.slot b o e (hf b hb) hb
   obtain⟨sl2,e2⟩:=sm b _ e1 (dk F.fl.2.2.1 hb e1);exact⟨_,e2⟩
  ·obtain⟨o1,e1⟩:=F.thereB b o e hb
   exact⟨o1,sb b o1 e1⟩
 tups:=F.tups
 frzs:=F.frzs
 tbls:=F.tbls
theorem Fly.none {P:Program}{w:World}{outer:List EO}{H H':Hp}{s s':Shared}{a t:Addr}{cls:Value}{B:Heap}(F:Fly P w outer H s a cls H' B t s'):H' a=Option.none:=by
 cases q:H' a with
 | none=>rfl
 | some o=>
  have e:=F.fl.2.1;obtain⟨o',h1⟩:∃ o',B.get? a=some o':=by
   have:=(F.hokB a o q).lt;have k:=F.hokB a o q;cases o with
   | lst xs=>obtain⟨_,_,_,_,z⟩:=k;exact⟨_,z⟩
   | tup xs=>obtain⟨_,_,_,_,z,_⟩:=k;exact⟨_,z⟩
   | dK kvs=>obtain⟨_,_,_,_,o,_,_,z,_⟩:=k;exact⟨_,z⟩
   | dT kvs=>obtain⟨_,_,_,_,o,_,_,z,_⟩:=k;exact⟨_,z⟩
   | set S n=>obtain⟨o,_,_,_,z,_⟩:=k;exact⟨_,z⟩
   | ins C dx fs=>obtain⟨_,_,_,z,_⟩:=k;exact⟨_,z⟩
   | own y=>obtain⟨_,z⟩:=k;exact⟨_,z⟩
   | xd fs=>obtain⟨_,⟨_,_,_,z,_⟩,_⟩:=k;exact⟨_,z⟩
   | rng lo hi=>obtain⟨_,_,_,z⟩:=k;exact⟨_,z⟩
   | frz ob u=>obtain⟨z,_⟩:=k;exact⟨_,z⟩
   | tbl ps=>exact⟨_,(show B.get? a=some _ from k)⟩
   | met f y=>exact⟨_,(show B.get? a=some _ from k)⟩
   | ext φ=>obtain⟨_,⟨_,z⟩,_⟩:=k;exact⟨_,z⟩
  rw[e] at h1;cases h1
open PySem PySem.W PySem.Calls PyProof.Rows
theorem i9:∀ {ns:List Int} {x:Int},x∈ns->(FT x).weight<=GM (ns.map FT)
 | [],_,h=>by simp at h
 | n::r,x,h=>by
  rw[A2];unfold GM
  rcases List.mem_cons.mp h with rfl|h
  ·omega
  ·have:=i9 h
   omega
theorem wg {ns:List Int}(h:WData.layableAll [HN (ns.map FT)]=true):∀ x∈ns,Dv.bits x<=1048576:=λ x hx=>by
 have h1:=layableW_arg h _ (A6 ..);obtain⟨_,_,h2⟩:=layableW_iff.mp h1;have h3:HB (HN (ns.map FT))=GM (ns.map FT):=by unfold HB;rfl
 have h4:=i9 hx;have h5:(FT x).weight=Dv.bits x:=by
  unfold HB Dv.bits;by_cases e:x=0
  ·simp[e]
  ·simp[e]
 rw[h3] at h2;omega
theorem vB {l:OpenLaw}{n:Nat}{q:Program}{loose:List Str}{XP:(Str->Option Value)->Heap->Prop}{YP:World->Heap->Prop}{d:DefRec}(hn:l.most=some n)(hdf:d.params.defaults=[])
  (run:∀ (w:World) (s₀ s₁:Shared) (mg mb:Str->Option Value) (fa:Addr) (a:Addr) (vs:List Value) (ns:List Int),Ground q loose [] XP w s₀ mg mb s₁.heap->YP w s₁.heap->mg d.name=some (.ref fa) ->
   s₁.heap.get? a=some { cls:=.type "list",data:=.seq vs.toArray }->IntsAre vs ns->ns.length<=n->(∀ x∈ns,Dv.bits x<=1048576)->s₁.gens=#[] ->
   codeAny (model l.prog w) callerA (.call (.ref fa) ⟨[.ref a],[]⟩) (λ r s'=>r=.ok (.ret (.bool true))/\OldK s₁.heap s'.heap/\s'.os=s₁.os/\AllBare s'.gens) s₁):
  WalkO q loose XP YP l.row.toRowW d [] (λ f vs=>PySem.call f vs):=by
 intro w s₀ s₁ mg mb G Y fa o pm cd doc dV kV ho hd hcd hD hmg hg args vals as hpre hlay hrd hwl hlo;obtain⟨a,vs,ns,rfl,rfl,hobj,hints,hlen⟩:=Att.script_of hn hpre hwl;have hbits:=wg hlay;refine enter_call (FJ (run w s₀ s₁ mg mb fa a vs ns G Y hmg hobj hints hlen hbits hg) ?_)
 rintro r s' ⟨rfl,h2,h3,h4⟩
 exact⟨.inl ⟨.bool true,.bool true,[],rfl,λ _=>rfl,.bool true,Att.post_true l _,λ _=>⟨List.Pairwise.nil,λ _ hm=>(nomatch hm)⟩⟩,h2,h3,h4⟩
theorem walkD {l:OpenLaw}{k:Nat}{q:Program}{loose:List Str}{XP:(Str->Option Value)->Heap->Prop}{YP:World->Heap->Prop}{d:DefRec}{K:Params->Frag}{CX:World->L2.CXT}{x:Str}{Fl:List Dv.D->Dv.R}
  (hn:l.most=some 63) (hdf:d.params.defaults=[]) (hr:L2.Room k callerA) (hY:∀ (w:World) (h:Heap),YP w h->(K w.params).In h) (hC:∀ w,CXok l.prog w (CX w))
  (F:∀ (w:World) (mg:Str->Option Value) (fa:Addr) (h:Heap),(K w.params).In h->h.Ns mainGlobals mg->mg d.name=some (.ref fa) ->
   ∃ (fd:FuncData) (cls:String->Value),(∀ (s:Shared) (u:Value),BindsTo s fd ⟨[u],[]⟩ [(x,u)])/\∀ base:Heap,(K w.params).In base->base.Ns mainGlobals mg->L2.FnOk l.prog w (K w.params) mg base (CX w) k fa fd [x] (spD (K w.params) cls Fl 1))
  (hF:∀ ns:List Int,ns.length<=63->(∀ x∈ns,Dv.bits x<=1048576)->Fl [.lst (ns.map .int)]=.ok (.bl true) true):
  WalkO q loose XP YP l.row.toRowW d [] (λ f vs=>PySem.call f vs):=by
 refine vB hn hdf λ w s₀ s₁ mg mb fa a vs ns G Y hmg hobj hints hlen hbits hg=>?_
 have KX:=hY w _ Y;obtain⟨fd,cls,hb,hFn⟩:=F w mg fa _ KX G.T.g hmg;have hK:∀ o,(K w.params).lookup a=some o->o={ cls:=.type "list",data:=.seq vs.toArray }:=λ o e=>by
  have:=KX a o e;rw[hobj] at this;exact(Option.some.inj this).symm
 have hl:ns.length<=sizeLine:=BN hlen (by decide);refine L2.law_call KX G.T.g G.T.b G.T.builtins G.T.nolimit hg hobj hints hl hr hFn hb (λ H hO hS=>?_) λ H e s'=>(hC w).no [] H s₁ e s'
 refine⟨[.lst (ns.map .int)],H,rfl,.refl _,?_,?_⟩
 ·refine .cons ?_ .nil
  unfold Rp;refine⟨a,ns.map L2.V.int,rfl,?_,RpL.ofInts ns⟩
  rcases hS with hS|⟨o,its,m,e,_,_,e2,z,v⟩
  ·exact .inl hS
  ·have e3:=hK o e
   subst e3;cases e2;exact .inr ⟨vs,_,e,by rw[A4];exact hl,by simpa using v⟩
 ·rw[hF ns hlen hbits]
  intro v Hv' H' _ rp _;unfold Rp at rp;exact rp
open Dv in
def aJ (ad:String->Option Addr)(c:String):Value:=match ad c with
 | some C=>.ref C
 | none=>.none
theorem fD {ad:String->Option Addr}{c:String}{C:Addr}(h:ad c=some C):aJ ad c=.ref C:=by unfold aJ;rw[h]
def sQ (l:List (String×Addr))(c:String):Option Addr:=l.lookup c
theorem d3:∀ {l:List (String×Addr)} {c:String} {C:Addr},sQ l c=some C->(c,C)∈l
 | [],c,C,h=>by simp[sQ] at h
 | (k,v)::r,c,C,h=>by
  unfold sQ at h;rw[Bz] at h
  split at h
  ·rename_i q
   cases h;rw[beq_iff_eq.mp q];exact A6 ..
  ·exact A5 _ (d3 (l:=r) h)
theorem wV {K:Frag}{mg:Str->Option Value}(l:List (String×Addr))(h1:∀ p∈l,XCls K mg p.1 p.2/\XLook K p.2/\kitOne K (.ref p.2) (.type "ValueError")=some true)(h2:∀ p∈l,∀ q∈l,kitOne K (.ref p.2) (.ref q.2)=some (Dv.subX p.1 q.1)):XAll K mg (sQ l) where
 cl:=λ c C h=>let z:=h1 _ (d3 h);⟨z.1,z.2.1⟩
 sub:=λ c C k C' h h'=>h2 _ (d3 h) _ (d3 h')
 val:=λ c C h=>(h1 _ (d3 h)).2.2
theorem eW {α:Type}{p:α->Prop}:∀ x∈([]:List α),p x:=λ x h=>absurd h (by simp)
theorem aH {α:Type}{p:α->Prop}{a:α}{l:List α}(h:p a)(r:∀ x∈l,p x):∀ x∈a::l,p x:=λ x m=>by
 rcases List.mem_cons.mp m with rfl|m
 ·exact h
 ·exact r x m
end Sd
namespace Dv
def upL (lo:Int):Nat->List Int
 | 0=>[]
 | n+1=>lo::upL (lo+1) n
end Dv
namespace Sd
open PySem PySem.Spec PyProof.Rows L2 HT
open Dv (D R RL EE EL EI RI Sl Out SS)
section
variable {C:Ctx}{a:Expr}{f:EE}{pos:Pos}
theorem lZ:∀ {xs:List V} {us:List Value},Vals xs us->Vals xs.reverse us.reverse
 | _,_,.nil=>.nil
 | _,_,.cons r t=>by
  rw[Cv,Cv];exact(lZ t).append (.cons r .nil)
theorem zg {X:Cx}{t:TE}{ts:TO}{st:Expr}{p2:Pos}(he:PE X a t)(hs:PO X (some st) ts):PE X (.Subscript a (.Slice none none (some st) p2) pos) (λ σ H Q=>t σ H λ x H1=>ts σ H1 λ l H2=>∃ b xs,l=some (-1)/\x=.ref b/\SqX X.K H2 b xs/\∀ p,H2 p=none->Q (.ref p) (upd H2 p (.lst xs.reverse))):=by
 intro pins s σ H Q I h;refine Subscript_ (thn (he pins s σ H _ I h) λ v s1 ⟨x,H1,I1,r1,q1⟩=>?_);refine wpAny_Slice ?_
 rw[Hb];refine Eu ?_
 refine Eu ?_
 refine thn (hs pins s1 σ H1 _ I1 q1) λ vs s3 ⟨l,H3,I3,pl,b,xs,e1,e2,hq,go⟩=>?_
 subst e1 e2;cases r1;have I4:L2.Inv X pins σ H3 { s3 with heap:=s3.heap.push { cls:=.type "slice",data:=.fields #[.none,.none,vs] } }:=I3.kept (t':=s3.toks) λ b ob q=>Et _ q
 obtain⟨its,n,rv,e,z⟩:=Inv.listX I4 hq;have hl:=rv.length;have hli:Heap.IsList (s3.heap.push { cls:=.type "slice",data:=.fields #[.none,.none,vs] }) b its.toArray:=⟨_,e,rfl,n,rfl⟩;show wpAny (model X.prog X.w) X.A (subscriptTail a (.Slice none none (some st) p2) (.ref b) (.ref s3.heap.objs.size)) (EP X pins σ Q) X.xe { s3 with heap:=s3.heap.push { cls:=.type "slice",data:=.fields #[.none,.none,vs] } }
 refine tail_any (ops:=[.ref b,.ref s3.heap.objs.size]) (T:="list") hli.typeIs slot_list_getitem.lookup ?_ (by with_unfolding_all rfl)
 refine GC hli (Hw ..) .none .none pl (by simp) ?_ (by rw[Bd];omega)
 rw[PySem.W.krv_pick];refine⟨.ref _,_,I4.laid (t':=s3.toks) (o:=.lst xs.reverse) (λ b ob q=>Et _ q) (Bh _) ?_,rfl,go _ (I4.hok.fresh (Bh _))⟩;exact⟨by rw[C7];exact z,_,0,lZ rv,Ey _ rfl⟩
end
end Sd
namespace Dv
def lexLt:List Int->List Int->Bool
 | [],[]=>false
 | [],_::_=>true
 | _::_,[]=>false
 | x::xs,y::ys=>if x=y then lexLt xs ys else decide (x<y)
def bestIx (bt:Nat->Nat->Bool):Nat->Nat
 | 0=>0
 | k+1=>if bt (k+1) (bestIx bt k) then k+1 else bestIx bt k
def listsOf:List D->Option (List (List Int))
 | []=>some []
 | .lst ds::r=>match intsOf ds,listsOf r with
  | some ns,some nss=>some (ns::nss)
  | _,_=>none
 | _::_=>none
def leastIx (nss:List (List Int)):Nat:=bestIx (λ i j=>lexLt (nss.getD i []) (nss.getD j [])) (nss.length-1)
def least (nss:List (List Int)):List Int:=nss.getD (leastIx nss) []
def minD:D->Bool->R
 | .lst ds,f=>match listsOf ds with
  | some nss=>if 0<nss.length then .ok (.lst ((least nss).map .int)) f else .bad
  | none=>.bad
 | _,_=>.bad
end Dv
namespace Sd
open PySem PySem.Spec PyProof.Rows L2 HT
open Dv (D R RL EE EL EI RI Sl Out SS)
section
open PySem.SeqAt
open PySem.AutoSeq1 (wpAny_loadPart')
open PySem.MeetsSeq PySem.MeetsSeq2 PySem.MeetsSeq3
theorem pj {vs:List Value}{ns:List Int}(h:IntsAre vs ns){i:Nat}(hi:i<ns.length):∃ t,vs.toArray[i]?=some (Fh (ns.getD i 0) t):=by
 have hl:=h.length;have e:vs[i]?=some vs[i]:=Ba (by omega)
 obtain⟨t,e2⟩:=IntsAre.int_at h i _ e;exact⟨t,by rw[C3,e,e2]⟩
theorem drop_one (ns:List Int){i:Nat}(h:i<ns.length):ns.drop i=ns.getD i 0::ns.drop (i+1):=by
 rw[BM h,A7,Ba h];rfl
theorem vz (l b:Addr)(vs ws:List Value)(n n2:Nat)(dd dd2:Option Addr)(sl sl2:Array (Option Value))(ns ms:List Int)(hv:IntsAre vs ns)(hw:IntsAre ws ms)(k:Nat):
  ∀ i:Nat,ns.length-i=k->i<=ns.length->i<=ms.length->Meets (Builtin.«list.__eq__.loop» ⟨[.ref l,.ref b,rawInt i,rawInt 0],[]⟩)
   (λ A R s=>s.heap.get? l=some { cls:=.type "list",dict:=dd,data:=.seq vs.toArray n,slots:=sl }/\s.heap.get? b=some { cls:=.type "list",dict:=dd2,data:=.seq ws.toArray n2,slots:=sl2 } /\
    R (.ok (.ret (.bool (Dv.lexLt (ns.drop i) (ms.drop i))))) s):=by
 have z1:=hv.length;have z2:=hw.length
 induction k with
 | zero=>
  intro i hk h1 h2 prog w A R s h;obtain⟨hp,g,d,tk,os⟩:=s;obtain⟨hl,hb,h⟩:=h
  wp_walk using wpAny_loadPart' hl,wpAny_loadPart' hb
  have hi1:vs.toArray[((i:Nat):Int).toNat]?=none:=by simp;omega
  rw[hi1]
  wp_walk using wpAny_loadPart' hl,wpAny_loadPart' hb
  show R (.ok (.ret (.bool (decide (vs.toArray.size<ws.toArray.size))))) _
  have e0:ns.drop i=[]:=CZ (by omega);have e:Dv.lexLt (ns.drop i) (ms.drop i)=decide (vs.toArray.size<ws.toArray.size):=by
   rw[e0,Bd,Bd];by_cases hm:i<ms.length
   ·rw[drop_one ms hm];unfold Dv.lexLt;exact(decide_eq_true (by omega)).symm
   ·rw[CZ (show ms.length<=i by omega)];unfold Dv.lexLt;exact(decide_eq_false (by omega)).symm
  rw[<- e];exact h
 | succ k ih=>
  intro i hk h1 h2 prog w A R s h;obtain⟨hp,g,d,tk,os⟩:=s;obtain⟨hl,hb,h⟩:=h
  wp_walk using wpAny_loadPart' hl,wpAny_loadPart' hb
  have hlt:i<ns.length:=by omega
  obtain⟨t,e1⟩:=pj hv hlt;have hi1:vs.toArray[((i:Nat):Int).toNat]?=some (Fh (ns.getD i 0) t):=by simpa using e1
  have hc:((i:Int)+1)=((i+1:Nat):Int):=by push_cast;rfl
  by_cases hm:i<ms.length
  ·obtain⟨t2,e2⟩:=pj hw hm
   have hi2:ws.toArray[((i:Nat):Int).toNat]?=some (Fh (ms.getD i 0) t2):=by simpa using e2
   rw[drop_one ns hlt,drop_one ms hm] at h;unfold Dv.lexLt at h;rw[hi1,hi2];obtain⟨e,he,hiff⟩:=u6 A.in1 ⟨hp,g,d,tk,os⟩ (ns.getD i 0) t (ms.getD i 0) t2;refine Es (he prog w _ _ ?_);cases e with
   | true=>
    rw[if_pos (hiff.mp rfl)] at h
    wp_walk
    rw[hc];exact⟨Fi plain_eq_loop _,Fb entry_eq_loop (by
     rw[E2 plain_eq_loop _];exact ih (i+1) (by omega) (by omega) (by omega) prog w A R _ ⟨hl,hb,h⟩)⟩
   | false=>
    rw[if_neg (λ q=>absurd (hiff.mpr q) Br)] at h;have hri:=tP A.in1 ⟨hp,g,d,tk,os⟩ (ns.getD i 0) t (ms.getD i 0) t2 prog w
    wp_walk using wpAny_loadPart' hl,wpAny_loadPart' hb
    rw[hi1,hi2]
    wp_walk using hri
    exact h
  ·have hi2:ws.toArray[((i:Nat):Int).toNat]?=none:=by simp;omega
   rw[hi1,hi2]
   wp_walk using wpAny_loadPart' hl,wpAny_loadPart' hb
   show R (.ok (.ret (.bool (decide (vs.toArray.size<ws.toArray.size))))) _
   have e:Dv.lexLt (ns.drop i) (ms.drop i)=decide (vs.toArray.size<ws.toArray.size):=by
    rw[Bd,Bd,drop_one ns hlt,CZ (show ms.length<=i by omega)];unfold Dv.lexLt;exact(decide_eq_false (by omega)).symm
   rw[<- e];exact h
theorem pD (l b:Addr)(vs ws:List Value)(n n2:Nat)(dd dd2:Option Addr)(sl sl2:Array (Option Value))(ns ms:List Int)(hv:IntsAre vs ns)(hw:IntsAre ws ms):
  Meets (Builtin.«list.__lt__» ⟨[.ref l,.ref b],[]⟩)
   (λ A R s=>s.heap.get? l=some { cls:=.type "list",dict:=dd,data:=.seq vs.toArray n,slots:=sl }/\s.heap.get? b=some { cls:=.type "list",dict:=dd2,data:=.seq ws.toArray n2,slots:=sl2 } /\
    R (.ok (.ret (.bool (Dv.lexLt ns ms)))) s):=by
 intro prog w A R s h;obtain⟨hp,g,d,tk,os⟩:=s;obtain⟨hl,hb,h⟩:=h;have f3:=AutoSeq1.sub_list_list
 wp_walk using wpAny_loadPart' hl,wpAny_loadPart' hb
 exact⟨Fi plain_eq_loop _,Fb entry_eq_loop (by
  rw[E2 plain_eq_loop _];exact vz l b vs ws n n2 dd dd2 sl sl2 ns ms hv hw _ 0 rfl (BV _) (BV _) prog w A R _ ⟨hl,hb,by simpa using h⟩)⟩
end
theorem uW {prog:Program}{w:World}{A:Around}{E:Value->Shared->Prop}{s:Shared}{l b:Addr}{vs ws:List Value}{n n2:Nat}{ns ms:List Int}{Q:Value->Shared->Prop}
  (hl:s.heap.get? l=some { cls:=.type "list",data:=.seq vs.toArray n }) (hb:s.heap.get? b=some { cls:=.type "list",data:=.seq ws.toArray n2 }) (hi:IntsAre vs ns) (hj:IntsAre ws ms)
  (hu:A.units<cLine) (h:Q (.bool (Dv.lexLt ns ms)) s):wpAny (model prog w) A (richCompare .Lt (.ref l) (.ref b)) Q E s:=
 (richCompare_meets_room (op:=.Lt) ⟨_,hl,rfl⟩ ⟨_,hb,rfl⟩ Gc GX (GT _ _) (pD l b vs ws n n2 none none #[] #[] ns ms hi hj)
  ⟨hl,hb,show G5 (Dv.lexLt ns ms)≠Value.notImplemented/\Q (.bool (Dv.lexLt ns ms)) s from ⟨(λ x=>nomatch x),h⟩⟩ hu:wpAny (model prog w) A (compareOp .Lt (.ref l) (.ref b)) Q E s)
section
variable {prog:Program}{w:World}{A:Around}{R':Result->Shared->Prop}{I:Addr}{fp wr:List Addr}{n:Nat}{P:Nat->Value->Prop}{St:Nat->Heap->Prop}
theorem uQ (W:Walks prog w A.in1 I fp wr n P St)(bt:Nat->Nat->Bool)(G:Heap->Prop)(S:Addr)(hSf:S∉fp)
  (hG:∀ h h',G h->(∀ b o,b∉wr->b≠S->h.get? b=some o->h'.get? b=some o)->G h')
  (hcmp:∀ i j vi vj (s:Shared) (Q:Value->Shared->Prop) (E:Value->Shared->Prop),G s.heap->P i vi->P j vj->Q (.bool (bt i j)) s->wpAny (model prog w) A.in1 (richCompare .Lt vi vj) Q E s):
  ∀ (k j:Nat) (s:Shared) (vb:Value) (c:Nat),n-(j+1)=k->j+1<=n->St (j+1) s.heap->G s.heap->P (Dv.bestIx bt j) vb ->
  s.heap.get? S=some { cls:=.type "list",dict:=none,data:=.seq #[vb,vb] c,slots:=#[] } ->
  (∀ v h' tk,P (Dv.bestIx bt (n-1)) v->(∀ b o,b∉wr->b≠S->s.heap.get? b=some o->h'.get? b=some o)->R' (.ok (.ret v)) { s with heap:=h',toks:=tk }) ->
  codeAny (model prog w) A (.builtin "min.loop" ⟨[.ref I,.none,.ref S],[]⟩) R' s:=by
 have hSw:S∉wr:=λ h=>hSf (W.sub _ h)
 have hname:(toString "min"++toString ".loop":String)="min.loop":=by decide
 intro k
 induction k with
 | zero=>
  intro j s vb c hk hj hst _ hPb hS hR;have hin:j+1=n:=by omega
  refine Fb GF ?_
  rw[E2 Fj _];show wpAny _ A.in1 (seqItems? (.ref S) >>= _) _ _ s
  refine Es (GY hS rfl ?_);show wpAny _ A.in1 (tryCatch (pyNext (.ref I)) _ >>= _) _ _ s
  refine Es (Gi (W.done s _ _ (hin▸hst) λ h' tk hk'=>?_));have hS':=hk' S _ hSw hS;show wpAny _ A.in1 (updateSeq S (λ _=>#[]) >>= _) _ _ _
  refine Es (GN hS' rfl (Es (GU (Eu ?_))));exact hR vb _ tk (by rw[<- hin];exact hPb) λ b o hbw hbS e=>(Ez _ _ (Ne.symm hbS)).trans (hk' b o hbw e)
 | succ k ih=>
  intro j s vb c hk hj hst hg hPb hS hR;refine Fb GF ?_
  rw[E2 Fj _];show wpAny _ A.in1 (seqItems? (.ref S) >>= _) _ _ s
  refine Es (GY hS rfl ?_);show wpAny _ A.in1 (tryCatch (pyNext (.ref I)) _ >>= _) _ _ s
  refine Es (Gi (W.item (j+1) s _ _ (by omega) hst λ v h' tk hP hst' hk'=>?_));have hS':=hk' S _ hSw hS;have hg':G h':=hG _ _ hg λ b o h1 _ e=>hk' b o h1 e
  show wpAny _ A.in1 (tryCatch (holding [v,v] (richCompare .Lt v vb >>= _)) _ >>= _) _ _ _
  refine Es (Gi (EM (Es (hcmp (j+1) (Dv.bestIx bt j) v vb _ _ _ hg' hP hPb ?_))));refine Es (EM (Ff (Es (GU (Eu ?_)))));cases hb:bt (j+1) (Dv.bestIx bt j) with
  | true=>
   simp only[if_true];refine Es (GN hS' rfl (Es (GU ?_)));rw[hname];refine Eu ⟨Fi Fj _,ih (j+1) _ v _ (by omega) (by omega) (W.frame _ _ _ hst' λ b hbf o e=>?_) (hG _ _ hg' λ b o _ h2 e=>(Ez _ _ (Ne.symm h2)).trans e)
    (by simp only[Dv.bestIx,hb,if_true];exact hP) (Ft _ hS' rfl) λ v' h2 tk2 hP' hk2=>?_⟩
   ·exact(Ez _ _ (λ h:S=b=>hSf (by rw[h];exact hbf))).trans e
   ·exact hR v' h2 tk2 hP' λ b o hbw hbS e=>hk2 b o hbw hbS ((Ez _ _ (Ne.symm hbS)).trans (hk' b o hbw e))
  | false=>
   simp only[Be,if_false];refine Es (GU ?_);rw[hname];refine Eu ⟨Fi Fj _,ih (j+1) _ vb c (by omega) (by omega) hst' hg' (by simp only[Dv.bestIx,hb,Be,if_false];exact hPb) hS' λ v' h2 tk2 hP' hk2=>?_⟩;exact hR v' h2 tk2 hP' λ b o hbw hbS e=>hk2 b o hbw hbS (hk' b o hbw e)
theorem q8 {E:Value->Shared->Prop}{s:Shared}{x:Value}{Q:Value->Shared->Prop}
  (h:wpAny (model prog w) A.in1 (pyIter x) (λ it s₂=>∃ I fp wr n P St bt,∃ G:Heap->Prop,it=.ref I/\Walks prog w A.in1 I fp wr n P St/\St 0 s₂.heap/\(∀ b∈fp,b<s₂.heap.objs.size)/\0<n/\G s₂.heap /\
   (∀ h h',G h->(∀ b o,b∉wr->b≠s₂.heap.objs.size->h.get? b=some o->h'.get? b=some o)->G h') /\
   (∀ i j vi vj (s:Shared) (Q:Value->Shared->Prop) (E:Value->Shared->Prop),G s.heap->P i vi->P j vj->Q (.bool (bt i j)) s->wpAny (model prog w) A.in1 (richCompare .Lt vi vj) Q E s) /\
   ∀ v h' tk,P (Dv.bestIx bt (n-1)) v->(∀ b o,b∉wr->s₂.heap.get? b=some o->h'.get? b=some o)->Q v { s₂ with heap:=h',toks:=tk }) E s):
  wpAny (model prog w) A (call (.builtin "min") [x]) Q E s:=by
 have hname:(toString "min"++toString ".loop":String)="min.loop":=by decide
 refine call_function_tree F.kind_min F.plain_min F.entry_min (F.args_min1 _) ?_
 show wpAny _ A.in1 (Gr "min" ["key","default"] 0 ⟨[],[]⟩ >>= _) _ _ s
 refine Es (HH (show Gr "min" ["key","default"] 0 ⟨[],[]⟩=pure [none,none] from rfl) ?_);refine Es (Eu ?_);refine Es (EB h (λ it s₂ h₂=>?_) λ _ _ e=>e);obtain⟨I,fp,wr,n,P,St,bt,G,rfl,W,hst,hfp,hn,hg,hG,hcmp,hQ⟩:=h₂;refine Es (Fg ?_);have hSf:s₂.heap.objs.size∉fp:=λ hm=>BS _ (hfp _ hm)
 have hSw:s₂.heap.objs.size∉wr:=λ hm=>hSf (W.sub _ hm)
 rw[hname];refine Eu ⟨Fi Fj _,Fb GF ?_⟩;rw[E2 Fj _];show wpAny _ A.in1 (seqItems? (.ref s₂.heap.objs.size) >>= _) _ _ _
 refine Es (GY (Ey _ rfl) rfl ?_);show wpAny _ A.in1 (tryCatch (pyNext (.ref I)) _ >>= _) _ _ _
 refine Es (Gi (W.item 0 _ _ _ hn (W.frame _ _ _ hst λ b _ o e=>Et _ e) λ v h' tk hP hst' hk'=>?_));have hS':=hk' s₂.heap.objs.size _ hSw (Ey _ rfl);have hg':G h':=hG _ _ hg λ b o h1 _ e=>hk' b o h1 (Et _ e)
 show wpAny _ A.in1 (updateSeq s₂.heap.objs.size (λ _=>#[v,v]) >>= _) _ _ _
 refine Es (GN hS' rfl ?_);rw[hname];refine Eu ⟨Fi Fj _,uQ W bt G s₂.heap.objs.size hSf hG hcmp _ 0 _ v _ rfl hn (W.frame _ _ _ hst' λ b hbf o e=>?_) (hG _ _ hg' λ b o _ h2 e=>(Ez _ _ (Ne.symm h2)).trans e) hP (Ft _ hS' rfl) λ v' h2 tk2 hP' hk2=>?_⟩
 ·exact(Ez _ _ (λ h:s₂.heap.objs.size=b=>hSf (by rw[h];exact hbf))).trans e
 ·exact hQ v' h2 tk2 hP' λ b o hbw e=>hk2 b o hbw (Bl (Ew e)) ((Ez _ _ (CS (Ew e))).trans (hk' b o hbw (Et _ e)))
end
theorem oT (bt:Nat->Nat->Bool):∀ k,Dv.bestIx bt k<=k
 | 0=>Bh _
 | k+1=>by
  unfold Dv.bestIx
  split
  ·exact Bh _
  ·exact Cu (oT bt k)
theorem t8 {nss:List (List Int)}(h:0<nss.length):Dv.leastIx nss<nss.length:=by
 have:=oT (λ i j=>Dv.lexLt (nss.getD i []) (nss.getD j [])) (nss.length-1);unfold Dv.leastIx;omega
theorem rC {X:Cx}(hc:X.calm=true)(hu:X.A.units+64<cLine):cU X (.builtin "min") (λ xs H Q=>∃ p vs nss,xs=[.ref p]/\SqX X.K H p vs/\vs.length=nss.length/\0<nss.length /\
  (∀ i,i<nss.length->∃ q,vs[i]?=some (.ref q)/\SqX X.K H q ((nss.getD i []).map V.int))/\∃ q,vs[Dv.leastIx nss]?=some (.ref q)/\Q (.ref q) H):=by
 intro pins s σ H xs us Q I r h;obtain⟨p,vs,nss,rfl,hq,hlen,hpos,hin,q,hbest,go⟩:=h;obtain⟨u,rfl,rx⟩:=vals1 r;cases rx;obtain⟨its,n,rv,e,z⟩:=Inv.listX I hq;have hl:=rv.length;have key:∀ i,i<nss.length->∃ q ws m,its[i]?=some (.ref q)/\q<s.heap.objs.size/\s.heap.get? q=some { cls:=.type "list",data:=.seq ws.toArray m }/\IntsAre ws (nss.getD i []):=λ i hi=>by
  obtain⟨q,h1,h2⟩:=hin i hi;obtain⟨u,h3,h4⟩:=rv.get h1;cases h4;obtain⟨ws,m,rw',e',_⟩:=Inv.listX I h2;exact⟨q,ws,m,h3,Ew e',e',intsAre_of rw'⟩
 have hli:s.heap.IsList p its.toArray:=⟨_,e,rfl,n,rfl⟩;have hlt:p<s.heap.objs.size:=Ew e;refine q8 (FY hli ?_);refine⟨s.heap.objs.size,[s.heap.objs.size,p],[s.heap.objs.size],its.toArray.size,_,_,λ i j=>Dv.lexLt (nss.getD i []) (nss.getD j []),
  λ h=>∀ i,i<nss.length->∃ q ws m,its[i]?=some (.ref q)/\q<s.heap.objs.size/\h.get? q=some { cls:=.type "list",data:=.seq ws.toArray m }/\IntsAre ws (nss.getD i []),rfl,
  Walks.list (A:=X.A.in1) (I.ok.hd hc) _ p (Bl hlt) its.toArray,⟨⟨_,Ey _ rfl,rfl,rfl⟩,hli.push _⟩,λ b hb=>?_,by rw[Bd];omega,λ i hi=>?_,λ h h' hg hk i hi=>?_,λ i j vi vj s' Q' E' hg hi hj hQ=>?_,λ v h' tk hP hk=>?_⟩
 ·show b<(s.heap.push _).objs.size
  rw[Fy]
  rcases List.mem_cons.mp hb with rfl|hb
  ·exact BF _
  ·rcases List.mem_cons.mp hb with rfl|hb
   ·exact BX hlt
   ·cases hb
 ·obtain⟨q,ws,m,h1,h2,h3,h4⟩:=key i hi
  exact⟨q,ws,m,h1,h2,Et _ h3,h4⟩
 ·obtain⟨q,ws,m,h1,h2,h3,h4⟩:=hg i hi
  refine⟨q,ws,m,h1,h2,hk q _ (λ hm=>?_) (λ hm=>?_) h3,h4⟩
  ·rw[List.mem_singleton.mp hm] at h2;exact BS _ h2
  ·have:q=s.heap.objs.size+1:=by rw[hm];exact Fy ..
   exact absurd h2 (by rw[this];exact Nat.not_lt.mpr (Ct _))
 ·have li:i<nss.length:=by
   have:i<its.toArray.size:=by
    rcases CD i its.toArray.size with h|h
    ·exact h
    ·rw[EX h] at hi;cases hi
   rw[Bd] at this;omega
  have lj:j<nss.length:=by
   have:j<its.toArray.size:=by
    rcases CD j its.toArray.size with h|h
    ·exact h
    ·rw[EX h] at hj;cases hj
   rw[Bd] at this;omega
  obtain⟨q1,ws1,m1,a1,a2,a3,a4⟩:=hg i li;obtain⟨q2,ws2,m2,b1,b2,b3,b4⟩:=hg j lj;rw[C3] at hi hj;rw[a1] at hi;rw[b1] at hj;cases hi;cases hj;exact uW a3 b3 a4 b4 (by rw[Around.in1_units];omega) hQ
 ·obtain⟨u,h3,h4⟩:=rv.get hbest
  cases h4;rw[C3,Bd,show its.length=nss.length by omega] at hP;have hP2:its[Dv.leastIx nss]?=some v:=hP
  rw[h3] at hP2;cases hP2;have hk2:∀ b o,s.heap.get? b=some o->h'.get? b=some o:=λ b o eb=>by
   refine hk b o (λ hm=>?_) (Et _ eb);rw[List.mem_singleton.mp hm] at eb;exact BS _ (Ew eb)
  exact⟨.ref q,H,I.kept hk2,rfl,go⟩
section
variable {C:Ctx}
theorem fZ {K:Er}{H:Hp}:∀ {ds:List D} {vs:List V} {nss:List (List Int)},Dv.listsOf ds=some nss->RpL K H ds vs->vs.length=nss.length/\∀ i,i<nss.length->∃ q,vs[i]?=some (.ref q)/\SqX K H q ((nss.getD i []).map V.int)
 | [],vs,nss,h,r=>by
  unfold Dv.listsOf at h;cases h;unfold RpL at r;subst r;exact⟨rfl,λ i hi=>by simp at hi⟩
 | d::ds,vs,nss,h,r=>by
  cases d with
  | lst xs=>
   simp only[Dv.listsOf] at h;cases h1:Dv.intsOf xs with
   | none=>rw[h1] at h;cases h
   | some ns=>
    cases h2:Dv.listsOf ds with
    | none=>rw[h1,h2] at h;cases h
    | some ms=>
     rw[h1,h2] at h;cases h;unfold RpL at r;obtain⟨v,r',rfl,hv,hr⟩:=r;obtain⟨l1,l2⟩:=fZ h2 hr;unfold Rp at hv;obtain⟨l,ws,rfl,g1,g2⟩:=hv;have e1:=RpL.ints h1 g2;subst e1;refine⟨by simp[l1],λ i hi=>?_⟩;cases i with
     | zero=>exact⟨l,rfl,g1⟩
     | succ i=>exact l2 i (by simpa using hi)
  | _=>unfold Dv.listsOf at h;cases h
theorem ve (hc:C.X.calm=true)(hu:C.X.A.units+64<cLine):C1S C (.builtin "min") Dv.minD:=by
 refine⟨_,rC hc hu,λ x d fr H Hv H1 Hv1 W Q e rx n q=>?_⟩;cases d with
 | lst ds=>
  simp only[Dv.minD] at q;cases hi:Dv.listsOf ds with
  | none=>rw[hi] at q;exact(show False from q).elim
  | some nss=>
   rw[hi] at q;by_cases hp:0<nss.length
   ·simp only[hp,if_true] at q
    have hb:=t8 hp;cases fr with
    | false=>
     unfold Rp at rx;obtain⟨l,vs,rfl,h1,h2⟩:=rx;obtain⟨l1,l2⟩:=fZ hi h2;obtain⟨q',b1,b2⟩:=l2 _ hb;refine⟨l,vs,nss,rfl,h1.same e.vh,l1,hp,λ i hi2=>?_,q',b1,?_⟩
     ·obtain⟨a,a1,a2⟩:=l2 i hi2
      exact⟨a,a1,a2.same e.vh⟩
     ·exact q _ Hv1 H1 e (by unfold Rp;exact⟨q',_,rfl,b2,RpL.ofInts _⟩) λ hf=>nomatch hf
    | true=>
     have rn:=n rfl;have conv:∀ {a:Addr} {ys:List V},SqX [] (Hnew H H1) a ys->SqX C.X.K H1 a ys:=λ h=>by
      rcases h with h|⟨its,n,e,_⟩
      ·exact .inl (Rd.same Hnew.sub h)
      ·simp at e
     unfold Rp at rn;obtain⟨l,vs,rfl,h1,h2⟩:=rn;obtain⟨l1,l2⟩:=fZ hi h2;obtain⟨q',b1,b2⟩:=l2 _ hb;have hr:Rp [] (Hnew H H1) (.lst ((Dv.least nss).map .int)) (.ref q'):=by unfold Rp;exact⟨q',_,rfl,b2,RpL.ofInts _⟩
     refine⟨l,vs,nss,rfl,conv h1,l1,hp,λ i hi2=>?_,q',b1,?_⟩
     ·obtain⟨a,a1,a2⟩:=l2 i hi2
      exact⟨a,a1,conv a2⟩
     ·exact q _ Hv1 H1 e ((Rp.frag hr).same e.news) λ _=>hr
   ·simp only[hp,if_false] at q
    exact(show False from q).elim
 | _=>exact(show False from q).elim
theorem qf {a:Expr}{f:EE}{p pos:Pos}(hu:C.X.A.units+64<cLine)(hm:C.X.mg "min"=none)(hg:Gl C.X "min")(ha:SE C a f)(he:autoParam (starEach [a] C.X.env=[(false,eval a C.X.env)]) ZF._auto_1)(hcl:autoParam (C.X.calm=true) ZF._auto_1):SE C (.Call (.Name "min" p) [a] [] pos) (Dv.eB1 Dv.minD f):=
 lh (ve hcl hu) hg hm (by decide +kernel) ha (by decide) (by decide) he
end
end Sd
namespace Dv
def eqsD:List D->D->Option (List Bool)
 | [],_=>some []
 | d::r,b=>match eqD d b,eqsD r b with
  | some p,some q=>some (p::q)
  | _,_=>none
end Dv
namespace Dv
def look:List Int->List D->Int->Option D
 | k::ks,d::ds,j=>if k=j then some d else look ks ds j
 | _,_,_=>none
def replL:List Int->List D->Int->D->List D
 | k::ks,d::ds,j,x=>(if k=j then x else d)::replL ks ds j x
 | _,ds,_,_=>ds
def putL (ks:List Int)(ds:List D)(j:Int)(x:D):List D:=if j∈ks then replL ks ds j x else ds++[x]
def putKs (ks:List Int)(j:Int):List Int:=if j∈ks then ks else ks++[j]
def eDict0:EE:=λ _=>.ok (.dct [] []) true
def eDix (a k:EE):EE:=λ ρ=>(a ρ).bind λ x f=>(k ρ).bind λ y _=>match x,y with
 | .dct ks ds,.int j=>match look ks ds j with
  | some d=>.ok d (f || scal d)
  | none=>.bad
 | _,_=>.bad
def sDPut (is:List Nat)(i:Nat)(k e:EE):SS:=λ st=>match (give is st)[i]? with
 | some (.ow (.dct ks ds))=>match e (open_ (give is st)) with
  | .ok d _=>match k (open_ (give is st)) with
   | .ok (.int j) _=>if decide (ks.length<mx)&&decide (ks.length=ds.length) then .nx ((give is st).set i (.ow (.dct (putKs ks j) (putL ks ds j d)))) else .bad
   | .exc c=>.exc c st
   | _=>.bad
  | .exc c=>.exc c st
  | .bad=>.bad
 | _=>.bad
def tu:List D->Bool
 | []=>true
 | .lst es::r=>flatL es&&tu r
 | _::_=>false
def minI:Int->List Int->Int
 | a,[]=>a
 | a,b::r=>minI (if b<a then b else a) r
def minLD:D->Bool->R
 | .lst ds,_=>match intsOf ds with
  | some (n::ns)=>.ok (.int (minI n ns)) true
  | _=>.bad
 | _,_=>.bad
def sAppG (is:List Nat)(i:Nat)(e:EE):SS:=λ st=>match (give is st)[i]? with
 | some (.ow (.lst ds))=>match e (open_ (give is st)) with
  | .ok d _=>if decide (ds.length<mx) then .nx ((give is st).set i (.ow (.lst (ds++[d])))) else .bad
  | .exc c=>.exc c st
  | .bad=>.bad
 | _=>.bad
def sSetD (i:Nat)(e:EE):SS:=λ st=>match e (all st) with
 | .ok d true=>.nx (st.set i (.dp d))
 | .ok _ false=>.bad
 | .exc c=>.exc c st
 | .bad=>.bad
def shapeL:List D->Option Nat
 | []=>some 0
 | .lst ds::r=>if flatL ds then (shapeL r).map (max ds.length) else none
 | _::_=>none
def shapeD:D->Option (Nat×Nat)
 | .lst ds=>(shapeL ds).map (ds.length,·)
 | .tup ds=>(shapeL ds).map (ds.length,·)
 | _=>none
def junk:Sl->Option (Nat×Nat)
 | .dp d=>shapeD d
 | .jk n m=>some (n,m)
 | _=>none
end Dv
namespace Sd
open PySem PySem.Spec PyProof.Rows L2
open Dv (D R RL EE EL EI RI Sl Out SS)
theorem cb {K:Er}{H:Hp}{j:Int}{d:D}:∀ {ks:List Int} {ds:List D} {vs:List V},RpL K H ds vs->Dv.look ks ds j=some d->∃ v,gP ((ks.map (Sum.inl:Int->Key)).zip vs) (Sum.inl j)=some v/\Rp K H d v
 | [],ds,vs,h,e=>by simp[Dv.look] at e
 | k::ks,[],vs,h,e=>by simp[Dv.look] at e
 | k::ks,x::ds,vs,h,e=>by
  unfold RpL at h;obtain⟨v,ws,rfl,h1,h2⟩:=h;unfold Dv.look at e;rw[A2,B5];by_cases hk:k=j
  ·rw[if_pos hk] at e
   cases e;exact⟨v,fu (by rw[hk]),h1⟩
  ·rw[if_neg hk] at e
   obtain⟨u,h3,h4⟩:=cb h2 e;exact⟨u,by rw[dY (λ z=>hk (Gj z))];exact h3,h4⟩
theorem fU {K:Er}{H:Hp}{j:Int}:∀ {ks:List Int} {ds:List D} {vs:List V},ks.length=ds.length->RpL K H ds vs->Dv.look ks ds j=none->gP ((ks.map (Sum.inl:Int->Key)).zip vs) (Sum.inl j)=none
 | [],ds,vs,_,h,e=>rfl
 | k::ks,[],vs,hl,h,e=>by cases hl
 | k::ks,x::ds,vs,hl,h,e=>by
  unfold RpL at h;obtain⟨v,ws,rfl,h1,h2⟩:=h;unfold Dv.look at e;rw[A2,B5];by_cases hk:k=j
  ·rw[if_pos hk] at e;cases e
  ·rw[if_neg hk] at e
   rw[dY (λ z=>hk (Gj z))];exact fU (by simpa using hl) h2 e
theorem jC {K:Er}{H:Hp}{j:Int}{x:D}{v:V}(rx:Rp K H x v):∀ {ks:List Int} {ds:List D} {vs:List V},ks.length=ds.length->RpL K H ds vs ->
  ∃ ws,((ks.map (Sum.inl:Int->Key)).zip vs).map (λ kv=>if kv.1=Sum.inl j then (kv.1,v) else kv)=(ks.map (Sum.inl:Int->Key)).zip ws/\RpL K H (Dv.replL ks ds j x) ws/\(Dv.replL ks ds j x).length=ds.length
 | [],[],vs,_,h=>⟨[],rfl,by unfold Dv.replL;exact .nil,rfl⟩
 | [],_::_,vs,hl,h=>by cases hl
 | _::_,[],vs,hl,h=>by cases hl
 | k::ks,d::ds,vs,hl,h=>by
  unfold RpL at h;obtain⟨u,us,rfl,h1,h2⟩:=h;obtain⟨ws,e1,e2,e3⟩:=jC rx (by simpa using hl) h2;unfold Dv.replL;rw[A2,B5,A2,e1];by_cases hk:k=j
  ·subst hk
   exact⟨v::ws,by simp,by rw[if_pos rfl];exact .cons rx e2,by simp[e3]⟩
  ·have:¬ ((Sum.inl k:Key)=Sum.inl j):=λ z=>hk (Gj z)
   exact⟨u::ws,by simp[hk],by rw[if_neg hk];exact .cons h1 e2,by simp[e3]⟩
theorem pq {j:Int}:∀ {ks:List Int} {vs:List V},ks.length=vs.length->(((ks.map (Sum.inl:Int->Key)).zip vs).any λ kv=>decide (kv.1=Sum.inl j))=decide (j∈ks)
 | [],[],_=>by simp
 | [],_::_,h=>by cases h
 | _::_,[],h=>by cases h
 | k::ks,v::vs,h=>by
  rw[A2,B5,Co,pq (by simpa using h)];by_cases hk:k=j
  ·subst hk;simp
  ·have h1:¬ ((Sum.inl k:Key)=Sum.inl j):=λ z=>hk (Gj z)
   have h2:¬ j=k:=λ z=>hk z.symm
   simp[h1,h2]
theorem w9 {K:Er}{H:Hp}{j:Int}{x:D}{v:V}{ks:List Int}{ds:List D}{vs:List V}(rx:Rp K H x v)(hl:ks.length=ds.length)(h:RpL K H ds vs):
  ∃ ws,putK ((ks.map (Sum.inl:Int->Key)).zip vs) (Sum.inl j) v=((Dv.putKs ks j).map (Sum.inl:Int->Key)).zip ws/\RpL K H (Dv.putL ks ds j x) ws/\(Dv.putKs ks j).length=(Dv.putL ks ds j x).length:=by
 have hv:=h.length;unfold putK Dv.putKs Dv.putL;rw[pq (by omega)];by_cases hj:j∈ks
 ·rw[if_pos (decide_eq_true hj),if_pos hj,if_pos hj]
  obtain⟨ws,e1,e2,e3⟩:=jC (j:=j) rx hl h;exact⟨ws,e1,e2,by rw[e3,hl]⟩
 ·rw[if_neg (by simp[hj]),if_neg hj,if_neg hj]
  refine⟨vs++[v],?_,h.append (.cons rx .nil),by simp[hl]⟩;rw[Cf,DA (by simp;omega)];rfl
section
variable {C:Ctx}{a b c e k:Expr}{f g h:EE}{F G:SS}{pos pos':Pos}{E:Ends}
theorem uc:SE C (.Dict [] [] pos) Dv.eDict0:=⟨_,tH,λ σ H Hv ρ Q e s w p hp=>by
 refine w (.ref p) _ _ (Ext.new1 s hp (.dK [])) ?_ λ _=>?_
 ·unfold Rp;exact⟨p,[],rfl,rfl,.inl ai,.nil⟩
 ·unfold Rp;exact⟨p,[],rfl,rfl,.inl (Hnew.at hp _),.nil⟩⟩
theorem tq (C:Ctx):C.X.A.units+1<cLine:=by have:=C.un;omega
theorem vQ (is:List Nat){i:Nat}{x:Str}{px:Pos}(he:SE C e f)(hk:SE C k g)(hN:autoParam (C.X.N[i]?=some x) ZF._auto_1)(hv:autoParam (Vis C.X.env.scope x) ZG._auto_1)
    (hd:autoParam ((x == ("__debug__":Str))=false) ZC._auto_1) (hcd:autoParam ((x == ("__classdict__":Str))=false) ZC._auto_1)
    (hs:autoParam (swapsWith e (some (.Subscript (.Name x px) k pos')) pos.line C.X.env=pure false) ZF._auto_1):SSt C (.Assign [.Subscript (.Name x px) k pos'] e pos) (Dv.sDPut is i g f):=by
  obtain⟨t,p,q⟩:=he;obtain⟨t2,p2,q2⟩:=hk;refine⟨_,vL (tq C) (c8 hN hv hd hcd) p2 p hs,λ Hv₀ H₀ E σ H st ⟨Hc0,O0,r0⟩ w=>?_⟩;obtain⟨Hc,O,_,r⟩:=r0.give is;unfold Dv.sDPut at w;generalize hst:Dv.give is st=st1 at r w;cases hi:st1[i]? with
  | none=>simp only[hi] at w;exact(show False from w).elim
  | some s=>
    simp only[hi] at w;cases s with
    | ow d0=>
     cases d0 with
     | dct ks ds=>
      refine q.open r (λ c hf Hc' H' x=>?_) (λ hf=>?_) λ d fr v Hc' H' hf x r' rp=>?_
      · simp only[hf] at w;exact w σ H' ⟨Hc0,O0,r0.grow x.hh x.nf⟩
      · simp only[hf] at w;exact w
      · simp only[hf] at w
        obtain⟨a,o,h1,h2,h3⟩:=r'.ow i _ hi;refine⟨_,h1,?_⟩;refine q2.open r' (λ c hg Hc2 H2 x2=>?_) (λ hg=>?_) λ d2 fr2 v2 Hc2 H2 hg x2 r2 rp2=>?_
        · simp only[hg] at w
          have xx:=x.trans x2;exact w σ H2 ⟨Hc0,O0,r0.grow xx.hh xx.nf⟩
        · simp only[hg] at w;exact w
        · simp only[hg] at w
          cases d2 with
          | int j=>
            by_cases z:(decide (ks.length<Dv.mx)&&decide (ks.length=ds.length))=true
            · simp only[z,if_true] at w
              simp only[Bj,decide_eq_true_eq] at z;unfold Rp at rp2;subst rp2;obtain⟨vs,rfl,hl,h5⟩:=h3;obtain⟨ws,e1,e2,e3⟩:=w9 (j:=j) (rp.same x2.vv) hl (h5.same x2.vv);obtain⟨O',r3⟩:=r2.putDct hi h1 e3 e2;rw[<- e1] at r3;refine⟨a,_,rfl,.inl ⟨_,Sum.inl j,(r2.oh i a _ h2).1,rfl,?_,rfl⟩,w σ _ ⟨Hc2,O',r3⟩⟩;have z5:ks.length<100000:=z.1;have:=EU;simp only[C5,A4];omega
            · simp only[z] at w;exact(show False from w).elim
          | _=>exact(show False from w).elim
     | _=>exact(show False from w).elim
    | _=>exact(show False from w).elim
theorem pE (is:List Nat){i:Nat}{x:Str}{apos cpos:Pos}{px:Pos}(he:SE C e f)(hN:autoParam (C.X.N[i]?=some x) ZF._auto_1)(hv:autoParam (Vis C.X.env.scope x) ZG._auto_1)
    (hd:autoParam ((x == ("__debug__":Str))=false) ZC._auto_1) (hcd:autoParam ((x == ("__classdict__":Str))=false) ZC._auto_1) (hst:autoParam (starEach [e] C.X.env=[(false,eval e C.X.env)]) ZF._auto_1)
    (hbase:autoParam (attributeBase (.Name x px) "append" C.X.env (eval (.Name x px) C.X.env)=eval (.Name x px) C.X.env) ZF._auto_1)
    (hfew:autoParam (((backTo cpos (starEach [e] C.X.env)).all (λ x=>!x.1)&&(backToKw cpos (keywordEach [] C.X.env)).all (λ x=>x.1.isSome)
      && decide ([e].length+([]:List Keyword).length+(if ([]:List Keyword).isEmpty then 0 else 1)<30))=true) ZF._auto_1)
    (hline:autoParam ((apos.endLine == cpos.line)=true) ZF._auto_1)
    (hs:autoParam (swapsWith (.Call (.Attribute (.Name x px) "append" apos) [e] [] cpos) none pos.line C.X.env=pure false) ZF._auto_1):
    SSt C (.Expr (.Call (.Attribute (.Name x px) "append" apos) [e] [] cpos) pos) (Dv.sAppG is i f):=by
  obtain⟨t,p,q⟩:=he;refine⟨_,bM (eN EH ER ES bH (c8 hN hv hd hcd) (ar p az hst) hbase hfew hline hst rfl) hs,λ Hv₀ H₀ E σ H st ⟨Hc0,O0,r0⟩ w=>?_⟩;obtain⟨Hc,O,_,r⟩:=r0.give is;unfold Dv.sAppG at w;generalize hst:Dv.give is st=st1 at r w;cases hi:st1[i]? with
  | none=>simp only[hi] at w;exact(show False from w).elim
  | some s=>
    simp only[hi] at w;cases s with
    | ow d0=>
     cases d0 with
     | lst ds=>
      obtain⟨a,vs,h1,h2,h5⟩:=r.own hi;refine⟨_,h1,.inl ⟨rfl,vs,SqL.of h2⟩,?_⟩;refine q.open r (λ c hf Hc' H' x=>?_) (λ hf=>?_) λ d fr v Hc' H' hf x r' rp=>?_
      · simp only[hf] at w;exact w σ H' ⟨Hc0,O0,r0.grow x.hh x.nf⟩
      · simp only[hf] at w;exact w
      · simp only[hf] at w
        by_cases z:decide (ds.length<Dv.mx)=true
        · simp only[z,if_true] at w
          rw[decide_eq_true_eq] at z;obtain⟨O',r2⟩:=r'.put hi h1 ((h5.same x.vv).append (.cons rp .nil));refine⟨a,vs,v,rfl,rfl,x.hh _ _ h2,?_,w σ _ ⟨Hc',O',r2⟩⟩;have:=h5.length;have e1:(100000:Nat)<sizeLine:=by rw[EU];decide
          have e2:ds.length<100000:=z;omega
        · simp only[z] at w
          exact(show False from w).elim
     | _=>exact(show False from w).elim
    | _=>exact(show False from w).elim
theorem kT {H H':Hp}{b:Addr}{o:HO}(h:Hnew H H' b=some o):H b=none:=by
 unfold Hnew at h;cases q:H b with
 | none=>rfl
 | some u=>rw[q] at h;cases h
theorem xc {i:Nat}{x:Str}(he:SE C e f)(hN:C.X.N.Nodup)(hi:C.X.N[i]?=some x)(hx:Loc C.X.env.scope x)(hs:autoParam (swapsWith e (some (.Name x pos')) pos.line C.X.env=pure false) ZF._auto_1)
  (hf:autoParam (C.X.fn x=true\/C.X.env.scope.names.lookup x=some .local) ZB._auto_1):SSt C (.Assign [.Name x pos'] e pos) (Dv.sSetD i f):=by
 obtain⟨t,p,q⟩:=he;refine⟨_,cZ hN hi hx p hs hf,λ Hv₀ H₀ E σ H st ⟨Hc,O,r⟩ w=>?_⟩;unfold Dv.sSetD at w;refine q.all r (λ c hf H' r'=>?_) (λ hf=>?_) λ d fr v Hv' H' hf x r' rp n=>?_
 ·rw[hf] at w;exact w σ H' ⟨Hc,O,r'⟩
 ·rw[hf] at w;exact w
 ·rw[hf] at w
  cases fr with
  | false=>exact(show False from w).elim
  | true=>
   refine w _ H' ⟨Hc,_,r'.setDp (R:=Hnew H H') (λ b o h=>⟨Hnew.sub b o h,r.ch.free (kT h),r.h0.free (kT h),λ j _=>?_⟩) (n rfl)⟩;cases z:O j b with
   | none=>rfl
   | some u=>have:=(r.oh j b u z).1;rw[kT h] at this;cases this
theorem gz {R:Hp}:∀ {ds:List D} {vs:List V} {m:Nat},RpL [] R ds vs->Dv.shapeL ds=some m->∀ x∈vs,∃ b ws es,x=.ref b/\Rd R b (.lst ws)/\ws.length<=m/\Dv.flatL es=true/\RpL [] R es ws
 | [],vs,m,h,e,x,hx=>by unfold RpL at h;subst h;simp at hx
 | d::r,vs,m,h,e,x,hx=>by
  unfold RpL at h;obtain⟨v,ws,rfl,h1,h2⟩:=h;cases d with
  | lst es=>
   simp only[Dv.shapeL] at e;by_cases hf:Dv.flatL es=true
   ·simp only[hf,if_true,B3] at e
    obtain⟨m',e1,rfl⟩:=e
    rcases List.mem_cons.mp hx with rfl|hx
    ·unfold Rp at h1
     obtain⟨b,us,rfl,h3,h4⟩:=h1;refine⟨b,us,es,rfl,?_,?_,hf,h4⟩
     ·rcases h3 with h3|⟨its,n,e,_⟩
      ·exact h3
      ·simp at e
     ·rw[h4.length];omega
    ·obtain⟨b,us,es',e2,e3,e4,e5⟩:=gz h2 e1 x hx
     exact⟨b,us,es',e2,e3,by omega,e5⟩
   ·simp only[hf] at e;cases e
  | _=>simp[Dv.shapeL] at e
theorem gE {R:Hp}:∀ {es:List D} {vs:List V},Dv.flatL es=true->RpL [] R es vs->∀ x∈vs,∀ b,x≠.ref b
 | [],vs,_,h,x,hx,b=>by unfold RpL at h;subst h;simp at hx
 | d::r,vs,f,h,x,hx,b=>by
  unfold RpL at h;obtain⟨v,ws,rfl,h1,h2⟩:=h;unfold Dv.flatL at f;rw[Bj] at f
  rcases List.mem_cons.mp hx with rfl|hx
  ·cases d with
   | non=>unfold Rp at h1;subst h1;intro z;cases z
   | bl _=>unfold Rp at h1;subst h1;intro z;cases z
   | int _=>unfold Rp at h1;subst h1;intro z;cases z
   | str _=>unfold Rp at h1;subst h1;intro z;cases z
   | _=>simp[Dv.scal] at f
  ·exact gE f.2 h2 x hx b
theorem Aq {R:Hp}{d:D}{v:V}{n m:Nat}(nf:∀ b o u,R b≠some (.frz o u))(rp:Rp [] R d v)(e:Dv.shapeD d=some (n,m)):Jk R n m v:=by
 have rd:∀ {b:Addr} {o:HO},Rd R b o->R b=some o:=λ {b o} h=>by
  rcases h with h|⟨u,h⟩
  ·exact h
  ·exact absurd h (nf _ _ _)
 have key:∀ {ds:List D} {vs:List V} {t:Addr},RpL [] R ds vs->Dv.shapeL ds=some m->(R t=some (.lst vs)\/R t=some (.tup vs))->∀ x∈vs,∃ b ws,x=.ref b/\b≠t/\R b=some (.lst ws)/\ws.length<=m:=λ {ds vs t} h1 h2 h3 x hx=>by
  obtain⟨b,ws,es,rfl,e2,e3,e4,e5⟩:=gz h1 h2 x hx;refine⟨b,ws,rfl,λ z=>?_,rd e2,e3⟩;subst z;have e6:=rd e2
  rcases h3 with h3|h3
  ·rw[h3] at e6
   cases e6;exact gE e4 e5 _ hx b rfl
  ·rw[h3] at e6;cases e6
 cases d with
 | lst ds=>
  simp only[Dv.shapeD,B3] at e;obtain⟨m',e1,e2⟩:=e;cases e2;unfold Rp at rp;obtain⟨t,vs,rfl,h1,h2⟩:=rp;have h1':R t=some (.lst vs):=by
   rcases h1 with h1|⟨its,n,e,_⟩
   ·exact rd h1
   ·simp at e
  exact⟨t,vs,rfl,.inl h1',h2.length,key h2 e1 (.inl h1')⟩
 | tup ds=>
  simp only[Dv.shapeD,B3] at e;obtain⟨m',e1,e2⟩:=e;cases e2;unfold Rp at rp;obtain⟨t,vs,rfl,h1,h2⟩:=rp;exact⟨t,vs,rfl,.inr (rd h1),h2.length,key h2 e1 (.inr (rd h1))⟩
 | _=>simp[Dv.shapeD] at e
theorem RelC.junk {K:Er}{Hv₀ H₀ Hc H:Hp}{O:Nat->Hp}{st:Dv.St}{σ:St}{i n m:Nat}{s:Sl}(r:RelC K Hv₀ H₀ Hc O st σ H)(hi:st[i]?=some s)(e:Dv.junk s=some (n,m)):∃ v,σ[i]?=some (some v)/\Jk (O i) n m v:=by
 cases s with
 | dp d=>
  obtain⟨v,h1,h2⟩:=r.dp i d hi;exact⟨v,h1,Aq (λ b o u h=>r.nf b o u (r.oh i b _ h).2.2 (r.oh i b _ h).1) h2 e⟩
 | jk n' m'=>
  cases e;exact r.jk i _ _ hi
 | _=>cases e
theorem yN {R:Hp}{n m m':Nat}{t b:Addr}{vs us:List V}(hm:m<=m')(ht:R t=some (.lst vs)\/R t=some (.tup vs))(hn:vs.length=n)(hx:∀ x∈vs,∃ b ws,x=.ref b/\b≠t/\R b=some (.lst ws)/\ws.length<=m)(hb:b≠t)(hu:us.length<=m'):
  Jk (upd R b (.lst us)) n m' (.ref t):=by
 refine⟨t,vs,rfl,?_,hn,λ x h=>?_⟩
 ·rw[ag (Ne.symm hb)];exact ht
 ·obtain⟨c,ws,e1,e2,e3,e4⟩:=hx x h
  by_cases hc:c=b
  ·subst hc
   exact⟨c,us,e1,e2,ai,hu⟩
  ·exact⟨c,ws,e1,e2,by rw[ag hc];exact e3,by omega⟩
end
structure RoomH (k:Nat)(A:Around):Prop where
 dp:A.depth+3*k+5<recursionLimit
 un:A.units+16*k+200<cLine
theorem RoomH.deeper {k:Nat}{A:Around}(r:RoomH (k+1) A)(env:EO):RoomH k (A.deeper env):=
 ⟨by have:=r.dp;show A.depth+1+3*k+5<_;omega,by have:=r.un;show A.units+3+16*k+200<_;omega⟩
theorem RoomH.depth {k:Nat}{A:Around}(r:RoomH k A):A.depth<recursionLimit:=by have:=r.dp;omega
theorem RoomH.units {k:Nat}{A:Around}(r:RoomH k A):A.units+64<cLine:=by have:=r.un;omega
end Sd
namespace Dv
def compGoT (m:Nat)(elt:EE)(cond:EE)(free:Env):List D->RL
 | []=>.ok [] true
 | d::r=>match d with
  | .tup es=>if es.length=m then match cond (es.map some++free) with
   | .ok (.bl true) _=>match elt (es.map some++free) with
    | .ok x f=>match compGoT m elt cond free r with
     | .ok xs g=>.ok (x::xs) (f&&g)
     | _=>.bad
    | _=>.bad
   | .ok (.bl false) _=>compGoT m elt cond free r
   | _=>.bad
   else .bad
  | _=>.bad
def eCompT (m:Nat)(elt cond:EE)(is:List Nat)(it:EI):EE:=λ ρ=>match it ρ with
 | .ok ds _=>if ds.length<=mx then match compGoT m elt cond (pick ρ is) ds with
   | .ok xs f=>.ok (.lst xs) f
   | _=>.bad
  else .bad
 | .exc c=>.exc c
 | .bad=>.bad
end Dv
namespace Sd
open PySem PySem.Spec PyProof.Rows L2
open Dv (D R RL EE EL EI RI Sl Out SS)
inductive NamesAre:List Expr->List Str->Prop
 | nil:NamesAre [] []
 | cons {x:Str} {p:Pos} {es:List Expr} {ts:List Str}:NamesAre es ts->NamesAre (.Name x p::es) (x::ts)
theorem NamesAre.length {es:List Expr}{ts:List Str}(h:NamesAre es ts):es.length=ts.length:=by
 induction h with
 | nil=>rfl
 | cons _ ih=>rw[A8,A8,ih]
def tgN:Nat->Nat->TGs
 | _,0=>AE
 | k,n+1=>xO (dZ k) (tgN (k+1) n)
theorem uq:∀ (n k:Nat) (vs:List V) (pre os fr:St) (H:Hp) (Q:St->Hp->Prop),vs.length=n->os.length=n->pre.length=k->Q (pre++vs.map some++fr) H->tgN k n vs (pre++os++fr) H Q
 | 0,k,vs,pre,os,fr,H,Q,h1,h2,h3,q=>by
  have e1:=BZ h1;have e2:=BZ h2;subst e1 e2;exact⟨rfl,q⟩
 | n+1,k,v::vs,pre,o::os,fr,H,Q,h1,h2,h3,q=>by
  refine⟨v,vs,rfl,?_⟩;show tgN (k+1) n vs ((pre++(o::os)++fr).set k (some v)) H Q
  have e:(pre++(o::os)++fr).set k (some v)=(pre++[some v])++os++fr:=by
   subst h3;simp[List.set_append]
  rw[e];exact uq n (k+1) vs (pre++[some v]) os fr H Q (by simpa using h1) (by simpa using h2) (by simp[h3]) (by simpa using q)
 | n+1,k,[],pre,os,fr,H,Q,h1,h2,h3,q=>by cases h1
 | n+1,k,v::vs,pre,[],fr,H,Q,h1,h2,h3,q=>by cases h2
theorem qU {X:Cx}(hN:X.N.Nodup){es:List Expr}{ts:List Str}(na:NamesAre es ts):∀ k:Nat,(∀ (j:Nat) (t:Str),ts[j]?=some t->X.N[k+j]?=some t/\X.env.scope.names.lookup t=some .local)->PGs X es (tgN k es.length):=by
 induction na with
 | nil=>intro k _;exact p4
 | @cons x p es ts na ih=>
  intro k h;obtain⟨h1,h2⟩:=h 0 x rfl;exact mL (ej hN h1 (.inl h2) (.inr h2)) (ih (k+1) λ j t ht=>by
   have:=h (j+1) t (by simpa using ht);have e:k+1+j=k+(j+1):=by omega
   rw[e];exact this) rfl
structure CompNamesT (X:Cx)(scope:Scope)(ts:List Str)(fs:List Str)(is:List Nat):Prop where
 kind:scope.kind=.function
 cell:∀ y∈scope.names,y.2≠.cell
 names:∀ y∈scope.names,y.2=.local->scope.names.lookup y.1=some .local
 tgt:∀ t∈ts,scope.names.lookup t=some .local
 nd:(ts++fs).Nodup
 free:∀ y∈scope.names,y.2=.free->X.env.kindOf y.1=some .cell\/X.env.kindOf y.1=some .free
 fsf:∀ y∈fs,scope.names.lookup y=some .free
 len:is.length=fs.length
 at':∀ (j:Nat) (y:Str),fs[j]?=some y->∃ i,is[j]?=some i/\X.N[i]?=some y
theorem qq {K:Er}{Hv:Hp}{ρ:Dv.Env}{σ:St}{is:List Nat}{ds:List D}{vs:List V}(e:EnvR K Hv ρ σ)(r:RpL K Hv ds vs):EnvR K Hv (ds.map some++Dv.pick ρ is) (vs.map some++bp σ is):=λ j x h=>by
 have hl:=r.length;by_cases hj:j<ds.length
 ·rw[Bx (by simpa using hj),Bv] at h
  cases q:ds[j]? with
  | none=>rw[q] at h;cases h
  | some d=>
   rw[q] at h;cases h;obtain⟨v,h1,h2⟩:=r.get q;exact⟨v,by rw[Bx (by simp;omega),Bv,h1];rfl,h2⟩
 ·rw[BJ (by simp;omega),A4] at h
  obtain⟨i,h1,h2⟩:=lW h;obtain⟨u,h3,h4⟩:=e i x h2;exact⟨u,by rw[BJ (by simp;omega),A4,hl];exact jE h1 h3,h4⟩
theorem oi {X:Cx}{pins:List (Addr×Obj)}{σ:St}{H1:Hp}{s2:Shared}{scope:Scope}{ts:List Str}{fs:List Str}{is:List Nat}{cl:List (Str×Addr)}{fp:List Addr}{L:Addr}(I:Inv X pins σ H1 s2)(S:CompNamesT X scope ts fs is)
  (clsub:∀ x c,cl.lookup x=some c->X.env.cells.lookup x=some c) (clhas:∀ y∈scope.names,y.2=.free->∃ c,cl.lookup y.1=some c) (f2:∀ b∈fp,eY X pins H1 b) (fin:∀ b∈fp,b<s2.heap.objs.size) (hL:s2.heap.objs.size<=L):
  (aT X (ts++fs) scope cl L s2 H1 fp).Ok:=by
 refine⟨I.ok.mod,S.kind,I.ok.glob,I.ok.blt,hL,λ y z c h1 h2=>I.ok.inj y z c (clsub y c h1) (clsub z c h2),λ y hy=>?_,λ y c h=>(by cases h),I.ok.hd,I.ok.frames,.inl rfl,λ b hb=>⟨?_,λ y c h=>?_⟩,I.bs,BN I.ok.bsz I.sz,λ b o e hb=>?_,λ b hb hf=>?_,I.stack,I.stkFree⟩
 ·have:(y,E3)∈scope.names:=by
   rcases hy with hy|hy
   ·exact cG (env:=X.env) S.cell (.inl rfl) hy
   ·exact cG (env:=X.env) S.cell (.inr rfl) hy
  exact clhas _ this rfl
 ·exact Bl (Bw (fin b hb) hL)
 ·exact(f2 b hb).2.2.2.2.1 y c (clsub y c h)
 ·obtain⟨_,_,_,h4,_⟩:=f2 b hb
  rcases h4 with h4|h4
  ·exact I.ok.noex b o e h4
  ·exact absurd (Ew (I.ok.bs b o e).1) (Nat.not_lt.mpr h4)
 ·obtain⟨_,h2,h3,_⟩:=f2 b hb
  rcases List.mem_cons.mp (I.stkSub b hf) with e|e
  ·exact h2 e
  ·exact h3 e
theorem se {X:Cx}{pins:List (Addr×Obj)}{σ:St}{H1:Hp}{s2:Shared}{scope:Scope}{ts:List Str}{fs:List Str}{is:List Nat}{cl:List (Str×Addr)}{fp:List Addr}{L:Addr}{h1:Heap}{t1:Nat}{m:Str->Option Value}(I:Inv X pins σ H1 s2)(S:CompNamesT X scope ts fs is)
  (clsub:∀ x c,cl.lookup x=some c->X.env.cells.lookup x=some c) (clhas:∀ y∈scope.names,y.2=.free->∃ c,cl.lookup y.1=some c) (f2:∀ b∈fp,eY X pins H1 b) (fin:∀ b∈fp,b<s2.heap.objs.size) (hL:s2.heap.objs.size<=L)
  (old:∀ b o,s2.heap.get? b=some o->h1.get? b=some o) (hn:h1.Ns L m):Inv (aT X (ts++fs) scope cl L s2 H1 fp) [] (List.replicate ts.length none++bp σ is) H1 { s2 with heap:=h1,toks:=t1 }:=by
 refine⟨oi I S clsub clhas f2 fin hL,rfl,I.bare,Un.kept old,⟨m,hn,λ i y v e1 e2 e3=>?_⟩,λ y c e=>?_,I.hok.fresh hL,λ y c e=>I.freeC y c (clsub y c e),λ p hp=>absurd (show p∈([]:List (Addr×Obj)) from hp) (by simp),I.hok.kept old,?_⟩
 ·by_cases hi:i<ts.length
  ·have e2':(List.replicate ts.length none++bp σ is)[i]?=some (some v):=e2
   rw[Bx (by simpa using hi),CT,if_pos hi] at e2';cases e2'
  ·have e1':fs[i-ts.length]?=some y:=by
    have e1'':(ts++fs)[i]?=some y:=e1
    rw[BJ (by omega)] at e1'';exact e1''
   have e2':(List.replicate ts.length none++bp σ is)[i]?=some (some v):=e2
   rw[BJ (by simp;omega),Cd] at e2';generalize i-ts.length=j at e1' e2';obtain⟨i,h1',h2'⟩:=lO e2';obtain⟨i',h3,h4⟩:=S.at' j y e1';rw[h1'] at h3;cases h3;have hfr:=S.fsf y (BB e1');have hk:=S.free (y,.free) (mem_lookup hfr) rfl;obtain⟨mm,hm,hl⟩:=I.loc;have vis:Vis X.env.scope y:=by
    rcases hk with k|k
    ·exact .inr (.inl k)
    ·exact .inr (.inr k)
   obtain⟨u,r,l⟩:=hl i y v h4 h2' vis;refine⟨u,r,?_⟩
   rcases l with ⟨k,_⟩|⟨_,c,hc,hcell⟩
   ·have k:X.env.kindOf y=some .local:=k
    rcases hk with k' | k' <;>rw[k] at k' <;>cases k'
   ·obtain⟨c',hc'⟩:=clhas (y,.free) (mem_lookup hfr) rfl
    have:=clsub y c' hc';rw[hc] at this;cases this;obtain⟨oc,hoc,hod⟩:=hcell;refine .inr ⟨?_,c,hc',oc,old c oc hoc,hod⟩;exact dq (env:=X.env) hfr
 ·obtain⟨v,oc,hoc,hod⟩:=I.cell y c (clsub y c e)
  exact⟨v,oc,old c oc hoc,hod⟩
 ·show (List.replicate ts.length none++bp σ is).length=(ts++fs).length
  rw[Bo,Bo,Cd];unfold bp;rw[A4,S.len]
section
variable {C:Ctx}{elt iter:Expr}{es:List Expr}{ts:List Str}{kt:Nat}{px pos:Pos}{ifs:List Expr}{scope:Scope}{fs:List Str}{is:List Nat}{fi:EI}{fe fc:EE}
structure CompAtT (C:Ctx)(ts:List Str)(fs:List Str)(is:List Nat)(scope:Scope)(cl:List (Str×Addr))(L Da:Addr)(s2:Shared)(H1 Hv1:Hp)(fp:List Addr)(tn:Nat->Heap->Prop)(σ:St)(ds:List D)(i:Nat)(os:St)(vs:List V)(xs:List D)(f1:Bool)(Hn Hvn:Hp)(s:Shared):Prop where
 le:i<=ds.length
 ol:os.length=ts.length
 inv:Inv (aT C.X (ts++fs) scope cl L s2 H1 fp) [] (os++bp σ is) Hn s
 at_:tn i s.heap
 fpn:∀ b∈fp,Hn b=none
 obj:∃ (its:List Value) (ne:Nat),s.heap.get? Da=some { cls:=.type "list",data:=.seq its.toArray ne }/\Vals vs its
 dn:Hn Da=none
 few:vs.length<=i
 ext:Ext Hv1 H1 Hvn Hn
 rp:RpL C.X.K Hvn xs vs
 fr:f1=true->RpL [] (Hnew H1 Hn) xs vs
theorem rR {cl:List (Str×Addr)}{L Da:Addr}{s2:Shared}{H1:Hp}{fp:List Addr}{σ:St}{pins:List (Addr×Obj)}{its:List Value}{ne:Nat}{vs:List V}{Hn:Hp}{s1:Shared}{os:St}{h':Heap}
  (I2:Inv C.X pins σ H1 s2) (f2:∀ b∈fp,eY C.X pins H1 b) (eD:Da=s2.heap.objs.size) (eL:L=s2.heap.objs.size+1)
  (I:Inv (aT C.X (ts++fs) scope cl L s2 H1 fp) [] (os++bp σ is) Hn s1) (obj:s1.heap.get? Da=some { cls:=.type "list",data:=.seq its.toArray ne }) (rv:Vals vs its) (dn:Hn Da=none) (few:vs.length<=sizeLine)
  (sb:∀ b,b≠L->h'.get? b=s1.heap.get? b):Inv C.X pins σ (upd Hn Da (.lst vs)) { s1 with heap:=h' }:=by
 have lt:∀ b o,s2.heap.get? b=some o->b≠Da/\b≠L:=λ b o e=>by
  have hlt:=Ew e;rw[eD,eL];exact⟨Bl hlt,Bl (BX hlt)⟩
 have hDL:Da≠L:=by rw[eD,eL];exact Bl (BF _)
 have kp:∀ b o,b≠L->s1.heap.get? b=some o->h'.get? b=some o:=λ b o hb e=>(sb b hb).trans e
 refine I2.call' (s':={ s1 with heap:=h' }) (ch:=fp) I.os ⟨λ b ob e n hb hx=>?_,λ b ob e n hb hx=>?_,λ b ob e n hx=>?_,λ b ob e hx=>?_,λ b us e=>?_,λ b ob u e=>?_,λ b ps e=>?_⟩ ?_ I.bare λ b hb=>⟨(f2 b hb).2.2.2.1,(f2 b hb).2.1,(f2 b hb).2.2.2.2.1,(f2 b hb).2.2.2.2.2⟩
 ·exact kp b ob (lt b ob e).2 (I.base.keep b ob e n hb hx)
 ·obtain⟨sl,h1⟩:=I.base.slot b ob e n hb hx
  exact⟨sl,kp b _ (lt b ob e).2 h1⟩
 ·rw[ag (lt b ob e).1];exact I.base.free b ob e n hx
 ·obtain⟨o',h1⟩:=I.base.there b ob e hx
  exact⟨o',kp b _ (lt b ob e).2 h1⟩
 ·have h1:=I.base.tups b us e
  rw[ag (au h1 dn)];exact h1
 ·have h1:=I.base.frzs b ob u e
  rw[ag (au h1 dn)];exact h1
 ·obtain⟨more,h1⟩:=I.base.tbls b ps e
  exact⟨more,by rw[ag (au h1 dn)];exact h1⟩
 ·exact gb (qj I.hok I.free kp) dn ⟨few,its,ne,rv,kp Da _ hDL obj⟩
theorem kH {m:Nat}{elt cond:EE}{free:Dv.Env}{d:D}{r:List D}{xs:List D}{f:Bool}(h:Dv.compGoT m elt cond free (d::r)=.ok xs f):
  ∃ es,d=.tup es/\es.length=m/\((∃ g x fx xs' f',cond (es.map some++free)=.ok (.bl true) g/\elt (es.map some++free)=.ok x fx/\Dv.compGoT m elt cond free r=.ok xs' f'/\xs=x::xs'/\f=(fx&&f')) \/
  (∃ g,cond (es.map some++free)=.ok (.bl false) g/\Dv.compGoT m elt cond free r=.ok xs f)):=by
 unfold Dv.compGoT at h;cases d with
 | tup es=>
  by_cases hm:es.length=m
  ·refine⟨es,rfl,hm,?_⟩
   simp only[hm,if_true] at h;cases hc:cond (es.map some++free) with
   | bad=>simp only[hc] at h;cases h
   | exc c=>simp only[hc] at h;cases h
   | ok b g=>
    cases b with
    | bl b=>
     cases b with
     | true=>
      simp only[hc] at h;cases he:elt (es.map some++free) with
      | bad=>simp only[he] at h;cases h
      | exc c=>simp only[he] at h;cases h
      | ok x fx=>
       simp only[he] at h;cases hr:Dv.compGoT m elt cond free r with
       | bad=>simp only[hr] at h;cases h
       | exc c=>simp only[hr] at h;cases h
       | ok xs' f'=>
        simp only[hr] at h;cases h;exact .inl ⟨g,x,fx,xs',f',rfl,rfl,rfl,rfl,rfl⟩
     | false=>simp only[hc] at h;exact .inr ⟨g,rfl,h⟩
    | _=>simp only[hc] at h;cases h
  ·simp only[hm,if_false] at h;cases h
 | _=>cases h
theorem nQ {pins:List (Addr×Obj)}{s:Shared}{σ:St}{H Hv:Hp}{ρ:Dv.Env}{Q:VK}{use:Option (Value->Sem Unit)}{Q':Value->Shared->Prop}{pos':Pos}(hclm:C.X.calm=true)(S:CompNamesT C.X scope ts fs is)(na:NamesAre es ts)(hn:∀ env,(assignEach es env).length=es.length)(hst:∀ env,(assignEach es env).findIdx? (·.1)=none)(hi:SI C (.Tuple es kt px) iter fi)(he:∀ cl L s₀ H₀ ex,SE (bz C (ts++fs) scope cl L s₀ H₀ ex) elt fe)(hc:∀ cl L s₀ H₀ ex,STs (bz C (ts++fs) scope cl L s₀ H₀ ex) ifs fc)
  (hs:∀ v,foldedSetIterable iter C.X.env v=pure v) (I:Inv C.X pins σ H s) (er:EnvR C.X.K Hv ρ σ) (sv:Same Hv H) (ok:Ok C.X.K Hv H (C.W σ) C.cls (Dv.eCompT ts.length fe fc is fi ρ) Q)
  (hfin:∀ Da L s5,g8 C pins σ Q Da L s5->compPost (model C.X.prog C.X.w) C.X.A C.X.xe use Q' (.ref Da) L (.ok .next) s5):
  wpAny (model C.X.prog C.X.w) C.X.A (comprehension (.ListComp elt [⟨.Tuple es kt px,iter,ifs,0⟩] scope pos) scope C.X.env pos' (newList []) false (eval iter C.X.env) use) Q' C.X.xe s:=by
 obtain⟨wi,pi,qi⟩:=hi;obtain⟨cl,hcl,clsub,clhas⟩:=ie (env:=C.X.env) (scope:=scope) λ y hy hf=>I.ok.has y.1 (S.free y hy hf)
 have h0:wi σ H (λ J H1=>∃ Hv1 ds xs fr,Ext Hv H Hv1 H1/\Wlk C.X.K J Hv1 ds/\ds.length<=Dv.mx/\Dv.compGoT ts.length fe fc (Dv.pick ρ is) ds=.ok xs fr/\Ok C.X.K Hv H (C.W σ) C.cls (.ok (.lst xs) fr) Q):=by
  refine qi σ H Hv ρ _ er sv ?_
  unfold Dv.eCompT at ok;cases hf:fi ρ with
  | bad=>simp only[hf] at ok;exact ok
  | exc c=>simp only[hf] at ok;exact ok
  | ok ds g=>
   simp only[hf] at ok;by_cases hz:ds.length<=Dv.mx
   ·simp only[hz,if_true] at ok
    cases hgo:Dv.compGoT ts.length fe fc (Dv.pick ρ is) ds with
    | bad=>simp only[hgo] at ok;exact(show False from ok).elim
    | exc c=>simp only[hgo] at ok;exact(show False from ok).elim
    | ok xs fr=>
     simp only[hgo] at ok;exact λ J Hv1 H1 x1 wl=>⟨Hv1,ds,xs,fr,x1,wl,hz,hgo,ok⟩
   ·simp only[hz,if_false] at ok
    exact(show False from ok).elim
 refine GE (use:=use) rfl hs hcl S.kind S.names (EB (pi pins s σ H _ I h0) (λ v s1 h1=>EB h1 (λ itv s2 h2=>?_) λ _ _ z=>z) λ _ _ z=>z);obtain⟨it,fp,tn,J,H1,rfl,I2,T,st2,f2,Hv1,ds,xs,fr,x1,wl,hz,hgo,okE⟩:=h2;clear ok;have fin:∀ b∈fp,b<s2.heap.objs.size:=λ b hb=>by
  obtain⟨o,e,_⟩:=T.obj 0 _ st2 b hb;exact Ew e
 refine Fg (G8 S.cell (by intro y hy;simp at hy) (λ h1 hns hsb=>?_) S.kind);dsimp only at hns hsb ⊢;generalize hH2:s2.heap.push { cls:=.type "list",dict:=none,data:=.seq ([]:List Value).toArray }=G2 at hns hsb ⊢;have hL:G2.objs.size=s2.heap.objs.size+1:=by rw[<- hH2,Fy]
 generalize eL:G2.objs.size=L at hns hsb ⊢;rw[eL] at hL;have old:∀ b o,s2.heap.get? b=some o->h1.get? b=some o:=λ b o e=>by
  have hlt:=Ew e;exact hsb.extBut b o (by rw[hL];exact Bl (BX hlt)) (Et _ (hH2▸Et _ e))
 have hacc:h1.get? s2.heap.objs.size=some { cls:=.type "list",data:=.seq ([]:List Value).toArray 0 }:=hsb.extBut _ _ (by rw[hL];exact Bl (BF _)) (Et _ (hH2▸Ey _ rfl));generalize eD:s2.heap.objs.size=Da at hacc hL ⊢;have hDfp:Da∉fp:=λ hb=>by
  have:=fin Da hb;rw[eD] at this;exact BS _ this
 have hDL:Da≠L:=by rw[hL];exact Bl (BF _)
 have hsL:s2.heap.objs.size<=L:=by rw[hL,eD];exact Ct _
 have hsD:s2.heap.objs.size<=Da:=Dq eD;obtain⟨te,pe,qe⟩:=he cl L s2 H1 fp;obtain⟨tt,pt,qt⟩:=hc cl L s2 H1 fp;have hDfs:Da∉frs C.X.stack:=λ hb=>by
  obtain⟨_,ob,hob,_⟩:=I2.stack.mem hb;have:=Ew hob;rw[eD] at this;exact BS _ this
 have hcalm:(aT C.X (ts++fs) scope cl L s2 H1 fp).calm=true:=hclm;have start:CompAtT C ts fs is scope cl L Da s2 H1 Hv1 fp tn σ ds 0 (List.replicate ts.length none) [] [] true H1 Hv1 { s2 with heap:=h1,toks:=s2.toks+([]:List (Str×Value)).length }:=
  ⟨BV _,by simp,se I2 S clsub clhas f2 fin hsL old hns,T.keep 0 _ _ st2 λ b hb o e=>old b o e,λ b hb=>(f2 b hb).1,⟨[],0,hacc,.nil⟩,I2.hok.fresh hsD,Bh _,.refl x1.vh,.nil,λ _=>.nil⟩
 have loop:∀ (T0:Result->Shared->Prop) (s4:Shared),(∀ s',g8 C pins σ Q Da L s'->T0 (.ok .next) s')->CompAtT C ts fs is scope cl L Da s2 H1 Hv1 fp tn σ ds 0 (List.replicate ts.length none) [] [] true H1 Hv1 s4 ->
   codeAny (model C.X.prog C.X.w) C.X.A (.compLoop (.ListComp elt [⟨.Tuple es kt px,iter,ifs,0⟩] scope pos) 0 (.ref it) (.ref Da) (compEnvC scope cl L C.X.env)) T0 s4:=by
  intro T0 s4 hT hst';refine iV (λ n s=>∃ i os vs xs1 f1 xs2 fr2 Hn Hvn,n=ds.length-i/\CompAtT C ts fs is scope cl L Da s2 H1 Hv1 fp tn σ ds i os vs xs1 f1 Hn Hvn s/\Dv.compGoT ts.length fe fc (Dv.pick ρ is) (ds.drop i)=.ok xs2 fr2/\xs=xs1++xs2/\fr=(f1&&fr2)) ?_ ds.length ⟨0,List.replicate ts.length none,[],[],true,xs,fr,H1,Hv1,rfl,hst',hgo,rfl,by simp⟩
  rintro n s ⟨i,os,vs,xs1,f1,xs2,fr2,Hn,Hvn,rfl,A,hg2,hxs,hfr⟩
  obtain⟨its,ne,hob,rv⟩:=A.obj;have I1:Inv (aT C.X (ts++fs) scope cl L s2 H1 fp) [(Da,{ cls:=.type "list",data:=.seq its.toArray ne })] (os++bp σ is) Hn s:=A.inv.pins_of λ p hp=>by
   have e:p=(Da,({ cls:=.type "list",data:=.seq its.toArray ne }:Obj)):=by simpa using hp
   subst e;exact⟨hob,A.dn,hDL,hDfs,λ v z=>by cases z⟩
  have hfp:∀ Hx:Hp,(∀ b∈fp,Hx b=none)->∀ b∈fp,eY (aT C.X (ts++fs) scope cl L s2 H1 fp) [(Da,{ cls:=.type "list",data:=.seq its.toArray ne })] Hx b:=λ Hx hx b hb=>by
   refine⟨hx b hb,?_,λ hf=>?_,.inl hb,λ y c e=>(f2 b hb).2.2.2.2.1 y c (clsub y c e),λ p hp=>?_⟩
   ·have:=fin b hb
    exact λ z=>by
     have z':b=L:=z;rw[z'] at this;exact absurd this (Nat.not_lt.mpr hsL)
   ·obtain⟨_,ob,hob',_⟩:=I2.stack.mem hf
    rcases List.mem_cons.mp (I2.stkSub b hf) with e|e
    ·exact(f2 b hb).2.1 e
    ·exact(f2 b hb).2.2.1 e
   ·have e:p=(Da,({ cls:=.type "list",data:=.seq its.toArray ne }:Obj)):=by simpa using (show p∈[]++[(Da,({ cls:=.type "list",data:=.seq its.toArray ne }:Obj))] from hp)
    subst e;exact λ z=>hDfp (by rw[show Da=b from z];exact hb)
  obtain⟨w1,w2⟩:=wl i Hn (A.ext.vv.trans A.ext.vh);by_cases hlt:i<ds.length
  ·have hd:ds[i]?=some ds[i]:=by simp[hlt]
   have e1:ds.drop i=ds[i]::ds.drop (i+1):=BM hlt;rw[e1] at hg2;generalize ds[i]=d at hd e1 hg2;obtain⟨go,yl⟩:=w1 d hd;refine EB (T.item (aT C.X (ts++fs) scope cl L s2 H1 fp) rfl rfl rfl hcalm i _ s _ Hn (λ _ _=>False) I1 (hfp Hn A.fpn) A.at_ go) (λ r s5 h5=>?_) λ _ _ z=>z
   obtain⟨u,rfl,h5⟩:=h5;refine EB h5 (λ _ s6 h6=>?_) λ _ _ z=>z
   obtain⟨xv,H6,I6,ru,y6,tn6,fr6⟩:=h6;obtain⟨Hv6,x6,rp6⟩:=yl xv H6 y6;obtain⟨Hvm,xm,sm⟩:=j3 A.ext x6;have I6p:=I6.pinned (fp:=fp) (hfp H6 fr6) (T.obj _ _ tn6);have dn6:H6 Da=none:=(I6.pin (Da,{ cls:=.type "list",data:=.seq its.toArray ne }) (Bp _ (by simp))).2.1;obtain⟨des,ed,hdl,hgo3⟩:=kH hg2;subst ed;have rp6':=rp6;unfold Rp at rp6';obtain⟨ta,ws,rfl,hta,hws⟩:=rp6';have hwl:ws.length=ts.length:=by rw[hws.length,hdl]
   have hesl:es.length=ts.length:=na.length;have hg:=nK (X:=aT C.X (ts++fs) scope cl L s2 H1 fp) (pos:=px) (k:=kt) hcalm (qU (X:=aT C.X (ts++fs) scope cl L s2 H1 fp) S.nd na 0 (λ j t ht=>⟨by
    show (ts++fs)[0+j]?=some t
    rw[CF,Bx (List.getElem?_eq_some_iff.mp ht).1];exact ht,Gb (S.tgt t (BB ht))⟩)) (hn _) (hst _)
   refine EB (hg _ s6 _ H6 (.ref ta) u (λ σ' H'=>σ'=ws.map some++bp σ is/\H'=H6) I6p ru ⟨ta,ws,rfl,.inl (Rd.same x6.vh hta),by rw[hwl,hesl],?_⟩) (λ _ s7 h7=>?_) λ _ _ z=>z
   ·rw[hesl]
    have:=uq ts.length 0 ws [] os (bp σ is) H6 (λ σ' H'=>σ'=ws.map some++bp σ is/\H'=H6) hwl A.ol rfl ⟨by simp,rfl⟩;simpa using this
   obtain⟨σ7,H7,I7,e7,e7'⟩:=h7;subst e7 e7';have er7:EnvR C.X.K Hvm (des.map some++Dv.pick ρ is) (ws.map some++bp σ is):=qq (er.same ((x1.vv.trans A.ext.vv).trans xm.vv)) ((hws.same sm));have back:∀ {s':Shared} {H':Hp} {σ':St},Inv (aT C.X (ts++fs) scope cl L s2 H1 fp) ([(Da,{ cls:=.type "list",data:=.seq its.toArray ne })]++fM fp s6.heap) σ' H' s'->tn (i+1) s'.heap/\(∀ b∈fp,H' b=none)/\s'.heap.get? Da=some { cls:=.type "list",data:=.seq its.toArray ne }/\H' Da=none:=λ {s' H' σ'} I'=>by
    refine⟨T.keep _ _ _ tn6 λ b hb o e=>(I'.pin (b,o) (Bp _ (Bp _ (b8 hb e)))).1,λ b hb=>?_,?_,?_⟩
    ·obtain⟨o,e,_⟩:=T.obj _ _ tn6 b hb
     exact(I'.pin (b,o) (Bp _ (Bp _ (b8 hb e)))).2.1
    ·exact(I'.pin (Da,{ cls:=.type "list",data:=.seq its.toArray ne }) (Bp _ (BK _ (by simp)))).1
    ·exact(I'.pin (Da,{ cls:=.type "list",data:=.seq its.toArray ne }) (Bp _ (BK _ (by simp)))).2.1
   rcases hgo3 with ⟨g,xd,fx,xs',f',hcond,helt,hrest,exs,ef⟩|⟨g,hcond,hrest⟩
   ·-- the item is taken
    refine EB (pt _ s7 _ H7 (λ b H'=>b=true/\∃ Hvq,Ext Hvm H7 Hvq H') I7 (qt _ H7 Hvm (des.map some++Dv.pick ρ is) _ er7 xm.vh ?_)) (λ okb s8 h8=>?_) λ _ _ z=>z
    ·rw[hcond]
     intro v Hv' H' xx rpb _;unfold Rp at rpb;exact⟨true,rpb,rfl,Hv',xx⟩
    obtain⟨H8,I8,rfl,Hv8,x8⟩:=h8;rw[if_pos rfl];refine EB (pe _ s8 _ H8 (λ v H'=>∃ Hv',Ext Hv8 H8 Hv' H'/\Rp C.X.K Hv' xd v/\(fx=true->Rp [] (Hnew H8 H') xd v)) I8 (qe _ H8 Hv8 (des.map some++Dv.pick ρ is) _ (er7.same x8.vv) x8.vh ?_)) (λ uv s9 h9=>?_) λ _ _ z=>z
    ·show Ok C.X.K Hv8 H8 _ C.cls (fe (des.map some++Dv.pick ρ is)) _
     rw[helt];exact λ v Hv' H' xx rpb nn=>⟨Hv',xx,rpb,nn⟩
    obtain⟨v9,H9,I9,r9,Hv9,x9,rp9,n9⟩:=h9;obtain⟨tn9,fpn9,ob9,dn9⟩:=back I9;have hlen:=rv.length;refine FM Gp ⟨_,ob9,rfl⟩ Ge (F9 _ _) (Gy Da its.toArray ne uv (by rw[Bd];have:=A.few;have:=cg hz;omega)) ⟨ob9,?_⟩;refine⟨ds.length-(i+1),by omega,i+1,ws.map some,vs++[v9],xs1++[xd],f1&&fx,xs',f',H9,Hv9,rfl,⟨hlt,by simp[hwl],?_,?_,fpn9,?_,dn9,?_,?_,?_,?_⟩,hrest,by rw[hxs,exs];simp,by rw[hfr,ef,Ec]⟩
    ·have I9':Inv (aT C.X (ts++fs) scope cl L s2 H1 fp) [] (ws.map some++bp σ is) H9 s9:=I9.pins_of λ p hp=>absurd hp (by simp)
     exact I9'.turned (it:=Da) (λ b ob hb e=>(Ez _ _ (Ne.symm hb)).trans e) dn9 hDL (.inr hsD) (λ y c e z=>by
      obtain⟨w',oc,hoc,_⟩:=I2.cell y c (clsub y c e);have:=Ew hoc;rw[z] at this;exact absurd this (Nat.not_lt.mpr hsD)) (λ p hp=>absurd (show p∈([]:List (Addr×Obj)) from hp) (by simp))
    ·exact T.keep _ _ _ tn9 λ b hb ob e=>(Ez _ _ (λ z=>hDfp (by rw[z];exact hb))).trans e
    ·have q:=GD ob9 (λ a=>a.push uv)
     exact⟨its++[uv],_,by simpa using q,rv.append (.cons r9 .nil)⟩
    ·rw[Bo,BQ];have:=A.few;omega
    ·exact A.ext.trans (xm.trans (x8.trans x9))
    ·exact(A.rp.same ((xm.vv.trans x8.vv).trans x9.vv)).append (.cons rp9 .nil)
    ·intro z
     rw[Bj] at z;refine((A.fr z.1).same (Hnew.mono (.refl _) ((xm.hh.trans x8.hh).trans x9.hh))).append (.cons ((n9 z.2).same (Hnew.mono ((A.ext.hh.trans xm.hh).trans x8.hh) (.refl _))) .nil)
   ·-- the item is left out
    refine EB (pt _ s7 _ H7 (λ b H'=>b=false/\∃ Hvq,Ext Hvm H7 Hvq H') I7 (qt _ H7 Hvm (des.map some++Dv.pick ρ is) _ er7 xm.vh ?_)) (λ okb s8 h8=>?_) λ _ _ z=>z
    ·rw[hcond]
     intro v Hv' H' xx rpb _;unfold Rp at rpb;exact⟨false,rpb,rfl,Hv',xx⟩
    obtain⟨H8,I8,rfl,Hv8,x8⟩:=h8;rw[if_neg Br];obtain⟨tn8,fpn8,ob8,dn8⟩:=back I8;refine⟨ds.length-(i+1),by omega,i+1,ws.map some,vs,xs1,f1,xs2,fr2,H8,Hv8,rfl,⟨hlt,by simp[hwl],I8.pins_of λ p hp=>absurd hp (by simp),tn8,fpn8,⟨its,ne,ob8,rv⟩,dn8,Cu A.few,A.ext.trans (xm.trans x8),A.rp.same (xm.vv.trans x8.vv),λ z=>(A.fr z).same (Hnew.mono (.refl _) (xm.hh.trans x8.hh))⟩,hrest,hxs,hfr⟩
  ·have ei:i=ds.length:=D8 A.le (by omega)
   refine EB (T.done (aT C.X (ts++fs) scope cl L s2 H1 fp) rfl rfl rfl hcalm i _ s _ Hn (λ _ _=>False) I1 (hfp Hn A.fpn) A.at_ (w2 ei)) (λ r s5 h5=>?_) λ _ _ z=>z
   obtain⟨rfl,I5⟩:=h5;refine hT s5 ?_
   obtain⟨m5,hn5,_⟩:=I5.loc;rw[ei,C2] at hg2;cases hg2;rw[B6] at hxs;rw[Bm] at hfr;subst hxs hfr;have ob5:=(I5.pin (Da,{ cls:=.type "list",data:=.seq its.toArray ne }) (Bp _ (by simp))).1;refine⟨⟨m5,hn5⟩,λ z=>absurd I2.lt (by rw[<- z];exact Nat.not_lt.mpr hsL),λ y c e z=>?_,BN I2.sz hsL,λ p hp z=>?_,upd Hn Da (.lst vs),?_,?_,λ h' sb=>?_⟩
   ·obtain⟨w',oc,hoc,_⟩:=I2.cell y c e
    exact absurd (Ew hoc) (by rw[z];exact Nat.not_lt.mpr hsL)
   ·exact absurd (Ew (I2.pin p hp).1) (by rw[z];exact Nat.not_lt.mpr hsL)
   ·rw[ag (Ne.symm hDL)];exact A.inv.free
   ·exact Ok.newL okE (x1.trans A.ext) A.rp (λ z=>(A.fr z).same (Hnew.mono x1.hh (.refl _))) Da A.dn
   ·exact rR I2 f2 eD.symm (by rw[hL,eD]) (I5.pins_of λ p hp=>absurd hp (by simp)) ob5 rv A.dn (by have:=A.few;have:=A.le;have:=cg hz;omega) sb
 refine GS (loop _ _ (λ s' h=>hfin Da L s' h) start) ?_
 exact T.self _ 0 _ _ _ start.at_ (loop _ _ (λ s' h=>hfin Da L s' h) start)
theorem uw (S:CompNamesT C.X scope ts fs is)(na:NamesAre es ts)(hn:∀ env,(assignEach es env).length=es.length)(hst:∀ env,(assignEach es env).findIdx? (·.1)=none)(hi:SI C (.Tuple es kt px) iter fi)(he:∀ cl L s₀ H₀ ex,SE (bz C (ts++fs) scope cl L s₀ H₀ ex) elt fe)(hc:∀ cl L s₀ H₀ ex,STs (bz C (ts++fs) scope cl L s₀ H₀ ex) ifs fc)
  (hs:autoParam (∀ v,foldedSetIterable iter C.X.env v=pure v) ZE._auto_1) (hclm:autoParam (C.X.calm=true) ZF._auto_1):SE C (.ListComp elt [⟨.Tuple es kt px,iter,ifs,0⟩] scope pos) (Dv.eCompT ts.length fe fc is fi):=by
 refine⟨λ σ H Q=>∃ Hv ρ,EnvR C.X.K Hv ρ σ/\Same Hv H/\Ok C.X.K Hv H (C.W σ) C.cls (Dv.eCompT ts.length fe fc is fi ρ) Q,?_,λ σ H Hv ρ Q e s q=>⟨Hv,ρ,e,s,q⟩⟩;intro pins s σ H Q I ⟨Hv,ρ,er,sv,ok⟩;rw[eval_ListComp];refine nQ (use:=none) hclm S na hn hst hi he hc hs I er sv ok λ Da L s5 h=>?_
 obtain⟨⟨m,hn⟩,_,_,_,_,H',hL,q,iv⟩:=h;exact⟨m,hn,λ h' sb=>⟨.ref Da,H',iv h' λ b hb=>sb.2 b hb,rfl,q⟩⟩
end
def oj (fsc:Scope)(N:List Str)(scope:Scope)(ts:List Str)(fs:List Str)(is:List Nat):Bool:=
 scope.kind == .function&&scope.names.all (λ y=>!(y.2 == .cell))&&scope.names.all (λ y=>!(y.2 == .local) || scope.names.lookup y.1 == some .local)&&ts.all (λ x=>scope.names.lookup x == some .local)&&decide (ts++fs).Nodup &&
 scope.names.all (λ y=>!(y.2 == .free) || (fsc.names.lookup y.1 == some .cell || fsc.names.lookup y.1 == some .free))&&fs.all (λ y=>scope.names.lookup y == some .free)&&is.length == fs.length&&(fs.zip is).all (λ p=>N[p.2]? == some p.1)
theorem mI {X:Cx}{fsc:Scope}{N:List Str}{scope:Scope}{ts:List Str}{fs:List Str}{is:List Nat}(h1:X.env.scope=fsc)(h2:X.N=N)(h:oj fsc N scope ts fs is=true):CompNamesT X scope ts fs is:=by
 subst h1 h2;unfold oj at h;simp only[Bj] at h;obtain⟨⟨⟨⟨⟨⟨⟨⟨a1,a2⟩,a3⟩,a4⟩,a5⟩,a6⟩,a7⟩,a8⟩,a9⟩:=h;refine⟨by simpa using a1,λ y hy=>?_,λ y hy hl=>?_,λ t ht=>(by simpa using List.all_eq_true.mp a4 t ht),by simpa using a5,λ y hy hf=>?_,λ y hy=>?_,by simpa using a8,λ j y hj=>?_⟩
 ·have:=List.all_eq_true.mp a2 y hy
  simpa using this
 ·have:=List.all_eq_true.mp a3 y hy
  simpa[hl] using this
 ·have:=List.all_eq_true.mp a6 y hy
  show X.env.scope.names.lookup y.1=some .cell\/X.env.scope.names.lookup y.1=some .free
  simpa[hf] using this
 ·have:=List.all_eq_true.mp a7 y hy
  simpa using this
 ·have hl:is.length=fs.length:=by simpa using a8
  have hjl:j<fs.length:=(List.getElem?_eq_some_iff.mp hj).1;refine⟨is[j]'(by omega),by simp,?_⟩;have hm:(y,is[j]'(by omega))∈fs.zip is:=by
   have e1:fs[j]=y:=(List.getElem?_eq_some_iff.mp hj).2;have:(fs.zip is)[j]'(by rw[C5];omega)=(y,is[j]'(by omega)):=by rw[D1,e1]
   rw[<- this];exact BO _
  have:=List.all_eq_true.mp a9 _ hm;simpa using this
section
variable {C:Ctx}{a b c e k:Expr}{f g h:EE}{F G:SS}{pos pos':Pos}{E:Ends}
theorem yD {l:List Int}{i:Nat}(h:i<l.length):l.getD i 0∈l:=by
 rw[A7,Ba h];exact BO h
theorem ya {l:List Int}{a:Int}(h:a∈l):∃ j,j<l.length/\l.getD j 0=a:=by
 obtain⟨j,hj,rfl⟩:=BC h;exact⟨j,hj,by rw[A7,Ba hj];rfl⟩
theorem rm {X:Cx}(hc:X.calm=true):cU X (.builtin "min") (λ xs H Q=>∃ p,∃ ns:List Int,xs=[.ref p]/\SqX X.K H p (ns.map V.int)/\0<ns.length/\∀ M,M∈ns->(∀ a∈ns,M<=a)->Q (.int M) H):=by
 intro pins s σ H xs us Q I r h;obtain⟨p,ns,rfl,hq,hne,q⟩:=h;obtain⟨u,rfl,rx⟩:=vals1 r;cases rx;obtain⟨its,n,rv,e,z⟩:=Inv.listX I hq;have hi:=intsAre_of rv;obtain⟨xs,ex⟩:=hi.allInts.items;have hns:ns=xs.toList.map (·.1):=by rw[<- hi.numsOf,<- nums_intItems,<- ex]
 have hsz:0<xs.size:=by
  have h3:=hne;rw[hns,A4,EF] at h3;exact h3
 have hl':s.heap.IsList p (intItems xs):=ex▸⟨_,e,rfl,n,rfl⟩;refine min_intList (I.ok.hd hc) hl' hsz λ v h' tk hv hk=>?_
 obtain⟨t,rfl⟩:=intItems_at hv;obtain⟨h1,h2⟩:=argBest_lt (numAt xs) (xs.size-1);refine⟨.int _,H,I.kept hk,⟨t,rfl⟩,q _ ?_ λ a ha=>?_⟩
 ·rw[hns,numAt_eq]
  refine yD ?_
  rw[A4,EF];omega
 ·rw[hns] at ha
  obtain⟨j,hj,rfl⟩:=ya ha;rw[A4,EF] at hj;rw[<- numAt_eq];exact h2 j (by omega)
theorem kO:∀ (r:List Int) (a:Int),Dv.minI a r∈a::r/\∀ b∈a::r,Dv.minI a r<=b
 | [],a=>⟨A6 ..,λ b hb=>by simp at hb;subst hb;exact Cy _⟩
 | x::r,a=>by
  unfold Dv.minI;by_cases hx:x<a
  ·rw[if_pos hx]
   obtain⟨h1,h2⟩:=kO r x;refine⟨A5 _ h1,λ b hb=>?_⟩;have h0:=h2 _ (A6 ..)
   rcases List.mem_cons.mp hb with rfl|hb
   ·omega
   ·exact h2 b hb
  ·rw[if_neg hx]
   obtain⟨h1,h2⟩:=kO r a;refine⟨?_,λ b hb=>?_⟩
   ·rcases List.mem_cons.mp h1 with h|h
    ·rw[h];exact A6 ..
    ·exact A5 _ (A5 _ h)
   ·have h0:=h2 _ (A6 ..)
    rcases List.mem_cons.mp hb with rfl|hb
    ·exact h0
    ·rcases List.mem_cons.mp hb with rfl|hb
     ·omega
     ·exact h2 b (A5 _ hb)
theorem wC (hc:C.X.calm=true):C1S C (.builtin "min") Dv.minLD:=by
 refine⟨_,rm hc,λ x d fr H Hv H1 Hv1 W Q e rx n q=>?_⟩;cases d with
 | lst ds=>
  simp only[Dv.minLD] at q;cases hi:Dv.intsOf ds with
  | none=>rw[hi] at q;exact(show False from q).elim
  | some ns=>
   rw[hi] at q;cases ns with
   | nil=>exact(show False from q).elim
   | cons m ns=>
    unfold Rp at rx;obtain⟨l,vs,rfl,h1,h2⟩:=rx;have e1:=RpL.ints hi h2;subst e1;refine⟨l,m::ns,rfl,h1.same e.vh,by simp,λ M hM hle=>?_⟩;obtain⟨k1,k2⟩:=kO ns m;have:M=Dv.minI m ns:=D7 (hle _ k1) (k2 _ hM);rw[this];exact Ok.at (d:=.int (Dv.minI m ns)) (fr:=true) q e cn rfl
 | _=>exact(show False from q).elim
theorem xi {p:Pos}(hm:C.X.mg "min"=none)(hg:Gl C.X "min")(ha:SE C a f)(he:autoParam (starEach [a] C.X.env=[(false,eval a C.X.env)]) ZF._auto_1)(hcl:autoParam (C.X.calm=true) ZF._auto_1):SE C (.Call (.Name "min" p) [a] [] pos) (Dv.eB1 Dv.minLD f):=
 lh (wC hcl) hg hm (by decide +kernel) ha (by decide) (by decide) he
end
end Sd
namespace Dv
def dninD:D->D->R
 | .int j,.dct ks ds=>.ok (.bl (!(look ks ds j).isSome)) true
 | _,_=>.bad
def eDnin (k a:EE):EE:=λ ρ=>(k ρ).bind λ x _=>(a ρ).bind λ y _=>dninD x y
end Dv
namespace Sd
open PySem PySem.Spec PyProof.Rows L2
open Dv (D R RL EE EL EI RI Sl Out SS)
section
variable {C:Ctx}{a b c e k:Expr}{f g h:EE}{F G:SS}{pos pos':Pos}{E:Ends}
theorem q5:OpR C.X (compareOp .NotIn) (λ x y H Q=>∃ a o,y=.ref a/\xf H a x o/\Q (.bl (!o.isSome)) H):=by
 intro pins s σ H x y v u Q I rx ry h;obtain⟨a,o,rfl,g,q⟩:=h;obtain rfl:u=EA a:=ry;exact vn (tq C) I g rx λ s3 I3=>⟨.bl (!o.isSome),H,I3,rfl,q⟩
theorem r8:OpS C (compareOp .NotIn) Dv.dninD:=by
 refine⟨_,q5,λ x y d d' H Hv H1 Hv1 W Q e rx ry q=>?_⟩;cases d with
 | int j=>
  cases d' with
  | dct ks ds=>
   unfold Rp at rx;have ry':=ry;unfold Rp at ry';obtain⟨a,vs,rfl,hl,h1,h2⟩:=ry';cases hk:Dv.look ks ds j with
   | none=>
    have q:Ok C.X.K Hv H W C.cls (.ok (.bl true) true) Q:=by have:=q;simp only[Dv.dninD,hk] at this;exact this
    refine⟨a,none,rfl,.inl ⟨_,Sum.inl j,Rd.same e.vh h1,rx,(fU hl h2 hk).symm⟩,?_⟩;exact q.at (v:=.bl (!(none:Option V).isSome)) e cT rfl
   | some d0=>
    have q:Ok C.X.K Hv H W C.cls (.ok (.bl false) true) Q:=by have:=q;simp only[Dv.dninD,hk] at this;exact this
    obtain⟨v0,e1,e2⟩:=cb h2 hk;refine⟨a,some v0,rfl,.inl ⟨_,Sum.inl j,Rd.same e.vh h1,rx,e1.symm⟩,?_⟩;exact q.at (v:=.bl (!(some v0).isSome)) e cT rfl
  | _=>exact(show False from q).elim
 | _=>exact(show False from q).elim
theorem rY (ha:SE C a f)(hb:SE C b g)(hm:autoParam (behindInMarks .NotIn b=false) ZJ._auto_1):SC C (.Compare a [.NotIn] [b] pos) (Dv.eDnin f g):=cV r8 ha hb hm
end
end Sd
namespace Dv
def iRev (a:EE):EI:=λ ρ=>match a ρ with
 | .ok (.lst xs) _=>.ok xs.reverse true
 | .exc c=>.exc c
 | _=>.bad
def inG (neg:Bool):D->D->R
 | a,.lst ds=>if decide (depthL ds<=8)&&decide (depthD a<=8)&&decide (ds.length<=mx) then match eqsD ds a with
   | some bs=>.ok (.bl (if neg then !(bs.any id) else bs.any id)) true
   | none=>.bad
  else .bad
 | _,_=>.bad
def sUnpackL (is:List Nat)(xs:List Nat)(e:EE):SS:=λ st=>match e (open_ (give is st)) with
 | .ok (.lst ds) _=>if ds.length=xs.length then .nx (setAll xs ds (give is st)) else .bad
 | .exc c=>.exc c st
 | _=>.bad
end Dv
namespace Sd
open PySem PySem.Spec PyProof.Rows L2
open Dv (D R RL EE EL EI RI Sl Out SS)
section
variable {C:Ctx}{a b c e:Expr}{f g h:EE}{F:SS}{pos pos':Pos}
theorem p9:∀ {ds:List D} {d:D} {bs:List Bool},Dv.eqsD ds d=some bs->(pdL ds).any (λ y=>FN y (pd d))=bs.any id
 | [],d,bs,h=>by simp[Dv.eqsD] at h;subst h;simp[pdL]
 | x::r,d,bs,h=>by
  unfold Dv.eqsD at h;cases h1:Dv.eqD x d with
  | none=>rw[h1] at h;cases h
  | some p=>
   cases h2:Dv.eqsD r d with
   | none=>rw[h1,h2] at h;cases h
   | some q=>
    rw[h1,h2] at h;cases h;simp only[pdL,Co,kA x d p h1,p9 h2,id]
def Ag (K:Er)(neg:Bool):R2:=λ x y H Q=>∃ d ds bs,Rp K H d x/\Rp K H (.lst ds) y/\Dv.depthD d<=8/\Dv.depthL ds<=8/\Dv.eqsD ds d=some bs/\Q (.bl (if neg then !(bs.any id) else bs.any id)) H
theorem qv (hu:C.X.A.units+64<cLine):OpR C.X (compareOp .NotIn) (Ag C.X.K true):=by
 intro pins s σ H x y v u Q I rx ry h;obtain⟨d,ds,bs,h1,h2,z1,z2,e,q⟩:=h;obtain⟨as,ra⟩:=cN I d x v h1 rx (by omega);obtain⟨bs',rb⟩:=cN I (.lst ds) y u h2 ry (by unfold Dv.depthD;omega);unfold pd at rb;refine SeqAt.notIn_list_reads rb ra (gS ds) (gv d) ?_ ⟨.bl _,H,I,?_,q⟩
 ·have:=eA ds
  have:=Dy (Ga (pdL ds)) (pd d).depth;omega
 ·rw[p9 e];rfl
theorem um {neg:Bool}{x y:V}{d d':D}{H Hv H1 Hv1:Hp}{W:XK}{Q:VK}(e:Ext Hv H Hv1 H1)(rx:Rp C.X.K Hv1 d x)(ry:Rp C.X.K Hv1 d' y)(q:Ok C.X.K Hv H W C.cls (Dv.inG neg d d') Q):Ag C.X.K neg x y H1 Q:=by
 cases d' with
 | lst ds=>
  simp only[Dv.inG] at q;by_cases hz:(decide (Dv.depthL ds<=8)&&decide (Dv.depthD d<=8)&&decide (ds.length<=Dv.mx))=true
  ·simp only[hz,if_true] at q
   simp only[Bj,decide_eq_true_eq] at hz;cases he:Dv.eqsD ds d with
   | none=>rw[he] at q;exact(show False from q).elim
   | some bs=>
    rw[he] at q;exact⟨d,ds,bs,rx.same e.vh,ry.same e.vh,hz.1.2,hz.1.1,he,Ok.at (d:=.bl _) (fr:=true) q e cT rfl⟩
  ·simp only[hz] at q
   exact(show False from q).elim
 | _=>exact(show False from q).elim
theorem rB:OpS C (compareOp .NotIn) (Dv.inG true):=⟨_,qv C.un,λ x y d d' H Hv H1 Hv1 W Q e rx ry q=>um e rx ry q⟩
theorem qF (ha:SE C a f)(hb:SE C b g)(hm:autoParam (behindInMarks .NotIn b=false) ZJ._auto_1):SC C (.Compare a [.NotIn] [b] pos) (Dv.eB2 (Dv.inG true) f g):=cV rB ha hb hm
end
section
variable {prog:Program}{w:World}{A:Around}{E:Value->Shared->Prop}
theorem jT {it t:Addr}{items:Array Value}(hne:t≠it):∀ (n i:Nat) (s:Shared) (Q:List Value->Shared->Prop),s.heap.IsListIter it t i->s.heap.IsList t items->i+n<=items.size ->
  (∀ h',h'.IsListIter it t (i+n)->FH it s.heap h'->Q ((items.toList.drop i).take n) { s with heap:=h' })->wpAny (model prog w) A (draw (.ref it) n) Q E s
 | 0,i,s,Q,hit,_,_,hQ=>by
  show wpAny _ _ (pure []) Q E s
  exact Eu (by simpa using hQ s.heap hit (Heap.SameBut.refl ..))
 | n+1,i,s,Q,hit,ht,hle,hQ=>by
  have hlt:i<items.size:=by omega
  show wpAny _ _ (pyNext (.ref it) >>= _) Q E s
  refine Es (F0 hit ht (x:=items[i]) (by simp[hlt]) λ h₁ hit₁ hs₁=>?_);refine Es (EM (jT hne n (i+1) _ _ hit₁ (ht.at λ o e=>(hs₁.2 t hne).trans e) (by omega) λ h₂ hit₂ hs₂=>Eu ?_));have hd:items.toList.drop i=items[i]::items.toList.drop (i+1):=by simp[BM,hlt]
  have:=hQ h₂ (by rw[show i+(n+1)=i+1+n by omega];exact hit₂) (hs₁.trans hs₂);rw[hd,List.take_succ_cons] at this;exact this
theorem gh {s:Shared}{t:Addr}{items:Array Value}{Q:List Value->Shared->Prop}(hh:A.handled=none)(ht:s.heap.IsList t items)
  (hQ:∀ h',Heap.ExtBut s.heap.objs.size s.heap h'->Q items.toList { s with heap:=h' }):wpAny (model prog w) A (unpackItems (.ref t) items.size none) Q E s:=by
 have hlt:t≠s.heap.objs.size:=by obtain⟨o,ho,_⟩:=ht;exact Bl (Ew ho)
 unfold unpackItems;refine Es ?_
 ·unfold notIterableAtAll
  refine Es (GO ht.typeIs slot_list_iter.lookup ?_);refine Eu ?_
  simp only[Be,if_false];refine Es (EM (FY ht ?_));refine Es (EM (jT hlt items.size 0 _ _ ⟨_,Ey _ rfl,rfl,rfl⟩ (ht.at λ o e=>Et _ e) (by omega) λ h₁ hit₁ hs₁=>?_));have hall:List.take items.size (List.drop 0 items.toList)=items.toList:=by
   rw[DJ];exact Cq (by simp)
  rw[hall];rw[if_neg (by simp)];have ht₁:h₁.IsList t items:=ht.at λ o e=>(hs₁.2 t hlt).trans (Et _ e)
  refine Es (EM (F3 hh hit₁ ht₁ (by simp) λ h₂ he₂=>?_));simp only[Option.isSome_none,Be,if_false];refine Eu (hQ h₂ λ b o hb e=>he₂ b o hb (hs₁.extBut b o hb (Et _ e)))
theorem fo {s:Shared}{env:EO}{elts:List Expr}{x1}{pos:Pos}{t:Addr}{items:Array Value}{Q:Unit->Shared->Prop}(hh:A.handled=none)(ht:s.heap.IsList t items)
  (hn:(assignEach elts env).length=items.size) (hstar:(assignEach elts env).findIdx? (·.1)=none)
  (h:∀ h',Heap.ExtBut s.heap.objs.size s.heap h'->wpAny (model prog w) A (assignInOrder ((assignEach elts env).map (·.2)) items.toList) Q E { s with heap:=h' }):
  wpAny (model prog w) A (assign (.Tuple elts x1 pos) env (.ref t)) Q E s:=by
 rw[assign_Tuple];refine Es (F1 ?_);unfold unpack;rw[hn,hstar];exact Es (EM (gh hh ht h))
end
def AJ (K:Er)(n:Nat)(t:TGs):TG:=λ v σ H Q=>∃ a xs,v=.ref a/\SqL K H a xs/\xs.length=n/\t xs σ H Q
theorem yv {X:Cx}{es:List Expr}{k:Nat}{t:TGs}{n:Nat}{pos:Pos}(hc:X.calm=true)(h:PGs X es t)
  (hn:autoParam ((assignEach es X.env).length=n) ZF._auto_1) (hst:autoParam ((assignEach es X.env).findIdx? (·.1)=none) ZF._auto_1):PG X (.Tuple es k pos) (AJ X.K n t):=by
 intro pins s σ H v u Q I r hw;obtain⟨a,xs,e1,hq,hl,hw⟩:=hw;subst e1;cases r;obtain⟨its,rv,ht,hz⟩:=I.list hq;refine fo (I.ok.hd hc) ht.isList (by simp[hn,<- hl,rv.length]) hst λ h' hx=>?_
 have I1:Inv X pins σ H { s with heap:=h' }:=I.kept (t':=s.toks) λ b o e=>hx b o (Bl (Ew e)) e
 exact h pins _ σ H xs _ Q I1 (by simpa using rv) hw
section
variable {C:Ctx}{e:Expr}{f:EE}{pos:Pos}
theorem nL (is:List Nat){ts:List Expr}{xs:List Nat}{kt:Nat}{tpos:Pos}(he:SE C e f)(hg:SGs C ts xs)(hl:ts.length=xs.length)(hn:autoParam ((assignEach ts C.X.env).length=ts.length) ZF._auto_1)(hst:autoParam ((assignEach ts C.X.env).findIdx? (·.1)=none) ZF._auto_1)
  (hs:autoParam (swapsWithSole [.Tuple ts kt tpos] e pos.line C.X.env=pure false) ZF._auto_1) (hw:autoParam (swappedStores [.Tuple ts kt tpos] e C.X.env=pure none) ZF._auto_1) (h1:autoParam ((assignEach [.Tuple ts kt tpos] C.X.env).map (·.2)=[assign (.Tuple ts kt tpos) C.X.env]) ZF._auto_1) (hcl:autoParam (C.X.calm=true) ZF._auto_1):
  SSt C (.Assign [.Tuple ts kt tpos] e pos) (Dv.sUnpackL is xs f):=by
 obtain⟨t,p,q⟩:=he;obtain⟨g,pg,qg⟩:=hg;refine⟨_,kL p (yv hcl pg hn hst) hs hw h1,λ Hv₀ H₀ E σ H st ⟨Hc0,O0,r0⟩ w=>?_⟩;obtain⟨Hc,O,_,r⟩:=r0.give is;unfold Dv.sUnpackL at w;refine q.open r (λ c hf Hc' H' x=>?_) (λ hf=>?_) λ d fr v Hc' H' hf x r' rp=>?_
 ·simp only[hf] at w;exact w σ H' ⟨Hc0,O0,r0.grow x.hh x.nf⟩
 ·simp only[hf] at w;exact w
 ·simp only[hf] at w
  cases d with
  | lst ds=>
   by_cases hz:ds.length=xs.length
   ·simp only[hz,if_true] at w
    unfold Rp at rp;obtain⟨a,vs,rfl,h2,h3⟩:=rp;exact⟨a,vs,rfl,(h2.same x.vh).seq,by rw[h3.length,hz,hl],qg Hv₀ H₀ Hc' O H' σ _ ds vs _ r' h3 hz λ σ' r2=>w σ' H' ⟨Hc',O,r2⟩⟩
   ·simp only[hz,if_false] at w;exact(show False from w).elim
  | _=>exact(show False from w).elim
end
section
variable {C:Ctx}{a b c e:Expr}{f g h:EE}{F G:SS}{pos pos':Pos}
def p7 (C:Ctx)(t:TS)(i j:Nat):Prop:=∀ (Hv₀ H₀:Hp) (E:Ends) (σ:St) (H:Hp) (st:Dv.St) (Hc:Hp) (O:Nat->Hp) (n m:Nat) (tt:Addr) (vs:List V),RelC C.X.K Hv₀ H₀ Hc O st σ H->st[i]?=some (.jk n m)->σ[i]?=some (some (.ref tt))->H tt=some (.lst vs) ->
 m<2000->n<=2000->i≠j->j<st.length->(∀ σ' H',Rel C.X.K Hv₀ H₀ ((st.set j .no).set i (.jk n (m+n))) σ' H'->σ'[i]?=some (some (.ref tt))->H' tt=some (.lst vs)->E.nx σ' H')->t E σ H
theorem oa {i j:Nat}{x y:Str}{n0:Int}{kj:Nat}{apos cpos epos px py kpos:Pos}(hN:C.X.N.Nodup)(hi:C.X.N[i]?=some y)(hj:C.X.N[j]?=some x)(hx:Loc C.X.env.scope x)
  (hvy:autoParam (Vis C.X.env.scope y) ZG._auto_1) (hvx:autoParam (Vis C.X.env.scope x) ZG._auto_1)
  (hf:autoParam (C.X.fn x=true\/C.X.env.scope.names.lookup x=some .local) ZB._auto_1)
  (hd:autoParam ((x == ("__debug__":Str))=false) ZC._auto_1) (hcd:autoParam ((x == ("__classdict__":Str))=false) ZC._auto_1) (hd2:autoParam ((y == ("__debug__":Str))=false) ZC._auto_1) (hcd2:autoParam ((y == ("__classdict__":Str))=false) ZC._auto_1)
  (hst:autoParam (starEach [FR (.int n0) kj kpos] C.X.env=[(false,eval (FR (.int n0) kj kpos) C.X.env)]) ZF._auto_1)
  (hbase:autoParam (attributeBase (.Name x px) "append" C.X.env (eval (.Name x px) C.X.env)=eval (.Name x px) C.X.env) ZF._auto_1)
  (hfew:autoParam (((backTo cpos (starEach [FR (.int n0) kj kpos] C.X.env)).all (λ x=>!x.1)&&(backToKw cpos (keywordEach [] C.X.env)).all (λ x=>x.1.isSome)
   && decide ([FR (.int n0) kj kpos].length+([]:List Keyword).length+(if ([]:List Keyword).isEmpty then 0 else 1)<30))=true) ZF._auto_1)
  (hline:autoParam ((apos.endLine == cpos.line)=true) ZF._auto_1)
  (hs:autoParam (swapsWith (.Call (.Attribute (.Name x px) "append" apos) [FR (.int n0) kj kpos] [] cpos) none epos.line C.X.env=pure false) ZF._auto_1)
  (hfs:autoParam (∀ v,foldedSetIterable (.Name y py) C.X.env v=pure v) ZE._auto_1) (hcalm:autoParam (C.X.calm=true) ZF._auto_1):
  ∃ t:TS,PS C.X (.For (.Name x pos') (.Name y py) [.Expr (.Call (.Attribute (.Name x px) "append" apos) [FR (.int n0) kj kpos] [] cpos) epos] [] pos) t/\p7 C t i j:=by
 refine⟨_,nJ C.own hcalm (kJ (c8 hi hvy hd2 hcd2)) (ej hN hj hx hf) (br (bM (eN EH ER ES bH (c8 hj hvx hd hcd) (ar dM az hst) hbase hfew hline hst rfl) hs)) hfs,λ Hv₀ H₀ E σ H st Hc O n m tt vs r hst2 h1 hH hm2 hn2 hij hjl w=>?_⟩;have hji:j≠i:=Ne.symm hij;have lin:i<st.length:=(List.getElem?_eq_some_iff.mp hst2).1;have hjσ:j<σ.length:=by rw[<- r.len];exact hjl
 have r0:RelC C.X.K Hv₀ H₀ Hc O ((st.set j .no).set i (.jk n (m+0))) σ H:=by
  have q:=r.setNo (i:=j) (v:=σ[j]);rw[gr (show σ[j]?=some σ[j] by simp[hjσ])] at q;rw[Nat.add_zero,gr (show (st.set j .no)[i]?=some (.jk n m) by rw[BU hji];exact hst2)];exact q
 refine⟨_,h1,tt,rfl,⟨vs,SqL.of hH⟩,?_⟩;refine⟨λ k mm σ' H'=>mm=n-k/\k<=n/\σ'[i]?=some (some (.ref tt))/\H' tt=some (.lst vs)/\∃ Hc' O',RelC C.X.K Hv₀ H₀ Hc' O' ((st.set j .no).set i (.jk n (m+k))) σ' H',⟨_,rfl,BV _,h1,hH,Hc,O,r0⟩,?_⟩
 rintro k mm σ' H' ⟨rfl,hk,g1,g2,Hc',O',r'⟩
 have hself:((st.set j .no).set i (.jk n (m+k)))[i]?=some (.jk n (m+k)):=BA (by rw[BD];exact lin)
 obtain⟨v',k1,tt',vs',e3,ht',hn',hx2⟩:=r'.jk i n (m+k) hself;rw[g1] at k1;cases k1;cases e3;have hvs:vs'=vs/\O' i tt=some (.lst vs):=by
  rcases ht' with q|q
  ·have:=(r'.oh i tt _ q).1
   rw[g2] at this;cases this;exact⟨rfl,q⟩
  ·have:=(r'.oh i tt _ q).1
   rw[g2] at this;cases this
 obtain⟨rfl,hott⟩:=hvs;by_cases hlt:k<n
 ·refine .inr ⟨⟨vs',vs'[k]'(by omega),SqL.of g2,by simp[hn',hlt]⟩,λ σ2 H2=>σ2[i]?=some (some (.ref tt))/\H2 tt=some (.lst vs')/\∃ Hc' O',RelC C.X.K Hv₀ H₀ Hc' O' ((st.set j .no).set i (.jk n (m+(k+1)))) σ2 H2,λ σ2 H2 ⟨q1,q2,Hc2,O2,q3⟩=>⟨n-(k+1),by omega,rfl,hlt,q1,q2,Hc2,O2,q3⟩,λ xv H2 ⟨e2,hy⟩=>?_⟩
  subst e2;have hxv:=hy vs' (SqL.of g2);obtain⟨b,ws,rfl,hbt,hb,hws⟩:=hx2 xv (BB hxv);have hbl:=(r'.oh i b _ hb).1;have hjN:j<σ'.length:=by
   have l1:=r'.len;rw[BD,BD] at l1;omega
  refine⟨_,BA hjN,.inl ⟨rfl,ws,SqL.of hbl⟩,?_⟩;refine⟨b,ws,.int n0,rfl,rfl,hbl,?_,?_⟩
  ·have e5:(100000:Nat)<sizeLine:=by rw[EU];decide
   omega
  ·have r2:=(r'.setNo (i:=j) (v:=some (.ref b)))
   have g1':(σ'.set j (some (.ref b)))[i]?=some (some (.ref tt)):=by rw[BU hji];exact g1
   have r3:=r2.putAny (i:=i) (s:=.jk n (m+(k+1))) (v:=.ref tt) (a:=b) (u:=.lst ws) (o:=.lst (ws++[.int n0])) g1' hb (by intro _ _ z;cases z) (λ d e=>nomatch e)
    (λ n' m' e=>by cases e;exact yN (by omega) (.inl hott) hn' hx2 hbt (by simp;omega)) λ d=>⟨nofun,nofun⟩
   refine⟨g1',?_,Hc',mK O' i (upd (O' i) b (.lst (ws++[.int n0]))),?_⟩
   ·rw[ag (Ne.symm hbt)];exact g2
   ·have e6:(((st.set j .no).set i (.jk n (m+k))).set j .no).set i (.jk n (m+(k+1)))=(st.set j .no).set i (.jk n (m+(k+1))):=by
     rw[De _ _ hij,C6,C6]
    rw[e6] at r3;exact r3
 ·have hkn:k=n:=by omega
  subst hkn;exact .inl ⟨⟨vs',SqL.of g2,by omega⟩,w σ' H' ⟨Hc',O',r'⟩ g1 g2⟩
end
end Sd
namespace Dv
def lookS:List String->List D->String->Option D
 | k::ks,d::ds,n=>if k=n then some d else lookS ks ds n
 | _,_,_=>none
def fldD (n:String):D->R
 | .ins ns ds=>match lookS ns ds n with
  | some d=>.ok d (scal d)
  | none=>.bad
 | _=>.bad
def eFld (n:String)(a:EE):EE:=λ ρ=>(a ρ).bind λ x _=>fldD n x
def AZ:D->Bool->R
 | .dct ks _,_=>.ok (.int ks.length) true
 | _,_=>.bad
def sKillRows (i j:Nat):SS:=λ st=>match st[i]? with
 | some (.dp (.lst ds))=>match shapeL ds with
  | some m=>if decide (m<2000)&&decide (ds.length<=2000)&&decide (i≠j)&&decide (j<st.length) then .nx ((st.set j .no).set i .no) else .bad
  | none=>.bad
 | _=>.bad
def dinD:D->D->R
 | .int j,.dct ks ds=>.ok (.bl (look ks ds j).isSome) true
 | _,_=>.bad
structure Wy where
 st:D
 pl:List Int
def Wy.d (w:Wy):D:=.tup [w.st,.lst (w.pl.map .int)]
def wyL (ws:List Wy):D:=.lst (ws.map Wy.d)
def wysD (ws:List (List Wy)):D:=.lst (ws.map wyL)
inductive An where
 | non
 | twi (p:Int)
 | row (k:Nat)
structure Cs where
 laid:List Wy
 ix:Nat
 at_:Nat
structure Ws where
 wys:List (List Wy)
 wait:List Cs
 rows:List (Int×Nat)
 sto:List (List An)
 gone:Nat
inductive WR where
 | many
 | bad
 | full (w:Ws) (d:D) (fr:Bool)
 | row (w:Ws)
structure Wk where
 fp:List D->R
 fs:EE
 fl:EE
 ft:EE
def rowGo (k:Wk)(l:List Wy)(fd:D):List Wy->List An->List (List Wy×Nat)->Option (List An×List (List Wy×Nat))
 | [],as,f=>some (as,f)
 | w::r,as,f=>match k.ft [none,none,some fd,none,none,none,some w.d] with
  | .ok (.lst []) _=>rowGo k l fd r (as++[.non]) (f++[(l++[w],as.length)])
  | .ok (.lst (.int p::_)) _=>rowGo k l fd r (as++[.twi p]) f
  | _=>none
def w0 (wys:List (List Wy))(laid:List Wy):Ws:=⟨wys,[⟨laid,0,0⟩],[],[[.non]],0⟩
def rowW (k:Wk)(w:Ws)(l:List Wy)(fd:D):WR:=
 match k.fl [some (.ins ["ways"] [wysD w.wys]),some (wyL l),some fd] with
 | .ok (.int (.ofNat m)) _=>match w.wys[m]? with
  | some ws=>match rowGo k l fd ws [] [] with
   | some (as,f)=>if decide (l.length<mx)&&decide (ws.length<mx)&&decide (w.rows.length<mx)&&decide (w.wait.length+f.length<=mx) then
     .row { w with rows:=w.rows++[((m:Int),w.sto.length)],sto:=w.sto++[as],wait:=w.wait++f.reverse.map λ p=>⟨p.1,w.sto.length,p.2⟩ }
    else .bad
   | none=>.bad
  | none=>.bad
 | _=>.bad
def stepW (k:Wk)(w:Ws):WR:=
 if w.gone=2000 then .many else
 match w.wait.getLast? with
 | none=>.bad
 | some c=>match k.fp [wyL c.laid] with
  | .ok (.dct ks ds) _=>if ks.length=w.wys.length then match k.fs [none,some (.ins ["laid"] [wyL c.laid]),some (.dct ks ds)] with
    | .ok d fr=>.full { w with gone:=w.gone+1,wait:=w.wait.dropLast } d fr
    | _=>.bad
   else match w.sto[c.ix]? with
    | some as=>if c.at_<as.length then rowW k { w with gone:=w.gone+1,wait:=w.wait.dropLast,sto:=w.sto.set c.ix (as.set c.at_ (.row w.rows.length)) } c.laid (.dct ks ds) else .bad
    | none=>.bad
  | _=>.bad
def allGo (k:Wk):Nat->Ws->List D->R
 | 0,_,_=>.bad
 | n+1,w,acc=>if w.wait.isEmpty then .ok (.lst acc) true else match stepW k w with
  | .many=>.exc "TooMany"
  | .bad=>.bad
  | .full w' d fr=>match d with
   | .lst es=>if fr&&decide (acc.length<mx) then allGo k n w' (acc++[.lst es]) else .bad
   | _=>.bad
  | .row w'=>allGo k n w' acc
def deW:D->Option Wy
 | .tup [s,.lst ps]=>match intsOf ps with
  | some ns=>some ⟨s,ns⟩
  | none=>none
 | _=>none
def deWL:List D->Option (List Wy)
 | []=>some []
 | d::r=>match deW d,deWL r with
  | some w,some ws=>some (w::ws)
  | _,_=>none
def deL:D->Option (List Wy)
 | .lst ds=>deWL ds
 | _=>none
def deLL:List D->Option (List (List Wy))
 | []=>some []
 | d::r=>match deL d,deLL r with
  | some w,some ws=>some (w::ws)
  | _,_=>none
def deWs:D->Option (List (List Wy))
 | .lst ds=>deLL ds
 | _=>none
inductive PR where
 | ok (wys:List (List Wy)) (laid:List Wy)
 | exc (c:String)
 | bad
def pwR (fw fl:EE)(ds:List D):PR:=match fw (ds.map some) with
 | .exc c=>.exc c
 | .bad=>.bad
 | .ok dw _=>match fl (ds.map some) with
  | .exc c=>.exc c
  | .bad=>.bad
  | .ok dl _=>match deWs dw,deL dl with
   | some wys,some laid=>.ok wys laid
   | _,_=>.bad
def allR (k:Wk)(F:List D->PR)(ds:List D):R:=match F ds with
 | .exc c=>.exc c
 | .bad=>.bad
 | .ok wys laid=>allGo k 2002 (w0 wys laid) []
def eAllF (k:Wk)(F:List D->PR)(a:EL):EE:=λ ρ=>(a ρ).bind λ ds _=>allR k F ds
end Dv
namespace Sd
open PySem PySem.Spec PyProof.Rows L2
open Dv (D R RL EE EL EI RI Sl Out SS Wy An Cs Ws WR Wk)
section
variable {C:Ctx}{a e:Expr}{f:EE}{pos:Pos}
theorem jS {K:Er}{H:Hp}{n:String}{d:D}:∀ {ns:List String} {ds:List D} {vs:List V},Dv.lookS ns ds n=some d->RpL K H ds vs->∃ u,(n,u)∈ns.zip vs/\Rp K H d u
 | [],_,_,h,_=>by simp[Dv.lookS] at h
 | _::_,[],_,h,_=>by simp[Dv.lookS] at h
 | k::ks,x::xs,vs,h,r=>by
  unfold RpL at r;obtain⟨v,ws,rfl,h1,h2⟩:=r;simp only[Dv.lookS] at h;by_cases q:k=n
  ·rw[if_pos q] at h;cases h;subst q
   exact⟨v,by simp,h1⟩
  ·rw[if_neg q] at h
   obtain⟨u,hu,hr⟩:=jS h h2;exact⟨u,A5 _ hu,hr⟩
theorem mZ {n:String}(he:SE C e f)(hb:autoParam (attributeBase e (EW n) C.X.env (eval e C.X.env)=eval e C.X.env) ZF._auto_1):SE C (.Attribute e (EW n) pos) (Dv.eFld n f):=by
 obtain⟨t,p,q⟩:=he;refine⟨_,cu p hb,λ σ H Hv ρ Q er s w=>?_⟩;refine q.step er (.refl s) w λ v d fr Hv1 H1 _ x1 _ rx n1 q1=>?_
 cases d with
 | ins ns ds=>
  simp only[Dv.fldD] at q1;cases hl:Dv.lookS ns ds n with
  | none=>rw[hl] at q1;exact(show False from q1).elim
  | some d'=>
   rw[hl] at q1;unfold Rp at rx;obtain⟨a,C0,dx,fs,vs,rfl,h2,h3,h4,h5,h6⟩:=rx;obtain⟨u,hu,ru⟩:=jS hl h6;obtain⟨na,lk⟩:=h5 n u hu;exact⟨a,C0,dx,fs,u,rfl,x1.vh _ _ h2,h3,na,lk,q1 u Hv1 H1 x1 ru λ z=>ru.scal z⟩
 | _=>exact(show False from q1).elim
theorem nv {X:Cx}:cU X (.builtin "len") (λ xs H Q=>∃ a kvs,xs=[V.ref a]/\Rd H a (.dK kvs)/\Q (.int kvs.length) H):=by
 intro pins s σ H xs us Q I r h;obtain⟨a,kvs,rfl,ha,q⟩:=h;obtain⟨u,rfl,ru⟩:=vals1 r;cases ru;exact Ae I ha λ t s' I'=>⟨.int kvs.length,H,I',⟨t,rfl⟩,q⟩
end
def wf (wa wl rl:Addr)(g:Int):List (Str×V):=[("ways",.ref wa),("waiting",.ref wl),("rows",.ref rl),("gone",.int g)]
def cf (lb b:Addr)(t:Int):List (Str×V):=[("laid",.ref lb),("answers",.ref b),("at",.int t)]
section
variable {wa wl rl lb b:Addr}{g t:Int}
theorem kD:(wf wa wl rl g).lookup ("ways":Str)=some (V.ref wa):=rfl
theorem eR:(wf wa wl rl g).lookup ("waiting":Str)=some (V.ref wl):=rfl
theorem oS:(wf wa wl rl g).lookup ("rows":Str)=some (V.ref rl):=rfl
theorem pW:(wf wa wl rl g).lookup ("gone":Str)=some (V.int g):=rfl
theorem zR:(wf wa wl rl g).lookup ("go_on":Str)=none:=rfl
theorem ua:(wf wa wl rl g).lookup ("write_row":Str)=none:=rfl
theorem pQ:(cf lb b t).lookup ("laid":Str)=some (V.ref lb):=rfl
theorem m9:(cf lb b t).lookup ("answers":Str)=some (V.ref b):=rfl
theorem Ab:(cf lb b t).lookup ("at":Str)=some (V.int t):=rfl
theorem Ar:aA "gone" (.int g) (aA "rows" (.ref rl) (aA "waiting" (.ref wl) (aA "ways" (.ref wa) [])))=wf wa wl rl g:=rfl
end
structure WkT (K:Er)(CW CC:Addr):Prop where
 clW:Cls K CW
 clC:Cls K CC
 nWays:NoAttr K CW "ways"
 nWaiting:NoAttr K CW "waiting"
 nRows:NoAttr K CW "rows"
 nGone:NoAttr K CW "gone"
 nLaid:NoAttr K CC "laid"
 nAnswers:NoAttr K CC "answers"
 nAt:NoAttr K CC "at"
def xW:Str:="twice"
def yF:Str:="row"
def AnAt (Hs H₀:Hp):An->V->Prop
 | .non,v=>v=.non
 | .twi p,v=>∃ q,v=.ref q/\Hs q=some (.tup [.str xW,.int p])/\H₀ q=none
 | .row k,v=>∃ q,v=.ref q/\Hs q=some (.tup [.str yF,.int k])/\H₀ q=none
def RowAt (Hs H₀:Hp)(an:List Addr)(p:Int×Nat)(v:V):Prop:=∃ r b,v=.ref r/\Hs r=some (.tup [.int p.1,.ref b])/\H₀ r=none/\an[p.2]?=some b
def CsAt (K:Er)(CC:Addr)(Hs:Hp)(an:List Addr)(c:Cs)(v:V):Prop:=∃ x dc lb b,v=.ref x/\Hs x=some (.ins CC dc (cf lb b c.at_))/\Rp K Hs (Dv.wyL c.laid) (.ref lb)/\an[c.ix]?=some b
def AN (Hs H₀ H:Hp)(l:List An)(b:Addr):Prop:=∃ vs,H b=some (.lst vs)/\Paired (AnAt Hs H₀) l vs
structure WkAt (K:Er)(CW CC:Addr)(Hs H H₀:Hp)(a wl rl:Addr)(an:List Addr)(w:Ws):Prop where
 sv:Same Hs H
 oh:Same H₀ H
 nd:(a::wl::rl::an).Nodup
 no:∀ b∈a::wl::rl::an,Hs b=none/\H₀ b=none
 slf:∃ dx wa,H a=some (.ins CW dx (wf wa wl rl w.gone))/\Rp K Hs (Dv.wysD w.wys) (.ref wa)
 wai:∃ vs,H wl=some (.lst vs)/\Paired (CsAt K CC Hs an) w.wait vs
 row:∃ vs,H rl=some (.lst vs)/\Paired (RowAt Hs H₀ an) w.rows vs
 sto:Paired (AN Hs H₀ H) w.sto an
theorem AnAt.same {Hs Hs' H₀:Hp}(e:Same Hs Hs'){x:An}{v:V}(h:AnAt Hs H₀ x v):AnAt Hs' H₀ x v:=by
 cases x with
 | non=>exact h
 | twi p=>obtain⟨q,h1,h2,h3⟩:=h;exact⟨q,h1,e _ _ h2,h3⟩
 | row p=>obtain⟨q,h1,h2,h3⟩:=h;exact⟨q,h1,e _ _ h2,h3⟩
theorem RowAt.same {Hs Hs' H₀:Hp}{an an':List Addr}(e:Same Hs Hs')(ea:∀ (i:Nat) b,an[i]?=some b->an'[i]?=some b){x:Int×Nat}{v:V}(h:RowAt Hs H₀ an x v):RowAt Hs' H₀ an' x v:=by
 obtain⟨r,b,h1,h2,h3,h4⟩:=h;exact⟨r,b,h1,e _ _ h2,h3,ea _ _ h4⟩
theorem CsAt.same {K:Er}{CC:Addr}{Hs Hs':Hp}{an an':List Addr}(e:Same Hs Hs')(ea:∀ (i:Nat) b,an[i]?=some b->an'[i]?=some b){x:Cs}{v:V}(h:CsAt K CC Hs an x v):CsAt K CC Hs' an' x v:=by
 obtain⟨x,dc,lb,b,h1,h2,h3,h4⟩:=h;exact⟨x,dc,lb,b,h1,e _ _ h2,h3.same e,ea _ _ h4⟩
theorem Paired.memR {α β:Type}{F:α->β->Prop}{l:List α}{r:List β}(h:Paired F l r):∀ b∈r,∃ a∈l,F a b:=by
 induction h with
 | nil=>intro b hb;cases hb
 | cons x _ ih=>
  intro b hb
  rcases List.mem_cons.mp hb with rfl|hb
  ·exact⟨_,A6,x⟩
  ·obtain⟨a,h1,h2⟩:=ih b hb
   exact⟨a,A5 _ h1,h2⟩
section
variable {K:Er}{CW CC:Addr}{Hs Hs' H H' H₀:Hp}{a wl rl:Addr}{an:List Addr}{w:Ws}
theorem Paired.mapM {α β:Type}{F G:α->β->Prop}{l:List α}{r:List β}(h:Paired F l r)(f:∀ a b,b∈r->F a b->G a b):Paired G l r:=by
 induction h with
 | nil=>exact .nil
 | cons x _ ih=>exact .cons (f _ _ A6 x) (ih λ a b hb q=>f a b (A5 _ hb) q)
theorem WkAt.grow (x:WkAt K CW CC Hs H H₀ a wl rl an w)(s:Same Hs Hs')(sv:Same Hs' H')(oh:Same H₀ H')(hh:∀ b∈a::wl::rl::an,∀ o,H b=some o->H' b=some o)(no:∀ b∈a::wl::rl::an,Hs' b=none):WkAt K CW CC Hs' H' H₀ a wl rl an w:=by
 refine⟨sv,oh,x.nd,λ b hb=>⟨no b hb,(x.no b hb).2⟩,?_,?_,?_,?_⟩
 ·obtain⟨dx,wa,h1,h2⟩:=x.slf
  exact⟨dx,wa,hh _ (by simp) _ h1,h2.same s⟩
 ·obtain⟨vs,h1,h2⟩:=x.wai
  exact⟨vs,hh _ (by simp) _ h1,Paired.mapM h2 λ _ _ _ q=>q.same s λ _ _ e=>e⟩
 ·obtain⟨vs,h1,h2⟩:=x.row
  exact⟨vs,hh _ (by simp) _ h1,Paired.mapM h2 λ _ _ _ q=>q.same s λ _ _ e=>e⟩
 ·exact Paired.mapM x.sto λ l b hb ⟨vs,h1,h2⟩=>⟨vs,hh _ (by simp[hb]) _ h1,Paired.mapM h2 λ _ _ _ q=>q.same s⟩
theorem WkAt.has (x:WkAt K CW CC Hs H H₀ a wl rl an w):∀ b∈a::wl::rl::an,∃ o,H b=some o:=by
 intro b hb
 rcases List.mem_cons.mp hb with rfl|hb
 ·obtain⟨_,_,h,_⟩:=x.slf;exact⟨_,h⟩
 rcases List.mem_cons.mp hb with rfl|hb
 ·obtain⟨_,h,_⟩:=x.wai;exact⟨_,h⟩
 rcases List.mem_cons.mp hb with rfl|hb
 ·obtain⟨_,h,_⟩:=x.row;exact⟨_,h⟩
 ·obtain⟨_,_,_,h,_⟩:=Paired.memR x.sto b hb;exact⟨_,h⟩
theorem WkAt.ext (x:WkAt K CW CC Hs H H₀ a wl rl an w)(e:Ext Hs H Hs' H'):WkAt K CW CC Hs' H' H₀ a wl rl an w:=by
 refine x.grow e.vv e.vh (x.oh.trans e.hh) (λ b _ o q=>e.hh b o q) λ b hb=>?_
 cases q:Hs' b with
 | none=>rfl
 | some o=>
  obtain⟨u,hu⟩:=x.has b hb;rw[e.new b o q (x.no b hb).1] at hu;cases hu
theorem WkAt.hext (x:WkAt K CW CC Hs H H₀ a wl rl an w)(e:Same H H'):WkAt K CW CC Hs H' H₀ a wl rl an w:=
 x.grow (.refl _) (x.sv.trans e) (x.oh.trans e) (λ b _ o q=>e b o q) λ b hb=>(x.no b hb).1
end
structure Stp (Hs H:Hp)(M:List Addr)(Hs' H':Hp)(M':List Addr):Prop where
 ss:Same Hs Hs'
 nw:∀ b o,Hs' b=some o->Hs b=none->H b=none
 kp:∀ b o,H b=some o->b∉M->H' b=some o
 dm:∀ b o,H b=some o->∃ o',H' b=some o'
 fz:∀ b o u,H' b=some (.frz o u)->H b=some (.frz o u)
 mm:∀ b∈M',b∈M\/H b=none
section
variable {Hs H Hs1 H1 Hs2 H2:Hp}{M M1 M2:List Addr}
theorem Stp.refl:Stp Hs H M Hs H M:=⟨.refl _,λ b o h n=>(by rw[n] at h;cases h),λ b o h _=>h,λ b o h=>⟨o,h⟩,λ _ _ _ h=>h,λ b h=>.inl h⟩
theorem Stp.trans (x:Stp Hs H M Hs1 H1 M1)(y:Stp Hs1 H1 M1 Hs2 H2 M2):Stp Hs H M Hs2 H2 M2:=by
 refine⟨x.ss.trans y.ss,λ b o h n=>?_,λ b o h n=>?_,λ b o h=>?_,λ b o u h=>x.fz b o u (y.fz b o u h),λ b h=>?_⟩
 ·cases q:Hs1 b with
  | some u=>exact x.nw b u q n
  | none=>
   have h1:=y.nw b o h q;cases z:H b with
   | none=>rfl
   | some u=>obtain⟨u',hu⟩:=x.dm b u z;rw[h1] at hu;cases hu
 ·refine y.kp b o (x.kp b o h n) λ z=>?_
  rcases x.mm b z with z|z
  ·exact n z
  ·rw[z] at h;cases h
 ·obtain⟨u,hu⟩:=x.dm b o h
  exact y.dm b u hu
 ·rcases y.mm b h with h|h
  ·exact x.mm b h
  ·refine .inr ?_
   cases z:H b with
   | none=>rfl
   | some u=>obtain⟨u',hu⟩:=x.dm b u z;rw[h] at hu;cases hu
theorem Stp.write {m:Addr}{o:HO}(hm:m∈M)(ho:∀ a u,o≠.frz a u):Stp Hs H M Hs (upd H m o) M:=by
 refine⟨.refl _,λ b o h n=>(by rw[n] at h;cases h),λ b o' h n=>?_,λ b o' h=>?_,λ b o' u h=>?_,λ b h=>.inl h⟩
 ·rw[ag (show b≠m from λ e=>n (by rw[e];exact hm))];exact h
 ·by_cases e:b=m
  ·subst e;exact⟨o,ai⟩
  ·exact⟨o',by rw[ag e];exact h⟩
 ·by_cases e:b=m
  ·subst e;rw[ai] at h;exact absurd (Option.some.inj h) (ho _ _)
  ·rw[ag e] at h;exact h
theorem Stp.ext (e:Ext Hs H Hs1 H1):Stp Hs H M Hs1 H1 M:=
 ⟨e.vv,e.new,λ b o h _=>e.hh b o h,λ b o h=>⟨o,e.hh b o h⟩,λ b o u h=>(by
  cases q:H b with
  | none=>exact absurd h (e.nf b o u q)
  | some z=>rw[e.hh b z q] at h;exact h),λ b h=>.inl h⟩
theorem Stp.hext (e:Same H H1)(nf:∀ b o u,H b=none->H1 b≠some (.frz o u)):Stp Hs H M Hs H1 M:=
 ⟨.refl _,λ b o h n=>(by rw[n] at h;cases h),λ b o h _=>e b o h,λ b o h=>⟨o,e b o h⟩,λ b o u h=>(by
  cases q:H b with
  | none=>exact absurd h (nf b o u q)
  | some z=>rw[e b z q] at h;exact h),λ b h=>.inl h⟩
theorem Stp.newM {p:Addr}{o:HO}(hp:H p=none)(ho:∀ a u,o≠.frz a u)(hM:∀ b∈M1,b∈M\/b=p):Stp Hs H M Hs (upd H p o) M1:=by
 refine⟨.refl _,λ b o h n=>(by rw[n] at h;cases h),λ b o' h n=>?_,λ b o' h=>?_,λ b o' u h=>?_,λ b h=>?_⟩
 ·rw[ag (au h hp)];exact h
 ·exact⟨o',by rw[ag (au h hp)];exact h⟩
 ·by_cases e:b=p
  ·subst e;rw[ai] at h;exact absurd (Option.some.inj h) (ho _ _)
  ·rw[ag e] at h;exact h
 ·rcases hM b h with h|rfl
  ·exact .inl h
  ·exact .inr hp
end
theorem aM {H:Hp}{a b:Addr}{o:HO}(h:upd H a o b=none):b≠a/\H b=none:=by
 by_cases e:b=a
 ·subst e;rw[ai] at h;cases h
 ·rw[ag e] at h;exact⟨e,h⟩
def l4 (CC:Addr):Sp:=λ vs H Q _=>∃ (x dx l b:Addr) (t:Int),vs=[.ref x,.ref l,.ref b,.int t]/\H x=some (.ins CC dx [])/\Q .non (upd H x (.ins CC dx (cf l b t)))
theorem uG {CC:Addr}(vs:List V)(H:Hp)(Q:VK)(E:XK)(h:l4 CC vs H Q E):vs.length=4:=by
 obtain⟨_,_,_,_,_,rfl,_⟩:=h;rfl
def tCI (K:Er):TS:=cJ (mD K (bc 0) (bc 1) "laid") (cJ (mD K (bc 0) (bc 2) "answers") (mD K (bc 0) (bc 3) "at"))
theorem wQ {K:Er}{CW CC:Addr}{vs:List V}{H:Hp}{Q:VK}{E:XK}(T:WkT K CW CC)(h:l4 CC vs H Q E):
  tCI K { nx:=λ _ H'=>Q .non H',rt:=Q } (L2.start ["self","laid","answers","at"] vs) H:=by
 obtain⟨x,dx,l,b,t,rfl,hx,q⟩:=h;refine⟨_,rfl,_,rfl,x,CC,dx,[],rfl,hx,T.clC,T.nLaid,(by decide),?_⟩;refine⟨_,rfl,_,rfl,x,CC,dx,_,rfl,ai,T.clC,T.nAnswers,(by show 1<1000;decide),?_⟩;refine⟨_,rfl,_,rfl,x,CC,dx,_,rfl,ai,T.clC,T.nAt,(by show 2<1000;decide),?_⟩;rw[hU,hU];exact q
def nj (K:Er)(CW CC:Addr):Sp:=λ vs H Q _=>∃ (x dx wa lb:Addr) (Hs H₀:Hp) (wys:List (List Wy)) (laid:List Wy),vs=[.ref x,.ref wa,.ref lb]/\H x=some (.ins CW dx [])/\Same Hs H/\Hs x=none/\Same H₀ H/\H₀ x=none /\
 Rp K Hs (Dv.wysD wys) (.ref wa)/\Rp K Hs (Dv.wyL laid) (.ref lb)/\∀ Hs' H' wl rl an,WkAt K CW CC Hs' H' H₀ x wl rl an (Dv.w0 wys laid)->Stp Hs H [x] Hs' H' (x::wl::rl::an)->Q .non H'
theorem sM {K:Er}{CW CC:Addr}(vs:List V)(H:Hp)(Q:VK)(E:XK)(h:nj K CW CC vs H Q E):vs.length=3:=by
 obtain⟨_,_,_,_,_,_,_,_,rfl,_⟩:=h;rfl
def tWI (K:Er)(CC:Addr)(E:XK):TS:=cJ (mD K (bc 0) (bc 1) "ways") (cJ (mD K (bc 0) (lE (aZ (oJ CC (l4 CC) [] E (aZ (bc 2) (aZ (lE (aZ (tC .non) bR)) (aZ (tC (.int 0)) bR)))) bR)) "waiting") (cJ (mD K (bc 0) (lE bR) "rows") (mD K (bc 0) (tC (.int 0)) "gone")))
theorem wW {K:Er}{CW CC:Addr}{vs:List V}{H:Hp}{Q:VK}{E:XK}(T:WkT K CW CC)(h:nj K CW CC vs H Q E):
  tWI K CC E { nx:=λ _ H'=>Q .non H',rt:=Q } (L2.start ["self","ways","laid"] vs) H:=by
 obtain⟨x,dx,wa,lb,Hs,H₀,wys,laid,rfl,hx,sv,hsx,s0,h0x,rw_,rl_,q⟩:=h;refine⟨_,rfl,_,rfl,x,CW,dx,[],rfl,hx,T.clW,T.nWays,(by decide),?_⟩;refine⟨_,rfl,(by show 1<=sizeLine;decide),λ p hp=>?_⟩;intro c dc hc hdc hne;refine⟨c,dc,lb,p,0,rfl,ai,rfl,(by show 1<=sizeLine;decide),λ wl hwl=>?_⟩;obtain⟨px,hp⟩:=aM hp;obtain⟨cp,hc⟩:=aM hc;obtain⟨cx,hc⟩:=aM hc;obtain⟨dp,hdc⟩:=aM hdc;obtain⟨dxx,hdc⟩:=aM hdc;obtain⟨wc,hwl⟩:=aM hwl;obtain⟨_,hwl⟩:=aM hwl;obtain⟨wd,hwl⟩:=aM hwl;obtain⟨wp,hwl⟩:=aM hwl;obtain⟨wx,hwl⟩:=aM hwl;have e1:upd (upd (upd (upd (upd H x (.ins CW dx (aA "ways" (.ref wa) []))) p (.lst [.non])) dc (.own c)) c (.ins CC dc [])) c (.ins CC dc (cf lb p 0))=upd (upd (upd (upd H x (.ins CW dx (aA "ways" (.ref wa) []))) p (.lst [.non])) dc (.own c)) c (.ins CC dc (cf lb p 0)):=hU;refine⟨_,rfl,x,CW,dx,aA "ways" (.ref wa) [],rfl,?_,T.clW,T.nWaiting,(by show 1<1000;decide),?_⟩
 ·rw[e1,ag (Ne.symm wx),ag (Ne.symm cx),ag (Ne.symm dxx),ag (Ne.symm px),ai]
 refine⟨(by show 0<=sizeLine;decide),λ rl hrl=>?_⟩;obtain⟨rx,hrl⟩:=aM hrl;obtain⟨rw',hrl⟩:=aM hrl;obtain⟨rc,hrl⟩:=aM hrl;obtain⟨_,hrl⟩:=aM hrl;obtain⟨rd,hrl⟩:=aM hrl;obtain⟨rp,hrl⟩:=aM hrl;obtain⟨_,hrl⟩:=aM hrl;refine⟨_,rfl,x,CW,dx,aA "waiting" (.ref wl) (aA "ways" (.ref wa) []),rfl,?_,T.clW,T.nRows,(by show 2<1000;decide),?_⟩
 ·rw[ag (Ne.symm rx),ai]
 refine⟨_,rfl,x,CW,dx,_,rfl,ai,T.clW,T.nGone,(by show 3<1000;decide),?_⟩;rw[e1];show Q .non _
 rw[show aA "gone" (V.int 0) (aA "rows" (V.ref rl) (aA "waiting" (V.ref wl) (aA "ways" (V.ref wa) [])))=wf wa wl rl 0 from Ar];have oth:∀ b,b≠x->b≠p->b≠dc->b≠c->b≠wl->b≠rl->upd (upd (upd (upd (upd (upd (upd (upd (upd H x (.ins CW dx (aA "ways" (.ref wa) []))) p (.lst [.non])) dc (.own c)) c (.ins CC dc (cf lb p 0))) wl (.lst [.ref c])) x (.ins CW dx (aA "waiting" (.ref wl) (aA "ways" (.ref wa) [])))) rl (.lst [])) x (.ins CW dx (aA "rows" (.ref rl) (aA "waiting" (.ref wl) (aA "ways" (.ref wa) []))))) x (.ins CW dx (wf wa wl rl 0)) b=H b:=by
  intro b h1 h2 h3 h4 h5 h6;rw[ag h1,ag h1,ag h6,ag h1,ag h5,ag h4,ag h3,ag h2,ag h1]
 have aX:upd (upd (upd (upd (upd (upd (upd (upd (upd H x (.ins CW dx (aA "ways" (.ref wa) []))) p (.lst [.non])) dc (.own c)) c (.ins CC dc (cf lb p 0))) wl (.lst [.ref c])) x (.ins CW dx (aA "waiting" (.ref wl) (aA "ways" (.ref wa) [])))) rl (.lst [])) x (.ins CW dx (aA "rows" (.ref rl) (aA "waiting" (.ref wl) (aA "ways" (.ref wa) []))))) x (.ins CW dx (wf wa wl rl 0)) x=some (.ins CW dx (wf wa wl rl 0)):=ai;have aP:upd (upd (upd (upd (upd (upd (upd (upd (upd H x (.ins CW dx (aA "ways" (.ref wa) []))) p (.lst [.non])) dc (.own c)) c (.ins CC dc (cf lb p 0))) wl (.lst [.ref c])) x (.ins CW dx (aA "waiting" (.ref wl) (aA "ways" (.ref wa) [])))) rl (.lst [])) x (.ins CW dx (aA "rows" (.ref rl) (aA "waiting" (.ref wl) (aA "ways" (.ref wa) []))))) x (.ins CW dx (wf wa wl rl 0)) p=some (.lst [.non]):=by
  rw[ag px,ag px,ag (Ne.symm rp),ag px,ag (Ne.symm wp),ag (Ne.symm cp),ag (Ne.symm dp),ai]
 have aC:upd (upd (upd (upd (upd (upd (upd (upd (upd H x (.ins CW dx (aA "ways" (.ref wa) []))) p (.lst [.non])) dc (.own c)) c (.ins CC dc (cf lb p 0))) wl (.lst [.ref c])) x (.ins CW dx (aA "waiting" (.ref wl) (aA "ways" (.ref wa) [])))) rl (.lst [])) x (.ins CW dx (aA "rows" (.ref rl) (aA "waiting" (.ref wl) (aA "ways" (.ref wa) []))))) x (.ins CW dx (wf wa wl rl 0)) c=some (.ins CC dc (cf lb p 0)):=by
  rw[ag cx,ag cx,ag (Ne.symm rc),ag cx,ag (Ne.symm wc),ai]
 have aW:upd (upd (upd (upd (upd (upd (upd (upd (upd H x (.ins CW dx (aA "ways" (.ref wa) []))) p (.lst [.non])) dc (.own c)) c (.ins CC dc (cf lb p 0))) wl (.lst [.ref c])) x (.ins CW dx (aA "waiting" (.ref wl) (aA "ways" (.ref wa) [])))) rl (.lst [])) x (.ins CW dx (aA "rows" (.ref rl) (aA "waiting" (.ref wl) (aA "ways" (.ref wa) []))))) x (.ins CW dx (wf wa wl rl 0)) wl=some (.lst [.ref c]):=by
  rw[ag wx,ag wx,ag (Ne.symm rw'),ag wx,ai]
 have aR:upd (upd (upd (upd (upd (upd (upd (upd (upd H x (.ins CW dx (aA "ways" (.ref wa) []))) p (.lst [.non])) dc (.own c)) c (.ins CC dc (cf lb p 0))) wl (.lst [.ref c])) x (.ins CW dx (aA "waiting" (.ref wl) (aA "ways" (.ref wa) [])))) rl (.lst [])) x (.ins CW dx (aA "rows" (.ref rl) (aA "waiting" (.ref wl) (aA "ways" (.ref wa) []))))) x (.ins CW dx (wf wa wl rl 0)) rl=some (.lst []):=by
  rw[ag rx,ag rx,ai]
 have aD:upd (upd (upd (upd (upd (upd (upd (upd (upd H x (.ins CW dx (aA "ways" (.ref wa) []))) p (.lst [.non])) dc (.own c)) c (.ins CC dc (cf lb p 0))) wl (.lst [.ref c])) x (.ins CW dx (aA "waiting" (.ref wl) (aA "ways" (.ref wa) [])))) rl (.lst [])) x (.ins CW dx (aA "rows" (.ref rl) (aA "waiting" (.ref wl) (aA "ways" (.ref wa) []))))) x (.ins CW dx (wf wa wl rl 0)) dc=some (.own c):=by
  rw[ag dxx,ag dxx,ag (Ne.symm rd),ag dxx,ag (Ne.symm wd),ag hne,ai]
 revert oth aX aP aC aW aR aD;generalize upd (upd (upd (upd (upd (upd (upd (upd (upd H x (.ins CW dx (aA "ways" (.ref wa) []))) p (.lst [.non])) dc (.own c)) c (.ins CC dc (cf lb p 0))) wl (.lst [.ref c])) x (.ins CW dx (aA "waiting" (.ref wl) (aA "ways" (.ref wa) [])))) rl (.lst [])) x (.ins CW dx (aA "rows" (.ref rl) (aA "waiting" (.ref wl) (aA "ways" (.ref wa) []))))) x (.ins CW dx (wf wa wl rl 0))=Hz;intro oth aX aP aC aW aR aD;have hsc:Hs c=none:=sv.free hc;have sC:Same Hs (upd Hs c (.ins CC dc (cf lb p 0))):=ia hsc _;have far:∀ b o,H b=some o->b≠x->b≠p/\b≠dc/\b≠c/\b≠wl/\b≠rl:=λ b o e _=>⟨au e hp,au e hdc,au e hc,au e hwl,au e hrl⟩
 have keep:∀ b o,H b=some o->b≠x->Hz b=some o:=λ b o e hb=>by
  obtain⟨h2,h3,h4,h5,h6⟩:=far b o e hb;rw[oth b hb h2 h3 h4 h5 h6];exact e
 have hsv:Same (upd Hs c (.ins CC dc (cf lb p 0))) Hz:=λ b o e=>by
  by_cases z:b=c
  ·subst z;rw[ai] at e;cases e;exact aC
  ·rw[ag z] at e
   exact keep b o (sv b o e) λ z=>by subst z;rw[hsx] at e;cases e
 have mem:∀ {P:Addr->Prop},P x->P wl->P rl->P p->∀ b∈[x,wl,rl,p],P b:=by
  intro P h1 h2 h3 h4 b hb;simp only[BE,BG,or_false] at hb
  rcases hb with rfl|rfl|rfl|rfl <;>assumption
 refine q (upd Hs c (.ins CC dc (cf lb p 0))) Hz wl rl [p] ⟨hsv,λ b o e=>keep b o (s0 b o e) (λ z=>by subst z;rw[h0x] at e;cases e),?_,?_,⟨dx,wa,aX,rw_.same sC⟩,⟨_,aW,.cons ⟨c,dc,lb,p,rfl,ai,rl_.same sC,rfl⟩ .nil⟩,⟨_,aR,.nil⟩,.cons ⟨_,aP,.cons rfl .nil⟩ .nil⟩
  ⟨sC,λ b o e n=>?_,λ b o e n=>keep b o e (by simpa using n),λ b o e=>?_,λ b o u e=>?_,?_⟩
 ·simp only[DB,BE,BG,or_false,not_or,not_false_eq_true,Ed,and_true]
  exact⟨⟨Ne.symm wx,Ne.symm rx,Ne.symm px⟩,⟨Ne.symm rw',wp⟩,rp⟩
 ·refine mem ?_ ?_ ?_ ?_
  ·exact⟨by rw[ag (Ne.symm cx)];exact hsx,h0x⟩
  ·exact⟨by rw[ag wc];exact sv.free hwl,s0.free hwl⟩
  ·exact⟨by rw[ag rc];exact sv.free hrl,s0.free hrl⟩
  ·exact⟨by rw[ag (Ne.symm cp)];exact sv.free hp,s0.free hp⟩
 ·by_cases z:b=c
  ·subst z;exact hc
  ·rw[ag z,n] at e;cases e
 ·by_cases z:b=x
  ·subst z;exact⟨_,aX⟩
  ·exact⟨o,keep b o e z⟩
 ·by_cases z:b=x
  ·subst z;rw[aX] at e;cases e
  by_cases z2:b=p
  ·subst z2;rw[aP] at e;cases e
  by_cases z3:b=dc
  ·subst z3;rw[aD] at e;cases e
  by_cases z4:b=c
  ·subst z4;rw[aC] at e;cases e
  by_cases z5:b=wl
  ·subst z5;rw[aW] at e;cases e
  by_cases z6:b=rl
  ·subst z6;rw[aR] at e;cases e
  rw[oth b z z2 z3 z4 z5 z6] at e;exact e
 ·exact mem (.inl (by simp)) (.inr hwl) (.inr hrl) (.inr hp)
theorem Paired.gets {α β:Type}{F:α->β->Prop}{l:List α}{r:List β}(h:Paired F l r):∀ {i:Nat} {x:α},l[i]?=some x->∃ y,r[i]?=some y/\F x y:=by
 induction h with
 | nil=>intro i x e;simp at e
 | cons q _ ih=>
  intro i x e;cases i with
  | zero=>simp at e;subst e;exact⟨_,rfl,q⟩
  | succ i=>obtain⟨y,h1,h2⟩:=ih (by simpa using e);exact⟨y,by simpa using h1,h2⟩
theorem Paired.append {α β:Type}{F:α->β->Prop}{l l':List α}{r r':List β}(h:Paired F l r)(g:Paired F l' r'):Paired F (l++l') (r++r'):=by
 induction h with
 | nil=>exact g
 | cons q _ ih=>exact .cons q ih
theorem Paired.rev {α β:Type}{F:α->β->Prop}{l:List α}{r:List β}(h:Paired F l r):Paired F l.reverse r.reverse:=by
 induction h with
 | nil=>exact .nil
 | cons q _ ih=>rw[Cv,Cv];exact Paired.append ih (.cons q .nil)
theorem Paired.dropLast {α β:Type}{F:α->β->Prop}{l:List α}{r:List β}(h:Paired F l r):Paired F l.dropLast r.dropLast:=by
 induction h with
 | nil=>exact .nil
 | cons q t ih=>
  cases t with
  | nil=>exact .nil
  | cons q' t'=>exact .cons q ih
theorem Paired.set {α β:Type}{F:α->β->Prop}{l:List α}{r:List β}{x:α}{y:β}(q:F x y)(h:Paired F l r):∀ i:Nat,Paired F (l.set i x) (r.set i y):=by
 induction h with
 | nil=>intro i;exact .nil
 | cons z t ih=>
  intro i;cases i with
  | zero=>exact .cons q t
  | succ i=>exact .cons z (ih i)
theorem Paired.maps {α β γ:Type}{F:α->β->Prop}{G:γ->β->Prop}{l:List α}{r:List β}{f:α->γ}(h:Paired F l r)(q:∀ a b,F a b->G (f a) b):Paired G (l.map f) r:=by
 induction h with
 | nil=>exact .nil
 | cons z _ ih=>exact .cons (q _ _ z) ih
def FdAt (K:Er)(CC:Addr)(Hs:Hp)(ab:Addr)(p:List Wy×Nat)(v:V):Prop:=∃ x dc lb,v=.ref x/\Hs x=some (.ins CC dc (cf lb ab p.2))/\Rp K Hs (Dv.wyL p.1) (.ref lb)
structure LpAt (K:Er)(CW CC:Addr)(Hs H H₀:Hp)(a wl rl:Addr)(an:List Addr)(w:Ws)(ab fb:Addr)(as:List An)(fnd:List (List Wy×Nat)):Prop where
 wk:WkAt K CW CC Hs H H₀ a wl rl an w
 na:Hs ab=none/\H₀ ab=none/\ab∉a::wl::rl::an
 nf:Hs fb=none/\H₀ fb=none/\fb∉a::wl::rl::an/\fb≠ab
 ha:∃ avs,H ab=some (.lst avs)/\Paired (AnAt Hs H₀) as avs
 hf:∃ fvs,H fb=some (.lst fvs)/\Paired (FdAt K CC Hs ab) fnd fvs
section
variable {K:Er}{CW CC:Addr}{Hs Hs' H H' H₀:Hp}{a wl rl ab fb:Addr}{an:List Addr}{w:Ws}{as:List An}{fnd:List (List Wy×Nat)}
theorem FdAt.same (e:Same Hs Hs'){x:List Wy×Nat}{v:V}(h:FdAt K CC Hs ab x v):FdAt K CC Hs' ab x v:=by
 obtain⟨x,dc,lb,h1,h2,h3⟩:=h;exact⟨x,dc,lb,h1,e _ _ h2,h3.same e⟩
theorem WkAt.other (x:WkAt K CW CC Hs H H₀ a wl rl an w){b:Addr}{o:HO}(h1:Hs b=none)(h0:H₀ b=none)(h2:b∉a::wl::rl::an):WkAt K CW CC Hs (upd H b o) H₀ a wl rl an w:=
 x.grow (.refl _) (λ c u e=>by rw[ag (show c≠b from λ z=>by subst z;rw[h1] at e;cases e)];exact x.sv c u e)
  (λ c u e=>by rw[ag (show c≠b from λ z=>by subst z;rw[h0] at e;cases e)];exact x.oh c u e) (λ c hc u e=>by rw[ag (show c≠b from λ z=>by subst z;exact h2 hc)];exact e) λ c hc=>(x.no c hc).1
theorem my (e:Ext Hs H Hs' H'){b:Addr}{o:HO}(h1:Hs b=none)(h2:H b=some o):Hs' b=none:=by
 cases q:Hs' b with
 | none=>rfl
 | some u=>rw[e.new b u q h1] at h2;cases h2
theorem LpAt.ext (x:LpAt K CW CC Hs H H₀ a wl rl an w ab fb as fnd)(e:Ext Hs H Hs' H'):LpAt K CW CC Hs' H' H₀ a wl rl an w ab fb as fnd:=by
 obtain⟨avs,h1,h2⟩:=x.ha;obtain⟨fvs,h3,h4⟩:=x.hf;exact⟨x.wk.ext e,⟨my e x.na.1 h1,x.na.2⟩,⟨my e x.nf.1 h3,x.nf.2⟩,⟨avs,e.hh _ _ h1,Paired.mapM h2 λ _ _ _ q=>q.same e.vv⟩,⟨fvs,e.hh _ _ h3,Paired.mapM h4 λ _ _ _ q=>q.same e.vv⟩⟩
theorem LpAt.setA (x:LpAt K CW CC Hs H H₀ a wl rl an w ab fb as fnd){as':List An}{avs:List V}(h:Paired (AnAt Hs H₀) as' avs):LpAt K CW CC Hs (upd H ab (.lst avs)) H₀ a wl rl an w ab fb as' fnd:=by
 obtain⟨fvs,h3,h4⟩:=x.hf;exact⟨x.wk.other x.na.1 x.na.2.1 x.na.2.2,x.na,x.nf,⟨avs,ai,h⟩,⟨fvs,by rw[ag x.nf.2.2.2];exact h3,h4⟩⟩
theorem LpAt.setF (x:LpAt K CW CC Hs H H₀ a wl rl an w ab fb as fnd){fnd':List (List Wy×Nat)}{fvs:List V}(h:Paired (FdAt K CC Hs ab) fnd' fvs):LpAt K CW CC Hs (upd H fb (.lst fvs)) H₀ a wl rl an w ab fb as fnd':=by
 obtain⟨avs,h3,h4⟩:=x.ha;exact⟨x.wk.other x.nf.1 x.nf.2.1 x.nf.2.2.1,x.na,x.nf,⟨avs,by rw[ag (Ne.symm x.nf.2.2.2)];exact h3,h4⟩,⟨fvs,ai,h⟩⟩
end
abbrev sG (K:Er):List V->Hp->VK->Prop:=λ xs H Q=>∃ p ys,xs=[.ref p]/\(SqL K H p ys\/SqT K H p ys)/\Q (.int ys.length) H
abbrev AX (K:Er)(t:TE)(ts:TO):TE:=λ σ H Q=>t σ H λ x H1=>ts σ H1 λ l H2=>∃ b xs,l=some (-1)/\x=.ref b/\SqX K H2 b xs/\∀ p,H2 p=none->Q (.ref p) (upd H2 p (.lst xs.reverse))
abbrev AG (C:Ctx)(i:Nat)(ft:EE):TS:=λ E σ H=>∃ Hv ρ,EnvR C.X.K Hv ρ σ/\Same Hv H/\Ok C.X.K Hv H (C.W σ) C.cls (ft ρ) λ v H'=>E.nx (σ.set i (some v)) H'
def yq (C:Ctx)(CC:Addr)(E:XK)(ft:EE):TS:=cJ (AG C 7 ft)
 (tD (lF (tOp (rI0 λ i j=>.bl (decide (j<i))) (tCB (sG C.X.K) (aZ (bc 7) bR)) (tC (.int 0))))
  (fI (tBM C.X.K "list" dg (bc 4) (aZ (wo (aZ (tC (.str xW)) (aZ (tOp (zo C.X.K) (bc 7) (tC (.int 0))) bR))) bR)))
  (cJ (fI (tBM C.X.K "list" dg (bc 5) (aZ (oJ CC (l4 CC) [] E (aZ (tOp (xn C.X.K) (bc 1) (lE (aZ (bc 6) bR))) (aZ (bc 4) (aZ (tCB (sG C.X.K) (aZ (bc 4) bR)) bR)))) bR)))
   (fI (tBM C.X.K "list" dg (bc 4) (aZ (tC .non) bR)))))
def tWR (C:Ctx)(CC:Addr)(E:XK)(tl tn:TE)(ft:EE):TS:=
 cJ (jb tl (dZ 3)) (cJ (jb (lE bR) (dZ 4)) (cJ (jb (lE bR) (dZ 5)) (cJ
  (zT (xl C.X.K (tOp (zo C.X.K) (gO C.X.K (bc 0) "ways") (bc 3))) (dZ 6) (yq C CC E ft))
  (cJ (fI (tBM C.X.K "list" dg (gO C.X.K (bc 0) "rows") (aZ (wo (aZ (bc 3) (aZ (bc 4) bR))) bR)))
   (fI (tBM C.X.K "list" pV (gO C.X.K (bc 0) "waiting") (aZ (AX C.X.K (bc 5) (xr tn)) bR)))))))
def qr (K:Er)(CW CC:Addr)(k:Wk):Sp:=λ vs H Q _=>∃ (a wl rl:Addr) (an:List Addr) (v1 v2:V) (Hs H₀:Hp) (w:Ws) (l:List Wy) (fd:D) (w':Ws),vs=[.ref a,v1,v2]/\WkAt K CW CC Hs H H₀ a wl rl an w/\Rp K Hs (Dv.wyL l) v1/\Rp K Hs fd v2 /\
 Dv.rowW k w l fd=.row w'/\∀ Hs' H' an',WkAt K CW CC Hs' H' H₀ a wl rl an' w'->Stp Hs H (a::wl::rl::an) Hs' H' (a::wl::rl::an')->Q .non H'
theorem tG {K:Er}{CW CC:Addr}{k:Wk}(vs:List V)(H:Hp)(Q:VK)(E:XK)(h:qr K CW CC k vs H Q E):vs.length=3:=by
 obtain⟨_,_,_,_,_,_,_,_,_,_,_,_,rfl,_⟩:=h;rfl
theorem nU {K:Er}{H:Hp}{l:List Wy}{v:V}(h:Rp K H (Dv.wyL l) v):∃ b vs,v=.ref b/\SqX K H b vs/\RpL K H (l.map Wy.d) vs:=by
 unfold Dv.wyL Rp at h;exact h
theorem yn {K:Er}{H:Hp}{l:List Wy}{b:Addr}{vs:List V}(h:SqX K H b vs)(r:RpL K H (l.map Wy.d) vs):Rp K H (Dv.wyL l) (.ref b):=by
 unfold Dv.wyL Rp;exact⟨b,vs,rfl,h,r⟩
theorem AO {K:Er}{H:Hp}{d0 d1 d2:D}{v0 v1 v2:V}{r:St}(h0:Rp K H d0 v0)(h1:Rp K H d1 v1)(h2:Rp K H d2 v2):EnvR K H [some d0,some d1,some d2] (some v0::some v1::some v2::r):=by
 intro i d e
 match i with
 | 0=>simp at e;subst e;exact⟨v0,rfl,h0⟩
 | 1=>simp at e;subst e;exact⟨v1,rfl,h1⟩
 | 2=>simp at e;subst e;exact⟨v2,rfl,h2⟩
 | i+3=>simp at e
theorem qK {K:Er}{CW CC:Addr}{Hs H H₀:Hp}{a wl rl:Addr}{an:List Addr}{w:Ws}(T:WkT K CW CC)(x:WkAt K CW CC Hs H H₀ a wl rl an w):Rp K H (.ins ["ways"] [Dv.wysD w.wys]) (.ref a):=by
 obtain⟨dx,wa,h1,h2⟩:=x.slf;unfold Rp;refine⟨a,CW,dx,_,[.ref wa],rfl,h1,T.clW,rfl,λ n u hn=>?_,.cons (h2.same x.sv) .nil⟩;simp only[B5,DQ,Cc] at hn;cases hn;exact⟨T.nWays,kD⟩
theorem zM {K:Er}{H:Hp}{d2 d6:D}{v2 v6:V}{a0 a1 a3 a4 a5:Option V}{r:St}(h2:Rp K H d2 v2)(h6:Rp K H d6 v6):EnvR K H [none,none,some d2,none,none,none,some d6] (a0::a1::some v2::a3::a4::a5::some v6::r):=by
 intro i d e
 match i with
 | 0=>simp at e
 | 1=>simp at e
 | 2=>simp at e;subst e;exact⟨v2,rfl,h2⟩
 | 3=>simp at e
 | 4=>simp at e
 | 5=>simp at e
 | 6=>simp at e;subst e;exact⟨v6,rfl,h6⟩
 | i+7=>simp at e
theorem lz {A B:Prop}{c:Bool}(h:c=false)(b:B):if c=true then A else B:=by rw[if_neg (by rw[h];decide)];exact b
theorem iM {A B:Prop}{c:Bool}(h:c=true)(b:A):if c=true then A else B:=by rw[if_pos h];exact b
theorem eC {n:Nat}(h:n<Dv.mx):n<sizeLine:=by
 unfold Dv.mx at h;rw[EU];omega
theorem xj {C:Ctx}{CW CC:Addr}{E:XK}{k:Wk}{Hs Hc H₀:Hp}{a wl rl ab fb:Addr}{an:List Addr}{w:Ws}{as:List An}{fnd:List (List Wy×Nat)}{v1 v2 y:V}{vm:Option V}{vt:Option V}{l:List Wy}{fd:D}{wy:Wy}{r:List Wy}
  {res:List An×List (List Wy×Nat)} {D:Ends} (L:LpAt C.X.K CW CC Hs Hc H₀ a wl rl an w ab fb as fnd) (r1:Rp C.X.K Hs (Dv.wyL l) v1) (r2:Rp C.X.K Hs fd v2) (ry:Rp C.X.K Hs wy.d y) (hgo:Dv.rowGo k l fd (wy::r) as fnd=some res)
  (b1:as.length<Dv.mx) (b2:fnd.length<Dv.mx) (b3:l.length<Dv.mx)
  (next:∀ Hs' Hc' as' fnd' vt',LpAt C.X.K CW CC Hs' Hc' H₀ a wl rl an w ab fb as' fnd'->Stp Hs Hc (fb::ab::a::wl::rl::an) Hs' Hc' (fb::ab::a::wl::rl::an)->Dv.rowGo k l fd r as' fnd'=some res->as'.length=as.length+1->fnd'.length<=fnd.length+1 ->
   D.nx [some (.ref a),some v1,some v2,vm,some (.ref ab),some (.ref fb),some y,vt'] Hc'):
  yq C CC E k.ft D [some (.ref a),some v1,some v2,vm,some (.ref ab),some (.ref fb),some y,vt] Hc:=by
 unfold yq;refine⟨Hs,[none,none,some fd,none,none,none,some wy.d],zM r2 ry,L.wk.sv,?_⟩;simp only[Dv.rowGo] at hgo;have mab:ab∈fb::ab::a::wl::rl::an:=by simp
 have mfb:fb∈fb::ab::a::wl::rl::an:=by simp
 split at hgo
 ·rename_i fr h
  rw[h];intro v Hv' H' x rp nn;unfold Rp at rp;obtain⟨pt,tvs,rfl,hq,hl⟩:=rp;unfold RpL at hl;subst hl;have L1:=L.ext x;have r1':=r1.same x.vv;obtain⟨avs,hA,pA⟩:=L1.ha;obtain⟨fvs,hF,pF⟩:=L1.hf;have la:=pA.length;have lf:=pF.length;obtain⟨lb,lvs,rfl,hlq,hll⟩:=nU r1';have ll:=hll.length;rw[A4] at ll;refine⟨_,rfl,pt,[],rfl,.inl (hq.same x.vh).seq,_,_,rfl,rfl,_,rfl,?_⟩;refine lz (by simp) ?_
  refine⟨_,rfl,.inl ⟨rfl,_,SqL.of hF⟩,?_⟩;refine⟨_,rfl,_,rfl,(by show 1<=sizeLine;decide),λ p1 hp1=>?_⟩;have e1:=Ext.new1 x.vh hp1 (.lst [y]);have L2:=L1.ext e1;refine⟨lb,p1,lvs,[y],rfl,rfl,(hlq.same e1.vv).same e1.vh,SqX.of ai,?_,λ p2 hp2=>?_⟩
  ·have:=eC b3;show lvs.length+1<=sizeLine;omega
  have e2:=Ext.new1 e1.vh hp2 (.lst (lvs++[y]));have L3:=L2.ext e2;refine⟨_,rfl,_,rfl,ab,avs,rfl,.inl (SqL.of (e2.hh _ _ (e1.hh _ _ hA))),?_⟩;intro c dc hc hdc hne;have e3:=Ext.new1 e2.vh hdc (.own c);have hc':upd (upd (upd H' p1 (.lst [y])) p2 (.lst (lvs++[y]))) dc (.own c) c=none:=by rw[ag (Ne.symm hne)];exact hc
  have e4:=Ext.new1 e3.vh hc' (.ins CC dc (cf p2 ab avs.length));have L5:=(L3.ext e3).ext e4;refine⟨c,dc,p2,ab,avs.length,rfl,ai,rfl,?_⟩;rw[hU];have hF5:=e4.hh _ _ (e3.hh _ _ (e2.hh _ _ (e1.hh _ _ hF)));refine⟨fb,fvs,.ref c,rfl,rfl,hF5,by have:=eC b2;omega,?_⟩;have sK:Same Hv' (upd (upd (upd (upd Hv' p1 (.lst [y])) p2 (.lst (lvs++[y]))) dc (.own c)) c (.ins CC dc (cf p2 ab avs.length))):=e1.vv.trans (e2.vv.trans (e3.vv.trans e4.vv));have pF':Paired (FdAt C.X.K CC (upd (upd (upd (upd Hv' p1 (.lst [y])) p2 (.lst (lvs++[y]))) dc (.own c)) c (.ins CC dc (cf p2 ab avs.length))) ab) (fnd++[(l++[wy],as.length)]) (fvs++[.ref c]):=by
   refine Paired.append (Paired.mapM pF λ _ _ _ q=>q.same sK) (.cons ⟨c,dc,p2,rfl,?_,?_⟩ .nil)
   ·rw[ai,<- la]
   ·refine yn (SqX.of (e4.vv _ _ (e3.vv _ _ ai))) ?_
    rw[Cf];exact(hll.same sK).append (.cons ((ry.same x.vv).same sK) .nil)
  have L6:=L5.setF pF';have hA6:upd (upd (upd (upd (upd H' p1 (.lst [y])) p2 (.lst (lvs++[y]))) dc (.own c)) c (.ins CC dc (cf p2 ab avs.length))) fb (.lst (fvs++[.ref c])) ab=some (.lst avs):=by
   rw[ag (Ne.symm L.nf.2.2.2)];exact e4.hh _ _ (e3.hh _ _ (e2.hh _ _ (e1.hh _ _ hA)))
  refine⟨_,rfl,.inl ⟨rfl,_,SqL.of hA6⟩,ab,avs,.non,rfl,rfl,hA6,by have:=eC b1;omega,?_⟩;have L7:=L6.setA (as':=as++[.non]) (avs:=avs++[.non]) (Paired.append (Paired.mapM pA λ _ _ _ q=>q.same sK) (.cons (show AnAt _ _ An.non V.non from rfl) .nil));exact next _ _ _ _ (some (.ref pt)) L7 ((Stp.ext x).trans ((Stp.ext e1).trans ((Stp.ext e2).trans ((Stp.ext e3).trans ((Stp.ext e4).trans ((Stp.write mfb (by intro _ _ z;cases z)).trans (Stp.write mab (by intro _ _ z;cases z)))))))) hgo (by simp) (by simp)
 ·rename_i p dr fr h
  rw[h];intro v Hv' H' x rp nn;unfold Rp at rp;obtain⟨pt,tvs,rfl,hq,hl⟩:=rp;unfold RpL at hl;obtain⟨u,ws,rfl,hu,_⟩:=hl;unfold Rp at hu;subst hu;have L1:=L.ext x;obtain⟨avs,hA,pA⟩:=L1.ha;have la:=pA.length;have sq:=(hq.same x.vh).seq;refine⟨_,rfl,pt,.int p::ws,rfl,.inl sq,_,_,rfl,rfl,_,rfl,?_⟩;refine iM (by simp) ?_
  refine⟨_,rfl,.inl ⟨rfl,_,SqL.of hA⟩,?_⟩;refine⟨_,rfl,pt,.int p::ws,0,.int p,rfl,rfl,sq,om (j:=0) rfl,(by show 2<=sizeLine;decide),λ q hq2=>?_⟩;have e1:=Ext.new1 x.vh hq2 (.tup [.str xW,.int p]);have L2:=L1.ext e1;refine⟨ab,avs,.ref q,rfl,rfl,e1.hh _ _ hA,by have:=eC b1;omega,?_⟩;have hq0:H₀ q=none:=L1.wk.oh.free hq2;have L3:=L2.setA (as':=as++[.twi p]) (avs:=avs++[.ref q]) (Paired.append (Paired.mapM pA λ _ _ _ q=>q.same e1.vv) (.cons (show AnAt _ _ (An.twi p) (V.ref q) from ⟨q,rfl,ai,hq0⟩) .nil));exact next _ _ _ _ (some (.ref pt)) L3 ((Stp.ext x).trans ((Stp.ext e1).trans (Stp.write mab (by intro _ _ z;cases z)))) hgo (by simp) (by simp)
 ·cases hgo
theorem Stp.less {Hs H Hs1 H1:Hp}{M M1 M2:List Addr}(x:Stp Hs H M Hs1 H1 M1)(h:∀ b∈M2,b∈M1):Stp Hs H M Hs1 H1 M2:=⟨x.ss,x.nw,x.kp,x.dm,x.fz,λ b hb=>x.mm b (h b hb)⟩
section
variable {K:Er}{CW CC:Addr}{Hs Hs' H H' H₀:Hp}{a wl rl ab fb:Addr}{an:List Addr}{w:Ws}{as:List An}{fnd:List (List Wy×Nat)}
theorem WkAt.ne (x:WkAt K CW CC Hs H H₀ a wl rl an w):a≠wl/\a≠rl/\wl≠rl/\a∉an/\wl∉an/\rl∉an/\an.Nodup:=by
 have h:=x.nd;simp only[DB,BE,not_or] at h;exact⟨h.1.1,h.1.2.1,h.2.1.1,h.1.2.2,h.2.1.2,h.2.2.1,h.2.2.2⟩
theorem cj {Hs H:Hp}{m:Addr}{o:HO}(s:Same Hs H)(h:Hs m=none):Same Hs (upd H m o):=λ b u e=>by
 rw[ag (show b≠m from λ z=>by subst z;rw[h] at e;cases e)];exact s b u e
theorem WkAt.setWait (x:WkAt K CW CC Hs H H₀ a wl rl an w){cs:List Cs}{vs:List V}(h:Paired (CsAt K CC Hs an) cs vs):WkAt K CW CC Hs (upd H wl (.lst vs)) H₀ a wl rl an { w with wait:=cs }:=by
 obtain⟨n1,n2,n3,n4,n5,n6,n7⟩:=x.ne;have nn:=x.no wl (by simp);refine⟨cj x.sv nn.1,cj x.oh nn.2,x.nd,x.no,?_,⟨vs,ai,h⟩,?_,?_⟩
 ·obtain⟨dx,wa,h1,h2⟩:=x.slf
  exact⟨dx,wa,by rw[ag n1];exact h1,h2⟩
 ·obtain⟨rs,h1,h2⟩:=x.row
  exact⟨rs,by rw[ag (Ne.symm n3)];exact h1,h2⟩
 ·exact Paired.mapM x.sto λ l b hb ⟨zs,h1,h2⟩=>⟨zs,by rw[ag (show b≠wl from λ z=>by subst z;exact n5 hb)];exact h1,h2⟩
theorem WkAt.setGone (x:WkAt K CW CC Hs H H₀ a wl rl an w){dx wa:Addr}{g:Nat}(h:H a=some (.ins CW dx (wf wa wl rl w.gone))):WkAt K CW CC Hs (upd H a (.ins CW dx (wf wa wl rl g))) H₀ a wl rl an { w with gone:=g }:=by
 obtain⟨n1,n2,n3,n4,n5,n6,n7⟩:=x.ne;have nn:=x.no a (by simp);refine⟨cj x.sv nn.1,cj x.oh nn.2,x.nd,x.no,?_,?_,?_,?_⟩
 ·obtain⟨dx',wa',h1,h2⟩:=x.slf
  rw[h] at h1;have e:=Option.some.inj h1;injection e with e1 e2 e3
  unfold wf at e3;injection e3 with e4
  injection e4 with e5 e6
  injection e6 with e7
  subst e7;exact⟨dx,wa,ai,h2⟩
 ·obtain⟨rs,h1,h2⟩:=x.wai
  exact⟨rs,by rw[ag (Ne.symm n1)];exact h1,h2⟩
 ·obtain⟨rs,h1,h2⟩:=x.row
  exact⟨rs,by rw[ag (Ne.symm n2)];exact h1,h2⟩
 ·exact Paired.mapM x.sto λ l b hb ⟨zs,h1,h2⟩=>⟨zs,by rw[ag (show b≠a from λ z=>by subst z;exact n4 hb)];exact h1,h2⟩
theorem Paired.setAt {α:Type}{F G:α->Addr->Prop}{l:List α}{r:List Addr}{x:α}{i:Nat}{b:Addr}(h:Paired F l r)(nd:r.Nodup)(hb:r[i]?=some b)(q:G x b)(o:∀ y c,c≠b->F y c->G y c):Paired G (l.set i x) r:=by
 induction h generalizing i with
 | nil=>simp at hb
 | cons z t ih=>
  obtain⟨n1,n2⟩:=List.nodup_cons.mp nd;cases i with
  | zero=>
   simp at hb;subst hb;exact .cons q (Paired.mapM t λ y c hc f=>o y c (λ e=>by subst e;exact n1 hc) f)
  | succ i=>
   simp at hb;exact .cons (o _ _ (λ e=>by subst e;exact n1 (BB hb)) z) (ih n2 hb)
theorem WkAt.setSto (x:WkAt K CW CC Hs H H₀ a wl rl an w){i:Nat}{b:Addr}{as:List An}{vs:List V}(hb:an[i]?=some b)(h:Paired (AnAt Hs H₀) as vs):WkAt K CW CC Hs (upd H b (.lst vs)) H₀ a wl rl an { w with sto:=w.sto.set i as }:=by
 obtain⟨n1,n2,n3,n4,n5,n6,n7⟩:=x.ne;have mb:=BB hb;have nn:=x.no b (by simp[mb]);refine⟨cj x.sv nn.1,cj x.oh nn.2,x.nd,x.no,?_,?_,?_,?_⟩
 ·obtain⟨dx,wa,h1,h2⟩:=x.slf
  exact⟨dx,wa,by rw[ag (show a≠b from λ z=>by subst z;exact n4 mb)];exact h1,h2⟩
 ·obtain⟨rs,h1,h2⟩:=x.wai
  exact⟨rs,by rw[ag (show wl≠b from λ z=>by subst z;exact n5 mb)];exact h1,h2⟩
 ·obtain⟨rs,h1,h2⟩:=x.row
  exact⟨rs,by rw[ag (show rl≠b from λ z=>by subst z;exact n6 mb)];exact h1,h2⟩
 ·exact Paired.setAt x.sto n7 hb ⟨vs,ai,h⟩ λ y c hc ⟨zs,h1,h2⟩=>⟨zs,by rw[ag hc];exact h1,h2⟩
theorem lU {α:Type}{l:List α}{b:α}:∀ (i:Nat) c,l[i]?=some c->(l++[b])[i]?=some c:=λ i c h=>by
 rw[Bx (List.getElem?_eq_some_iff.mp h).1];exact h
theorem LpAt.done (L:LpAt K CW CC Hs H H₀ a wl rl an w ab fb as fnd){m:Int}{r:Addr}{rvs:List V}(hr:Hs r=some (.tup [.int m,.ref ab]))(h0:H₀ r=none)(hR:H rl=some (.lst rvs)):
  WkAt K CW CC Hs (upd H rl (.lst (rvs++[.ref r]))) H₀ a wl rl (an++[ab]) { w with rows:=w.rows++[(m,w.sto.length)],sto:=w.sto++[as] }:=by
 have x:=L.wk;obtain⟨n1,n2,n3,n4,n5,n6,n7⟩:=x.ne;have nn:=x.no rl (by simp);have na:=L.na.2.2;simp only[BE,not_or] at na;have hl:an[w.sto.length]?=none:=by rw[x.sto.length];simp
 have hab:(an++[ab])[w.sto.length]?=some ab:=by rw[x.sto.length];simp
 refine⟨cj x.sv nn.1,cj x.oh nn.2,?_,λ b hb=>?_,?_,?_,?_,?_⟩
 ·show (a::wl::rl::(an++[ab])).Nodup
  simp only[DB,BE,not_or,B0,BG,or_false,not_false_eq_true,List.nodup_append,Ed,and_true,true_and];refine⟨⟨n1,n2,n4,Ne.symm na.1⟩,⟨n3,n5,Ne.symm na.2.1⟩,⟨n6,Ne.symm na.2.2.1⟩,n7,λ y hy z hz e=>?_⟩;rw[hz] at e;subst e;exact na.2.2.2 hy
 ·have hb':b∈a::wl::rl::an\/b=ab:=by
   simp only[BE,B0,BG,or_false] at hb ⊢
   rcases hb with h|h|h|h|h
   ·exact .inl (.inl h)
   ·exact .inl (.inr (.inl h))
   ·exact .inl (.inr (.inr (.inl h)))
   ·exact .inl (.inr (.inr (.inr h)))
   ·exact .inr h
  rcases hb' with h|rfl
  ·exact x.no b h
  ·exact⟨L.na.1,L.na.2.1⟩
 ·obtain⟨dx,wa,h1,h2⟩:=x.slf
  exact⟨dx,wa,by rw[ag n2];exact h1,h2⟩
 ·obtain⟨vs,h1,h2⟩:=x.wai
  exact⟨vs,by rw[ag n3];exact h1,Paired.mapM h2 λ _ _ _ q=>q.same (.refl _) lU⟩
 ·obtain⟨vs,h1,h2⟩:=x.row
  rw[hR] at h1;cases h1;exact⟨_,ai,Paired.append (Paired.mapM h2 λ _ _ _ q=>q.same (.refl _) lU) (.cons ⟨r,ab,rfl,hr,h0,hab⟩ .nil)⟩
 ·obtain⟨avs,hA,pA⟩:=L.ha
  refine Paired.append (Paired.mapM x.sto λ l b hb ⟨zs,h1,h2⟩=>⟨zs,by rw[ag (show b≠rl from λ z=>by subst z;exact n6 hb)];exact h1,h2⟩) (.cons ⟨avs,?_,pA⟩ .nil);rw[ag na.2.2.1];exact hA
end
theorem vW {C:Ctx}{CW CC:Addr}{E E':XK}{tl tn:TE}{k:Wk}{vs:List V}{H:Hp}{Q:VK}(T:WkT C.X.K CW CC)(ql:Tak C tl k.fl)(qn:Tak C tn (Dv.eNeg (Dv.eInt 1)))(h:qr C.X.K CW CC k vs H Q E'):
  tWR C CC E tl tn k.ft { nx:=λ _ H'=>Q .non H',rt:=Q } (L2.start ["self","laid","filled","least","answers","found","way","twice"] vs) H:=by
 obtain⟨a,wl,rl,an,v1,v2,Hs,H₀,w,l,fd,w',rfl,W,r1,r2,hrow,q⟩:=h;unfold Dv.rowW at hrow
 split at hrow
 ·rename_i m fr hfl
  split at hrow
  ·rename_i ws hws
   split at hrow
   ·rename_i as' f' hgo
    split at hrow
    ·rename_i hb
     cases hrow;simp only[Bj,decide_eq_true_eq] at hb;obtain⟨⟨⟨b1,b2⟩,b3⟩,b4⟩:=hb;refine ql _ H H _ _ (AO (qK T W) (r1.same W.sv) (r2.same W.sv)) (.refl _) ?_
     rw[hfl];intro v Hv' H1 x rp nn;unfold Rp at rp;subst rp;have W1:=W.hext x.hh;refine⟨(by show 0<=sizeLine;decide),λ ab hab=>?_⟩;refine⟨(by show 0<=sizeLine;decide),λ fb hfb=>?_⟩;obtain⟨nfa,hfb⟩:=aM hfb;have nab:ab∉a::wl::rl::an:=λ z=>by obtain⟨o,ho⟩:=W1.has ab z;rw[hab] at ho;cases ho
     have nfb:fb∉a::wl::rl::an:=λ z=>by obtain⟨o,ho⟩:=W1.has fb z;rw[hfb] at ho;cases ho
     have L0:LpAt C.X.K CW CC Hs (upd (upd H1 ab (.lst [])) fb (.lst [])) H₀ a wl rl an w ab fb [] []:=
      ⟨(W1.other (W1.sv.free hab) (W1.oh.free hab) nab).other (W1.sv.free hfb) (W1.oh.free hfb) nfb,⟨W1.sv.free hab,W1.oh.free hab,nab⟩,⟨W1.sv.free hfb,W1.oh.free hfb,nfb,nfa⟩,⟨[],by rw[ag (Ne.symm nfa),ai],.nil⟩,⟨[],ai,.nil⟩⟩
     have S0:Stp Hs H (a::wl::rl::an) Hs (upd (upd H1 ab (.lst [])) fb (.lst [])) (fb::ab::a::wl::rl::an):=
      (Stp.hext x.hh x.nf).trans ((Stp.newM (M1:=ab::a::wl::rl::an) hab (by intro _ _ z;cases z) λ b hb=>(List.mem_cons.mp hb).symm).trans
       (Stp.newM (M1:=fb::ab::a::wl::rl::an) (by rw[ag nfa];exact hfb) (by intro _ _ z;cases z) λ b hb=>(List.mem_cons.mp hb).symm))
     obtain⟨dx,wa,hWa,rW⟩:=L0.wk.slf;unfold Dv.wysD Rp at rW;obtain⟨wa',wvs,e,hwq,hwl⟩:=rW;cases e;obtain⟨u,hu,ru⟩:=hwl.get (i:=m) (d:=Dv.wyL ws) (by rw[Bv,hws];rfl);obtain⟨wb,yvs,rfl,hbq,hbl⟩:=nU ru;have yl:=hbl.length;rw[A4] at yl;refine⟨_,rfl,a,CW,dx,_,_,rfl,hWa,T.clW,T.nWays,kD,_,rfl,wa,wvs,(m:Int),.ref wb,rfl,rfl,(hwq.same L0.wk.sv).seq,om hu,wb,rfl,⟨_,(hbq.same L0.wk.sv).seq⟩,?_⟩;refine uA (K:=C.X.K) (a:=wb) (xs:=yvs) (λ i σ Hc=>∃ Hs1 as fnd vw vt,σ=[some (.ref a),some v1,some v2,some (.int (m:Int)),some (.ref ab),some (.ref fb),vw,vt]/\LpAt C.X.K CW CC Hs1 Hc H₀ a wl rl an w ab fb as fnd /\
      Stp Hs H (a::wl::rl::an) Hs1 Hc (fb::ab::a::wl::rl::an)/\Dv.rowGo k l fd (ws.drop i) as fnd=some (as',f')/\as.length=i/\fnd.length<=i) ?h0 ?hl ?hs ?hd
     case h0=>exact⟨Hs,[],[],none,none,rfl,L0,S0,by simpa using hgo,rfl,Bh _⟩
     case hl=>
      rintro i σ Hc hi ⟨Hs1,as,fnd,vw,vt,rfl,L,S,hg,h1,h2⟩
      exact((hbq.same S.ss).same L.wk.sv).seq
     case hs=>
      rintro i y σ Hc hy ⟨Hs1,as,fnd,vw,vt,rfl,L,S,hg,h1,h2⟩
      have hi:i<yvs.length:=(List.getElem?_eq_some_iff.mp hy).1;have hiw:i<ws.length:=by omega
      have hwy:ws[i]?=some ws[i]:=Ba hiw
      obtain⟨y',hy',ry⟩:=hbl.get (i:=i) (d:=(ws[i]).d) (by rw[Bv,hwy];rfl);rw[hy] at hy';cases hy';rw[BM hiw] at hg;exact xj L (r1.same S.ss) (r2.same S.ss) (ry.same S.ss) hg (by omega) (by omega) b1 λ Hs' Hc' as2 fnd2 vt' L' S' hg' h1' h2'=>⟨Hs',as2,fnd2,some y,vt',rfl,L',S.trans S',hg',by omega,by omega⟩
     case hd=>
      rintro σ Hc ⟨Hs1,as,fnd,vw,vt,rfl,L,S,hg,h1,h2⟩
      rw[yl,C2] at hg;simp only[Dv.rowGo,Option.some.injEq,Prod.mk.injEq] at hg;obtain⟨rfl,rfl⟩:=hg;obtain⟨rvs,hR,pR⟩:=L.wk.row;obtain⟨dx2,wa2,hA2,rA2⟩:=L.wk.slf;have lr:=pR.length;refine⟨_,rfl,a,CW,dx2,_,_,rfl,hA2,T.clW,T.nRows,oS,.inl ⟨rfl,_,SqL.of hR⟩,_,rfl,_,rfl,(by show 2<=sizeLine;decide),λ r hr=>?_⟩;have e1:=Ext.new1 L.wk.sv hr (.tup [.int (m:Int),.ref ab]);have L2:=L.ext e1;refine⟨rl,rvs,.ref r,rfl,rfl,e1.hh _ _ hR,by have:=eC b3;omega,?_⟩;have W3:=L2.done (m:=(m:Int)) (r:=r) ai (L.wk.oh.free hr) (e1.hh _ _ hR);have S3:=S.trans ((Stp.ext e1).trans (Stp.write (m:=rl) (o:=.lst (rvs++[.ref r])) (by simp) (by intro _ _ z;cases z)));obtain⟨fvs,hF,pF⟩:=L2.hf;have lf:=pF.length;have nfr:fb≠rl:=λ z=>L.nf.2.2.1 (by simp[z])
      obtain⟨dx3,wa3,hA3,rA3⟩:=W3.slf;obtain⟨cvs,hC3,pC3⟩:=W3.wai;refine⟨_,rfl,a,CW,dx3,_,_,rfl,hA3,T.clW,T.nWaiting,eR,.inl ⟨rfl,_,SqL.of hC3⟩,_,rfl,?_⟩;refine qn _ _ (upd Hs1 r (.tup [.int (m:Int),.ref ab])) [] _ (λ i d z=>by simp at z) W3.sv ?_
      intro v4 Hv4 H4 x4 rp4 nn4;unfold Rp at rp4;subst rp4;refine⟨-1,rfl,fb,fvs,rfl,rfl,SqX.of (x4.hh _ _ (by rw[ag nfr];exact hF)),λ p hp=>?_⟩;have W4:=W3.ext x4;have e5:=Ext.new1 x4.vh hp (.lst fvs.reverse);have W5:=W4.ext e5;have hC5:=e5.hh _ _ (x4.hh _ _ hC3);have lc:=pC3.length;refine⟨wl,p,cvs,fvs.reverse,rfl,rfl,hC5,ai,?_,?_⟩
      ·rw[C7]
       have:=cg b4;show cvs.length+fvs.length<=sizeLine
       simp only at lc;omega
      have sK:Same (upd Hs1 r (.tup [.int (m:Int),.ref ab])) (upd Hv4 p (.lst fvs.reverse)):=x4.vv.trans e5.vv;have hab':(an++[ab])[w.sto.length]?=some ab:=by rw[L.wk.sto.length];simp
      have W6:=W5.setWait (cs:=w.wait++fnd.reverse.map λ p=>⟨p.1,w.sto.length,p.2⟩) (vs:=cvs++fvs.reverse)
       (Paired.append (Paired.mapM pC3 λ _ _ _ z=>z.same sK λ _ _ z=>z) (Paired.maps (Paired.rev pF) λ pp v ⟨x,dc,lb,z1,z2,z3⟩=>⟨x,dc,lb,ab,z1,sK _ _ z2,z3.same sK,hab'⟩))
      have S6:=S3.trans ((Stp.ext x4).trans ((Stp.ext e5).trans (Stp.write (m:=wl) (o:=.lst (cvs++fvs.reverse)) (by simp) (by intro _ _ z;cases z))));exact q _ _ _ W6 (S6.less λ b hb=>by
       simp only[BE,B0,BG,or_false] at hb ⊢
       rcases hb with h|h|h|h|h <;>simp[h])
    ·cases hrow
   ·cases hrow
  ·cases hrow
 ·cases hrow
abbrev zU:List V->Hp->VK->Prop:=λ xs H Q=>∃ a kvs,xs=[V.ref a]/\Rd H a (.dK kvs)/\Q (.int kvs.length) H
def tGo (C:Ctx)(CW CC Ca:Addr)(E:XK)(k:Wk)(tp ts:TE):TS:=
 cJ (tD (lF (tOp rEq (gO C.X.K (bc 0) "gone") (tC (.int 2000)))) (λ _ _ H1=>E (.ref Ca) none H1) o7)
 (cJ (oF C.X.K (bc 0) (tC (.int 1)) zI "gone")
 (cJ (jb (zD C.X.K "list" Az (gO C.X.K (bc 0) "waiting")) (dZ 1))
 (cJ (jb tp (dZ 2))
 (cJ (tD (lF (tOp rEq (tCB zU (aZ (bc 2) bR)) (tCB (sG C.X.K) (aZ (gO C.X.K (bc 0) "ways") bR)))) (ui ts) o7)
 (cJ (jb (wo (aZ (tC (.str yF)) (aZ (tCB (sG C.X.K) (aZ (gO C.X.K (bc 0) "rows") bR)) bR))) (AH (gO C.X.K (bc 1) "answers") (gO C.X.K (bc 1) "at") xC))
 (cJ (fI (pf CW "write_row" (qr C.X.K CW CC k) [] E (bc 0) (aZ (gO C.X.K (bc 1) "laid") (aZ (bc 2) bR))))
 (ui (tC .non))))))))
def OkW (K:Er)(CW CC:Addr)(cls:String->Value)(Hs H H₀:Hp)(a wl rl:Addr)(an:List Addr)(r:WR)(Q:VK)(E:XK):Prop:=match r with
 | .many=>∀ Hs' H' an',(∃ w',WkAt K CW CC Hs' H' H₀ a wl rl an' w')->Stp Hs H (a::wl::rl::an) Hs' H' (a::wl::rl::an')->E (cls "TooMany") none H'
 | .bad=>False
 | .full w' d fr=>∀ v Hs' H' an',WkAt K CW CC Hs' H' H₀ a wl rl an' w'->Stp Hs H (a::wl::rl::an) Hs' H' (a::wl::rl::an')->Rp K Hs' d v->(fr=true->Rp [] (Hnew H Hs') d v)->Q v H'
 | .row w'=>∀ Hs' H' an',WkAt K CW CC Hs' H' H₀ a wl rl an' w'->Stp Hs H (a::wl::rl::an) Hs' H' (a::wl::rl::an')->Q .non H'
def sj (K:Er)(CW CC:Addr)(cls:String->Value)(k:Wk):Sp:=λ vs H Q E=>∃ (a wl rl:Addr) (an:List Addr) (Hs H₀:Hp) (w:Ws),vs=[.ref a]/\WkAt K CW CC Hs H H₀ a wl rl an w/\OkW K CW CC cls Hs H H₀ a wl rl an (Dv.stepW k w) Q E
theorem sS {K:Er}{CW CC:Addr}{cls:String->Value}{k:Wk}(vs:List V)(H:Hp)(Q:VK)(E:XK)(h:sj K CW CC cls k vs H Q E):vs.length=1:=by
 obtain⟨_,_,_,_,_,_,_,rfl,_⟩:=h;rfl
theorem jX {K:Er}{CW CC:Addr}{H:Hp}{x dc lb b:Addr}{t:Int}{l:List Wy}(T:WkT K CW CC)(h1:H x=some (.ins CC dc (cf lb b t)))(h2:Rp K H (Dv.wyL l) (.ref lb)):Rp K H (.ins ["laid"] [Dv.wyL l]) (.ref x):=by
 unfold Rp;refine⟨x,CC,dc,_,[.ref lb],rfl,h1,T.clC,rfl,λ n u hn=>?_,.cons h2 .nil⟩;simp only[B5,DQ,Cc] at hn;cases hn;exact⟨T.nLaid,pQ⟩
theorem AW {K:Er}{H:Hp}{d1:D}{v1:V}{a0:Option V}{r:St}(h1:Rp K H d1 v1):EnvR K H [none,some d1] (a0::some v1::r):=by
 intro i d e
 match i with
 | 0=>simp at e
 | 1=>simp at e;subst e;exact⟨v1,rfl,h1⟩
 | i+2=>simp at e
theorem zV {K:Er}{H:Hp}{d1 d2:D}{v1 v2:V}{a0:Option V}{r:St}(h1:Rp K H d1 v1)(h2:Rp K H d2 v2):EnvR K H [none,some d1,some d2] (a0::some v1::some v2::r):=by
 intro i d e
 match i with
 | 0=>simp at e
 | 1=>simp at e;subst e;exact⟨v1,rfl,h1⟩
 | 2=>simp at e;subst e;exact⟨v2,rfl,h2⟩
 | i+3=>simp at e
theorem vk {n j:Nat}(h:j<n):ixN n (j:Int)=some j:=by
 unfold ixN;rw[if_pos (by omega),if_pos (by omega)];simp
theorem uZ {α:Type}{l:List α}{c:α}(h:l.getLast?=some c):l[l.length-1]?=some c:=by
 rw[List.getLast?_eq_getElem?] at h;exact h
theorem nI (k:Wk)(w:Ws)(l:List Wy)(fd:D):Dv.rowW k w l fd=.bad\/∃ w',Dv.rowW k w l fd=.row w':=by
 unfold Dv.rowW
 split
 ·split
  ·split
   ·split
    ·exact .inr ⟨_,rfl⟩
    ·exact .inl rfl
   ·exact .inl rfl
  ·exact .inl rfl
 ·exact .inl rfl
theorem wU {C:Ctx}{CW CC Ca:Addr}{E:XK}{tp ts:TE}{k:Wk}{vs:List V}{H:Hp}{Q:VK}(T:WkT C.X.K CW CC)(hcls:C.cls "TooMany"=.ref Ca)(qp:Tak C tp (Dv.eCall k.fp (Dv.lCons (Dv.eFld "laid" (Dv.eVar 1)) Dv.lNil)))(qs:Tak C ts k.fs)
  (h:sj C.X.K CW CC C.cls k vs H Q E):tGo C CW CC Ca E k tp ts { nx:=λ _ H'=>Q .non H',rt:=Q } (L2.start ["self","case","filled"] vs) H:=by
 obtain⟨a,wl,rl,an,Hs,H₀,w,rfl,W,hst⟩:=h;unfold Dv.stepW at hst;obtain⟨dx,wa,hA,rW⟩:=W.slf;refine⟨_,rfl,a,CW,dx,_,_,rfl,hA,T.clW,T.nGone,pW,rfl,_,rfl,?_⟩;by_cases hg:w.gone=2000
 ·rw[if_pos hg] at hst
  refine iM (by simp[hg]) ?_
  rw[<- hcls];exact hst Hs H an ⟨w,W⟩ .refl
 rw[if_neg hg] at hst;refine lz (by simp;omega) ?_
 refine⟨_,rfl,a,CW,dx,_,_,rfl,hA,T.clW,T.nGone,pW,_,_,rfl,rfl,dx,_,hA,(by show 4<1000;decide),?_⟩;have W1:=W.setGone hA (g:=w.gone+1);have S1:Stp Hs H (a::wl::rl::an) Hs (upd H a (.ins CW dx (wf wa wl rl ((w.gone+1:Nat):Int)))) (a::wl::rl::an):=Stp.write (by simp) (by intro _ _ z;cases z);cases hl:w.wait.getLast? with
 | none=>simp only[hl] at hst;exact(show False from hst).elim
 | some c=>
  simp only[hl] at hst;obtain⟨cvs,hC,pC⟩:=W1.wai;have hlen:=pC.length;obtain⟨y,hy,cy⟩:=Paired.gets pC (uZ hl);obtain⟨cx,dc,lb,b,rfl,hcx,rl1,hb⟩:=cy;simp only at hlen;rw[hlen] at hy;refine⟨_,rfl,a,CW,dx,_,_,rfl,ai,T.clW,T.nWaiting,eR,.inl ⟨rfl,_,SqL.of hC⟩,wl,cvs,.ref cx,rfl,rfl,hC,hy,?_⟩;have W2:=W1.setWait (Paired.dropLast pC);have S2:=S1.trans (Stp.write (Hs:=Hs) (m:=wl) (o:=.lst cvs.dropLast) (by simp) (by intro _ _ z;cases z));refine qp _ _ Hs [none,some (.ins ["laid"] [Dv.wyL c.laid])] _ (AW (jX T hcx rl1)) W2.sv ?_
  have hev:Dv.eCall k.fp (Dv.lCons (Dv.eFld "laid" (Dv.eVar 1)) Dv.lNil) [none,some (.ins ["laid"] [Dv.wyL c.laid])]=k.fp [Dv.wyL c.laid]:=by
   simp[Dv.eCall,Dv.lCons,Dv.eFld,Dv.eVar,Dv.fldD,Dv.lookS,Dv.lNil,Dv.R.bind,Dv.RL.bind,Dv.R.bindL,Dv.RL.bindL]
  rw[hev];cases hfp:k.fp [Dv.wyL c.laid] with
  | bad=>simp only[hfp] at hst;exact(show False from hst).elim
  | exc e=>simp only[hfp] at hst;exact(show False from hst).elim
  | ok d fr0=>
   cases d with
   | dct ks ds=>
    simp only[hfp] at hst;intro v Hv3 H3 x3 rp3 nn3;have W3:=W2.ext x3;have S3:=S2.trans (Stp.ext x3);have hcx3:=x3.vv _ _ hcx;have rl3:=rl1.same x3.vv;have rp3':=rp3;unfold Rp at rp3';obtain⟨fa,fvs,rfl,hk1,hk2,hk3⟩:=rp3';obtain⟨dx3,wa3,hA3,rW3⟩:=W3.slf;have rW3':=rW3;unfold Dv.wysD Rp at rW3';obtain⟨wa',wvs,e,hwq,hwl⟩:=rW3';cases e;have wl3:=hwl.length;rw[A4] at wl3;have kl:((ks.map (Sum.inl:Int->Key)).zip fvs).length=ks.length:=by
     rw[C5,A4,hk3.length,hk1,Nat.min_self]
    refine⟨_,rfl,fa,_,rfl,Rd.same x3.vh hk2,_,rfl,a,CW,dx3,_,_,rfl,hA3,T.clW,T.nWays,kD,wa3,wvs,rfl,.inl (hwq.same W3.sv).seq,rfl,_,rfl,?_⟩;rw[kl,wl3];by_cases hfull:ks.length=w.wys.length
    ·rw[if_pos hfull] at hst
     refine iM (by simp[hfull]) ?_
     refine qs _ _ Hv3 [none,some (.ins ["laid"] [Dv.wyL c.laid]),some (.dct ks ds)] _ (zV (jX T hcx3 rl3) rp3) W3.sv ?_
     cases hfs:k.fs [none,some (.ins ["laid"] [Dv.wyL c.laid]),some (.dct ks ds)] with
     | bad=>simp only[hfs] at hst;exact(show False from hst).elim
     | exc e=>simp only[hfs] at hst;exact(show False from hst).elim
     | ok d fr=>
      simp only[hfs] at hst;intro v5 Hv5 H5 x5 rp5 nn5;refine hst v5 Hv5 H5 an (W3.ext x5) (S3.trans (Stp.ext x5)) rp5 λ z=>(nn5 z).same λ b o hbo=>?_
      have hb3:H3 b=none:=by
       cases q:H3 b with
       | none=>rfl
       | some u=>unfold Hnew at hbo;rw[q] at hbo;cases hbo
      have hbH:H b=none:=by
       cases q:H b with
       | none=>rfl
       | some u=>obtain⟨u',hu⟩:=S3.dm b u q;rw[hb3] at hu;cases hu
      unfold Hnew;rw[hbH];show Hv5 b=some o
      rw[x5.all b hb3];exact Hnew.sub b o hbo
    ·rw[if_neg hfull] at hst
     refine lz (by simp;omega) ?_
     cases hs:w.sto[c.ix]? with
     | none=>simp only[hs] at hst;exact(show False from hst).elim
     | some as=>
      simp only[hs] at hst;by_cases hat:c.at_<as.length
      ·rw[if_pos hat] at hst
       obtain⟨rvs,hR,pR⟩:=W3.row;have lr:=pR.length;simp only at lr;refine⟨_,rfl,a,CW,dx3,_,_,rfl,hA3,T.clW,T.nRows,oS,rl,rvs,rfl,.inl (SqL.of hR),(by show 2<=sizeLine;decide),λ t ht=>?_⟩;have e4:=Ext.new1 x3.vh ht (.tup [.str yF,.int rvs.length]);have W4:=W3.ext e4;have S4:=S3.trans (Stp.ext e4);have hcx4:=e4.vv _ _ hcx3;obtain⟨b',hb',avs,hB,pA⟩:=Paired.gets W4.sto hs;rw[hb] at hb';cases hb';have la:=pA.length;refine⟨_,rfl,cx,CC,dc,_,_,rfl,W4.sv _ _ hcx4,T.clC,T.nAnswers,m9,_,rfl,cx,CC,dc,_,_,rfl,W4.sv _ _ hcx4,T.clC,T.nAt,Ab,b,avs,(c.at_:Int),c.at_,rfl,rfl,hB,vk (by omega),?_⟩;have ht0:H₀ t=none:=W3.oh.free ht;have W5:=W4.setSto (as:=as.set c.at_ (.row w.rows.length)) (vs:=avs.set c.at_ (.ref t)) hb (Paired.set (show AnAt _ _ (An.row w.rows.length) (V.ref t) from ⟨t,rfl,by rw[ai,lr],ht0⟩) pA c.at_);have S5:=S4.trans (Stp.write (m:=b) (o:=.lst (avs.set c.at_ (.ref t))) (by simp[BB hb]) (by intro _ _ z;cases z));obtain⟨dx5,wa5,hA5,rW5⟩:=W5.slf;generalize hrw:Dv.rowW k { w with gone:=w.gone+1,wait:=w.wait.dropLast,sto:=w.sto.set c.ix (as.set c.at_ (.row w.rows.length)) } c.laid (.dct ks ds)=rr at hst;have hrr:∃ w',rr=.row w':=by
        rcases nI k { w with gone:=w.gone+1,wait:=w.wait.dropLast,sto:=w.sto.set c.ix (as.set c.at_ (.row w.rows.length)) } c.laid (.dct ks ds) with z|⟨w',z⟩
        ·rw[hrw] at z;subst z;exact(show False from hst).elim
        ·exact⟨w',hrw.symm.trans z⟩
       obtain⟨w',rfl⟩:=hrr;refine⟨_,rfl,a,dx5,_,rfl,hA5,ua,_,rfl,cx,CC,dc,_,_,rfl,W5.sv _ _ hcx4,T.clC,T.nLaid,pQ,_,rfl,?_⟩;exact⟨a,wl,rl,an,_,_,_,H₀,_,c.laid,.dct ks ds,w',rfl,W5,rl3.same e4.vv,rp3.same e4.vv,hrw,λ Hs' H' an' W' S'=>hst Hs' H' an' W' (S5.trans S')⟩
      ·rw[if_neg hat] at hst;exact(show False from hst).elim
   | _=>simp only[hfp] at hst;exact(show False from hst).elim
structure Bs (Hv₀ H₀ Hs H:Hp):Prop where
 vv:Same Hv₀ Hs
 nw:∀ b o,Hs b=some o->Hv₀ b=none->H₀ b=none
 nf:∀ b o u,H₀ b=none->H b≠some (.frz o u)
theorem Bs.stp {Hv₀ H₀ Hs H Hs' H':Hp}{M M':List Addr}(x:Bs Hv₀ H₀ Hs H)(oh:Same H₀ H)(s:Stp Hs H M Hs' H' M'):Bs Hv₀ H₀ Hs' H':=by
 refine⟨x.vv.trans s.ss,λ b o h n=>?_,λ b o u h z=>x.nf b o u h (s.fz b o u z)⟩;cases q:Hs b with
 | some u=>exact x.nw b u q n
 | none=>exact oh.free (s.nw b o h q)
theorem Bs.fin {Hv₀ H₀ Hs H:Hp}(x:Bs Hv₀ H₀ Hs H)(oh:Same H₀ H)(sv:Same Hs H):∃ Hv2,Ext Hv₀ H₀ Hv2 H/\Same Hs Hv2/\∀ b,H₀ b=none->Hv2 b=H b:=by
 let Hv2:Hp:=λ b=>match H₀ b with
  | none=>H b
  | some _=>Hs b
 have a1:∀ b,H₀ b=none->Hv2 b=H b:=λ b h=>by show (match H₀ b with|none=>H b|some _=>Hs b)=_;rw[h]
 have a2:∀ b o,H₀ b=some o->Hv2 b=Hs b:=λ b o h=>by show (match H₀ b with|none=>H b|some _=>Hs b)=_;rw[h]
 have a3:Same Hs Hv2:=λ b o h=>by
  cases q:H₀ b with
  | none=>rw[a1 b q];exact sv b o h
  | some u=>rw[a2 b u q];exact h
 refine⟨Hv2,⟨oh,x.vv.trans a3,λ b o h=>?_,λ b o h n=>?_,a1,x.nf⟩,a3,a1⟩
 ·cases q:H₀ b with
  | none=>rw[a1 b q] at h;exact h
  | some u=>rw[a2 b u q] at h;exact sv b o h
 ·cases q:H₀ b with
  | none=>rfl
  | some u=>rw[a2 b u q] at h;rw[x.nw b o h n] at q;cases q
abbrev Ao (K:Er):TT:=lF (tOp (rI0 λ i j=>.bl (decide (j<i))) (tCB (sG K) (aZ (gO K (bc 0) "waiting") bR)) (tC (.int 0)))
def AR (K:Er)(CW CC:Addr)(cls:String->Value)(k:Wk)(E:XK):TS:=
 cJ (jb (lE bR) (dZ 1)) (cJ (sN (Ao K)
  (cJ (jb (pf CW "go_on" (sj K CW CC cls k) [] E (bc 0) bR) (dZ 2)) (tD (tB (xJ (bc 2))) (fI (tBM K "list" dg (bc 1) (aZ (bc 2) bR))) o7)))
  (ui (bc 1)))
def jy (K:Er)(CW CC:Addr)(cls:String->Value)(k:Wk):Sp:=λ vs H Q E=>∃ (a wl rl:Addr) (an:List Addr) (Hs Hv₀ H₀:Hp) (w:Ws),vs=[.ref a]/\WkAt K CW CC Hs H H₀ a wl rl an w/\Bs Hv₀ H₀ Hs H/\Ok K Hv₀ H₀ E cls (Dv.allGo k 2002 w []) Q
theorem sr {K:Er}{CW CC:Addr}{cls:String->Value}{k:Wk}(vs:List V)(H:Hp)(Q:VK)(E:XK)(h:jy K CW CC cls k vs H Q E):vs.length=1:=by
 obtain⟨_,_,_,_,_,_,_,_,rfl,_⟩:=h;rfl
theorem fY {H₀ Hs Hs':Hp}(s:Same Hs Hs'):Same (Hnew H₀ Hs) (Hnew H₀ Hs'):=Hnew.mono (.refl _) s
theorem rL {H₀ H Hs:Hp}(s:Same H₀ H):Same (Hnew H Hs) (Hnew H₀ Hs):=Hnew.mono s (.refl _)
theorem uP {K:Er}{CW CC:Addr}{cls:String->Value}{k:Wk}{E:XK}{vs:List V}{H:Hp}{Q:VK}(T:WkT K CW CC)(h:jy K CW CC cls k vs H Q E):
  AR K CW CC cls k E { nx:=λ _ H'=>Q .non H',rt:=Q } (L2.start ["walk","fillings","found"] vs) H:=by
 obtain⟨a,wl,rl,an,Hs,Hv₀,H₀,w,rfl,W,B,ok⟩:=h;refine⟨(by show 0<=sizeLine;decide),λ fl hfl=>?_⟩;have nfl:fl∉a::wl::rl::an:=λ z=>by obtain⟨o,ho⟩:=W.has fl z;rw[hfl] at ho;cases ho
 refine⟨λ m σ Hc=>∃ Hs1 an1 w1 vf acc fvs,σ=[some (.ref a),some (.ref fl),vf]/\WkAt K CW CC Hs1 Hc H₀ a wl rl an1 w1/\Bs Hv₀ H₀ Hs1 Hc/\(Hs1 fl=none/\H₀ fl=none/\fl∉a::wl::rl::an1)/\Hc fl=some (.lst fvs)/\RpL [] (Hnew H₀ Hs1) acc fvs/\Ok K Hv₀ H₀ E cls (Dv.allGo k m w1 acc) Q,?_,?_⟩
 ·refine⟨2002,Hs,an,w,none,[],[],rfl,W.other (W.sv.free hfl) (W.oh.free hfl) nfl,⟨B.vv,B.nw,λ b o u hb z=>?_⟩,⟨W.sv.free hfl,W.oh.free hfl,nfl⟩,ai,.nil,ok⟩
  by_cases e:b=fl
  ·subst e;rw[ai] at z;cases z
  ·rw[ag e] at z;exact B.nf b o u hb z
 ·rintro m σ Hc ⟨Hs1,an1,w1,vf,acc,fvs,rfl,W1,B1,⟨n1,n2,n3⟩,hF,rF,ok1⟩
  cases m with
  | zero=>exact(show False from ok1).elim
  | succ n=>
   obtain⟨dx,wa,hA,rW⟩:=W1.slf;obtain⟨cvs,hC,pC⟩:=W1.wai;have lc:=pC.length;refine⟨_,rfl,a,CW,dx,_,_,rfl,hA,T.clW,T.nWaiting,eR,wl,cvs,rfl,.inl (SqL.of hC),_,_,rfl,rfl,_,rfl,?_⟩;rw[<- lc];have fr:∀ {acc:List D} {vs:List V},RpL [] (Hnew H₀ Hs1) acc vs->RpL K Hs1 acc vs:=λ h=>(RpL.frag h).same Hnew.sub
   unfold Dv.allGo at ok1;cases hw:w1.wait with
   | nil=>
    rw[hw] at ok1;simp only[List.isEmpty_nil,if_true] at ok1;refine lz (by simp) ?_
    obtain⟨Hv2,x2,s2,a2⟩:=B1.fin W1.oh W1.sv;refine⟨_,rfl,ok1 (.ref fl) Hv2 Hc x2 ?_ λ _=>?_⟩
    ·unfold Rp
     exact⟨fl,fvs,rfl,SqX.of (by rw[a2 fl n2];exact hF),(fr rF).same s2⟩
    ·unfold Rp
     refine⟨fl,fvs,rfl,SqX.of (by unfold Hnew;rw[n2];exact hF),rF.same (fY W1.sv)⟩
   | cons c0 cr=>
    rw[hw] at ok1;simp only[List.isEmpty_cons,Be,if_false] at ok1;refine iM (by simp) ?_
    refine⟨λ σ' H'=>∃ Hs1 an1 w1 vf acc fvs,σ'=[some (.ref a),some (.ref fl),vf]/\WkAt K CW CC Hs1 H' H₀ a wl rl an1 w1/\Bs Hv₀ H₀ Hs1 H'/\(Hs1 fl=none/\H₀ fl=none/\fl∉a::wl::rl::an1)/\H' fl=some (.lst fvs)/\RpL [] (Hnew H₀ Hs1) acc fvs/\Ok K Hv₀ H₀ E cls (Dv.allGo k n w1 acc) Q,λ σ' H' h=>⟨n,BF _,h⟩,?_⟩;refine⟨_,rfl,a,dx,_,rfl,hA,zR,a,wl,rl,an1,Hs1,H₀,w1,rfl,W1,?_⟩;have far:∀ {Hs' H':Hp} {an':List Addr},Stp Hs1 Hc (a::wl::rl::an1) Hs' H' (a::wl::rl::an')->(Hs' fl=none/\H₀ fl=none/\fl∉a::wl::rl::an')/\H' fl=some (.lst fvs):=λ {Hs' H' an'} S=>by
     refine⟨⟨?_,n2,λ z=>?_⟩,S.kp fl _ hF n3⟩
     ·cases q:Hs' fl with
      | none=>rfl
      | some o=>rw[S.nw fl o q n1] at hF;cases hF
     ·rcases S.mm fl z with z|z
      ·exact n3 z
      ·rw[z] at hF;cases hF
    cases hs:Dv.stepW k w1 with
    | many=>
     simp only[hs] at ok1
     rintro Hs' H' an' ⟨w',W'⟩ S'
     obtain⟨Hv2,x2,_⟩:=(B1.stp W1.oh S').fin W'.oh W'.sv;exact ok1 Hv2 H' x2
    | bad=>simp only[hs] at ok1;exact(show False from ok1).elim
    | row w'=>
     simp only[hs] at ok1;intro Hs' H' an' W' S';obtain⟨f1,f2⟩:=far S';refine⟨_,rfl,_,rfl,?_⟩;refine lz (by simp) ?_
     exact⟨Hs',an',w',_,acc,fvs,rfl,W',B1.stp W1.oh S',f1,f2,rF.same (fY S'.ss),ok1⟩
    | full w' d fr0=>
     simp only[hs] at ok1;cases d with
     | lst es=>
      simp only at ok1;by_cases hb:(fr0&&decide (acc.length<Dv.mx))=true
      ·rw[if_pos hb] at ok1
       rw[Bj,decide_eq_true_eq] at hb;intro v Hs' H' an' W' S' rp nn;obtain⟨f1,f2⟩:=far S';have rp':=rp;unfold Rp at rp';obtain⟨p,pvs,rfl,_,_⟩:=rp';have lf:=rF.length;refine⟨_,rfl,_,rfl,?_⟩;refine iM (by simp) ?_
       refine⟨_,rfl,.inl ⟨rfl,_,SqL.of f2⟩,_,rfl,fl,fvs,.ref p,rfl,rfl,f2,by have:=eC hb.2;omega,?_⟩;refine⟨Hs',an',w',_,acc++[.lst es],fvs++[.ref p],rfl,W'.other f1.1 f1.2.1 f1.2.2,?_,f1,ai,?_,ok1⟩
       ·have B':=B1.stp W1.oh S'
        refine⟨B'.vv,B'.nw,λ b o u hb z=>?_⟩;by_cases e:b=fl
        ·subst e;rw[ai] at z;cases z
        ·rw[ag e] at z;exact B'.nf b o u hb z
       ·exact(rF.same (fY S'.ss)).append (.cons ((nn hb.1).same (rL W1.oh)) .nil)
      ·rw[if_neg hb] at ok1;exact(show False from ok1).elim
     | _=>exact(show False from ok1).elim
open Dv (D R RL EE EL EI RI Sl Out SS Wy An Cs Ws WR Wk PR)
structure Mf (K:Er)(x qual:Str)(st:Stmt)(ps:List Str)(f:Addr)(fd:FuncData):Prop where
 ex:∃ (oc:Value) (od:Option Addr) (dV kV doc pm:Value) (an:Option Addr) (cdv ct:Value) (osl:Array (Option Value)),
  fd=EC x qual (aO st) (aE st) (ae st) dV kV doc pm an cdv ct/\K.lookup f=some ⟨oc,od,.func fd,osl⟩/\E7 K cdv qual=true
 bd:Binds K fd ps []
section
variable {P:Program}{w:World}{K:Er}{mg:Str->Option Value}{base:Heap}{CX:CXT}
theorem pG {x qual:Str}{st:Stmt}{ps:List Str}{f:Addr}{oc:Value}{od an:Option Addr}{osl:Array (Option Value)}{dV kV doc pm cdv ct:Value}(l:K.lookup f=some ⟨oc,od,.func (EC x qual (aO st) (aE st) (ae st) dV kV doc pm an cdv ct),osl⟩)
  (c:E7 K cdv qual=true)
  (h:∀ (kV doc pm:Value) (an:Option Addr) (cdv ct:Value) (us:List Value),us.length=ps.length->bindArgs (EC x qual (aO st) (aE st) (ae st) dV kV doc pm an cdv ct) ⟨us,[]⟩=pure (ps.zip us)):
  Mf K x qual st ps f (EC x qual (aO st) (aE st) (ae st) dV kV doc pm an cdv ct):=⟨⟨oc,od,dV,kV,doc,pm,an,cdv,ct,osl,rfl,l,c⟩,.all (h kV doc pm an cdv ct)⟩
theorem Mf.okL {x qual:Str}{st:Stmt}{f:Addr}{fd:FuncData}{ps:List Str}{sp:Sp}(N:List Str)(k:Nat)(d:Mf K x qual st ps f fd)(S:FnScope N ps (ae st))(len:∀ vs H Q E,sp vs H Q E->vs.length=ps.length)
  (hbody:∀ (cdv:Value) (A:Around) (outer:List EO) (s:Shared) (H:Hp) (vs:List V) (Q:VK) (E:XK) (hr:Room k (A.deeper (envOfC qual (ae st) s.heap.objs.size f cdv))),sp vs H Q E ->
   ∃ t,PSs (cq CX P w K mg base N qual (ae st) f cdv A outer s H E) (aE st) t/\t { nx:=λ _ H'=>Q .non H',rt:=Q } (L2.start N vs) H):FnOk P w K mg base CX (k+1) f fd ps sp:=by
 obtain⟨oc,od,dV,kV,doc,pm,an,cdv,ct,osl,rfl,lk,hcd⟩:=d.ex;exact pM lk hcd S len λ A outer s H vs Q E hr hsp=>hbody cdv A outer s H vs Q E hr hsp
theorem Df.okL {x:Str}{st:Stmt}{f:Addr}{fd:FuncData}{ps:List Str}{sp:Sp}(N:List Str)(k:Nat)(d:Df K mg x st ps f fd)(S:FnScope N ps (ae st))(len:∀ vs H Q E,sp vs H Q E->vs.length=ps.length)
  (hbody:∀ (cdv:Value) (A:Around) (outer:List EO) (s:Shared) (H:Hp) (vs:List V) (Q:VK) (E:XK) (hr:Room k (A.deeper (envOfC x (ae st) s.heap.objs.size f cdv))),sp vs H Q E ->
   ∃ t,PSs (cq CX P w K mg base N x (ae st) f cdv A outer s H E) (aE st) t/\t { nx:=λ _ H'=>Q .non H',rt:=Q } (L2.start N vs) H):FnOk P w K mg base CX (k+1) f fd ps sp:=by
 obtain⟨oc,od,dV,kV,doc,pm,an,cdv,ct,osl,rfl,lk,hcd⟩:=d.ex;exact pM lk hcd S len λ A outer s H vs Q E hr hsp=>hbody cdv A outer s H vs Q E hr hsp
end
theorem g7:∀ {ds:List D} {ns:List Int},Dv.intsOf ds=some ns->ds=ns.map .int
 | [],ns,h=>by simp[Dv.intsOf] at h;subst h;rfl
 | d::r,ns,h=>by
  cases d with
  | int i=>
   simp only[Dv.intsOf,B3] at h;obtain⟨ms,h1,rfl⟩:=h;rw[g7 h1];rfl
  | _=>simp[Dv.intsOf] at h
theorem yU {d:D}{w:Wy}(h:Dv.deW d=some w):d=w.d:=by
 unfold Dv.deW at h
 split at h
 ·split at h
  ·rename_i s ps ns hn
   cases h;rw[g7 hn];rfl
  ·cases h
 ·cases h
theorem oo:∀ {ds:List D} {l:List Wy},Dv.deWL ds=some l->ds=l.map Wy.d
 | [],l,h=>by simp[Dv.deWL] at h;subst h;rfl
 | d::r,l,h=>by
  unfold Dv.deWL at h
  split at h
  ·rename_i w ws h1 h2
   cases h;rw[yU h1,oo h2];rfl
  ·cases h
theorem va {d:D}{l:List Wy}(h:Dv.deL d=some l):d=Dv.wyL l:=by
 unfold Dv.deL at h
 split at h
 ·rw[oo h];rfl
 ·cases h
theorem pY:∀ {ds:List D} {l:List (List Wy)},Dv.deLL ds=some l->ds=l.map Dv.wyL
 | [],l,h=>by simp[Dv.deLL] at h;subst h;rfl
 | d::r,l,h=>by
  unfold Dv.deLL at h
  split at h
  ·rename_i w ws h1 h2
   cases h;rw[va h1,pY h2];rfl
  ·cases h
theorem vG {d:D}{l:List (List Wy)}(h:Dv.deWs d=some l):d=Dv.wysD l:=by
 unfold Dv.deWs at h
 split at h
 ·rw[pY h];rfl
 ·cases h
def OkP (K:Er)(CW CC:Addr)(cls:String->Value)(Hv H:Hp)(r:PR)(Q:VK)(E:XK):Prop:=match r with
 | .exc c=>∀ Hv' H',Ext Hv H Hv' H'->E (cls c) none H'
 | .bad=>False
 | .ok wys laid=>∀ a wl rl an Hs' H',WkAt K CW CC Hs' H' H a wl rl an (Dv.w0 wys laid)->Bs Hv H Hs' H'->Q (.ref a) H'
def qW (K:Er)(CW CC:Addr)(cls:String->Value)(F:List D->PR)(n:Nat):Sp:=λ vs H Q E=>∃ (ds:List D) (Hv:Hp),ds.length=n/\Same Hv H/\RpL K Hv ds vs/\OkP K CW CC cls Hv H (F ds) Q E
theorem uu {K:Er}{CW CC:Addr}{cls:String->Value}{F:List D->PR}{n:Nat}(vs:List V)(H:Hp)(Q:VK)(E:XK)(h:qW K CW CC cls F n vs H Q E):vs.length=n:=by
 obtain⟨ds,Hv,h1,_,h3,_⟩:=h;rw[h3.length];exact h1
theorem lT {K:Er}{Hv:Hp}{ds:List D}{vs:List V}{N:List Str}(r:RpL K Hv ds vs):EnvR K Hv (ds.map some) (L2.start N vs):=λ i d h=>by
 rw[Bv] at h;cases q:ds[i]? with
 | none=>rw[q] at h;cases h
 | some d'=>
  rw[q] at h;cases h;obtain⟨v,h1,h2⟩:=r.get q;exact⟨v,jD h1,h2⟩
theorem qM {K:Er}{CW CC:Addr}{Hv H Hv2 H2:Hp}{wa lb:Addr}{wys:List (List Wy)}{laid:List Wy}{Q:VK}{E:XK}(x2:Ext Hv H Hv2 H2)(r1:Rp K Hv2 (Dv.wysD wys) (.ref wa))(r2:Rp K Hv2 (Dv.wyL laid) (.ref lb))
  (h:∀ a wl rl an Hs' H',WkAt K CW CC Hs' H' H a wl rl an (Dv.w0 wys laid)->Bs Hv H Hs' H'->Q (.ref a) H'):
  ∀ x dx,H2 x=none->H2 dx=none->dx≠x->nj K CW CC (.ref x::([.ref wa,.ref lb]++[])) (upd (upd H2 dx (.own x)) x (.ins CW dx [])) (λ v H3=>v=.non/\Q (.ref x) H3) E:=by
 intro x dx hx hdx hne;have s1:∀ {Ha:Hp},Same Ha H2->Same Ha (upd (upd H2 dx (.own x)) x (.ins CW dx [])):=λ {Ha} s b o e=>by
  rw[ag (au e (s.free hx)),ag (au e (s.free hdx))];exact s b o e
 refine⟨x,dx,wa,lb,Hv2,H,wys,laid,rfl,ai,s1 x2.vh,x2.vh.free hx,s1 x2.hh,x2.hh.free hx,r1,r2,λ Hs' H' wl rl an W S=>⟨rfl,h x wl rl an Hs' H' W ⟨x2.vv.trans S.ss,λ b o q n=>?_,λ b o u q z=>?_⟩⟩⟩
 ·cases q2:Hv2 b with
  | some u=>exact x2.new b u q2 n
  | none=>
   have h3:=S.nw b o q q2;obtain⟨_,h4⟩:=aM h3;obtain⟨_,h5⟩:=aM h4;exact x2.hh.free h5
 ·have z2:=S.fz b o u z
  by_cases e:b=x
  ·subst e;rw[ai] at z2;cases z2
  rw[ag e] at z2;by_cases e2:b=dx
  ·subst e2;rw[ai] at z2;cases z2
  rw[ag e2] at z2;exact x2.nf b o u q z2
theorem wH {C:Ctx}{CW CC:Addr}{E:XK}{tw tl:TE}{fw fl:EE}{N:List Str}{n:Nat}{vs:List V}{H:Hp}{Q:VK}(hW:∀ σ,C.W σ=E)(qw:Tak C tw fw)(ql:Tak C tl fl)(h:qW C.X.K CW CC C.cls (Dv.pwR fw fl) n vs H Q E):
  ui (oJ CW (nj C.X.K CW CC) [] E (aZ tw (aZ tl bR))) { nx:=λ _ H'=>Q .non H',rt:=Q } (L2.start N vs) H:=by
 obtain⟨ds,Hv,hl,sv,rp,ok⟩:=h;unfold Dv.pwR at ok;refine qw _ H Hv (ds.map some) _ (lT rp) sv ?_
 rw[hW];cases hf:fw (ds.map some) with
 | bad=>simp only[hf] at ok;exact ok
 | exc c=>simp only[hf] at ok;exact ok
 | ok dw fr=>
  simp only[hf] at ok;intro v1 Hv1 H1 x1 rp1 nn1;refine ql _ H1 Hv1 (ds.map some) _ (lT (rp.same x1.vv)) x1.vh ?_
  rw[hW];cases hg:fl (ds.map some) with
  | bad=>simp only[hg] at ok;exact ok
  | exc c=>simp only[hg] at ok;exact λ Hv' H' y=>ok Hv' H' (x1.trans y)
  | ok dl fr2=>
   simp only[hg] at ok;intro v2 Hv2 H2 x2 rp2 nn2
   split at ok
   ·rename_i wys laid h1 h2
    rw[vG h1] at rp1;rw[va h2] at rp2;have rp1':=rp1;have rp2':=rp2;unfold Dv.wysD Rp at rp1';obtain⟨wa,_,rfl,_,_⟩:=rp1';obtain⟨lb,_,rfl,_,_⟩:=nU rp2';exact qM (x1.trans x2) (rp1.same x2.vv) rp2 ok
   ·exact(show False from ok).elim
theorem nW {C:Ctx}{CW CC:Addr}{k:Wk}{F:List D->PR}{e:Expr}{es:List Expr}{fl:EL}{m jA jP:Nat}{fA fP:Addr}{fdA fdP:FuncData}{sA sP:Stmt}{ps:List Str}{xA xP:Str}{pA pP pos posP:Pos}
  (dA:Df C.X.K C.X.mg xA sA ["walk"] fA fdA) (oA:FnOk C.X.prog C.X.w C.X.K C.X.mg C.X.base C.CX jA fA fdA ["walk"] (jy C.X.K CW CC C.cls k)) (dP:Df C.X.K C.X.mg xP sP ps fP fdP) (oP:FnOk C.X.prog C.X.w C.X.K C.X.mg C.X.base C.CX jP fP fdP ps (qW C.X.K CW CC C.cls F ps.length))
  (hr:Room m C.X.A) (hjA:jA<=m) (hjP:jP<=m) (hgA:Gl C.X xA) (hgP:Gl C.X xP) (ha:SL C (e::es) fl) (hlen:autoParam ((e::es).length=ps.length) ZF._auto_1) (hdA:autoParam ((xA == ("__debug__":Str))=false) ZC._auto_1) (hdP:autoParam ((xP == ("__debug__":Str))=false) ZC._auto_1)
  (heA:autoParam (starEach [.Call (.Name xP pP) (e::es) [] posP] C.X.env=(false,eval (.Call (.Name xP pP) (e::es) [] posP) C.X.env)::starEach [] C.X.env) ZF._auto_1) (hplA:autoParam ((backTo pos (starEach [] C.X.env)).any (·.1)=false) ZF._auto_1)
  (heP:autoParam (starEach (e::es) C.X.env=(false,eval e C.X.env)::starEach es C.X.env) ZF._auto_1) (hplP:autoParam ((backTo posP (starEach es C.X.env)).any (·.1)=false) ZF._auto_1):
  SE C (.Call (.Name xA pA) [.Call (.Name xP pP) (e::es) [] posP] [] pos) (λ ρ=>(fl ρ).bind λ ds _=>match F ds with
   | .exc c=>.exc c
   | .bad=>.bad
   | .ok wys laid=>Dv.allGo k 2002 (Dv.w0 wys laid) []):=by
 obtain⟨t,pa,qa,hl⟩:=ha;refine⟨_,i6 (W:=C.W) (oA.mono hjA) hr hgA dA.m dA.kp dA.bd .nil C.pass (ar (i6 (W:=C.W) (oP.mono hjP) hr hgP dP.m dP.kp dP.bd .nil C.pass pa hdP heP hplP) az heA) hdA heA hplA,λ σ H Hv ρ Q er s w=>?_⟩;refine qa.step er (.refl s) w λ vs ds fr Hv1 H1 hf x1 _ rp _ w1=>?_
 refine⟨ds,Hv1,by rw[hl ρ ds fr hf];exact hlen,x1.vh,by rw[B6];exact rp,?_⟩;cases hF:F ds with
 | exc c=>simp only[hF] at w1;exact λ Hv' H' y=>w1 Hv' H' (x1.trans y)
 | bad=>simp only[hF] at w1;exact w1
 | ok wys laid=>
  simp only[hF] at w1;intro a wl rl an Hs' H' W B;exact⟨a,wl,rl,an,Hs',Hv1,H1,_,rfl,W,B,Ok.later x1 w1⟩
open PySem PySem.W PyProof.Rows
def ev {α:Type}(c:Nat->Nat->Bool):KasT α->α
 | .ret a=>a
 | .ask i j k=>ev c (k (c i j))
theorem eu {α β:Type}(c:Nat->Nat->Bool)(f:α->KasT β):∀ t:KasT α,ev c (t.bind f)=ev c (f (ev c t))
 | .ret _=>rfl
 | .ask i j k=>eu c f (k (c i j))
def inn {α:Type}(n:Nat)(c:Nat->Nat->Bool):KasT α->Prop
 | .ret _=>True
 | .ask i j k=>i<n/\j<n/\inn n c (k (c i j))
theorem de {α β:Type}{n:Nat}{c:Nat->Nat->Bool}{f:α->KasT β}:∀ {t:KasT α},inn n c t->inn n c (f (ev c t))->inn n c (t.bind f)
 | .ret _,_,h=>h
 | .ask i j k,⟨h1,h2,h3⟩,h=>⟨h1,h2,de h3 h⟩
theorem xp {α:Type}{n:Nat}{c:Nat->Nat->Bool}{cmp:Nat->Nat->(Bool->Shared->Prop)->Shared->Prop}{s:Shared}(hc:∀ i j C,i<n->j<n->C (c i j) s->cmp i j C s):∀ {t:KasT α} {Q:α->Shared->Prop},inn n c t->Q (ev c t) s->t.kasWp cmp Q s
 | .ret _,_,_,h=>h
 | .ask i j k,Q,⟨h1,h2,h3⟩,h=>hc i j _ h1 h2 (xp hc h3 h)
section
variable {key:Nat->Int}{n:Nat}
abbrev cK (key:Nat->Int):Nat->Nat->Bool:=λ i j=>decide (key i<key j)
def KA (key:Nat->Int)(p:Array Nat)(k:Nat):Int:=key (p.getD k 0)
def Pm (n:Nat)(p:Array Nat):Prop:=p.size=n/\p.toList.Perm (List.range n)
theorem Pm.lt {p:Array Nat}(h:Pm n p){k:Nat}(hk:k<n):p.getD k 0<n:=by
 have hs:k<p.size:=by rw[h.1];exact hk
 have e:p.getD k 0=p[k]:=by simp[EK,hs]
 rw[e];have:p[k]∈p.toList:=by simp
 exact List.mem_range.mp (h.2.mem_iff.mp this)
theorem Pm.of {p q:Array Nat}(h:Pm n p)(e:q.Perm p):Pm n q:=⟨e.size_eq.trans h.1,(Array.perm_iff_toList_perm.mp e).trans h.2⟩
theorem mQ {p q:Array Nat}{i j:Nat}(h:p[i]?=q[j]?):KA key p i=KA key q j:=by
 unfold KA;congr 1;have g:∀ (r:Array Nat) (k:Nat),r.getD k 0=(r[k]?).getD 0:=λ r k=>by
  by_cases hk:k<r.size <;>simp[EK,hk]
 rw[g,g,h]
theorem nS {p:Array Nat}{i j:Nat}(hj:j<=p.size)(k:Nat):KA key (kas_rev p i j) k=if i<=k/\k<j then KA key p (i+j-1-k) else KA key p k:=by
 have e:=getElem?_mirror_all (i:=i) hj k;unfold kas_rev
 split
 ·rename_i h;rw[if_pos h] at e;exact mQ e
 ·rename_i h;rw[if_neg h] at e;exact mQ e
theorem Pm.rev {p:Array Nat}(h:Pm n p)(i j:Nat):Pm n (kas_rev p i j):=h.of (mirror_perm _ _ _ _)
def Up (key:Nat->Int)(p:Array Nat)(m:Nat):Prop:=∀ i j,i<=j->j<m->KA key p i<=KA key p j
def Dn (key:Nat->Int)(p:Array Nat)(m:Nat):Prop:=∀ i j,i<=j->j<m->KA key p j<=KA key p i
theorem Up.step {p:Array Nat}{m:Nat}(h:Up key p m)(h1:1<=m)(q:KA key p (m-1)<=KA key p m):Up key p (m+1):=λ i j hij hj=>by
 by_cases e:j=m
 ·subst e
  by_cases e2:i=j
  ·subst e2;exact Cy _
  ·exact DT (h i (j-1) (by omega) (by omega)) q
 ·exact h i j hij (by omega)
theorem Dn.step {p:Array Nat}{m:Nat}(h:Dn key p m)(h1:1<=m)(q:KA key p m<=KA key p (m-1)):Dn key p (m+1):=λ i j hij hj=>by
 by_cases e:j=m
 ·subst e
  by_cases e2:i=j
  ·subst e2;exact Cy _
  ·exact DT q (h i (j-1) (by omega) (by omega))
 ·exact h i j hij (by omega)
theorem nA {p:Array Nat}(hp:Pm n p):∀ (f m:Nat),1<=m->m+f<=n->Up key p m->inn n (cK key) (kas_asc p f m)/\m<=ev (cK key) (kas_asc p f m)/\ev (cK key) (kas_asc p f m)<=m+f/\Up key p (ev (cK key) (kas_asc p f m))/\(ev (cK key) (kas_asc p f m)<m+f->KA key p (ev (cK key) (kas_asc p f m))<KA key p (ev (cK key) (kas_asc p f m)-1))
 | 0,m,_,_,hu=>⟨trivial,Bh _,Bh _,hu,λ h=>absurd h (by simp[kas_asc,ev])⟩
 | f+1,m,h1,hm,hu=>by
  have ha:=hp.lt (k:=m) (by omega);have hb:=hp.lt (k:=m-1) (by omega);unfold kas_asc;simp only[ev,inn];by_cases hc:KA key p m<KA key p (m-1)
  ·have e:cK key (p.getD m 0) (p.getD (m-1) 0)=true:=decide_eq_true hc
   rw[e];simp only[if_true,ev,inn];exact⟨⟨ha,hb,trivial⟩,Bh _,by omega,hu,λ _=>hc⟩
  ·have e:cK key (p.getD m 0) (p.getD (m-1) 0)=false:=decide_eq_false hc
   rw[e];simp only[Be,if_false];obtain⟨a1,a2,a3,a4,a5⟩:=nA hp f (m+1) (by omega) (by omega) (hu.step h1 (by omega));exact⟨⟨ha,hb,a1⟩,by omega,by omega,a4,λ h=>a5 (by omega)⟩
theorem i5 {p:Array Nat}{i j:Nat}(hj:j<=p.size)(h:∀ k,i<=k->k<j->KA key p k=KA key p (j-1))(k:Nat):KA key (kas_rev p i j) k=KA key p k:=by
 rw[nS hj]
 split
 ·rename_i hk;rw[h _ (by omega) (by omega),h k hk.1 hk.2]
 ·rfl
theorem Dn.congr {p q:Array Nat}{m:Nat}(h:Dn key p m)(e:∀ k,KA key q k=KA key p k):Dn key q m:=λ i j a b=>by rw[e,e];exact h i j a b
theorem gZ:∀ (f:Nat) (p:Array Nat) (m q:Nat),Pm n p->1<=m->m+f<=n->q+1<=m->Dn key p m->(∀ k,m-(q+1)<=k->k<m->KA key p k=KA key p (m-1)) ->
  inn n (cK key) (Fe f p m q)/\Pm n (ev (cK key) (Fe f p m q)).1/\m<=(ev (cK key) (Fe f p m q)).2.1/\(ev (cK key) (Fe f p m q)).2.1<=m+f/\(ev (cK key) (Fe f p m q)).2.2+1<=(ev (cK key) (Fe f p m q)).2.1 /\
  Dn key (ev (cK key) (Fe f p m q)).1 (ev (cK key) (Fe f p m q)).2.1/\∀ k,(ev (cK key) (Fe f p m q)).2.1-((ev (cK key) (Fe f p m q)).2.2+1)<=k->k<(ev (cK key) (Fe f p m q)).2.1->KA key (ev (cK key) (Fe f p m q)).1 k=KA key (ev (cK key) (Fe f p m q)).1 ((ev (cK key) (Fe f p m q)).2.1-1)
 | 0,p,m,q,hp,h1,hm,hq,hd,he=>⟨trivial,hp,Bh _,Bh _,hq,hd,he⟩
 | f+1,p,m,q,hp,h1,hm,hq,hd,he=>by
  have ha:=hp.lt (k:=m) (by omega);have hb:=hp.lt (k:=m-1) (by omega);unfold Fe;simp only[ev,inn];by_cases hc:KA key p m<KA key p (m-1)
  ·have e:cK key (p.getD m 0) (p.getD (m-1) 0)=true:=decide_eq_true hc
   rw[e];simp only[if_true];by_cases h0:q > 0
   ·rw[if_pos h0]
    have ek:∀ k,KA key (kas_rev p (m-(q+1)) m) k=KA key p k:=i5 (by rw[hp.1];omega) he;obtain⟨a1,a2,a3,a4,a5⟩:=gZ f (kas_rev p (m-(q+1)) m) (m+1) 0 (hp.rev _ _) (by omega) (by omega) (by omega) ((hd.congr ek).step h1 (by rw[ek,ek];omega)) λ k k1 k2=>by
     rw[show k=m+1-1 by omega]
    exact⟨⟨ha,hb,a1⟩,a2,by omega,by omega,a5⟩
   ·rw[if_neg h0]
    obtain⟨a1,a2,a3,a4,a5⟩:=gZ f p (m+1) 0 hp (by omega) (by omega) (by omega) (hd.step h1 (by omega)) λ k k1 k2=>by
     rw[show k=m+1-1 by omega]
    exact⟨⟨ha,hb,a1⟩,a2,by omega,by omega,a5⟩
  ·have e:cK key (p.getD m 0) (p.getD (m-1) 0)=false:=decide_eq_false hc
   rw[e];simp only[Be,if_false,ev,inn];by_cases hc2:KA key p (m-1)<KA key p m
   ·have e2:cK key (p.getD (m-1) 0) (p.getD m 0)=true:=decide_eq_true hc2
    rw[e2];simp only[if_true,ev,inn];exact⟨⟨ha,hb,hb,ha,trivial⟩,hp,Bh _,by omega,hq,hd,he⟩
   ·have e2:cK key (p.getD (m-1) 0) (p.getD m 0)=false:=decide_eq_false hc2
    rw[e2];simp only[Be,if_false];have eq:KA key p m=KA key p (m-1):=by omega
    obtain⟨a1,a2,a3,a4,a5⟩:=gZ f p (m+1) (q+1) hp (by omega) (by omega) (by omega) (hd.step h1 (by omega)) λ k k1 k2=>by
     by_cases z:k=m
     ·subst z;rfl
     ·rw[he k (by omega) (by omega)];exact eq.symm
    exact⟨⟨ha,hb,hb,ha,a1⟩,a2,by omega,by omega,a5⟩
theorem mV {p:Array Nat}{m nr:Nat}(hp:Pm n p)(h1:1<=m)(hm:m<=nr)(hn:nr<=n)(hd:Dn key p m):inn n (cK key) (FL m nr p)/\Pm n (ev (cK key) (FL m nr p)).2/\1<=(ev (cK key) (FL m nr p)).1/\(ev (cK key) (FL m nr p)).1<=nr/\Up key (ev (cK key) (FL m nr p)).2 (ev (cK key) (FL m nr p)).1:=by
 have hr:=hp.rev 0 m;have hu:Up key (kas_rev p 0 m) m:=λ i j hij hj=>by
  rw[nS (by rw[hp.1];omega),nS (by rw[hp.1];omega),if_pos (by omega),if_pos (by omega)];exact hd _ _ (by omega) (by omega)
 obtain⟨a1,a2,a3,a4,_⟩:=nA hr (nr-m) m h1 (by omega) hu;unfold FL;rw[eu];exact⟨de a1 trivial,hr,by simp only[ev];omega,by simp only[ev];omega,a4⟩
theorem gL {p:Array Nat}{m nr:Nat}(hp:Pm n p)(h1:1<=m)(hm:m+1<=nr)(hn:nr<=n)(hd:Dn key p m)(hlt:KA key p m<KA key p (m-1)):
  inn n (cK key) (Fq m nr p)/\Pm n (ev (cK key) (Fq m nr p)).2/\1<=(ev (cK key) (Fq m nr p)).1/\(ev (cK key) (Fq m nr p)).1<=nr/\Up key (ev (cK key) (Fq m nr p)).2 (ev (cK key) (Fq m nr p)).1:=by
 obtain⟨a1,a2,a3,a4,a5,a6,a7⟩:=gZ (key:=key) (nr-(m+1)) p (m+1) 0 hp (by omega) (by omega) (by omega) (hd.step h1 (by omega)) λ k k1 k2=>by rw[show k=m+1-1 by omega]
 have k:∀ r:Array Nat×Nat×Nat,Pm n r.1->m+1<=r.2.1->r.2.1<=m+1+(nr-(m+1))->r.2.2+1<=r.2.1->Dn key r.1 r.2.1->(∀ k,r.2.1-(r.2.2+1)<=k->k<r.2.1->KA key r.1 k=KA key r.1 (r.2.1-1)) ->
   ∀ t,t=(if r.2.2 > 0 then FL r.2.1 nr (kas_rev r.1 (r.2.1-(r.2.2+1)) r.2.1) else FL r.2.1 nr r.1)->inn n (cK key) t/\Pm n (ev (cK key) t).2/\1<=(ev (cK key) t).1/\(ev (cK key) t).1<=nr/\Up key (ev (cK key) t).2 (ev (cK key) t).1:=by
  intro r a2 a3 a4 a5 a6 a7 t ht;subst ht;by_cases h0:r.2.2 > 0
  ·rw[if_pos h0]
   have ek:∀ k,KA key (kas_rev r.1 (r.2.1-(r.2.2+1)) r.2.1) k=KA key r.1 k:=i5 (by rw[a2.1];omega) a7;exact mV (a2.rev (r.2.1-(r.2.2+1)) r.2.1) (by omega) (show r.2.1<=nr by omega) hn (a6.congr ek)
  ·rw[if_neg h0]
   exact mV a2 (by omega) (show r.2.1<=nr by omega) hn a6
 obtain⟨b1,b2⟩:=k _ a2 a3 a4 a5 a6 a7 _ rfl;unfold Fq;rw[eu];exact⟨de a1 b1,b2⟩
theorem uE {p:Array Nat}{nr:Nat}(hp:Pm n p)(h1:1<=nr)(hn:nr<=n):inn n (cK key) (F4 nr p)/\Pm n (ev (cK key) (F4 nr p)).2/\1<=(ev (cK key) (F4 nr p)).1/\(ev (cK key) (F4 nr p)).1<=nr/\Up key (ev (cK key) (F4 nr p)).2 (ev (cK key) (F4 nr p)).1:=by
 obtain⟨a1,a2,a3,a4,a5⟩:=nA (key:=key) hp (nr-1) 1 (Bh _) (by omega) (λ i j hij hj=>by rw[show i=j by omega];exact Cy _);have k:∀ m,1<=m->m<=1+(nr-1)->Up key p m->(m<1+(nr-1)->KA key p m<KA key p (m-1))->∀ t:KasT (Nat×Array Nat),t=(if (m == nr)=true then HX (m,p) else if m > 1 then KasT.ask (p.getD 0 0) (p.getD (m-1) 0) λ c=>if c=true then HX (m,p) else Fq m nr (kas_rev p 0 m) else Fq m nr p) ->
   inn n (cK key) t/\Pm n (ev (cK key) t).2/\1<=(ev (cK key) t).1/\(ev (cK key) t).1<=nr/\Up key (ev (cK key) t).2 (ev (cK key) t).1:=by
  intro m m1 m2 mu ml t ht;subst ht;by_cases h0:(m == nr)=true
  ·rw[if_pos h0]
   exact⟨trivial,hp,m1,by simp at h0;simp only[ev];omega,mu⟩
  rw[if_neg h0];have hne:m≠nr:=by simpa using h0
  have hlt:=ml (by omega);by_cases h2:m > 1
  ·rw[if_pos h2]
   simp only[ev,inn];have ha:=hp.lt (k:=0) (by omega);have hb:=hp.lt (k:=m-1) (by omega);by_cases hc:KA key p 0<KA key p (m-1)
   ·have e:cK key (p.getD 0 0) (p.getD (m-1) 0)=true:=decide_eq_true hc
    rw[e];simp only[if_true,ev,inn];exact⟨⟨ha,hb,trivial⟩,hp,m1,by omega,mu⟩
   ·have e:cK key (p.getD 0 0) (p.getD (m-1) 0)=false:=decide_eq_false hc
    rw[e];simp only[Be,if_false];have fl:∀ k,0<=k->k<m->KA key p k=KA key p (m-1):=λ k _ hk=>by
     have z1:=mu 0 k (by omega) hk;have z2:=mu k (m-1) (by omega) (by omega);omega
    have ek:∀ k,KA key (kas_rev p 0 m) k=KA key p k:=i5 (by rw[hp.1];omega) fl;obtain⟨b1,b2⟩:=gL (key:=key) (hp.rev 0 m) m1 (show m+1<=nr by omega) hn (λ i j hij hj=>by rw[ek,ek,fl i (by omega) (by omega),fl j (by omega) hj];exact Cy _) (by rw[ek,ek];exact hlt);exact⟨⟨ha,hb,b1⟩,b2⟩
  ·rw[if_neg h2]
   exact gL hp m1 (show m+1<=nr by omega) hn (λ i j hij hj=>by rw[show i=j by omega];exact Cy _) hlt
 obtain⟨b1,b2⟩:=k _ a2 a3 a4 a5 _ rfl;unfold F4;rw[eu];exact⟨de a1 b1,b2⟩
theorem iB {p:Array Nat}{k:Nat}(hp:Pm n p)(hk:k<n)(hu:Up key p k):∀ (f l r:Nat),l<=r->r<=k->r-l<=f->(∀ i,i<l->KA key p i<=KA key p k)->(∀ i,r<=i->i<k->KA key p k<KA key p i) ->
  inn n (cK key) (F5 p k f l r)/\ev (cK key) (F5 p k f l r)<=k/\(∀ i,i<ev (cK key) (F5 p k f l r)->KA key p i<=KA key p k)/\∀ i,ev (cK key) (F5 p k f l r)<=i->i<k->KA key p k<KA key p i
 | 0,l,r,h1,h2,h3,lo,hi=>⟨trivial,by simp only[F5,ev];omega,lo,λ i a b=>hi i (by simp only[F5,ev] at a;omega) b⟩
 | f+1,l,r,h1,h2,h3,lo,hi=>by
  unfold F5;by_cases hge:l ≥ r
  ·rw[if_pos hge]
   exact⟨trivial,by simp only[ev];omega,lo,λ i a b=>hi i (by simp only[ev] at a;omega) b⟩
  ·rw[if_neg hge]
   simp only[ev,inn];have ha:=hp.lt (k:=k) hk;have hb:=hp.lt (k:=(l+r)/2) (by omega);by_cases hc:KA key p k<KA key p ((l+r)/2)
   ·have e:cK key (p.getD k 0) (p.getD ((l+r)/2) 0)=true:=decide_eq_true hc
    rw[e];simp only[if_true];obtain⟨b1,b2⟩:=iB hp hk hu f l ((l+r)/2) (by omega) (by omega) (by omega) lo λ i a b=>by
     have:=hu ((l+r)/2) i a b;omega
    exact⟨⟨ha,hb,b1⟩,b2⟩
   ·have e:cK key (p.getD k 0) (p.getD ((l+r)/2) 0)=false:=decide_eq_false hc
    rw[e];simp only[Be,if_false];obtain⟨b1,b2⟩:=iB hp hk hu f ((l+r)/2+1) r (by omega) h2 (by omega) (λ i a=>by
     have:=hu i ((l+r)/2) (by omega) (by omega);omega) hi
    exact⟨⟨ha,hb,b1⟩,b2⟩
theorem jF {p:Array Nat}{k l:Nat}(hk:k<p.size)(hl:l<=k)(i:Nat):KA key (bubble p k (k-l)) i=if i=l then KA key p k else if l<i/\i<=k then KA key p (i-1) else KA key p i:=by
 have e:=getElem?_bubble hk (k-l) (by omega) i;rw[show k-(k-l)=l by omega] at e
 split
 ·rename_i h;rw[if_pos h] at e;exact mQ e
 ·rename_i h
  rw[if_neg h] at e
  split
  ·rename_i h2;rw[if_pos h2] at e;exact mQ e
  ·rename_i h2;rw[if_neg h2] at e;exact mQ e
theorem sy:∀ (f:Nat) (p:Array Nat) (k:Nat),Pm n p->k+f<=n->Up key p k->inn n (cK key) (kas_bin f p k)/\Pm n (ev (cK key) (kas_bin f p k))/\Up key (ev (cK key) (kas_bin f p k)) (k+f)
 | 0,p,k,hp,_,hu=>⟨trivial,hp,hu⟩
 | f+1,p,k,hp,hk,hu=>by
  obtain⟨a1,a2,a3,a4⟩:=iB (key:=key) hp (show k<n by omega) hu k 0 k (BV _) (Bh _) (by omega) (λ i h=>absurd h (by omega)) (λ i h1 h2=>absurd h1 (by omega));have q:∀ l,l<=k->(∀ i,i<l->KA key p i<=KA key p k)->(∀ i,l<=i->i<k->KA key p k<KA key p i)->inn n (cK key) (kas_bin f (bubble p k (k-l)) (k+1))/\Pm n (ev (cK key) (kas_bin f (bubble p k (k-l)) (k+1)))/\Up key (ev (cK key) (kas_bin f (bubble p k (k-l)) (k+1))) (k+(f+1)):=by
   intro l hl lo hi;have hs:k<p.size:=by rw[hp.1];omega
   have hu':Up key (bubble p k (k-l)) (k+1):=λ i j hij hj=>by
    rw[jF hs hl,jF hs hl];by_cases i1:i=l
    ·rw[if_pos i1]
     by_cases j1:j=l
     ·rw[if_pos j1];exact Cy _
     ·rw[if_neg j1,if_pos (by omega)]
      have:=hi (j-1) (by omega) (by omega);omega
    ·rw[if_neg i1]
     by_cases i2:l<i/\i<=k
     ·rw[if_pos i2,if_neg (show ¬ j=l by omega),if_pos (by omega)]
      exact hu _ _ (by omega) (by omega)
     ·rw[if_neg i2]
      by_cases j1:j=l
      ·rw[if_pos j1];exact lo i (by omega)
      ·rw[if_neg j1]
       by_cases j2:l<j/\j<=k
       ·rw[if_pos j2];exact hu _ _ (by omega) (by omega)
       ·rw[if_neg j2];exact hu _ _ hij (by omega)
   obtain⟨b1,b2,b3⟩:=sy f (bubble p k (k-l)) (k+1) (hp.of (bubble_perm _ _ _)) (by omega) hu';exact⟨b1,b2,by rw[show k+(f+1)=k+1+f by omega];exact b3⟩
  obtain⟨b1,b2⟩:=q _ a2 a3 a4;unfold kas_bin;rw[eu];exact⟨de a1 b1,b2⟩
theorem di (h1:1<=n):inn n (cK key) (FO n)/\Pm n (ev (cK key) (FO n))/\Up key (ev (cK key) (FO n)) n:=by
 have h0:Pm n (List.toArray (List.range n)):=⟨by simp,List.Perm.refl _⟩;obtain⟨a1,a2,a3,a4,a5⟩:=uE (key:=key) h0 h1 (Bh n);have k:∀ r:Nat×Array Nat,Pm n r.2->1<=r.1->r.1<=n->Up key r.2 r.1->∀ t:KasT (Array Nat),t=(if r.1<n then kas_bin (n-max r.1 1) r.2 (max r.1 1) else HX r.2)->inn n (cK key) t/\Pm n (ev (cK key) t)/\Up key (ev (cK key) t) n:=by
  intro r b1 b2 b3 b4 t ht;subst ht;by_cases h:r.1<n
  ·rw[if_pos h,show max r.1 1=r.1 by omega]
   obtain⟨c1,c2,c3⟩:=sy (key:=key) (n-r.1) r.2 r.1 b1 (by omega) b4;exact⟨c1,c2,λ i j hij hj=>c3 i j hij (by omega)⟩
  ·rw[if_neg h]
   exact⟨trivial,b1,λ i j hij hj=>b4 i j hij (by omega)⟩
 obtain⟨b1,b2⟩:=k _ a2 a3 a4 a5 _ rfl;unfold FO;rw[eu];exact⟨de a1 b1,b2⟩
end
open PySem PySem.W PySem.Calls PyProof.Rows
section
variable {prog:Program}{w:World}{A:Around}{E:Value->Shared->Prop}{s:Shared}
theorem j6 {a:Addr}{vs:List Value}{n:Nat}{κ:SortKind}{key:Nat->Int}{P:PySem.Fin->Shared->Prop}(ho:s.heap.get? a=some (seqObj "list" vs.toArray n))(h64:vs.length<64)
  (hk:2<=vs.length->∀ (h':Heap),(∀ b o,b≠a->s.heap.get? b=some o->h'.get? b=some o)->∀ (E':Value->Shared->Prop) (Q':SortKind->Shared->Prop),Q' κ { s with heap:=h' }->wpAny (model prog w) A (keyKind' vs.toArray) Q' E' { s with heap:=h' })
  (hc:2<=vs.length->∀ (h':Heap),(∀ b o,b≠a->s.heap.get? b=some o->h'.get? b=some o)->∀ i j (C:Bool->Shared->Prop),i<vs.length->j<vs.length->C (decide (key i<key j)) { s with heap:=h' }->kas_ask prog w A κ vs i j C { s with heap:=h' })
  (h:∀ out:List Nat,out.Perm (List.range vs.length)->(∀ i j,i<=j->j<vs.length->key (out.getD i 0)<=key (out.getD j 0))->P (.done (.ret .none)) { s with heap:=sortedHeap s.heap a vs (out.map λ i=>vs.getD i EG).toArray }):
  wpAny (model prog w) A (Builtin.«list.sort» ⟨[.ref a],[]⟩) P E s:=by
 have hlt:a<s.heap.objs.size:=Ew ho;have ln:vs.length<=sizeLine:=by rw[EU];omega
 obtain⟨e1,q1⟩:∃ e1,(s.heap.update a (EY λ _=>#[])).get? a=some (seqObj "list" #[] e1):=⟨_,get?_update_seq ho (λ _=>#[])⟩;rw[list_sort_plain];refine Es (listItems_at ho rfl (Es (Hf ho rfl (Es (HI q1 rfl (Es (wpAny_newTuple (Es (Hg (EM ?_) (BV _))) (by show vs.length<=_;exact ln))))) (by rw[Bd];exact ln) (BV _))));have old:∀ b o,b≠a->s.heap.get? b=some o->(((s.heap.update a (EY λ _=>#[])).push (seqObj "tuple" vs.toArray 0)).push (seqObj "list" #[] 0)).get? b=some o:=λ b o hb q=>
  Et _ (Et _ ((Ez _ _ (Ne.symm hb)).trans q))
 have q6:(((s.heap.update a (EY λ _=>#[])).push (seqObj "tuple" vs.toArray 0)).push (seqObj "list" #[] 0)).get? a=some (seqObj "list" #[] e1):=Et _ (Et _ q1);show wpAny (model prog w) A _ P E { s with heap:=((s.heap.update a (EY λ _=>#[])).push (seqObj "tuple" vs.toArray 0)).push (seqObj "list" #[] 0) }
 dsimp only;have sz:vs.toArray.size=vs.length:=Bd ..;by_cases h2:vs.length<2
 ·rw[if_pos (by rw[sz];exact h2),if_pos (by rw[sz];exact h2)]
  refine Es (Eu ?_);rw[StateT.run_pure];refine Es (Eu ?_);dsimp only;have e:(arrOf (SortSt.mk' general' (vs.toArray.zip vs.toArray) #[] 7 none)).map (·.2)=((List.range vs.length).map λ i=>vs.getD i EG).toArray:=by
   show (vs.toArray.zip vs.toArray).map (·.2)=_
   refine Array.ext (by simp) λ i h1 h3=>?_
   have hi:i<vs.length:=by simpa using h3
   simp[A7,Ba hi]
  rw[e];have zz:((List.range vs.length).map λ i=>vs.getD i EG).toArray.size<=sizeLine:=by rw[Bd,A4,BR];exact ln
  refine Es (HI q6 rfl (Es (Hf q6 rfl ?_ (hsz2:=Cu zz))));simp only[bne_self_eq_false,Be,if_false];exact Eu (h _ (List.Perm.refl _) λ i j hij hj=>by rw[show i=j by omega];exact Cy _)
 ·rw[if_neg (by rw[sz];exact h2),if_neg (by rw[sz];exact h2)]
  have h2':2<=vs.length:=by omega
  refine Es (hk h2' _ old _ _ ?_);obtain⟨i1,i2,i3⟩:=di (key:=key) (n:=vs.length) (by omega);have run:=kat_run (prog:=prog) (w:=w) (A:=A) (E:=E) (κ:=κ) (ks:=vs) (vs:=vs) (s:={ s with heap:=((s.heap.update a (EY λ _=>#[])).push (seqObj "tuple" vs.toArray 0)).push (seqObj "list" #[] 0) })
   (Q:=λ st' s'=>s'={ s with heap:=((s.heap.update a (EY λ _=>#[])).push (seqObj "tuple" vs.toArray 0)).push (seqObj "list" #[] 0) }/\failedOf st'=none/\arrOf st'=(ev (cK key) (FO vs.length)).map (kas_item (vs.toArray.zip vs.toArray)))
   (G:=λ p s'=>s'={ s with heap:=((s.heap.update a (EY λ _=>#[])).push (seqObj "tuple" vs.toArray 0)).push (seqObj "list" #[] 0) }/\p=ev (cK key) (FO vs.length)) rfl h2' h64
   (λ p st' s' _ a2 a3 ⟨a4,a5⟩=>⟨a4,a3,by rw[<- a5];exact a2⟩) (xp (c:=cK key) (λ i j C hi hj hC=>hc h2' _ old i j C hi hj hC) i1 ⟨rfl,rfl⟩)
  refine Es (EB run ?_ λ _ _ e=>e)
  rintro ⟨⟨⟩,st'⟩ s' ⟨rfl,hf,har⟩
  dsimp only;rw[kat_snds rfl har];have zz:(((ev (cK key) (FO vs.length)).toList.map λ i=>vs.getD i EG).toArray).size<=sizeLine:=by rw[Bd,A4,EF,i2.1];exact ln
  refine Es (HI q6 rfl (Es (Hf q6 rfl ?_ (hsz2:=Cu zz))));rw[hf];simp only[bne_self_eq_false,Be,if_false];refine Eu (h _ i2.2 λ i j hij hj=>?_);have g:∀ k,(ev (cK key) (FO vs.length)).toList.getD k 0=(ev (cK key) (FO vs.length)).getD k 0:=λ k=>by
   by_cases hk:k<(ev (cK key) (FO vs.length)).size <;>simp[EK,A7,hk]
  rw[g,g];exact i3 i j hij hj
theorem qQ {l:Addr}{vs:List Value}{κ:SortKind}{key:Nat->Int}{Q:Value->Shared->Prop}(hl:s.heap.IsList l vs.toArray)(h64:vs.length<64)
  (hk:2<=vs.length->∀ (h':Heap),(∀ b o,s.heap.get? b=some o->h'.get? b=some o)->∀ (E':Value->Shared->Prop) (Q':SortKind->Shared->Prop),Q' κ { s with heap:=h' }->wpAny (model prog w) A.in1.in1 (keyKind' vs.toArray) Q' E' { s with heap:=h' })
  (hc:2<=vs.length->∀ (h':Heap),(∀ b o,s.heap.get? b=some o->h'.get? b=some o)->∀ i j (C:Bool->Shared->Prop),i<vs.length->j<vs.length->C (decide (key i<key j)) { s with heap:=h' }->kas_ask prog w A.in1.in1 κ vs i j C { s with heap:=h' })
  (h:∀ out:List Nat,out.Perm (List.range vs.length)->(∀ i j,i<=j->j<vs.length->key (out.getD i 0)<=key (out.getD j 0))->Q (.ref (s.heap.objs.size+1)) { s with heap:=sortedAll s.heap vs (out.map λ i=>vs.getD i EG).toArray }):
  wpAny (model prog w) A (call (.builtin "sorted") [.ref l]) Q E s:=by
 have ln:vs.length<=sizeLine:=by rw[EU];omega
 refine GB kind_sorted plain_sorted entry_sorted (args_sorted1 _) ?_
 unfold Builtin.«sorted»;refine Es (m:=checkCount "sorted" 1 1 _) (Eu (Es (collect_list hl (Es (Hg ?_ (by show vs.length<=_;exact ln))) (by exact ln))));have z1:((s.heap.push (seqObj "list" #[] 0)).update s.heap.objs.size (EY (·++vs.toArray))).objs.size=s.heap.objs.size+1:=by rw[Heap.size_update,size_push']
 have z2:(((s.heap.push (seqObj "list" #[] 0)).update s.heap.objs.size (EY (·++vs.toArray))).push (seqObj "list" vs.toArray 0)).get? (s.heap.objs.size+1)=some (seqObj "list" vs.toArray 0):=by rw[<- z1];exact Ey _ rfl
 have old:∀ b o,s.heap.get? b=some o->b≠s.heap.objs.size+1/\(((s.heap.push (seqObj "list" #[] 0)).update s.heap.objs.size (EY (·++vs.toArray))).push (seqObj "list" vs.toArray 0)).get? b=some o:=λ b o q=>by
  have hb:b<s.heap.objs.size:=Ew q;exact⟨Bl (BX hb),Et _ ((Ez _ _ (CS hb)).trans (Et _ q))⟩
 show wpAny _ _ _ _ _ { s with heap:=((s.heap.push (seqObj "list" #[] 0)).update s.heap.objs.size (EY (·++vs.toArray))).push (seqObj "list" vs.toArray 0) }
 rw[z1];refine Es (EM (FC slot_list_sort ⟨_,z2,rfl⟩ entry_list_sort (j6 (s:={ s with heap:=((s.heap.push (seqObj "list" #[] 0)).update s.heap.objs.size (EY (·++vs.toArray))).push (seqObj "list" vs.toArray 0) }) z2 h64 (λ h2 h' k E' Q' q=>hk h2 h' (λ b o e=>k b o (old b o e).1 (old b o e).2) E' Q' q)
  (λ h2 h' k i j C hi hj q=>hc h2 h' (λ b o e=>k b o (old b o e).1 (old b o e).2) i j C hi hj q) λ out a1 a2=>⟨_,rfl,Eu ⟨_,rfl,h out a1 a2⟩⟩) (args_list_sort _)))
end
end Sd
namespace Dv
theorem lex_irr:∀ a:List Int,lexLt a a=false
 | []=>rfl
 | x::a=>by simp[lexLt,lex_irr a]
theorem kN:∀ {a b:List Int},lexLt a b=false->lexLt b a=false->a=b
 | [],[],_,_=>rfl
 | [],_::_,h,_=>by simp[lexLt] at h
 | _::_,[],_,h=>by simp[lexLt] at h
 | x::a,y::b,h,g=>by
  simp only[lexLt] at h g;by_cases e:x=y
  ·subst e
   simp only[if_true] at h g;rw[kN h g]
  ·rw[if_neg e] at h
   rw[if_neg (Ne.symm e)] at g;simp at h g;omega
theorem lex_trans:∀ {a b c:List Int},lexLt a b=true->lexLt b c=true->lexLt a c=true
 | [],[],_,h,_=>by simp[lexLt] at h
 | [],_::_,[],_,g=>by simp[lexLt] at g
 | [],_::_,_::_,_,_=>rfl
 | _::_,[],_,h,_=>by simp[lexLt] at h
 | _::_,_::_,[],_,g=>by simp[lexLt] at g
 | x::a,y::b,z::c,h,g=>by
  simp only[lexLt] at h g ⊢;by_cases e1:x=y
  ·subst e1
   simp only[if_true] at h;by_cases e2:x=z
   ·subst e2
    simp only[if_true] at g ⊢;exact lex_trans h g
   ·rw[if_neg e2] at g ⊢;exact g
  ·rw[if_neg e1] at h
   simp at h;by_cases e2:y=z
   ·subst e2
    rw[if_neg e1];simpa using h
   ·rw[if_neg e2] at g
    simp at g;rw[if_neg (by omega)];simp;omega
def lexLe (a b:List Int):Prop:=lexLt b a=false
theorem le_trans {a b c:List Int}(h:lexLe a b)(g:lexLe b c):lexLe a c:=by
 unfold lexLe at *;cases q:lexLt c a with
 | false=>rfl
 | true=>
  by_cases e:lexLt a b=true
  ·rw[lex_trans q e] at g;cases g
  ·have:a=b:=kN (by simpa using e) h
   subst this;rw[q] at g;cases g
theorem lt_le {a b:List Int}(h:lexLt a b=true):lexLe a b:=by
 unfold lexLe;cases q:lexLt b a with
 | false=>rfl
 | true=>have:=lex_trans h q;rw[lex_irr] at this;cases this
def nu (x:List Int):List (List Int)->List (List Int)
 | []=>[x]
 | y::r=>if lexLt y x then y::nu x r else x::y::r
def lsort:List (List Int)->List (List Int)
 | []=>[]
 | x::r=>nu x (lsort r)
theorem gf (x:List Int):∀ l,(nu x l).Perm (x::l)
 | []=>.refl _
 | y::r=>by
  unfold nu
  split
  ·exact((gf x r).cons y).trans (.swap x y r)
  ·exact .refl _
theorem lsort_perm:∀ l,(lsort l).Perm l
 | []=>.refl _
 | x::r=>(gf x _).trans ((lsort_perm r).cons x)
theorem gH (x:List Int):∀ l,l.Pairwise lexLe->(nu x l).Pairwise lexLe
 | [],_=>by simp[nu]
 | y::r,h=>by
  unfold nu;have h':=List.pairwise_cons.mp h
  split
  ·rename_i q
   refine List.pairwise_cons.mpr ⟨λ z hz=>?_,gH x r h'.2⟩
   rcases List.mem_cons.mp ((gf x r).mem_iff.mp hz) with rfl|hz
   ·exact lt_le q
   ·exact h'.1 z hz
  ·rename_i q
   have q':lexLe x y:=by unfold lexLe;simpa using q
   refine List.pairwise_cons.mpr ⟨λ z hz=>?_,h⟩
   rcases List.mem_cons.mp hz with rfl|hz
   ·exact q'
   ·exact le_trans q' (h'.1 z hz)
theorem lsort_sorted:∀ l,(lsort l).Pairwise lexLe
 | []=>.nil
 | x::r=>gH x _ (lsort_sorted r)
theorem sorted_one:∀ {a b:List (List Int)},a.Perm b->a.Pairwise lexLe->b.Pairwise lexLe->a=b
 | [],b,p,_,_=>by simpa using p.symm.eq_nil
 | x::a,[],p,_,_=>absurd p.eq_nil (by simp)
 | x::a,y::b,p,ha,hb=>by
  have h1:=List.pairwise_cons.mp ha;have h2:=List.pairwise_cons.mp hb;have e:x=y:=by
   have hx:x∈y::b:=p.mem_iff.mp A6;have hy:y∈x::a:=p.mem_iff.mpr A6
   rcases List.mem_cons.mp hx with e|hx
   ·exact e
   rcases List.mem_cons.mp hy with e|hy
   ·exact e.symm
   exact kN (h2.1 x hx) (h1.1 y hy)
  subst e;rw[sorted_one ((Eb x).mp p) h1.2 h2.2]
def rank (l:List (List Int))(x:List Int):Nat:=l.countP λ z=>lexLt z x
theorem gK {α:Type}{p q:α->Bool}:∀ {l:List α},(∀ z∈l,p z=true->q z=true)->(∃ z∈l,q z=true/\p z=false)->l.countP p<l.countP q
 | [],_,⟨z,hz,_⟩=>by cases hz
 | a::l,h,⟨z,hz,h1,h2⟩=>by
  have mono:l.countP p<=l.countP q:=DF λ z hz=>h z (A5 _ hz)
  rw[D2,D2]
  rcases List.mem_cons.mp hz with rfl|hz
  ·rw[h1,h2];simp;omega
  ·have ih:=gK (λ z hz=>h z (A5 _ hz)) ⟨z,hz,h1,h2⟩
   have:=h a A6;cases q1:p a with
   | true=>rw[this q1];simp;omega
   | false=>cases q2:q a <;>simp <;>omega
theorem rank_lt {l:List (List Int)}{x y:List Int}(hx:x∈l):decide ((rank l x:Int)<(rank l y:Int))=lexLt x y:=by
 cases q:lexLt x y with
 | true=>
  refine decide_eq_true ?_
  have:=gK (p:=λ z=>lexLt z x) (q:=λ z=>lexLt z y) (l:=l) (λ z _ h=>lex_trans h q) ⟨x,hx,q,lex_irr x⟩;unfold rank;omega
 | false=>
  refine decide_eq_false ?_
  have:l.countP (λ z=>lexLt z y)<=l.countP (λ z=>lexLt z x):=DF λ z _ h=>by
   have h:lexLt z y=true:=h;cases e:lexLt z x with
   | true=>rfl
   | false=>
    have:lexLe x z:=e;have h2:lexLe y x:=q;have h3:lexLe y z:=le_trans h2 this;unfold lexLe at h3;rw[h] at h3;cases h3
  unfold rank;omega
def sortedLD:D->Bool->R
 | .lst ds,f=>match listsOf ds with
  | some nss=>if nss.length<64 then .ok (.lst ((lsort nss).map λ ns=>.lst (ns.map .int))) f else .bad
  | none=>.bad
 | _,_=>.bad
def tupsOf:List D->Option (List (List Int))
 | []=>some []
 | .tup ds::r=>match intsOf ds,tupsOf r with
  | some (n::ns),some nss=>some ((n::ns)::nss)
  | _,_=>none
 | _::_=>none
end Dv
namespace Sd
open PySem PySem.Spec PySem.W PySem.Calls PyProof.Rows L2
open Dv (D R RL EE EL EI RI Sl Out SS)
section
variable {prog:Program}{w:World}{A:Around}{E:Value->Shared->Prop}{s:Shared}
theorem nt {l b:Addr}{vs ws:List Value}{n n2:Nat}{ns ms:List Int}{Q:Bool->Shared->Prop}(hl:s.heap.get? l=some { cls:=.type "list",data:=.seq vs.toArray n })(hb:s.heap.get? b=some { cls:=.type "list",data:=.seq ws.toArray n2 })
  (hi:IntsAre vs ns) (hj:IntsAre ws ms) (hu:A.units<cLine) (h:Q (Dv.lexLt ns ms) s):wpAny (model prog w) A (oneLt' true (.ref l) (.ref b)) Q E s:=by
 rw[oneLt'_eq];simp only[if_true];refine Es (wpAny_cRoomFor hu (Es (wpAny_callSpecialIfBound?_slot ⟨_,hl,rfl⟩ Gc (FM Gc ⟨_,hl,rfl⟩ GX (GT _ _) (pD l b vs ws n n2 none none #[] #[] ns ms hi hj) ⟨hl,hb,?_⟩))));exact Ff h
theorem mH {b fin:Bool}{Q:Bool->Shared->Prop}:∀ (i:Nat) {vs ws:List Value} {ns ms:List Int},IntsAre vs ns->IntsAre ws ms->fin=decide (ns.length<ms.length)->Q (Dv.lexLt ns ms) s->KatLex prog w A b fin Q (vs.zip ws) i s
 | i,_,_,_,_,.nil,.nil,hf,h=>by subst hf;exact h
 | i,_,_,_,_,.nil,.cons m t r,hf,h=>by
  have e:fin=true:=by rw[hf];simp
  subst e;exact kat_nil h
 | i,_,_,_,_,.cons n t r,.nil,hf,h=>by
  have e:fin=false:=by rw[hf];simp
  subst e;exact kat_nil h
 | i,_,_,_,_,.cons n t r,.cons m u q,hf,h=>by
  refine kat_cons (wpAny_eqBool_int ?_);by_cases e:n=m
  ·subst e
   rw[beq_self_eq_true];refine kat_yes (mH (i+1) r q (by rw[hf];simp) ?_);simpa[Dv.lexLt] using h
  ·rw[beq_false_of_ne e]
   have h':Q (decide (n<m)) s:=by simpa[Dv.lexLt,e] using h
   refine kat_no ?_
   cases (b&&i == 0) with
   | true=>exact oneLt_int h'
   | false=>exact kat_one _ _ (lt_int h')
end
def ItL (K:Frag)(H:Hp)(v:V)(ns:List Int):Prop:=∃ b,v=.ref b/\SqX K H b (ns.map V.int)
def ItT (H:Hp)(v:V)(ns:List Int):Prop:=∃ b,v=.ref b/\Rd H b (.tup (ns.map V.int))/\ns≠[]
theorem hZ {xs:List V}{us:List Value}(r:Vals xs us){i:Nat}(hi:i<xs.length):∃ u,us[i]?=some u/\RelV xs[i] u:=r.get (Ba hi)
theorem fS {xs:List V}{us:List Value}(r:Vals xs us):∀ out:List Nat,(∀ i∈out,i<xs.length)->Vals (out.map λ i=>xs.getD i .non) (out.map λ i=>us.getD i EG)
 | [],_=>.nil
 | i::o,h=>by
  have hi:=h i A6;obtain⟨u,h1,h2⟩:=hZ r hi;refine .cons ?_ (fS r o λ j hj=>h j (A5 _ hj))
  show L2.RelV (xs.getD i V.non) (us.getD i EG)
  rw[A7,Ba hi,A7,h1];exact h2
theorem n8 {X:Cx}{pins:List (Addr×Obj)}{σ:L2.St}{H:Hp}{s:Shared}{vs:List V}{its:List Value}{out:List Nat}{Q:VK}(I:L2.Inv X pins σ H s)(rv:Vals vs its)(hp:out.Perm (List.range its.length))(h64:vs.length<64)
  (q:∀ l,H l=none->Q (.ref l) (upd H l (.lst (out.map λ i=>vs.getD i .non)))):EP X pins σ Q (.ref (s.heap.objs.size+1)) { s with heap:=sortedAll s.heap its (out.map λ i=>its.getD i EG).toArray }:=by
 obtain⟨ep,hat⟩:=sortedAll_at s.heap its (out.map λ i=>its.getD i EG).toArray;have hl:=rv.length;have hf:H (s.heap.objs.size+1)=none:=I.hok.fresh (Ct _);refine⟨.ref (s.heap.objs.size+1),_,I.laid (t':=s.toks) (o:=.lst (out.map λ i=>vs.getD i .non)) (λ b u q=>sortedAll_old q) (Ct _) ?_,rfl,q _ hf⟩;refine⟨?_,out.map λ i=>its.getD i EG,ep,fS rv out λ i hi=>?_,by simpa[seqObj] using hat⟩
 ·have:=hp.length_eq
  rw[BR] at this;rw[A4,EU];omega
 ·have:=List.mem_range.mp (hp.mem_iff.mp hi)
  omega
theorem mq {α β:Type}{F:α->β->Prop}{l:List α}{r:List β}(h:Paired F l r){i:Nat}(hi:i<l.length)(d:β):F l[i] (r.getD i d):=by
 obtain⟨y,h1,h2⟩:=Paired.gets h (Ba hi);rw[A7,h1];exact h2
theorem kf {X:Cx}(hu:X.A.units+64<cLine):cU X (.builtin "sorted") (λ xs H Q=>∃ p vs nss,xs=[.ref p]/\SqX X.K H p vs/\vs.length<64/\Paired (ItL X.K H) vs nss /\
  ∀ out:List Nat,out.Perm (List.range vs.length)->(∀ i j,i<=j->j<vs.length->Dv.lexLe (nss.getD (out.getD i 0) []) (nss.getD (out.getD j 0) []))->∀ l,H l=none->Q (.ref l) (upd H l (.lst (out.map λ i=>vs.getD i .non)))):=by
 intro pins s σ H xs us Q I r h;obtain⟨p,vs,nss,rfl,hq,h64,hit,q⟩:=h;obtain⟨u,rfl,rx⟩:=vals1 r;cases rx;obtain⟨its,n,rv,e,z⟩:=Inv.listX I hq;have hl:=rv.length;have hn:=hit.length;have item:∀ i,i<its.length->∃ b ws m,its.getD i EG=.ref b/\s.heap.get? b=some { cls:=.type "list",data:=.seq ws.toArray m }/\IntsAre ws (nss.getD i []):=λ i hi=>by
  obtain⟨u,h1,h2⟩:=hZ rv (i:=i) (by omega);obtain⟨b,hb,hs⟩:=mq hit (i:=i) (by omega) [];rw[hb] at h2;obtain⟨ws,m,rw',ew,_⟩:=Inv.listX I hs;refine⟨b,ws,m,?_,ew,intsAre_of rw'⟩;rw[A7,h1];exact h2
 refine qQ (κ:=oneType') (key:=λ i=>(Dv.rank nss (nss.getD i []):Int)) ⟨_,e,rfl,n,rfl⟩ (by omega) (λ h2 h' k E' Q' hQ=>?_) (λ h2 h' k i j C hi hj hC=>?_) λ out a1 a2=>?_
 ·refine kas_kind (T:=.type "list") h2 (λ v hv=>?_) (by decide) (by decide) hQ
  obtain⟨i,hi,rfl⟩:=BC hv;obtain⟨b,ws,m,e1,e2,_⟩:=item i hi;rw[A7,Ba hi] at e1;have e1:its[i]=.ref b:=e1;rw[e1];exact(Looks.ld (k _ _ e2)).andThen .now
 ·obtain⟨b,ws,m,e1,e2,e3⟩:=item i hi
  obtain⟨b',ws',m',f1,f2,f3⟩:=item j hj;unfold kas_ask;rw[e1,f1,keyLt'_oneType];have hm:nss.getD i []∈nss:=by
   have hi':i<nss.length:=by omega
   rw[A7,Ba hi'];exact BO hi'
  rw[Dv.rank_lt hm] at hC;exact nt (k _ _ e2) (k _ _ f2) e3 f3 (by show X.A.in1.in1.units<cLine;exact Nat.lt_of_le_of_lt (show X.A.units+1+1<=X.A.units+64 by omega) hu) hC
 ·refine n8 I rv a1 h64 λ l hl'=>q out (by rw[hl];exact a1) (λ i j hij hj=>?_) l hl'
  have:=a2 i j hij (by omega);have ho:out.length=its.length:=by rw[a1.length_eq,BR]
  have mem:∀ k,k<its.length->nss.getD (out.getD k 0) []∈nss:=λ k hk=>by
   have h1:out.getD k 0∈out:=by
    rw[A7,Ba (by omega)];exact BO _
   have h2:=List.mem_range.mp (a1.mem_iff.mp h1);have h3:out.getD k 0<nss.length:=by omega
   rw[A7,Ba h3];exact BO h3
  unfold Dv.lexLe;rw[<- Dv.rank_lt (mem j (by omega))];exact decide_eq_false (by omega)
theorem lV:∀ {ds:List D} {nss:List (List Int)},Dv.listsOf ds=some nss->ds=nss.map λ ns=>.lst (ns.map .int)
 | [],nss,h=>by simp[Dv.listsOf] at h;subst h;rfl
 | d::r,nss,h=>by
  cases d with
  | lst es=>
   simp only[Dv.listsOf] at h
   split at h
   ·rename_i ns ms h1 h2
    cases h;rw[g7 h1,lV h2];rfl
   ·cases h
  | _=>simp[Dv.listsOf] at h
theorem pI:∀ {ds:List D} {nss:List (List Int)},Dv.tupsOf ds=some nss->(ds=nss.map λ ns=>.tup (ns.map .int))/\∀ ns∈nss,ns≠[]
 | [],nss,h=>by simp[Dv.tupsOf] at h;subst h;exact⟨rfl,λ ns h=>by cases h⟩
 | d::r,nss,h=>by
  cases d with
  | tup es=>
   simp only[Dv.tupsOf] at h
   split at h
   ·rename_i n ns ms h1 h2
    cases h;obtain⟨g1,g2⟩:=pI h2;refine⟨by rw[g7 h1,g1];rfl,λ x hx=>?_⟩
    rcases List.mem_cons.mp hx with rfl|hx
    ·simp
    ·exact g2 x hx
   ·cases h
  | _=>simp[Dv.tupsOf] at h
theorem RpL.pick {K:Frag}{H:Hp}{ds:List D}{vs:List V}(r:RpL K H ds vs):∀ out:List Nat,(∀ i∈out,i<ds.length)->RpL K H (out.map λ i=>ds.getD i .non) (out.map λ i=>vs.getD i .non)
 | [],_=>.nil
 | i::o,h=>by
  have hi:=h i A6;obtain⟨v,h1,h2⟩:=r.get (Ba hi);refine .cons ?_ (RpL.pick r o λ j hj=>h j (A5 _ hj))
  show Rp K H (ds.getD i .non) (vs.getD i .non)
  rw[A7,Ba hi,A7,h1];exact h2
theorem picked {nss:List (List Int)}{out:List Nat}(hp:out.Perm (List.range nss.length))(hs:∀ i j,i<=j->j<nss.length->Dv.lexLe (nss.getD (out.getD i 0) []) (nss.getD (out.getD j 0) [])):(out.map λ i=>nss.getD i [])=Dv.lsort nss:=by
 have e:(List.range nss.length).map (λ i=>nss.getD i [])=nss:=by
  refine Dm (by simp) λ i h1 h2=>?_
  simp[A7,Ba h2]
 refine Dv.sorted_one (((hp.map λ i=>nss.getD i []).trans (by rw[e])).trans (Dv.lsort_perm nss).symm) ?_ (Dv.lsort_sorted nss)
 have ho:out.length=nss.length:=by rw[hp.length_eq,BR]
 rw[Dh];intro i j hi hj hij;rw[A4] at hi hj;have:=hs i j (CB hij) (by omega);rw[Cb,Cb];simpa[A7,Ba hi,Ba hj] using this
theorem qV {nss:List (List Int)}{out:List Nat}{f:List Int->D}(hp:out.Perm (List.range nss.length)):(out.map λ i=>(nss.map f).getD i .non)=(out.map λ i=>nss.getD i []).map f:=by
 rw[BI];refine BH λ i hi=>?_
 have h:i<nss.length:=List.mem_range.mp (hp.mem_iff.mp hi);simp[A7,Ba h]
theorem fN:∀ ns:List Int,Dv.intsOf (ns.map .int)=some ns
 | []=>rfl
 | n::r=>by simp[Dv.intsOf,fN r]
theorem oV {K:Frag}{H:Hp}:∀ {nss:List (List Int)} {vs:List V},RpL K H (nss.map λ ns=>.lst (ns.map .int)) vs->Paired (ItL K H) vs nss
 | [],vs,h=>by rw[A9] at h;unfold RpL at h;subst h;exact .nil
 | ns::r,vs,h=>by
  rw[A2] at h;unfold RpL at h;obtain⟨v,ws,rfl,g1,g2⟩:=h;unfold Rp at g1;obtain⟨b,bs,rfl,g3,g4⟩:=g1;have eb:=RpL.ints (fN ns) g4;subst eb;exact .cons ⟨b,rfl,g3⟩ (oV g2)
theorem pB {K:Frag}{H:Hp}:∀ {nss:List (List Int)} {vs:List V},(∀ ns∈nss,ns≠[])->RpL K H (nss.map λ ns=>.tup (ns.map .int)) vs->Paired (ItT H) vs nss
 | [],vs,_,h=>by rw[A9] at h;unfold RpL at h;subst h;exact .nil
 | ns::r,vs,hn,h=>by
  rw[A2] at h;unfold RpL at h;obtain⟨v,ws,rfl,g1,g2⟩:=h;unfold Rp at g1;obtain⟨b,bs,rfl,g3,g4⟩:=g1;have eb:=RpL.ints (fN ns) g4;subst eb;exact .cons ⟨b,rfl,g3,hn _ A6⟩ (pB (λ x hx=>hn x (A5 _ hx)) g2)
theorem ItL.same {K:Frag}{H H':Hp}(e:Same H H'){v:V}{ns:List Int}(h:ItL K H v ns):ItL K H' v ns:=let ⟨b,h1,h2⟩:=h;⟨b,h1,h2.same e⟩
theorem ItT.same {H H':Hp}(e:Same H H'){v:V}{ns:List Int}(h:ItT H v ns):ItT H' v ns:=let ⟨b,h1,h2,h3⟩:=h;⟨b,h1,Rd.same e h2,h3⟩
section
variable {C:Ctx}{a:Expr}{f:EE}{pos:Pos}
theorem jW {K:Frag}{Hv H Hv1 H1:Hp}{ds:List D}{x:V}{fr:Bool}(e:Ext Hv H Hv1 H1)(rx:Rp K Hv1 (.lst ds) x)(n:fr=true->Rp [] (Hnew H H1) (.lst ds) x):∃ l vs,x=.ref l/\SqX K H1 l vs/\RpL K Hv1 ds vs/\(fr=true->RpL [] (Hnew H H1) ds vs):=by
 cases fr with
 | true=>
  have rn:=n rfl;unfold Rp at rn;obtain⟨l,vs,rfl,h1,h2⟩:=rn;refine⟨l,vs,rfl,?_,(RpL.frag h2).same e.news,λ _=>h2⟩
  rcases h1 with h1|⟨its,n,e,_⟩
  ·exact .inl (Rd.same Hnew.sub h1)
  ·simp at e
 | false=>
  unfold Rp at rx;obtain⟨l,vs,rfl,h1,h2⟩:=rx;exact⟨l,vs,rfl,h1.same e.vh,h2,λ z=>by cases z⟩
theorem mW:C1S C (.builtin "sorted") Dv.sortedLD:=by
 refine⟨_,kf C.un,λ x d fr H Hv H1 Hv1 W Q e rx n q=>?_⟩;cases d with
 | lst ds=>
  simp only[Dv.sortedLD] at q;cases hi:Dv.listsOf ds with
  | none=>rw[hi] at q;exact(show False from q).elim
  | some nss=>
   rw[hi] at q;by_cases h64:nss.length<64
   ·simp only[h64,if_true] at q
    have ed:=lV hi;subst ed;obtain⟨l,vs,rfl,h1,h2,h3⟩:=jW e rx n;have hl:=h2.length;rw[A4] at hl;refine⟨l,vs,nss,rfl,h1,by omega,Paired.mapM (oV h2) λ _ _ _ z=>z.same e.vh,λ out hp hs p hpn=>?_⟩;rw[hl] at hp hs;have hin:∀ i∈out,i<(nss.map λ ns=>D.lst (ns.map .int)).length:=λ i hi=>by rw[A4];exact List.mem_range.mp (hp.mem_iff.mp hi)
    have fin:∀ {K:Frag} {H:Hp},RpL K H (nss.map λ ns=>D.lst (ns.map .int)) vs->RpL K H ((Dv.lsort nss).map λ ns=>D.lst (ns.map .int)) (out.map λ i=>vs.getD i .non):=λ {K H} r=>by
     have r2:=RpL.pick r out hin;rw[qV hp,picked hp hs] at r2;exact r2
    exact Ok.newL q e (fin h2) (λ z=>fin (h3 z)) p hpn
   ·simp only[h64,if_false] at q
    exact(show False from q).elim
 | _=>exact(show False from q).elim
theorem iN {p:Pos}(hm:C.X.mg "sorted"=none)(hg:Gl C.X "sorted")(ha:SE C a f)(he:autoParam (starEach [a] C.X.env=[(false,eval a C.X.env)]) ZF._auto_1):SE C (.Call (.Name "sorted" p) [a] [] pos) (Dv.eB1 Dv.sortedLD f):=lh mW hg hm FU ha (by decide) (by decide) he
end
open PySem PySem.Spec PyProof.Rows L2
open Dv (D R RL EE EL EI RI Sl Out SS Wy An Cs Ws WR Wk PR)
section
variable {C:Ctx}{a b c e k:Expr}{f g h:EE}{pos:Pos}
theorem yg:OpR C.X (compareOp .In) (λ x y H Q=>∃ a o,y=.ref a/\xf H a x o/\Q (.bl o.isSome) H):=by
 intro pins s σ H x y v u Q I rx ry h;obtain⟨a,o,rfl,g,q⟩:=h;obtain rfl:u=EA a:=ry;exact AK (tq C) I g rx λ s3 I3=>⟨.bl o.isSome,H,I3,rfl,q⟩
theorem zi:OpS C (compareOp .In) Dv.dinD:=by
 refine⟨_,yg,λ x y d d' H Hv H1 Hv1 W Q e rx ry q=>?_⟩;cases d with
 | int j=>
  cases d' with
  | dct ks ds=>
   unfold Rp at rx;have ry':=ry;unfold Rp at ry';obtain⟨a,vs,rfl,hl,h1,h2⟩:=ry';cases hk:Dv.look ks ds j with
   | none=>
    have q:Ok C.X.K Hv H W C.cls (.ok (.bl false) true) Q:=by have:=q;simp only[Dv.dinD,hk] at this;exact this
    refine⟨a,none,rfl,.inl ⟨_,Sum.inl j,Rd.same e.vh h1,rx,(fU hl h2 hk).symm⟩,?_⟩;exact q.at (v:=.bl (none:Option V).isSome) e cT rfl
   | some d0=>
    have q:Ok C.X.K Hv H W C.cls (.ok (.bl true) true) Q:=by have:=q;simp only[Dv.dinD,hk] at this;exact this
    obtain⟨v0,e1,e2⟩:=cb h2 hk;refine⟨a,some v0,rfl,.inl ⟨_,Sum.inl j,Rd.same e.vh h1,rx,e1.symm⟩,?_⟩;exact q.at (v:=.bl (some v0).isSome) e cT rfl
  | _=>exact(show False from q).elim
 | _=>exact(show False from q).elim
theorem zj (ha:SE C a f)(hb:SE C b g)(hm:autoParam (behindInMarks .In b=false) ZJ._auto_1):SC C (.Compare a [.In] [b] pos) (Dv.eB2 Dv.dinD f g):=cV zi ha hb hm
theorem fL {R:Prop}(h:SE C e f)(k:∀ t,PE C.X e t->Tak C t f->R):R:=let ⟨t,p,q⟩:=h;k t p q
theorem vp {CW CC:Addr}{k:Wk}{F:List D->PR}{e:Expr}{es:List Expr}{fl:EL}{m jA jP:Nat}{fA fP:Addr}{fdA fdP:FuncData}{sA sP:Stmt}{ps:List Str}{xA xP:Str}{pA pP pos posP:Pos}
  (dA:Df C.X.K C.X.mg xA sA ["walk"] fA fdA) (oA:FnOk C.X.prog C.X.w C.X.K C.X.mg C.X.base C.CX jA fA fdA ["walk"] (jy C.X.K CW CC C.cls k)) (dP:Df C.X.K C.X.mg xP sP ps fP fdP) (oP:FnOk C.X.prog C.X.w C.X.K C.X.mg C.X.base C.CX jP fP fdP ps (qW C.X.K CW CC C.cls F ps.length))
  (hr:Room m C.X.A) (hjA:jA<=m) (hjP:jP<=m) (hgA:Gl C.X xA) (hgP:Gl C.X xP) (ha:SL C (e::es) fl) (hlen:autoParam ((e::es).length=ps.length) ZF._auto_1) (hdA:autoParam ((xA == ("__debug__":Str))=false) ZC._auto_1) (hdP:autoParam ((xP == ("__debug__":Str))=false) ZC._auto_1)
  (heA:autoParam (starEach [.Call (.Name xP pP) (e::es) [] posP] C.X.env=(false,eval (.Call (.Name xP pP) (e::es) [] posP) C.X.env)::starEach [] C.X.env) ZF._auto_1) (hplA:autoParam ((backTo pos (starEach [] C.X.env)).any (·.1)=false) ZF._auto_1)
  (heP:autoParam (starEach (e::es) C.X.env=(false,eval e C.X.env)::starEach es C.X.env) ZF._auto_1) (hplP:autoParam ((backTo posP (starEach es C.X.env)).any (·.1)=false) ZF._auto_1):
  SE C (.Call (.Name xA pA) [.Call (.Name xP pP) (e::es) [] posP] [] pos) (Dv.eAllF k F fl):=
 nW dA oA dP oP hr hjA hjP hgA hgP ha hlen hdA hdP heA hplA heP hplP
end
theorem lA {P:Program}{w:World}{K:Er}{mg:Str->Option Value}{base:Heap}{N:List Str}{qual:Str}{scope:Scope}{f:Addr}{cd:Value}{A:Around}{outer:List EO}{s:Shared}{H:Hp}{E:XK}:
  fT (CXe P w) (cq (CXe P w) P w K mg base N qual scope f cd A outer s H E) E:=λ pins σ H1 s1 e s' I h=>(cxe_ok (P:=P) (w:=w)).leave K mg base N qual scope f cd A outer s H E pins σ H1 s1 e s' I h
section
variable {C:Ctx}{e:Expr}{f:EE}{pos:Pos}
def t9 (C:Ctx)(s:Stmt)(i:Nat)(f:EE):Prop:=∃ te,Tak C te f/\PS C.X s (fI (tBM C.X.K "list" dg (bc i) (aZ te bR)))
theorem wm {i:Nat}{x:Str}{apos cpos:Pos}{px:Pos}(he:SE C e f)(hN:autoParam (C.X.N[i]?=some x) ZF._auto_1)(hv:autoParam (Vis C.X.env.scope x) ZG._auto_1)
  (hd:autoParam ((x == ("__debug__":Str))=false) ZC._auto_1) (hcd:autoParam ((x == ("__classdict__":Str))=false) ZC._auto_1) (hst:autoParam (starEach [e] C.X.env=[(false,eval e C.X.env)]) ZF._auto_1)
  (hbase:autoParam (attributeBase (.Name x px) "append" C.X.env (eval (.Name x px) C.X.env)=eval (.Name x px) C.X.env) ZF._auto_1)
  (hfew:autoParam (((backTo cpos (starEach [e] C.X.env)).all (λ x=>!x.1)&&(backToKw cpos (keywordEach [] C.X.env)).all (λ x=>x.1.isSome)
   && decide ([e].length+([]:List Keyword).length+(if ([]:List Keyword).isEmpty then 0 else 1)<30))=true) ZF._auto_1)
  (hline:autoParam ((apos.endLine == cpos.line)=true) ZF._auto_1) (hs:autoParam (swapsWith (.Call (.Attribute (.Name x px) "append" apos) [e] [] cpos) none pos.line C.X.env=pure false) ZF._auto_1):
  t9 C (.Expr (.Call (.Attribute (.Name x px) "append" apos) [e] [] cpos) pos) i f:=by
 obtain⟨t,p,q⟩:=he;exact⟨t,q,bM (eN EH ER ES bH (c8 hN hv hd hcd) (ar p az hst) hbase hfew hline hst rfl) hs⟩
theorem lC {s1 s2:Stmt}{ss:List Stmt}{G:SS}{i j:Nat}{d0:D}(h1:∃ t:TS,PS C.X s1 t/\p7 C t i j)(h2:t9 C s2 i f)(hf:f []=.ok d0 true)(h3:SSs C ss G):SSs C (s1::s2::ss) (Dv.sCons (Dv.sKillRows i j) G):=by
 obtain⟨t1,p1,k1⟩:=h1;obtain⟨te,qe,p2⟩:=h2;obtain⟨t3,p3,q3⟩:=h3;refine⟨_,aB p1 (aB p2 p3),λ Hv₀ H₀ E σ H st ⟨Hc,O,r⟩ w=>?_⟩;have w':OkS C Hv₀ H₀ E ((Dv.sKillRows i j st).bind G):=w;unfold Dv.sKillRows at w'
 split at w'
 ·rename_i ds hi
  split at w'
  ·rename_i m hm
   split at w'
   ·rename_i hb
    simp only[Bj,decide_eq_true_eq] at hb;obtain⟨⟨⟨b1,b2⟩,b3⟩,b4⟩:=hb;have hj:Dv.junk (.dp (.lst ds))=some (ds.length,m):=by simp[Dv.junk,Dv.shapeD,hm]
    obtain⟨v,g1,J⟩:=r.junk hi hj;obtain⟨v',g1',rp⟩:=r.dp i _ hi;rw[g1] at g1';cases g1';have rp':=rp;unfold Rp at rp';obtain⟨tt,vs,rfl,hq,hl⟩:=rp';have hO:O i tt=some (.lst vs):=by
     rcases hq with (hq|⟨o,hq⟩)|⟨its,n,e,_⟩
     ·exact hq
     ·exact absurd ((r.oh i tt _ hq).1) (r.nf tt _ _ (r.oh i tt _ hq).2.2)
     ·simp at e
    have lin:i<st.length:=(List.getElem?_eq_some_iff.mp hi).1;have r1:RelC C.X.K Hv₀ H₀ Hc O (st.set i (.jk ds.length m)) σ H:=by
     have:=r.setAny (i:=i) (s:=.jk ds.length m) (v:=some (.ref tt)) (H':=H) (O':=O) r.h0 r.ch r.nf (λ _ _=>rfl) (λ d e=>nomatch e) (λ d e=>nomatch e) (λ d e=>nomatch e) (λ n' m' e=>by cases e;exact⟨_,rfl,J⟩) r.oh (λ k b o o' h h' h''=>h' (r.one k i b o' o h'' h));rw[gr g1] at this;exact this
    refine k1 Hv₀ H₀ _ σ H _ Hc O ds.length m tt vs r1 (BA lin) g1 (r.oh i tt _ hO).1 b1 b2 b3 (by rw[BD];exact b4) λ σ2 H2 ⟨Hc2,O2,r2⟩ z1 z2=>?_
    refine⟨_,z1,.inl ⟨rfl,vs,SqL.of z2⟩,?_⟩;refine qe _ _ Hc2 [] _ (λ i d z=>by simp at z) r2.ch ?_
    rw[hf];intro v3 Hv3 H3 x3 rp3 nn3;have r3:=r2.growC x3;have hlen:vs.length=ds.length:=hl.length;refine⟨tt,vs,v3,rfl,rfl,x3.hh _ _ z2,by rw[EU];omega,?_⟩;have e0:((st.set i (.jk ds.length m)).set j .no).set i (.jk ds.length (m+ds.length))=(st.set j .no).set i (.jk ds.length (m+ds.length)):=by rw[De _ _ (Ne.symm b3),C6,De _ _ b3]
    have hself:(((st.set i (.jk ds.length m)).set j .no).set i (.jk ds.length (m+ds.length)))[i]?=some (.jk ds.length (m+ds.length)):=BA (by rw[BD,BD];exact lin)
    obtain⟨v4,k4,tt4,vs4,e4,ht4,_,_⟩:=r3.jk i _ _ hself;rw[z1] at k4;cases k4;cases e4;have ht5:∃ u,O2 i tt=some u:=by rcases ht4 with h|h <;>exact⟨_,h⟩
    obtain⟨u,hu⟩:=ht5;have r4:=r3.putAny (i:=i) (s:=.no) (v:=.ref tt) (a:=tt) (u:=u) (o:=.lst (vs++[v3])) z1 hu (by intro _ _ z;cases z) (λ d e=>nomatch e) (λ n' m' e=>nomatch e) λ d=>⟨nofun,nofun⟩
    rw[e0,C6] at r4;exact q3 Hv₀ H₀ E σ2 _ _ ⟨_,_,r4⟩ w'
   ·exact(show False from w').elim
  ·exact(show False from w').elim
 ·exact(show False from w').elim
end
end Sd
namespace Sts
open PySem PySem.SetTable
def Ris (xs:Array Nat):Prop:=xs.toList.Pairwise (·<·)
theorem Ris.at {xs:Array Nat}(r:Ris xs){i j:Nat}(hj:j<xs.size)(hij:i<j):xs.getD i 0<xs.getD j 0:=by
 have hi:i<xs.size:=by omega
 have:=List.pairwise_iff_getElem.mp r i j (by simpa using hi) (by simpa using hj) hij;simpa[EK,hi,hj] using this
theorem tZ {xs:Array Nat}(r:Ris xs)(j:Nat):∀ (fuel lo hi:Nat),hi<=xs.size->lo<=hi->hi-lo<=fuel->(∀ i,i<lo->xs.getD i 0<j)->(∀ i,hi<=i->i<xs.size->j<=xs.getD i 0) ->
  below.go xs j fuel lo hi<=xs.size/\(∀ i,i<below.go xs j fuel lo hi->xs.getD i 0<j)/\∀ i,below.go xs j fuel lo hi<=i->i<xs.size->j<=xs.getD i 0
 | 0,lo,hi,h1,h2,h3,h4,h5=>by
  have:lo=hi:=by omega
  subst this;exact⟨h1,h4,h5⟩
 | fuel+1,lo,hi,h1,h2,h3,h4,h5=>by
  unfold below.go;by_cases hl:lo<hi
  ·rw[if_pos hl]
   have hm:(lo+hi)/2<xs.size:=by omega
   have eg:xs.getD ((lo+hi)/2) j=xs.getD ((lo+hi)/2) 0:=by simp[EK,hm]
   simp only[eg];by_cases hc:xs.getD ((lo+hi)/2) 0<j
   ·rw[if_pos hc]
    refine tZ r j fuel _ _ h1 (by omega) (by omega) (λ i hi'=>?_) h5;by_cases e:i=(lo+hi)/2
    ·subst e;exact hc
    ·exact Dr (r.at hm (by omega)) hc
   ·rw[if_neg hc]
    refine tZ r j fuel _ _ (by omega) (by omega) (by omega) h4 λ i h6 h7=>?_
    by_cases e:i=(lo+hi)/2
    ·subst e;omega
    ·have:=r.at (i:=(lo+hi)/2) h7 (by omega);omega
  ·rw[if_neg hl]
   have:lo=hi:=by omega
   subst this;exact⟨h1,h4,h5⟩
theorem fk {xs:Array Nat}(r:Ris xs)(j:Nat):below xs j<=xs.size/\(∀ i,i<below xs j->xs.getD i 0<j)/\∀ i,below xs j<=i->i<xs.size->j<=xs.getD i 0:=
 tZ r j xs.size 0 xs.size (Bh _) (BV _) (by omega) (λ i h=>by omega) λ i h1 h2=>by omega
theorem below_at {xs:Array Nat}(r:Ris xs){i:Nat}(hi:i<xs.size):below xs (xs.getD i 0)=i:=by
 obtain⟨h1,h2,h3⟩:=fk r (xs.getD i 0)
 rcases Di (below xs (xs.getD i 0)) i with h|h|h
 ·have a:=h3 _ (Bh _) (by omega)
  have b:=r.at hi h;omega
 ·exact h
 ·have:=h2 i h;omega
def Occ (t:SetTable)(j:Nat):Prop:=j∈t.place.toList
theorem pT (j:Nat):has #[] j=false:=by
 simp[has,below,below.go]
theorem fV {t:SetTable}(r:Ris t.place){i:Nat}(hi:i<t.place.size):t.slot (t.place.getD i 0)=.live i:=by
 unfold slot;simp only[below_at r hi];have:t.place[i]?=some (t.place.getD i 0):=by simp[EK,hi]
 rw[this];simp
theorem nM {t:SetTable}(hd:t.dummies=#[]){j:Nat}(h:¬ Occ t j):t.slot j=.empty:=by
 unfold slot;have:¬ (t.place[below t.place j]? == some j)=true:=λ e=>by
  have e:=beq_iff_eq.mp e;exact h (by rw[<- FK] at e;exact BB e)
 rw[if_neg this,hd,pT];rfl
theorem yf {t:SetTable}{j:Nat}(h:Occ t j):∃ i,i<t.place.size/\t.place.getD i 0=j:=by
 obtain⟨i,hi,e⟩:=BC h;have hi':i<t.place.size:=by simpa using hi
 exact⟨i,hi',by simpa[EK,hi'] using e⟩
def adv (mask:Nat)(p:Probe):Probe:=
 if p.more > 0 then { p with j:=p.j+1,more:=p.more-1 } else
 { p with j:=(leap mask p.i p.perturb).1,more:=runEnd mask (leap mask p.i p.perturb).1-(leap mask p.i p.perturb).1,i:=(leap mask p.i p.perturb).1,perturb:=(leap mask p.i p.perturb).2 }
def adN (mask:Nat):Nat->Probe->Probe
 | 0,p=>p
 | k+1,p=>adN mask k (adv mask p)
theorem bS (mask:Nat):∀ (a b:Nat) (p:Probe),adN mask (a+b) p=adN mask b (adN mask a p)
 | 0,b,p=>by rw[CF];rfl
 | a+1,b,p=>by rw[DU];exact bS mask a b (adv mask p)
theorem mT (mask k:Nat)(p:Probe):adN mask (k+1) p=adv mask (adN mask k p):=bS mask k 1 p
theorem jG (mask:Nat)(p:Probe):(adv mask p).dummy=p.dummy:=by unfold adv;split <;>rfl
theorem jt (mask:Nat):∀ (k:Nat) (p:Probe),(adN mask k p).dummy=p.dummy
 | 0,_=>rfl
 | k+1,p=>by rw[adN,jt mask k,jG]
def at0 (mask i pt:Nat)(d:Option Nat):Probe:={ j:=i,more:=runEnd mask i-i,i:=i,perturb:=pt,dummy:=d }
theorem tQ (mask i:Nat):runEnd mask i-i<=9:=by unfold runEnd;split <;>omega
theorem fq (mask:Nat):∀ (m:Nat) (p:Probe),p.more=m->adN mask (m+1) p=at0 mask (leap mask p.i p.perturb).1 (leap mask p.i p.perturb).2 p.dummy
 | 0,p,h=>by
  unfold adN adN adv;rw[if_neg (by omega)];rfl
 | m+1,p,h=>by
  rw[adN];have e:adv mask p={ p with j:=p.j+1,more:=p.more-1 }:=by unfold adv;rw[if_pos (by omega)]
  rw[e];exact fq mask m _ (by show p.more-1=m;omega)
def lps (mask:Nat):Nat->Nat×Nat->Nat×Nat
 | 0,x=>x
 | l+1,x=>lps mask l (leap mask x.1 x.2)
theorem uR (mask:Nat):∀ (l:Nat) (p:Probe),p.more<=9->∃ k,k<=10*(l+1)/\adN mask k p=at0 mask (lps mask (l+1) (p.i,p.perturb)).1 (lps mask (l+1) (p.i,p.perturb)).2 p.dummy
 | 0,p,h=>⟨p.more+1,by omega,fq mask _ p rfl⟩
 | l+1,p,h=>by
  obtain⟨k,h1,h2⟩:=uR mask l (at0 mask (leap mask p.i p.perturb).1 (leap mask p.i p.perturb).2 p.dummy) (tQ _ _);refine⟨p.more+1+k,by omega,?_⟩;rw[bS,fq mask _ p rfl,h2];rfl
theorem pH (mask:Nat):∀ (a b:Nat) (x:Nat×Nat),lps mask (a+b) x=lps mask b (lps mask a x)
 | 0,b,x=>by rw[CF];rfl
 | a+1,b,x=>by rw[DU];exact pH mask a b _
theorem t5 (mask:Nat):∀ (a:Nat) (x:Nat×Nat),(lps mask a x).2=x.2/32 ^ a
 | 0,x=>by simp[lps]
 | a+1,x=>by
  rw[lps,t5 mask a];show x.2/32/32 ^ a=_
  rw[Nat.div_div_eq_div_mul,DV,Ds]
def g5 (mask i:Nat):Nat:=(i*5+1)%(mask+1)
def g5n (mask:Nat):Nat->Nat->Nat
 | 0,i=>i
 | k+1,i=>g5n mask k (g5 mask i)
theorem ly (mask:Nat):∀ (a i:Nat),lps mask a (i,0)=(g5n mask a i,0)
 | 0,i=>rfl
 | a+1,i=>by
  rw[lps];have:leap mask i 0=(g5 mask i,0):=by simp[leap,g5]
  show lps mask a (leap mask i 0)=_
  rw[this,ly mask a];rfl
theorem gW (mask:Nat):∀ (a b i:Nat),g5n mask (a+b) i=g5n mask b (g5n mask a i)
 | 0,b,i=>by rw[CF];rfl
 | a+1,b,i=>by rw[DU];exact gW mask a b _
def Mk (mask:Nat):Prop:=mask=7\/mask=31\/mask=127
def o8 (mask:Nat):Bool:=((List.range (mask+1)).all λ s=>(List.range (mask+1)).any λ a=>g5n mask a 0 == s)&&(g5n mask (mask+1) 0 == 0)
theorem tL {mask:Nat}(h:Mk mask):o8 mask=true:=by
 rcases h with rfl|rfl|rfl <;>decide +kernel
theorem rj {mask:Nat}(h:Mk mask){i s:Nat}(hi:i<=mask)(hs:s<=mask):∃ m,m<=mask/\g5n mask m i=s:=by
 have o:=tL h;unfold o8 at o;rw[Bj] at o;have g:=λ x (hx:x<=mask)=>List.any_eq_true.mp (List.all_eq_true.mp o.1 x (List.mem_range.mpr (by omega)))
 obtain⟨a,ha,ea⟩:=g i hi;obtain⟨b,hb,eb⟩:=g s hs;have ha:=List.mem_range.mp ha;have hb:=List.mem_range.mp hb;have ea:=beq_iff_eq.mp ea;have eb:=beq_iff_eq.mp eb;have ez:=beq_iff_eq.mp o.2;by_cases q:a<=b
 ·refine⟨b-a,by omega,?_⟩
  rw[<- ea,<- gW,DN q,eb]
 ·refine⟨mask+1-a+b,by omega,?_⟩
  rw[<- ea,<- gW,<- Ef,DN (by omega),gW,ez,eb]
theorem kY (mask i pt:Nat):(leap mask i pt).1<=mask:=by
 show (i*5+1+pt/32)%(mask+1)<=mask
 have:=DM (i*5+1+pt/32) (show 0<mask+1 by omega);omega
theorem tj (mask:Nat):∀ (l:Nat) (x:Nat×Nat),(lps mask (l+1) x).1<=mask
 | 0,x=>kY _ _ _
 | l+1,x=>by rw[lps];exact tj mask l _
theorem ou {mask:Nat}(h:Mk mask){i pt s:Nat}(hp:pt<2 ^ 64)(hs:s<=mask):∃ l,l+1<=mask+13/\(lps mask (l+1) (i,pt)).1=s:=by
 have h0:(lps mask 13 (i,pt)).2=0:=by
  rw[t5];exact Nat.div_eq_of_lt (Dr hp (by decide))
 obtain⟨m,hm,e⟩:=rj h (tj mask 12 (i,pt)) hs;refine⟨12+m,by omega,?_⟩;rw[show 12+m+1=13+m by omega,pH];have:lps mask 13 (i,pt)=((lps mask 13 (i,pt)).1,0):=by rw[<- h0]
 rw[this,ly];exact e
theorem cover {mask:Nat}(h:Mk mask){p:Probe}(hm:p.more<=9)(hp:p.perturb<2 ^ 64){s:Nat}(hs:s<=mask):∃ k,k<10*turns mask/\(adN mask k p).j=s:=by
 obtain⟨l,h1,h2⟩:=ou h (i:=p.i) hp hs;obtain⟨k,h3,h4⟩:=uR mask l p hm;exact⟨k,by unfold turns;omega,by rw[h4];exact h2⟩
def start (mask:Nat)(h:Int):Probe:=at0 mask (bits h%(mask+1)) (bits h) none
theorem fm (h:Int):bits h<2 ^ 64:=by
 unfold bits;have h1:=D9 h (show (2 ^ 64:Int)≠0 by decide);have h2:=DR h (show (0:Int)<2 ^ 64 by decide);omega
theorem lg {P:Nat->Prop}[DecidablePred P]:∀ (k:Nat),P k->∃ k0,k0<=k/\P k0/\∀ k',k'<k0->¬ P k'
 | 0,h=>⟨0,Bh _,h,λ k' hk=>by omega⟩
 | k+1,h=>by
  by_cases q:∃ k',k'<=k/\P k'
  ·obtain⟨k',h1,h2⟩:=q
   have:∀ m,m<=k->P m->∃ k0,k0<=k/\P k0/\∀ k',k'<k0->¬ P k':=λ m hm hp=>by
    obtain⟨k0,a,b,c⟩:=lg m hp;exact⟨k0,by omega,b,c⟩
   obtain⟨k0,a,b,c⟩:=this k' h1 h2;exact⟨k0,by omega,b,c⟩
  ·exact⟨k+1,Bh _,h,λ k' hk hp=>q ⟨k',by omega,hp⟩⟩
instance (t:SetTable)(j:Nat):Decidable (Occ t j):=inferInstanceAs (Decidable (j∈t.place.toList))
theorem uf {l:List Nat}:∀ {n:Nat},l.Nodup->(∀ x∈l,x<n)->l.length<=n:=λ {n} nd h=>by
 have:=nd.length_le_of_subset (l₂:=List.range n) λ x hx=>List.mem_range.mpr (h x hx)
 simpa using this
theorem sD {t:SetTable}(r:Ris t.place)(hf:t.place.size<=t.mask):∃ s,s<=t.mask/\¬ Occ t s:=by
 refine Fx λ hn=>?_
 have all:∀ s∈List.range (t.mask+1),s∈t.place.toList:=λ s hs=>Fx λ q=>hn ⟨s,by have:=List.mem_range.mp hs;omega,q⟩
 have:=(Do (n:=t.mask+1)).length_le_of_subset all;simp at this;omega
theorem m7 {t:SetTable}(r:Ris t.place)(hk:Mk t.mask)(hf:t.place.size<=t.mask)(h:Int):∃ k0,k0<10*turns t.mask/\¬ Occ t (adN t.mask k0 (start t.mask h)).j/\∀ k',k'<k0->Occ t (adN t.mask k' (start t.mask h)).j:=by
 obtain⟨s,h1,h2⟩:=sD r hf;obtain⟨k,h3,h4⟩:=cover hk (p:=start t.mask h) (tQ _ _) (fm h) h1;obtain⟨k0,a,b,c⟩:=lg (P:=λ k=>¬ Occ t (adN t.mask k (start t.mask h)).j) k (by rw[h4];exact h2);exact⟨k0,by omega,b,λ k' hk'=>Decidable.not_not.mp (c k' hk')⟩
theorem iz {t:SetTable}(r:Ris t.place)(hd:t.dummies=#[]){hashAt:Nat->Int}{h:Int}:∀ (k fuel:Nat) (p:Probe),p.dummy=none->k<fuel->(∀ k',k'<k->∃ i,i<t.place.size/\t.place.getD i 0=(adN t.mask k' p).j/\hashAt i≠h) ->
  (¬ Occ t (adN t.mask k p).j->probe.go t hashAt h fuel p=some (.empty (adN t.mask k p).j none)) /\
  ∀ i,i<t.place.size->t.place.getD i 0=(adN t.mask k p).j->hashAt i=h->probe.go t hashAt h fuel p=some (.candidate (adN t.mask k p).j i (adN t.mask (k+1) p))
 | 0,0,p,_,hf,_=>by omega
 | k+1,0,p,_,hf,_=>by omega
 | 0,fuel+1,p,hn,hf,_=>by
  refine⟨λ ho=>?_,λ i hi e eh=>?_⟩
  ·unfold probe.go
   rw[show t.slot p.j=.empty from nM hd ho,hn];rfl
  ·unfold probe.go
   have:t.slot p.j=.live i:=by
    have e:t.place.getD i 0=p.j:=e;rw[<- e];exact fV r hi
   rw[this];simp only[eh,beq_self_eq_true,if_true];rfl
 | k+1,fuel+1,p,hn,hf,hs=>by
  obtain⟨i,hi,e,ne⟩:=hs 0 (by omega);have sl:t.slot p.j=.live i:=by
   have e:t.place.getD i 0=p.j:=e;rw[<- e];exact fV r hi
  have st:probe.go t hashAt h (fuel+1) p=probe.go t hashAt h fuel (adv t.mask p):=by
   rw[probe.go,sl];have:(hashAt i == h)=false:=by simpa using ne
   simp only[this,Be,if_false];rfl
  rw[st];exact iz r hd k fuel (adv t.mask p) (by rw[jG];exact hn) (by omega) λ k' hk'=>hs (k'+1) (by omega)
theorem bY {α:Type}(xs:Array α)(p:Nat)(x:α):(insertAt xs p x).toList=xs.toList.take p++x::xs.toList.drop p:=by
 unfold insertAt;simp[Array.toList_extract,Cq]
theorem ib {α:Type}(xs:Array α)(p:Nat)(x:α):(insertAt xs p x).size=xs.size+1:=by
 rw[<- EF,bY];simp;omega
theorem wM {xs:Array Nat}(r:Ris xs){j:Nat}(h:j∉xs.toList):Ris (insertAt xs (below xs j) j):=by
 obtain⟨h1,h2,h3⟩:=fk r j;unfold Ris;rw[bY];have tk:∀ x∈xs.toList.take (below xs j),x<j:=λ x hx=>by
  obtain⟨i,hi,rfl⟩:=BC hx;rw[List.getElem_take];rw[B4] at hi;have hi':i<xs.size:=by have:=EF (xs:=xs);omega
  have:=h2 i (by omega);simpa[EK,hi'] using this
 have dr:∀ x∈xs.toList.drop (below xs j),j<x:=λ x hx=>by
  have hm:=C4 hx;obtain⟨i,hi,e⟩:=BC hx;rw[List.getElem_drop] at e;rw[DZ] at hi;have hi':below xs j+i<xs.size:=by have:=EF (xs:=xs);omega
  have h4:=h3 (below xs j+i) (by omega) hi';have h5:j<=x:=by rw[<- e];simpa[EK,hi'] using h4
  have h6:j≠x:=λ q=>h (q▸hm)
  omega
 refine List.pairwise_append.mpr ⟨List.Pairwise.sublist (DX _ _) r,List.pairwise_cons.mpr ⟨dr,List.Pairwise.sublist (DY _ _) r⟩,λ x hx y hy=>?_⟩
 rcases List.mem_cons.mp hy with rfl|hy
 ·exact tk x hx
 ·exact Dr (tk x hx) (dr y hy)
theorem ins_mem {α:Type}{xs:Array α}{p:Nat}{x y:α}:y∈(insertAt xs p x).toList ↔ y=x\/y∈xs.toList:=by
 rw[bY,B0,BE];have:y∈xs.toList ↔ y∈xs.toList.take p\/y∈xs.toList.drop p:=by
  conv=>lhs;rw[<- Ce p xs.toList]
  exact B0
 rw[this]
 constructor
 ·rintro (a|a|a)
  ·exact .inr (.inl a)
  ·exact .inl a
  ·exact .inr (.inr a)
 ·rintro (a|a|a)
  ·exact .inr (.inl a)
  ·exact .inl a
  ·exact .inr (.inr a)
theorem wz {α β:Type}{xs:Array α}{ys:Array β}(hl:xs.size=ys.size)(p:Nat)(x:α)(y:β)(q:α×β):q∈(insertAt xs p x).toList.zip (insertAt ys p y).toList ↔ q=(x,y)\/q∈xs.toList.zip ys.toList:=by
 have hl':xs.toList.length=ys.toList.length:=by simpa using hl
 rw[bY,bY,DA (by rw[B4,B4,hl']),B5,B0,BE];have e:xs.toList.zip ys.toList=(xs.toList.take p).zip (ys.toList.take p)++(xs.toList.drop p).zip (ys.toList.drop p):=by
  rw[<- DA (by rw[B4,B4,hl']),Ce,Ce]
 rw[e,B0]
 constructor
 ·rintro (a|a|a)
  ·exact .inr (.inl a)
  ·exact .inl a
  ·exact .inr (.inr a)
 ·rintro (a|a|a)
  ·exact .inr (.inl a)
  ·exact .inl a
  ·exact .inr (.inr a)
def Fits (mask n:Nat):Prop:=(mask=7/\n<5)\/(mask=31/\n<19)\/(mask=127/\n<77)
theorem Fits.mk {mask n:Nat}(h:Fits mask n):Mk mask:=by rcases h with h|h|h <;>simp[Mk,h.1]
theorem Fits.le {mask n:Nat}(h:Fits mask n):n+1<=mask:=by rcases h with h|h|h <;>omega
def Way (mask:Nat)(occ:Nat->Prop)(h:Int)(j:Nat):Prop:=∃ k,(adN mask k (start mask h)).j=j/\∀ k',k'<k->occ (adN mask k' (start mask h)).j
theorem Way.mono {mask:Nat}{o o':Nat->Prop}{h:Int}{j:Nat}(w:Way mask o h j)(m:∀ x,o x->o' x):Way mask o' h j:=let ⟨k,a,b⟩:=w;⟨k,a,λ k' hk=>m _ (b k' hk)⟩
structure TI {α:Type}(t:SetTable)(es:Array (Int×α)):Prop where
 size:t.place.size=es.size
 ris:Ris t.place
 le:∀ j,Occ t j->j<=t.mask
 dum:t.dummies=#[]
 way:∀ q∈es.toList.zip t.place.toList,Way t.mask (Occ t) q.1.1 q.2
theorem TI.fresh {α:Type}(f m:Nat)(l:Bool):TI (α:=α) (.fresh f m l) #[]:=⟨rfl,List.Pairwise.nil,λ j h=>(by cases h),rfl,λ q h=>(by simp at h)⟩
theorem TI.put {α:Type}{t:SetTable}{es:Array (Int×α)}(T:TI t es){h:Int}{x:α}{j:Nat}(hj:j<=t.mask)(ho:¬ Occ t j)(w:Way t.mask (Occ t) h j):
  (t.put j).2=below t.place j/\TI (t.put j).1 (insertAt es (below t.place j) (h,x))/\(t.put j).1.mask=t.mask/\(t.put j).1.plain=t.plain/\(t.put j).1.led=t.led/\(t.put j).1.moves=t.moves/\(t.put j).1.finger=t.finger:=by
 have ed:(if has t.dummies j then eraseAt t.dummies (below t.dummies j) else t.dummies)=#[]:=by
  rw[T.dum,pT];rfl
 have ep:(t.put j).1.place=insertAt t.place (below t.place j) j:=rfl;refine⟨rfl,⟨?_,?_,λ k hk=>?_,ed,λ q hq=>?_⟩,rfl,rfl,rfl,rfl,rfl⟩
 ·rw[ep,ib,ib,T.size]
 ·rw[ep];exact wM T.ris ho
 ·have hk:k∈(insertAt t.place (below t.place j) j).toList:=hk
  rcases ins_mem.mp hk with rfl|hk
  ·exact hj
  ·exact T.le k hk
 ·have mo:∀ x,Occ t x->Occ (t.put j).1 x:=λ x hx=>ins_mem.mpr (.inr hx)
  rcases (wz T.size.symm _ _ _ q).mp hq with rfl|hq
  ·exact w.mono mo
  ·exact(T.way q hq).mono mo
def own (o:Array (Option Nat))(j:Nat):Prop:=((o.getD j (some 0)).isNone)=false
instance (o:Array (Option Nat))(j:Nat):Decidable (own o j):=inferInstanceAs (Decidable (_=_))
theorem gX (mask i pt:Nat)(d:Option Nat):∀ (k:Nat),k<=runEnd mask i-i->(adN mask k (at0 mask i pt d)).j=i+k/\(adN mask k (at0 mask i pt d)).more=runEnd mask i-i-k/\(adN mask k (at0 mask i pt d)).i=i/\(adN mask k (at0 mask i pt d)).perturb=pt
 | 0,_=>⟨rfl,rfl,rfl,rfl⟩
 | k+1,h=>by
  obtain⟨a,b,c,e⟩:=gX mask i pt d k (by omega);rw[mT];unfold adv;rw[if_pos (by omega)];refine⟨?_,?_,c,e⟩
  ·show (adN mask k (at0 mask i pt d)).j+1=_;omega
  ·show (adN mask k (at0 mask i pt d)).more-1=_;omega
theorem pL {mask:Nat}{o:Array (Option Nat)}:∀ (fuel i pt:Nat),(∃ l,l<fuel/\¬ own o (lps mask l (i,pt)).1)->i<=runEnd mask i ->
  ∃ j,layClean.free mask o fuel i pt=some j/\¬ own o j/\∃ k,(adN mask k (at0 mask i pt none)).j=j/\∀ k',k'<k->own o (adN mask k' (at0 mask i pt none)).j
 | 0,i,pt,⟨l,h,_⟩,_=>by omega
 | fuel+1,i,pt,⟨l,h,hl⟩,hr=>by
  unfold layClean.free;cases hf:(List.range (runEnd mask i+1-i)).find? λ k=>(o.getD (i+k) (some 0)).isNone with
  | some k=>
   refine⟨i+k,rfl,?_,k,?_,λ k' hk'=>?_⟩
   ·have:=List.find?_some hf
    unfold own;rw[this];simp
   ·have hk:=List.mem_range.mp (Dj hf)
    exact(gX mask i pt none k (by omega)).1
   ·have hk:=List.mem_range.mp (Dj hf)
    rw[(gX mask i pt none k' (by omega)).1];obtain⟨_,as,bs,e,h2⟩:=List.find?_eq_some_iff_append.mp hf;have hm:k'∈as:=by
     have h3:as.length=k:=by
      have:(List.range (runEnd mask i+1-i))[as.length]?=some k:=by rw[e];simp
      rw[B9 (by
       have:=congrArg List.length e;simp at this;omega)] at this
      exact Option.some.inj this
     have:(List.range (runEnd mask i+1-i))[k']?=as[k']?:=by rw[e,Bx (by omega)]
     rw[B9 (by omega)] at this;exact BB this.symm
    have:=h2 k' hm;unfold own;simp only[Bool.not_eq_true'] at this;exact this
  | none=>
   have hn:=List.find?_eq_none.mp hf;have occ:∀ k,k<=runEnd mask i-i->own o (i+k):=λ k hk=>by
    have:=hn k (List.mem_range.mpr (by omega));unfold own;exact Bool.eq_false_iff.mpr this
   obtain⟨l',rfl⟩:∃ l',l=l'+1:=by
    cases l with
    | zero=>exact absurd (occ 0 (by omega)) (by simpa[lps] using hl)
    | succ l'=>exact⟨l',rfl⟩
   have rl:(leap mask i pt).1<=runEnd mask (leap mask i pt).1:=by unfold runEnd;split <;>omega
   obtain⟨j,h1,h2,k,h3,h4⟩:=pL fuel (leap mask i pt).1 (leap mask i pt).2 ⟨l',by omega,hl⟩ rl;refine⟨j,h1,h2,runEnd mask i-i+1+k,?_,λ k' hk'=>?_⟩
   ·rw[bS,show adN mask (runEnd mask i-i+1) (at0 mask i pt none)=at0 mask (leap mask i pt).1 (leap mask i pt).2 none from fq mask _ (at0 mask i pt none) rfl]
    exact h3
   ·by_cases q:k'<=runEnd mask i-i
    ·rw[(gX mask i pt none k' q).1];exact occ k' q
    ·obtain⟨k'',rfl⟩:∃ k'',k'=runEnd mask i-i+1+k'':=⟨k'-(runEnd mask i-i+1),by omega⟩
     rw[bS,show adN mask (runEnd mask i-i+1) (at0 mask i pt none)=at0 mask (leap mask i pt).1 (leap mask i pt).2 none from fq mask _ (at0 mask i pt none) rfl];exact h4 k'' (by omega)
structure OI (mask:Nat)(o:Array (Option Nat))(hs:List Int):Prop where
 size:o.size=mask+1
 rg:∀ (j i:Nat),o[j]?=some (some i)->i<hs.length/\Way mask (own o) (hs.getD i 0) j
 one:∀ (j j' i:Nat),o[j]?=some (some i)->o[j']?=some (some i)->j=j'
 all:∀ i,i<hs.length->∃ j:Nat,o[j]?=some (some i)
theorem kM {mask:Nat}{o:Array (Option Nat)}(hs:o.size=mask+1){j:Nat}(hj:j<=mask):¬ own o j ↔ o[j]?=some none:=by
 have h:j<o.size:=by omega
 unfold own;rw[ED h];simp only[EK,h,dif_pos];show ¬ (o[j]).isNone=false ↔ some o[j]=some none
 generalize o[j]=v;cases v <;>simp
theorem OI.room {mask:Nat}{o:Array (Option Nat)}{hs:List Int}(O:OI mask o hs)(hl:hs.length<=mask):∃ s,s<=mask/\¬ own o s:=by
 refine Fx λ hn=>?_
 have all:∀ s,s<=mask->∃ i,o[s]?=some (some i):=λ s hs'=>by
  have h1:own o s:=Fx λ q=>hn ⟨s,hs',q⟩
  have h2:s<o.size:=by have:=O.size;omega
  cases h3:o[s]? with
  | none=>simp[h2] at h3
  | some v=>
   cases v with
   | none=>exact absurd h1 ((kM O.size hs').mpr h3)
   | some i=>exact⟨i,rfl⟩
 have mp:∀ s,∃ i,s<=mask->o[s]?=some (some i):=λ s=>by
  by_cases q:s<=mask
  ·obtain⟨i,e⟩:=all s q;exact⟨i,λ _=>e⟩
  ·exact⟨0,λ z=>absurd z q⟩
 let f:=λ s=>HK (mp s)
 have hf:∀ s,s<=mask->o[s]?=some (some (f s)):=λ s=>GZ (mp s)
 have nd:((List.range (mask+1)).map f).Nodup:=by
  refine List.pairwise_map.mpr (List.Pairwise.imp_of_mem ?_ (Do (n:=mask+1)));intro a b ha hb hab e;have ha:=List.mem_range.mp ha;have hb:=List.mem_range.mp hb;have h1:=hf a (by omega);have h2:=hf b (by omega);rw[<- e] at h2;exact hab (O.one _ _ _ h1 h2)
 have:=uf nd (n:=hs.length) λ x hx=>by
  obtain⟨s,hs',rfl⟩:=List.mem_map.mp hx;exact(O.rg s _ (hf s (by have:=List.mem_range.mp hs';omega))).1
 rw[A4,BR] at this;omega
theorem nD {mask:Nat}(h:Int):∀ k,(adN mask k (start mask h)).j<=mask/\(adN mask k (start mask h)).j+(adN mask k (start mask h)).more<=mask:=by
 have rl:∀ i,i<=mask->i+(runEnd mask i-i)<=mask:=λ i hi=>by unfold runEnd;split <;>omega
 intro k
 induction k with
 | zero=>
  have:bits h%(mask+1)<=mask:=by have:=DM (bits h) (show 0<mask+1 by omega);omega
  exact⟨this,rl _ this⟩
 | succ k ih=>
  rw[mT];unfold adv
  split
  ·refine⟨?_,?_⟩
   ·show (adN mask k (start mask h)).j+1<=mask;omega
   ·show (adN mask k (start mask h)).j+1+((adN mask k (start mask h)).more-1)<=mask;omega
  ·exact⟨kY _ _ _,rl _ (kY _ _ _)⟩
theorem OI.step {mask:Nat}(hk:Mk mask){o:Array (Option Nat)}{hs:List Int}(O:OI mask o hs)(hl:hs.length<=mask)(h:Int):∃ j,layClean.free mask o (turns mask) (bits h%(mask+1)) (bits h)=some j/\OI mask (o.setIfInBounds j (some hs.length)) (hs++[h]):=by
 obtain⟨s,h1,h2⟩:=O.room hl;obtain⟨l,h3,h4⟩:=ou hk (i:=bits h%(mask+1)) (fm h) h1;obtain⟨j,e,hj,k,e2,e3⟩:=pL (mask:=mask) (o:=o) (turns mask) (bits h%(mask+1)) (bits h) ⟨l+1,by unfold turns;omega,by rw[h4];exact h2⟩ (by unfold runEnd;split <;>omega);have hjm:j<=mask:=by rw[<- e2];exact(nD h k).1
 have hjs:j<o.size:=by have:=O.size;omega
 have mo:∀ x,own o x->own (o.setIfInBounds j (some hs.length)) x:=λ x hx=>by
  by_cases q:j=x
  ·subst q;exact absurd hx hj
  ·unfold own at hx ⊢
   have:(o.setIfInBounds j (some hs.length)).getD x (some 0)=o.getD x (some 0):=by
    simp only[Array.getD_eq_getD_getElem?];rw[EN q]
   rw[this];exact hx
 have hno:=(kM O.size hjm).mp hj;refine⟨j,e,by rw[Array.size_setIfInBounds];exact O.size,λ j' i hi=>?_,λ a b i ha hb=>?_,λ i hi=>?_⟩
 ·by_cases q:j=j'
  ·subst q
   rw[E4 hjs] at hi;have hi:hs.length=i:=Option.some.inj (Option.some.inj hi);subst hi;refine⟨by simp,?_⟩;rw[A7,BJ (Bh _)];simp only[DW,A1,Bi];exact Way.mono ⟨k,e2,e3⟩ mo
  ·rw[EN q] at hi
   obtain⟨a,b⟩:=O.rg j' i hi;refine⟨by simp;omega,?_⟩;rw[A7,Bx a,<- A7];exact b.mono mo
 ·by_cases qa:j=a <;>by_cases qb:j=b
  ·omega
  ·subst qa
   rw[E4 hjs] at ha;rw[EN qb] at hb;have ha:hs.length=i:=Option.some.inj (Option.some.inj ha);have:=(O.rg b i hb).1;omega
  ·subst qb
   rw[E4 hjs] at hb;rw[EN qa] at ha;have hb:hs.length=i:=Option.some.inj (Option.some.inj hb);have:=(O.rg a i ha).1;omega
  ·rw[EN qa] at ha
   rw[EN qb] at hb;exact O.one a b i ha hb
 ·by_cases q:i=hs.length
  ·subst q;exact⟨j,E4 hjs⟩
  ·obtain⟨j',e'⟩:=O.all i (by simp at hi;omega)
   have:j≠j':=λ z=>by subst z;rw[hno] at e';cases e'
   exact⟨j',by rw[EN this];exact e'⟩
theorem OI.fold {mask:Nat}(hk:Mk mask):∀ (r hs:List Int) (o:Array (Option Nat)),OI mask o hs->hs.length+r.length<=mask+1 ->
  ∃ o',r.foldl (λ (acc:Option (Array (Option Nat)×Nat)) h=>do let (owner,k) <- acc;let j <- layClean.free mask owner (turns mask) (bits h%(mask+1)) (bits h);pure (owner.setIfInBounds j (some k),k+1)) (some (o,hs.length))=some (o',hs.length+r.length)/\OI mask o' (hs++r)
 | [],hs,o,O,_=>⟨o,rfl,by rw[B6];exact O⟩
 | h::r,hs,o,O,hl=>by
  simp only[A8] at hl;obtain⟨j,e,O'⟩:=O.step hk (by omega) h;obtain⟨o',e',O''⟩:=OI.fold hk r (hs++[h]) _ O' (by simp;omega);refine⟨o',?_,by rw[B2] at O'';exact O''⟩;rw[Bn];have:(do let (owner,k) <- some (o,hs.length);let j <- layClean.free mask owner (turns mask) (bits h%(mask+1)) (bits h);pure (owner.setIfInBounds j (some k),k+1):Option (Array (Option Nat)×Nat))=some (o.setIfInBounds j (some hs.length),hs.length+1):=by
   simp[e]
  rw[this];have e1:(hs++[h]).length=hs.length+1:=by simp
  rw[e1] at e';rw[e',A8];congr 2;omega
theorem tz {mask:Nat}(hk:Mk mask)(hs:Array Int)(hl:hs.size<=mask):∃ o,layClean mask hs=some o/\OI mask o hs.toList:=by
 have O0:OI mask (Array.replicate (mask+1) none) []:=⟨by simp,λ j i h=>by simp[GG] at h,λ j j' i h=>by simp[GG] at h,λ i h=>by simp at h⟩;obtain⟨o,e,O⟩:=OI.fold hk hs.toList [] _ O0 (by simp;omega);refine⟨o,?_,by simpa using O⟩;unfold layClean;rw[<- Array.foldl_toList];have:([]:List Int).length=0:=rfl;rw[this] at e;rw[e];rfl
def bJ (mask:Nat)(o:Array (Option Nat)):List (Nat×Nat):=(List.range (mask+1)).filterMap λ j=>(o.getD j none).map (j,·)
theorem cL {mask:Nat}{o:Array (Option Nat)}(hs:o.size=mask+1){j i:Nat}:(j,i)∈bJ mask o ↔ o[j]?=some (some i):=by
 unfold bJ;rw[List.mem_filterMap]
 constructor
 ·rintro ⟨j',hj,e⟩
  have hj:=List.mem_range.mp hj;have h:j'<o.size:=by omega
  simp only[EK,h,dif_pos] at e;cases hv:o[j'] with
  | none=>
   have e:(o[j']).map (λ x=>(j',x))=some (j,i):=e;rw[hv] at e;cases e
  | some v=>
   have e:(o[j']).map (λ x=>(j',x))=some (j,i):=e;rw[hv] at e;simp at e;obtain⟨rfl,rfl⟩:=e;rw[ED h,hv]
 ·intro e
  have h:j<o.size:=by
   rcases CD j o.size with q|q
   ·exact q
   ·simp[EX q] at e
  refine⟨j,List.mem_range.mpr (by omega),?_⟩;rw[ED h] at e;have e:o[j]=some i:=Option.some.inj e;simp only[EK,h,dif_pos];show (o[j]).map (λ x=>(j,x))=some (j,i)
  rw[e];rfl
theorem mU (mask:Nat)(o:Array (Option Nat)):((bJ mask o).map (·.1)).Pairwise (·<·):=by
 unfold bJ;refine List.pairwise_map.mpr (List.Pairwise.filterMap _ (λ a a' h b hb b' hb'=>?_) List.pairwise_lt_range);cases hv:o.getD a none with
 | none=>rw[hv] at hb;simp at hb
 | some v=>
  cases hv':o.getD a' none with
  | none=>rw[hv'] at hb';simp at hb'
  | some v'=>
   rw[hv] at hb;rw[hv'] at hb';simp at hb hb';subst hb;subst hb';exact h
theorem rJ {mask:Nat}{o:Array (Option Nat)}{hs:List Int}(O:OI mask o hs):((bJ mask o).map (·.2)).Perm (List.range hs.length):=by
 have nd:(bJ mask o).Nodup:=by
  have:=mU mask o;have h2:=List.pairwise_map.mp this;exact h2.imp λ {a b} h e=>by subst e;omega
 have nd2:((bJ mask o).map (·.2)).Nodup:=by
  refine List.pairwise_map.mpr (List.Pairwise.imp_of_mem ?_ nd);intro a b ha hb hab e;obtain⟨j,i⟩:=a;obtain⟨j',i'⟩:=b;have e:i=i':=e;subst e;have:=O.one j j' i ((cL O.size).mp ha) ((cL O.size).mp hb);subst this;exact hab rfl
 refine(BW nd2 Do).mpr λ i=>?_
 rw[List.mem_range,Cj]
 constructor
 ·rintro ⟨⟨j,i'⟩,h,rfl⟩
  exact(O.rg j i' ((cL O.size).mp h)).1
 ·intro h
  obtain⟨j,e⟩:=O.all i h;exact⟨(j,i),(cL O.size).mpr e,rfl⟩
theorem gY {α:Type}(es:Array α)(d:α):∀ (l:List Nat),(∀ i∈l,i<es.size)->l.filterMap (es[·]?)=l.map λ i=>es.getD i d
 | [],_=>rfl
 | i::l,h=>by
  have hi:=h i A6;rw[CI,ED hi,A2,gY es d l λ x hx=>h x (A5 _ hx)];simp[EK,hi]
theorem q9 {α:Type}{t:SetTable}{es:Array (Int×α)}{wanted mask':Nat}(hk:Mk mask')(hl:es.size<=mask')(hw:sizeAbove wanted-1=mask'):
  ∃ t' order,t.relaid (es.map (·.1)) wanted=some (t',order)/\(order.filterMap (es[·]?)).toList.Perm es.toList/\TI t' (order.filterMap (es[·]?))/\t'.mask=mask'/\t'.plain=t.plain/\t'.led=t.led:=by
 obtain⟨o,e,O⟩:=tz hk (es.map (·.1)) (by simpa using hl);have hn:(es.map (·.1)).toList.length=es.size:=by simp
 have lp:=rJ O;rw[hn] at lp;have inr:∀ i∈(bJ mask' o).map (·.2),i<es.size:=λ i hi=>List.mem_range.mp (lp.mem_iff.mp hi)
 refine⟨{ mask:=mask',place:=((bJ mask' o).map (·.1)).toArray,dummies:=#[],finger:=t.finger,led:=t.led,moves:=t.movedTo mask',plain:=t.plain },((bJ mask' o).map (·.2)).toArray,?_,?_⟩
 ·unfold relaid laid
  rw[hw,e];rfl
 have ef:((((bJ mask' o).map (·.2)).toArray).filterMap (es[·]?)).toList=((bJ mask' o).map (·.2)).filterMap (es[·]?):=by
  rw[Array.toList_filterMap]
 refine⟨?_,⟨?_,mU mask' o,λ j hj=>?_,rfl,λ q hq=>?_⟩,rfl,rfl,rfl⟩
 ·rw[ef]
  have h1:=lp.filterMap (es[·]?);refine h1.trans ?_
  refine List.Perm.of_eq ?_
  refine CV λ i=>?_
  by_cases z:es.size=0
  ·have:es=#[]:=by simpa using z
   subst this;simp
  ·have d:=es[0]'(by omega)
   rw[gY es d _ λ i hi=>List.mem_range.mp hi];rw[Bv];by_cases hi:i<es.size
   ·rw[B9 hi]
    simp[EK,hi]
   ·rw[BY (by simp;omega),FK,EX (by omega)]
    rfl
 ·have h2:((((bJ mask' o).map (·.2)).toArray).filterMap (es[·]?)).size=(((bJ mask' o).map (·.2)).filterMap (es[·]?)).length:=by rw[<- EF,ef]
  rw[h2];show ((bJ mask' o).map (·.1)).toArray.size=_
  rw[Bd,A4];by_cases z:es.size=0
  ·have:bJ mask' o=[]:=by
    have:=lp.length_eq;rw[z] at this;simpa using this
   rw[this];rfl
  ·have d:=es[0]'(by omega)
   rw[gY es d _ inr];simp
 ·have hj:j∈((bJ mask' o).map (·.1)).toArray.toList:=hj
  obtain⟨i,h⟩:∃ i,(j,i)∈bJ mask' o:=by simpa using hj
  have:=(cL O.size).mp h;have h3:j<o.size:=by
   rcases CD j o.size with q|q
   ·exact q
   ·simp[EX q] at this
  have:=O.size;show j<=mask'
  omega
 ·have d:Int×α:=by
   have:q∈_:=hq;exact q.1
  have hq:q∈((((bJ mask' o).map (·.2)).toArray).filterMap (es[·]?)).toList.zip ((bJ mask' o).map (·.1)):=by simpa using hq
  rw[ef,gY es d _ inr,BI,List.zip_map',Cj] at hq;obtain⟨⟨j,i⟩,hm,rfl⟩:=hq;have hO:=(cL O.size).mp hm;obtain⟨a,w⟩:=O.rg j i hO;have hi:i<es.size:=by simpa using a
  have eh:(es.map (·.1)).toList.getD i 0=(es.getD i d).1:=by
   simp[A7,EK,hi]
  rw[eh] at w;obtain⟨k,ek,wk⟩:=w;refine⟨k,ek,λ k' hk'=>?_⟩;have hx:=wk k' hk';have hb:=(nD (mask:=mask') (es.getD i d).1 k').1;show Occ _ (adN mask' k' (start mask' (es.getD i d).1)).j
  generalize (adN mask' k' (start mask' (es.getD i d).1)).j=x at hx hb;show x∈((bJ mask' o).map (·.1)).toArray.toList
  have q:x<o.size:=by have:=O.size;omega
  cases hv:o[x]? with
  | none=>simp[q] at hv
  | some v=>
   cases v with
   | none=>
    have:=O.size;exact absurd hx ((kM O.size (by omega)).mpr hv)
   | some i'=>
    simp only[Cj];exact⟨(x,i'),(cL O.size).mpr hv,rfl⟩
section
variable {prog:Program}{w:World}{A:Around}{E:Value->Shared->Prop}{s:Shared}
abbrev byT (w:World):Bool:=w.params.followText "set-order"
abbrev tk (prog:Program)(w:World)(ks:List Int):Int:=tupleKeyHash (intKind prog w) ks
abbrev IsK (prog:Program)(w:World)(h:Heap)(ks:List Int)(b:Addr):Prop:=IsTupleKey (intKind prog w) h ks b
def Ent (prog:Program)(w:World)(h:Heap)(e:Int×Value)(ks:List Int):Prop:=∃ b,e=(tk prog w ks,.ref b)/\IsK prog w h ks b
structure SetV (prog:Program)(w:World)(h:Heap)(a:Addr)(es:Array (Int×Value))(ep:Nat)(t:SetTable):Prop where
 obj:h.get? a=some { cls:=.type "set",dict:=none,data:=.set es ep t }
 ti:TI t es
 fit:Fits t.mask es.size
 plain:t.plain=true
 led:t.led=!byT w
 ent:∀ e∈es.toList,∃ ks,Ent prog w h e ks
theorem SetV.fits {h:Heap}{a:Addr}{es:Array (Int×Value)}{ep:Nat}{t:SetTable}(S:SetV prog w h a es ep t):t.fits es.size=true:=by
 have:=S.fit.le;unfold HU HV;rw[S.ti.dum,S.ti.size];simp;omega
theorem mr (n:Nat){v:Value}(h:∃ i t,v=.int i t):ofAClassStatement n v=pure false:=by
 obtain⟨i,t,rfl⟩:=h;cases n <;>rfl
theorem items_int {ks:List Int}:∀ {vs:List Value},ItemsAre (intKind prog w) ks vs->∀ v∈vs,∃ i t,v=.int i t:=λ {vs} h=>by
 induction h with
 | nil=>intro v hv;cases hv
 | @cons k v ks vs h1 _ ih=>
  intro u hu
  rcases List.mem_cons.mp hu with rfl|hu
  ·obtain⟨t,e⟩:=FX h1
   exact⟨_,t,e⟩
  ·exact ih u hu
theorem eK {ks:List Int}{a:Addr}{Q:Bool->Shared->Prop}(hk:IsK prog w s.heap ks a)(h:Q false s):wpAny (model prog w) A (ofAClassStatement 8 (.ref a)) Q E s:=by
 have hT:=hk.typeIs;obtain⟨o,items,n,ho,_,hd,hi⟩:=hk;unfold ofAClassStatement;refine Es (wpAny_typeOf hT ?_);dsimp only;rw[if_pos (by decide)];refine Es (Eu ?_);simp only[By,Be,if_false];refine Es ?_
 unfold seqItems?;refine Es (wpAny_load ho ?_);rw[hd];refine Eu ?_
 dsimp only;refine Es ?_
 rw[<- HC];refine GH _ (λ rest r s'=>r.1=none/\s'=s/\∀ v∈rest,∃ i t,v=Fh i t) _ ?_ ?_ _ _ ⟨rfl,rfl,items_int hi⟩
 ·rintro v rest r s' ⟨hr,rfl,hall⟩
  rw[mr _ (hall v A6)];refine Es (Eu ?_);simp only[Be,if_false];exact Eu ⟨rfl,rfl,λ u hu'=>hall u (A5 _ hu')⟩
 ·rintro ⟨r1,r2⟩ s' ⟨hr,rfl,_⟩
  simp only at hr;subst hr;exact Eu h
theorem sH {ks:List Int}{a:Addr}{Q:Bool->Shared->Prop}(hk:IsK prog w s.heap ks a)(stored:List Value)(hs:∀ v∈stored,∃ b ks',v=.ref b/\IsK prog w s.heap ks' b)(h:Q false s):
  wpAny (model prog w) A (searchCouldBeSeen (.ref a) stored) Q E s:=by
 unfold searchCouldBeSeen;refine Es ?_
 refine GH _ (λ rest r s'=>r.1=none/\s'=s/\∀ v∈rest,∃ b ks',v=EA b/\IsK prog w s.heap ks' b) _ ?_ ?_ _ _ ⟨rfl,rfl,hs⟩
 ·rintro v rest r s' ⟨hr,rfl,hall⟩
  obtain⟨b,ks',rfl,hb⟩:=hall v A6;have fin:(none:Option Bool)=none/\s'=s'/\∀ v∈rest,∃ b ks',v=EA b/\IsK prog w s'.heap ks' b:=⟨rfl,rfl,λ u hu=>hall u (A5 _ hu)⟩;dsimp only
  split
  ·exact Eu fin
  ·refine Es (G0 hk ?_)
   simp only[By,Be,if_false];refine Es (G0 hb ?_);simp only[By,Be,if_false];refine Es (eK hk ?_);simp only[Be,if_false];refine Es (eK hb ?_);simp only[Be,if_false];exact Eu fin
 ·rintro ⟨r1,r2⟩ s' ⟨hr,rfl,_⟩
  simp only at hr;subst hr;exact Eu h
theorem i0 {es:Array (Int×Value)}{h:Int}{v:Value}(hv:v∈((es.filter (·.1 == h)).toList.map (·.2))):∃ e∈es.toList,e.2=v:=by
 obtain⟨e,he,rfl⟩:=List.mem_map.mp hv;have he:e∈es/\e.1=h:=by simpa using he
 exact⟨e,by simpa using he.1,rfl⟩
theorem tV {mask n:Nat}(h:Fits mask n):(mask%2 == 0)=false:=by rcases h with h|h|h <;>rw[h.1] <;>rfl
theorem mJ {P:Nat->Prop}[DecidablePred P]{k0:Nat}:∀ (m k:Nat),k<=k0->k0-k=m->∃ k1,k<=k1/\k1<=k0/\(∀ k',k<=k'->k'<k1->¬ P k')/\(k1=k0\/P k1)
 | 0,k,h1,h2=>⟨k0,h1,Bh _,λ k' a b=>by omega,.inl rfl⟩
 | m+1,k,h1,h2=>by
  by_cases q:P k
  ·exact⟨k,Bh k,h1,λ (k':Nat) (a:k<=k') (b:k'<k)=>absurd a (Nat.not_le.mpr b),.inr q⟩
  ·obtain⟨k1,a,b,c,d⟩:=mJ (P:=P) (k0:=k0) m (k+1) (by omega) (by omega)
   refine⟨k1,by omega,b,λ k' h3 h4=>?_,d⟩;by_cases e:k'=k
   ·subst e;exact q
   ·exact c k' (by omega) h4
section
variable {a:Addr}{es:Array (Int×Value)}{ep:Nat}{t:SetTable}{x:Addr}{ks:List Int}{k0:Nat}{Q:SetFound->Shared->Prop}
theorem jI (S:SetV prog w s.heap a es ep t)(hx:IsK prog w s.heap ks x)(hu:A.units<cLine)
  (hk0:k0<10*turns t.mask) (he0:¬ Occ t (adN t.mask k0 (start t.mask (tk prog w ks))).j) (hoc:∀ k',k'<k0->Occ t (adN t.mask k' (start t.mask (tk prog w ks))).j)
  (q1:(∃ e∈es.toList,Ent prog w s.heap e ks)->Q (.there none) s) (q2:(¬ ∃ e∈es.toList,Ent prog w s.heap e ks)->Q (.free (adN t.mask k0 (start t.mask (tk prog w ks))).j false) s)
  (k fuel:Nat) (stand:Option Probe) (h1:k<=k0) (h4:stand.getD (t.probeStart (tk prog w ks))=adN t.mask k (start t.mask (tk prog w ks)))
  (h5:∀ i,i<es.size->(∃ k',k'<k/\t.place.getD i 0=(adN t.mask k' (start t.mask (tk prog w ks))).j)->∀ e,es[i]?=some e->¬ Ent prog w s.heap e ks)
  (rec:∀ k',k<k'->k'<=k0->(∀ i,i<es.size->(∃ k'',k''<k'/\t.place.getD i 0=(adN t.mask k'' (start t.mask (tk prog w ks))).j)->∀ e,es[i]?=some e->¬ Ent prog w s.heap e ks) ->
   wpAny (model prog w) A (setSearchFrom a (.ref x) (tk prog w ks) true fuel (some (adN t.mask k' (start t.mask (tk prog w ks))))) Q E s):
  wpAny (model prog w) A (setSearchFrom a (.ref x) (tk prog w ks) true (fuel+1) stand) Q E s:=by
 have hsz:=S.ti.size;obtain⟨k1,a1,a2,a3,a4⟩:=mJ (P:=λ k=>∃ i,i<es.size/\t.place.getD i 0=(adN t.mask k (start t.mask (tk prog w ks))).j/\(es.getD i (0,.none)).1=tk prog w ks) (k0-k) k h1 rfl;have pr:∀ F:Nat->Int,(∀ i,i<es.size->F i=(es.getD i (0,.none)).1)->(∀ k',k'<k1-k->∃ i,i<t.place.size/\t.place.getD i 0=(adN t.mask k' (adN t.mask k (start t.mask (tk prog w ks)))).j/\F i≠tk prog w ks):=λ F hF k' hk'=>by
  rw[<- bS];obtain⟨i,hi,e⟩:=yf (hoc (k+k') (by omega));refine⟨i,hi,e,λ z=>a3 (k+k') (by omega) (by omega) ⟨i,by omega,e,?_⟩⟩;rw[<- hF i (by omega)];exact z
 have hd:(adN t.mask k (start t.mask (tk prog w ks))).dummy=none:=by rw[jt];rfl
 have hkk:k+(k1-k)=k1:=by omega
 unfold setSearchFrom;refine Es (E8 S.obj rfl S.fits ?_);dsimp only;rw[show t.gaveWay=false from tV S.fit];simp only[Be,if_false];rw[h4]
 rcases a4 with rfl|⟨i,hi,ei,eh⟩
 ·-- an empty place
  have key:∀ F:Nat->Int,(∀ i,i<es.size->F i=(es.getD i (0,.none)).1)->t.probe F (tk prog w ks) (adN t.mask k (start t.mask (tk prog w ks)))=some (.empty (adN t.mask k1 (start t.mask (tk prog w ks))).j none):=λ F hF=>by
   have:=(iz (h:=tk prog w ks) S.ti.ris S.ti.dum (k1-k) (10*turns t.mask) _ hd (by omega) (pr F hF)).1 (by rw[<- bS,hkk];exact he0);rw[<- bS,hkk] at this;exact this
  rw[key _ λ i hi=>by show (es[i]?.map (·.1)).getD 0=_;simp[EK,hi]];dsimp only;refine Eu (q2 λ⟨e,he,hE⟩=>?_);obtain⟨i,hi,rfl⟩:=BC he;have hi':i<es.size:=by simpa using hi
  have hip:i<t.place.size:=by omega
  obtain⟨b,eb,_⟩:=hE;have wy:=S.ti.way (es.toList[i],t.place.getD i 0) (by
   have:(es.toList.zip t.place.toList)[i]?=some (es.toList[i],t.place.getD i 0):=by
    rw[List.getElem?_zip_eq_some];exact⟨Ba hi,by simp[EK,hip]⟩
   exact BB this)
  obtain⟨k2,e2,o2⟩:=wy;have hh:es.toList[i].1=tk prog w ks:=by rw[eb]
  simp only[hh] at e2 o2;have lt:k2<k1:=by
   rcases Di k2 k1 with z|z|z
   ·exact z
   ·subst z
    exact absurd (show Occ t _ by rw[e2];unfold Occ;simp[EK,hip]) he0
   ·exact absurd (o2 k1 z) he0
  have eg:(es.getD i (0,EG)).1=tk prog w ks:=by
   rw[<- hh];simp[EK,hi']
  by_cases z:k<=k2
  ·exact a3 k2 z lt ⟨i,hi',e2.symm,eg⟩
  ·exact h5 i hi' ⟨k2,by omega,e2.symm⟩ es.toList[i] (by simp[hi']) ⟨b,eb,by assumption⟩
 ·-- an entry of this hash
  have lt:k1<k0:=by
   rcases CD k1 k0 with z|z
   ·exact z
   ·have:k1=k0:=by omega
    subst this;exact absurd (show Occ t _ by rw[<- ei];unfold Occ;simp[EK,show i<t.place.size by omega]) he0
  have key:∀ F:Nat->Int,(∀ i,i<es.size->F i=(es.getD i (0,.none)).1)->t.probe F (tk prog w ks) (adN t.mask k (start t.mask (tk prog w ks)))=some (.candidate (adN t.mask k1 (start t.mask (tk prog w ks))).j i (adN t.mask (k1+1) (start t.mask (tk prog w ks)))):=λ F hF=>by
   have:=(iz (h:=tk prog w ks) S.ti.ris S.ti.dum (k1-k) (10*turns t.mask) _ hd (by omega) (pr F hF)).2 i (by omega) (by rw[<- bS,hkk];exact ei) (by rw[hF i hi];exact eh);rw[<- bS,<- bS,hkk,<- Ef,hkk] at this;exact this
  rw[key _ λ i hi=>by show (es[i]?.map (·.1)).getD 0=_;simp[EK,hi]];dsimp only;have hm:es[i]∈es.toList:=by simp
  obtain⟨ks',b,eb,hb⟩:=S.ent _ hm;have eg:es[i]?=some (es[i].1,es[i].2):=by simp[hi]
  have sl:t.slot (adN t.mask k1 (start t.mask (tk prog w ks))).j=.live i:=by rw[<- ei];exact fV S.ti.ris (by omega)
  have hid:i<es.size:=hi;have tail:wpAny (model prog w) A (do
    let some (_,y):=es[i]? | unsupported "internal:set-entry"
    let equal <- holding [y] (eqBool y (.ref x))
    let (es',_,t') <- setState a
    if true&&equal then return SetFound.there none
    let some same:=t'.sameMemory t.moves t.mask|unsupported "set.changed-during-lookup:is-the-new-block-at-the-old-address"
    let still <- match (if same then t'.slot (adN t.mask k1 (start t.mask (tk prog w ks))).j else .empty) with
     | .live i'=>match es'[i']? with
      | some (_,y')=>do pure (if <- isSame y' y then some i' else none)
      | none=>pure none
     | _=>pure none
    match still with
    | none=>rule "set.search.anew";setSearchFrom a (.ref x) (tk prog w ks) true fuel none
    | some i'=>if equal then return .there (some i') else setSearchFrom a (.ref x) (tk prog w ks) true fuel (some (adN t.mask (k1+1) (start t.mask (tk prog w ks))))) Q E s:=by
   rw[eg];dsimp only;have ey:es[i].2=.ref b:=by rw[eb]
   rw[ey];refine Es (EM (wpAny_eqBool_tuple hu hb hx ?_));refine Es (E8 S.obj rfl S.fits ?_);dsimp only;by_cases hkk':ks'=ks
   ·subst hkk'
    rw[decide_eq_true rfl];simp only[Eg,if_true];exact Eu (q1 ⟨_,hm,b,eb,hb⟩)
   ·rw[decide_eq_false hkk']
    simp only[Bu,Be,if_false];have sm:t.sameMemory t.moves t.mask=some true:=by unfold SetTable.sameMemory;simp
    rw[sm];dsimp only;simp only[if_true];rw[sl];dsimp only;rw[eg];dsimp only;rw[ey];refine Es (wpAny_isSame_ref_self (Es (Eu ?_)));simp only[if_true];refine rec (k1+1) (by omega) (by omega) λ i' hi' ⟨k'',h6,h7⟩ e he hE=>?_
    by_cases z:k''<k
    ·exact h5 i' hi' ⟨k'',z,h7⟩ e he hE
    ·by_cases z2:k''=k1
     ·subst z2
      have:i'=i:=by
       have h8:t.place.getD i' 0=t.place.getD i 0:=by rw[h7,ei]
       have h9:=below_at S.ti.ris (i:=i') (by omega);have h10:=below_at S.ti.ris (i:=i) (by omega);rw[h8,h10] at h9;exact h9.symm
      subst this;rw[eg] at he;have he:es[i']=e:=Option.some.inj he;subst he;obtain⟨b2,e3,hb2⟩:=hE;rw[eb] at e3;have:b=b2:=by injection e3 with _ e4;injection e4
      subst this;exact hkk' (hb.inj hb2)
     ·obtain⟨b2,e3,_⟩:=hE
      refine a3 k'' (by omega) (by omega) ⟨i',hi',h7,?_⟩;have:es[i']=e:=by
       rw[ED hi'] at he;exact Option.some.inj he
      simp only[EK,hi',dif_pos];show (es[i']).1=_
      rw[this,e3]
  by_cases hl:t.led=true
  ·rw[hl]
   simp only[By,Be,if_false];exact tail
  ·rw[Bool.eq_false_iff.mpr hl]
   simp only[BL,if_true];refine Es (sH hx _ (λ v hv=>?_) ?_)
   ·obtain⟨e,he,rfl⟩:=i0 hv
    obtain⟨ks'',b'',e1,e2⟩:=S.ent e he;exact⟨b'',ks'',by rw[e1],e2⟩
   ·simp only[Be,if_false]
    exact tail
theorem xg (S:SetV prog w s.heap a es ep t)(hx:IsK prog w s.heap ks x)(hu:A.units<cLine)
  (hk0:k0<10*turns t.mask) (he0:¬ Occ t (adN t.mask k0 (start t.mask (tk prog w ks))).j) (hoc:∀ k',k'<k0->Occ t (adN t.mask k' (start t.mask (tk prog w ks))).j)
  (q1:(∃ e∈es.toList,Ent prog w s.heap e ks)->Q (.there none) s) (q2:(¬ ∃ e∈es.toList,Ent prog w s.heap e ks)->Q (.free (adN t.mask k0 (start t.mask (tk prog w ks))).j false) s):
  ∀ (m k fuel:Nat) (stand:Option Probe),k<=k0->k0-k<=m->m<fuel->stand.getD (t.probeStart (tk prog w ks))=adN t.mask k (start t.mask (tk prog w ks)) ->
   (∀ i,i<es.size->(∃ k',k'<k/\t.place.getD i 0=(adN t.mask k' (start t.mask (tk prog w ks))).j)->∀ e,es[i]?=some e->¬ Ent prog w s.heap e ks) ->
   wpAny (model prog w) A (setSearchFrom a (.ref x) (tk prog w ks) true fuel stand) Q E s:=by
 intro m
 induction m with
 | zero=>
  intro k fuel stand h1 h2 h3 h4 h5;obtain⟨fuel,rfl⟩:∃ f,fuel=f+1:=⟨fuel-1,by omega⟩;exact jI S hx hu hk0 he0 hoc q1 q2 k fuel stand h1 h4 h5 λ k' a b=>by omega
 | succ m ih=>
  intro k fuel stand h1 h2 h3 h4 h5;obtain⟨fuel,rfl⟩:∃ f,fuel=f+1:=⟨fuel-1,by omega⟩;exact jI S hx hu hk0 he0 hoc q1 q2 k fuel stand h1 h4 h5 λ k' a b h6=>ih k' fuel _ b (by omega) (by omega) rfl h6
theorem qy (S:SetV prog w s.heap a es ep t)(hx:IsK prog w s.heap ks x)(hu:A.units<cLine)
  (q1:(∃ e∈es.toList,Ent prog w s.heap e ks)->Q (.there none) s) (q2:(¬ ∃ e∈es.toList,Ent prog w s.heap e ks)->∀ j,j<=t.mask->¬ Occ t j->Way t.mask (Occ t) (tk prog w ks) j->Q (.free j false) s):
  wpAny (model prog w) A (setSearch a (.ref x) (tk prog w ks) true) Q E s:=by
 have hf:=S.fit.le;have hsz:=S.ti.size;obtain⟨k0,h1,h2,h3⟩:=m7 S.ti.ris S.fit.mk (by omega) (tk prog w ks);have hb:turns t.mask<=142:=by unfold turns;rcases S.fit with h|h|h <;>omega
 exact xg S hx hu h1 h2 h3 q1 (λ n=>q2 n _ (nD _ k0).1 h2 ⟨k0,rfl,h3⟩) k0 0 100000 none (BV _) (by omega) (by omega) rfl λ i hi ⟨k',z,_⟩=>by omega
end
end
section
variable {prog:Program}{w:World}{A:Around}{E:Value->Shared->Prop}{s:Shared}{a:Addr}{es:Array (Int×Value)}{ep:Nat}{t:SetTable}{x:Addr}{ks:List Int}
theorem IsK.keep {h h':Heap}{b:Addr}{o:Obj}(hk:IsK prog w h ks b)(ha:h.get? a=some o)(hc:o.cls=.type "set")(e:∀ c u,c≠a->h.get? c=some u->h'.get? c=some u):IsK prog w h' ks b:=by
 obtain⟨o',items,n,ho',hc',hd',hi⟩:=hk;have hne:b≠a:=by
  rintro rfl
  obtain rfl:o'=o:=Option.some.inj (ho'.symm.trans ha);rw[hc] at hc';exact absurd (G1 hc') (by decide)
 exact⟨o',items,n,e b o' hne ho',hc',hd',hi⟩
theorem l3 (n:Nat){v:Value}(h:∃ i t,v=.int i t):hashByValue n v=pure true:=by
 obtain⟨i,t,rfl⟩:=h;cases n <;>rfl
theorem je {Q:Bool->Shared->Prop}(hk:IsK prog w s.heap ks x)(h:Q true s):wpAny (model prog w) A (hashByValue 8 (.ref x)) Q E s:=by
 have hT:=hk.typeIs;obtain⟨o,items,n,ho,_,hd,hi⟩:=hk;unfold hashByValue;refine Es (GO hT F.slot_tuple_hash.lookup ?_);dsimp only;refine Es ?_
 unfold seqItems?;refine Es (wpAny_load ho ?_);rw[hd];refine Eu ?_
 refine Es ?_
 show wpAny _ _ (forIn items _ _) _ _ s
 rw[<- HC];refine GH _ (λ rest r s'=>r.1=none/\s'=s/\∀ v∈rest,∃ i t,v=Fh i t) _ ?_ ?_ _ _ ⟨rfl,rfl,items_int hi⟩
 ·rintro v rest r s' ⟨hr,rfl,hall⟩
  rw[l3 _ (hall v A6)];refine Es (Eu ?_);simp only[By,Be,if_false];exact Eu ⟨rfl,rfl,λ u hu'=>hall u (A5 _ hu')⟩
 ·rintro ⟨r1,r2⟩ s' ⟨hr,rfl,_⟩
  simp only at hr;subst hr;exact Eu h
theorem stored {h:Heap}(S:SetV prog w h a es ep t)(es':Array (Int×Value))(t':SetTable):(h.update a (FP es' t')).get? a=some { cls:=.type "set",dict:=none,data:=.set es' (ep+1) t' }/\∀ c u,c≠a->h.get? c=some u->(h.update a (FP es' t')).get? c=some u:=by
 refine⟨?_,λ c u hc e=>(Ez _ _ (Ne.symm hc)).trans e⟩;have:=Ft (FP es' t') S.obj (by rw[HD es' t' rfl];rfl);rw[HD es' t' rfl] at this;exact this
theorem SetV.store {h:Heap}(S:SetV prog w h a es ep t){es':Array (Int×Value)}{t':SetTable}(T:TI t' es')(hf:Fits t'.mask es'.size)(hp:t'.plain=true)(hl:t'.led=t.led)
  (he:∀ e∈es'.toList,∃ ks,Ent prog w h e ks):SetV prog w (h.update a (FP es' t')) a es' (ep+1) t':=by
 obtain⟨g1,g2⟩:=stored S es' t';refine⟨g1,T,hf,hp,hl.trans S.led,λ e hm=>?_⟩;obtain⟨ks,b,e1,hb⟩:=he e hm;exact⟨ks,b,e1,hb.keep S.obj rfl g2⟩
theorem bE {Q:Bool->Shared->Prop}(S:SetV prog w s.heap a es ep t)(hx:IsK prog w s.heap ks x)(hu:A.units<cLine)(hn:es.size<64)
  (h1:(∃ e∈es.toList,Ent prog w s.heap e ks)->Q false { s with toks:=s.toks+(ks.length+1) })
  (h2:(¬ ∃ e∈es.toList,Ent prog w s.heap e ks)->∀ h' es' ep' t',SetV prog w h' a es' ep' t'->es'.toList.Perm ((tk prog w ks,.ref x)::es.toList)->(∀ c u,c≠a->s.heap.get? c=some u->h'.get? c=some u)->Q true { s with heap:=h',toks:=s.toks+(ks.length+1) }):
  wpAny (model prog w) A (setAdd a (.ref x)) Q E s:=by
 unfold setAdd;refine EM (Es (wpAny_pyHash_tuple (knd:=intKind prog w) hu hx ?_));unfold setAddHashed;refine EM ?_
 unfold setAddHashedIn;refine Es (E8 (s:={ s with toks:=s.toks+(ks.length+1) }) S.obj rfl S.fits ?_);dsimp only;have nb:byScan (.ref x) es=false:=by simp[byScan,Value.scannable]
 rw[nb];simp only[Be,if_false];refine Es (qy (s:={ s with toks:=s.toks+(ks.length+1) }) S hx hu (λ q=>?_) λ q j hj ho hw=>?_)
 ·dsimp only
  exact Eu (h1 q)
 ·dsimp only
  refine Es (E8 (s:={ s with toks:=s.toks+(ks.length+1) }) S.obj rfl S.fits ?_);obtain⟨e1,T,e2,e3,e4,e5,e6⟩:=S.ti.put (x:=EA x) hj ho hw;dsimp only;have hp:(t.put j).1.plain=true:=e3.trans S.plain;rw[show (t.put j).1.plain=true from hp];simp only[if_true];refine Es (je (s:={ s with toks:=s.toks+(ks.length+1) }) hx ?_);simp only[if_true];rw[show (t.put j).2=below t.place j from e1];have sz:(insertAt es (below t.place j) (tk prog w ks,EA x)).size=es.size+1:=ib _ _ _;have pm:(insertAt es (below t.place j) (tk prog w ks,EA x)).toList.Perm ((tk prog w ks,.ref x)::es.toList):=by
   rw[bY];refine List.perm_middle.trans ?_
   rw[Ce]
  have ent:∀ e∈(insertAt es (below t.place j) (tk prog w ks,EA x)).toList,∃ ks,Ent prog w s.heap e ks:=λ e he=>by
   rcases List.mem_cons.mp (pm.mem_iff.mp he) with rfl|he
   ·exact⟨ks,x,rfl,hx⟩
   ·exact S.ent e he
  have ok:∀ n,n<=100->n<=sizeLine:=λ n hn=>by rw[EU];omega
  refine Es (wpAny_storeSet_of (s:={ s with toks:=s.toks+(ks.length+1) }) S.obj rfl ?_ (ok _ (by rw[sz];omega)));obtain⟨g1,g2⟩:=stored S (insertAt es (below t.place j) (tk prog w ks,EA x)) (t.put j).1;have fill:(t.put j).1.fill=es.size+1:=by
   unfold HV;rw[T.dum,T.size,sz];rfl
  have full:(t.put j).1.tooFull=decide ((es.size+1)*5 ≥ t.mask*3):=by
   unfold SetTable.tooFull;rw[fill,e2]
  rw[full];by_cases q2:(es.size+1)*5 ≥ t.mask*3
  ·rw[decide_eq_true q2]
   simp only[BL,Eg,if_true];obtain⟨mask',hm,hmk,hw',hfit⟩:∃ mask',es.size+1<=mask'/\Mk mask'/\sizeAbove (grown (es.size+1))-1=mask'/\Fits mask' (es.size+1):=by
    rcases S.fit with ⟨f1,f2⟩|⟨f1,f2⟩|⟨f1,f2⟩
    ·have:es.size=4:=by rw[f1] at q2;omega
     rw[this];exact⟨31,by decide,.inr (.inl rfl),by decide,.inr (.inl ⟨rfl,by decide⟩)⟩
    ·have:es.size=18:=by rw[f1] at q2;omega
     rw[this];exact⟨127,by decide,.inr (.inr rfl),by decide,.inr (.inr ⟨rfl,by decide⟩)⟩
    ·rw[f1] at q2;omega
   obtain⟨t',order,r1,r2,r3,r4,r5,r6⟩:=q9 (t:=(t.put j).1) (es:=insertAt es (below t.place j) (tk prog w ks,EA x)) (wanted:=grown (es.size+1)) hmk (by rw[sz];exact hm) hw';have fits1:(t.put j).1.fits (insertAt es (below t.place j) (tk prog w ks,EA x)).size=true:=by
    have:=S.fit.le;unfold HU;rw[fill,T.size,e2,sz];simp;omega
   refine Es ?_
   unfold setRelay;refine Es (E8 g1 rfl fits1 ?_);dsimp only;have big:¬ sizeAbove (grown (es.size+1)) > sizeLine:=by
    have:sizeAbove (grown (es.size+1))<=128:=by have:=hmk;unfold Mk at this;omega
    have:=ok 100 (by omega);rw[EU] at this ⊢;omega
   rw[if_neg big,r1];have sz2:(order.filterMap ((insertAt es (below t.place j) (tk prog w ks,EA x))[·]?)).size=es.size+1:=by rw[<- EF,r2.length_eq,EF,sz]
   refine Es ?_
   show wpAny _ _ (if ((order.filterMap ((insertAt es (below t.place j) (tk prog w ks,EA x))[·]?)).size != (insertAt es (below t.place j) (tk prog w ks,EA x)).size)=true then _ else _) _ _ _
   rw[sz2,sz];simp only[bne_self_eq_false,Be,if_false];refine Eu ?_
   dsimp only;have S1:SetV prog w (s.heap.update a (FP (insertAt es (below t.place j) (tk prog w ks,EA x)) (t.put j).1)) a (insertAt es (below t.place j) (tk prog w ks,EA x)) (ep+1) (t.put j).1\/True:=.inr trivial;refine wpAny_storeSet_of (s:={ s with heap:=_,toks:=_ }) g1 rfl ?_ (ok _ (by rw[sz2];omega))
   have g3:=Ft (FP (order.filterMap ((insertAt es (below t.place j) (tk prog w ks,EA x))[·]?)) t') g1 (by rw[HD _ _ rfl];rfl);rw[HD _ _ rfl] at g3;have g4:∀ c u,c≠a->s.heap.get? c=some u->((s.heap.update a (FP (insertAt es (below t.place j) (tk prog w ks,EA x)) (t.put j).1)).update a (FP (order.filterMap ((insertAt es (below t.place j) (tk prog w ks,EA x))[·]?)) t')).get? c=some u:=λ c u hc e=>(Ez _ _ (Ne.symm hc)).trans (g2 c u hc e)
   refine Eu (h2 q _ _ _ _ ⟨g3,r3,by rw[r4,sz2];exact hfit,r5.trans hp,r6.trans (e4.trans S.led),λ e hm=>?_⟩ (r2.trans pm) g4);obtain⟨ks',b,e1,hb⟩:=ent e (r2.mem_iff.mp hm);exact⟨ks',b,e1,hb.keep S.obj rfl g4⟩
  ·rw[decide_eq_false q2]
   simp only[BL,Bu,Be,if_false];refine Eu (h2 q _ _ _ _ (S.store T ?_ hp e4 ent) pm g2);rw[e2,sz]
   rcases S.fit with ⟨f1,f2⟩|⟨f1,f2⟩|⟨f1,f2⟩
   ·rw[f1] at q2;exact .inl ⟨f1,by omega⟩
   ·rw[f1] at q2;exact .inr (.inl ⟨f1,by omega⟩)
   ·rw[f1] at q2;exact .inr (.inr ⟨f1,by omega⟩)
end
open PySem PySem.SetTable PyProof.Rows
def eE (val:Nat->List Int):Nat->List (List Int)
 | 0=>[]
 | i+1=>if (eE val i).any (· == val i) then eE val i else eE val i++[val i]
section
variable {prog:Program}{w:World}{B:List Int->Value->Prop}
def Has (prog:Program)(w:World)(B:List Int->Value->Prop)(h:Heap)(es:Array (Int×Value))(l:List (List Int)):Prop:=∃ p:List (Int×Value),es.toList.Perm p/\p.length=l.length/\∀ i (h1:i<p.length) (h2:i<l.length),Ent prog w h p[i] l[i]/\B l[i] p[i].2
theorem Ent.keep {h h':Heap}{a:Addr}{o:Obj}{e:Int×Value}{ks:List Int}(q:Ent prog w h e ks)(ha:h.get? a=some o)(hc:o.cls=.type "set")(k:∀ c u,c≠a->h.get? c=some u->h'.get? c=some u):Ent prog w h' e ks:=
 let ⟨b,e1,hb⟩:=q
 ⟨b,e1,hb.keep ha hc k⟩
theorem Has.mem {h:Heap}{es:Array (Int×Value)}{l:List (List Int)}(H:Has prog w B h es l){ks:List Int}:(∃ e∈es.toList,Ent prog w h e ks) ↔ ks∈l:=by
 obtain⟨p,p1,p2,p3⟩:=H
 constructor
 ·rintro ⟨e,he,b,rfl,hb⟩
  obtain⟨i,hi,ei⟩:=BC (p1.mem_iff.mp he);obtain⟨⟨b',e',hb'⟩,_⟩:=p3 i hi (by omega);rw[ei] at e';have:b=b':=by injection e' with _ e4;injection e4
  subst this;have:=hb.inj hb';subst this;exact BO _
 ·intro hk
  obtain⟨i,hi,rfl⟩:=BC hk;exact⟨p[i],p1.mem_iff.mpr (BO _),(p3 i (by omega) hi).1⟩
theorem Has.keep {h h':Heap}{a:Addr}{o:Obj}{es:Array (Int×Value)}{l:List (List Int)}(H:Has prog w B h es l)(ha:h.get? a=some o)(hc:o.cls=.type "set")(k:∀ c u,c≠a->h.get? c=some u->h'.get? c=some u):Has prog w B h' es l:=
 let ⟨p,p1,p2,p3⟩:=H
 ⟨p,p1,p2,λ i h1 h2=>⟨(p3 i h1 h2).1.keep ha hc k,(p3 i h1 h2).2⟩⟩
theorem Has.more {h:Heap}{es es':Array (Int×Value)}{l:List (List Int)}(H:Has prog w B h es l){ks:List Int}{x:Addr}(hx:IsK prog w h ks x)(hB:B ks (.ref x))(pm:es'.toList.Perm ((tk prog w ks,.ref x)::es.toList)):Has prog w B h es' (l++[ks]):=by
 obtain⟨p,p1,p2,p3⟩:=H;refine⟨p++[(tk prog w ks,.ref x)],pm.trans ((List.Perm.cons _ p1).trans (List.perm_append_singleton _ _).symm),by simp[p2],λ i h1 h2=>?_⟩;by_cases z:i<p.length
 ·rw[Dl z,Dl (by omega)]
  exact p3 i z (by omega)
 ·have:i=p.length:=by simp at h1;omega
  subst this;rw[Dk (Bh _),Dk (by omega)];simp only[p2,DW,List.getElem_cons_zero];exact⟨⟨x,rfl,hx⟩,hB⟩
theorem IsK.keepN {h h':Heap}{I b:Addr}{o:Obj}{ks:List Int}(hk:IsK prog w h ks b)(hI:h.get? I=some o)(hc:o.cls≠.type "tuple")(e:∀ c u,c≠I->h.get? c=some u->h'.get? c=some u):IsK prog w h' ks b:=by
 obtain⟨o',items,n,ho',hc',hd',hi⟩:=hk;have hne:b≠I:=by
  rintro rfl
  obtain rfl:o'=o:=Option.some.inj (ho'.symm.trans hI);exact hc hc'
 exact⟨o',items,n,e b o' hne ho',hc',hd',hi⟩
theorem SetV.keepN {h h':Heap}{I S:Addr}{o:Obj}{es:Array (Int×Value)}{ep:Nat}{t:SetTable}(V:SetV prog w h S es ep t)(hI:h.get? I=some o)(hc:o.cls≠.type "tuple")(hS:S≠I)(e:∀ c u,c≠I->h.get? c=some u->h'.get? c=some u):SetV prog w h' S es ep t:=
 ⟨e S _ hS V.obj,V.ti,V.fit,V.plain,V.led,λ x hx=>let ⟨ks,b,e1,hb⟩:=V.ent x hx;⟨ks,b,e1,IsK.keepN hb hI hc e⟩⟩
theorem Has.keepN {h h':Heap}{I:Addr}{o:Obj}{es:Array (Int×Value)}{l:List (List Int)}(H:Has prog w B h es l)(hI:h.get? I=some o)(hc:o.cls≠.type "tuple")(e:∀ c u,c≠I->h.get? c=some u->h'.get? c=some u):Has prog w B h' es l:=
 let ⟨p,p1,p2,p3⟩:=H
 ⟨p,p1,p2,λ i h1 h2=>let ⟨⟨b,e1,hb⟩,hB⟩:=p3 i h1 h2;⟨⟨b,e1,IsK.keepN hb hI hc e⟩,hB⟩⟩
theorem SetV.size {h:Heap}{S:Addr}{es:Array (Int×Value)}{ep:Nat}{t:SetTable}{l:List (List Int)}(V:SetV prog w h S es ep t)(H:Has prog w B h es l):es.size=l.length:=by
 obtain⟨p,p1,p2,_⟩:=H;rw[<- p2,<- p1.length_eq,EF]
theorem o6 (val:Nat->List Int):∀ i,(eE val i).length<=i
 | 0=>Bh _
 | i+1=>by
  have:=o6 val i;unfold eE
  split
  ·omega
  ·simp;omega
variable {A:Around}{R:Result->Shared->Prop}
theorem uJ (hh:A.handled=none)(hu:A.units+8<cLine){I l S:Addr}(hlI:l≠I)(hSI:S≠I)(hSl:S≠l){items:Array Value}{val:Nat->List Int}(hz:items.size<64):
  ∀ (k i:Nat) (s:Shared),items.size-i=k->i<=items.size->s.heap.IsListIter I l i->s.heap.IsList l items->(∃ es ep t,SetV prog w s.heap S es ep t/\Has prog w B s.heap es (eE val i)) ->
   (∀ j,j<items.size->∃ b,items[j]?=some (.ref b)/\IsK prog w s.heap (val j) b/\B (val j) (.ref b)) ->
   (∀ h' tk,(∀ b o,b≠S->b≠I->s.heap.get? b=some o->h'.get? b=some o)->(∃ es ep t,SetV prog w h' S es ep t/\Has prog w B h' es (eE val items.size))->R (.ok (.ret .none)) { s with heap:=h',toks:=tk }) ->
   codeAny (model prog w) A (.builtin "set.update.loop" ⟨[.ref S,.ref I],[]⟩) R s:=by
 intro k
 induction k with
 | zero=>
  intro i s hk hi hit hl hS hv hR;have hin:i=items.size:=by omega
  subst hin;refine Fb GI (by
   rw[E2 FE _];show wpAny _ A.in1 (pyNext (.ref I) >>= _) _ _ s
   refine Es (F3 (by simpa using hh) hit hl (by simp) λ h' he=>?_);obtain⟨es,ep,t,V,H⟩:=hS;obtain⟨oI,hoI,hcI,_⟩:=hit;have hc:oI.cls≠.type "tuple":=by rw[hcI];intro z;exact absurd (G1 z) (by decide)
   exact Eu (hR h' s.toks (λ b o _ hb e=>he b o hb e) ⟨es,ep,t,V.keepN hoI hc hSI he,H.keepN hoI hc he⟩))
 | succ k ih=>
  intro i s hk hi hit hl hS hv hR;have hlt:i<items.size:=by omega
  obtain⟨b,eb,hb,hB⟩:=hv i hlt;refine Fb GI (by
   rw[E2 FE _];show wpAny _ A.in1 (pyNext (.ref I) >>= _) _ _ s
   refine Es (F0 hit hl (x:=.ref b) eb λ h' hit' hs'=>?_);obtain⟨es,ep,t,V,H⟩:=hS;obtain⟨oI,hoI,hcI,_⟩:=hit;have hc:oI.cls≠.type "tuple":=by rw[hcI];intro z;exact absurd (G1 z) (by decide)
   have V':=V.keepN hoI hc hSI hs'.extBut;have H':=H.keepN hoI hc hs'.extBut;have hb':=IsK.keepN hb hoI hc hs'.extBut;have hl':=hl.extBut hs'.extBut hlI;have hsz:=V.size H;have hml:=o6 val i;show wpAny _ A.in1 (holding [EA b] (setAdd S (.ref b)) >>= _) _ _ { s with heap:=h' }
   refine Es (EM (bE (s:={ s with heap:=h' }) V' hb' (by show A.units+1<cLine;omega) (by omega) (λ q=>?_) λ q h2 es' ep' t' V2 pm k2=>?_))
   ·have hm:=H'.mem.mp q
    refine Eu ⟨Fi FE _,ih (i+1) _ (by omega) hlt hit' hl' ⟨es,ep,t,V',?_⟩ (λ j hj=>?_) λ h3 tk k3 hS3=>?_⟩
    ·unfold eE
     rw[if_pos (by simpa using hm)];exact H'
    ·obtain⟨b2,e2,hb2,hB2⟩:=hv j hj
     exact⟨b2,e2,IsK.keepN hb2 hoI hc hs'.extBut,hB2⟩
    ·exact hR h3 tk (λ c o h4 h5 e=>k3 c o h4 h5 (hs'.extBut c o h5 e)) hS3
   ·have hm:¬ val i∈eE val i:=λ z=>q (H'.mem.mpr z)
    have hSc:({ cls:=.type "set",dict:=none,data:=.set es ep t }:Obj).cls=.type "set":=rfl;refine Eu ⟨Fi FE _,ih (i+1) _ (by omega) hlt ?_ ?_ ⟨es',ep',t',V2,?_⟩ (λ j hj=>?_) λ h3 tk k3 hS3=>?_⟩
    ·exact hit'.at λ o e=>k2 I o (Ne.symm hSI) e
    ·exact hl'.at λ o e=>k2 l o (Ne.symm hSl) e
    ·unfold eE
     rw[if_neg (by simpa using hm)];exact Has.keep (H'.more hb' hB pm) V'.obj hSc k2
    ·obtain⟨b2,e2,hb2,hB2⟩:=hv j hj
     exact⟨b2,e2,(IsK.keepN hb2 hoI hc hs'.extBut).keep V'.obj hSc k2,hB2⟩
    ·exact hR h3 tk (λ c o h4 h5 e=>k3 c o h4 h5 (k2 c o h4 (hs'.extBut c o h5 e))) hS3)
end
section
variable {prog:Program}{w:World}{A:Around}{E:Value->Shared->Prop}{s:Shared}{B:List Int->Value->Prop}
abbrev iX (w:World):Obj:={ cls:=.type "set",dict:=none,data:=.set #[] 0 (.fresh 0 0 (!byT w)) }
theorem vU (a:Value){Q₁:Value->Shared->Prop}(h:Q₁ (.ref s.heap.objs.size) { s with heap:=s.heap.push (iX w) }):
  codeAny (model prog w) A (.call (.builtin "set.__new__") ⟨[.type "set",a],[]⟩) (wants Q₁ E) s:=by
 refine codeAny_of_tree (show wpAny _ A.in1 (do checkBuiltinCall "set.__new__" ⟨[.type "set",a],[]⟩;again (.builtin "set.__new__" ⟨[.type "set",a],[]⟩)) _ _ s from ?_);refine Es (HH (PySem.F.newCall_set_1 a) (Eu ⟨Fi F.plain_set_new _,Fb F.entry_set_new (by
  rw[E2 F.plain_set_new _];unfold Builtin.«set.__new__» HW;have hsub:=sub_set_self;obtain⟨hp,g,d,tk,os⟩:=s;dsimp only;wp_walk;refine FQ (Eu ?_);dsimp only;simp only[newObj];refine Es (wpAny_alloc (Eu (Eu h))))⟩))
theorem uH {h:Heap}{a:Addr}(e:h.get? a=some (iX w)):SetV prog w h a #[] 0 (.fresh 0 0 (!byT w)):=⟨e,TI.fresh _ _ _,.inl ⟨rfl,by decide⟩,rfl,rfl,λ e he=>by cases he⟩
theorem u0 {h:Heap}:Has prog w B h #[] []:=⟨[],.refl _,rfl,λ i h1=>by simp at h1⟩
set_option maxHeartbeats 3200000 in
theorem rA {l:Addr}{items:Array Value}{val:Nat->List Int}{Q:Value->Shared->Prop}(hh:A.handled=none)(hu:A.units+64<cLine)(hl:s.heap.IsList l items)(hz:items.size<64)
  (hv:∀ j,j<items.size->∃ b,items[j]?=some (.ref b)/\IsK prog w s.heap (val j) b/\B (val j) (.ref b))
  (h:∀ (h':Heap) (tk:Nat),(∃ es ep t,SetV prog w h' s.heap.objs.size es ep t/\Has prog w B h' es (eE val items.size))->(∀ b o,s.heap.get? b=some o->h'.get? b=some o)->Q (.ref s.heap.objs.size) { s with heap:=h',toks:=tk }):
  wpAny (model prog w) A (call (.type "set") [.ref l]) Q E s:=by
 obtain⟨c,tl,hmro⟩:=F.called_set.mro;have ⟨hmade,hsub,h1,h2,hct⟩:_/\_/\_/\_/\_:=⟨F.called_set.made,F.called_set.sub,F.called_set.notType,F.called_set.canCreate,PySem.F.typeCall_set_1 (.ref l)⟩;refine G6 (codeAny_of_tree (show wpAny _ _ (callAny (.type "set") _) _ _ _ from Eu ⟨Code.quiet_builtin _ (by decide +kernel),Fb F.entry_type_call ?_⟩));rw[Around.under_plain (weight_type_call_type "set" [.ref l] []) rfl]
 repeat (any_goals (first|assumption|wp_step))
 refine FJ (vU (.ref l) (E:=E) (Q₁:=λ obj s₁=>obj=.ref s.heap.objs.size/\s₁={ s with heap:=s.heap.push (iX w) }) ⟨rfl,rfl⟩) λ r s₁ hr=>?_
 match r,hr with
 | .error e,hr=>exact hr
 | .ok (.ret obj),hr=>
  obtain⟨rfl,rfl⟩:=hr;have hS:(s.heap.push (iX w)).get? s.heap.objs.size=some (iX w):=Ey _ rfl;have hT:Shared.TypeIs { s with heap:=s.heap.push (iX w) } (.ref s.heap.objs.size) "set":=⟨_,hS,rfl⟩;have ⟨hli,hbi⟩:_/\_:=⟨F.called_set.init.lookup,F.called_set.init.bind (.ref s.heap.objs.size)⟩
  repeat (any_goals (first|assumption|wp_step))
  refine FJ (codeAny_call_builtin (R:=wants (λ r s₂=>r=.none/\∃ h' tk,s₂={ s with heap:=h',toks:=tk }/\(∃ es ep t,SetV prog w h' s.heap.objs.size es ep t/\Has prog w B h' es (eE val items.size)) /\
   (∀ b o,s.heap.get? b=some o->h'.get? b=some o)) E) F.called_set.init.plain F.entry_set_init (check_set_init_1 hT ?_)) λ r₂ s₂ hr₂=>?_
  ·obtain⟨ol,hol,hcl,nl,hdl⟩:=hl
   obtain⟨ocls,odict,odata,oslots⟩:=ol;simp only at hcl hdl;subst hcl;subst hdl;have hol':(s.heap.push (iX w)).get? l=some { cls:=.type "list",dict:=odict,data:=.seq items nl,slots:=oslots }:=Et _ hol;have ⟨hsls,hslf,hne⟩:_/\_/\(FW "list" == FW "dict")=false:=⟨PySem.F.sub_list_set,PySem.F.sub_list_frozenset,by decide⟩;have hl1:(s.heap.push (iX w)).IsList l items:=⟨_,hol',rfl,nl,rfl⟩;unfold Builtin.«set.__init__» noKeywords HQ;generalize hPI:pyIter=PI
   wp_walk
   subst hPI;have hlS:l<s.heap.objs.size:=Ew hol;refine FY hl1 (Es (wpAny_runValue ?_));have zs:(s.heap.push (iX w)).objs.size=s.heap.objs.size+1:=Fy ..;have up:∀ b o,s.heap.get? b=some o->((s.heap.push (iX w)).push { cls:=.type "list_iterator",data:=.fields #[.ref l,.int 0 0] }).get? b=some o:=λ b o e=>Et _ (Et _ e)
   refine uJ (B:=B) (I:=(s.heap.push (iX w)).objs.size) (l:=l) (val:=val) (by simp[hh]) (by show A.units+1+1+8<cLine;omega) (by rw[zs];exact Bl (BX hlS)) (by rw[zs];exact Bl (BF _)) (CS hlS) hz (items.size-0) 0 _ (by omega) (BV _)
    ⟨_,Ey _ rfl,rfl,rfl⟩ (hl1.push _) ⟨#[],0,_,uH (Et _ hS),u0⟩ (λ j hj=>?_) λ h' tk k' hS'=>?_
   ·obtain⟨b,e1,⟨o,its,n,ho,r⟩,hB⟩:=hv j hj
    exact⟨b,e1,⟨o,its,n,up b o ho,r⟩,hB⟩
   ·show wpAny _ _ _ _ _ _
    refine Eu ?_
    show wpAny _ _ (ret EG) _ _ _
    refine Eu ⟨rfl,h',tk,rfl,hS',λ b o e=>k' b o ?_ ?_ (up b o e)⟩
    ·exact Bl (Ew e)
    ·rw[zs];exact Bl (BX (Ew e))
  ·match r₂,hr₂ with
   | .error e,hr₂=>exact hr₂
   | .ok (.ret r),hr₂=>
    obtain⟨rfl,h',tk,rfl,hS',hk'⟩:=hr₂
    repeat (any_goals (first|assumption|wp_step))
    exact h _ _ hS' hk'
   | .ok .next,hr₂=>exact hr₂.elim
   | .ok .brk,hr₂=>exact hr₂.elim
   | .ok .cont,hr₂=>exact hr₂.elim
 | .ok .next,hr=>exact hr.elim
 | .ok .brk,hr=>exact hr.elim
 | .ok .cont,hr=>exact hr.elim
end
open PySem PySem.SetTable PyProof.Rows PySem.W
theorem sx:entryFor table "set.__iter__"=some Builtin.«frozenset.__iter__»:=entryFor_alias (id':="frozenset.__iter__") (by kernel_rfl) rfl (by decide +kernel) (by kernel_rfl)
theorem lJ:Slot "set_iterator" "__iter__" "set_iterator.__iter__":=
 .of (owner:="set_iterator") (n:="__iter__") (by rw[typeLookup_type,G3];kernel_rfl) (by decide +kernel) (by decide +kernel) (by decide +kernel) (by first|exact .inl (by decide +kernel)|exact .inr (by decide +kernel)) (by rw[G4];kernel_rfl)
theorem slot_sin:Slot "set_iterator" "__next__" "set_iterator.__next__":=
 .of (owner:="set_iterator") (n:="__next__") (by rw[typeLookup_type,G3];kernel_rfl) (by decide +kernel) (by decide +kernel) (by decide +kernel) (by first|exact .inl (by decide +kernel)|exact .inr (by decide +kernel)) (by rw[G4];kernel_rfl)
theorem jN:entryFor table "set_iterator.__next__"=some Builtin.«set_iterator.__next__»:=entryFor_of_tree (by kernel_rfl)
theorem sf:entryFor table "set_iterator.__iter__"=some Builtin.«dict_keyiterator.__iter__»:=entryFor_alias (id':="dict_keyiterator.__iter__") (by kernel_rfl) rfl (by decide +kernel) (by kernel_rfl)
theorem sX (a:Value):argsOk "set_iterator.__iter__" ⟨[a],[]⟩:=by unfold argsOk;kernel_rfl
theorem lN (a:Value):argsOk "set_iterator.__next__" ⟨[a],[]⟩:=by unfold argsOk;kernel_rfl
theorem oH {α:Type}(next:Nat->Nat):∀ (fuel k:Nat) (left:List α) (out:Array α),fuel=left.length->(HE next fuel k left out).toList.Perm (out.toList++left)
 | 0,k,left,out,h=>by
  have:left=[]:=by simpa using h.symm
  subst this;unfold HE;simp
 | fuel+1,k,left,out,h=>by
  have hl:next k%left.length<left.length:=DM _ (by omega)
  unfold HE;rw[Ba hl];refine(oH next fuel (k+1) (left.eraseIdx (next k%left.length)) (out.push left[next k%left.length]) (by rw[List.length_eraseIdx_of_lt hl];omega)).trans ?_
  rw[Array.toList_push,B2];refine List.Perm.append_left _ ?_
  generalize next k%left.length=i at hl
  rw[List.eraseIdx_eq_take_drop_succ];refine(List.perm_middle (l₁:=left.take i) (a:=left[i]) (l₂:=left.drop (i+1))).symm.trans ?_
  rw[<- BM hl,Ce]
theorem rM {α:Type}(next:Nat->Nat)(xs:Array α):(pickOrder next xs).toList.Perm xs.toList:=by
 have:=oH next xs.size 0 xs.toList #[] (by simp)
 simpa[pickOrder] using this
section
variable {prog:Program}{w:World}{A:Around}{E:Value->Shared->Prop}{s:Shared}{a:Addr}{es:Array (Int×Value)}{ep:Nat}{t:SetTable}
def cQ (w:World)(a:Addr)(es:Array (Int×Value))(ep:Nat):Array Value:=if byT w then (pickOrder (w.params.setOrder a ep) es).map (·.2) else es.map (·.2)
theorem ord_perm:(cQ w a es ep).toList.Perm (es.toList.map (·.2)):=by
 unfold cQ
 split
 ·rw[HL];exact(rM _ es).map _
 ·rw[HL]
theorem cH:(cQ w a es ep).size=es.size:=by
 have:=(ord_perm (w:=w) (a:=a) (es:=es) (ep:=ep)).length_eq;simpa using this
abbrev rS (es:Array (Int×Value))(ep:Nat)(t:SetTable):Obj:={ cls:=.type "set",dict:=none,data:=.set es ep t }
abbrev itO (slot i n ep:Nat)(a:Addr):Obj:={ cls:=.type "set_iterator",dict:=none,data:=.fields #[.int slot 0,.int i 0,.ref a,.int n 0,.int ep 0],slots:=#[] }
structure Gone (w:World)(es:Array (Int×Value))(t:SetTable):Prop where
 size:t.place.size=es.size
 ris:Ris t.place
 fits:t.fits es.size=true
 plain:t.plain=true
 led:t.led=!byT w
theorem SetV.gone {h:Heap}(V:SetV prog w h a es ep t):Gone w es t:=⟨V.ti.size,V.ti.ris,V.fits,V.plain,V.led⟩
def StS (w:World)(I a:Addr)(es:Array (Int×Value))(ep:Nat)(t:SetTable)(i:Nat)(h:Heap):Prop:=∃ slot,h.get? I=some (itO slot i es.size ep a)/\h.get? a=some (rS es ep t)/\(byT w=false->below t.place slot=i)
theorem o3 {i slot:Nat}(G:Gone w es t)(ha:s.heap.get? a=some (rS es ep t))(hs:byT w=false->below t.place slot=i)
  {Q:Option (Value×Nat)->Shared->Prop} (h1:∀ v,(cQ w a es ep)[i]?=some v->∀ slot',(byT w=false->below t.place slot'=i+1)->Q (some (v,slot')) s) (h2:(cQ w a es ep)[i]?=none->Q none s):
  wpAny (model prog w) A (setNext a slot i ep) Q E s:=by
 unfold setNext;refine Es (E8 ha rfl G.fits ?_);dsimp only;refine Es ?_
 unfold setsByText;refine Es (FQ (Eu ?_));show wpAny _ _ (if byT w=true then _ else _) _ _ _
 by_cases hb:byT w=true
 ·rw[if_pos hb]
  simp only[bne_self_eq_false,Be,if_false];refine Es ?_
  unfold setWalk;refine Es (E8 ha rfl G.fits ?_);dsimp only;refine Es ?_
  unfold setsByText;refine Es (FQ (Eu ?_));show wpAny _ _ (if byT w=true then _ else _) _ _ _
  rw[if_pos hb];refine Es (FQ (Eu ?_));refine Eu ?_
  have eo:cQ w a es ep=(pickOrder (w.params.setOrder a ep) es).map (·.2):=by unfold cQ;rw[if_pos hb]
  show Q (((pickOrder (w.params.setOrder a ep) es)[i]?).map λ e=>(e.2,slot)) s
  cases hv:(pickOrder (w.params.setOrder a ep) es)[i]? with
  | none=>exact h2 (by rw[eo,FV,hv];rfl)
  | some e=>exact h1 e.2 (by rw[eo,FV,hv];rfl) slot λ z=>by rw[hb] at z;cases z
 ·have hb':byT w=false:=Bool.eq_false_iff.mpr hb
  rw[if_neg hb];have eo:cQ w a es ep=es.map (·.2):=by unfold cQ;rw[if_neg hb]
  have dr:∀ b:Bool,(b=(!t.plain&&decide (es.size > 1)))->b=false:=λ b e=>by rw[e,G.plain];rfl
  show wpAny _ _ (if (!t.plain&&decide (es.size > 1))=true then _ else _) _ _ _
  rw[G.plain];simp only[By,DI,Be,if_false];refine Es ?_
  show wpAny _ _ (if (!t.led&&!es.isEmpty)=true then _ else _) _ _ _
  rw[G.led,hb'];simp only[BL,By,DI,Be,if_false];refine Eu ?_
  rw[hs hb'];refine Eu ?_
  by_cases hi:i<es.size
  ·have hp:i<t.place.size:=by rw[G.size];exact hi
   rw[ED hi,ED hp];dsimp only;refine h1 es[i].2 (by rw[eo,FV,ED hi];rfl) _ λ _=>?_
   obtain⟨b1,b2,b3⟩:=fk G.ris (t.place[i]+1);have e1:t.place.getD i 0=t.place[i]:=by simp[EK,hp]
   rcases Di (below t.place (t.place[i]+1)) (i+1) with z|z|z
   ·have:=b3 i (by omega) hp
    rw[e1] at this;omega
   ·exact z
   ·have hz:i+1<t.place.size:=by omega
    have:=b2 (i+1) z;have h3:=G.ris.at hz (BF i);rw[e1] at h3;omega
  ·rw[EX (by omega)]
   dsimp only;exact h2 (by rw[eo,FV,EX (by omega)];rfl)
end
section
variable {prog:Program}{w:World}{A:Around}{E:Value->Shared->Prop}{s:Shared}{a:Addr}{es:Array (Int×Value)}{ep:Nat}{t:SetTable}
theorem vD {Q:Value->Shared->Prop}(G:Gone w es t)(ha:s.heap.get? a=some (rS es ep t))(h:Q (.ref s.heap.objs.size) { s with heap:=s.heap.push (itO 0 0 es.size ep a) }):wpAny (model prog w) A (pyIter (.ref a)) Q E s:=by
 have hT:s.TypeIs (.ref a) "set":=⟨_,ha,rfl⟩;refine wpAny_pyIter_slot hT F.slot_set_iter (FC F.slot_set_iter hT sx ?_ (F.args_set_iter_1 _));unfold Builtin.«frozenset.__iter__» HZ;refine Es (Eu ?_);unfold HY;refine Es (Es (Gf ha rfl G.fits (Eu ?_)));refine Es (show wpAny _ _ (setState a >>= _) _ _ _ from Es (E8 ha rfl G.fits ?_));dsimp only;unfold setsByText;refine Es (Es (FQ (Eu (Eu ?_))));have dz:∀ b:Bool,(!b&&(!t.plain&&decide (es.size > 1)))=false:=λ b=>by rw[G.plain];cases b <;>rfl
 show wpAny _ _ (if (!(byT w)&&(!t.plain&&decide (es.size > 1)))=true then _ else _) _ _ _
 rw[dz];simp only[Be,if_false];refine Es (Eu ?_);refine Es (wpAny_setEpoch_of ha rfl G.fits ?_);unfold newFields;refine Es (Fg ?_);exact Eu ⟨_,rfl,"set_iterator",_,⟨_,Ey _ rfl,rfl⟩,slot_sin.lookup,h⟩
theorem vM {Q:Option Value->Shared->Prop}{I:Addr}{i slot:Nat}(G:Gone w es t)(hI:s.heap.get? I=some (itO slot i es.size ep a))(ha:s.heap.get? a=some (rS es ep t))(hne:a≠I)(hs:byT w=false->below t.place slot=i)
  (hi:i<es.size) (h1:∀ v h',(cQ w a es ep)[i]?=some v->StS w I a es ep t (i+1) h'->(∀ b o,b≠I->s.heap.get? b=some o->h'.get? b=some o)->Q (some v) { s with heap:=h' }):
  wpAny (model prog w) A (pyNext (.ref I)) Q E s:=by
 have hT:s.TypeIs (.ref I) "set_iterator":=⟨_,hI,rfl⟩;unfold pyNext;refine Es (wpAny_attempt (GJ (name:=EW "__next__") hT slot_sin (FC slot_sin hT jN ?_ (lN _))));unfold Builtin.«set_iterator.__next__»;refine Es (Eu ?_);refine Es (wpAny_fieldsOf hI rfl ?_);dsimp only;refine Es (Gf ha rfl G.fits ?_);simp only[bne_self_eq_false,Be,if_false];simp only[Cz];refine Es (o3 G ha hs (λ v hv slot' hs'=>?_) λ hv=>?_)
 ·dsimp only
  refine Es (HF hI (by simp) λ h₁ he₁ hs₁=>?_);replace hs₁:FH I s.heap h₁:=hs₁;replace he₁:h₁.get? I=some (itO slot' i es.size ep a):=he₁;refine Es (HF he₁ (by simp) λ h₂ he₂ hs₂=>?_);replace hs₂:FH I h₁ h₂:=hs₂;replace he₂:h₂.get? I=some (itO slot' (i+1) es.size ep a):=by
   have e:((i+1:Nat):Int)=(i:Int)+1:=by omega
   unfold itO;rw[e];simpa[rawInt] using he₂
  have kp:∀ b o,b≠I->s.heap.get? b=some o->h₂.get? b=some o:=λ b o hb e=>hs₂.extBut b o hb (hs₁.extBut b o hb e)
  exact Eu ⟨_,rfl,Eu (h1 v h₂ hv ⟨slot',he₂,kp a _ hne ha,hs'⟩ kp)⟩
 ·rw[ED (by rw[cH];exact hi)] at hv
  cases hv
theorem xZ {Q:Option Value->Shared->Prop}{I:Addr}{slot:Nat}(hh:A.handled=none)(G:Gone w es t)(hI:s.heap.get? I=some (itO slot es.size es.size ep a))(ha:s.heap.get? a=some (rS es ep t))(hs:byT w=false->below t.place slot=es.size)
  (h1:∀ h',(∀ b o,b≠I->s.heap.get? b=some o->h'.get? b=some o)->Q none { s with heap:=h' }):
  wpAny (model prog w) A (pyNext (.ref I)) Q E s:=by
 have hT:s.TypeIs (.ref I) "set_iterator":=⟨_,hI,rfl⟩;unfold pyNext;refine Es (wpAny_attempt (GJ (name:=EW "__next__") hT slot_sin (FC slot_sin hT jN ?_ (lN _))));unfold Builtin.«set_iterator.__next__»;refine Es (Eu ?_);refine Es (wpAny_fieldsOf hI rfl ?_);dsimp only;refine Es (Gf ha rfl G.fits ?_);simp only[bne_self_eq_false,Be,if_false];simp only[Cz];refine Es (o3 G ha hs (λ v hv slot' hs'=>?_) λ hv=>?_)
 ·rw[EX (by rw[cH];omega)] at hv
  cases hv
 ·dsimp only
  refine Es (wpAny_setField hI rfl (by simp) ?_);refine Es ?_
  simp only[newExc,newTuple];refine Es (Fg ?_ (by size_fits));refine Es (m:=firstArgMember _ _) (HH (a:=EG) (by first|rfl|(simp only[firstArgMember];rfl)) ?_);refine Fg ?_ (by size_fits)
  simp only[raiseNew];refine Es (wpAny_handled ?_);rw[show A.in1.handled=none from hh];refine Es (Eu (wpAny_throw ?_));refine Es (wpAny_isInstance (T:="StopIteration") (b:=true) ⟨_,Ey _ rfl,rfl⟩ isSubtype_stop ?_);exact Eu (h1 _ (((Heap.SameBut.update ..).extBut.push _).push _))
theorem q0 (hh:A.handled=none)(G:Gone w es t)(I:Addr)(hne:a≠I):Walks prog w A I [I,a] [I] es.size (λ i v=>(cQ w a es ep)[i]?=some v) (StS w I a es ep t) where
 sub:=λ b hb=>by simp at hb;simp[hb]
 frame:=λ i h h' ⟨slot,h1,h2,h3⟩ hk=>⟨slot,hk I (by simp) _ h1,hk a (by simp) _ h2,h3⟩
 item:=λ i s Q E hi ⟨slot,h1,h2,h3⟩ hQ=>vM G h1 h2 hne h3 hi λ v h' hv hst hk=>hQ v h' s.toks hv hst λ b o hb e=>hk b o (λ z=>hb (by simp[z])) e
 done:=λ s Q E ⟨slot,h1,h2,h3⟩ hQ=>xZ hh G h1 h2 h3 λ h' hk=>hQ h' s.toks λ b o hb e=>hk b o (λ z=>hb (by simp[z])) e
 self:=λ i s Q E ⟨slot,h1,h2,h3⟩ hQ=>by
  have hT:s.TypeIs (.ref I) "set_iterator":=⟨_,h1,rfl⟩;exact wpAny_pyIter_slot hT lJ (FC lJ hT sf (show wpAny _ _ (ret (.ref I)) _ _ s from Eu ⟨_,rfl,"set_iterator",_,hT,slot_sin.lookup,hQ⟩) (sX _))
theorem tf (hT:s.TypeIs (.ref a) "set"){Q:Bool->Shared->Prop}(h:Q false s):wpAny (model prog w) A (Gs (.ref a)) Q E s:=by
 unfold Gs;refine Es (GO hT F.slot_set_len.lookup ?_);generalize hid:("set.__len__":String)=id0
 wp_delta
 rw[show splitId id0=some ("set","__len__") from by subst hid;decide +kernel];subst hid;refine Es (wpAny_isInstance (T:="set") (b:=true) hT (by rw[G4];kernel_rfl) ?_);refine wpAny_ite_split (λ hab=>absurd hab (by decide)) (λ _=>?_);refine wpAny_ite_split (λ _=>?_) (λ hab=>absurd (by decide +kernel) hab);exact Es (wpAny_typeOf hT (Eu h))
theorem wt (G:Gone w es t):KdlSrc prog w "set" a a es.size (λ i v=>(cQ w a es ep)[i]?=some v) (λ h=>h.get? a=some (rS es ep t)) where
 type:=λ s h=>⟨_,h,rfl⟩
 there:=λ h hok=>⟨Ew hok,Ew hok⟩
 keep:=λ h h' hok hk=>hk a (.inl rfl) _ hok
 notList:=by decide
 notTuple:=by decide
 hint:=λ A E s Q hok h=>tf ⟨_,hok,rfl⟩ h
 iter:=λ A s hh hok=>⟨itO 0 0 es.size ep a,StS w s.heap.objs.size a es ep t,λ E Q h=>vD G hok h,q0 hh G _ (Bl (Ew hok)),0,Ey _ rfl,Et _ hok,λ _=>by
  obtain⟨b1,b2,b3⟩:=fk G.ris 0
  rcases Nat.eq_zero_or_pos (below t.place 0) with z|z
  ·exact z
  ·have:=b2 0 z;omega⟩
end
end Sts
namespace Dv
def tupleD:D->Bool->R
 | .lst ds,f=>.ok (.tup ds) (f || flatL ds)
 | _,_=>.bad
def onceStepL (σ:List (List Int))(k:List Int):List (List Int):=if σ.any (· == k) then σ else σ++[k]
def onceL (nss:List (List Int)):List (List Int):=nss.foldl onceStepL []
def sortSetTD:D->Bool->R
 | .lst ds,f=>match tupsOf ds with
  | some nss=>if nss.length<64 then .ok (.lst ((lsort (onceL nss)).map λ ns=>.tup (ns.map .int))) f else .bad
  | none=>.bad
 | _,_=>.bad
end Dv
namespace Sd
open PySem PySem.Spec PySem.W PySem.Calls PyProof.Rows L2 Sts
open Dv (D R RL EE EL EI RI Sl Out SS)
theorem eO {prog:Program}{w:World}:∀ {ws:List Value} {ns:List Int},IntsAre ws ns->ItemsAre (intKind prog w) ns ws
 | _,_,.nil=>.nil
 | _,_,.cons n t r=>.cons (intKind_is _ _ _ _) (eO r)
theorem jJ (nss:List (List Int)):∀ i,i<=nss.length->eE (λ j=>nss.getD j []) i=(nss.take i).foldl Dv.onceStepL []
 | 0,_=>by simp[eE]
 | i+1,h=>by
  have hi:i<nss.length:=by omega
  unfold eE;rw[jJ nss i (by omega),List.take_succ_eq_append_getElem hi,Cg];have e:nss.getD i []=nss[i]:=by simp[A7,Ba hi]
  simp only[e,Bn,Bq];rfl
section
variable {prog:Program}{w:World}{A:Around}{E:Value->Shared->Prop}{s:Shared}
theorem nz {T:String}{r d:Addr}{n:Nat}{P:Nat->Value->Prop}{OK:Heap->Prop}{Q:Value->Shared->Prop}{key:Nat->List Int}(Kd:KdlSrc prog w T r d n P OK)(hh:A.handled=none)(hok:OK s.heap)(h64:n<64)
  (hP:∀ i v,i<n->P i v->∃ b,v=.ref b/\IsK prog w s.heap (key i) b/\key i≠[])
  (h:∀ (h':Heap) (tk:Nat) (vs:List Value) (out:List Nat),vs.length=n->(∀ j v,vs[j]?=some v->P j v)->(∀ b o,s.heap.get? b=some o->h'.get? b=some o)->out.Perm (List.range n)->(∀ i j,i<=j->j<n->Dv.lexLe (key (out.getD i 0)) (key (out.getD j 0))) ->
   Q (.ref h'.objs.size) { s with heap:=sortedHeap (h'.push (seqObj "list" vs.toArray 0)) h'.objs.size vs (out.map λ i=>vs.getD i EG).toArray,toks:=tk }):
  wpAny (model prog w) A (call (.builtin "sorted") [.ref r]) Q E s:=by
 have ln:n<=sizeLine:=by rw[EU];omega
 refine GB kind_sorted plain_sorted entry_sorted (args_sorted1 _) ?_
 unfold Builtin.«sorted»;refine Es (m:=checkCount "sorted" 1 1 _) (Eu (Es (kdu_collect (A:=A.in1) Kd hh hok ln λ h' tk acc hk hacc=>?_)));have hl:acc.toList.length=n:=by rw[EF];exact hacc.1
 have hP':∀ j v,acc.toList[j]?=some v->P j v:=λ j v e=>hacc.2 j v (by rw[<- FK];exact e)
 refine Es (Hg ?_ (by rw[hl];exact ln));generalize acc.toList=vs at hl hP';have z2:(h'.push (seqObj "list" vs.toArray 0)).get? h'.objs.size=some (seqObj "list" vs.toArray 0):=Ey _ rfl;have item:∀ i,i<vs.length->∃ b,vs.getD i EG=.ref b/\IsK prog w s.heap (key i) b/\key i≠[]:=λ i hi=>by
  obtain⟨b,e1,e2⟩:=hP i vs[i] (by omega) (hP' i _ (Ba hi));exact⟨b,by rw[A7,Ba hi];exact e1,e2⟩
 have old:∀ b o,s.heap.get? b=some o->b≠h'.objs.size/\(h'.push (seqObj "list" vs.toArray 0)).get? b=some o:=λ b o q=>
  ⟨Bl (Ew (hk b o q)),Et _ (hk b o q)⟩
 let keys:=(List.range n).map key
 have hkey:∀ i,i<n->keys.getD i []=key i:=λ i hi=>by simp[keys,A7,B9 hi]
 have hmem:∀ i,i<n->key i∈keys:=λ i hi=>List.mem_map.mpr ⟨i,List.mem_range.mpr hi,rfl⟩
 show wpAny _ _ _ _ _ { s with heap:=h'.push (seqObj "list" vs.toArray 0),toks:=tk }
 refine Es (EM (FC slot_list_sort ⟨_,z2,rfl⟩ entry_list_sort (j6 (s:={ s with heap:=h'.push (seqObj "list" vs.toArray 0),toks:=tk }) (κ:=tuples' true) (key:=λ i=>(Dv.rank keys (key i):Int)) z2 (by omega)
  (λ h2 h3 k E' Q' q=>?_) (λ h2 h3 k i j C hi hj q=>?_) λ out a1 a2=>⟨_,rfl,Eu ⟨_,rfl,h h' tk vs out hl hP' hk (by rw[<- hl];exact a1) λ i j hij hj=>?_⟩⟩) (args_list_sort _)))
 ·have tups:∀ (l:List Value),(∀ v∈l,v∈vs)->∃ fs,KatTups h3 l fs/\fs.length=l.length/\∀ f∈fs,∃ a t,f=Fh a t:=by
   intro l
   induction l with
   | nil=>exact λ _=>⟨[],.nil,rfl,λ f hf=>by cases hf⟩
   | cons v l ih=>
    intro hl;obtain⟨fs,g1,g2,g3⟩:=ih λ v hv=>hl v (A5 _ hv)
    obtain⟨i,hi,hv⟩:=BC (hl v A6);obtain⟨b,e1,⟨o,its,m,e2,e3,e4,e5⟩,e6⟩:=item i hi;rw[A7,Ba hi] at e1;have e1:v=.ref b:=by rw[<- hv];exact e1
    subst e1;generalize key i=ns at e5 e6;have e7:o.data=.seq its.toList.toArray m:=by rw[e4]
    generalize its.toList=ws at e5 e7;cases e5 with
    | nil=>exact absurd rfl e6
    | @cons kk vv ks' vs' hq r=>
     obtain⟨t,et⟩:=FX hq;subst et;refine⟨Fh kk t::fs,.cons (k _ _ (old b o e2).1 (old b o e2).2) e3 e7 (by simp) g1,by simp[g2],λ f hf=>?_⟩
     rcases List.mem_cons.mp hf with rfl|hf
     ·exact⟨kk,t,rfl⟩
     ·exact g3 f hf
  obtain⟨fs,g1,g2,g3⟩:=tups vs λ v hv=>hv
  refine kat_kind (T:=.type "int") g1 (by omega) (λ v hv=>?_) (by decide) (show Q' (tuples' (FW "int" != FW "tuple")) _ from q);obtain⟨a,t,rfl⟩:=g3 v hv;exact .now
 ·obtain⟨b,e1,⟨o,its,m,e2,e3,e4,e5⟩,e6⟩:=item i hi
  obtain⟨b',f1,⟨o',its',m',f2,f3,f4,f5⟩,f6⟩:=item j hj;unfold kas_ask;rw[e1,f1];have ii:∀ {ns:List Int} {ws:List Value},ItemsAre (intKind prog w) ns ws->IntsAre ws ns:=λ {ns ws} q=>by
   induction q with
   | nil=>exact .nil
   | cons hq _ ih=>obtain⟨t,et⟩:=FX hq;subst et;exact .cons _ _ ih
  rw[Dv.rank_lt (hmem i (by omega))] at q;refine kat_lt (k _ _ (old b o e2).1 (old b o e2).2) (by rw[e4]) (k _ _ (old b' o' f2).1 (old b' o' f2).2) (by rw[f4]) (mH 0 (ii e5) (ii f5) ?_ q);have l1:(key i).length=its.size:=by have:=e5.length;simpa using this
  have l2:(key j).length=its'.size:=by have:=f5.length;simpa using this
  rw[l1,l2]
 ·have:=a2 i j hij (by omega)
  have ho:out.length=vs.length:=by rw[a1.length_eq,BR]
  have rg:∀ k,k<n->out.getD k 0<n:=λ k hk=>by
   have h1:out.getD k 0∈out:=by
    rw[A7,Ba (by omega)];exact BO _
   have:=List.mem_range.mp (a1.mem_iff.mp h1);omega
  unfold Dv.lexLe;rw[<- Dv.rank_lt (hmem _ (rg j hj))];exact decide_eq_false (by omega)
end
theorem sU (nss:List (List Int)):(Dv.onceL nss).length<=nss.length:=by
 have:∀ (l σ:List (List Int)),(l.foldl Dv.onceStepL σ).length<=σ.length+l.length:=by
  intro l
  induction l with
  | nil=>intro σ;simp
  | cons k r ih=>
   intro σ;rw[Bn];refine BN (ih _) ?_
   unfold Dv.onceStepL
   split <;>simp <;>omega
 have:=this nss [];rw[Bk,CF] at this;exact this
section
variable {C:Ctx}{a:Expr}{f:EE}{pos:Pos}
theorem lK {X:Cx}{t:TE}{p p2 pos2:Pos}(hcl:X.calm=true)(hu:X.A.units+64<cLine)(hm:X.mg "sorted"=none)(hg:Gl X "sorted")(hm2:X.mg "set"=none)(hg2:Gl X "set")(ha:PE X a t)
  (he:starEach [.Call (.Name "set" p2) [a] [] pos2] X.env=[(false,eval (.Call (.Name "set" p2) [a] [] pos2) X.env)]) (he2:starEach [a] X.env=[(false,eval a X.env)]):
  PE X (.Call (.Name "sorted" p) [.Call (.Name "set" p2) [a] [] pos2] [] pos) (λ σ H Q=>t σ H λ x H1=>∃ q vs nss,x=.ref q/\SqX X.K H1 q vs/\vs.length<64/\Paired (ItT H1) vs nss /\
   ∀ out:List Nat,(∀ i∈out,i<vs.length)->(out.map λ i=>nss.getD i [])=Dv.lsort (Dv.onceL nss)->∀ l,H1 l=none->Q (.ref l) (upd H1 l (.lst (out.map λ i=>vs.getD i .non)))):=by
 intro pins s σ H Q I h;refine Fp (d7 I hg hm FU ?_ (by decide) (by decide));refine F8 ?_ he rfl
 rw[he];show wpAny _ _ (spliced ((false,eval (.Call (.Name "set" p2) [a] [] pos2) X.env)::backTo pos [])) _ _ s
 refine Gm (Fp (d7 I hg2 hm2 PyProof.Rows.boot_set ?_ (by decide) (by decide)));refine E9 ?_ he2 rfl
 rw[he2];show wpAny _ _ (spliced ((false,eval a X.env)::backTo pos2 [])) _ _ s
 refine Gm (thn (ha pins s σ H _ I h) λ u s1 ⟨x,H1,I1,r1,q,vs,nss,e1,hq,h64,hit,go⟩=>?_);subst e1;cases r1;refine Gx ?_
 obtain⟨its,n,rv,e,z⟩:=Inv.listX I1 hq;have hl:=rv.length;have hn:=hit.length;have item:∀ i,i<its.length->∃ b,its[i]?=some (.ref b)/\IsK X.prog X.w s1.heap (nss.getD i []) b/\nss.getD i []≠[]:=λ i hi=>by
  obtain⟨u,h1,h2⟩:=hZ rv (i:=i) (by omega);obtain⟨b,hb,hs,hne⟩:=mq hit (i:=i) (by omega) [];rw[hb] at h2;obtain⟨_,ws,rw',o,ew,hc,m,hd⟩:=hs.ok I1.hok;have h2:u=.ref b:=h2;subst h2;exact⟨b,h1,⟨o,ws.toArray,m,ew,hc,hd,by simpa using eO (intsAre_of rw')⟩,hne⟩
 have hz:its.toArray.size=its.length:=Bd ..;refine rA (prog:=X.prog) (w:=X.w) (B:=λ ks v=>∃ j,j<its.length/\its[j]?=some v/\nss.getD j []=ks) (items:=its.toArray) (val:=λ j=>nss.getD j []) (I1.ok.hd hcl) (by omega) ⟨_,e,rfl,n,rfl⟩ (by rw[hz];omega)
  (λ j hj=>?_) λ h' tk hS hk=>?_
 ·rw[hz] at hj
  obtain⟨b,e1,e2,_⟩:=item j hj;exact⟨b,by simpa using e1,e2,j,hj,e1,rfl⟩
 obtain⟨es,ep,tb,V,pl,p1,p2',p3⟩:=hS;rw[hz] at p2' p3;have em:eE (λ j=>nss.getD j []) its.length=Dv.onceL nss:=by
  rw[jJ nss its.length (by omega),Cq (by omega)];rfl
 rw[em] at p2' p3;refine Gx ?_
 have po:(cQ X.w s1.heap.objs.size es ep).toList.Perm (pl.map (·.2)):=ord_perm.trans (p1.map _);have oz:(cQ X.w s1.heap.objs.size es ep).size=(Dv.onceL nss).length:=by
  have:=po.length_eq;rw[EF,A4,p2'] at this;exact this
 have esz:es.size=(Dv.onceL nss).length:=by rw[<- oz,cH]
 have ol:=sU nss;have inx:∀ i,∃ j,i<es.size->∀ v,(cQ X.w s1.heap.objs.size es ep)[i]?=some v->j<its.length/\its[j]?=some v:=λ i=>by
  by_cases hi:i<es.size
  ·have hi':i<(cQ X.w s1.heap.objs.size es ep).size:=by rw[cH];exact hi
   have hm:(cQ X.w s1.heap.objs.size es ep)[i]∈pl.map (·.2):=po.mem_iff.mp (by simp);obtain⟨m,hm',em'⟩:=BC hm;rw[A4] at hm';obtain⟨_,j,j1,j2,_⟩:=p3 m hm' (by omega);refine⟨j,λ _ v hv=>⟨j1,?_⟩⟩;rw[ED hi'] at hv;rw[j2,<- Option.some.inj hv,<- em',Cb]
  ·exact⟨0,λ z=>absurd z hi⟩
 let jx:=λ i=>HK (inx i)
 have hjx:∀ i,i<es.size->∀ v,(cQ X.w s1.heap.objs.size es ep)[i]?=some v->jx i<its.length/\its[jx i]?=some v:=λ i=>GZ (inx i)
 have kp:∀ {ks b},IsK X.prog X.w s1.heap ks b->IsK X.prog X.w h' ks b:=λ {ks b} ⟨o,its,n,ho,r⟩=>⟨o,its,n,hk b o ho,r⟩
 have hat:∀ i,i<es.size->∃ v,(cQ X.w s1.heap.objs.size es ep)[i]?=some v:=λ i hi=>⟨_,ED (by rw[cH];exact hi)⟩
 have keyOf:∀ i,i<es.size->∀ v,(cQ X.w s1.heap.objs.size es ep)[i]?=some v->∃ b,v=.ref b/\IsK X.prog X.w h' (nss.getD (jx i) []) b/\nss.getD (jx i) []≠[]:=λ i hi v hv=>by
  obtain⟨j1,j2⟩:=hjx i hi v hv;obtain⟨b,e1,e2,e3⟩:=item _ j1;rw[j2] at e1;exact⟨b,Option.some.inj e1,kp e2,e3⟩
 have pk:((List.range es.size).map λ i=>nss.getD (jx i) []).Perm (Dv.onceL nss):=by
  let g:Value->List Int:=λ v=>Classical.epsilon λ ks=>∃ b,v=.ref b/\IsK X.prog X.w h' ks b
  have gk:∀ {b ks},IsK X.prog X.w h' ks b->g (.ref b)=ks:=λ {b ks} hb=>by
   have ex:∃ ks,∃ b',EA b=.ref b'/\IsK X.prog X.w h' ks b':=⟨ks,b,rfl,hb⟩;obtain⟨b',e1,e2⟩:=Classical.epsilon_spec ex;injection e1 with e1
   subst e1;exact e2.inj hb
  have e1:(List.range es.size).map (λ i=>nss.getD (jx i) [])=(cQ X.w s1.heap.objs.size es ep).toList.map g:=by
   refine Dm (by simp[cH]) λ i h1 h2=>?_
   rw[A4,BR] at h1;obtain⟨v,hv⟩:=hat i h1;obtain⟨b,rfl,hb,_⟩:=keyOf i h1 v hv;have hi':i<(cQ X.w s1.heap.objs.size es ep).size:=by rw[cH];exact h1
   rw[ED hi'] at hv;simp only[Cb,List.getElem_range,Array.getElem_toList];rw[Option.some.inj hv,gk hb]
  have e2:(pl.map (·.2)).map g=Dv.onceL nss:=by
   refine Dm (by simp[p2']) λ i h1 h2=>?_
   rw[A4,A4] at h1;obtain⟨⟨b,e3,hb⟩,_⟩:=p3 i h1 h2;simp only[Cb,e3];exact gk hb
  rw[e1,<- e2];exact po.map g
 have I2:L2.Inv X pins σ H1 { s1 with heap:=h',toks:=tk }:=I1.kept hk;refine nz (s:={ s1 with heap:=h',toks:=tk }) (key:=λ i=>nss.getD (jx i) []) (wt (prog:=X.prog) V.gone) (I2.ok.hd hcl) V.obj (by omega) (λ i v hi hv=>keyOf i hi v hv) λ h2 tk2 vs2 out hvl hvP hk2 hp hs=>?_
 have rg:∀ i∈out,i<es.size:=λ i hi=>List.mem_range.mp (hp.mem_iff.mp hi)
 have ho:out.length=es.size:=by rw[hp.length_eq,BR]
 have vat:∀ i,i<es.size->vs2.getD i EG=its.getD (jx i) EG:=λ i hi=>by
  have hi':i<vs2.length:=by omega
  obtain⟨j1,j2⟩:=hjx i hi vs2[i] (hvP i _ (Ba hi'));rw[A7,Ba hi',A7,j2]
 have jr:∀ i∈out.map jx,i<vs.length:=λ i hi=>by
  obtain⟨m,hm,rfl⟩:=List.mem_map.mp hi;obtain⟨v,hv⟩:=hat m (rg m hm);have:=(hjx m (rg m hm) v hv).1;omega
 have fin:((out.map jx).map λ i=>nss.getD i [])=Dv.lsort (Dv.onceL nss):=by
  rw[BI];refine Dv.sorted_one (((hp.map λ i=>nss.getD (jx i) []).trans pk).trans (Dv.lsort_perm _).symm) ?_ (Dv.lsort_sorted _)
  rw[Dh];intro i j hi hj hij;rw[A4] at hi hj;have:=hs i j (CB hij) (by omega);rw[Cb,Cb];simpa[A7,Ba hi,Ba hj] using this
 have eo:(out.map λ i=>vs2.getD i EG)=(out.map jx).map λ i=>its.getD i EG:=by
  rw[BI];exact BH λ i hi=>vat i (rg i hi)
 have z3:(h2.push (seqObj "list" vs2.toArray 0)).get? h2.objs.size=some (seqObj "list" vs2.toArray 0):=Ey _ rfl;obtain⟨ep3,hat3⟩:=sortedHeap_at (out:=(out.map λ i=>vs2.getD i EG).toArray) z3;have old:∀ b o,s1.heap.get? b=some o->(sortedHeap (h2.push (seqObj "list" vs2.toArray 0)) h2.objs.size vs2 (out.map λ i=>vs2.getD i EG).toArray).get? b=some o:=λ b o q=>by
  have q2:=hk2 b o (hk b o q);have hlt:=Ew q2;rw[sortedHeap_old (Bl hlt) (by rw[size_push'];exact BX hlt)];exact Et _ q2
 have hsz:s1.heap.objs.size<=h2.objs.size:=CB (Ew (hk2 _ _ V.obj));have hf:H1 h2.objs.size=none:=I1.hok.fresh hsz;refine⟨.ref h2.objs.size,_,I1.laid (t':=tk2) (o:=.lst ((out.map jx).map λ i=>vs.getD i .non)) old hsz ?_,rfl,go (out.map jx) jr fin _ hf⟩;rw[eo] at hat3 ⊢;refine⟨?_,(out.map jx).map λ i=>its.getD i EG,ep3,fS rv (out.map jx) jr,by simpa[seqObj] using hat3⟩;rw[A4,A4,EU];omega
theorem mS {p p2 pos2:Pos}(hm:C.X.mg "sorted"=none)(hg:Gl C.X "sorted")(hm2:C.X.mg "set"=none)(hg2:Gl C.X "set")(ha:SE C a f)
  (he:autoParam (starEach [.Call (.Name "set" p2) [a] [] pos2] C.X.env=[(false,eval (.Call (.Name "set" p2) [a] [] pos2) C.X.env)]) ZF._auto_1) (he2:autoParam (starEach [a] C.X.env=[(false,eval a C.X.env)]) ZF._auto_1) (hcl:autoParam (C.X.calm=true) ZF._auto_1):
  SE C (.Call (.Name "sorted" p) [.Call (.Name "set" p2) [a] [] pos2] [] pos) (Dv.eB1 Dv.sortSetTD f):=by
 obtain⟨t,pa,qa⟩:=ha;refine⟨_,lK hcl C.un hm hg hm2 hg2 pa he he2,λ σ H Hv ρ Q e s w=>?_⟩;refine qa.step e (.refl s) w λ v d fr Hv1 H1 _ x1 _ rx n1 q=>?_
 cases d with
 | lst ds=>
  simp only[Dv.sortSetTD] at q;cases hi:Dv.tupsOf ds with
  | none=>rw[hi] at q;exact(show False from q).elim
  | some nss=>
   rw[hi] at q;by_cases h64:nss.length<64
   ·simp only[h64,if_true] at q
    obtain⟨ed,hne⟩:=pI hi;subst ed;obtain⟨l,vs,rfl,h1,h2,h3⟩:=jW x1 rx n1;have hl:=h2.length;rw[A4] at hl;refine⟨l,vs,nss,rfl,h1,by omega,Paired.mapM (pB hne h2) λ _ _ _ z=>z.same x1.vh,λ out hin hp p hpn=>?_⟩;have hin':∀ i∈out,i<(nss.map λ ns=>D.tup (ns.map .int)).length:=λ i hi=>by rw[A4,<- hl];exact hin i hi
    have fin:∀ {K:Frag} {H:Hp},RpL K H (nss.map λ ns=>D.tup (ns.map .int)) vs->RpL K H ((Dv.lsort (Dv.onceL nss)).map λ ns=>D.tup (ns.map .int)) (out.map λ i=>vs.getD i .non):=λ {K H} r=>by
     have r2:=RpL.pick r out hin';have e3:(out.map λ i=>(nss.map λ ns=>D.tup (ns.map .int)).getD i .non)=(out.map λ i=>nss.getD i []).map λ ns=>D.tup (ns.map .int):=by
      rw[BI];refine BH λ i hi=>?_
      have h:i<nss.length:=by have:=hin i hi;omega
      simp[A7,Ba h]
     rw[e3,hp] at r2;exact r2
    exact Ok.newL q x1 (fin h2) (λ z=>fin (h3 z)) p hpn
   ·simp only[h64,if_false] at q
    exact(show False from q).elim
 | _=>exact(show False from q).elim
end
open PySem PySem.Spec PyProof.Rows L2
open Dv (D R)
structure Fo (P:Program)(w:World)(K:Er)(mg:Str->Option Value)(base:Heap)(n:Str)(st:Stmt)(ps:List Str)(k:Nat)(S:Sp) where
 f:Addr
 fd:FuncData
 d:Df K mg n st ps f fd
 o:FnOk P w K mg base (CXe P w) k f fd ps S
abbrev Fu (n:Str)(st:Stmt)(ps:List Str)(k:Nat)(F:List D->R)(m:Nat)(P:Program)(w:World)(K:Er)(mg:Str->Option Value)(base:Heap)(ad:String->Option Addr):=Fo P w K mg base n st ps k (spD K (aJ ad) F m)
abbrev hD (K:Er)(n:Str)(s:Stmt):Prop:=∃ (f:Addr) (oc:Value) (od:Option Addr) (kV dc pm:Value) (an:Option Addr) (cd ct:Value) (sl:Array (Option Value)),EJ K mainGlobals n=some (some (.ref f)) /\
 K.lookup f=some ⟨oc,od,.func (EC n n (aO s) (aE s) (ae s) .none kV dc pm an cd ct),sl⟩/\E7 K cd n=true/\E0 K (.ref f)=true
theorem dfE {K:Er}{h:Heap}{mg:Str->Option Value}{n:Str}{st:Stmt}{ps:List Str}(X:K.In h)(G:h.Ns mainGlobals mg)(q:hD K n st)
  (b:∀ (kV doc pm:Value) (an:Option Addr) (cdv ct:Value) (us:List Value),us.length=ps.length->bindArgs (EC n n (aO st) (aE st) (ae st) .none kV doc pm an cdv ct) ⟨us,[]⟩=pure (ps.zip us)):∃ f fd,Df K mg n st ps f fd:=
 let ⟨f,_,_,_,_,_,_,_,_,_,a,l,c,k⟩:=q
 ⟨f,_,xM (EZ X G a) l c k b⟩
section
variable {C:Ctx}{a:Expr}{f:EE}{pos:Pos}
theorem uI:C1S C (.type "tuple") Dv.tupleD:=by
 refine⟨_,jd,λ x d fr H Hv H1 Hv1 W Q e rx n q=>?_⟩;cases d with
 | lst ds=>
  cases fr with
  | true=>
   have rn:=n rfl;unfold Rp at rn;obtain⟨l,vs,rfl,h1,h2⟩:=rn;have h1':SqX C.X.K H1 l vs:=by
    rcases h1 with h1|⟨its,n,e,_⟩
    ·exact .inl (Rd.same Hnew.sub h1)
    ·simp at e
   exact⟨l,vs,rfl,.inl ⟨h1'.seq,λ p hp=>Ok.newT q e ((RpL.frag h2).same e.news) (λ _=>h2) p hp⟩⟩
  | false=>
   unfold Rp at rx;obtain⟨l,vs,rfl,h1,h2⟩:=rx;exact⟨l,vs,rfl,.inl ⟨(h1.same e.vh).seq,λ p hp=>Ok.newT q e h2 (λ z=>h2.flat (by simpa using z)) p hp⟩⟩
 | _=>exact(show False from q).elim
theorem qT {p:Pos}(hm:C.X.mg "tuple"=none)(hg:Gl C.X "tuple")(ha:SE C a f)(he:autoParam (starEach [a] C.X.env=[(false,eval a C.X.env)]) ZF._auto_1):SE C (.Call (.Name "tuple" p) [a] [] pos) (Dv.eB1 Dv.tupleD f):=xR uI hg hm (by first|exact PyProof.Rows.boot_tuple|rfl|kernel_rfl) ha (by decide) (by decide) he
end
end Sd
namespace Cw
open Dv (eAllF eAnd eB1 eB2 eBl eCall eCm eComp eCompT eDict0 eDnin eFld eInt eIx eLst eNeg eNot eOp eOr eSlice eTup eVar iRange iRange2 iSeq iZip lCons lNil sApp sAppG sCons sDPut sExpr sFor sForT sIf sKillRows sNil sPar sPut sRaise sRet sRetO sSet sSetD sSetG sUnpack sUnpackL)
open Dv (D R)
def b_Q04:Dv.SS:=
 (sIf (eOr (eCm .lt (eVar 0) (eInt 1)) (eCm .gt (eVar 0) (eInt 60))) (sRaise "NoWheel") sNil)
def F_Q04:List D->R:=Dv.fn 1 b_Q04
def b_Q03_l1:Dv.SS:=
 (sCons (sIf (eOr (eCm .le (eVar 3) (eVar 2)) (eCm .ge (eVar 3) (eVar 1))) (sRaise "NoBeat") sNil) (sSetG [3] 2 (eVar 3)))
def b_Q03_t2:Dv.SS:=
 (sFor [0] 3 (iSeq (eVar 0)) b_Q03_l1)
def b_Q03_t1:Dv.SS:=
 (sCons (sSet 2 (eNeg (eInt 1))) b_Q03_t2)
def b_Q03:Dv.SS:=
 (sCons (sIf (eCm .eq (eB1 Dv.lenD (eVar 0)) (eInt 0)) (sRaise "NoBeat") sNil) b_Q03_t1)
def F_Q03:List D->R:=Dv.fn 4 b_Q03
def b_Q02_t1:Dv.SS:=
 (sExpr (eCall F_Q03 (lCons (eVar 1) (lCons (eVar 0) lNil))))
def b_Q02:Dv.SS:=
 (sCons (sExpr (eCall F_Q04 (lCons (eVar 0) lNil))) b_Q02_t1)
def F_Q02:List D->R:=Dv.fn 2 b_Q02
def b_Q0E_t3:Dv.SS:=
 (sRet (eOp .mod (eOp .mul (eVar 2) (eVar 2)) (eInt 2147483629)))
def b_Q0E_t2:Dv.SS:=
 (sCons (sIf (eCm .gt (eB1 Dv.lenD (eVar 0)) (eInt 0)) (sSet 2 (eOp .mod (eOp .add (eOp .mul (eIx (eVar 0) (eOp .mod (eVar 1) (eB1 Dv.lenD (eVar 0)))) (eInt 48271)) (eOp .mul (eVar 1) (eInt 7919))) (eInt 2147483647))) sNil) b_Q0E_t3)
def b_Q0E_t1:Dv.SS:=
 (sCons (sSet 2 (eOp .add (eOp .mul (eInt 7919) (eVar 1)) (eInt 5))) b_Q0E_t2)
def b_Q0E:Dv.SS:=
 (sCons (sIf (eCm .lt (eVar 1) (eB1 Dv.lenD (eVar 0))) (sRet (eIx (eVar 0) (eVar 1))) sNil) b_Q0E_t1)
def F_Q0E:List D->R:=Dv.fn 3 b_Q0E
def b_Q0P:Dv.SS:=
 (sRet (eAnd (eB1 Dv.isIntD (eVar 0)) (eNot (eB1 Dv.isBoolD (eVar 0)))))
def F_Q0P:List D->R:=Dv.fn 1 b_Q0P
def b_Q0B_l1:Dv.SS:=
 (sIf (eOr (eNot (eCall F_Q0P (lCons (eVar 2) lNil))) (eCm .ne (eVar 2) (eVar 3))) (sRet (eBl false)) sNil)
def b_Q0B_t2:Dv.SS:=
 (sRet (eBl true))
def b_Q0B_t1:Dv.SS:=
 (sCons (sForT [0,1] (Dv.tupTo [2,3]) (iZip (eVar 0) (eVar 1)) b_Q0B_l1) b_Q0B_t2)
def b_Q0B:Dv.SS:=
 (sCons (sIf (eOr (eNot (eB1 Dv.isListD (eVar 0))) (eCm .ne (eB1 Dv.lenD (eVar 0)) (eB1 Dv.lenD (eVar 1)))) (sRet (eBl false)) sNil) b_Q0B_t1)
def F_Q0B:List D->R:=Dv.fn 4 b_Q0B
def b_Q0N_l1:Dv.SS:=
 (sCons (sSet 7 (eOp .mod (eOp .shr (eVar 3) (eVar 6)) (eInt 2))) (sCons (sIf (eCm .eq (eVar 4) (eInt 3)) (sSet 7 (eOp .mul (eVar 7) (eOp .mod (eOp .shr (eVar 3) (eOp .mod (eOp .add (eVar 6) (eInt 7)) (eInt 61))) (eInt 2)))) sNil) (sCons (sIf (eCm .eq (eVar 4) (eInt 4)) (sSet 7 (eB2 Dv.max2D (eVar 7) (eOp .mod (eOp .shr (eVar 3) (eOp .mod (eOp .add (eVar 6) (eInt 7)) (eInt 61))) (eInt 2)))) sNil) (sIf (eCm .eq (eVar 7) (eInt 1)) (sApp 5 (eVar 6)) sNil))))
def b_Q0N_t5:Dv.SS:=
 (sRetO 5)
def b_Q0N_t4:Dv.SS:=
 (sCons (sIf (eCm .eq (eVar 5) (eLst lNil)) (sApp 5 (eOp .mod (eOp .fdiv (eCall F_Q0E (lCons (eVar 0) (lCons (eOp .add (eVar 1) (eInt 1)) lNil))) (eInt 5)) (eVar 2))) sNil) b_Q0N_t5)
def b_Q0N_t3:Dv.SS:=
 (sCons (sFor [] 6 (iRange (eVar 2)) b_Q0N_l1) b_Q0N_t4)
def b_Q0N_t2:Dv.SS:=
 (sCons (sSet 5 (eLst lNil)) b_Q0N_t3)
def b_Q0N_t1:Dv.SS:=
 (sCons (sSet 4 (eOp .mod (eCall F_Q0E (lCons (eVar 0) (lCons (eOp .add (eVar 1) (eInt 1)) lNil))) (eInt 5))) b_Q0N_t2)
def b_Q0N:Dv.SS:=
 (sCons (sSet 3 (eOp .mod (eOp .mul (eCall F_Q0E (lCons (eVar 0) (lCons (eVar 1) lNil))) (eInt 618970019642690137449562111)) (eInt 2305843009213693951))) b_Q0N_t1)
def F_Q0N:List D->R:=Dv.fn 8 b_Q0N
def c_Q0O_1:Dv.EE:=(eComp (eOp .mod (eOp .add (eVar 0) (eVar 2)) (eVar 1)) (eBl true) [0,2] (iSeq (eVar 1)))
def b_Q0O:Dv.SS:=
 (sRet (eB1 Dv.sortedD c_Q0O_1))
def F_Q0O:List D->R:=Dv.fn 3 b_Q0O
def c_Q09_1:Dv.EE:=(eComp (eOp .add (eVar 0) (eOp .mul (eVar 1) (eVar 2))) (eBl true) [4,0] (iSeq (eVar 1)))
def b_Q09_l1:Dv.SS:=
 (sSet 3 (eOp .add (eVar 3) c_Q09_1))
def b_Q09_t2:Dv.SS:=
 (sRetO 3)
def b_Q09_t1:Dv.SS:=
 (sCons (sFor [] 4 (iRange (eVar 2)) b_Q09_l1) b_Q09_t2)
def b_Q09:Dv.SS:=
 (sCons (sSet 3 (eLst lNil)) b_Q09_t1)
def F_Q09:List D->R:=Dv.fn 5 b_Q09
def c_Q0Q_1:Dv.EE:=(eComp (eOp .mod (eVar 0) (eVar 1)) (eBl true) [0] (iSeq (eVar 1)))
def b_Q0Q_t3:Dv.SS:=
 (sRetO 2)
def b_Q0Q_t2:Dv.SS:=
 (sCons (sExpr (eCall F_Q02 (lCons (eVar 0) (lCons (eVar 2) lNil)))) b_Q0Q_t3)
def b_Q0Q_t1:Dv.SS:=
 (sCons (sSet 2 (eB1 Dv.sortedD c_Q0Q_1)) b_Q0Q_t2)
def b_Q0Q:Dv.SS:=
 (sCons (sExpr (eCall F_Q04 (lCons (eVar 0) lNil))) b_Q0Q_t1)
def F_Q0Q:List D->R:=Dv.fn 3 b_Q0Q
def c_Q0U_1:Dv.EE:=(eComp (eOp .add (eVar 0) (eVar 1)) (eBl true) [2] (iSeq (eVar 1)))
def b_Q0U_t1:Dv.SS:=
 (sRet (eCall F_Q0Q (lCons (eVar 0) (lCons c_Q0U_1 lNil))))
def b_Q0U:Dv.SS:=
 (sCons (sExpr (eCall F_Q02 (lCons (eVar 0) (lCons (eVar 1) lNil)))) b_Q0U_t1)
def F_Q0U:List D->R:=Dv.fn 3 b_Q0U
def b_Q0F_l1:Dv.SS:=
 (sCons (sSet 6 (eOp .mod (eOp .add (eVar 4) (eVar 5)) (eVar 0))) (sPut 3 (eVar 6) (eOp .add (eIx (eVar 3) (eVar 6)) (eInt 1))))
def b_Q0F_l2:Dv.SS:=
 (sFor [1] 5 (iSeq (eVar 1)) b_Q0F_l1)
def b_Q0F_t2:Dv.SS:=
 (sRet (eCm .eq (eVar 3) (eOp .mul (eLst (lCons (eInt 1) lNil)) (eVar 0))))
def b_Q0F_t1:Dv.SS:=
 (sCons (sFor [2] 4 (iSeq (eVar 2)) b_Q0F_l2) b_Q0F_t2)
def b_Q0F:Dv.SS:=
 (sCons (sSet 3 (eOp .mul (eLst (lCons (eInt 0) lNil)) (eVar 0))) b_Q0F_t1)
def F_Q0F:List D->R:=Dv.fn 7 b_Q0F
def c_Q06_1:Dv.EE:=(eComp (eCall F_Q0U (lCons (eVar 1) (lCons (eVar 2) (lCons (eVar 0) lNil)))) (eBl true) [0,1] (iRange (eVar 0)))
def b_Q06_t1:Dv.SS:=
 (sRet (eB1 Dv.minD c_Q06_1))
def b_Q06:Dv.SS:=
 (sCons (sExpr (eCall F_Q02 (lCons (eVar 0) (lCons (eVar 1) lNil)))) b_Q06_t1)
def F_Q06:List D->R:=Dv.fn 2 b_Q06
def b_Q0G_l1:Dv.SS:=
 (sCons (sSet 6 (eOp .mod (eOp .add (eVar 4) (eVar 5)) (eVar 0))) (sPut 3 (eVar 6) (eOp .add (eIx (eVar 3) (eVar 6)) (eInt 1))))
def b_Q0G_l2:Dv.SS:=
 (sFor [1] 5 (iSeq (eVar 1)) b_Q0G_l1)
def b_Q0G_t2:Dv.SS:=
 (sRet (eCm .eq (eVar 3) (eOp .mul (eLst (lCons (eInt 1) lNil)) (eVar 0))))
def b_Q0G_t1:Dv.SS:=
 (sCons (sFor [2] 4 (iSeq (eVar 2)) b_Q0G_l2) b_Q0G_t2)
def b_Q0G:Dv.SS:=
 (sCons (sSet 3 (eOp .mul (eLst (lCons (eInt 0) lNil)) (eVar 0))) b_Q0G_t1)
def F_Q0G:List D->R:=Dv.fn 7 b_Q0G
def b_Q0T_l1:Dv.SS:=
 (sDPut [] 1 (eVar 4) (eBl true))
def b_Q0T_l2:Dv.SS:=
 (sFor [3] 4 (iSeq (eVar 3)) b_Q0T_l1)
def b_Q0T_t2:Dv.SS:=
 (sRetO 1)
def b_Q0T_t1:Dv.SS:=
 (sCons (sForT [0] (Dv.tupTo [2,3]) (iSeq (eVar 0)) b_Q0T_l2) b_Q0T_t2)
def b_Q0T:Dv.SS:=
 (sCons (sSet 1 eDict0) b_Q0T_t1)
def F_Q0T:List D->R:=Dv.fn 5 b_Q0T
def c_Q0V_1:Dv.EE:=(eComp (eCall F_Q0U (lCons (eVar 1) (lCons (eVar 2) (lCons (eVar 0) lNil)))) (eBl true) [0,1] (iRange (eVar 0)))
def c_Q0V_2:Dv.EE:=(eComp (eOp .mod (eOp .sub (eVar 2) (eVar 0)) (eVar 1)) (eBl true) [0,4] (iSeq (eVar 1)))
def c_Q0V_3:Dv.EE:=(eComp (eTup (lCons (eVar 0) (lCons (eIx (eVar 1) (eVar 0)) lNil))) (eBl true) [2] (iSeq (eVar 5)))
def b_Q0V_l1:Dv.SS:=
 (sCons (sSet 5 c_Q0V_2) (sAppG [2,5] 3 c_Q0V_3))
def b_Q0V_t3:Dv.SS:=
 (sRetO 3)
def b_Q0V_t2:Dv.SS:=
 (sCons (sFor [] 4 (iRange (eVar 0)) b_Q0V_l1) b_Q0V_t3)
def b_Q0V_t1:Dv.SS:=
 (sCons (sSet 3 (eLst lNil)) b_Q0V_t2)
def b_Q0V:Dv.SS:=
 (sCons (sSetG [0,1] 2 c_Q0V_1) b_Q0V_t1)
def F_Q0V:List D->R:=Dv.fn 6 b_Q0V
def b_Q05_t1:Dv.SS:=
 (sRet (eCm .eq (eOp .mod (eVar 0) (eB1 Dv.lenD (eVar 1))) (eInt 0)))
def b_Q05:Dv.SS:=
 (sCons (sExpr (eCall F_Q02 (lCons (eVar 0) (lCons (eVar 1) lNil)))) b_Q05_t1)
def F_Q05:List D->R:=Dv.fn 2 b_Q05
def c_Q0L_1:Dv.EE:=(eComp (eOp .add (eOp .mul (eVar 0) (eVar 2)) (eVar 1)) (eBl true) [10,7] (iSeq (eVar 3)))
def c_Q0L_2:Dv.EE:=(eComp (eOp .mul (eVar 0) (eVar 1)) (eBl true) [7] (iSeq (eVar 4)))
def b_Q0L_l1:Dv.SS:=
 (sSet 9 (eOp .add (eVar 9) c_Q0L_1))
def b_Q0L_l2:Dv.SS:=
 (sCons (sSet 6 (eOp .mod (eOp .mul (eCall F_Q0E (lCons (eVar 0) (lCons (eOp .add (eVar 1) (eVar 5)) lNil))) (eInt 48271)) (eInt 2147483647))) (sCons (sSet 7 (eIx (eLst (lCons (eInt 2) (lCons (eInt 3) (lCons (eInt 2) (lCons (eInt 5) (lCons (eInt 2) (lCons (eInt 3) (lCons (eInt 7) lNil)))))))) (eOp .mod (eVar 6) (eInt 7)))) (sCons (sSet 8 (eOp .mod (eOp .fdiv (eVar 6) (eInt 7)) (eInt 4))) (sCons (sIf (eCm .le (eOp .mul (eVar 2) (eVar 7)) (eInt 12)) (sCons (sIf (eCm .lt (eVar 8) (eInt 2)) (sSet 3 (eCall F_Q09 (lCons (eVar 2) (lCons (eVar 3) (lCons (eVar 7) lNil))))) (sCons (sSet 9 (eLst lNil)) (sCons (sFor [] 10 (iRange (eVar 7)) b_Q0L_l1) (sCons (sSet 3 (eB1 Dv.sortedD (eVar 9))) (sSet 4 c_Q0L_2))))) (sSet 2 (eOp .mul (eVar 2) (eVar 7)))) sNil) (sIf (eCm .eq (eOp .mod (eOp .fdiv (eVar 6) (eInt 28)) (eInt 2)) (eInt 1)) (sPar [3,4] 3 4 (eVar 4) (eVar 3)) sNil)))))
def b_Q0L_t5:Dv.SS:=
 (sRet (eTup (lCons (eVar 2) (lCons (eVar 3) (lCons (eCall F_Q0O (lCons (eVar 2) (lCons (eVar 4) (lCons (eOp .mod (eCall F_Q0E (lCons (eVar 0) (lCons (eOp .add (eVar 1) (eInt 7)) lNil))) (eVar 2)) lNil)))) lNil)))))
def b_Q0L_t4:Dv.SS:=
 (sCons (sSet 3 (eCall F_Q0O (lCons (eVar 2) (lCons (eVar 3) (lCons (eOp .mod (eCall F_Q0E (lCons (eVar 0) (lCons (eOp .add (eVar 1) (eInt 6)) lNil))) (eVar 2)) lNil))))) b_Q0L_t5)
def b_Q0L_t3:Dv.SS:=
 (sCons (sFor [] 5 (iRange (eInt 6)) b_Q0L_l2) b_Q0L_t4)
def b_Q0L_t2:Dv.SS:=
 (sCons (sSet 4 (eLst (lCons (eInt 0) lNil))) b_Q0L_t3)
def b_Q0L_t1:Dv.SS:=
 (sCons (sSet 3 (eLst (lCons (eInt 0) lNil))) b_Q0L_t2)
def b_Q0L:Dv.SS:=
 (sCons (sSet 2 (eInt 1)) b_Q0L_t1)
def F_Q0L:List D->R:=Dv.fn 11 b_Q0L
def c_Q0A_1:Dv.EE:=(eComp (eOp .add (eVar 1) (eLst (lCons (eVar 0) lNil))) (eBl true) [5] (iRange2 (eOp .add (eIx (eVar 5) (eNeg (eInt 1))) (eInt 1)) (eVar 0)))
def c_Q0A_2:Dv.EE:=(eComp (eVar 0) (eCall F_Q0G (lCons (eVar 1) (lCons (eVar 2) (lCons (eVar 0) lNil)))) [0,1] (iSeq (eVar 2)))
def b_Q0A_l1:Dv.SS:=
 (sSetG [0,4,5] 4 (eOp .add (eVar 4) c_Q0A_1))
def b_Q0A_l2:Dv.SS:=
 (sCons (sSetG [] 4 (eLst lNil)) (sCons (sFor [2] 5 (iSeq (eVar 2)) b_Q0A_l1) (sSetG [4] 2 (eVar 4))))
def b_Q0A_t3:Dv.SS:=
 (sRet c_Q0A_2)
def b_Q0A_t2:Dv.SS:=
 (sCons (sFor [1] 3 (iRange (eOp .sub (eOp .fdiv (eVar 0) (eB1 Dv.lenD (eVar 1))) (eInt 1))) b_Q0A_l2) b_Q0A_t3)
def b_Q0A_t1:Dv.SS:=
 (sCons (sSetG [] 2 (eLst (lCons (eLst (lCons (eInt 0) lNil)) lNil))) b_Q0A_t2)
def b_Q0A:Dv.SS:=
 (sCons (sIf (eCm .ne (eOp .mod (eVar 0) (eB1 Dv.lenD (eVar 1))) (eInt 0)) (sRet (eLst lNil)) sNil) b_Q0A_t1)
def F_Q0A:List D->R:=Dv.fn 6 b_Q0A
def b_Q0D_t4:Dv.SS:=
 (sRet (eLst (lCons (eVar 1) (lCons (eVar 2) lNil))))
def b_Q0D_t3:Dv.SS:=
 (sCons (sIf (eCm .eq (eVar 4) (eInt 2)) (sCons (sSet 5 (eOp .mod (eOp .fdiv (eCall F_Q0E (lCons (eVar 0) (lCons (eInt 0) lNil))) (eInt 4)) (eVar 1))) (sIf (eCm .notin (eVar 5) (eVar 2)) (sSet 2 (eB1 Dv.sortedD (eOp .add (eSlice (eVar 2) (some (eInt 1)) none) (eLst (lCons (eVar 5) lNil))))) sNil)) sNil) b_Q0D_t4)
def b_Q0D_t2:Dv.SS:=
 (sCons (sIf (eCm .eq (eVar 4) (eInt 1)) (sCons (sSet 1 (eOp .add (eInt 1) (eOp .mod (eOp .fdiv (eCall F_Q0E (lCons (eVar 0) (lCons (eInt 0) lNil))) (eInt 4)) (eInt 10)))) (sSet 2 (eCall F_Q0N (lCons (eVar 0) (lCons (eInt 9) (lCons (eVar 1) lNil)))))) sNil) b_Q0D_t3)
def b_Q0D_t1:Dv.SS:=
 (sCons (sSet 4 (eOp .mod (eCall F_Q0E (lCons (eVar 0) (lCons (eInt 0) lNil))) (eInt 4))) b_Q0D_t2)
def b_Q0D:Dv.SS:=
 (sCons (sUnpack [0] [1,2,3] (eCall F_Q0L (lCons (eVar 0) (lCons (eInt 1) lNil)))) b_Q0D_t1)
def F_Q0D:List D->R:=Dv.fn 6 b_Q0D
def b_Q0M_l1:Dv.SS:=
 (sIf (eNot (eCall F_Q0B (lCons (eVar 2) (lCons (eVar 3) lNil)))) (sRet (eBl false)) sNil)
def b_Q0M_t2:Dv.SS:=
 (sRet (eBl true))
def b_Q0M_t1:Dv.SS:=
 (sCons (sForT [0,1] (Dv.tupTo [2,3]) (iZip (eVar 0) (eVar 1)) b_Q0M_l1) b_Q0M_t2)
def b_Q0M:Dv.SS:=
 (sCons (sIf (eOr (eNot (eB1 Dv.isListD (eVar 0))) (eCm .ne (eB1 Dv.lenD (eVar 0)) (eB1 Dv.lenD (eVar 1)))) (sRet (eBl false)) sNil) b_Q0M_t1)
def F_Q0M:List D->R:=Dv.fn 4 b_Q0M
def dt:Dv.EE:=(eComp (eVar 0) (eDnin (eVar 0) (eVar 1)) [2] (iRange (eB1 Dv.lenD (eFld "ways" (eVar 0)))))
def eS:Dv.EE:=(eComp (eVar 0) (eB2 Dv.dinD (eVar 0) (eVar 1)) [2] (iSeq (eIx (eVar 6) (eInt 1))))
def d9:Dv.EE:=(eCompT 2 (eVar 0) (eBl true) [] (iSeq (eFld "laid" (eVar 1))))
def kW:Dv.Wk:=⟨F_Q0T,(eB1 Dv.sortedD d9),(eB1 Dv.minLD dt),eS⟩
def nY:Dv.EE:=(eCall F_Q0V (lCons (eVar 0) (lCons (eVar 1) lNil)))
def nO:Dv.EE:=(eLst (lCons (eTup (lCons (eInt 0) (lCons (eVar 1) lNil))) lNil))
def b_Q00_t1:Dv.SS:=
 (sRet (eB1 Dv.sortedLD (eAllF kW (Dv.pwR nY nO) (lCons (eVar 0) (lCons (eVar 1) lNil)))))
def b_Q00:Dv.SS:=
 (sCons (sIf (eNot (eCall F_Q05 (lCons (eVar 0) (lCons (eVar 1) lNil)))) (sRet (eLst lNil)) sNil) b_Q00_t1)
def F_Q00:List D->R:=Dv.fn 2 b_Q00
def c_Q0J_1:Dv.EE:=(eComp (eCall F_Q0O (lCons (eVar 1) (lCons (eVar 2) (lCons (eVar 0) lNil)))) (eBl true) [0,3] (iRange (eVar 0)))
def b_Q0J_l1:Dv.SS:=
 (sCons (sSetG [0,3] 4 (eB1 Dv.minD c_Q0J_1)) (sIf (eB2 (Dv.inG true) (eVar 4) (eVar 2)) (sAppG [4] 2 (eVar 4)) sNil))
def b_Q0J_t2:Dv.SS:=
 (sRet (eB1 Dv.sortedLD (eVar 2)))
def b_Q0J_t1:Dv.SS:=
 (sCons (sFor [0,1] 3 (iSeq (eCall F_Q0A (lCons (eVar 0) (lCons (eVar 1) lNil)))) b_Q0J_l1) b_Q0J_t2)
def b_Q0J:Dv.SS:=
 (sCons (sSet 2 (eLst lNil)) b_Q0J_t1)
def F_Q0J:List D->R:=Dv.fn 5 b_Q0J
def c_Q0R_1:Dv.EE:=(eComp (eB1 Dv.tupleD (eCall F_Q06 (lCons (eVar 1) (lCons (eVar 0) lNil)))) (eBl true) [0] (iSeq (eCall F_Q00 (lCons (eVar 0) (lCons (eVar 1) lNil)))))
def c_Q0R_2:Dv.EE:=(eComp (eB1 Dv.listD (eVar 0)) (eBl true) [] (iSeq (eB1 Dv.sortSetTD (eVar 2))))
def b_Q0R_t1:Dv.SS:=
 (sRet c_Q0R_2)
def b_Q0R:Dv.SS:=
 (sCons (sSetG [0,1] 2 c_Q0R_1) b_Q0R_t1)
def F_Q0R:List D->R:=Dv.fn 3 b_Q0R
def b_Q0H_t7:Dv.SS:=
 (sRet (eAnd (eCall F_Q0M (lCons (eCall F_Q0R (lCons (eVar 1) (lCons (eVar 7) lNil))) (lCons (eVar 3) lNil))) (eCall F_Q0M (lCons (eCall F_Q0R (lCons (eVar 1) (lCons (eVar 4) lNil))) (lCons (eVar 3) lNil)))))
def b_Q0H_t6:Dv.SS:=
 (sCons (sSet 7 (eCall F_Q0O (lCons (eVar 1) (lCons (eVar 2) (lCons (eOp .mod (eOp .fdiv (eCall F_Q0E (lCons (eVar 0) (lCons (eInt 0) lNil))) (eInt 4)) (eVar 1)) lNil))))) b_Q0H_t7)
def b_Q0H_t5:Dv.SS:=
 (sCons (sKillRows 5 6) b_Q0H_t6)
def b_Q0H_t4:Dv.SS:=
 (sCons (sIf (eOr (eNot (eCall F_Q0M (lCons (eVar 5) (lCons (eVar 3) lNil)))) (eCm .ne (eVar 4) (eVar 2))) (sRet (eBl false)) sNil) b_Q0H_t5)
def b_Q0H_t3:Dv.SS:=
 (sCons (sSetD 5 (eCall F_Q0R (lCons (eVar 1) (lCons (eVar 4) lNil)))) b_Q0H_t4)
def b_Q0H_t2:Dv.SS:=
 (sCons (sSet 4 (eB1 Dv.listD (eVar 2))) b_Q0H_t3)
def b_Q0H_t1:Dv.SS:=
 (sCons (sSetG [1,2] 3 (eCall F_Q0J (lCons (eVar 1) (lCons (eVar 2) lNil)))) b_Q0H_t2)
def b_Q0H:Dv.SS:=
 (sCons (sUnpackL [0] [1,2] (eCall F_Q0D (lCons (eVar 0) lNil))) b_Q0H_t1)
def F_Q0H:List D->R:=Dv.fn 8 b_Q0H
end Cw
namespace Lk44
open PySem PySem.Spec PyProof.Rows L2 Sd Cw
open Dv (D R RL EE EL EI RI Sl Out SS)
def top (i:Nat):Stmt:=PySem.Challenge.pw_canonwheel_k44_partner_kinds.main.body.getD i (.Pass ⟨0,0,0,0⟩)
section
variable {P:Program}{w:World}{K:Er}{mg:Str->Option Value}{base:Heap}{ad:String->Option Addr}
abbrev s_Q04:Stmt:=top 7
theorem sc_check_wheel:FnScope ["length"] ["length"] (ae s_Q04):=by constructor<;>first|rfl|decide +kernel
theorem ok_Q04 {f:Addr}{fd:FuncData}(d:Df K mg "check_wheel" s_Q04 ["length"] f fd)(xa:XAll K mg ad){C_2:Addr}(h_1:ad "NoWheel"=some C_2){t_LONGEST:Tok}(n_LONGEST:mg "LONGEST"=some (.int 60 t_LONGEST)):
  FnOk P w K mg base (CXe P w) 1 f fd ["length"] (spD K (aJ ad) F_Q04 1):=by
 have nd:=sc_check_wheel.nd;refine Df.is cxe_ok ["length"] 0 b_Q04 d sc_check_wheel rfl rfl rfl λ cdv A outer s H E hr=>?_
 exact(av (bD (qN (ju (t4 (aa 0) ao) (fQ _ (xQ (aa 0) (zl rfl n_LONGEST))))) (ir (xa.cl _ _ h_1).1 (fD h_1) rfl) bh))
abbrev c7:=Fu "check_wheel" s_Q04 ["length"] 1 F_Q04 1
abbrev s_Q03:Stmt:=top 8
theorem sc_check_rising:FnScope ["numbers","end","before","number"] ["numbers","end"] (ae s_Q03):=by constructor<;>first|rfl|decide +kernel
theorem ok_Q03 {f:Addr}{fd:FuncData}(d:Df K mg "check_rising" s_Q03 ["numbers","end"] f fd)(xa:XAll K mg ad){C_1:Addr}(h_0:ad "NoBeat"=some C_1)(z_len:mg "len"=none):
  FnOk P w K mg base (CXe P w) 1 f fd ["numbers","end"] (spD K (aJ ad) F_Q03 2):=by
 have nd:=sc_check_rising.nd;refine Df.is cxe_ok ["numbers","end","before","number"] 0 b_Q03 d sc_check_rising rfl rfl rfl λ cdv A outer s H E hr=>?_
 exact(aj (bD (gN (ck z_len rfl (aa 0)) ao) (ir (xa.cl _ _ h_0).1 (fD h_0) rfl) bh) (aj (aG (i:=2) (mX ao) nd rfl (Or.inl rfl)) (av (cm [0] (i:=3) (aU (aa 0)) (aj (bD (qN (ju (xK (aa 3) (aa 2)) (fQ _ (AF (aa 3) (aa 1))))) (ir (xa.cl _ _ h_0).1 (fD h_0) rfl) bh) (av (cS [3] (i:=2) (aa 3) nd rfl (Or.inl rfl)))) nd rfl (Or.inl rfl)))))
abbrev dI:=Fu "check_rising" s_Q03 ["numbers","end"] 1 F_Q03 2
abbrev s_Q02:Stmt:=top 9
theorem sc_check_beat:FnScope ["length","beat"] ["length","beat"] (ae s_Q02):=by constructor<;>first|rfl|decide +kernel
theorem ok_Q02 {f:Addr}{fd:FuncData}(d:Df K mg "check_beat" s_Q02 ["length","beat"] f fd)(q_check_wheel:c7 P w K mg base ad)(q_check_rising:dI P w K mg base ad):
  FnOk P w K mg base (CXe P w) 2 f fd ["length","beat"] (spD K (aJ ad) F_Q02 2):=by
 have nd:=sc_check_beat.nd;refine Df.is cxe_ok ["length","beat"] 1 b_Q02 d sc_check_beat rfl rfl rfl λ cdv A outer s H E hr=>?_
 exact(aj (dj (aK q_check_wheel.d q_check_wheel.o hr (by decide) rfl (af (aa 0) aq))) (av (dj (aK q_check_rising.d q_check_rising.o hr (by decide) rfl (af (aa 1) (af (aa 0) aq))))))
abbrev bT:=Fu "check_beat" s_Q02 ["length","beat"] 2 F_Q02 2
abbrev s_Q0Q:Stmt:=top 10
theorem sc_made_beat:FnScope ["length","numbers","beat"] ["length","numbers"] (ae s_Q0Q):=by constructor<;>first|rfl|decide +kernel
theorem ok_Q0Q {f:Addr}{fd:FuncData}(d:Df K mg "made_beat" s_Q0Q ["length","numbers"] f fd)(q_check_wheel:c7 P w K mg base ad)(q_check_beat:bT P w K mg base ad)(z_sorted:mg "sorted"=none):
  FnOk P w K mg base (CXe P w) 3 f fd ["length","numbers"] (spD K (aJ ad) F_Q0Q 2):=by
 have nd:=sc_made_beat.nd;refine Df.is cxe_ok ["length","numbers","beat"] 2 b_Q0Q d sc_made_beat rfl rfl rfl λ cdv A outer s H E hr=>?_
 exact(aj (dj (aK q_check_wheel.d q_check_wheel.o hr (by decide) rfl (af (aa 0) aq))) (aj (aG (i:=2) (c9 z_sorted rfl (bI (fs:=["length"]) (is:=[0]) (fe:=(Dv.eOp .mod (Dv.eVar 0) (Dv.eVar 1))) (fc:=(Dv.eBl true)) (aI (fsc:=ae s_Q0Q) (N:=["length","numbers","beat"]) rfl rfl (by decide +kernel)) (aU (aa 1)) (λ cl L s₀ H₀ ex=>(aS (aa 0) (aa 1))) (λ cl L s₀ H₀ ex=>bO))) nd rfl (Or.inl rfl)) (aj (dj (aK q_check_beat.d q_check_beat.o hr (by decide) rfl (af (aa 0) (af (aa 2) aq)))) (av (fJ 2)))))
abbrev gI:=Fu "made_beat" s_Q0Q ["length","numbers"] 3 F_Q0Q 2
abbrev s_Q0U:Stmt:=top 12
theorem sc_turned:FnScope ["length","beat","by"] ["length","beat","by"] (ae s_Q0U):=by constructor<;>first|rfl|decide +kernel
theorem ok_Q0U {f:Addr}{fd:FuncData}(d:Df K mg "turned" s_Q0U ["length","beat","by"] f fd)(q_check_beat:bT P w K mg base ad)(q_made_beat:gI P w K mg base ad):
  FnOk P w K mg base (CXe P w) 4 f fd ["length","beat","by"] (spD K (aJ ad) F_Q0U 3):=by
 have nd:=sc_turned.nd;refine Df.is cxe_ok ["length","beat","by"] 3 b_Q0U d sc_turned rfl rfl rfl λ cdv A outer s H E hr=>?_
 exact(aj (dj (aK q_check_beat.d q_check_beat.o hr (by decide) rfl (af (aa 0) (af (aa 1) aq)))) (av (ba (aK q_made_beat.d q_made_beat.o hr (by decide) rfl (af (aa 0) (af (bI (fs:=["by"]) (is:=[2]) (fe:=(Dv.eOp .add (Dv.eVar 0) (Dv.eVar 1))) (fc:=(Dv.eBl true)) (aI (fsc:=ae s_Q0U) (N:=["length","beat","by"]) rfl rfl (by decide +kernel)) (aU (aa 1)) (λ cl L s₀ H₀ ex=>(bj (aa 0) (aa 1))) (λ cl L s₀ H₀ ex=>bO)) aq))))))
abbrev iw:=Fu "turned" s_Q0U ["length","beat","by"] 4 F_Q0U 3
abbrev s_Q06:Stmt:=top 13
theorem sc_first_turn:FnScope ["length","beat"] ["length","beat"] (ae s_Q06):=by constructor<;>first|rfl|decide +kernel
theorem ok_Q06 {f:Addr}{fd:FuncData}(d:Df K mg "first_turn" s_Q06 ["length","beat"] f fd)(q_check_beat:bT P w K mg base ad)(q_turned:iw P w K mg base ad)(z_min:mg "min"=none)(z_range:mg "range"=none):
  FnOk P w K mg base (CXe P w) 5 f fd ["length","beat"] (spD K (aJ ad) F_Q06 2):=by
 have nd:=sc_first_turn.nd;refine Df.is cxe_ok ["length","beat"] 4 b_Q06 d sc_first_turn rfl rfl rfl λ cdv A outer s H E hr=>?_
 exact(aj (dj (aK q_check_beat.d q_check_beat.o hr (by decide) rfl (af (aa 0) (af (aa 1) aq)))) (av (ba (qf hr.units z_min rfl (bI (fs:=["length","beat"]) (is:=[0,1]) (fe:=(Dv.eCall F_Q0U (Dv.lCons (Dv.eVar 1) (Dv.lCons (Dv.eVar 2) (Dv.lCons (Dv.eVar 0) Dv.lNil))))) (fc:=(Dv.eBl true)) (aI (fsc:=ae s_Q06) (N:=["length","beat"]) rfl rfl (by decide +kernel)) (bK rfl z_range (aa 0)) (λ cl L s₀ H₀ ex=>(aK q_turned.d q_turned.o hr (by decide) rfl (af (aa 1) (af (aa 2) (af (aa 0) aq))))) (λ cl L s₀ H₀ ex=>bO))))))
abbrev fg:=Fu "first_turn" s_Q06 ["length","beat"] 5 F_Q06 2
abbrev s_Q0T:Stmt:=top 18
theorem sc_places_filled:FnScope ["laid","filled","start","places","place"] ["laid"] (ae s_Q0T):=by constructor<;>first|rfl|decide +kernel
theorem ok_Q0T {f:Addr}{fd:FuncData}(d:Df K mg "places_filled" s_Q0T ["laid"] f fd):
  FnOk P w K mg base (CXe P w) 1 f fd ["laid"] (spD K (aJ ad) F_Q0T 1):=by
 have nd:=sc_places_filled.nd;refine Df.is cxe_ok ["laid","filled","start","places","place"] 0 b_Q0T d sc_places_filled rfl rfl rfl λ cdv A outer s H E hr=>?_
 exact(aj (aG (i:=1) uc nd rfl (Or.inl rfl)) (aj (g9 [0] (aU (aa 0)) (nq (xs:=[2,3]) (bW (i:=2) (bW (i:=3) iH nd rfl (Or.inl rfl)) nd rfl (Or.inl rfl)) rfl) (av (cm [3] (i:=4) (aU (aa 3)) (av (vQ [] (i:=1) gC (aa 4))) nd rfl (Or.inl rfl)))) (av (fJ 1))))
abbrev dD:=Fu "places_filled" s_Q0T ["laid"] 1 F_Q0T 1
abbrev s_Q0V:Stmt:=top 19
theorem sc_ways_of:FnScope ["length","beat","falls","ways","place","starts"] ["length","beat"] (ae s_Q0V):=by constructor<;>first|rfl|decide +kernel
theorem ok_Q0V {f:Addr}{fd:FuncData}(d:Df K mg "ways_of" s_Q0V ["length","beat"] f fd)(q_turned:iw P w K mg base ad)(z_range:mg "range"=none):
  FnOk P w K mg base (CXe P w) 5 f fd ["length","beat"] (spD K (aJ ad) F_Q0V 2):=by
 have nd:=sc_ways_of.nd;refine Df.is cxe_ok ["length","beat","falls","ways","place","starts"] 4 b_Q0V d sc_ways_of rfl rfl rfl λ cdv A outer s H E hr=>?_
 exact(aj (cS [0,1] (i:=2) (bI (fs:=["length","beat"]) (is:=[0,1]) (fe:=(Dv.eCall F_Q0U (Dv.lCons (Dv.eVar 1) (Dv.lCons (Dv.eVar 2) (Dv.lCons (Dv.eVar 0) Dv.lNil))))) (fc:=(Dv.eBl true)) (aI (fsc:=ae s_Q0V) (N:=["length","beat","falls","ways","place","starts"]) rfl rfl (by decide +kernel)) (bK rfl z_range (aa 0)) (λ cl L s₀ H₀ ex=>(aK q_turned.d q_turned.o hr (by decide) rfl (af (aa 1) (af (aa 2) (af (aa 0) aq))))) (λ cl L s₀ H₀ ex=>bO)) nd rfl (Or.inr rfl)) (aj (aG (i:=3) (bq aq) nd rfl (Or.inl rfl)) (aj (cm [] (i:=4) (bK rfl z_range (aa 0)) (aj (iW (i:=5) (fs:=["length","place"]) (is:=[0,4]) (fe:=(Dv.eOp .mod (Dv.eOp .sub (Dv.eVar 2) (Dv.eVar 0)) (Dv.eVar 1))) (fc:=(Dv.eBl true)) (aI (fsc:=ae s_Q0V) (N:=["length","beat","falls","ways","place","starts"]) rfl rfl (by decide +kernel)) (aU (aa 1)) (λ cl L s₀ H₀ ex=>(aS (uK (aa 2) (aa 0)) (aa 1))) (λ cl L s₀ H₀ ex=>bO) nd rfl rfl) (av (pE [2,5] (i:=3) (bI (fs:=["falls"]) (is:=[2]) (fe:=(Dv.eTup (Dv.lCons (Dv.eVar 0) (Dv.lCons (Dv.eIx (Dv.eVar 1) (Dv.eVar 0)) Dv.lNil)))) (fc:=(Dv.eBl true)) (aI (fsc:=ae s_Q0V) (N:=["length","beat","falls","ways","place","starts"]) rfl rfl (by decide +kernel)) (aU (aa 5)) (λ cl L s₀ H₀ ex=>(nV (af (aa 0) (af (iu (aa 1) (aa 0)) aq)))) (λ cl L s₀ H₀ ex=>bO))))) nd rfl (Or.inr rfl)) (av (fJ 3)))))
abbrev jV:=Fu "ways_of" s_Q0V ["length","beat"] 5 F_Q0V 2
abbrev s_Q05:Stmt:=top 22
theorem sc_count_divides:FnScope ["length","beat"] ["length","beat"] (ae s_Q05):=by constructor<;>first|rfl|decide +kernel
theorem ok_Q05 {f:Addr}{fd:FuncData}(d:Df K mg "count_divides" s_Q05 ["length","beat"] f fd)(q_check_beat:bT P w K mg base ad)(z_len:mg "len"=none):
  FnOk P w K mg base (CXe P w) 3 f fd ["length","beat"] (spD K (aJ ad) F_Q05 2):=by
 have nd:=sc_count_divides.nd;refine Df.is cxe_ok ["length","beat"] 2 b_Q05 d sc_count_divides rfl rfl rfl λ cdv A outer s H E hr=>?_
 exact(aj (dj (aK q_check_beat.d q_check_beat.o hr (by decide) rfl (af (aa 0) (af (aa 1) aq)))) (av (ba (xy (aS (aa 0) (ck z_len rfl (aa 1))) ao))))
abbrev dB:=Fu "count_divides" s_Q05 ["length","beat"] 3 F_Q05 2
abbrev s_Q0E:Stmt:=top 27
theorem sc_law_cell:FnScope ["_law_script","_law_k","_law_number"] ["_law_script","_law_k"] (ae s_Q0E):=by constructor<;>first|rfl|decide +kernel
theorem ok_Q0E {f:Addr}{fd:FuncData}(d:Df K mg "_law_cell" s_Q0E ["_law_script","_law_k"] f fd)(z_len:mg "len"=none):
  FnOk P w K mg base (CXe P w) 1 f fd ["_law_script","_law_k"] (spD K (aJ ad) F_Q0E 2):=by
 have nd:=sc_law_cell.nd;refine Df.is cxe_ok ["_law_script","_law_k","_law_number"] 0 b_Q0E d sc_law_cell rfl rfl rfl λ cdv A outer s H E hr=>?_
 exact(aj (bD (t4 (aa 1) (ck z_len rfl (aa 0))) (av (ba (iu (aa 0) (aa 1)))) bh) (aj (aG (i:=2) (bj (bV ao (aa 1)) ao) nd rfl (Or.inl rfl)) (aj (bD (xQ (ck z_len rfl (aa 0)) ao) (av (aG (i:=2) (aS (bj (bV (iu (aa 0) (aS (aa 1) (ck z_len rfl (aa 0)))) ao) (bV (aa 1) ao)) ao) nd rfl (Or.inl rfl))) bh) (av (ba (aS (bV (aa 2) (aa 2)) ao))))))
abbrev cO:=Fu "_law_cell" s_Q0E ["_law_script","_law_k"] 1 F_Q0E 2
abbrev s_Q0P:Stmt:=top 28
theorem sc_law_whole:FnScope ["_law_found"] ["_law_found"] (ae s_Q0P):=by constructor<;>first|rfl|decide +kernel
theorem ok_Q0P {f:Addr}{fd:FuncData}(d:Df K mg "_law_whole" s_Q0P ["_law_found"] f fd)(z_isinstance:mg "isinstance"=none)(z_int:mg "int"=none)(z_bool:mg "bool"=none):
  FnOk P w K mg base (CXe P w) 1 f fd ["_law_found"] (spD K (aJ ad) F_Q0P 1):=by
 have nd:=sc_law_whole.nd;refine Df.is cxe_ok ["_law_found"] 0 b_Q0P d sc_law_whole rfl rfl rfl λ cdv A outer s H E hr=>?_
 exact(av (ba (uN (sR z_isinstance z_int rfl rfl (aa 0)) (uh (yo (rX z_isinstance z_bool rfl rfl (aa 0)))))))
abbrev gF:=Fu "_law_whole" s_Q0P ["_law_found"] 1 F_Q0P 1
abbrev s_Q0B:Stmt:=top 29
theorem sc_law_beat_is:FnScope ["_law_found","_law_due","_law_one","_law_other"] ["_law_found","_law_due"] (ae s_Q0B):=by constructor<;>first|rfl|decide +kernel
theorem ok_Q0B {f:Addr}{fd:FuncData}(d:Df K mg "_law_beat_is" s_Q0B ["_law_found","_law_due"] f fd)(q_law_whole:gF P w K mg base ad)(z_isinstance:mg "isinstance"=none)(z_list:mg "list"=none)(z_len:mg "len"=none)(z_zip:mg "zip"=none):
  FnOk P w K mg base (CXe P w) 2 f fd ["_law_found","_law_due"] (spD K (aJ ad) F_Q0B 2):=by
 have nd:=sc_law_beat_is.nd;refine Df.is cxe_ok ["_law_found","_law_due","_law_one","_law_other"] 1 b_Q0B d sc_law_beat_is rfl rfl rfl λ cdv A outer s H E hr=>?_
 exact(aj (bD (qN (ju (f7 (eP (jQ z_isinstance z_list rfl rfl (aa 0)))) (fQ _ (lB (ck z_len rfl (aa 0)) (ck z_len rfl (aa 1)))))) (av (ba gC)) bh) (aj (g9 [0,1] (sV rfl z_zip (aa 0) (aa 1)) (nq (xs:=[2,3]) (bW (i:=2) (bW (i:=3) iH nd rfl (Or.inl rfl)) nd rfl (Or.inl rfl)) rfl) (av (bD (qN (ju (f7 (eP (aK q_law_whole.d q_law_whole.o hr (by decide) rfl (af (aa 2) aq)))) (fQ _ (lB (aa 2) (aa 3))))) (av (ba gC)) bh))) (av (ba gC))))
abbrev eI:=Fu "_law_beat_is" s_Q0B ["_law_found","_law_due"] 2 F_Q0B 2
abbrev s_Q0N:Stmt:=top 30
theorem sc_law_some:FnScope ["_law_script","_law_start","_law_length","_law_bits","_law_share","_law_found","_law_place","_law_bit"] ["_law_script","_law_start","_law_length"] (ae s_Q0N):=by constructor<;>first|rfl|decide +kernel
theorem ok_Q0N {f:Addr}{fd:FuncData}(d:Df K mg "_law_some" s_Q0N ["_law_script","_law_start","_law_length"] f fd)(q_law_cell:cO P w K mg base ad)(z_range:mg "range"=none)(z_max:mg "max"=none):
  FnOk P w K mg base (CXe P w) 2 f fd ["_law_script","_law_start","_law_length"] (spD K (aJ ad) F_Q0N 3):=by
 have nd:=sc_law_some.nd;refine Df.is cxe_ok ["_law_script","_law_start","_law_length","_law_bits","_law_share","_law_found","_law_place","_law_bit"] 1 b_Q0N d sc_law_some rfl rfl rfl λ cdv A outer s H E hr=>?_
 exact(aj (aG (i:=3) (aS (bV (aK q_law_cell.d q_law_cell.o hr (by decide) rfl (af (aa 0) (af (aa 1) aq))) ao) ao) nd rfl (Or.inl rfl)) (aj (aG (i:=4) (aS (aK q_law_cell.d q_law_cell.o hr (by decide) rfl (af (aa 0) (af (bj (aa 1) ao) aq))) ao) nd rfl (Or.inl rfl)) (aj (aG (i:=5) (bq aq) nd rfl (Or.inl rfl)) (aj (cm [] (i:=6) (bK rfl z_range (aa 2)) (aj (aG (i:=7) (aS (nX (aa 3) (aa 6)) ao) nd rfl (Or.inl rfl)) (aj (bD (gN (aa 4) ao) (av (aG (i:=7) (bV (aa 7) (aS (nX (aa 3) (aS (bj (aa 6) ao) ao)) ao)) nd rfl (Or.inl rfl))) bh) (aj (bD (gN (aa 4) ao) (av (aG (i:=7) (wq z_max rfl (aa 7) (aS (nX (aa 3) (aS (bj (aa 6) ao) ao)) ao)) nd rfl (Or.inl rfl))) bh) (av (bD (gN (aa 7) ao) (av (tY (i:=5) (aa 6))) bh))))) nd rfl (Or.inl rfl)) (aj (bD (gN (aa 5) (bq aq)) (av (tY (i:=5) (aS (dv (aK q_law_cell.d q_law_cell.o hr (by decide) rfl (af (aa 0) (af (bj (aa 1) ao) aq))) ao) (aa 2)))) bh) (av (fJ 5)))))))
abbrev ik:=Fu "_law_some" s_Q0N ["_law_script","_law_start","_law_length"] 2 F_Q0N 3
abbrev s_Q0O:Stmt:=top 31
theorem sc_law_turned:FnScope ["_law_length","_law_beat","_law_by"] ["_law_length","_law_beat","_law_by"] (ae s_Q0O):=by constructor<;>first|rfl|decide +kernel
theorem ok_Q0O {f:Addr}{fd:FuncData}(d:Df K mg "_law_turned" s_Q0O ["_law_length","_law_beat","_law_by"] f fd)(z_sorted:mg "sorted"=none):
  FnOk P w K mg base (CXe P w) 1 f fd ["_law_length","_law_beat","_law_by"] (spD K (aJ ad) F_Q0O 3):=by
 have nd:=sc_law_turned.nd;refine Df.is cxe_ok ["_law_length","_law_beat","_law_by"] 0 b_Q0O d sc_law_turned rfl rfl rfl λ cdv A outer s H E hr=>?_
 exact(av (ba (c9 z_sorted rfl (bI (fs:=["_law_length","_law_by"]) (is:=[0,2]) (fe:=(Dv.eOp .mod (Dv.eOp .add (Dv.eVar 0) (Dv.eVar 2)) (Dv.eVar 1))) (fc:=(Dv.eBl true)) (aI (fsc:=ae s_Q0O) (N:=["_law_length","_law_beat","_law_by"]) rfl rfl (by decide +kernel)) (aU (aa 1)) (λ cl L s₀ H₀ ex=>(aS (bj (aa 0) (aa 2)) (aa 1))) (λ cl L s₀ H₀ ex=>bO)))))
abbrev cz:=Fu "_law_turned" s_Q0O ["_law_length","_law_beat","_law_by"] 1 F_Q0O 3
abbrev s_Q09:Stmt:=top 32
theorem sc_law_again:FnScope ["_law_length","_law_beat","_law_times","_law_found","_law_k"] ["_law_length","_law_beat","_law_times"] (ae s_Q09):=by constructor<;>first|rfl|decide +kernel
theorem ok_Q09 {f:Addr}{fd:FuncData}(d:Df K mg "_law_again" s_Q09 ["_law_length","_law_beat","_law_times"] f fd)(z_range:mg "range"=none):
  FnOk P w K mg base (CXe P w) 1 f fd ["_law_length","_law_beat","_law_times"] (spD K (aJ ad) F_Q09 3):=by
 have nd:=sc_law_again.nd;refine Df.is cxe_ok ["_law_length","_law_beat","_law_times","_law_found","_law_k"] 0 b_Q09 d sc_law_again rfl rfl rfl λ cdv A outer s H E hr=>?_
 exact(aj (aG (i:=3) (bq aq) nd rfl (Or.inl rfl)) (aj (cm [] (i:=4) (bK rfl z_range (aa 2)) (av (aG (i:=3) (bj (aa 3) (bI (fs:=["_law_k","_law_length"]) (is:=[4,0]) (fe:=(Dv.eOp .add (Dv.eVar 0) (Dv.eOp .mul (Dv.eVar 1) (Dv.eVar 2)))) (fc:=(Dv.eBl true)) (aI (fsc:=ae s_Q09) (N:=["_law_length","_law_beat","_law_times","_law_found","_law_k"]) rfl rfl (by decide +kernel)) (aU (aa 1)) (λ cl L s₀ H₀ ex=>(bj (aa 0) (bV (aa 1) (aa 2)))) (λ cl L s₀ H₀ ex=>bO))) nd rfl (Or.inl rfl))) nd rfl (Or.inr rfl)) (av (fJ 3))))
abbrev gD:=Fu "_law_again" s_Q09 ["_law_length","_law_beat","_law_times"] 1 F_Q09 3
abbrev s_Q0K:Stmt:=top 33
theorem sc_law_pair:FnScope ["_law_script","_law_start","_law_length","_law_one","_law_other","_law_k","_law_number","_law_times","_law_kind","_law_more","_law_j"] ["_law_script","_law_start"] (ae s_Q0K):=by constructor<;>first|rfl|decide +kernel
theorem ok_Q0K {f:Addr}{fd:FuncData}(d:Df K mg "_law_pair" s_Q0K ["_law_script","_law_start"] f fd)(q_law_cell:cO P w K mg base ad)(q_law_again:gD P w K mg base ad)(q_law_turned:cz P w K mg base ad)(z_range:mg "range"=none)(z_sorted:mg "sorted"=none):
  FnOk P w K mg base (CXe P w) 2 f fd ["_law_script","_law_start"] (spD K (aJ ad) F_Q0L 2):=by
 have nd:=sc_law_pair.nd;refine Df.is cxe_ok ["_law_script","_law_start","_law_length","_law_one","_law_other","_law_k","_law_number","_law_times","_law_kind","_law_more","_law_j"] 1 b_Q0L d sc_law_pair rfl rfl rfl λ cdv A outer s H E hr=>?_
 exact(aj (aG (i:=2) ao nd rfl (Or.inl rfl)) (aj (aG (i:=3) (bq (af ao aq)) nd rfl (Or.inl rfl)) (aj (aG (i:=4) (bq (af ao aq)) nd rfl (Or.inl rfl)) (aj (cm [] (i:=5) (bK rfl z_range ao) (aj (aG (i:=6) (aS (bV (aK q_law_cell.d q_law_cell.o hr (by decide) rfl (af (aa 0) (af (bj (aa 1) (aa 5)) aq))) ao) ao) nd rfl (Or.inl rfl)) (aj (aG (i:=7) (iu (bq (af ao (af ao (af ao (af ao (af ao (af ao (af ao aq)))))))) (aS (aa 6) ao)) nd rfl (Or.inr rfl)) (aj (aG (i:=8) (aS (dv (aa 6) ao) ao) nd rfl (Or.inl rfl)) (aj (bD (xK (bV (aa 2) (aa 7)) ao) (aj (bD (t4 (aa 8) ao) (av (aG (i:=3) (aK q_law_again.d q_law_again.o hr (by decide) rfl (af (aa 2) (af (aa 3) (af (aa 7) aq)))) nd rfl (Or.inl rfl))) (aj (aG (i:=9) (bq aq) nd rfl (Or.inl rfl)) (aj (cm [] (i:=10) (bK rfl z_range (aa 7)) (av (aG (i:=9) (bj (aa 9) (bI (fs:=["_law_j","_law_times"]) (is:=[10,7]) (fe:=(Dv.eOp .add (Dv.eOp .mul (Dv.eVar 0) (Dv.eVar 2)) (Dv.eVar 1))) (fc:=(Dv.eBl true)) (aI (fsc:=ae s_Q0K) (N:=["_law_script","_law_start","_law_length","_law_one","_law_other","_law_k","_law_number","_law_times","_law_kind","_law_more","_law_j"]) rfl rfl (by decide +kernel)) (aU (aa 3)) (λ cl L s₀ H₀ ex=>(bj (bV (aa 0) (aa 2)) (aa 1))) (λ cl L s₀ H₀ ex=>bO))) nd rfl (Or.inl rfl))) nd rfl (Or.inr rfl)) (aj (aG (i:=3) (c9 z_sorted rfl (aa 9)) nd rfl (Or.inl rfl)) (av (iW (i:=4) (fs:=["_law_times"]) (is:=[7]) (fe:=(Dv.eOp .mul (Dv.eVar 0) (Dv.eVar 1))) (fc:=(Dv.eBl true)) (aI (fsc:=ae s_Q0K) (N:=["_law_script","_law_start","_law_length","_law_one","_law_other","_law_k","_law_number","_law_times","_law_kind","_law_more","_law_j"]) rfl rfl (by decide +kernel)) (aU (aa 4)) (λ cl L s₀ H₀ ex=>(bV (aa 0) (aa 1))) (λ cl L s₀ H₀ ex=>bO) nd rfl rfl)))))) (av (aG (i:=2) (bV (aa 2) (aa 7)) nd rfl (Or.inl rfl)))) bh) (av (bD (gN (aS (dv (aa 6) ao) ao) ao) (av (yX [3,4] (i:=3) (j:=4) (aa 4) (aa 3) nd rfl rfl (by decide) rfl rfl)) bh)))))) nd rfl (Or.inl rfl)) (aj (aG (i:=3) (aK q_law_turned.d q_law_turned.o hr (by decide) rfl (af (aa 2) (af (aa 3) (af (aS (aK q_law_cell.d q_law_cell.o hr (by decide) rfl (af (aa 0) (af (bj (aa 1) ao) aq))) (aa 2)) aq)))) nd rfl (Or.inl rfl)) (av (ba (nV (af (aa 2) (af (aa 3) (af (aK q_law_turned.d q_law_turned.o hr (by decide) rfl (af (aa 2) (af (aa 4) (af (aS (aK q_law_cell.d q_law_cell.o hr (by decide) rfl (af (aa 0) (af (bj (aa 1) ao) aq))) (aa 2)) aq)))) aq)))))))))))
abbrev i4:=Fu "_law_pair" s_Q0K ["_law_script","_law_start"] 2 F_Q0L 2
abbrev s_Q0G:Stmt:=top 34
theorem sc_law_fills:FnScope ["_law_length","_law_beat","_law_starts","_law_counts","_law_start","_law_place","_law_at"] ["_law_length","_law_beat","_law_starts"] (ae s_Q0G):=by constructor<;>first|rfl|decide +kernel
theorem ok_Q0G {f:Addr}{fd:FuncData}(d:Df K mg "_law_fills" s_Q0G ["_law_length","_law_beat","_law_starts"] f fd):
  FnOk P w K mg base (CXe P w) 1 f fd ["_law_length","_law_beat","_law_starts"] (spD K (aJ ad) F_Q0G 3):=by
 have nd:=sc_law_fills.nd;refine Df.is cxe_ok ["_law_length","_law_beat","_law_starts","_law_counts","_law_start","_law_place","_law_at"] 0 b_Q0G d sc_law_fills rfl rfl rfl λ cdv A outer s H E hr=>?_
 exact(aj (aG (i:=3) (bV (bq (af ao aq)) (aa 0)) nd rfl (Or.inl rfl)) (aj (cm [2] (i:=4) (aU (aa 2)) (av (cm [1] (i:=5) (aU (aa 1)) (aj (aG (i:=6) (aS (bj (aa 4) (aa 5)) (aa 0)) nd rfl (Or.inl rfl)) (av (yj (i:=3) (bj (iu (aa 3) (aa 6)) ao) (aa 6)))) nd rfl (Or.inl rfl))) nd rfl (Or.inl rfl)) (av (ba (xy (aa 3) (bV (bq (af ao aq)) (aa 0)))))))
abbrev gA:=Fu "_law_fills" s_Q0G ["_law_length","_law_beat","_law_starts"] 1 F_Q0G 3
abbrev s_Q0A:Stmt:=top 35
theorem sc_law_all:FnScope ["_law_length","_law_beat","_law_rows_here","_law_k","_law_longer","_law_row"] ["_law_length","_law_beat"] (ae s_Q0A):=by constructor<;>first|rfl|decide +kernel
theorem ok_Q0A {f:Addr}{fd:FuncData}(d:Df K mg "_law_all" s_Q0A ["_law_length","_law_beat"] f fd)(q_law_fills:gA P w K mg base ad)(z_len:mg "len"=none)(z_range:mg "range"=none):
  FnOk P w K mg base (CXe P w) 2 f fd ["_law_length","_law_beat"] (spD K (aJ ad) F_Q0A 2):=by
 have nd:=sc_law_all.nd;refine Df.is cxe_ok ["_law_length","_law_beat","_law_rows_here","_law_k","_law_longer","_law_row"] 1 b_Q0A d sc_law_all rfl rfl rfl λ cdv A outer s H E hr=>?_
 exact(aj (bD (lB (aS (aa 0) (ck z_len rfl (aa 1))) ao) (av (ba (bq aq))) bh) (aj (cS [] (i:=2) (bq (af (bq (af ao aq)) aq)) nd rfl (Or.inl rfl)) (aj (cm [1] (i:=3) (bK rfl z_range (uK (dv (aa 0) (ck z_len rfl (aa 1))) ao)) (aj (cS [] (i:=4) (bq aq) nd rfl (Or.inl rfl)) (aj (cm [2] (i:=5) (aU (aa 2)) (av (cS [0,4,5] (i:=4) (bj (aa 4) (bI (fs:=["_law_row"]) (is:=[5]) (fe:=(Dv.eOp .add (Dv.eVar 1) (Dv.eLst (Dv.lCons (Dv.eVar 0) Dv.lNil)))) (fc:=(Dv.eBl true)) (aI (fsc:=ae s_Q0A) (N:=["_law_length","_law_beat","_law_rows_here","_law_k","_law_longer","_law_row"]) rfl rfl (by decide +kernel)) (sd rfl z_range (bj (iu (aa 5) (mX ao)) ao) (aa 0)) (λ cl L s₀ H₀ ex=>(bj (aa 1) (bq (af (aa 0) aq)))) (λ cl L s₀ H₀ ex=>bO))) nd rfl (Or.inl rfl))) nd rfl (Or.inr rfl)) (av (cS [4] (i:=2) (aa 4) nd rfl (Or.inl rfl))))) nd rfl (Or.inl rfl)) (av (ba (bI (fs:=["_law_length","_law_beat"]) (is:=[0,1]) (fe:=(Dv.eVar 0)) (fc:=(Dv.eCall F_Q0G (Dv.lCons (Dv.eVar 1) (Dv.lCons (Dv.eVar 2) (Dv.lCons (Dv.eVar 0) Dv.lNil))))) (aI (fsc:=ae s_Q0A) (N:=["_law_length","_law_beat","_law_rows_here","_law_k","_law_longer","_law_row"]) rfl rfl (by decide +kernel)) (aU (aa 2)) (λ cl L s₀ H₀ ex=>(aa 0)) (λ cl L s₀ H₀ ex=>(nC (eP (aK q_law_fills.d q_law_fills.o hr (by decide) rfl (af (aa 1) (af (aa 2) (af (aa 0) aq)))))))))))))
abbrev jg:=Fu "_law_all" s_Q0A ["_law_length","_law_beat"] 2 F_Q0A 2
abbrev s_Q0C:Stmt:=top 36
theorem sc_law_case:FnScope ["_law_script","_law_length","_law_beat","_law_starts","_law_kind","_law_place"] ["_law_script"] (ae s_Q0C):=by constructor<;>first|rfl|decide +kernel
theorem ok_Q0C {f:Addr}{fd:FuncData}(d:Df K mg "_law_case" s_Q0C ["_law_script"] f fd)(q_law_pair:i4 P w K mg base ad)(q_law_cell:cO P w K mg base ad)(q_law_some:ik P w K mg base ad)(z_sorted:mg "sorted"=none):
  FnOk P w K mg base (CXe P w) 3 f fd ["_law_script"] (spD K (aJ ad) F_Q0D 1):=by
 have nd:=sc_law_case.nd;refine Df.is cxe_ok ["_law_script","_law_length","_law_beat","_law_starts","_law_kind","_law_place"] 2 b_Q0D d sc_law_case rfl rfl rfl λ cdv A outer s H E hr=>?_
 exact(aj (qZ [0] (xs:=[1,2,3]) (aK q_law_pair.d q_law_pair.o hr (by decide) rfl (af (aa 0) (af ao aq))) (bW (i:=1) (bW (i:=2) (bW (i:=3) iH nd rfl (Or.inl rfl)) nd rfl (Or.inl rfl)) nd rfl (Or.inl rfl)) rfl) (aj (aG (i:=4) (aS (aK q_law_cell.d q_law_cell.o hr (by decide) rfl (af (aa 0) (af ao aq))) ao) nd rfl (Or.inl rfl)) (aj (bD (gN (aa 4) ao) (aj (aG (i:=1) (bj ao (aS (dv (aK q_law_cell.d q_law_cell.o hr (by decide) rfl (af (aa 0) (af ao aq))) ao) ao)) nd rfl (Or.inl rfl)) (av (aG (i:=2) (aK q_law_some.d q_law_some.o hr (by decide) rfl (af (aa 0) (af ao (af (aa 1) aq)))) nd rfl (Or.inl rfl)))) bh) (aj (bD (gN (aa 4) ao) (aj (aG (i:=5) (aS (dv (aK q_law_cell.d q_law_cell.o hr (by decide) rfl (af (aa 0) (af ao aq))) ao) (aa 1)) nd rfl (Or.inl rfl)) (av (bD (tW (aa 5) (aa 2)) (av (aG (i:=2) (c9 z_sorted rfl (bj (uT (aa 2) (vo ao) wK) (bq (af (aa 5) aq)))) nd rfl (Or.inl rfl))) bh))) bh) (av (ba (bq (af (aa 1) (af (aa 2) aq)))))))))
abbrev iO:=Fu "_law_case" s_Q0C ["_law_script"] 3 F_Q0D 1
abbrev s_Q0M:Stmt:=top 37
theorem sc_law_rows:FnScope ["_law_found","_law_due","_law_row","_law_other"] ["_law_found","_law_due"] (ae s_Q0M):=by constructor<;>first|rfl|decide +kernel
theorem ok_Q0M {f:Addr}{fd:FuncData}(d:Df K mg "_law_rows" s_Q0M ["_law_found","_law_due"] f fd)(q_law_beat_is:eI P w K mg base ad)(z_isinstance:mg "isinstance"=none)(z_list:mg "list"=none)(z_len:mg "len"=none)(z_zip:mg "zip"=none):
  FnOk P w K mg base (CXe P w) 3 f fd ["_law_found","_law_due"] (spD K (aJ ad) F_Q0M 2):=by
 have nd:=sc_law_rows.nd;refine Df.is cxe_ok ["_law_found","_law_due","_law_row","_law_other"] 2 b_Q0M d sc_law_rows rfl rfl rfl λ cdv A outer s H E hr=>?_
 exact(aj (bD (qN (ju (f7 (eP (jQ z_isinstance z_list rfl rfl (aa 0)))) (fQ _ (lB (ck z_len rfl (aa 0)) (ck z_len rfl (aa 1)))))) (av (ba gC)) bh) (aj (g9 [0,1] (sV rfl z_zip (aa 0) (aa 1)) (nq (xs:=[2,3]) (bW (i:=2) (bW (i:=3) iH nd rfl (Or.inl rfl)) nd rfl (Or.inl rfl)) rfl) (av (bD (f7 (eP (aK q_law_beat_is.d q_law_beat_is.o hr (by decide) rfl (af (aa 2) (af (aa 3) aq))))) (av (ba gC)) bh))) (av (ba gC))))
abbrev iP:=Fu "_law_rows" s_Q0M ["_law_found","_law_due"] 3 F_Q0M 2
abbrev s_Q0I:Stmt:=top 38
theorem sc_law_kinds:FnScope ["_law_length","_law_beat","_law_found","_law_row","_law_least"] ["_law_length","_law_beat"] (ae s_Q0I):=by constructor<;>first|rfl|decide +kernel
theorem ok_Q0I {f:Addr}{fd:FuncData}(d:Df K mg "_law_kinds" s_Q0I ["_law_length","_law_beat"] f fd)(q_law_all:jg P w K mg base ad)(q_law_turned:cz P w K mg base ad)(z_min:mg "min"=none)(z_range:mg "range"=none)(z_sorted:mg "sorted"=none):
  FnOk P w K mg base (CXe P w) 3 f fd ["_law_length","_law_beat"] (spD K (aJ ad) F_Q0J 2):=by
 have nd:=sc_law_kinds.nd;refine Df.is cxe_ok ["_law_length","_law_beat","_law_found","_law_row","_law_least"] 2 b_Q0J d sc_law_kinds rfl rfl rfl λ cdv A outer s H E hr=>?_
 exact(aj (aG (i:=2) (bq aq) nd rfl (Or.inl rfl)) (aj (cm [0,1] (i:=3) (aU (aK q_law_all.d q_law_all.o hr (by decide) rfl (af (aa 0) (af (aa 1) aq)))) (aj (cS [0,3] (i:=4) (qf hr.units z_min rfl (bI (fs:=["_law_length","_law_row"]) (is:=[0,3]) (fe:=(Dv.eCall F_Q0O (Dv.lCons (Dv.eVar 1) (Dv.lCons (Dv.eVar 2) (Dv.lCons (Dv.eVar 0) Dv.lNil))))) (fc:=(Dv.eBl true)) (aI (fsc:=ae s_Q0I) (N:=["_law_length","_law_beat","_law_found","_law_row","_law_least"]) rfl rfl (by decide +kernel)) (bK rfl z_range (aa 0)) (λ cl L s₀ H₀ ex=>(aK q_law_turned.d q_law_turned.o hr (by decide) rfl (af (aa 1) (af (aa 2) (af (aa 0) aq))))) (λ cl L s₀ H₀ ex=>bO))) nd rfl (Or.inl rfl)) (av (bD (qF (aa 4) (aa 2)) (av (pE [4] (i:=2) (aa 4))) bh))) nd rfl (Or.inr rfl)) (av (ba (iN z_sorted rfl (aa 2))))))
abbrev gJ:=Fu "_law_kinds" s_Q0I ["_law_length","_law_beat"] 3 F_Q0J 2
abbrev bw:Stmt:=L2.inClass (top 16) 0
abbrev bB:Stmt:=L2.inClass (top 17) 0
abbrev s_Q07:Stmt:=L2.inClass (top 17) 1
abbrev s_Q0W:Stmt:=L2.inClass (top 17) 2
theorem k6:FnScope ["self","laid","answers","at"] ["self","laid","answers","at"] (ae bw):=by constructor<;>first|rfl|decide +kernel
theorem kI:FnScope ["self","ways","laid"] ["self","ways","laid"] (ae bB):=by constructor<;>first|rfl|decide +kernel
theorem sc_go_on:FnScope ["self","case","filled"] ["self"] (ae s_Q07):=by constructor<;>first|rfl|decide +kernel
theorem sc_write_row:FnScope ["self","laid","filled","least","answers","found","way","twice"] ["self","laid","filled"] (ae s_Q0W):=by constructor<;>first|rfl|decide +kernel
theorem kZ {CW CC f:Addr}{fd:FuncData}(d:Mf K "__init__" "Case.__init__" bw ["self","laid","answers","at"] f fd)(T:WkT K CW CC):FnOk P w K mg base (CXe P w) 1 f fd ["self","laid","answers","at"] (l4 CC):=
 d.okL ["self","laid","answers","at"] 0 k6 uG λ cdv A outer s H vs Q E hr h=>⟨_,aB (eV (pv 0) (pv 1) rfl) (aB (eV (pv 0) (pv 2) rfl) (br (eV (pv 0) (pv 3) rfl))),wQ T h⟩
theorem kE {CW CC f:Addr}{fd:FuncData}(d:Mf K "__init__" "Walk.__init__" bB ["self","ways","laid"] f fd)(T:WkT K CW CC){fC:Addr}{fdC:FuncData}(dC:Mf K "__init__" "Case.__init__" bw ["self","laid","answers","at"] fC fdC)(oC:FnOk P w K mg base (CXe P w) 1 fC fdC ["self","laid","answers","at"] (l4 CC))(MC:Mk K CC fC)(aC:mg "Case"=some (.ref CC)):FnOk P w K mg base (CXe P w) 3 f fd ["self","ways","laid"] (nj K CW CC):=
 d.okL ["self","ways","laid"] 2 kI sM λ cdv A outer s H vs Q E hr h=>⟨_,aB (eV (pv 0) (pv 1) rfl) (aB (eV (pv 0) (dJ (ar (kS MC oC hr rfl aC dC.bd .nil lA (ar (pv 2) (ar (dJ (ar nZ az)) (ar dM az)))) az)) rfl) (aB (eV (pv 0) (dJ az) rfl) (br (eV (pv 0) dM rfl)))),wW T h⟩
theorem ok_Q0W {CW CC f:Addr}{fd:FuncData}(d:Mf K "write_row" "Walk.write_row" s_Q0W ["self","laid","filled"] f fd)(T:WkT K CW CC){fC:Addr}{fdC:FuncData}(dC:Mf K "__init__" "Case.__init__" bw ["self","laid","answers","at"] fC fdC)(oC:FnOk P w K mg base (CXe P w) 1 fC fdC ["self","laid","answers","at"] (l4 CC))(MC:Mk K CC fC)(aC:mg "Case"=some (.ref CC))(z_min:mg "min"=none)(z_range:mg "range"=none)(z_len:mg "len"=none):FnOk P w K mg base (CXe P w) 3 f fd ["self","laid","filled"] (qr K CW CC kW):=by
 have nd:=sc_write_row.nd;refine d.okL ["self","laid","filled","least","answers","found","way","twice"] 2 sc_write_row tG λ cdv A outer s H vs Q E hr h=>?_
 exact fL (C:=cF (cxe_ok (P:=P) (w:=w)) (aJ (λ _=>none)) K mg base ["self","laid","filled","least","answers","found","way","twice"] "Walk.write_row" (ae s_Q0W) f cdv A outer s H E hr) (xi z_min rfl (bI (fs:=["filled"]) (is:=[2]) (fe:=(Dv.eVar 0)) (fc:=(Dv.eDnin (Dv.eVar 0) (Dv.eVar 1))) (aI (fsc:=ae s_Q0W) (N:=["self","laid","filled","least","answers","found","way","twice"]) rfl rfl (by decide +kernel)) (bK rfl z_range (ck z_len rfl (mZ (aa 0)))) (λ cl L s₀ H₀ ex=>(aa 0)) (λ cl L s₀ H₀ ex=>(nC (rY (aa 0) (aa 1)))))) λ tl pl ql=>fL (C:=cF (cxe_ok (P:=P) (w:=w)) (aJ (λ _=>none)) K mg base ["self","laid","filled","least","answers","found","way","twice"] "Walk.write_row" (ae s_Q0W) f cdv A outer s H E hr) (mX ao) λ tn pn qn=>⟨_,aB (cZ (i:=3) nd rfl (Or.inl rfl) pl) (aB (cZ (i:=4) nd rfl (Or.inl rfl) (dJ az)) (aB (cZ (i:=5) nd rfl (Or.inl rfl) (dJ az)) (aB (nJ GA rfl (kJ (tT ix_list (cu (pv 0) rfl) (pv 3) (λ _ _=>rfl))) (ej (i:=6) nd rfl (Or.inl rfl)) (aB (eU (C:=cF (cxe_ok (P:=P) (w:=w)) (aJ (λ _=>none)) K mg base ["self","laid","filled","least","answers","found","way","twice"] "Walk.write_row" (ae s_Q0W) f cdv A outer s H E hr) (i:=7) (fs:=["filled"]) (is:=[2]) (fe:=(Dv.eVar 0)) (fc:=(Dv.eB2 Dv.dinD (Dv.eVar 0) (Dv.eVar 1))) (aI (fsc:=ae s_Q0W) (N:=["self","laid","filled","least","answers","found","way","twice"]) rfl rfl (by decide +kernel)) (aU (iu (aa 6) ao)) (λ cl L s₀ H₀ ex=>(aa 0)) (λ cl L s₀ H₀ ex=>(nC (zj (aa 0) (aa 1)))) nd rfl rfl rfl (λ _=>rfl) rfl) (br (mf (fH u9 (bX bG rfl z_len Fz (ar (pv 7) az)) dM (nomark _)) (br (bM (eN EH ER ES bH (pv 4) (ar (kU (ar nB (ar (tT ix_list (pv 7) dM (λ _ _=>rfl)) az))) az)))) (aB (bM (eN EH ER ES bH (pv 5) (ar (kS MC oC hr rfl aC dC.bd .nil lA (ar (xt pU (pv 1) (dJ (ar (pv 6) az))) (ar (pv 4) (ar (bX bG rfl z_len Fz (ar (pv 4) az)) az)))) az))) (br (bM (eN EH ER ES bH (pv 4) (ar nZ az))))))))) (aB (bM (eN EH ER ES bH (cu (pv 0) rfl) (ar (kU (ar (pv 3) (ar (pv 4) az))) az))) (br (bM (eN EH PySem.F.slot_list_extend PySem.F.type_list_extend si (cu (pv 0) rfl) (ar (zg (pv 5) (pO pn)) az)))))))),vW (C:=cF (cxe_ok (P:=P) (w:=w)) (aJ (λ _=>none)) K mg base ["self","laid","filled","least","answers","found","way","twice"] "Walk.write_row" (ae s_Q0W) f cdv A outer s H E hr) (k:=kW) T ql qn h⟩
theorem ok_Q07 {CW CC f:Addr}{fd:FuncData}(d:Mf K "go_on" "Walk.go_on" s_Q07 ["self"] f fd)(T:WkT K CW CC){fR:Addr}{fdR:FuncData}(dR:Mf K "write_row" "Walk.write_row" s_Q0W ["self","laid","filled"] fR fdR)(oR:FnOk P w K mg base (CXe P w) 3 fR fdR ["self","laid","filled"] (qr K CW CC kW))(mR:Meth K CW "write_row" fR)(q_places_filled:dD P w K mg base ad)(xa:XAll K mg ad){C_3:Addr}(h_2:ad "TooMany"=some C_3)(z_sorted:mg "sorted"=none)(z_len:mg "len"=none){t_MOST_CASES:Tok}(n_MOST_CASES:mg "MOST_CASES"=some (.int 2000 t_MOST_CASES)):FnOk P w K mg base (CXe P w) 4 f fd ["self"] (sj K CW CC (aJ ad) kW):=by
 have nd:=sc_go_on.nd;refine d.okL ["self","case","filled"] 3 sc_go_on sS λ cdv A outer s H vs Q E hr h=>?_
 exact fL (C:=cF (cxe_ok (P:=P) (w:=w)) (aJ ad) K mg base ["self","case","filled"] "Walk.go_on" (ae s_Q07) f cdv A outer s H E hr) (aK q_places_filled.d q_places_filled.o hr (by decide) rfl (af (mZ (aa 1)) aq)) λ tp pp qp=>fL (C:=cF (cxe_ok (P:=P) (w:=w)) (aJ ad) K mg base ["self","case","filled"] "Walk.go_on" (ae s_Q07) f cdv A outer s H E hr) (c9 z_sorted rfl (uw (ts:=["start","places"]) (fs:=[]) (is:=[]) (fe:=(Dv.eVar 0)) (fc:=(Dv.eBl true)) (mI (fsc:=ae s_Q07) (N:=["self","case","filled"]) rfl rfl (by decide +kernel)) (.cons (.cons .nil)) (λ _=>rfl) (λ _=>rfl) (aU (mZ (aa 1))) (λ cl L s₀ H₀ ex=>(aa 0)) (λ cl L s₀ H₀ ex=>bO))) λ ts pz qs=>⟨_,aB (mf (fH xq (cu (pv 0) rfl) (kG (v:=.int 2000) rfl n_MOST_CASES ⟨_,rfl⟩) (nomark _)) (br (lY (xa.cl _ _ h_2).1 rfl (by decide) hr.hd)) gU) (aB (qX (pv 0) dM yO) (aB (cZ (i:=1) nd rfl (Or.inl rfl) (xU EH PySem.F.slot_list_pop PySem.F.type_list_pop yJ (cu (pv 0) rfl))) (aB (cZ (i:=2) nd rfl (Or.inl rfl) pp) (aB (mf (fH xq (bX nv rfl z_len Fz (ar (pv 2) az)) (bX bG rfl z_len Fz (ar (cu (pv 0) rfl) az)) (nomark _)) (br (gj pz)) gU) (aB (kL (kU (ar nB (ar (bX bG rfl z_len Fz (ar (cu (pv 0) rfl) az)) az))) (u7 (cu (pv 1) rfl) (cu (pv 1) rfl) set_list)) (aB (bM (xh (pv 0) T.clW mR oR (hr.mono (by decide)) dR.bd .nil lA (ar (cu (pv 1) rfl) (ar (pv 2) az)))) (br (gj nZ)))))))),wU (C:=cF (cxe_ok (P:=P) (w:=w)) (aJ ad) K mg base ["self","case","filled"] "Walk.go_on" (ae s_Q07) f cdv A outer s H E hr) (k:=kW) T (fD h_2) qp qs h⟩
abbrev s_Q01:Stmt:=top 20
theorem sc_all_that_fill:FnScope ["walk","fillings","found"] ["walk"] (ae s_Q01):=by constructor<;>first|rfl|decide +kernel
theorem ok_Q01 {CW CC f:Addr}{fd:FuncData}(d:Df K mg "all_that_fill" s_Q01 ["walk"] f fd)(T:WkT K CW CC){fG:Addr}{fdG:FuncData}(dG:Mf K "go_on" "Walk.go_on" s_Q07 ["self"] fG fdG)(oG:FnOk P w K mg base (CXe P w) 4 fG fdG ["self"] (sj K CW CC (aJ ad) kW))(mG:Meth K CW "go_on" fG)(z_len:mg "len"=none):FnOk P w K mg base (CXe P w) 5 f fd ["walk"] (jy K CW CC (aJ ad) kW):=by
 have nd:=sc_all_that_fill.nd;exact d.okL ["walk","fillings","found"] 4 sc_all_that_fill sr λ cdv A outer s H vs Q E hr h=>⟨_,aB (cZ (i:=1) nd rfl (Or.inl rfl) (dJ az)) (aB (uo GA (fH u9 (bX bG rfl z_len Fz (ar (cu (pv 0) rfl) az)) dM (nomark _)) (aB (cZ (i:=2) nd rfl (Or.inl rfl) (tX (pv 0) T.clW mG oG (hr.mono (by decide)) dG.bd .nil lA)) (br (mf (yQ (wY (pv 2))) (br (bM (eN EH ER ES bH (pv 1) (ar (pv 2) az)))) gU)))) (br (gj (pv 1)))),uP T h⟩
abbrev dH (P:Program)(w:World)(K:Er)(mg:Str->Option Value)(base:Heap)(ad:String->Option Addr)(CW CC:Addr):=Fo P w K mg base "all_that_fill" s_Q01 ["walk"] 5 (jy K CW CC (aJ ad) kW)
abbrev s_Q0S:Stmt:=top 21
theorem sc_partner_walk:FnScope ["length","beat"] ["length","beat"] (ae s_Q0S):=by constructor<;>first|rfl|decide +kernel
theorem ok_Q0S {CW CC f:Addr}{fd:FuncData}(d:Df K mg "partner_walk" s_Q0S ["length","beat"] f fd){fW:Addr}{fdW:FuncData}(dW:Mf K "__init__" "Walk.__init__" bB ["self","ways","laid"] fW fdW)(oW:FnOk P w K mg base (CXe P w) 3 fW fdW ["self","ways","laid"] (nj K CW CC))(MW:Mk K CW fW)(aW:mg "Walk"=some (.ref CW))(q_ways_of:jV P w K mg base ad):FnOk P w K mg base (CXe P w) 6 f fd ["length","beat"] (qW K CW CC (aJ ad) (Dv.pwR nY nO) 2):=by
 have nd:=sc_partner_walk.nd;refine d.okL ["length","beat"] 5 sc_partner_walk uu λ cdv A outer s H vs Q E hr h=>?_
 exact fL (C:=cF (cxe_ok (P:=P) (w:=w)) (aJ ad) K mg base ["length","beat"] "partner_walk" (ae s_Q0S) f cdv A outer s H E hr) (aK q_ways_of.d q_ways_of.o hr (by decide) rfl (af (aa 0) (af (aa 1) aq))) λ tw pw qw=>fL (C:=cF (cxe_ok (P:=P) (w:=w)) (aJ ad) K mg base ["length","beat"] "partner_walk" (ae s_Q0S) f cdv A outer s H E hr) (bq (af (nV (af ao (af (aa 1) aq))) aq)) λ tl pl ql=>⟨_,br (gj (kS MW oW (hr.mono (by decide)) rfl aW dW.bd .nil lA (ar pw (ar pl az)))),wH (C:=cF (cxe_ok (P:=P) (w:=w)) (aJ ad) K mg base ["length","beat"] "partner_walk" (ae s_Q0S) f cdv A outer s H E hr) (λ _=>rfl) qw ql h⟩
abbrev dQ (P:Program)(w:World)(K:Er)(mg:Str->Option Value)(base:Heap)(ad:String->Option Addr)(CW CC:Addr):=Fo P w K mg base "partner_walk" s_Q0S ["length","beat"] 6 (qW K CW CC (aJ ad) (Dv.pwR nY nO) 2)
abbrev s_Q00:Stmt:=top 24
theorem sc_all_partners:FnScope ["length","beat"] ["length","beat"] (ae s_Q00):=by constructor<;>first|rfl|decide +kernel
theorem ok_Q00 {f:Addr}{fd:FuncData}(d:Df K mg "all_partners" s_Q00 ["length","beat"] f fd){CW CC:Addr}(q_count_divides:dB P w K mg base ad)(q_all_that_fill:dH P w K mg base ad CW CC)(q_partner_walk:dQ P w K mg base ad CW CC)(z_sorted:mg "sorted"=none):
  FnOk P w K mg base (CXe P w) 7 f fd ["length","beat"] (spD K (aJ ad) F_Q00 2):=by
 have nd:=sc_all_partners.nd;refine Df.is cxe_ok ["length","beat"] 6 b_Q00 d sc_all_partners rfl rfl rfl λ cdv A outer s H E hr=>?_
 exact(aj (bD (f7 (eP (aK q_count_divides.d q_count_divides.o hr (by decide) rfl (af (aa 0) (af (aa 1) aq))))) (av (ba (bq aq))) bh) (av (ba (iN z_sorted rfl (vp q_all_that_fill.d q_all_that_fill.o q_partner_walk.d q_partner_walk.o hr (by decide) (by decide) rfl rfl (af (aa 0) (af (aa 1) aq)))))))
abbrev d8:=Fu "all_partners" s_Q00 ["length","beat"] 7 F_Q00 2
abbrev s_Q0R:Stmt:=top 25
theorem sc_partner_kinds:FnScope ["length","beat","kinds"] ["length","beat"] (ae s_Q0R):=by constructor<;>first|rfl|decide +kernel
theorem ok_Q0R {f:Addr}{fd:FuncData}(d:Df K mg "partner_kinds" s_Q0R ["length","beat"] f fd)(q_all_partners:d8 P w K mg base ad)(q_first_turn:fg P w K mg base ad)(z_tuple:mg "tuple"=none)(z_sorted:mg "sorted"=none)(z_set:mg "set"=none)(z_list:mg "list"=none):
  FnOk P w K mg base (CXe P w) 8 f fd ["length","beat"] (spD K (aJ ad) F_Q0R 2):=by
 have nd:=sc_partner_kinds.nd;refine Df.is cxe_ok ["length","beat","kinds"] 7 b_Q0R d sc_partner_kinds rfl rfl rfl λ cdv A outer s H E hr=>?_
 exact(aj (l5 [0,1] (i:=2) (fs:=["length"]) (is:=[0]) (fe:=(Dv.eB1 Dv.tupleD (Dv.eCall F_Q06 (Dv.lCons (Dv.eVar 1) (Dv.lCons (Dv.eVar 0) Dv.lNil))))) (fc:=(Dv.eBl true)) (aI (fsc:=ae s_Q0R) (N:=["length","beat","kinds"]) rfl rfl (by decide +kernel)) (aU (aK q_all_partners.d q_all_partners.o hr (by decide) rfl (af (aa 0) (af (aa 1) aq)))) (λ cl L s₀ H₀ ex=>(qT z_tuple rfl (aK q_first_turn.d q_first_turn.o hr (by decide) rfl (af (aa 1) (af (aa 0) aq))))) (λ cl L s₀ H₀ ex=>bO) nd rfl rfl) (av (ba (bI (fs:=[]) (is:=[]) (fe:=(Dv.eB1 Dv.listD (Dv.eVar 0))) (fc:=(Dv.eBl true)) (aI (fsc:=ae s_Q0R) (N:=["length","beat","kinds"]) rfl rfl (by decide +kernel)) (aU (mS z_sorted rfl z_set rfl (aa 2))) (λ cl L s₀ H₀ ex=>(oy z_list rfl (aa 0))) (λ cl L s₀ H₀ ex=>bO)))))
abbrev dE:=Fu "partner_kinds" s_Q0R ["length","beat"] 8 F_Q0R 2
abbrev s_Q08:Stmt:=top 39
theorem sc_law:FnScope ["_law_script","_law_length","_law_beat","_law_due","_law_handed","_law_found","_law_row","_law_on"] ["_law_script"] (ae s_Q08):=by constructor<;>first|rfl|decide +kernel
theorem ok_Q08 {f:Addr}{fd:FuncData}(d:Df K mg "law" s_Q08 ["_law_script"] f fd)(q_law_case:iO P w K mg base ad)(q_law_kinds:gJ P w K mg base ad)(q_partner_kinds:dE P w K mg base ad)(q_law_rows:iP P w K mg base ad)(q_law_turned:cz P w K mg base ad)(q_law_cell:cO P w K mg base ad)(z_list:mg "list"=none):
  FnOk P w K mg base (CXe P w) 9 f fd ["_law_script"] (spD K (aJ ad) F_Q0H 1):=by
 have nd:=sc_law.nd;refine Df.is cxe_ok ["_law_script","_law_length","_law_beat","_law_due","_law_handed","_law_found","_law_row","_law_on"] 8 b_Q0H d sc_law rfl rfl rfl λ cdv A outer s H E hr=>?_
 exact(aj (nL [0] (xs:=[1,2]) (aK q_law_case.d q_law_case.o hr (by decide) rfl (af (aa 0) aq)) (bW (i:=1) (bW (i:=2) iH nd rfl (Or.inl rfl)) nd rfl (Or.inl rfl)) rfl) (aj (cS [1,2] (i:=3) (aK q_law_kinds.d q_law_kinds.o hr (by decide) rfl (af (aa 1) (af (aa 2) aq))) nd rfl (Or.inl rfl)) (aj (aG (i:=4) (oy z_list rfl (aa 2)) nd rfl (Or.inl rfl)) (aj (xc (i:=5) (aK q_partner_kinds.d q_partner_kinds.o hr (by decide) rfl (af (aa 1) (af (aa 4) aq))) nd rfl (Or.inl rfl)) (aj (bD (qN (ju (f7 (eP (aK q_law_rows.d q_law_rows.o hr (by decide) rfl (af (aa 5) (af (aa 3) aq))))) (fQ _ (lB (aa 4) (aa 2))))) (av (ba gC)) bh) (lC (i:=5) (j:=6) (oa (i:=5) (j:=6) nd rfl rfl (Or.inl rfl)) (wm (i:=5) (bq (af ao aq))) rfl (aj (aG (i:=7) (aK q_law_turned.d q_law_turned.o hr (by decide) rfl (af (aa 1) (af (aa 2) (af (aS (dv (aK q_law_cell.d q_law_cell.o hr (by decide) rfl (af (aa 0) (af ao aq))) ao) (aa 1)) aq)))) nd rfl (Or.inl rfl)) (av (ba (uN (aK q_law_rows.d q_law_rows.o hr (by decide) rfl (af (aK q_partner_kinds.d q_partner_kinds.o hr (by decide) rfl (af (aa 1) (af (aa 7) aq))) (af (aa 3) aq))) (uh (aK q_law_rows.d q_law_rows.o hr (by decide) rfl (af (aK q_partner_kinds.d q_partner_kinds.o hr (by decide) rfl (af (aa 1) (af (aa 4) aq))) (af (aa 3) aq))))))))))))))
end
theorem jY {P:List Value->Prop}(h:P []):∀ us:List Value,us.length=0->P us:=λ us hl=>(BZ hl)▸h
theorem bL {P:List Value->Prop}{k:Nat}(h:∀ a (us:List Value),us.length=k->P (a::us)):∀ us:List Value,us.length=k+1->P us:=by
 intro us hl;cases us with
 | nil=>exact absurd hl (Nat.succ_ne_zero k).symm
 | cons a r=>exact h a r (Nat.succ.inj hl)
theorem i8 {P:List Value->Prop}(h:∀ a0,P [a0]):∀ us:List Value,us.length=1->P us:=bL (P:=P) λ a0=>jY (P:=λ us=>P (a0:: us)) (h a0)
theorem cC {P:List Value->Prop}(h:∀ a0 a1,P [a0,a1]):∀ us:List Value,us.length=2->P us:=bL (P:=P) λ a0=>bL (P:=λ us=>P (a0:: us)) λ a1=>jY (P:=λ us=>P (a0::a1:: us)) (h a0 a1)
theorem j7 {P:List Value->Prop}(h:∀ a0 a1 a2,P [a0,a1,a2]):∀ us:List Value,us.length=3->P us:=bL (P:=P) λ a0=>bL (P:=λ us=>P (a0:: us)) λ a1=>bL (P:=λ us=>P (a0::a1:: us)) λ a2=>jY (P:=λ us=>P (a0::a1::a2:: us)) (h a0 a1 a2)
theorem zE {P:List Value->Prop}(h:∀ a0 a1 a2 a3,P [a0,a1,a2,a3]):∀ us:List Value,us.length=4->P us:=bL (P:=P) λ a0=>bL (P:=λ us=>P (a0:: us)) λ a1=>bL (P:=λ us=>P (a0::a1:: us)) λ a2=>bL (P:=λ us=>P (a0::a1::a2:: us)) λ a3=>jY (P:=λ us=>P (a0::a1::a2::a3:: us)) (h a0 a1 a2 a3)
theorem AY {P:List Value->Prop}(h:∀ a0 a1 a2 a3 a4,P [a0,a1,a2,a3,a4]):∀ us:List Value,us.length=5->P us:=bL (P:=P) λ a0=>bL (P:=λ us=>P (a0:: us)) λ a1=>bL (P:=λ us=>P (a0::a1:: us)) λ a2=>bL (P:=λ us=>P (a0::a1::a2:: us)) λ a3=>bL (P:=λ us=>P (a0::a1::a2::a3:: us)) λ a4=>jY (P:=λ us=>P (a0::a1::a2::a3::a4:: us)) (h a0 a1 a2 a3 a4)
theorem A0 {P:List Value->Prop}(h:∀ a0 a1 a2 a3 a4 a5,P [a0,a1,a2,a3,a4,a5]):∀ us:List Value,us.length=6->P us:=bL (P:=P) λ a0=>bL (P:=λ us=>P (a0:: us)) λ a1=>bL (P:=λ us=>P (a0::a1:: us)) λ a2=>bL (P:=λ us=>P (a0::a1::a2:: us)) λ a3=>bL (P:=λ us=>P (a0::a1::a2::a3:: us)) λ a4=>bL (P:=λ us=>P (a0::a1::a2::a3::a4:: us)) λ a5=>jY (P:=λ us=>P (a0::a1::a2::a3::a4::a5:: us)) (h a0 a1 a2 a3 a4 a5)
abbrev adA (a0 a1 a2 a3:Addr):=sQ [("WheelError",a0),("NoWheel",a1),("NoBeat",a2),("TooMany",a3)]
abbrev hA (K:Er)(n:Str)(f:Addr):Prop:=EJ K mainGlobals n=some (some (.ref f))
abbrev hL (K:Er)(n:Str)(s:Stmt)(f:Addr)(oc:Value)(od:Option Addr)(kV dc pm:Value)(an:Option Addr)(cd ct:Value)(sl:Array (Option Value)):Prop:=K.lookup f=some ⟨oc,od,.func (EC n n (aO s) (aE s) (ae s) .none kV dc pm an cd ct),sl⟩
abbrev hC (K:Er)(c:Value)(n:Str):Prop:=E7 K c n=true
abbrev hK (K:Er)(f:Addr):Prop:=E0 K (.ref f)=true
abbrev hS (K:Er)(a b:Addr)(v:Bool):Prop:=E1 K (.ref a) (.ref b)=some v
theorem all_mk {l:PySem.W.OpenLaw}{w:World}{K:Er}{h:Heap}{mg:Str->Option Value}{fa:Addr}(X:K.In h)(G:h.Ns mainGlobals mg)(hfa:mg "law"=some (.ref fa))
    {T_turned f_Q0U f_Q08 C_4 C_0 f_Case_init f_Walk_init f_Q0W f_Q07 C_5 e3_3 C_2 e3_1 C_1 e3_0 C_3 e3_2:Addr}{toc_turned oc_Q0U kV_Q0U dc_Q0U pm_Q0U cd_Q0U ct_Q0U oc_Q08 kV_Q08 dc_Q08 pm_Q08 cd_Q08 ct_Q08 oc_Case_init kV_Case_init dc_Case_init pm_Case_init cd_Case_init ct_Case_init oc_Walk_init kV_Walk_init dc_Walk_init pm_Walk_init cd_Walk_init ct_Walk_init oc_Q0W kV_Q0W dc_Q0W pm_Q0W cd_Q0W ct_Q0W oc_Q07 kV_Q07 dc_Q07 pm_Q07 cd_Q07 ct_Q07:Value}{tod_turned od_Q0U an_Q0U od_Q08 an_Q08 od_Case_init an_Case_init od_Walk_init an_Walk_init od_Q0W an_Q0W od_Q07 an_Q07 eB_3 eB_1 eB_0 eB_2:Option Addr}{tn_turned:Nat}{tsl_turned sl_Q0U sl_Q08 sl_Case_init sl_Walk_init sl_Q0W sl_Q07:Array (Option Value)}{tt0_turned t_LONGEST t_MOST_CASES:Tok}{e1_3 e2_3 e1_1 e2_1 e1_0 e2_0 e1_2 e2_2:Str}{e4_3 e5_3 e8_3 e4_1 e5_1 e8_1 e4_0 e5_0 e8_0 e4_2 e5_2 e8_2:List Value}{e6_3 e9_3 e6_1 e9_1 e6_0 e9_0 e6_2 e9_2:Bool}{e7_3 e7_1 e7_0 e7_2:List Str}{eA_3 eA_1 eA_0 eA_2:Option Bool}{eC_3 eD_3 eE_3 eF_3 eG_3 eC_1 eD_1 eE_1 eF_1 eG_1 eC_0 eD_0 eE_0 eF_0 eG_0 eC_2 eD_2 eE_2 eF_2 eG_2:Option Value}
    (D_check_wheel:hD K "check_wheel" s_Q04) (D_check_rising:hD K "check_rising" s_Q03) (D_check_beat:hD K "check_beat" s_Q02) (D_made_beat:hD K "made_beat" s_Q0Q) (a_Q0U:hA K "turned" f_Q0U) (l_Q0U:K.lookup f_Q0U=some ⟨oc_Q0U,od_Q0U,.func (EC "turned" "turned" (aO s_Q0U) (aE s_Q0U) (ae s_Q0U) (.ref T_turned) kV_Q0U dc_Q0U pm_Q0U an_Q0U cd_Q0U ct_Q0U),sl_Q0U⟩) (c_Q0U:hC K cd_Q0U "turned") (k_Q0U:hK K f_Q0U)
    (t_turned:K.lookup T_turned=some ⟨toc_turned,tod_turned,.seq #[.int 1 tt0_turned] tn_turned,tsl_turned⟩) (D_first_turn:hD K "first_turn" s_Q06) (D_places_filled:hD K "places_filled" s_Q0T) (D_ways_of:hD K "ways_of" s_Q0V) (D_count_divides:hD K "count_divides" s_Q05) (D_law_cell:hD K "_law_cell" s_Q0E) (D_law_whole:hD K "_law_whole" s_Q0P) (D_law_beat_is:hD K "_law_beat_is" s_Q0B) (D_law_some:hD K "_law_some" s_Q0N) (D_law_turned:hD K "_law_turned" s_Q0O) (D_law_again:hD K "_law_again" s_Q09) (D_law_pair:hD K "_law_pair" s_Q0K) (D_law_fills:hD K "_law_fills" s_Q0G) (D_law_all:hD K "_law_all" s_Q0A) (D_law_case:hD K "_law_case" s_Q0C) (D_law_rows:hD K "_law_rows" s_Q0M) (D_law_kinds:hD K "_law_kinds" s_Q0I) (D_all_that_fill:hD K "all_that_fill" s_Q01) (D_partner_walk:hD K "partner_walk" s_Q0S) (D_all_partners:hD K "all_partners" s_Q00) (D_partner_kinds:hD K "partner_kinds" s_Q0R) (a_Q08:hA K "law" f_Q08) (l_Q08:hL K "law" s_Q08 f_Q08 oc_Q08 od_Q08 kV_Q08 dc_Q08 pm_Q08 an_Q08 cd_Q08 ct_Q08 sl_Q08) (c_Q08:hC K cd_Q08 "law") (k_Q08:hK K f_Q08)
    (z_len:EJ K mainGlobals "len"=some none) (z_sorted:EJ K mainGlobals "sorted"=some none) (z_min:EJ K mainGlobals "min"=some none) (z_range:EJ K mainGlobals "range"=some none) (z_isinstance:EJ K mainGlobals "isinstance"=some none) (z_int:EJ K mainGlobals "int"=some none) (z_bool:EJ K mainGlobals "bool"=some none) (z_list:EJ K mainGlobals "list"=some none) (z_zip:EJ K mainGlobals "zip"=some none) (z_max:EJ K mainGlobals "max"=some none) (z_tuple:EJ K mainGlobals "tuple"=some none) (z_set:EJ K mainGlobals "set"=some none) (n_LONGEST:EJ K mainGlobals "LONGEST"=some (some (.int 60 t_LONGEST))) (n_MOST_CASES:EJ K mainGlobals "MOST_CASES"=some (some (.int 2000 t_MOST_CASES)))
   (a_Walk:hA K "Walk" C_4) (pg_Walk:FA K C_4 HR=true) (hd_Walk:FG K C_4=true) (po_Walk:FZ K C_4=true) (sa_Walk:Ex K (.ref C_4) "__setattr__"=some (some (.builtin "object.__setattr__"))) (mk_Walk:F7 K C_4=true) (kc_Walk:E0 K (.ref C_4)=true) (na_Walk_ways:Ex K (.ref C_4) "ways"=some none) (na_Walk_waiting:Ex K (.ref C_4) "waiting"=some none) (na_Walk_rows:Ex K (.ref C_4) "rows"=some none) (na_Walk_gone:Ex K (.ref C_4) "gone"=some none)
   (a_Case:hA K "Case" C_0) (pg_Case:FA K C_0 HR=true) (hd_Case:FG K C_0=true) (po_Case:FZ K C_0=true) (sa_Case:Ex K (.ref C_0) "__setattr__"=some (some (.builtin "object.__setattr__"))) (mk_Case:F7 K C_0=true) (kc_Case:E0 K (.ref C_0)=true) (na_Case_laid:Ex K (.ref C_0) "laid"=some none) (na_Case_answers:Ex K (.ref C_0) "answers"=some none) (na_Case_at:Ex K (.ref C_0) "at"=some none)
   (a_Case_init:Ex K (.ref C_0) "__init__"=some (some (.ref f_Case_init))) (i_Case_init:FI K (.ref f_Case_init)=true) (l_Case_init:K.lookup f_Case_init=some ⟨oc_Case_init,od_Case_init,.func (EC "__init__" "Case.__init__" (aO bw) (aE bw) (ae bw) .none kV_Case_init dc_Case_init pm_Case_init an_Case_init cd_Case_init ct_Case_init),sl_Case_init⟩) (c_Case_init:hC K cd_Case_init "Case.__init__") (k_Case_init:hK K f_Case_init)
   (a_Walk_init:Ex K (.ref C_4) "__init__"=some (some (.ref f_Walk_init))) (i_Walk_init:FI K (.ref f_Walk_init)=true) (l_Walk_init:K.lookup f_Walk_init=some ⟨oc_Walk_init,od_Walk_init,.func (EC "__init__" "Walk.__init__" (aO bB) (aE bB) (ae bB) .none kV_Walk_init dc_Walk_init pm_Walk_init an_Walk_init cd_Walk_init ct_Walk_init),sl_Walk_init⟩) (c_Walk_init:hC K cd_Walk_init "Walk.__init__") (k_Walk_init:hK K f_Walk_init)
   (a_Q0W:Ex K (.ref C_4) "write_row"=some (some (.ref f_Q0W))) (i_write_row:FI K (.ref f_Q0W)=true) (l_Q0W:K.lookup f_Q0W=some ⟨oc_Q0W,od_Q0W,.func (EC "write_row" "Walk.write_row" (aO s_Q0W) (aE s_Q0W) (ae s_Q0W) .none kV_Q0W dc_Q0W pm_Q0W an_Q0W cd_Q0W ct_Q0W),sl_Q0W⟩) (c_Q0W:hC K cd_Q0W "Walk.write_row") (k_Q0W:hK K f_Q0W)
   (a_Q07:Ex K (.ref C_4) "go_on"=some (some (.ref f_Q07))) (i_go_on:FI K (.ref f_Q07)=true) (l_Q07:K.lookup f_Q07=some ⟨oc_Q07,od_Q07,.func (EC "go_on" "Walk.go_on" (aO s_Q07) (aE s_Q07) (ae s_Q07) .none kV_Q07 dc_Q07 pm_Q07 an_Q07 cd_Q07 ct_Q07),sl_Q07⟩) (c_Q07:hC K cd_Q07 "Walk.go_on") (k_Q07:hK K f_Q07)
   (a_3:hA K "WheelError" C_5) (x_3:Fw K C_5 [.type "ValueError",.type "Exception",.type "BaseException",.type "object"] "ValueError.__new__"=true) (g1_3:Ex K (.ref C_5) "__getattribute__"=some (some (.builtin "BaseException.__getattribute__"))) (g2_3:Ex K (.ref C_5) "__getattr__"=some none) (g3_3:Ex K (.ref C_5) "__class__"=some (some (.builtin "object.__class__"))) (v_3:E1 K (.ref C_5) (.type "ValueError")=some true) (y_3:K.lookup C_5=some (excClassObj e1_3 e2_3 C_5 e3_3 e4_3 e5_3 e6_3 e7_3 e8_3 e9_3 eA_3 eB_3 eC_3 eD_3 eE_3 eF_3 eG_3 "ValueError.__new__"))
   (a_1:hA K "NoWheel" C_2) (x_1:Fw K C_2 [.type "ValueError",.type "Exception",.type "BaseException",.type "object"] "ValueError.__new__"=true) (g1_1:Ex K (.ref C_2) "__getattribute__"=some (some (.builtin "BaseException.__getattribute__"))) (g2_1:Ex K (.ref C_2) "__getattr__"=some none) (g3_1:Ex K (.ref C_2) "__class__"=some (some (.builtin "object.__class__"))) (v_1:E1 K (.ref C_2) (.type "ValueError")=some true) (y_1:K.lookup C_2=some (excClassObj e1_1 e2_1 C_2 e3_1 e4_1 e5_1 e6_1 e7_1 e8_1 e9_1 eA_1 eB_1 eC_1 eD_1 eE_1 eF_1 eG_1 "ValueError.__new__"))
   (a_0:hA K "NoBeat" C_1) (x_0:Fw K C_1 [.type "ValueError",.type "Exception",.type "BaseException",.type "object"] "ValueError.__new__"=true) (g1_0:Ex K (.ref C_1) "__getattribute__"=some (some (.builtin "BaseException.__getattribute__"))) (g2_0:Ex K (.ref C_1) "__getattr__"=some none) (g3_0:Ex K (.ref C_1) "__class__"=some (some (.builtin "object.__class__"))) (v_0:E1 K (.ref C_1) (.type "ValueError")=some true) (y_0:K.lookup C_1=some (excClassObj e1_0 e2_0 C_1 e3_0 e4_0 e5_0 e6_0 e7_0 e8_0 e9_0 eA_0 eB_0 eC_0 eD_0 eE_0 eF_0 eG_0 "ValueError.__new__"))
   (a_2:hA K "TooMany" C_3) (x_2:Fw K C_3 [.type "ValueError",.type "Exception",.type "BaseException",.type "object"] "ValueError.__new__"=true) (g1_2:Ex K (.ref C_3) "__getattribute__"=some (some (.builtin "BaseException.__getattribute__"))) (g2_2:Ex K (.ref C_3) "__getattr__"=some none) (g3_2:Ex K (.ref C_3) "__class__"=some (some (.builtin "object.__class__"))) (v_2:E1 K (.ref C_3) (.type "ValueError")=some true) (y_2:K.lookup C_3=some (excClassObj e1_2 e2_2 C_3 e3_2 e4_2 e5_2 e6_2 e7_2 e8_2 e9_2 eA_2 eB_2 eC_2 eD_2 eE_2 eF_2 eG_2 "ValueError.__new__"))
   (s_33:hS K C_5 C_5 true)
   (s_31:hS K C_5 C_2 false)
   (s_30:hS K C_5 C_1 false)
   (s_32:hS K C_5 C_3 false)
   (s_13:hS K C_2 C_5 true)
   (s_11:hS K C_2 C_2 true)
   (s_10:hS K C_2 C_1 false)
   (s_12:hS K C_2 C_3 false)
   (s_03:hS K C_1 C_5 true)
   (s_01:hS K C_1 C_2 false)
   (s_00:hS K C_1 C_1 true)
   (s_02:hS K C_1 C_3 false)
   (s_23:hS K C_3 C_5 true)
   (s_21:hS K C_3 C_2 false)
   (s_20:hS K C_3 C_1 false)
   (s_22:hS K C_3 C_3 true):∃ (fd:FuncData) (cls:String->Value),(∀ (s:Shared) (v:Value),BindsTo s fd ⟨[v],[]⟩ [("_law_script",v)])/\∀ base:Heap,K.In base->base.Ns mainGlobals mg->FnOk l.prog w K mg base (CXe l.prog w) 9 fa fd ["_law_script"] (spD K cls F_Q0H 1):=by
  have e:=hfa.symm.trans (EZ X G a_Q08);cases e;have T:WkT K C_4 C_0:=⟨⟨pg_Walk,hd_Walk,po_Walk,sa_Walk⟩,⟨pg_Case,hd_Case,po_Case,sa_Case⟩,na_Walk_ways,na_Walk_waiting,na_Walk_rows,na_Walk_gone,na_Case_laid,na_Case_answers,na_Case_at⟩;have d_Case_init:=pG (st:=bw) (ps:=["self","laid","answers","at"]) l_Case_init c_Case_init λ _ _ _ _ _ _=>zE λ _ _ _ _=>rfl
  have d_Walk_init:=pG (st:=bB) (ps:=["self","ways","laid"]) l_Walk_init c_Walk_init λ _ _ _ _ _ _=>j7 λ _ _ _=>rfl
  have d_Q0W:=pG (st:=s_Q0W) (ps:=["self","laid","filled"]) l_Q0W c_Q0W λ _ _ _ _ _ _=>j7 λ _ _ _=>rfl
  have d_Q07:=pG (st:=s_Q07) (ps:=["self"]) l_Q07 c_Q07 λ _ _ _ _ _ _=>i8 λ _=>rfl
  have M_Case:Mk K C_0 f_Case_init:=⟨mk_Case,a_Case_init,i_Case_init,kc_Case⟩;have M_Walk:Mk K C_4 f_Walk_init:=⟨mk_Walk,a_Walk_init,i_Walk_init,kc_Walk⟩;have m_write_row:Meth K C_4 "write_row" f_Q0W:=⟨a_Q0W,i_write_row,k_Q0W⟩;have m_go_on:Meth K C_4 "go_on" f_Q07:=⟨a_Q07,i_go_on,k_Q07⟩;obtain⟨f_Q04,fd_check_wheel,d_Q04⟩:=dfE (st:=s_Q04) (ps:=["length"]) X G D_check_wheel λ _ _ _ _ _ _=>i8 λ _=>rfl
  obtain⟨f_Q03,fd_check_rising,d_Q03⟩:=dfE (st:=s_Q03) (ps:=["numbers","end"]) X G D_check_rising λ _ _ _ _ _ _=>cC λ _ _=>rfl
  obtain⟨f_Q02,fd_check_beat,d_Q02⟩:=dfE (st:=s_Q02) (ps:=["length","beat"]) X G D_check_beat λ _ _ _ _ _ _=>cC λ _ _=>rfl
  obtain⟨f_Q0Q,fd_made_beat,d_Q0Q⟩:=dfE (st:=s_Q0Q) (ps:=["length","numbers"]) X G D_made_beat λ _ _ _ _ _ _=>cC λ _ _=>rfl
  have d_Q0U:=yY (st:=s_Q0U) (ps:=["length","beat","by"]) (EZ X G a_Q0U) l_Q0U c_Q0U k_Q0U λ s us Y hl=>by
    rw[B6] at hl ⊢
    match us,hl with
    | [_,_,_],_=>exact Hi rfl (Y _ _ t_turned) rfl rfl rfl
  have bD_turned:Binds K (EC "turned" "turned" (aO s_Q0U) (aE s_Q0U) (ae s_Q0U) (.ref T_turned) kV_Q0U dc_Q0U pm_Q0U an_Q0U cd_Q0U ct_Q0U) ["length","beat","by"] [.int 1 tt0_turned]:=λ s us Y hl=>by
    have hl:=Nat.succ.inj ((Bo (as:=us)).symm.trans hl)
    match us,hl with
    | [_,_],_=>exact Hi rfl (Y _ _ t_turned) rfl rfl rfl
  obtain⟨f_Q06,fd_first_turn,d_Q06⟩:=dfE (st:=s_Q06) (ps:=["length","beat"]) X G D_first_turn λ _ _ _ _ _ _=>cC λ _ _=>rfl
  obtain⟨f_Q0T,fd_places_filled,d_Q0T⟩:=dfE (st:=s_Q0T) (ps:=["laid"]) X G D_places_filled λ _ _ _ _ _ _=>i8 λ _=>rfl
  obtain⟨f_Q0V,fd_ways_of,d_Q0V⟩:=dfE (st:=s_Q0V) (ps:=["length","beat"]) X G D_ways_of λ _ _ _ _ _ _=>cC λ _ _=>rfl
  obtain⟨f_Q05,fd_count_divides,d_Q05⟩:=dfE (st:=s_Q05) (ps:=["length","beat"]) X G D_count_divides λ _ _ _ _ _ _=>cC λ _ _=>rfl
  obtain⟨f_Q0E,fd_law_cell,d_Q0E⟩:=dfE (st:=s_Q0E) (ps:=["_law_script","_law_k"]) X G D_law_cell λ _ _ _ _ _ _=>cC λ _ _=>rfl
  obtain⟨f_Q0P,fd_law_whole,d_Q0P⟩:=dfE (st:=s_Q0P) (ps:=["_law_found"]) X G D_law_whole λ _ _ _ _ _ _=>i8 λ _=>rfl
  obtain⟨f_Q0B,fd_law_beat_is,d_Q0B⟩:=dfE (st:=s_Q0B) (ps:=["_law_found","_law_due"]) X G D_law_beat_is λ _ _ _ _ _ _=>cC λ _ _=>rfl
  obtain⟨f_Q0N,fd_law_some,d_Q0N⟩:=dfE (st:=s_Q0N) (ps:=["_law_script","_law_start","_law_length"]) X G D_law_some λ _ _ _ _ _ _=>j7 λ _ _ _=>rfl
  obtain⟨f_Q0O,fd_law_turned,d_Q0O⟩:=dfE (st:=s_Q0O) (ps:=["_law_length","_law_beat","_law_by"]) X G D_law_turned λ _ _ _ _ _ _=>j7 λ _ _ _=>rfl
  obtain⟨f_Q09,fd_law_again,d_Q09⟩:=dfE (st:=s_Q09) (ps:=["_law_length","_law_beat","_law_times"]) X G D_law_again λ _ _ _ _ _ _=>j7 λ _ _ _=>rfl
  obtain⟨f_Q0K,fd_law_pair,d_Q0K⟩:=dfE (st:=s_Q0K) (ps:=["_law_script","_law_start"]) X G D_law_pair λ _ _ _ _ _ _=>cC λ _ _=>rfl
  obtain⟨f_Q0G,fd_law_fills,d_Q0G⟩:=dfE (st:=s_Q0G) (ps:=["_law_length","_law_beat","_law_starts"]) X G D_law_fills λ _ _ _ _ _ _=>j7 λ _ _ _=>rfl
  obtain⟨f_Q0A,fd_law_all,d_Q0A⟩:=dfE (st:=s_Q0A) (ps:=["_law_length","_law_beat"]) X G D_law_all λ _ _ _ _ _ _=>cC λ _ _=>rfl
  obtain⟨f_Q0C,fd_law_case,d_Q0C⟩:=dfE (st:=s_Q0C) (ps:=["_law_script"]) X G D_law_case λ _ _ _ _ _ _=>i8 λ _=>rfl
  obtain⟨f_Q0M,fd_law_rows,d_Q0M⟩:=dfE (st:=s_Q0M) (ps:=["_law_found","_law_due"]) X G D_law_rows λ _ _ _ _ _ _=>cC λ _ _=>rfl
  obtain⟨f_Q0I,fd_law_kinds,d_Q0I⟩:=dfE (st:=s_Q0I) (ps:=["_law_length","_law_beat"]) X G D_law_kinds λ _ _ _ _ _ _=>cC λ _ _=>rfl
  obtain⟨f_Q01,fd_all_that_fill,d_Q01⟩:=dfE (st:=s_Q01) (ps:=["walk"]) X G D_all_that_fill λ _ _ _ _ _ _=>i8 λ _=>rfl
  obtain⟨f_Q0S,fd_partner_walk,d_Q0S⟩:=dfE (st:=s_Q0S) (ps:=["length","beat"]) X G D_partner_walk λ _ _ _ _ _ _=>cC λ _ _=>rfl
  obtain⟨f_Q00,fd_all_partners,d_Q00⟩:=dfE (st:=s_Q00) (ps:=["length","beat"]) X G D_all_partners λ _ _ _ _ _ _=>cC λ _ _=>rfl
  obtain⟨f_Q0R,fd_partner_kinds,d_Q0R⟩:=dfE (st:=s_Q0R) (ps:=["length","beat"]) X G D_partner_kinds λ _ _ _ _ _ _=>cC λ _ _=>rfl
  have d_Q08:=xM (st:=s_Q08) (ps:=["_law_script"]) (EZ X G a_Q08) l_Q08 c_Q08 k_Q08 λ _ _ _ _ _ _=>i8 λ _=>rfl
  have z_len:=ET X G z_len;have z_sorted:=ET X G z_sorted;have z_min:=ET X G z_min;have z_range:=ET X G z_range;have z_isinstance:=ET X G z_isinstance;have z_int:=ET X G z_int;have z_bool:=ET X G z_bool;have z_list:=ET X G z_list;have z_zip:=ET X G z_zip;have z_max:=ET X G z_max;have z_tuple:=ET X G z_tuple;have z_set:=ET X G z_set;have n_LONGEST:=EZ X G n_LONGEST;have n_MOST_CASES:=EZ X G n_MOST_CASES;have xa:XAll K mg (adA C_5 C_2 C_1 C_3):=wV _ (aH ⟨⟨EZ X G a_3,a_3,x_3,⟨_,_,_,_,_,_,_,_,_,_,_,_,_,_,_,_,y_3⟩⟩,⟨x_3,⟨_,_,_,_,_,_,_,_,_,_,_,_,_,_,_,_,y_3⟩,g1_3,g2_3,g3_3⟩,v_3⟩ (aH ⟨⟨EZ X G a_1,a_1,x_1,⟨_,_,_,_,_,_,_,_,_,_,_,_,_,_,_,_,y_1⟩⟩,⟨x_1,⟨_,_,_,_,_,_,_,_,_,_,_,_,_,_,_,_,y_1⟩,g1_1,g2_1,g3_1⟩,v_1⟩ (aH ⟨⟨EZ X G a_0,a_0,x_0,⟨_,_,_,_,_,_,_,_,_,_,_,_,_,_,_,_,y_0⟩⟩,⟨x_0,⟨_,_,_,_,_,_,_,_,_,_,_,_,_,_,_,_,y_0⟩,g1_0,g2_0,g3_0⟩,v_0⟩ (aH ⟨⟨EZ X G a_2,a_2,x_2,⟨_,_,_,_,_,_,_,_,_,_,_,_,_,_,_,_,y_2⟩⟩,⟨x_2,⟨_,_,_,_,_,_,_,_,_,_,_,_,_,_,_,_,y_2⟩,g1_2,g2_2,g3_2⟩,v_2⟩ (eW))))) (aH (aH s_33 (aH s_31 (aH s_30 (aH s_32 (eW))))) (aH (aH s_13 (aH s_11 (aH s_10 (aH s_12 (eW))))) (aH (aH s_03 (aH s_01 (aH s_00 (aH s_02 (eW))))) (aH (aH s_23 (aH s_21 (aH s_20 (aH s_22 (eW))))) (eW)))));have h_3:(adA C_5 C_2 C_1 C_3) "WheelError"=some C_5:=rfl;have h_1:(adA C_5 C_2 C_1 C_3) "NoWheel"=some C_2:=rfl;have h_0:(adA C_5 C_2 C_1 C_3) "NoBeat"=some C_1:=rfl;have h_2:(adA C_5 C_2 C_1 C_3) "TooMany"=some C_3:=rfl;have hkn:∀ c∈(["WheelError","NoWheel","NoBeat","TooMany"]:List String),∃ Ca,(adA C_5 C_2 C_1 C_3) c=some Ca:=aH ⟨C_5,rfl⟩ (aH ⟨C_2,rfl⟩ (aH ⟨C_1,rfl⟩ (aH ⟨C_3,rfl⟩ (eW))));refine⟨EC "law" "law" (aO s_Q08) (aE s_Q08) (ae s_Q08) .none kV_Q08 dc_Q08 pm_Q08 an_Q08 cd_Q08 ct_Q08,aJ (adA C_5 C_2 C_1 C_3),λ s v=>.of_eq rfl,λ base _ _=>?_⟩;have q_check_wheel:c7 l.prog w K mg base (adA C_5 C_2 C_1 C_3):=⟨_,_,d_Q04,ok_Q04 d_Q04  xa h_1  n_LONGEST⟩;have q_check_rising:dI l.prog w K mg base (adA C_5 C_2 C_1 C_3):=⟨_,_,d_Q03,ok_Q03 d_Q03  xa h_0 z_len ⟩;have q_check_beat:bT l.prog w K mg base (adA C_5 C_2 C_1 C_3):=⟨_,_,d_Q02,ok_Q02 d_Q02 q_check_wheel q_check_rising  ⟩;have q_made_beat:gI l.prog w K mg base (adA C_5 C_2 C_1 C_3):=⟨_,_,d_Q0Q,ok_Q0Q d_Q0Q q_check_wheel q_check_beat z_sorted ⟩;have q_turned:iw l.prog w K mg base (adA C_5 C_2 C_1 C_3):=⟨_,_,d_Q0U,ok_Q0U d_Q0U q_check_beat q_made_beat  ⟩;have q_first_turn:fg l.prog w K mg base (adA C_5 C_2 C_1 C_3):=⟨_,_,d_Q06,ok_Q06 d_Q06 q_check_beat q_turned z_min z_range ⟩;have q_places_filled:dD l.prog w K mg base (adA C_5 C_2 C_1 C_3):=⟨_,_,d_Q0T,ok_Q0T d_Q0T   ⟩;have q_ways_of:jV l.prog w K mg base (adA C_5 C_2 C_1 C_3):=⟨_,_,d_Q0V,ok_Q0V d_Q0V q_turned z_range ⟩;have q_count_divides:dB l.prog w K mg base (adA C_5 C_2 C_1 C_3):=⟨_,_,d_Q05,ok_Q05 d_Q05 q_check_beat z_len ⟩;have q_law_cell:cO l.prog w K mg base (adA C_5 C_2 C_1 C_3):=⟨_,_,d_Q0E,ok_Q0E d_Q0E  z_len ⟩;have q_law_whole:gF l.prog w K mg base (adA C_5 C_2 C_1 C_3):=⟨_,_,d_Q0P,ok_Q0P d_Q0P  z_isinstance z_int z_bool ⟩;have q_law_beat_is:eI l.prog w K mg base (adA C_5 C_2 C_1 C_3):=⟨_,_,d_Q0B,ok_Q0B d_Q0B q_law_whole z_isinstance z_list z_len z_zip ⟩;have q_law_some:ik l.prog w K mg base (adA C_5 C_2 C_1 C_3):=⟨_,_,d_Q0N,ok_Q0N d_Q0N q_law_cell z_range z_max ⟩;have q_law_turned:cz l.prog w K mg base (adA C_5 C_2 C_1 C_3):=⟨_,_,d_Q0O,ok_Q0O d_Q0O  z_sorted ⟩;have q_law_again:gD l.prog w K mg base (adA C_5 C_2 C_1 C_3):=⟨_,_,d_Q09,ok_Q09 d_Q09  z_range ⟩;have q_law_pair:i4 l.prog w K mg base (adA C_5 C_2 C_1 C_3):=⟨_,_,d_Q0K,ok_Q0K d_Q0K q_law_cell q_law_again q_law_turned z_range z_sorted ⟩;have q_law_fills:gA l.prog w K mg base (adA C_5 C_2 C_1 C_3):=⟨_,_,d_Q0G,ok_Q0G d_Q0G   ⟩;have q_law_all:jg l.prog w K mg base (adA C_5 C_2 C_1 C_3):=⟨_,_,d_Q0A,ok_Q0A d_Q0A q_law_fills z_len z_range ⟩;have q_law_case:iO l.prog w K mg base (adA C_5 C_2 C_1 C_3):=⟨_,_,d_Q0C,ok_Q0C d_Q0C q_law_pair q_law_cell q_law_some z_sorted ⟩;have q_law_rows:iP l.prog w K mg base (adA C_5 C_2 C_1 C_3):=⟨_,_,d_Q0M,ok_Q0M d_Q0M q_law_beat_is z_isinstance z_list z_len z_zip ⟩;have q_law_kinds:gJ l.prog w K mg base (adA C_5 C_2 C_1 C_3):=⟨_,_,d_Q0I,ok_Q0I d_Q0I q_law_all q_law_turned z_min z_range z_sorted ⟩;have o_Case_init:FnOk l.prog w K mg base (CXe l.prog w) 1 f_Case_init _ ["self","laid","answers","at"] (l4 C_0):=kZ d_Case_init T;have o_Walk_init:FnOk l.prog w K mg base (CXe l.prog w) 3 f_Walk_init _ ["self","ways","laid"] (nj K C_4 C_0):=kE d_Walk_init T d_Case_init o_Case_init M_Case (EZ X G a_Case);have o_Q0W:FnOk l.prog w K mg base (CXe l.prog w) 3 f_Q0W _ ["self","laid","filled"] (qr K C_4 C_0 kW):=ok_Q0W d_Q0W T d_Case_init o_Case_init M_Case (EZ X G a_Case)  z_min z_range z_len;have o_Q07:FnOk l.prog w K mg base (CXe l.prog w) 4 f_Q07 _ ["self"] (sj K C_4 C_0 (aJ (adA C_5 C_2 C_1 C_3)) kW):=ok_Q07 d_Q07 T d_Q0W o_Q0W m_write_row q_places_filled xa h_2 z_sorted z_len n_MOST_CASES;have q_all_that_fill:dH l.prog w K mg base (adA C_5 C_2 C_1 C_3) C_4 C_0:=⟨_,_,d_Q01,ok_Q01 d_Q01 T d_Q07 o_Q07 m_go_on  z_len ⟩;have q_partner_walk:dQ l.prog w K mg base (adA C_5 C_2 C_1 C_3) C_4 C_0:=⟨_,_,d_Q0S,ok_Q0S d_Q0S d_Walk_init o_Walk_init M_Walk (EZ X G a_Walk) q_ways_of  ⟩;have q_all_partners:d8 l.prog w K mg base (adA C_5 C_2 C_1 C_3):=⟨_,_,d_Q00,ok_Q00 d_Q00 q_count_divides q_all_that_fill q_partner_walk z_sorted ⟩;have q_partner_kinds:dE l.prog w K mg base (adA C_5 C_2 C_1 C_3):=⟨_,_,d_Q0R,ok_Q0R d_Q0R q_all_partners q_first_turn z_tuple z_sorted z_set z_list ⟩;exact ok_Q08 d_Q08 q_law_case q_law_kinds q_partner_kinds q_law_rows q_law_turned q_law_cell z_list
end Lk44
namespace Bt
open Dv (ins isort)
theorem cM (i:Int):∀ l:List Int,(ins i l).Perm (i::l)
 | []=>.refl _
 | j::r=>by
  unfold ins
  split
  ·exact .refl _
  ·exact((cM i r).cons j).trans (.swap _ _ _)
theorem ay:∀ l:List Int,(isort l).Perm l
 | []=>.refl _
 | i::r=>(cM i _).trans ((ay r).cons i)
theorem cD (i:Int):∀ l:List Int,l.Pairwise (·<=·)->(ins i l).Pairwise (·<=·)
 | [],_=>by unfold ins;simp
 | j::r,h=>by
  unfold ins;obtain⟨h1,h2⟩:=List.pairwise_cons.mp h
  split
  ·rename_i hij
   refine List.pairwise_cons.mpr ⟨λ a ha=>?_,h⟩
   rcases List.mem_cons.mp ha with rfl|ha
   ·exact hij
   ·have:=h1 a ha;omega
  ·rename_i hij
   refine List.pairwise_cons.mpr ⟨λ a ha=>?_,cD i r h2⟩
   rcases List.mem_cons.mp ((cM i r).mem_iff.mp ha) with rfl|ha
   ·omega
   ·exact h1 a ha
theorem bb:∀ l:List Int,(isort l).Pairwise (·<=·)
 | []=>.nil
 | i::r=>cD i _ (bb r)
theorem bQ:∀ {a b:List Int},a.Perm b->a.Pairwise (·<=·)->b.Pairwise (·<=·)->a=b
 | [],b,p,_,_=>(List.Perm.nil_eq p)
 | x::a,[],p,_,_=>(nomatch p.length_eq)
 | x::a,y::b,p,ha,hb=>by
  obtain⟨a1,a2⟩:=List.pairwise_cons.mp ha;obtain⟨b1,b2⟩:=List.pairwise_cons.mp hb;have hx:x∈y::b:=p.mem_iff.mp (A6 ..);have hy:y∈x::a:=p.mem_iff.mpr (A6 ..);have e:x=y:=by
   rcases List.mem_cons.mp hx with e|hx
   ·exact e
   ·rcases List.mem_cons.mp hy with e|hy
    ·exact e.symm
    ·have:=a1 y hy;have:=b1 x hx;omega
  subst e;rw[bQ (List.Perm.cons_inv p) a2 b2]
theorem b7 (l:List Int):(isort l).length=l.length:=(ay l).length_eq
theorem eF {a b:List Int}(h:a.Perm b):isort a=isort b:=bQ ((ay a).trans (h.trans (ay b).symm)) (bb a) (bb b)
theorem lP {l:List Int}(h:l.Pairwise (·<=·)):isort l=l:=bQ (ay l) (bb l) h
structure Beat (n:Int)(xs:List Int):Prop where
 ne:xs≠[]
 up:xs.Pairwise (·<·)
 rg:∀ x∈xs,0<=x/\x<n
theorem Beat.nd {n:Int}{xs:List Int}(h:Beat n xs):xs.Nodup:=h.up.imp λ {a b} h e=>by omega
theorem nh:∀ {xs:List Int} {lo hi:Int},xs.Pairwise (·<·)->(∀ x∈xs,lo<=x/\x<hi)->(xs.length:Int)<=max 0 (hi-lo)
 | [],lo,hi,_,_=>by simp;omega
 | x::r,lo,hi,h,g=>by
  obtain⟨h1,h2⟩:=List.pairwise_cons.mp h;have gx:=g x (A6 ..);have:=nh (lo:=x+1) (hi:=hi) h2 λ y hy=>⟨h1 y hy,(g y (A5 _ hy)).2⟩
  rw[A8];omega
theorem Beat.len {n:Int}{xs:List Int}(h:Beat n xs):(xs.length:Int)<=n:=by
 have:=nh h.up h.rg;obtain⟨x,hx⟩:=CJ xs h.ne;have:=h.rg x hx;omega
theorem Beat.pos {n:Int}{xs:List Int}(h:Beat n xs):1<=n:=by
 obtain⟨x,hx⟩:=CJ xs h.ne;have:=h.rg x hx;omega
theorem Beat.len1 {n:Int}{xs:List Int}(h:Beat n xs):1<=xs.length:=by
 cases xs with
 | nil=>exact absurd rfl h.ne
 | cons a r=>simp
theorem xo {l:List Int}(h1:l.Pairwise (·<=·))(h2:l.Nodup):l.Pairwise (·<·):=by
 induction l with
 | nil=>exact .nil
 | cons a r ih=>
  obtain⟨a1,a2⟩:=List.pairwise_cons.mp h1;obtain⟨b1,b2⟩:=List.nodup_cons.mp h2;refine List.pairwise_cons.mpr ⟨λ x hx=>?_,ih a2 b2⟩;have:=a1 x hx;have:a≠x:=λ e=>b1 (e▸hx)
  omega
theorem eB {n:Int}{xs:List Int}(ne:xs≠[])(nd:xs.Nodup)(rg:∀ x∈xs,0<=x/\x<n):Beat n (isort xs) where
 ne:=λ e=>ne (by have:=b7 xs;rw[e] at this;exact BZ this.symm)
 up:=xo (bb xs) ((ay xs).nodup_iff.mpr nd)
 rg:=λ x hx=>rg x ((ay xs).mem_iff.mp hx)
theorem Beat.sorted {n:Int}{xs:List Int}(h:Beat n xs):isort xs=xs:=lP (h.up.imp λ {a b} h=>Ek h)
theorem df {f:Int->Int}:∀ {xs:List Int},xs.Nodup->(∀ x∈xs,∀ y∈xs,f x=f y->x=y)->(xs.map f).Nodup
 | [],_,_=>by simp
 | x::r,h,g=>by
  obtain⟨h1,h2⟩:=List.nodup_cons.mp h;refine List.nodup_cons.mpr ⟨λ m=>?_,df h2 λ a ha b hb=>g a (A5 _ ha) b (A5 _ hb)⟩;obtain⟨y,hy,e⟩:=List.mem_map.mp m;exact h1 (g y (A5 _ hy) x (A6 ..) e▸hy)
theorem fO {n k d:Int}(hn:0<n)(e:d=n*k)(h1:-n<d)(h2:d<n):d=0:=by
 rcases Int.lt_trichotomy k 0 with h|h|h
 ·have:n*k<=n*(-1):=B8 (by omega) (by omega)
  omega
 ·subst h;omega
 ·have:n*1<=n*k:=B8 (by omega) (by omega)
  omega
theorem mod_eq_iff {n a b:Int}:a%n=b%n ↔ ∃ k,a-b=n*k:=by
 constructor
 ·intro h
  have:=Int.emod_emod_of_dvd a (Int.dvd_refl n);have h1:(a-b)%n=0:=(CK).mp h;exact Dt h1
 ·rintro ⟨k,h⟩
  exact(CK).mpr (Int.emod_eq_zero_of_dvd ⟨k,h⟩)
theorem ff {n x y b:Int}(hn:0<n)(hx:0<=x/\x<n)(hy:0<=y/\y<n)(h:(x+b)%n=(y+b)%n):x=y:=by
 obtain⟨k,e⟩:=mod_eq_iff.mp h;have:=fO (d:=x-y) (k:=k) hn (by omega) (by omega) (by omega);omega
theorem bA {n a:Int}(hn:0<n):0<=a%n/\a%n<n:=⟨D9 _ (by omega),DR _ hn⟩
theorem da {n b:Int}{xs:List Int}(h:Beat n xs):Beat n (isort (xs.map λ x=>(x+b)%n)):=by
 have hp:=h.pos;refine eB (by simpa using h.ne) (df h.nd λ x hx y hy e=>ff (by omega) (h.rg x hx) (h.rg y hy) e) λ x hx=>?_
 obtain⟨y,_,rfl⟩:=List.mem_map.mp hx;exact bA (by omega)
def again (n:Int)(xs:List Int):Nat->List Int
 | 0=>[]
 | t+1=>again n xs t++xs.map (·+t*n)
theorem iI {n:Int}{xs:List Int}(h:∀ x∈xs,0<=x/\x<n)(hn:0<=n):∀ (t:Nat),∀ x∈again n xs t,0<=x/\x<n*t
 | 0,x,hx=>by simp[again] at hx
 | t+1,x,hx=>by
  have e:n*((t+1:Nat):Int)=n*t+n:=by rw[Dp,Em,El]
  unfold again at hx
  rcases List.mem_append.mp hx with hx|hx
  ·have:=iI h hn t x hx;omega
  ·obtain⟨y,hy,rfl⟩:=List.mem_map.mp hx
   have:=h y hy;have e2:(t:Int)*n=n*t:=Du _ _;have:0<=n*(t:Int):=DK hn (by omega);simp only[e2];omega
theorem lq {n:Int}{xs:List Int}(h:xs.Pairwise (·<·))(g:∀ x∈xs,0<=x/\x<n)(hn:0<=n):∀ (t:Nat),(again n xs t).Pairwise (·<·)
 | 0=>.nil
 | t+1=>by
  unfold again;refine List.pairwise_append.mpr ⟨lq h g hn t,?_,λ a ha b hb=>?_⟩
  ·exact List.pairwise_map.mpr (h.imp λ {a b} h=>by omega)
  ·have:=iI g hn t a ha
   obtain⟨y,hy,rfl⟩:=List.mem_map.mp hb;have:=g y hy;have e2:(t:Int)*n=n*t:=Du _ _;simp only[e2];omega
theorem nT {n:Int}{xs:List Int}(h:Beat n xs){t:Nat}(ht:1<=t):Beat (n*t) (again n xs t) where
 ne:=by
  cases t with
  | zero=>omega
  | succ t=>unfold again;have:=h.ne;simp[this]
 up:=lq h.up h.rg (by have:=h.pos;omega) t
 rg:=iI h.rg (by have:=h.pos;omega) t
theorem lG {n t:Int}{xs:List Int}(h:Beat n xs)(ht:1<=t):Beat (n*t) (xs.map (·*t)) where
 ne:=by simpa using h.ne
 up:=List.pairwise_map.mpr (h.up.imp λ {a b} h=>C8 h (by omega))
 rg:=λ x hx=>by
  obtain⟨y,hy,rfl⟩:=List.mem_map.mp hx;have:=h.rg y hy;exact⟨DK this.1 (by omega),C8 this.2 (by omega)⟩
def mix (xs:List Int)(t:Int):Nat->List Int
 | 0=>[]
 | j+1=>mix xs t j++xs.map (·*t+j)
theorem mix_mem {xs:List Int}{t:Int}:∀ {j:Nat} {x:Int},x∈mix xs t j ↔ ∃ y∈xs,∃ i:Nat,i<j/\x=y*t+i
 | 0,x=>by simp[mix]
 | j+1,x=>by
  unfold mix;rw[B0,mix_mem,Cj]
  constructor
  ·rintro (⟨y,hy,i,hi,rfl⟩|⟨y,hy,rfl⟩)
   ·exact⟨y,hy,i,by omega,rfl⟩
   ·exact⟨y,hy,j,by omega,rfl⟩
  ·rintro ⟨y,hy,i,hi,rfl⟩
   by_cases e:i=j
   ·subst e;exact .inr ⟨y,hy,rfl⟩
   ·exact .inl ⟨y,hy,i,by omega,rfl⟩
theorem digits {t y z i j:Int}(ht:0<t)(hi:0<=i/\i<t)(hj:0<=j/\j<t)(e:y*t+i=z*t+j):y=z/\i=j:=by
 have h1:i-j=t*(z-y):=by rw[En,Du t z,Du t y];omega
 have h2:=fO ht h1 (by omega) (by omega);have h3:y*t=z*t:=by omega
 exact⟨Int.eq_of_mul_eq_mul_right (by omega) h3,by omega⟩
theorem tM {xs:List Int}{t:Int}(h:xs.Nodup)(ht:0<t):∀ {j:Nat},(j:Int)<=t->(mix xs t j).Nodup
 | 0,_=>by simp[mix]
 | j+1,hj=>by
  unfold mix;refine List.nodup_append.mpr ⟨tM h ht (by omega),df h λ x _ y _ e=>(digits ht (i:=j) (j:=j) (by omega) (by omega) e).1,λ a ha b hb e=>?_⟩;subst e;obtain⟨y,hy,i,hi,rfl⟩:=mix_mem.mp ha;obtain⟨z,hz,e⟩:=List.mem_map.mp hb;have:=(digits ht (i:=j) (j:=i) (by omega) (by omega) e).2;omega
theorem mh {n:Int}{xs:List Int}(h:Beat n xs){t:Nat}(ht:1<=t):Beat (n*t) (isort (mix xs t t)):=by
 refine eB ?_ (tM h.nd (by omega) (by omega)) λ x hx=>?_
 ·obtain⟨x,hx⟩:=CJ xs h.ne
  exact List.ne_nil_of_mem (mix_mem.mpr ⟨x,hx,0,by omega,rfl⟩)
 ·obtain⟨y,hy,i,hi,rfl⟩:=mix_mem.mp hx
  have h1:=h.rg y hy;have h2:0<=y*(t:Int):=DK h1.1 (by omega);have h3:(y+1)*(t:Int)<=n*t:=Int.mul_le_mul_of_nonneg_right (by omega) (by omega);rw[Int.add_mul,Int.one_mul] at h3;omega
def hits (n:Int)(beat starts:List Int):List Int:=starts.flatMap λ s=>beat.map λ b=>(b+s)%n
def bump (c:List Int)(p:Int):List Int:=c.set p.toNat (c.getD p.toNat 0+1)
def tally (n:Nat)(ps:List Int):List Int:=ps.foldl bump (List.replicate n 0)
theorem iZ (c:List Int)(p:Int):(bump c p).length=c.length:=by unfold bump;rw[BD]
theorem cI:∀ (ps:List Int) (c:List Int),(ps.foldl bump c).length=c.length
 | [],c=>rfl
 | p::r,c=>by rw[Bn,cI,iZ]
theorem jO (n:Nat)(ps:List Int):(tally n ps).length=n:=by unfold tally;rw[cI,Cd]
theorem dN:∀ (ps:List Int) (c:List Int) (i:Nat),i<c.length->(∀ p∈ps,0<=p)->(ps.foldl bump c)[i]?.getD 0=c[i]?.getD 0+(ps.count (i:Int):Nat)
 | [],c,i,_,_=>by simp
 | p::r,c,i,h,g=>by
  rw[Bn,dN r (bump c p) i (by rw[iZ];exact h) λ q hq=>g q (A5 _ hq)];have gp:=g p (A6 ..);unfold bump;rw[List.getElem?_set];by_cases e:p.toNat=i
  ·have e2:p=(i:Int):=by omega
   subst e2;simp[h,A7];omega
  ·have e2:¬ p=(i:Int):=by omega
   have e3:¬ (i:Int)=p:=by omega
   simp[e,e2,List.count_cons]
theorem l9 (n:Nat){ps:List Int}(g:∀ p∈ps,0<=p):tally n ps=(List.range n).map λ (i:Nat)=>((ps.count (i:Int):Nat):Int):=by
 apply CV;intro i;by_cases h:i<n
 ·have h1:=dN ps (List.replicate n 0) i (by simpa using h) g
  have hl:i<(tally n ps).length:=by rw[jO];exact h
  have h2:(tally n ps)[i]?=some ((tally n ps)[i]?.getD 0):=by rw[Ba hl];rfl
  rw[h2];show some ((ps.foldl bump (List.replicate n 0))[i]?.getD 0)=_
  rw[h1];simp[h]
 ·rw[BY (by rw[jO];omega),BY (by simp;omega)]
theorem fF {n:Int}(hn:0<n){beat starts:List Int}:∀ p∈hits n beat starts,0<=p/\p<n:=λ p hp=>by
 unfold hits at hp;obtain⟨s,_,h⟩:=List.mem_flatMap.mp hp;obtain⟨b,_,rfl⟩:=List.mem_map.mp h;exact bA hn
structure Fill (n:Int)(a b:List Int):Prop where
 one:Beat n a
 oth:Beat n b
 len:((a.length*b.length:Nat):Int)=n
 inj:∀ x∈a,∀ y∈a,∀ s∈b,∀ t∈b,(x+s)%n=(y+t)%n->x=y/\s=t
theorem ic {a b:List Int}(p:a.Perm b){x:Int}(h:x∈a):x∈b:=p.mem_iff.mp h
theorem Fill.turn {n c:Int}{a b:List Int}(h:Fill n a b):Fill n (isort (a.map λ x=>(x+c)%n)) b:=by
 have hp:=h.one.pos;refine⟨da h.one,h.oth,by rw[b7,A4];exact h.len,λ x hx y hy s hs t ht e=>?_⟩;obtain⟨x',hx',rfl⟩:=List.mem_map.mp (ic (ay _) hx);obtain⟨y',hy',rfl⟩:=List.mem_map.mp (ic (ay _) hy);obtain⟨k,e1⟩:=mod_eq_iff.mp e;have q1:=CA (x'+c) n;have q2:=CA (y'+c) n;have e2:(x'+s)%n=(y'+t)%n:=mod_eq_iff.mpr ⟨k+(x'+c)/n-(y'+c)/n,by rw[En,Em];omega⟩;obtain⟨rfl,rfl⟩:=h.inj x' hx' y' hy' s hs t ht e2;exact⟨rfl,rfl⟩
theorem eZ {n:Int}{a:List Int}(ha:a.Nodup):∀ {b:List Int},b.Nodup->(∀ x∈a,∀ y∈a,∀ s∈b,∀ t∈b,(x+s)%n=(y+t)%n->x=y/\s=t)->(hits n a b).Nodup
 | [],_,_=>by simp[hits]
 | s::r,hb,inj=>by
  obtain⟨h1,h2⟩:=List.nodup_cons.mp hb;have e:hits n a (s::r)=(a.map λ b=>(b+s)%n)++hits n a r:=by simp[hits]
  rw[e];refine List.nodup_append.mpr ⟨df ha λ x hx y hy q=>(inj x hx y hy s (A6 ..) s (A6 ..) q).1,eZ ha h2 λ x hx y hy u hu v hv=>inj x hx y hy u (A5 _ hu) v (A5 _ hv),λ p hp q hq z=>?_⟩;subst z;obtain⟨x,hx,rfl⟩:=List.mem_map.mp hp;unfold hits at hq;obtain⟨t,ht,hq⟩:=List.mem_flatMap.mp hq;obtain⟨y,hy,e2⟩:=List.mem_map.mp hq;have:=(inj x hx y hy s (A6 ..) t (A5 _ ht) e2.symm).2;exact h1 (this▸ht)
theorem fE (n:Int)(a:List Int):∀ b:List Int,(hits n a b).length=a.length*b.length
 | []=>by simp[hits]
 | s::r=>by
  have e:hits n a (s::r)=(a.map λ b=>(b+s)%n)++hits n a r:=by simp[hits]
  rw[e,Bo,A4,fE n a r,A8,Nat.mul_succ,Ej]
theorem tS:∀ {xs:List Int} {lo:Int},xs.Pairwise (·<·)->(∀ x∈xs,lo<=x/\x<lo+xs.length)->xs=(List.range xs.length).map λ (i:Nat)=>lo+(i:Int)
 | [],_,_,_=>rfl
 | x::r,lo,h,g=>by
  obtain⟨h1,h2⟩:=List.pairwise_cons.mp h;have gx:=g x (A6 ..);have l:=nh (lo:=x+1) (hi:=lo+((x::r).length:Int)) h2 λ y hy=>⟨h1 y hy,(g y (A5 _ hy)).2⟩
  rw[A8] at l gx;have ex:x=lo:=by
   rw[Ea] at l gx;omega
  subst ex;rw[A8,DC,A2,BI];have:=tS (xs:=r) (lo:=x+1) h2 λ y hy=>by
   have g1:=g y (A5 _ hy);have g2:=h1 y hy;rw[A8,Ea] at g1;omega
  conv=>lhs;rw[this]
  simp only[D3,Dw,List.cons.injEq,true_and];apply BH;intro i _;simp only[Gv,Dp];omega
theorem mO {n:Nat}{ps:List Int}(nd:ps.Nodup)(rg:∀ p∈ps,0<=p/\p<n)(hl:ps.length=n):ps.Perm ((List.range n).map λ (i:Nat)=>(i:Int)):=by
 have h1:=xo (bb ps) ((ay ps).nodup_iff.mpr nd);have h2:=tS (lo:=0) h1 λ x hx=>by
  have:=rg x (ic (ay ps) hx);rw[b7,hl];omega
 rw[b7,hl] at h2;have h3:=(ay ps).symm;rw[h2] at h3;simpa using h3
theorem Fill.perm {n:Int}{a b:List Int}(h:Fill n a b):(hits n a b).Perm ((List.range n.toNat).map λ (i:Nat)=>(i:Int)):=by
 have hp:=h.one.pos;refine mO (eZ h.one.nd h.oth.nd h.inj) (λ p hq=>?_) ?_
 ·have:=fF (n:=n) (by omega) p hq;omega
 ·have:=fE n a b;have:=h.len;omega
theorem count_range (n i:Nat)(h:i<n):((List.range n).map λ (i:Nat)=>(i:Int)).count (i:Int)=1:=by
 have nd:((List.range n).map λ (i:Nat)=>(i:Int)).Nodup:=List.pairwise_map.mpr (List.pairwise_lt_range.imp λ {a b} h=>by omega);have h1:=(List.nodup_iff_count.mp nd) (i:Int);have h2:=List.count_pos_iff.mpr (List.mem_map.mpr ⟨i,List.mem_range.mpr h,rfl⟩:(i:Int)∈(List.range n).map λ (i:Nat)=>(i:Int));omega
theorem Fill.tally {n:Int}{a b:List Int}(h:Fill n a b):tally n.toNat (hits n a b)=List.replicate n.toNat 1:=by
 have hp:=h.one.pos;rw[l9 _ λ p hq=>(fF (by omega) p hq).1];apply CV;intro i;by_cases hi:i<n.toNat
 ·simp[hi,h.perm.count_eq,count_range _ _ hi]
 ·rw[BY (by simp;omega),BY (by simp;omega)]
theorem oO {n:Int}{a b:List Int}(ha:Beat n a)(hb:Beat n b)(h:tally n.toNat (hits n a b)=List.replicate n.toNat 1):Fill n a b:=by
 have hp:=ha.pos;rw[l9 _ λ p hq=>(fF (by omega) p hq).1] at h;have cnt:∀ p:Int,0<=p->p<n->(hits n a b).count p=1:=λ p h0 h1=>by
  have e:=congrArg (λ l=>l[p.toNat]?) h;have hi:p.toNat<n.toNat:=by omega
  simp[hi] at e;have e2:((p.toNat:Nat):Int)=p:=by omega
  have e3:max p 0=p:=by omega
  first
   | (rw[e2] at e;omega)
   | (rw[e3] at e;omega)
 have nd:(hits n a b).Nodup:=by
  rw[List.nodup_iff_count];intro p;by_cases hm:p∈hits n a b
  ·have:=fF (n:=n) (by omega) p hm
   rw[cnt p this.1 this.2];omega
  ·rw[Cr hm];omega
 have pm:(hits n a b).Perm ((List.range n.toNat).map λ (i:Nat)=>(i:Int)):=by
  refine(List.perm_iff_count).mpr λ p=>?_
  by_cases hr:0<=p/\p<n
  ·rw[cnt p hr.1 hr.2]
   have:=count_range n.toNat p.toNat (by omega);rw[show ((p.toNat:Nat):Int)=p by omega] at this;exact this.symm
  ·rw[Cr λ hm=>hr (fF (by omega) p hm),Cr]
   intro hm;obtain⟨i,hi,rfl⟩:=List.mem_map.mp hm;have:=List.mem_range.mp hi;omega
 refine⟨ha,hb,?_,?_⟩
 ·have:=pm.length_eq
  rw[fE,A4,BR] at this;omega
 ·-- two ways to one place would count twice
  have aux:∀ {b:List Int},(hits n a b).Nodup->b.Nodup->∀ x∈a,∀ y∈a,∀ s∈b,∀ t∈b,(x+s)%n=(y+t)%n->x=y/\s=t:=by
   intro b
   induction b with
   | nil=>intro _ _ x _ y _ s hs;simp at hs
   | cons u r ih=>
    intro nd nb x hx y hy s hs t ht e;have eh:hits n a (u::r)=(a.map λ b=>(b+u)%n)++hits n a r:=by simp[hits]
    rw[eh] at nd;obtain⟨n1,n2,n3⟩:=List.nodup_append.mp nd;have inr:∀ z∈a,∀ v∈r,(z+v)%n∈hits n a r:=λ z hz v hv=>List.mem_flatMap.mpr ⟨v,hv,List.mem_map.mpr ⟨z,hz,rfl⟩⟩
    rcases List.mem_cons.mp hs with e1|hs'
    ·rcases List.mem_cons.mp ht with e2|ht'
     ·subst e1 e2
      exact⟨ff (by omega) (ha.rg x hx) (ha.rg y hy) e,rfl⟩
     ·subst e1
      exact absurd e (n3 _ (List.mem_map.mpr ⟨x,hx,rfl⟩) _ (inr y hy t ht'))
    ·rcases List.mem_cons.mp ht with e2|ht'
     ·subst e2
      exact absurd e.symm (n3 _ (List.mem_map.mpr ⟨y,hy,rfl⟩) _ (inr x hx s hs'))
     ·exact ih n2 (List.nodup_cons.mp nb).2 x hx y hy s hs' t ht' e
  exact aux nd hb.nd
end Bt
namespace Wm
open Bt
open Dv (isort)
section
variable {n:Int}{A:List Int}
def Tf (n:Int)(A:List Int)(s:Int):List Int:=isort (A.map λ x=>(x+s)%n)
theorem mem_T {p s:Int}:p∈Tf n A s ↔ ∃ x∈A,(x+s)%n=p:=by
 unfold Tf;rw[(ay _).mem_iff,Cj]
theorem yZ (h:Beat n A):Tf n A 0=A:=by
 unfold Tf;have e:A.map (λ x=>(x+0)%n)=A:=by
  have:A.map (λ x=>(x+0)%n)=A.map id:=BH λ x hx=>by
   have:=h.rg x hx;rw[Dw];exact CY this.1 this.2
  rw[this,Eo]
 rw[e];exact h.sorted
theorem rf {ks:List Int}{j p:Int}:p∈Dv.putKs ks j ↔ p∈ks\/p=j:=by
 unfold Dv.putKs
 split
 ·rename_i h
  constructor
  ·exact .inl
  ·rintro (h' | rfl)
   ·exact h'
   ·exact h
 ·simp
theorem sJ {ks:List Int}{j:Int}(h:ks.Nodup):(Dv.putKs ks j).Nodup:=by
 unfold Dv.putKs
 split
 ·exact h
 ·rename_i q
  exact List.nodup_append.mpr ⟨h,by simp,λ a ha b hb e=>by simp at hb;subst hb;subst e;exact q ha⟩
theorem l0:∀ (ps ks:List Int) {p:Int},p∈ps.foldl Dv.putKs ks ↔ p∈ks\/p∈ps
 | [],ks,p=>by simp
 | q::r,ks,p=>by
  rw[Bn,l0 r,rf,BE]
  constructor
  ·rintro ((h|h)|h)
   ·exact .inl h
   ·exact .inr (.inl h)
   ·exact .inr (.inr h)
  ·rintro (h|h|h)
   ·exact .inl (.inl h)
   ·exact .inl (.inr h)
   ·exact .inr h
theorem oq:∀ (ps ks:List Int),ks.Nodup->(ps.foldl Dv.putKs ks).Nodup
 | [],ks,h=>h
 | q::r,ks,h=>oq r _ (sJ h)
def kz (n:Int)(A S:List Int):List Int:=(S.flatMap (Tf n A)).foldl Dv.putKs []
theorem mem_kz {S:List Int}{p:Int}:p∈kz n A S ↔ ∃ s∈S,∃ x∈A,(x+s)%n=p:=by
 unfold kz;rw[l0,D4]
 constructor
 ·rintro (h|⟨s,hs,h⟩)
  ·simp at h
  ·exact⟨s,hs,mem_T.mp h⟩
 ·rintro ⟨s,hs,h⟩
  exact .inr ⟨s,hs,mem_T.mpr h⟩
theorem iY (S:List Int):(kz n A S).Nodup:=oq _ _ .nil
theorem jf (hn:0<n){S:List Int}:∀ p∈kz n A S,0<=p/\p<n:=λ p hp=>by
 obtain⟨s,_,x,_,rfl⟩:=mem_kz.mp hp;exact bA hn
structure Good (n:Int)(A S:List Int):Prop where
 rg:∀ s∈S,0<=s/\s<n
 nd:S.Nodup
 inj:∀ x∈A,∀ y∈A,∀ s∈S,∀ t∈S,(x+s)%n=(y+t)%n->x=y/\s=t
theorem Good.less {S S':List Int}(h:Good n A S)(nd:S'.Nodup)(sub:∀ s∈S',s∈S):Good n A S':=
 ⟨λ s hs=>h.rg s (sub s hs),nd,λ x hx y hy s hs t ht=>h.inj x hx y hy s (sub s hs) t (sub t ht)⟩
theorem Good.len {S:List Int}(h:Good n A S)(hA:A.Nodup):(kz n A S).length=A.length*S.length:=by
 have p:(kz n A S).Perm (hits n A S):=(BW (iY S) (eZ hA h.nd h.inj)).mpr λ q=>by
  rw[mem_kz];unfold hits;rw[D4]
  constructor
  ·rintro ⟨s,hs,x,hx,e⟩
   exact⟨s,hs,List.mem_map.mpr ⟨x,hx,e⟩⟩
  ·rintro ⟨s,hs,e⟩
   obtain⟨x,hx,e⟩:=List.mem_map.mp e;exact⟨s,hs,x,hx,e⟩
 rw[p.length_eq,fE]
def fre (n:Int)(ks:List Int):List Int:=((List.range n.toNat).map λ (i:Nat)=>(i:Int)).filter λ p=>!decide (p∈ks)
theorem mem_fre {ks:List Int}{p:Int}:p∈fre n ks ↔ (0<=p/\p<n)/\p∉ks:=by
 unfold fre;rw[CO,Cj]
 constructor
 ·rintro ⟨⟨i,hi,rfl⟩,h⟩
  have:=List.mem_range.mp hi;exact⟨by omega,by simpa using h⟩
 ·rintro ⟨h,q⟩
  exact⟨⟨p.toNat,List.mem_range.mpr (by omega),by omega⟩,by simpa using q⟩
theorem zc (ks:List Int):(fre n ks).Pairwise (·<·):=by
 unfold fre;refine List.Pairwise.filter _ (List.pairwise_map.mpr ?_);exact List.pairwise_lt_range.imp λ h=>by omega
theorem fB (hn:0<n){ks:List Int}(nd:ks.Nodup)(rg:∀ p∈ks,0<=p/\p<n):fre n ks=[] ↔ (ks.length:Int)=n:=by
 constructor
 ·intro h
  have p:ks.Perm ((List.range n.toNat).map λ (i:Nat)=>(i:Int)):=by
   refine(BW nd ?_).mpr λ q=>⟨λ hq=>?_,λ hq=>?_⟩
   ·exact(List.pairwise_map.mpr (List.pairwise_lt_range.imp λ h=>by omega)).imp λ {a b} (h:a<b)=>by omega
   ·have:=rg q hq
    exact List.mem_map.mpr ⟨q.toNat,List.mem_range.mpr (by omega),by omega⟩
   ·obtain⟨i,hi,rfl⟩:=List.mem_map.mp hq
    have hi:=List.mem_range.mp hi;by_cases z:(i:Int)∈ks
    ·exact z
    ·have:(i:Int)∈fre n ks:=mem_fre.mpr ⟨by omega,z⟩
     rw[h] at this;cases this
  have:=p.length_eq;rw[A4,BR] at this;omega
 ·intro h
  have p:=mO (n:=n.toNat) nd (λ p hp=>by have:=rg p hp;omega) (by omega);cases q:fre n ks with
  | nil=>rfl
  | cons m r=>
   have hm:m∈fre n ks:=by rw[q];exact A6 ..
   obtain⟨h1,h2⟩:=mem_fre.mp hm;exact absurd (p.mem_iff.mpr (List.mem_map.mpr ⟨m.toNat,List.mem_range.mpr (by omega),by omega⟩)) h2
def kids (n:Int)(A S:List Int)(m:Int):List Int:=(A.map λ x=>(m-x)%n).filter λ s=>(Tf n A s).all λ p=>!decide (p∈kz n A S)
theorem mem_kids {S:List Int}{m s:Int}:s∈kids n A S m ↔ (∃ x∈A,(m-x)%n=s)/\∀ x∈A,(x+s)%n∉kz n A S:=by
 unfold kids;rw[CO,Cj,D5];refine and_congr Iff.rfl ⟨λ h x hx=>?_,λ h p hp=>?_⟩
 ·simpa using h _ (mem_T.mpr ⟨x,hx,rfl⟩)
 ·obtain⟨x,hx,rfl⟩:=mem_T.mp hp
  simpa using h x hx
theorem sF {x m:Int}(hm:0<=m/\m<n):(x+(m-x)%n)%n=m:=by
 have:(x+(m-x)%n)%n=m%n:=mod_eq_iff.mpr ⟨-((m-x)/n),by
  have:=CA (m-x) n;rw[Ep];omega⟩
 rw[this];exact CY hm.1 hm.2
theorem vT (h:Beat n A){S:List Int}{m:Int}:(kids n A S m).Nodup:=by
 unfold kids;refine List.Pairwise.filter _ (df h.nd λ x hx y hy e=>?_);have h1:=h.rg x hx;have h2:=h.rg y hy;obtain⟨k,e⟩:=mod_eq_iff.mp e;have:=fO (d:=y-x) (k:=k) (n:=n) (by omega) (by omega) (by omega) (by omega);omega
theorem iK (S:List Int)(m:Int):(kids n A S m).length<=A.length:=by
 unfold kids;exact BN (DG _ _) (by rw[A4];exact Bh _)
theorem Good.kid (h:Beat n A){S:List Int}{m s:Int}(g:Good n A S)(hm:m∈fre n (kz n A S))(hs:s∈kids n A S m):Good n A (S++[s])/\∃ x∈A,(x+s)%n=m:=by
 have hp:=h.pos;obtain⟨hm1,hm2⟩:=mem_fre.mp hm;obtain⟨⟨x,hx,rfl⟩,hfr⟩:=mem_kids.mp hs;have hsr:0<=(m-x)%n/\(m-x)%n<n:=bA (by omega);have hxm:(x+(m-x)%n)%n=m:=sF hm1;have hnot:(m-x)%n∉S:=λ z=>hm2 (mem_kz.mpr ⟨_,z,x,hx,hxm⟩)
 refine⟨⟨λ t ht=>?_,List.nodup_append.mpr ⟨g.nd,by simp,λ a ha b hb e=>?_⟩,λ y hy z hz t ht u hu e=>?_⟩,x,hx,hxm⟩
 ·rcases List.mem_append.mp ht with ht|ht
  ·exact g.rg t ht
  ·simp at ht;subst ht;exact hsr
 ·simp at hb;subst hb;subst e;exact hnot ha
 ·rcases List.mem_append.mp ht with ht|ht <;>rcases List.mem_append.mp hu with hu|hu
  ·exact g.inj y hy z hz t ht u hu e
  ·simp at hu;subst hu
   exact absurd (mem_kz.mpr ⟨t,ht,y,hy,e⟩) (hfr z hz)
  ·simp at ht;subst ht
   exact absurd (mem_kz.mpr ⟨u,hu,z,hz,e.symm⟩) (hfr y hy)
  ·simp at ht hu;subst ht;subst hu
   exact⟨ff (by omega) (h.rg y hy) (h.rg z hz) e,rfl⟩
def dfs (n:Int)(A:List Int):Nat->List Int->List (List Int)
 | 0,_=>[]
 | d+1,S=>match fre n (kz n A S) with
  | []=>[isort S]
  | m::_=>(kids n A S m).flatMap λ s=>dfs n A d (S++[s])
def cas (n:Int)(A:List Int):Nat->List Int->Nat
 | 0,_=>0
 | d+1,S=>match fre n (kz n A S) with
  | []=>1
  | m::_=>1+((kids n A S m).map λ s=>cas n A d (S++[s])).sum
theorem Good.fill (h:Beat n A){S:List Int}(g:Good n A S)(ne:S≠[])(hf:fre n (kz n A S)=[]):Fill n A (isort S):=by
 have hp:=h.pos;have hl:=(fB (by omega) (iY S) (jf (by omega))).mp hf;rw[g.len h.nd] at hl;refine⟨h,eB ne g.nd g.rg,by rw[b7];exact hl,λ x hx y hy s hs t ht e=>?_⟩;exact g.inj x hx y hy s ((ay S).mem_iff.mp hs) t ((ay S).mem_iff.mp ht) e
theorem en (h:Beat n A):∀ (d:Nat) (S:List Int),Good n A S->S≠[]->∀ B∈dfs n A d S,Fill n A B/\∀ s∈S,s∈B
 | 0,S,_,_,B,hB=>by simp[dfs] at hB
 | d+1,S,g,ne,B,hB=>by
  unfold dfs at hB
  split at hB
  ·rename_i hf
   simp at hB;subst hB;exact⟨g.fill h ne hf,λ s hs=>(ay S).mem_iff.mpr hs⟩
  ·rename_i m r hf
   obtain⟨s,hs,hB⟩:=List.mem_flatMap.mp hB;have hm:m∈fre n (kz n A S):=by rw[hf];exact A6 ..
   obtain⟨f1,f2⟩:=en h d (S++[s]) (g.kid h hm hs).1 (by simp) B hB;exact⟨f1,λ t ht=>f2 t (BK _ ht)⟩
theorem qA {B:List Int}(f:Fill n A B):Good n A B:=⟨f.oth.rg,f.oth.nd,f.inj⟩
theorem eM {S B:List Int}(nd:S.Nodup)(sub:∀ s∈S,s∈B):S.length<=B.length:=nd.length_le_of_subset sub
theorem p6 {B:List Int}(f:Fill n A B):∀ (d:Nat) (S:List Int),S.Nodup->(∀ s∈S,s∈B)->S≠[]->B.length-S.length<d->B∈dfs n A d S
 | 0,S,_,_,_,hd=>by omega
 | d+1,S,nd,sub,ne,hd=>by
  have h:=f.one;have hp:=h.pos;have g:Good n A S:=(qA f).less nd sub;unfold dfs;cases hf:fre n (kz n A S) with
  | nil=>
   have hl:=(fB (by omega) (iY S) (jf (by omega))).mp hf;rw[g.len h.nd] at hl;have hlB:=f.len;have e1:A.length*S.length=A.length*B.length:=by omega
   have e2:S.length=B.length:=CL h.len1 e1;have p:S.Perm B:=(BW nd f.oth.nd).mpr λ x=>⟨sub x,λ hx=>by
    by_cases z:x∈S
    ·exact z
    ·have:=eM (S:=x::S) (B:=B) (List.nodup_cons.mpr ⟨z,nd⟩) (λ s hs=>by
      rcases List.mem_cons.mp hs with rfl|hs
      ·exact hx
      ·exact sub s hs)
     rw[A8] at this;omega⟩
   simp only[Cc];rw[eF p,f.oth.sorted]
  | cons m r=>
   have hm:m∈fre n (kz n A S):=by rw[hf];exact A6 ..
   obtain⟨hm1,hm2⟩:=mem_fre.mp hm;have hcov:m∈hits n A B:=f.perm.mem_iff.mpr (List.mem_map.mpr ⟨m.toNat,List.mem_range.mpr (by omega),by omega⟩);unfold hits at hcov;obtain⟨b,hb,hcov⟩:=List.mem_flatMap.mp hcov;obtain⟨x,hx,hxm⟩:=List.mem_map.mp hcov;have hbr:=f.oth.rg b hb;have hbS:b∉S:=λ z=>hm2 (mem_kz.mpr ⟨b,z,x,hx,hxm⟩)
   have hbk:(m-x)%n=b:=by
    have:(m-x)%n=b%n:=by
     rw[<- hxm];refine mod_eq_iff.mpr ⟨-((x+b)/n),?_⟩;have:=CA (x+b) n;rw[Ep];omega
    rw[this];exact CY hbr.1 hbr.2
   have hk:b∈kids n A S m:=mem_kids.mpr ⟨⟨x,hx,hbk⟩,λ y hy z=>by
    obtain⟨t,ht,w,hw,e⟩:=mem_kz.mp z;exact hbS ((f.inj y hy w hw b hb t (sub t ht) e.symm).2▸ht)⟩
   refine List.mem_flatMap.mpr ⟨b,hk,?_⟩;have nd':(S++[b]).Nodup:=List.nodup_append.mpr ⟨nd,by simp,λ a ha c hc e=>by simp at hc;subst hc;subst e;exact hbS ha⟩;have sub':∀ s∈S++[b],s∈B:=λ s hs=>by
    rcases List.mem_append.mp hs with hs|hs
    ·exact sub s hs
    ·simp at hs;subst hs;exact hb
   have:=eM nd' sub';rw[Bo,BQ] at this;exact p6 f d (S++[b]) nd' sub' (by simp) (by rw[Bo,BQ];omega)
theorem uO (h:Beat n A):∀ (d:Nat) (S:List Int),Good n A S->S≠[]->(dfs n A d S).Nodup
 | 0,S,_,_=>by simp[dfs]
 | d+1,S,g,ne=>by
  unfold dfs
  split
  ·simp
  ·rename_i m r hf
   have hm:m∈fre n (kz n A S):=by rw[hf];exact A6 ..
   show List.Pairwise _ _
   rw[List.pairwise_flatMap];refine⟨λ s hs=>uO h d (S++[s]) (g.kid h hm hs).1 (by simp),?_⟩;have key:∀ s∈kids n A S m,∀ t∈kids n A S m,s≠t->∀ x∈dfs n A d (S++[s]),∀ y∈dfs n A d (S++[t]),x≠y:=by
    intro s hs t ht hst x hx y hy e;subst e;obtain⟨g1,u,hu,e1⟩:=g.kid h hm hs;obtain⟨g2,v,hv,e2⟩:=g.kid h hm ht;obtain⟨f1,f2⟩:=en h d _ g1 (by simp) x hx;obtain⟨_,f3⟩:=en h d _ g2 (by simp) x hy;exact hst (f1.inj u hu v hv s (f2 s (by simp)) t (f3 t (by simp)) (e1.trans e2.symm)).2
   have nd:=vT h (S:=S) (m:=m);generalize kids n A S m=ks at key nd;clear hf hm g
   induction ks with
   | nil=>exact .nil
   | cons a r ih=>
    obtain⟨n1,n2⟩:=List.nodup_cons.mp nd;refine List.pairwise_cons.mpr ⟨λ b hb x hx y hy=>key a (A6 ..) b (A5 _ hb) (λ e=>n1 (e▸hb)) x hx y hy,ih (λ s hs t ht=>key s (A5 _ hs) t (A5 _ ht)) n2⟩
def bnd (a:Nat):Nat->Nat
 | 0=>1
 | r+1=>1+a*bnd a r
theorem iC {f:Int->Nat}{b:Nat}:∀ (l:List Int),(∀ s∈l,f s<=b)->(l.map f).sum<=l.length*b
 | [],_=>by simp
 | s::r,h=>by
  have:=iC r λ t ht=>h t (A5 _ ht)
  have:=h s (A6 ..);rw[A2,Eh,A8,CU];omega
theorem sE (h:Beat n A):∀ (d:Nat) (S:List Int),cas n A d S<=bnd A.length (d-1)
 | 0,S=>by simp[cas,bnd]
 | d+1,S=>by
  unfold cas
  split
  ·show 1<=bnd A.length d
   cases d <;>simp[bnd]
  ·rename_i m r _
   cases d with
   | zero=>
    have:=iC (f:=λ s=>cas n A 0 (S++[s])) (b:=0) (kids n A S m) λ s _=>Bh _
    show 1+_<=1
    omega
   | succ d=>
    have:=iC (f:=λ s=>cas n A (d+1) (S++[s])) (b:=bnd A.length d) (kids n A S m) λ s _=>sE h (d+1) (S++[s])
    have h2:=DL (bnd A.length d) (iK (n:=n) (A:=A) S m);show 1+_<=1+A.length*bnd A.length d
    omega
theorem qd (h:Beat n A):∀ (d:Nat) (S:List Int),(dfs n A d S).length<=A.length ^ (d-1)
 | 0,S=>by simp[dfs]
 | d+1,S=>by
  unfold dfs
  split
  ·show 1<=A.length ^ d
   exact Nat.one_le_pow _ _ h.len1
  ·rename_i m r _
   cases d with
   | zero=>
    rw[DO];have:=iC (f:=λ s=>(dfs n A 0 (S++[s])).length) (b:=0) (kids n A S m) λ s _=>Bh _
    simp only[CF,DW,Nat.pow_zero];omega
   | succ d=>
    rw[DO];have:=iC (f:=λ s=>(dfs n A (d+1) (S++[s])).length) (b:=A.length ^ d) (kids n A S m) λ s _=>qd h (d+1) (S++[s])
    have h2:=DL (A.length ^ d) (iK (n:=n) (A:=A) S m);show _<=A.length ^ (d+1)
    rw[DV,Ds];omega
end
end Wm
namespace Cw
open Dv (Out R RL cmD compGo eAllF eAnd eB1 eB2 eBl eCall eCm eComp eCompT eDict0 eDnin eFld eInt eIx eLst eNeg eNot eOp eOr eTup eVar forGo iRange iSeq iZip keepD lCons lNil opD rngOk sApp sAppG sCons sDPut sExpr sFor sForT sIf sNil sPut sRet sRetO sSet sSetG)
open Dv (D R RL EE EL EI RI Sl Out SS St)
open Bt
abbrev L (xs:List Int):D:=.lst (xs.map .int)
theorem f9:∀ xs:List Int,Dv.intsOf (xs.map .int)=some xs
 | []=>rfl
 | x::r=>by simp[Dv.intsOf,f9 r]
theorem cE:∀ xs:List Int,Dv.flatL (xs.map .int)=true
 | []=>rfl
 | x::r=>by simp[Dv.flatL,Dv.scal,cE r]
theorem zO (i:Int):∀ xs:List Int,Dv.inD i (xs.map .int)=some (decide (i∈xs))
 | []=>by simp[Dv.inD]
 | x::r=>by
  rw[A2];unfold Dv.inD;rw[zO i r];by_cases h:x=i
  ·subst h;simp
  ·have h2:¬ i=x:=λ e=>h e.symm
   simp[h,h2]
theorem xF:∀ a b:List Int,Dv.eqDL (a.map .int) (b.map .int)=some (decide (a=b))
 | [],[]=>rfl
 | [],_::_=>rfl
 | _::_,[]=>rfl
 | x::a,y::b=>by
  show (match (some (decide (x=y)):Option Bool),Dv.eqDL (a.map .int) (b.map .int) with|some p,some q=>some (p&&q)|_,_=>none)=_
  rw[xF a b];show some (decide (x=y)&&decide (a=b))=_
  by_cases h:x=y <;>by_cases h2:a=b <;>simp[h,h2]
theorem zk (a b:List Int):Dv.eqD (L a) (L b)=some (decide (a=b)):=xF a b
theorem eq_int (a b:Int):Dv.eqD (.int a) (.int b)=some (decide (a=b)):=rfl
theorem xw:∀ xs:List Int,Dv.depthL (xs.map .int)=0
 | []=>by simp[Dv.depthL]
 | x::r=>by rw[A2];unfold Dv.depthL;rw[xw r];simp[Dv.depthD]
theorem gq (xs:List Int):Dv.depthD (L xs)=1:=by unfold Dv.depthD;rw[xw]
theorem gT (i:Int):Dv.depthD (.int i)=0:=by unfold Dv.depthD;rfl
theorem yk {s:List Int}{k:Int}(h:0<=k)(h2:k<s.length):Dv.at? (s.map .int) k=some (.int (s.getD k.toNat 0)):=by
 unfold Dv.at?;rw[if_pos h];have:k.toNat<s.length:=by omega
 simp[Bv,A7,Ba this]
theorem nR (a b:List Int):cmD .eq (L a) (L b)=.ok (.bl (decide (a=b))) true:=by
 simp only[Dv.cmD_eq,Dv.cmD_ne,Dv.cmD_lt,Dv.cmD_le,Dv.cmD_gt,Dv.cmD_ge,Dv.cmD_in,Dv.cmD_ni,Dv.cmD_it,Dv.cmD_nt,gq,gq,zk,Dv.optB,CP];rfl
theorem yE (a b:List Int):cmD .ne (L a) (L b)=.ok (.bl (!decide (a=b))) true:=by
 simp only[Dv.cmD_eq,Dv.cmD_ne,Dv.cmD_lt,Dv.cmD_le,Dv.cmD_gt,Dv.cmD_ge,Dv.cmD_in,Dv.cmD_ni,Dv.cmD_it,Dv.cmD_nt,gq,gq,zk,Dv.optB,CP];rfl
theorem bZ (a b:Int):cmD .eq (.int a) (.int b)=.ok (.bl (decide (a=b))) true:=by
 simp only[Dv.cmD_eq,Dv.cmD_ne,Dv.cmD_lt,Dv.cmD_le,Dv.cmD_gt,Dv.cmD_ge,Dv.cmD_in,Dv.cmD_ni,Dv.cmD_it,Dv.cmD_nt,gT,gT,eq_int,Dv.optB,CP];rfl
theorem dh (a b:Int):cmD .ne (.int a) (.int b)=.ok (.bl (!decide (a=b))) true:=by
 simp only[Dv.cmD_eq,Dv.cmD_ne,Dv.cmD_lt,Dv.cmD_le,Dv.cmD_gt,Dv.cmD_ge,Dv.cmD_in,Dv.cmD_ni,Dv.cmD_it,Dv.cmD_nt,gT,gT,eq_int,Dv.optB,CP];rfl
theorem uj (a:List Int):cmD .eq (L a) (.lst [])=.ok (.bl (decide (a=[]))) true:=nR a []
theorem mv (i:Int)(b:List Int):cmD .notin (.int i) (L b)=.ok (.bl (!decide (i∈b))) true:=by
 simp only[Dv.cmD_eq,Dv.cmD_ne,Dv.cmD_lt,Dv.cmD_le,Dv.cmD_gt,Dv.cmD_ge,Dv.cmD_in,Dv.cmD_ni,Dv.cmD_it,Dv.cmD_nt,zO,Dv.optB,CP]
theorem j4 (a b:Int):cmD .lt (.int a) (.int b)=.ok (.bl (decide (a<b))) true:=rfl
theorem oQ (a b:Int):cmD .le (.int a) (.int b)=.ok (.bl (decide (a<=b))) true:=rfl
theorem sO (a b:Int):cmD .gt (.int a) (.int b)=.ok (.bl (decide (b<a))) true:=rfl
theorem zG (a b:Int):cmD .ge (.int a) (.int b)=.ok (.bl (decide (b<=a))) true:=rfl
theorem du {i j:Int}(h:-(2 ^ 64)<i)(h2:i<2 ^ 64):Dv.mulOk i j=true:=by
 have:Dv.bits i<=64:=by
  unfold Dv.bits
  split
  ·omega
  ·have h3:i.natAbs<2 ^ 64:=by omega
   have:=(DH (by omega)).mpr h3;omega
 simp[Dv.mulOk,this]
theorem fK {i j:Int}(h:-(2 ^ 64)<j)(h2:j<2 ^ 64):Dv.mulOk i j=true:=by
 have:Dv.bits j<=64:=by
  unfold Dv.bits
  split
  ·omega
  ·have h3:j.natAbs<2 ^ 64:=by omega
   have:=(DH (by omega)).mpr h3;omega
 simp[Dv.mulOk,this]
theorem vH {i j:Int}(h:Dv.bits i<=1048576)(h2:Dv.bits j<=1048576):Dv.mulOk i j=true:=by
 simp[Dv.mulOk,h,h2]
theorem fm {i:Int}{k:Nat}(hk:0<k)(h:-(2 ^ k)<i)(h2:i<2 ^ k):Dv.bits i<=k:=by
 unfold Dv.bits
 split
 ·omega
 ·have h3:i.natAbs<2 ^ k:=by
   have e:((2 ^ k:Nat):Int)=2 ^ k:=by norm_cast
   omega
  have:=(DH (by omega)).mpr h3;omega
theorem b9 {i j:Int}(h:Dv.mulOk i j=true):opD .mul (.int i) (.int j)=.ok (.int (i*j)) true:=by
 simp[Dv.opD_ai,Dv.opD_al,Dv.opD_su,Dv.opD_mi,Dv.opD_ml,Dv.opD_mo,Dv.opD_fd,Dv.opD_po,Dv.opD_ba,Dv.opD_sh,h]
theorem aF {i j:Int}(h:0<j):opD .mod (.int i) (.int j)=.ok (.int (i%j)) true:=by
 simp[Dv.opD_ai,Dv.opD_al,Dv.opD_su,Dv.opD_mi,Dv.opD_ml,Dv.opD_mo,Dv.opD_fd,Dv.opD_po,Dv.opD_ba,Dv.opD_sh,h]
theorem gu {i j:Int}(h:0<=j):opD .shr (.int i) (.int j)=.ok (.int (i/2 ^ j.toNat)) true:=by
 simp[Dv.opD_ai,Dv.opD_al,Dv.opD_su,Dv.opD_mi,Dv.opD_ml,Dv.opD_mo,Dv.opD_fd,Dv.opD_po,Dv.opD_ba,Dv.opD_sh,h]
theorem ub {j:Int}(h:0<j)(h2:j<2 ^ 200):Dv.divOk j=true:=by
 have h3:j.natAbs<2 ^ 200:=by omega
 have:=(DH (by omega)).mpr h3;simp only[Dv.divOk,Bj,decide_eq_true_eq];omega
theorem cA {i j:Int}(h:0<j)(h2:j<2 ^ 200):opD .fdiv (.int i) (.int j)=.ok (.int (i/j)) true:=by
 simp[Dv.opD_ai,Dv.opD_al,Dv.opD_su,Dv.opD_mi,Dv.opD_ml,Dv.opD_mo,Dv.opD_fd,Dv.opD_po,Dv.opD_ba,Dv.opD_sh,ub h h2]
theorem bE (i j:Int):opD .add (.int i) (.int j)=.ok (.int (i+j)) true:=rfl
theorem tF (i j:Int):opD .sub (.int i) (.int j)=.ok (.int (i-j)) true:=rfl
theorem kP {a b:List Int}(h:a.length+b.length<=100000):opD .add (L a) (L b)=.ok (L (a++b)) true:=by
 simp[Dv.opD_ai,Dv.opD_al,Dv.opD_su,Dv.opD_mi,Dv.opD_ml,Dv.opD_mo,Dv.opD_fd,Dv.opD_po,Dv.opD_ba,Dv.opD_sh,Dv.mx,h,cE]
theorem wj {x n:Int}(h:-100000<=n)(h2:n<=100000):opD .mul (.lst [.int x]) (.int n)=.ok (L (List.replicate n.toNat x)) true:=by
 have h3:n.toNat<=100000:=by omega
 have e:(List.replicate n.toNat [D.int x]).flatten=(List.replicate n.toNat x).map D.int:=by
  generalize n.toNat=k
  induction k with
  | zero=>rfl
  | succ k ih=>rw[BP,B7,ih,BP,A2];rfl
 simp[Dv.opD_ai,Dv.opD_al,Dv.opD_su,Dv.opD_mi,Dv.opD_ml,Dv.opD_mo,Dv.opD_fd,Dv.opD_po,Dv.opD_ba,Dv.opD_sh,Dv.mx,h,h2,h3,e,Dv.flatL,Dv.scal,L]
theorem uy {x n:Int}(h:0<=n)(h2:n<=100000):opD .mul (.lst [.int x]) (.int n)=.ok (L (List.replicate n.toNat x)) true:=wj (by omega) h2
theorem di {xs:List Int}(h:xs.length<64)(f:Bool):Dv.sortedD (L xs) f=.ok (L (Dv.isort xs)) true:=by
 unfold Dv.sortedD;simp only[f9];rw[if_pos h]
theorem bu:Sl.get .no=none:=rfl
theorem yu (d:D):Sl.get (.dp d)=some d:=rfl
theorem aw (d:D):Sl.get (.sh d)=some d:=rfl
theorem bf (d:D):Sl.get (.ow d)=some d:=rfl
theorem aN (d:D):Sl.give (.sh d)=.sh d:=rfl
theorem kx (d:D):Sl.give (.ow d)=.sh d:=rfl
theorem aL:Sl.shared .no=none:=rfl
theorem ax (d:D):Sl.shared (.sh d)=some d:=rfl
theorem aV (d:D):Sl.shared (.ow d)=none:=rfl
theorem ah (i:Int):Dv.scal (.int i)=true:=rfl
theorem ak (i:List D):Dv.scal (.lst i)=false:=rfl
theorem tm (i:List D):Dv.scal (.tup i)=false:=rfl
theorem aQ (i:Int)(f:Bool):keepD (.int i) f=some (.sh (.int i)):=rfl
theorem keep_nil:keepD (.lst []) true=some (.ow (.lst [])):=rfl
theorem sT (i:Int):keepD (.lst [.int i]) true=some (.ow (.lst [.int i])):=rfl
theorem cP (xs:List Int):keepD (L xs) true=some (.ow (L xs)):=by simp[keepD,cE]
theorem nE {elt cond:EE}{free:Dv.Env}{c:Int->Bool}{g:Int->Int}:∀ {xs:List Int},(∀ x∈xs,cond (some (.int x)::free)=.ok (.bl (c x)) true)->(∀ x∈xs,c x=true->elt (some (.int x)::free)=.ok (.int (g x)) true) ->
  compGo elt cond free (xs.map .int)=.ok (((xs.filter c).map g).map .int) true
 | [],_,_=>rfl
 | x::r,h,k=>by
  rw[A2];unfold compGo;rw[h x (A6 ..),nE (c:=c) (g:=g) (λ y hy=>h y (A5 _ hy)) λ y hy=>k y (A5 _ hy)];cases e:c x with
  | true=>rw[k x (A6 ..) e];simp[e]
  | false=>simp[e]
theorem uB {elt:EE}{free:Dv.Env}{g:Int->Int}{xs:List Int}(k:∀ x∈xs,elt (some (.int x)::free)=.ok (.int (g x)) true):
  compGo elt (eBl true) free (xs.map .int)=.ok ((xs.map g).map .int) true:=by
 rw[nE (c:=λ _=>true) (g:=g) (λ _ _=>rfl) λ x hx _=>k x hx,List.filter_eq_self.mpr (λ _ _=>rfl)]
theorem b0 {elt:EE}{is:List Nat}{it:EI}{ρ:Dv.Env}{g:Int->Int}{xs:List Int}{f:Bool}(hi:it ρ=.ok (xs.map .int) f)(hl:xs.length<=100000)(k:∀ x∈xs,elt (some (.int x)::Dv.pick ρ is)=.ok (.int (g x)) true):
  eComp elt (eBl true) is it ρ=.ok (L (xs.map g)) true:=by
 unfold eComp;rw[hi];simp only[A4,Dv.mx,hl,if_true,uB k]
theorem lQ {elt cond:EE}{is:List Nat}{it:EI}{ρ:Dv.Env}{c:Int->Bool}{g:Int->Int}{xs:List Int}{f:Bool}(hi:it ρ=.ok (xs.map .int) f)(hl:xs.length<=100000)(h:∀ x∈xs,cond (some (.int x)::Dv.pick ρ is)=.ok (.bl (c x)) true)
  (k:∀ x∈xs,c x=true->elt (some (.int x)::Dv.pick ρ is)=.ok (.int (g x)) true):eComp elt cond is it ρ=.ok (L ((xs.filter c).map g)) true:=by
 unfold eComp;rw[hi];simp only[A4,Dv.mx,hl,if_true,nE h k]
def upto (n:Nat):List Int:=(List.range n).map λ (i:Nat)=>(i:Int)
theorem jK (lo:Int):∀ n:Nat,Dv.rangeL lo n=((List.range n).map λ (i:Nat)=>lo+(i:Int)).map D.int
 | 0=>rfl
 | n+1=>by
  unfold Dv.rangeL;rw[jK (lo+1) n,DC,A2,A2,BI,BI,BI];simp only[D3,Dw,List.cons.injEq,true_and];apply BH;intro i _;simp only[Gv,Dp];congr 1;omega
theorem bg (n:Nat):Dv.rangeL 0 n=(upto n).map .int:=by rw[jK];simp[upto]
theorem js (n:Nat):upto (n+1)=upto n++[(n:Int)]:=by unfold upto;rw[List.range_succ,Cf];rfl
theorem aY (n:Nat):(upto n).length=n:=by simp[upto]
theorem mem_upto {n:Nat}{x:Int}:x∈upto n ↔ 0<=x/\x<n:=by
 unfold upto;rw[Cj]
 constructor
 ·rintro ⟨i,hi,rfl⟩;have:=List.mem_range.mp hi;omega
 ·intro h;exact⟨x.toNat,List.mem_range.mpr (by omega),by omega⟩
theorem bC {x:Nat}{body:SS}{d:D}{r:List D}{st st':St}(h:body (st.set x (.sh d))=.nx st'):forGo x body (d::r) st=forGo x body r st':=by
 conv=>lhs;unfold forGo
 rw[h]
theorem gg {tgt:D->St->Option St}{body:SS}{d:D}{r:List D}{st st1 st':St}(h0:tgt d st=some st1)(h:body st1=.nx st'):Dv.forGoT tgt body (d::r) st=Dv.forGoT tgt body r st':=by
 conv=>lhs;unfold Dv.forGoT
 rw[h0];simp only[h]
theorem ip {tgt:D->St->Option St}{body:SS}{d:D}{r:List D}{st st1:St}{v:D}{f:Bool}(h0:tgt d st=some st1)(h:body st1=.ret v f):Dv.forGoT tgt body (d::r) st=.ret v f:=by
 conv=>lhs;unfold Dv.forGoT
 rw[h0];simp only[h]
theorem dX {n:Int}(h:1<=n)(h2:n<=60):F_Q04 [.int n]=.ok .non true:=by
 simp only[F_Q04,b_Q04,Dv.fn,sNil,sIf,eOr,eCm,eVar,eInt,Dv.all,R.bind,RL.bind,Out.bind,aw,ah,A2,A9,A8,Bk,List.replicate,Bf,Bg,A1,Nat.reduceAdd,Nat.reduceSub,j4,sO,decide_eq_false (show ¬ n<1 by omega),decide_eq_false (show ¬ 60<n by omega)]
def dU (b n:Int):List Int->Bool
 | []=>true
 | x::r=>decide (b<x)&&decide (x<n)&&dU x n r
theorem ij:∀ {xs:List Int} {b n:Int},dU b n xs=true ↔ xs.Pairwise (·<·)/\∀ x∈xs,b<x/\x<n
 | [],b,n=>by simp[dU]
 | x::r,b,n=>by
  unfold dU;rw[Bj,Bj,decide_eq_true_eq,decide_eq_true_eq,ij,List.pairwise_cons]
  constructor
  ·rintro ⟨⟨h1,h2⟩,h3,h4⟩
   refine⟨⟨λ y hy=>(h4 y hy).1,h3⟩,λ y hy=>?_⟩
   rcases List.mem_cons.mp hy with rfl|hy
   ·exact⟨h1,h2⟩
   ·have:=h4 y hy;omega
  ·rintro ⟨⟨h1,h2⟩,h3⟩
   have:=h3 x (A6 ..);exact⟨this,h2,λ y hy=>⟨h1 y hy,(h3 y (A5 _ hy)).2⟩⟩
theorem beat_iff {n:Int}{xs:List Int}:Beat n xs ↔ xs≠[]/\dU (-1) n xs=true:=by
 rw[ij]
 constructor
 ·intro h;exact⟨h.ne,h.up,λ x hx=>by have:=h.rg x hx;omega⟩
 ·rintro ⟨h1,h2,h3⟩;exact⟨h1,h2,λ x hx=>by have:=h3 x hx;omega⟩
theorem dF (n:Int)(A:D):∀ (xs:List Int) (b:Int) (z:Sl),dU b n xs=true->∃ st',forGo 3 b_Q03_l1 (xs.map .int) [.sh A,.sh (.int n),.sh (.int b),z]=.nx st'
 | [],b,z,_=>⟨_,rfl⟩
 | x::r,b,z,hu=>by
  unfold dU at hu;rw[Bj,Bj,decide_eq_true_eq,decide_eq_true_eq] at hu;obtain⟨⟨h1,h2⟩,h3⟩:=hu;obtain⟨st',h⟩:=dF n A r x (.sh (.int x)) h3;refine⟨st',?_⟩;rw[A2,bC (st':=[.sh A,.sh (.int n),.sh (.int x),.sh (.int x)]),h];simp only[b_Q03_l1,sCons,sNil,sSetG,Dv.give,Dv.open_,aN,ax,sIf,eOr,eCm,eVar,Dv.all,R.bind,RL.bind,Out.bind,aw,ah,A2,A9,A1,A3,Bb,Bc,Bn,Bq,Bi,oQ,zG,decide_eq_false (show ¬ x<=b by omega),decide_eq_false (show ¬ n<=x by omega)]
theorem gR {n:Int}{xs:List Int}(h1:xs≠[])(h:dU (-1) n xs=true):F_Q03 [L xs,.int n]=.ok .non true:=by
 obtain⟨st',e⟩:=dF n (L xs) xs (-1) .no h;have h1:¬ ((xs.length:Int)=0):=by
  have:=List.length_pos_iff.mpr h1;omega
 simp only[F_Q03,b_Q03,b_Q03_t2,b_Q03_t1,Dv.fn,sCons,sNil,sSet,aQ,Dv.give,Dv.open_,aN,aL,ax,sIf,sFor,iSeq,eB1,Dv.lenD,eNeg,eCm,eVar,eInt,Dv.all,R.bind,RL.bind,Out.bind,bu,aw,ak,A2,A9,A8,Bk,List.replicate,Bf,Bg,A1,Bb,Bc,Bn,Bq,Bi,Nat.reduceAdd,Nat.reduceSub,bZ,A4,decide_eq_false h1,e]
theorem cc {n:Int}{xs:List Int}(hn:n<=60)(h:Beat n xs):F_Q02 [.int n,L xs]=.ok .non true:=by
 have e:=gR h.ne (beat_iff.mp h).2;simp only[F_Q02,b_Q02,b_Q02_t1,Dv.fn,sCons,sExpr,eVar,lNil,lCons,eCall,Dv.all,R.bind,RL.bind,Dv.R.bindL,Dv.RL.bindL,Out.bind,aw,ah,ak,A2,A9,A8,Bk,List.replicate,Bf,Bg,A1,A3,Bm,Nat.reduceAdd,Nat.reduceSub,dX h.pos hn,e]
def cell (s:List Int)(k:Int):Int:=
 if k<s.length then s.getD k.toNat 0 else
 if 0<s.length then
  (s.getD (k%s.length).toNat 0*48271+k*7919)%2147483647*((s.getD (k%s.length).toNat 0*48271+k*7919)%2147483647)%2147483629
 else (7919*k+5)*(7919*k+5)%2147483629
theorem cw {s:List Int}{k:Int}(h:0<=k)(h2:k<=1000000):F_Q0E [L s,.int k]=.ok (.int (cell s k)) true:=by
 by_cases hk:k<(s.length:Int)
 ·simp only[F_Q0E,b_Q0E,b_Q0E_t3,b_Q0E_t2,b_Q0E_t1,Dv.fn,sCons,sIf,sRet,eB1,Dv.lenD,eIx,Dv.ixD,eCm,eVar,Dv.all,R.bind,RL.bind,Out.bind,bu,aw,ah,ak,A2,A9,A8,Bk,List.replicate,Bf,Bg,A1,A3,Cn,Nat.reduceAdd,Nat.reduceSub,j4,A4,yk h hk,decide_eq_true hk,cell,if_pos hk]
 ·by_cases hs:0<s.length
  ·have hs':(0:Int)<(s.length:Int):=by omega
   have hm:=bA (n:=(s.length:Int)) (a:=k) hs';have hz:=bA (n:=2147483647) (a:=s.getD (k%(s.length:Int)).toNat 0*48271+k*7919) (by omega);simp only[F_Q0E,b_Q0E,b_Q0E_t3,b_Q0E_t2,b_Q0E_t1,Dv.fn,sCons,sNil,sSet,aQ,sIf,sRet,eB1,Dv.lenD,eIx,Dv.ixD,eCm,eOp,eVar,eInt,Dv.all,R.bind,RL.bind,Out.bind,bu,aw,ah,ak,A2,A9,A8,Bk,List.replicate,Bf,Bg,A1,A3,Bb,Bc,Cn,Nat.reduceAdd,Nat.reduceSub,bE,j4,sO,A4,decide_eq_false hk,cell,if_neg hk,if_pos hs,decide_eq_true hs',aF hs',yk hm.1 hm.2,b9 (fK (j:=48271) (by decide) (by decide)),b9 (fK (j:=7919) (by decide) (by decide)),b9 (du (i:=7919) (by decide) (by decide)),aF (j:=2147483647) (by decide),aF (j:=2147483629) (by decide)];simp only[b9 (du (i:=(s.getD (k%(s.length:Int)).toNat 0*48271+k*7919)%2147483647) (by omega) (by omega)),aF (j:=2147483629) (by decide)]
  ·have hs':¬ (0:Int)<(s.length:Int):=by omega
   simp only[F_Q0E,b_Q0E,b_Q0E_t3,b_Q0E_t2,b_Q0E_t1,Dv.fn,sCons,sNil,sSet,aQ,sIf,sRet,eB1,Dv.lenD,eCm,eOp,eVar,eInt,Dv.all,R.bind,RL.bind,Out.bind,bu,aw,ah,ak,A2,A9,A8,Bk,List.replicate,Bf,Bg,A1,A3,Bb,Bc,Nat.reduceAdd,Nat.reduceSub,bE,j4,sO,A4,decide_eq_false hk,cell,if_neg hk,if_neg hs,decide_eq_false hs',b9 (du (i:=7919) (by decide) (by decide)),b9 (du (i:=7919*k+5) (by omega) (by omega)),aF (j:=2147483629) (by decide)]
def Sm (s:List Int):Prop:=∀ x∈s,Dv.bits x<=1048576
theorem getD_mem {s:List Int}{i:Nat}(h:i<s.length):s.getD i 0∈s:=by
 rw[A7,Ba h];exact BO h
theorem sg {s:List Int}(hs:Sm s){k:Int}(h:0<=k):Dv.bits (cell s k)<=1048576:=by
 have small:∀ a:Int,Dv.bits (a%2147483629)<=1048576:=λ a=>by
  have:=bA (n:=2147483629) (a:=a) (by omega);have:=fm (i:=a%2147483629) (k:=32) (by omega) (by omega) (by omega);omega
 unfold cell
 split
 ·exact hs _ (getD_mem (by omega))
 ·split
  ·exact small _
  ·exact small _
theorem lH {s:List Int}(hs:Sm s){k j:Int}(h:0<=k)(hj:-(2 ^ 200)<j)(hj2:j<2 ^ 200):opD .mul (.int (cell s k)) (.int j)=.ok (.int (cell s k*j)) true:=
 b9 (vH (sg hs h) (by have:=fm (i:=j) (k:=200) (by omega) hj hj2;omega))
theorem mB (x:Int):F_Q0P [.int x]=.ok (.bl true) true:=by
 simp only[F_Q0P,b_Q0P,Dv.fn,sRet,eB1,Dv.isIntD,Dv.isBoolD,eAnd,eNot,eVar,Dv.all,R.bind,RL.bind,Out.bind,aw,ah,A2,A9,A8,Bk,List.replicate,Bf,Bg,A1,BL,Nat.reduceAdd,Nat.reduceSub]
theorem fj:∀ (xs ys:List Int) (A B:D) (y z:Sl),xs.length=ys.length->∃ st',Dv.forGoT (Dv.tupTo [2,3]) b_Q0B_l1 (List.zipWith (λ x y=>D.tup [x,y]) (xs.map .int) (ys.map .int)) [.sh A,.sh B,y,z]=if xs=ys then .nx st' else .ret (.bl false) true
 | [],[],A,B,y,z,_=>⟨_,rfl⟩
 | [],_::_,A,B,y,z,h=>by simp at h
 | _::_,[],A,B,y,z,h=>by simp at h
 | x::xs,w::ys,A,B,y,z,h=>by
  obtain⟨st',e⟩:=fj xs ys A B (.sh (.int x)) (.sh (.int w)) (by simpa using h);refine⟨st',?_⟩;have h0:Dv.tupTo [2,3] (.tup [.int x,.int w]) [.sh A,.sh B,y,z]=some [.sh A,.sh B,.sh (.int x),.sh (.int w)]:=rfl;rw[A2,A2,DD];by_cases hxw:x=w
  ·rw[gg h0 (st':=[.sh A,.sh B,.sh (.int x),.sh (.int w)]),e]
   ·simp[hxw]
   ·simp only[b_Q0B_l1,sNil,sIf,eOr,eNot,eCm,eVar,lNil,lCons,eCall,Dv.all,R.bind,RL.bind,Dv.R.bindL,Dv.RL.bindL,Out.bind,aw,ah,A2,A9,A1,A3,Bm,By,dh,mB,decide_eq_true hxw]
  ·rw[ip h0 (v:=.bl false) (f:=true)]
   ·simp[hxw]
   ·simp only[b_Q0B_l1,sIf,sRet,eOr,eNot,eCm,eVar,eBl,lNil,lCons,eCall,Dv.all,R.bind,RL.bind,Dv.R.bindL,Dv.RL.bindL,Out.bind,aw,ah,A2,A9,A1,A3,Bm,By,BL,dh,mB,decide_eq_false hxw]
theorem iQ (xs ys:List Int):F_Q0B [L xs,L ys]=.ok (.bl (decide (xs=ys))) true:=by
 by_cases h:xs.length=ys.length
 ·obtain⟨st',e⟩:=fj xs ys (L xs) (L ys) .no .no h
  have h1:(xs.length:Int)=ys.length:=by omega
  simp only[F_Q0B,b_Q0B,b_Q0B_t2,b_Q0B_t1,Dv.fn,sCons,sNil,Dv.give,Dv.open_,aN,aL,ax,sIf,sRet,sForT,iZip,eB1,Dv.lenD,Dv.isListD,eOr,eNot,eCm,eVar,eBl,Dv.all,R.bind,RL.bind,Out.bind,bu,aw,ak,A2,A9,A8,Bk,List.replicate,Bf,Bg,A1,A3,Bb,Bc,Bn,Bq,Bi,By,Nat.reduceAdd,Nat.reduceSub,decide_true,dh,A4,h1,e];by_cases h2:xs=ys
  ·simp[h2]
  ·simp[h2]
 ·have h1:¬ (xs.length:Int)=ys.length:=by omega
  have h2:¬ xs=ys:=λ z=>h (by rw[z])
  simp only[F_Q0B,b_Q0B,b_Q0B_t2,b_Q0B_t1,Dv.fn,sCons,sIf,sRet,eB1,Dv.lenD,Dv.isListD,eOr,eNot,eCm,eVar,eBl,Dv.all,R.bind,RL.bind,Out.bind,bu,aw,ak,A2,A9,A8,Bk,List.replicate,Bf,Bg,A1,A3,By,BL,Nat.reduceAdd,Nat.reduceSub,dh,A4,decide_eq_false h1,decide_eq_false h2]
theorem zJ (xs:List Int)(p:Int):xs.map D.int++[.int p]=(xs++[p]).map D.int:=by simp
def cB (bits share p:Int):Int:=
 if share=4 then (if bits/2 ^ ((p+7)%61).toNat%2 > bits/2 ^ p.toNat%2 then bits/2 ^ ((p+7)%61).toNat%2 else bits/2 ^ p.toNat%2)
 else if share=3 then bits/2 ^ p.toNat%2*(bits/2 ^ ((p+7)%61).toNat%2) else bits/2 ^ p.toNat%2
theorem qB {bits share p:Int}(hp:0<=p){found:List Int}(hl:found.length<=1000)(A B C:D)(z:Sl):
  ∃ z',b_Q0N_l1 [.sh A,.sh B,.sh C,.sh (.int bits),.sh (.int share),.ow (L found),.sh (.int p),z]=.nx [.sh A,.sh B,.sh C,.sh (.int bits),.sh (.int share),.ow (L (if cB bits share p=1 then found++[p] else found)),.sh (.int p),z']:=by
 have hm:=bA (n:=61) (a:=p+7) (by omega);have hx:found.length<Dv.mx:=by unfold Dv.mx;omega
 have h2:(0:Int)<2:=by omega
 have hb:=bA (n:=2) (a:=bits/2 ^ p.toNat) (by omega);have go:∀ b:Int,cB bits share p=b->(∃ z',sIf (eCm .eq (eVar 7) (eInt 1)) (sApp 5 (eVar 6)) sNil [.sh A,.sh B,.sh C,.sh (.int bits),.sh (.int share),.ow (L found),.sh (.int p),.sh (.int b)]=.nx [.sh A,.sh B,.sh C,.sh (.int bits),.sh (.int share),.ow (L (if cB bits share p=1 then found++[p] else found)),.sh (.int p),z']):=by
  intro b e;refine⟨.sh (.int b),?_⟩;rw[e];by_cases h1:b=1
  ·simp only[sIf,sApp,eCm,eVar,eInt,Dv.all,R.bind,RL.bind,Out.bind,aw,bf,ah,A2,A9,A1,A3,Bb,Bc,Bm,if_true,bZ,A4,decide_eq_true h1,decide_eq_true hx,if_pos h1,zJ,L]
  ·simp only[sNil,sIf,eCm,eVar,eInt,Dv.all,R.bind,RL.bind,Out.bind,aw,bf,ah,A2,A9,A1,A3,bZ,decide_eq_false h1,if_neg h1,L]
 by_cases h3:share=3
 ·have h4:¬ share=4:=by omega
  obtain⟨z',e⟩:=go (bits/2 ^ p.toNat%2*(bits/2 ^ ((p+7)%61).toNat%2)) (by simp[cB,h3]);refine⟨z',e▸?_⟩;simp only[b_Q0N_l1,sCons,sNil,sSet,aQ,sIf,sApp,eCm,eOp,eVar,eInt,Dv.all,R.bind,RL.bind,Out.bind,aw,bf,ah,A2,A9,A1,A3,Bb,Bc,CM,bE,bZ,A4,gu hp,gu hm.1,aF h2,aF (j:=61) (by decide),decide_eq_true h3,decide_eq_false h4,b9 (du (i:=bits/2 ^ p.toNat%2) (by omega) (by omega))]
 ·by_cases h4:share=4
  ·obtain⟨z',e⟩:=go (if bits/2 ^ ((p+7)%61).toNat%2 > bits/2 ^ p.toNat%2 then bits/2 ^ ((p+7)%61).toNat%2 else bits/2 ^ p.toNat%2) (by simp[cB,h4])
   refine⟨z',e▸?_⟩;simp only[b_Q0N_l1,sCons,sNil,sSet,aQ,sIf,sApp,eB2,Dv.max2D,eCm,eOp,eVar,eInt,Dv.all,R.bind,RL.bind,Out.bind,aw,bf,ah,A2,A9,A1,A3,Bb,Bc,CM,bE,bZ,A4,gu hp,gu hm.1,aF h2,aF (j:=61) (by decide),decide_eq_false h3,decide_eq_true h4]
  ·obtain⟨z',e⟩:=go (bits/2 ^ p.toNat%2) (by simp[cB,h3,h4])
   refine⟨z',e▸?_⟩;simp only[b_Q0N_l1,sCons,sNil,sSet,aQ,sIf,sApp,eCm,eOp,eVar,eInt,Dv.all,R.bind,RL.bind,Out.bind,aw,bf,ah,A2,A9,A1,A3,Bb,Bc,CM,bZ,A4,gu hp,gu hm.1,aF h2,aF (j:=61) (by decide),decide_eq_false h3,decide_eq_false h4]
theorem jo {bits share:Int}(A B C:D):∀ (xs found:List Int) (y z:Sl),(∀ x∈xs,0<=x)->xs.length+found.length<=1000 ->
  ∃ y' z',forGo 6 b_Q0N_l1 (xs.map .int) [.sh A,.sh B,.sh C,.sh (.int bits),.sh (.int share),.ow (L found),y,z]=.nx [.sh A,.sh B,.sh C,.sh (.int bits),.sh (.int share),.ow (L (found++xs.filter λ p=>decide (cB bits share p=1))),y',z']
 | [],found,y,z,_,_=>⟨y,z,by simp[forGo]⟩
 | p::r,found,y,z,h,hl=>by
  rw[A8] at hl;obtain⟨z1,e⟩:=qB (bits:=bits) (share:=share) (h p (A6 ..)) (found:=found) (by omega) A B C z;have hlen:(if cB bits share p=1 then found++[p] else found).length<=found.length+1:=by split <;>simp
  obtain⟨y',z',e2⟩:=jo A B C r (if cB bits share p=1 then found++[p] else found) (.sh (.int p)) z1 (λ x hx=>h x (A5 _ hx)) (by omega);refine⟨y',z',?_⟩;rw[A2,bC (st':=[.sh A,.sh B,.sh C,.sh (.int bits),.sh (.int share),.ow (L (if cB bits share p=1 then found++[p] else found)),.sh (.int p),z1]),e2]
  ·by_cases hb:cB bits share p=1
   ·simp[hb,CH]
   ·simp[hb,CH]
  ·simp only[Bc,Bb];exact e
theorem vK (n:Nat):(upto n).Pairwise (·<·):=by
 unfold upto;exact List.pairwise_map.mpr (List.pairwise_lt_range.imp λ {a b} h=>by omega)
theorem mn {n:Nat}:∀ x∈upto n,(0:Int)<=x:=λ x hx=>(mem_upto.mp hx).1
def eQ (s:List Int)(k n:Int):List Int:=
 if ((upto n.toNat).filter λ p=>decide (cB (cell s k*618970019642690137449562111%2305843009213693951) (cell s (k+1)%5) p=1))=[] then [cell s (k+1)/5%n]
 else (upto n.toNat).filter λ p=>decide (cB (cell s k*618970019642690137449562111%2305843009213693951) (cell s (k+1)%5) p=1)
theorem cY {n:Int}(h:0<=n)(h2:n<=1000):rngOk n=true:=by
 simp only[rngOk,Bj,decide_eq_true_eq];omega
theorem ud {s:List Int}(hs:Sm s){k n:Int}(hk:0<=k)(hk2:k<=1000)(hn:1<=n)(hn2:n<=61):F_Q0N [L s,.int k,.int n]=.ok (L (eQ s k n)) true:=by
 obtain⟨y,z,e⟩:=jo (bits:=cell s k*618970019642690137449562111%2305843009213693951) (share:=cell s (k+1)%5) (L s) (.int k) (.int n) (upto n.toNat) [] .no .no mn (by rw[aY];simp;omega);have hx:(0:Nat)<Dv.mx:=by decide
 by_cases hf:((upto n.toNat).filter λ p=>decide (cB (cell s k*618970019642690137449562111%2305843009213693951) (cell s (k+1)%5) p=1))=[]
 ·rw[hf] at e
  unfold eQ;rw[if_pos hf];simp only[A9,L,B6] at e;simp only[F_Q0N,b_Q0N,b_Q0N_t5,b_Q0N_t4,b_Q0N_t3,b_Q0N_t2,b_Q0N_t1,Dv.fn,sCons,sNil,sSet,aQ,keep_nil,Dv.give,Dv.open_,aL,ax,aV,sIf,sRetO,sApp,sFor,iRange,eCm,eOp,eVar,eInt,eLst,lNil,lCons,eCall,Dv.all,R.bind,RL.bind,Dv.R.bindL,Dv.RL.bindL,Out.bind,bu,aw,bf,ah,ak,A2,A9,A8,Bk,List.replicate,Bf,Bg,A1,A3,Bb,Bc,Bq,Bm,if_true,Nat.reduceAdd,Nat.reduceSub,bE,cw hk (show k<=1000000 by omega),cw (s:=s) (k:=k+1) (by omega) (by omega),lH hs hk (j:=618970019642690137449562111) (by decide) (by decide),aF (j:=2305843009213693951) (by decide),aF (j:=5) (by decide),cY (n:=n) (by omega) (by omega),bg,Dv.flatL,e,cA (j:=5) (by decide) (by decide),aF (show (0:Int)<n by omega),decide_eq_true hx];have q:cmD .eq (.lst []) (.lst [])=.ok (.bl true) true:=nR [] [];simp only[q,ah,A1,A3,Bm,decide_eq_true hx,Dv.flatL]
  all_goals rfl
 ·unfold eQ
  rw[if_neg hf];simp only[Bg,A9,L] at e;simp only[F_Q0N,b_Q0N,b_Q0N_t5,b_Q0N_t4,b_Q0N_t3,b_Q0N_t2,b_Q0N_t1,Dv.fn,sCons,sNil,sSet,aQ,keep_nil,Dv.give,Dv.open_,aL,ax,aV,sIf,sRetO,sApp,sFor,iRange,eCm,eOp,eVar,eInt,eLst,lNil,lCons,eCall,Dv.all,R.bind,RL.bind,Dv.R.bindL,Dv.RL.bindL,Out.bind,bu,aw,bf,ah,ak,A2,A9,A8,Bk,List.replicate,Bf,Bg,A1,A3,Bb,Bc,Bq,Bm,if_true,Nat.reduceAdd,Nat.reduceSub,bE,uj,A4,cw hk (show k<=1000000 by omega),cw (s:=s) (k:=k+1) (by omega) (by omega),lH hs hk (j:=618970019642690137449562111) (by decide) (by decide),aF (j:=2305843009213693951) (by decide),aF (j:=5) (by decide),cY (n:=n) (by omega) (by omega),bg,Dv.flatL,e];have q:=uj ((upto n.toNat).filter λ p=>decide (cB (cell s k*618970019642690137449562111%2305843009213693951) (cell s (k+1)%5) p=1));simp only[L] at q;simp only[q,A1,A3,cE,decide_eq_false hf]
theorem vY {s:List Int}(hs:Sm s){k n:Int}(hk:0<=k)(hk2:k<=1000)(hn:1<=n)(hn2:n<=60):F_Q0N [L s,.int k,.int n]=.ok (L (eQ s k n)) true:=ud hs hk hk2 hn (by omega)
theorem qx (s:List Int)(k:Int){n:Int}(hn:1<=n):Beat n (eQ s k n):=by
 unfold eQ
 split
 ·exact⟨by simp,by simp,λ x hx=>by rw[Cc] at hx;subst hx;exact bA (by omega)⟩
 ·rename_i h
  exact⟨h,(vK _).filter _,λ x hx=>by have:=mem_upto.mp (List.mem_filter.mp hx).1;omega⟩
theorem ee {n by_:Int}{xs:List Int}(hn:0<n)(hl:xs.length<64):F_Q0O [.int n,L xs,.int by_]=.ok (L (Dv.isort (xs.map λ x=>(x+by_)%n))) true:=by
 have hc:c_Q0O_1 [some (.int n),some (L xs),some (.int by_)]=.ok (L (xs.map λ x=>(x+by_)%n)) true:=by
  unfold c_Q0O_1;exact b0 (f:=false) rfl (by omega) λ x hx=>by simp only[eOp,eVar,Dv.pick,R.bind,RL.bind,Out.bind,ah,A2,A9,A1,A3,Bi,bE,aF hn]
 simp only[F_Q0O,b_Q0O,Dv.fn,sRet,eB1,Dv.all,R.bind,RL.bind,Out.bind,aw,A2,A9,A8,Bk,List.replicate,Bf,Bg,Nat.reduceAdd,Nat.reduceSub,hc,di (xs:=xs.map λ x=>(x+by_)%n) (by simpa using hl)]
theorem iF (n:Int)(xs:List Int):∀ t:Nat,(upto t).foldl (λ a k=>a++xs.map (·+k*n)) []=again n xs t
 | 0=>rfl
 | t+1=>by rw[js,Cg,iF n xs t];rfl
theorem iT {n t:Int}{xs:List Int}:∀ (ks found:List Int) (z:Sl),(∀ k∈ks,0<=k/\k<=1000)->found.length+ks.length*xs.length<=100000 ->
  ∃ z',forGo 4 b_Q09_l1 (ks.map .int) [.sh (.int n),.sh (L xs),.sh (.int t),.ow (L found),z]=.nx [.sh (.int n),.sh (L xs),.sh (.int t),.ow (L (ks.foldl (λ a k=>a++xs.map (·+k*n)) found)),z']
 | [],found,z,_,_=>⟨z,rfl⟩
 | k::r,found,z,h,hl=>by
  rw[A8,CU] at hl;have hk:=h k (A6 ..);have hc:c_Q09_1 [some (.int n),some (L xs),some (.int t),some (L found),some (.int k)]=.ok (L (xs.map (·+k*n))) true:=by
   unfold c_Q09_1;exact b0 (f:=false) rfl (by omega) λ x hx=>by simp only[eOp,eVar,Dv.pick,R.bind,RL.bind,Out.bind,ah,A2,A9,A1,A3,Bi,bE,b9 (du (i:=k) (j:=n) (by omega) (by omega))]
  obtain⟨z',e⟩:=iT (n:=n) (t:=t) (xs:=xs) r (found++xs.map (·+k*n)) (.sh (.int k)) (λ x hx=>h x (A5 _ hx)) (by rw[Bo,A4];omega);refine⟨z',?_⟩;rw[A2,bC (st':=[.sh (.int n),.sh (L xs),.sh (.int t),.ow (L (found++xs.map (·+k*n))),.sh (.int k)]),e]
  ·rfl
  ·simp only[b_Q09_l1,sSet,cP,eOp,eVar,Dv.all,R.bind,RL.bind,Out.bind,aw,bf,ak,A2,A9,A1,A3,Bb,Bc,A4,hc,kP (a:=found) (b:=xs.map (·+k*n)) (by rw[A4];omega)]
theorem u3 {n t:Int}{xs:List Int}(ht:0<=t)(ht2:t<=1000)(hl:xs.length<=60):F_Q09 [.int n,L xs,.int t]=.ok (L (again n xs t.toNat)) true:=by
 obtain⟨z,e⟩:=iT (n:=n) (t:=t) (xs:=xs) (upto t.toNat) [] .no (λ k hk=>by have:=mem_upto.mp hk;omega) (by
  rw[aY];have:t.toNat*xs.length<=1000*60:=C9 (by omega) hl;simp;omega)
 rw[iF] at e;simp only[A9,L] at e;simp only[F_Q09,b_Q09,b_Q09_t2,b_Q09_t1,Dv.fn,sCons,sSet,keep_nil,Dv.give,Dv.open_,aL,ax,aV,sRetO,sFor,iRange,eVar,eLst,lNil,R.bind,RL.bind,Out.bind,ah,A2,A9,A8,Bk,List.replicate,Bf,Bg,A1,A3,Bb,Bc,Bq,if_true,Nat.reduceAdd,Nat.reduceSub,cE,Dv.flatL,cY ht ht2,bg,e]
theorem dO {a r:SS}{st st1:St}(h:a st=.nx st1):sCons a r st=r st1:=by
 unfold sCons;rw[h]
def Hs (s:Sl)(a:List Int):Prop:=s=.sh (L a)\/s=.ow (L a)
theorem Hs.get {s:Sl}{a:List Int}(h:Hs s a):s.get=some (L a):=by rcases h with h|h <;>(subst h;rfl)
theorem Hs.give {s:Sl}{a:List Int}(h:Hs s a):s.give=.sh (L a):=by rcases h with h|h <;>(subst h;rfl)
structure PairP (P:Int->List Int->List Int->Prop):Prop where
 one:P 1 [0] [0]
 beat:∀ {n a b},P n a b->Beat n a/\Beat n b
 again:∀ {n a b} {t:Nat},1<=t->P n a b->P (n*t) (again n a t) b
 mix:∀ {n a b} {t:Nat},1<=t->P n a b->P (n*t) (Dv.isort (mix a t t)) (b.map (·*(t:Int)))
 swap:∀ {n a b},P n a b->P n b a
 turn:∀ {n a b} (c:Int),P n a b->P n (Dv.isort (a.map λ x=>(x+c)%n)) b
theorem ur:PairP (λ n a b=>Beat n a/\Beat n b) where
 one:=⟨⟨by simp,by simp,by simp⟩,⟨by simp,by simp,by simp⟩⟩
 beat:=λ h=>h
 again:=λ {n a b t} ht h=>⟨nT h.1 ht,h.2.ne,h.2.up,λ x hx=>by
  have h1:=h.2.rg x hx;have h2:n*1<=n*(t:Int):=B8 (by omega) (by have:=h.2.pos;omega);omega⟩
 mix:=λ {n a b t} ht h=>⟨mh h.1 ht,lG h.2 (by omega)⟩
 swap:=λ h=>⟨h.2,h.1⟩
 turn:=λ c h=>⟨da h.1,h.2⟩
theorem mM (xs:List Int)(t:Int):∀ j:Nat,(upto j).foldl (λ a k=>a++xs.map (·*t+k)) []=mix xs t j
 | 0=>rfl
 | j+1=>by rw[js,Cg,mM xs t j];rfl
theorem uU (r:Int)(h:0<=r)(h2:r<7):∃ t:Nat,Dv.at? [.int 2,.int 3,.int 2,.int 5,.int 2,.int 3,.int 7] r=some (.int t)/\2<=t/\t<=7:=by
 have:r=0\/r=1\/r=2\/r=3\/r=4\/r=5\/r=6:=by omega
 rcases this with rfl|rfl|rfl|rfl|rfl|rfl|rfl
 ·exact⟨2,rfl,by omega,by omega⟩
 ·exact⟨3,rfl,by omega,by omega⟩
 ·exact⟨2,rfl,by omega,by omega⟩
 ·exact⟨5,rfl,by omega,by omega⟩
 ·exact⟨2,rfl,by omega,by omega⟩
 ·exact⟨3,rfl,by omega,by omega⟩
 ·exact⟨7,rfl,by omega,by omega⟩
theorem km {n:Int}{xs:List Int}(hn:1<=n)(hn2:n<=60)(hl:xs.length<64)(hb:Beat n (Dv.isort (xs.map (·%n)))):F_Q0Q [.int n,L xs]=.ok (L (Dv.isort (xs.map (·%n)))) true:=by
 have hc:c_Q0Q_1 [some (.int n),some (L xs),none]=.ok (L (xs.map (·%n))) true:=by
  unfold c_Q0Q_1;exact b0 (f:=false) rfl (by omega) λ x hx=>by simp only[eOp,eVar,Dv.pick,R.bind,RL.bind,Out.bind,ah,A2,A9,A1,A3,Bi,aF (show (0:Int)<n by omega)]
 simp only[F_Q0Q,b_Q0Q,b_Q0Q_t3,b_Q0Q_t2,b_Q0Q_t1,Dv.fn,sCons,sSet,cP,sRetO,sExpr,eB1,eVar,lNil,lCons,eCall,Dv.all,R.bind,RL.bind,Dv.R.bindL,Dv.RL.bindL,Out.bind,bu,aw,bf,ah,ak,A2,A9,A8,Bk,List.replicate,Bf,Bg,A1,A3,Bb,Bc,Bm,Bu,Nat.reduceAdd,Nat.reduceSub,cE,dX hn hn2,hc,di (xs:=xs.map (·%n)) (by simpa using hl),cc hn2 hb]
theorem gB {n c:Int}{xs:List Int}(hn:n<=60)(h:Beat n xs):F_Q0U [.int n,L xs,.int c]=.ok (L (Dv.isort (xs.map λ x=>(x+c)%n))) true:=by
 have hl:=h.len;have hc:c_Q0U_1 [some (.int n),some (L xs),some (.int c)]=.ok (L (xs.map (·+c))) true:=by
  unfold c_Q0U_1;exact b0 (f:=false) rfl (by omega) λ x hx=>by simp only[eOp,eVar,Dv.pick,R.bind,RL.bind,Out.bind,ah,A2,A9,A1,A3,Bi,bE]
 have e:(xs.map (·+c)).map (·%n)=xs.map λ x=>(x+c)%n:=by rw[BI];rfl
 have hm:=km (n:=n) (xs:=xs.map (·+c)) h.pos hn (by simp;omega) (by rw[e];exact da h);rw[e] at hm;simp only[F_Q0U,b_Q0U,b_Q0U_t1,Dv.fn,sCons,sRet,sExpr,eVar,lNil,lCons,eCall,Dv.all,R.bind,RL.bind,Dv.R.bindL,Dv.RL.bindL,Out.bind,aw,ah,ak,A2,A9,A8,Bk,List.replicate,Bf,Bg,A1,A3,Bm,Bu,Nat.reduceAdd,Nat.reduceSub,cc hn h,hc,hm]
theorem qG {n:Int}(hn:0<n)(A B:D)(s:Int)(beat:List Int)(c:List Int)(hc:c.length=n.toNat)(z y:Sl):∃ z' y',forGo 5 b_Q0F_l1 (beat.map .int) [.sh (.int n),.sh A,.sh B,.ow (L c),.sh (.int s),z,y] =
  .nx [.sh (.int n),.sh A,.sh B,.ow (L ((beat.map λ b=>(b+s)%n).foldl bump c)),.sh (.int s),z',y']:=by
 induction beat generalizing c z y with
 | nil=>exact⟨z,y,rfl⟩
 | cons b r ih=>
  have hm:=bA (n:=n) (a:=s+b) hn;have hcm:(s+b)%n=(b+s)%n:=by rw[Int.add_comm]
  have hk:(s+b)%n<(c.length:Int):=by omega
  obtain⟨z',y',e⟩:=ih (bump c ((b+s)%n)) (by rw[iZ];exact hc) (.sh (.int b)) (.sh (.int ((s+b)%n)));refine⟨z',y',?_⟩;have e2:(c.map D.int).set ((s+b)%n).toNat (.int (c.getD ((s+b)%n).toNat 0+1))=(bump c ((b+s)%n)).map D.int:=by
   unfold bump;rw[List.map_set,hcm]
  rw[A2,A2,Bn,bC (st':=[.sh (.int n),.sh A,.sh B,.ow (L (bump c ((b+s)%n))),.sh (.int s),.sh (.int b),.sh (.int ((s+b)%n))])]
  ·exact e
  ·simp only[b_Q0F_l1,sCons,sSet,aQ,sPut,eIx,Dv.ixD,eOp,eVar,eInt,Dv.all,R.bind,RL.bind,Out.bind,aw,bf,ah,ak,A2,A9,A1,A3,Bb,Bc,Cn,Bm,if_true,bE,A4,aF hn,yk hm.1 hk,decide_eq_true hm.1,decide_eq_true hk,e2]
theorem nk {n:Int}(hn:0<n)(B:D)(beat:List Int)(starts:List Int)(c:List Int)(hc:c.length=n.toNat)(z y x:Sl):∃ z' y' x',forGo 4 b_Q0F_l2 (starts.map .int) [.sh (.int n),.sh (L beat),.sh B,.ow (L c),z,y,x] =
  .nx [.sh (.int n),.sh (L beat),.sh B,.ow (L ((hits n beat starts).foldl bump c)),z',y',x']:=by
 induction starts generalizing c z y x with
 | nil=>exact⟨z,y,x,rfl⟩
 | cons s r ih=>
  obtain⟨y1,x1,e1⟩:=qG hn (L beat) B s beat c hc y x;obtain⟨z',y',x',e⟩:=ih ((beat.map λ b=>(b+s)%n).foldl bump c) (by rw[cI];exact hc) (.sh (.int s)) y1 x1;refine⟨z',y',x',?_⟩;have e3:hits n beat (s::r)=(beat.map λ b=>(b+s)%n)++hits n beat r:=by simp[hits]
  rw[e3,Cg,A2];rw[bC (st':=[.sh (.int n),.sh (L beat),.sh B,.ow (L ((beat.map λ b=>(b+s)%n).foldl bump c)),.sh (.int s),y1,x1])]
  ·exact e
  ·simp only[b_Q0F_l2,Dv.give,Dv.open_,aN,ax,aV,sFor,iSeq,eVar,ak,A2,A9,A1,A3,Bb,Bc,Bn,Bq,Bi,e1]
theorem qP {n:Int}{beat starts:List Int}(hn:0<n)(hn2:n<=60):F_Q0F [.int n,L beat,L starts]=.ok (.bl (decide (tally n.toNat (hits n beat starts)=List.replicate n.toNat 1))) true:=by
 obtain⟨z,y,x,e⟩:=nk (n:=n) hn (L starts) beat starts (List.replicate n.toNat 0) (by simp) .no .no .no;simp only[F_Q0F,b_Q0F,b_Q0F_t2,b_Q0F_t1,Dv.fn,sCons,sSet,cP,Dv.give,Dv.open_,aN,aL,ax,aV,sRet,sFor,iSeq,eCm,eOp,eVar,eInt,eLst,lNil,lCons,Dv.all,R.bind,RL.bind,Dv.R.bindL,Dv.RL.bindL,Out.bind,bu,aw,bf,ah,ak,A2,A9,A8,Bk,List.replicate,Bf,Bg,A1,A3,Bb,Bc,Bn,Bq,Bi,Bm,Nat.reduceAdd,Nat.reduceSub,nR,uy (x:=0) (show 0<=n by omega) (show n<=100000 by omega),uy (x:=1) (show 0<=n by omega) (show n<=100000 by omega),e]
 all_goals rfl
open Dv (D R RL EE EL EI RI Sl Out SS St Wy An Cs Ws WR Wk)
open Bt Wm
section
variable {n:Int}{A:List Int}
def wy (n:Int)(A:List Int)(s:Int):Wy:=⟨.int s,Tf n A s⟩
theorem vC (s:Int):(wy n A s).d=.tup [.int s,L (Tf n A s)]:=rfl
theorem lL:∀ (ks:List Int) (ds:List D) (j:Int) (x:D),(Dv.replL ks ds j x).length=ds.length
 | [],ds,j,x=>by unfold Dv.replL;rfl
 | _::_,[],j,x=>by unfold Dv.replL;rfl
 | k::ks,d::ds,j,x=>by unfold Dv.replL;simp[lL ks ds j x]
theorem vV {ks:List Int}{ds:List D}{j:Int}{x:D}(h:ks.length=ds.length):(Dv.putKs ks j).length=(Dv.putL ks ds j x).length:=by
 unfold Dv.putKs Dv.putL
 split
 ·rw[lL];exact h
 ·simp[h]
theorem u5 (ks:List Int)(j:Int):(Dv.putKs ks j).length<=ks.length+1:=by
 unfold Dv.putKs
 split <;>simp
theorem pX {a b:D}{c:Sl}:∀ (ps ks:List Int) (ds:List D) (z:Sl),ks.length=ds.length->ks.length+ps.length<100000 ->
  ∃ ds' z',forGo 4 b_Q0T_l1 (ps.map .int) [.sh a,.ow (.dct ks ds),.sh b,c,z]=.nx [.sh a,.ow (.dct (ps.foldl Dv.putKs ks) ds'),.sh b,c,z']/\(ps.foldl Dv.putKs ks).length=ds'.length
 | [],ks,ds,z,h,_=>⟨ds,z,rfl,h⟩
 | p::r,ks,ds,z,h,hl=>by
  rw[A8] at hl;have:=u5 ks p;obtain⟨ds',z',e,h'⟩:=pX r (Dv.putKs ks p) (Dv.putL ks ds p (.bl true)) (.sh (.int p)) (vV h) (by omega);refine⟨ds',z',?_,h'⟩;rw[A2,bC (st':=[.sh a,.ow (.dct (Dv.putKs ks p) (Dv.putL ks ds p (.bl true))),.sh b,c,.sh (.int p)]),e]
  ·rfl
  ·have hb:(decide (ks.length<Dv.mx)&&decide (ks.length=ds.length))=true:=by
    rw[Bj];exact⟨decide_eq_true (by unfold Dv.mx;omega),decide_eq_true h⟩
   simp only[b_Q0T_l1,Dv.give,Dv.open_,ax,aV,eVar,eBl,ah,A2,A9,A1,A3,Bb,Bc,Bq,if_true,sDPut,hb]
theorem xN (s:Int):(Tf n A s).length=A.length:=by unfold Tf;rw[b7,A4]
theorem lx {a:D}:∀ (S ks:List Int) (ds:List D) (z2 z3 z4:Sl),ks.length=ds.length->ks.length+S.length*A.length<100000 ->
  ∃ ds' y2 y3 y4,Dv.forGoT (Dv.tupTo [2,3]) b_Q0T_l2 ((S.map (wy n A)).map Wy.d) [.sh a,.ow (.dct ks ds),z2,z3,z4]=.nx [.sh a,.ow (.dct ((S.flatMap (Tf n A)).foldl Dv.putKs ks) ds'),y2,y3,y4]/\((S.flatMap (Tf n A)).foldl Dv.putKs ks).length=ds'.length
 | [],ks,ds,z2,z3,z4,h,_=>⟨ds,z2,z3,z4,rfl,h⟩
 | s::r,ks,ds,z2,z3,z4,h,hl=>by
  rw[A8,CU] at hl;have tl:=xN (n:=n) (A:=A) s;obtain⟨ds1,z',e1,h1⟩:=pX (a:=a) (b:=.int s) (c:=.sh (L (Tf n A s))) (Tf n A s) ks ds z4 h (by omega);have fl:∀ (ps ks:List Int),(ps.foldl Dv.putKs ks).length<=ks.length+ps.length:=by
   intro ps
   induction ps with
   | nil=>intro ks;simp
   | cons p r ih=>intro ks;have:=ih (Dv.putKs ks p);have:=u5 ks p;rw[Bn,A8];omega
  have:=fl (Tf n A s) ks;obtain⟨ds2,y2,y3,y4,e2,h2⟩:=lx r ((Tf n A s).foldl Dv.putKs ks) ds1 (.sh (.int s)) (.sh (L (Tf n A s))) z' h1 (by omega);refine⟨ds2,y2,y3,y4,?_,?_⟩
  ·rw[A2,A2,vC,gg (st1:=[.sh a,.ow (.dct ks ds),.sh (.int s),.sh (L (Tf n A s)),z4]) (st':=[.sh a,.ow (.dct ((Tf n A s).foldl Dv.putKs ks) ds1),.sh (.int s),.sh (L (Tf n A s)),z']) rfl,e2,Ci,Cg]
   simp only[L] at e1;simp only[b_Q0T_l2,Dv.give,Dv.open_,aN,ax,aV,sFor,iSeq,eVar,ak,A2,A9,A1,A3,Bb,Bc,Bn,Bq,Bi,L,e1]
  ·rw[Ci,Cg];exact h2
theorem jl {S:List Int}(hl:S.length*A.length<100000):∃ ds,F_Q0T [Dv.wyL (S.map (wy n A))]=.ok (.dct (kz n A S) ds) false/\(kz n A S).length=ds.length:=by
 obtain⟨ds,y2,y3,y4,e,h⟩:=lx (n:=n) (A:=A) (a:=Dv.wyL (S.map (wy n A))) S [] [] .no .no .no rfl (by simpa using hl);refine⟨ds,?_,h⟩;have kp:keepD (.dct [] []) true=some (.ow (.dct [] [])):=rfl;simp only[Dv.wyL] at e;simp only[F_Q0T,b_Q0T,b_Q0T_t1,b_Q0T_t2,Dv.fn,sCons,sSet,Dv.give,Dv.open_,aN,aL,ax,aV,sRetO,sForT,iSeq,eVar,R.bind,RL.bind,Out.bind,eDict0,ak,A2,A9,A8,Bk,List.replicate,Bf,Bg,A1,A3,Bb,Bc,Bn,Bq,Bi,Nat.reduceAdd,Nat.reduceSub,kp,Dv.wyL,e];rfl
theorem cb:∀ {ks:List Int} {ds:List D} {p:Int},ks.length=ds.length->(Dv.look ks ds p).isSome=decide (p∈ks)
 | [],ds,p,_=>by simp[Dv.look]
 | k::ks,[],p,h=>by simp at h
 | k::ks,d::ds,p,h=>by
  unfold Dv.look;by_cases e:k=p
  ·subst e;simp
  ·rw[if_neg e,cb (by simpa using h)]
   have:(p=k)=False:=by simp;omega
   simp[this]
theorem As {S:List Int}{d:D}(hl:S.length<64):kW.fs [none,some (.ins ["laid"] [Dv.wyL (S.map (wy n A))]),some d]=.ok (L (Dv.isort S)) true:=by
 have go:∀ S:List Int,Dv.compGoT 2 (eVar 0) (eBl true) (Dv.pick [none,some (.ins ["laid"] [Dv.wyL (S.map (wy n A))]),some d] []) ((S.map (wy n A)).map Wy.d)=.ok (S.map .int) true:=by
  intro S0;generalize Dv.pick _ _=fr
  induction S0 with
  | nil=>rfl
  | cons s r ih=>
   rw[A2,A2,vC];simp only[Dv.compGoT,A8,Bk,if_true,A2,A9,eVar,eBl,ah,A2,A9,A8,Bk,Bf,Bg,A1,Bm,if_true,Nat.reduceAdd,ih]
 have hit:iSeq (eFld "laid" (eVar 1)) [none,some (.ins ["laid"] [Dv.wyL (S.map (wy n A))]),some d]=.ok ((S.map (wy n A)).map Wy.d) false:=by
  simp[iSeq,eFld,eVar,Dv.fldD,Dv.lookS,R.bind,Dv.wyL,Dv.scal]
 have hlen:((S.map (wy n A)).map Wy.d).length<=Dv.mx:=by rw[A4,A4];unfold Dv.mx;omega
 have hc:d9 [none,some (.ins ["laid"] [Dv.wyL (S.map (wy n A))]),some d]=.ok (L S) true:=by
  have:=go S;simp only[d9,eCompT,hit,hlen,if_true,this]
  try rfl
 show eB1 Dv.sortedD d9 _=_
 simp only[eB1,hc,R.bind];exact di hl true
theorem oY:∀ {r:List Int} {m:Int},(∀ x∈r,m<x)->Dv.minI m r=m
 | [],m,_=>rfl
 | x::r,m,h=>by
  unfold Dv.minI;have:=h x (A6 ..);rw[if_neg (by omega)];exact oY λ y hy=>h y (A5 _ hy)
theorem zH {wys:List (List Wy)}{ks:List Int}{ds:List D}{d1:D}{m:Int}{r:List Int}(hw:(wys.length:Int)=n)(hn:0<n)(hn2:n<=60)(hk:ks.length=ds.length)(hf:fre n ks=m::r):
  kW.fl [some (.ins ["ways"] [Dv.wysD wys]),some d1,some (.dct ks ds)]=.ok (.int m) true:=by
 have hit:iRange (eB1 Dv.lenD (eFld "ways" (eVar 0))) [some (.ins ["ways"] [Dv.wysD wys]),some d1,some (.dct ks ds)]=.ok ((upto n.toNat).map .int) true:=by
  have e1:eB1 Dv.lenD (eFld "ways" (eVar 0)) [some (.ins ["ways"] [Dv.wysD wys]),some d1,some (.dct ks ds)]=.ok (.int n) true:=by
   simp[eB1,eFld,eVar,Dv.fldD,Dv.lookS,R.bind,Dv.wysD,Dv.lenD,hw]
  simp only[iRange,e1,cY (n:=n) (by omega) (by omega),if_true,bg]
 have hc:dt [some (.ins ["ways"] [Dv.wysD wys]),some d1,some (.dct ks ds)]=.ok (L (fre n ks)) true:=by
  unfold dt;have:=lQ (elt:=eVar 0) (cond:=eDnin (eVar 0) (eVar 1)) (is:=[2]) (it:=iRange (eB1 Dv.lenD (eFld "ways" (eVar 0)))) (ρ:=[some (.ins ["ways"] [Dv.wysD wys]),some d1,some (.dct ks ds)]) (c:=λ p=>!decide (p∈ks)) (g:=λ p=>p) (xs:=upto n.toNat) hit (by rw[aY];omega)
   (λ x _=>by simp[eDnin,eVar,Dv.dninD,R.bind,Dv.pick,cb hk]) (λ x _ _=>rfl)
  rw[this];simp[fre,upto]
 show eB1 Dv.minLD dt _=_
 have up:=zc (n:=n) ks;rw[hf] at hc up;simp only[eB1,hc,R.bind,Dv.minLD,L];rw[f9];simp only;rw[oY (List.pairwise_cons.mp up).1]
theorem Ax {ks:List Int}{ds:List D}{s:Int}(hk:ks.length=ds.length)(hA:A.length<=1000):
  kW.ft [none,none,some (.dct ks ds),none,none,none,some (wy n A s).d]=.ok (L ((Tf n A s).filter λ p=>decide (p∈ks))) true:=by
 have hit:iSeq (eIx (eVar 6) (eInt 1)) [none,none,some (.dct ks ds),none,none,none,some (wy n A s).d]=.ok ((Tf n A s).map .int) false:=by
  rw[vC];simp[iSeq,eIx,eVar,eInt,R.bind,Dv.ixD,Dv.at?,L,Dv.scal]
 have ek:kW.ft=eS:=rfl;rw[ek];unfold eS;have:=lQ (elt:=eVar 0) (cond:=eB2 Dv.dinD (eVar 0) (eVar 1)) (is:=[2]) (it:=iSeq (eIx (eVar 6) (eInt 1))) (ρ:=[none,none,some (.dct ks ds),none,none,none,some (wy n A s).d]) (c:=λ p=>decide (p∈ks)) (g:=λ p=>p) (xs:=Tf n A s) hit (by rw[xN];omega)
  (λ x _=>by simp[eB2,eVar,Dv.dinD,R.bind,Dv.pick,cb hk]) (λ x _ _=>rfl)
 rw[this];simp
end
section
variable {n:Int}{A:List Int}
def cW (n:Int)(A:List Int):List (List Wy):=(upto n.toNat).map λ p=>A.map λ x=>wy n A ((p-x)%n)
def Valid (w:Ws):Prop:=∀ c∈w.wait,c.at_<(w.sto.getD c.ix []).length
theorem iJ {ks:List Int}{ds:List D}{l:List Wy}(hk:ks.length=ds.length)(hA:A.length<=1000):∀ (ss:List Int) (as:List An) (f:List (List Wy×Nat)),
  ∃ as' cs,Dv.rowGo kW l (.dct ks ds) (ss.map (wy n A)) as f=some (as',f++cs)/\as'.length=as.length+ss.length/\cs.map (·.1)=(ss.filter λ s=>(Tf n A s).all λ p=>!decide (p∈ks)).map (λ s=>l++[wy n A s])/\∀ c∈cs,c.2<as'.length
 | [],as,f=>⟨as,[],by simp[Dv.rowGo],rfl,rfl,λ c hc=>by cases hc⟩
 | s::r,as,f=>by
  rw[A2];unfold Dv.rowGo;rw[Ax hk hA];cases hq:(Tf n A s).filter λ p=>decide (p∈ks) with
  | nil=>
   have hall:((Tf n A s).all λ p=>!decide (p∈ks))=true:=by
    rw[D5];intro p hp;have:p∉(Tf n A s).filter λ p=>decide (p∈ks):=by rw[hq];simp
    rw[CO] at this;simpa[hp] using this
   obtain⟨as',cs,e,h1,h2,h3⟩:=iJ hk hA r (as++[.non]) (f++[(l++[wy n A s],as.length)]);refine⟨as',(l++[wy n A s],as.length)::cs,?_,?_,?_,λ c hc=>?_⟩
   ·show Dv.rowGo kW l (.dct ks ds) (r.map (wy n A)) (as++[.non]) (f++[(l++[wy n A s],as.length)])=_
    rw[e];simp
   ·rw[h1];simp;omega
   ·rw[A2,CH,if_pos hall,A2,h2]
   ·rcases List.mem_cons.mp hc with rfl|hc
    ·rw[h1];simp;omega
    ·exact h3 c hc
  | cons p q=>
   have hall:((Tf n A s).all λ p=>!decide (p∈ks))=false:=by
    have hp:p∈(Tf n A s).filter λ p=>decide (p∈ks):=by rw[hq];exact A6 ..
    obtain⟨h1,h2⟩:=List.mem_filter.mp hp;cases z:(Tf n A s).all λ p=>!decide (p∈ks) with
    | false=>rfl
    | true=>
     have:=List.all_eq_true.mp z p h1;rw[h2] at this;simp at this
   obtain⟨as',cs,e,h1,h2,h3⟩:=iJ hk hA r (as++[.twi p]) f;refine⟨as',cs,?_,?_,?_,h3⟩
   ·show Dv.rowGo kW l (.dct ks ds) (r.map (wy n A)) (as++[.twi p]) f=_
    exact e
   ·rw[h1];simp;omega
   ·rw[CH,if_neg (by rw[hall];simp),h2]
theorem Good.small (h:Beat n A){S:List Int}(g:Good n A S):(S.length:Int)<=n:=by
 have:=g.nd.length_le_of_subset (l₂:=upto n.toNat) λ s hs=>mem_upto.mpr (by have:=g.rg s hs;omega)
 rw[aY] at this;have:=h.pos;omega
theorem k8:(cW n A).length=n.toNat:=by unfold cW;rw[A4,aY]
theorem zp {m:Int}(hm:0<=m/\m<n):(cW n A)[m.toNat]?=some ((A.map λ x=>(m-x)%n).map (wy n A)):=by
 unfold cW;rw[Bv];have:(upto n.toNat)[m.toNat]?=some m:=by
  unfold upto;rw[Bv,B9 (by omega)];simp;omega
 rw[this];simp
theorem jL {α:Type}(l:List α)(c:α):(l++[c]).getLast?=some c:=by simp
theorem j9 {α:Type}(l:List α)(c:α):(l++[c]).dropLast=l:=by simp
theorem rZ (h:Beat n A)(n2:n<=60){S:List Int}{w:Ws}{pre:List Cs}{c:Cs}(g:Good n A S)(hw:w.wait=pre++[c])(hc:c.laid=S.map (wy n A))(ht:w.wys=cW n A)(hg:w.gone≠2000)(hf:fre n (kz n A S)=[]):
  Dv.stepW kW w=.full { w with gone:=w.gone+1,wait:=pre } (L (Dv.isort S)) true:=by
 have hp:=h.pos;have hs:=Good.small h g;have hl:=h.len;obtain⟨ds,e1,e2⟩:=jl (n:=n) (A:=A) (S:=S) (by
  have:S.length*A.length<=60*60:=C9 (by omega) (by omega);omega)
 have hfull:(kz n A S).length=w.wys.length:=by
  have:=(fB (by omega) (iY S) (jf (by omega))).mp hf;rw[ht,k8];omega
 unfold Dv.stepW;rw[if_neg hg,hw,jL];simp only;rw[show kW.fp [Dv.wyL c.laid]=F_Q0T [Dv.wyL (S.map (wy n A))] by rw[hc];rfl,e1];simp only;rw[if_pos hfull,hc,As (by omega),j9]
theorem uX (h:Beat n A)(n2:n<=60){S:List Int}{w:Ws}{pre:List Cs}{c:Cs}{m:Int}{r:List Int}(g:Good n A S)(hw:w.wait=pre++[c])(hc:c.laid=S.map (wy n A))(ht:w.wys=cW n A)(hv:Valid w)(hg:w.gone≠2000)(hf:fre n (kz n A S)=m::r)
  (b1:w.rows.length<50000) (b2:pre.length+A.length<=50000):
  ∃ (w':Ws) (cs:List Cs),Dv.stepW kW w=.row w'/\w'.wait=pre++cs.reverse/\cs.map (·.laid)=(kids n A S m).map (λ s=>(S++[s]).map (wy n A))/\w'.wys=cW n A/\w'.gone=w.gone+1/\w'.rows.length=w.rows.length+1/\Valid w':=by
 have hp:=h.pos;have hs:=Good.small h g;have hl:=h.len;have hm:m∈fre n (kz n A S):=by rw[hf];exact A6 ..
 obtain⟨hm1,hm2⟩:=mem_fre.mp hm;obtain⟨ds,e1,e2⟩:=jl (n:=n) (A:=A) (S:=S) (by
  have:S.length*A.length<=60*60:=C9 (by omega) (by omega);omega)
 have hnf:¬ (kz n A S).length=w.wys.length:=by
  intro z;rw[ht,k8] at z;have:=(fB (n:=n) (by omega) (iY (n:=n) (A:=A) S) (jf (by omega))).mpr (by omega);rw[this] at hf;cases hf
 have hcv:=hv c (by rw[hw];simp);obtain⟨as,has,hat⟩:∃ as,w.sto[c.ix]?=some as/\c.at_<as.length:=by
  rw[A7] at hcv;cases q:w.sto[c.ix]? with
  | none=>rw[q] at hcv;simp at hcv
  | some as=>rw[q] at hcv;exact⟨as,rfl,hcv⟩
 obtain⟨as',cs0,r1,r2,r3,r4⟩:=iJ (n:=n) (A:=A) (l:=S.map (wy n A)) e2 (by omega) (A.map λ x=>(m-x)%n) [] [];rw[Bg] at r1;have cl:cs0.length<=A.length:=by
  have:=congrArg List.length r3;rw[A4,A4] at this;have h2:=DG (λ s=>(Tf n A s).all λ p=>!decide (p∈kz n A S)) (A.map λ x=>(m-x)%n);rw[A4] at h2;omega
 let sto1:=w.sto.set c.ix (as.set c.at_ (.row w.rows.length))
 refine⟨{ w with gone:=w.gone+1,wait:=pre++cs0.reverse.map (λ p=>⟨p.1,sto1.length,p.2⟩),rows:=w.rows++[(m,sto1.length)],sto:=sto1++[as'] },cs0.map (λ p=>⟨p.1,sto1.length,p.2⟩),?_,?_,?_,ht,rfl,?_,?_⟩
 ·unfold Dv.stepW
  rw[if_neg hg,hw,jL];simp only;rw[show kW.fp [Dv.wyL c.laid]=F_Q0T [Dv.wyL (S.map (wy n A))] by rw[hc];rfl,e1];simp only;rw[if_neg hnf,has];simp only;rw[if_pos hat,j9];unfold Dv.rowW;simp only;have hn:m=Int.ofNat m.toNat:=by show m=((m.toNat:Nat):Int);omega
  rw[hc,ht,zH (n:=n) (wys:=cW n A) (by rw[k8];omega) (by omega) n2 e2 hf];rw[hn];simp only;rw[zp hm1];simp only;rw[r1];simp only;rw[if_pos]
  ·have:((m.toNat:Nat):Int)=Int.ofNat m.toNat:=rfl
   simp only[this];rfl
  ·simp only[Bj,decide_eq_true_eq,A4]
   unfold Dv.mx;refine⟨⟨⟨?_,?_⟩,?_⟩,?_⟩ <;>omega
 ·simp[List.map_reverse]
 ·rw[BI]
  have:(λ (x:Cs)=>x.laid) ∘ (λ (p:List Wy×Nat)=>(⟨p.1,sto1.length,p.2⟩:Cs))=λ p=>p.1:=rfl
  rw[this,r3];unfold kids;refine BH λ s _=>?_
  rw[Cf];rfl
 ·simp
 ·intro c' hc'
  have hc':c'∈pre++cs0.reverse.map (λ p=>(⟨p.1,sto1.length,p.2⟩:Cs)):=hc';show c'.at_<((sto1++[as']).getD c'.ix []).length
  rcases List.mem_append.mp hc' with hc' | hc'
  ·have h0:=hv c' (by rw[hw];exact BK _ hc')
   have hix:c'.ix<w.sto.length:=by
    by_cases z:c'.ix<w.sto.length
    ·exact z
    ·rw[A7,BY (by omega)] at h0;simp at h0
   have h1:(sto1++[as']).getD c'.ix []=sto1.getD c'.ix []:=by
    rw[A7,A7,Bx (by show c'.ix<(w.sto.set _ _).length;rw[BD];exact hix)]
   rw[h1];show c'.at_<((w.sto.set c.ix (as.set c.at_ (.row w.rows.length))).getD c'.ix []).length
   rw[A7];by_cases z:c.ix=c'.ix
   ·rw[<- z,BA (by rw[z];exact hix)]
    rw[A7,<- z,has] at h0;show c'.at_<(as.set c.at_ _).length
    rw[BD];exact h0
   ·rw[BU z]
    rw[A7] at h0;exact h0
  ·obtain⟨p,hp,rfl⟩:=List.mem_map.mp hc'
   have:=r4 p (List.mem_reverse.mp hp);show p.2<((sto1++[as']).getD sto1.length []).length
   rw[A7];simpa using this
theorem qk (h:Beat n A){S:List Int}{d:Nat}{m:Int}
  (ih:∀ (s:Int) (w:Ws) (pre:List Cs) (c:Cs) (acc:List D) (f:Nat),s∈kids n A S m->w.wait=pre++[c]->c.laid=(S++[s]).map (wy n A)->w.wys=cW n A->Valid w->w.gone+cas n A d (S++[s])<=2000->w.rows.length<=w.gone->pre.length+d*A.length<=50000->acc.length+(dfs n A d (S++[s])).length<=50000 ->
   ∃ w',Dv.allGo kW (f+cas n A d (S++[s])) w acc=Dv.allGo kW f w' (acc++(dfs n A d (S++[s])).map L)/\w'.wait=pre/\w'.wys=cW n A/\Valid w'/\w'.gone=w.gone+cas n A d (S++[s])/\w'.rows.length<=w'.gone):
  ∀ (ss:List Int) (cs:List Cs) (w:Ws) (pre:List Cs) (acc:List D) (f:Nat),(∀ s∈ss,s∈kids n A S m)->cs.map (·.laid)=ss.map (λ s=>(S++[s]).map (wy n A))->w.wait=pre++cs.reverse->w.wys=cW n A->Valid w->w.gone+(ss.map λ s=>cas n A d (S++[s])).sum<=2000->w.rows.length<=w.gone ->
   pre.length+ss.length+d*A.length<=50000->acc.length+(ss.flatMap λ s=>dfs n A d (S++[s])).length<=50000 ->
   ∃ w',Dv.allGo kW (f+(ss.map λ s=>cas n A d (S++[s])).sum) w acc=Dv.allGo kW f w' (acc++(ss.flatMap λ s=>dfs n A d (S++[s])).map L)/\w'.wait=pre/\w'.wys=cW n A/\Valid w'/\w'.gone=w.gone+(ss.map λ s=>cas n A d (S++[s])).sum/\w'.rows.length<=w'.gone
 | [],cs,w,pre,acc,f,_,hcs,hw,ht,hv,hb,hr,_,_=>by
  have:cs=[]:=by simpa using hcs
  subst this;refine⟨w,by simp,by simpa using hw,ht,hv,by simp,hr⟩
 | s::ss,cs,w,pre,acc,f,hk,hcs,hw,ht,hv,hb,hr,hp,ha=>by
  cases cs with
  | nil=>simp at hcs
  | cons c cs=>
   rw[A2,A2] at hcs;obtain⟨hc1,hc2⟩:=List.cons.inj hcs;have hcl:cs.length=ss.length:=by have:=congrArg List.length hc2;simpa using this
   rw[A2,Eh] at hb ⊢;rw[Ci,Bo] at ha;rw[A8] at hp;have hw':w.wait=(pre++cs.reverse)++[c]:=by rw[hw,Cv,B2]
   obtain⟨w1,e1,g1,g2,g3,g4,g5⟩:=ih s w (pre++cs.reverse) c acc (f+(ss.map λ s=>cas n A d (S++[s])).sum) (hk s (A6 ..)) hw' hc1 ht hv (by omega) hr (by rw[Bo,C7];omega) (by omega);obtain⟨w2,e2,k1,k2,k3,k4,k5⟩:=qk h ih ss cs w1 pre (acc++(dfs n A d (S++[s])).map L) f (λ t ht=>hk t (A5 _ ht)) hc2 g1 g2 g3 (by omega) g5 (by omega) (by rw[Bo,A4];omega);refine⟨w2,?_,k1,k2,k3,by omega,k5⟩;rw[show f+(cas n A d (S++[s])+(ss.map λ s=>cas n A d (S++[s])).sum)=f+(ss.map λ s=>cas n A d (S++[s])).sum+cas n A d (S++[s]) by omega,e1,e2,Ci,Cf,B2]
theorem uz (h:Beat n A)(n2:n<=60){Q:Nat}(hQ:((A.length*Q:Nat):Int)=n):∀ (d:Nat) (S:List Int) (w:Ws) (pre:List Cs) (c:Cs) (acc:List D) (f:Nat),Good n A S->w.wait=pre++[c]->c.laid=S.map (wy n A)->w.wys=cW n A->Valid w->w.gone+cas n A d S<=2000->w.rows.length<=w.gone->Q-S.length<d ->
  pre.length+d*A.length<=50000->acc.length+(dfs n A d S).length<=50000 ->
  ∃ w',Dv.allGo kW (f+cas n A d S) w acc=Dv.allGo kW f w' (acc++(dfs n A d S).map L)/\w'.wait=pre/\w'.wys=cW n A/\Valid w'/\w'.gone=w.gone+cas n A d S/\w'.rows.length<=w'.gone
 | 0,S,w,pre,c,acc,f,_,_,_,_,_,_,_,hd,_,_=>by omega
 | d+1,S,w,pre,c,acc,f,g,hw,hc,ht,hv,hb,hr,hd,hp,ha=>by
  have hne:w.wait.isEmpty=false:=by rw[hw];simp
  unfold cas at hb ⊢;unfold dfs at ha ⊢;cases hf:fre n (kz n A S) with
  | nil=>
   rw[hf] at hb ha;simp only at hb ha ⊢;refine⟨{ w with gone:=w.gone+1,wait:=pre },?_,rfl,ht,λ c' hc'=>hv c' (by rw[hw];exact BK _ hc'),rfl,by show w.rows.length<=w.gone+1;omega⟩
   conv=>lhs;unfold Dv.allGo
   rw[hne,rZ h n2 g hw hc ht (by omega) hf];have hb2:(true&&decide (acc.length<Dv.mx))=true:=by
    rw[CM];exact decide_eq_true (by unfold Dv.mx;simp at ha;omega)
   simp only[Be,if_false,L,hb2,if_true,A2,A9]
  | cons m r=>
   rw[hf] at hb ha;simp only at hb ha ⊢;have hm:m∈fre n (kz n A S):=by rw[hf];exact A6 ..
   rw[CU] at hp;obtain⟨w1,cs,e1,g1,g2,g3,g4,g5,g6⟩:=uX h n2 g hw hc ht hv (by omega) hf (by omega) (by omega);have hpos:=h.pos;have hlt:S.length<Q:=by
    by_cases z:S.length<Q
    ·exact z
    ·exfalso
     have z2:A.length*Q<=A.length*S.length:=Nat.mul_le_mul_left _ (by omega);have hk:=g.len h.nd;have hle:(kz n A S).length<=n.toNat:=by
      have:=(iY (n:=n) (A:=A) S).length_le_of_subset (l₂:=upto n.toNat) λ p hp=>mem_upto.mpr (by have:=jf (A:=A) (S:=S) (show 0<n by omega) p hp;omega)
      rwa [aY] at this
     have:=(fB (n:=n) (by omega) (iY (n:=n) (A:=A) S) (jf (by omega))).mpr (by omega);rw[this] at hf;cases hf
   obtain⟨w2,e2,k1,k2,k3,k4,k5⟩:=qk h (S:=S) (d:=d) (m:=m) (λ s w pre c acc f hs hw hc ht hv hb hr hp ha=>uz h n2 hQ d (S++[s]) w pre c acc f (g.kid h hm hs).1 hw hc ht hv hb hr (by rw[Bo,BQ];omega) hp ha)
    (kids n A S m) cs w1 pre acc f (λ s hs=>hs) g2 g1 g3 g6 (by omega) (by omega) (by have:=iK (n:=n) (A:=A) S m;omega) ha
   refine⟨w2,?_,k1,k2,k3,by omega,k5⟩;rw[<- e2,show f+(1+((kids n A S m).map λ s=>cas n A d (S++[s])).sum)=f+((kids n A S m).map λ s=>cas n A d (S++[s])).sum+1 by omega]
   conv=>lhs;unfold Dv.allGo
   rw[hne,e1];simp only[Be,if_false]
end
def LL (rows:List (List Int)):D:=.lst (rows.map L)
theorem k9 {elt:EE}{free:Dv.Env}{g:Int->D}{f:Bool}:∀ {xs:List Int},(∀ x∈xs,elt (some (.int x)::free)=.ok (g x) f)->∃ f',compGo elt (eBl true) free (xs.map .int)=.ok (xs.map g) f'/\(f=true->f'=true)
 | [],_=>⟨true,rfl,λ _=>rfl⟩
 | x::r,h=>by
  obtain⟨f',e,hf⟩:=k9 (xs:=r) λ y hy=>h y (A5 _ hy)
  refine⟨f&&f',?_,λ z=>by rw[z,hf z];rfl⟩;rw[A2];unfold compGo;have:(eBl true) (some (D.int x)::free)=.ok (.bl true) true:=rfl;rw[this];simp only;rw[h x (A6 ..),e];rfl
theorem kF {elt:EE}{is:List Nat}{it:EI}{ρ:Dv.Env}{g:Int->D}{xs:List Int}{f f0:Bool}(hi:it ρ=.ok (xs.map .int) f0)(hl:xs.length<=100000)(k:∀ x∈xs,elt (some (.int x)::Dv.pick ρ is)=.ok (g x) f):
  ∃ f',eComp elt (eBl true) is it ρ=.ok (.lst (xs.map g)) f'/\(f=true->f'=true):=by
 obtain⟨f',e,hf⟩:=k9 k;refine⟨f',?_,hf⟩;unfold eComp;rw[hi];simp only[A4,Dv.mx,hl,if_true,e]
section
variable {n:Int}{A:List Int}
def cX (n:Int)(A:List Int):D:=.lst ((upto n.toNat).map λ s=>L (Tf n A s))
theorem uk {s:Int}(hs:0<=s/\s<n):Dv.at? ((upto n.toNat).map λ s=>L (Tf n A s)) s=some (L (Tf n A s)):=by
 unfold Dv.at?;rw[if_pos hs.1,Bv];have:(upto n.toNat)[s.toNat]?=some s:=by
  unfold upto;rw[Bv,B9 (by omega)];simp;omega
 rw[this];rfl
theorem rK (h:Beat n A)(n2:n<=60){p:Int}{ws:List D}(hw:ws.length<1000){z5:Sl}:
  b_Q0V_l1 [.sh (.int n),.sh (L A),.sh (cX n A),.ow (.lst ws),.sh (.int p),z5]=.nx [.sh (.int n),.sh (L A),.sh (cX n A),.ow (.lst (ws++[Dv.wyL ((A.map λ x=>(p-x)%n).map (wy n A))])),.sh (.int p),.sh (L (A.map λ x=>(p-x)%n))]:=by
 have hp:=h.pos;have hl:=h.len;have c2:∀ a2 a3 a5:Option D,c_Q0V_2 [some (.int n),some (L A),a2,a3,some (.int p),a5]=.ok (L (A.map λ x=>(p-x)%n)) true:=λ a2 a3 a5=>by
  unfold c_Q0V_2;exact b0 (f:=false) rfl (by omega) λ x hx=>by simp only[eOp,eVar,Dv.pick,R.bind,RL.bind,Out.bind,ah,A2,A9,A1,A3,Bi,tF,aF (show 0<n by omega)]
 have c3:∃ f,c_Q0V_3 [some (.int n),some (L A),some (cX n A),none,some (.int p),some (L (A.map λ x=>(p-x)%n))]=.ok (Dv.wyL ((A.map λ x=>(p-x)%n).map (wy n A))) f:=by
  obtain⟨f,e,_⟩:=kF (elt:=eTup (lCons (eVar 0) (lCons (eIx (eVar 1) (eVar 0)) lNil))) (is:=[2]) (it:=iSeq (eVar 5)) (ρ:=[some (.int n),some (L A),some (cX n A),none,some (.int p),some (L (A.map λ x=>(p-x)%n))]) (g:=λ s=>(wy n A s).d) (xs:=A.map λ x=>(p-x)%n) (f:=false) (f0:=false) rfl (by rw[A4];omega)
   (λ s hs=>by
    obtain⟨x,_,rfl⟩:=List.mem_map.mp hs;have hr:=bA (n:=n) (a:=p-x) (by omega);rw[vC];simp only[eIx,Dv.ixD,eVar,eTup,lNil,lCons,Dv.pick,R.bind,RL.bind,Dv.R.bindL,Dv.RL.bindL,Out.bind,ah,ak,A2,A9,A1,A3,Bi,Bm,Ei,Bu,cX,uk hr,L,Ei])
  refine⟨f,?_⟩;unfold c_Q0V_3;rw[e];simp[Dv.wyL]
 obtain⟨f,c3⟩:=c3;have hb:decide (ws.length<Dv.mx)=true:=decide_eq_true (by unfold Dv.mx;omega);unfold b_Q0V_l1;rw[dO (st1:=[.sh (.int n),.sh (L A),.sh (cX n A),.ow (.lst ws),.sh (.int p),.ow (L (A.map λ x=>(p-x)%n))])]
 ·simp only[sAppG,Dv.give,Dv.open_,aN,kx,ax,aV,A2,A9,A1,A3,Bb,Bc,Bn,Bq,Bi,if_true,c3,hb]
 ·simp only[sSet,cP,Dv.all,aw,bf,A2,A9,Bb,Bc,c2]
theorem jz (h:Beat n A)(n2:n<=60):∀ (ps:List Int) (ws:List D) (z4 z5:Sl),ws.length+ps.length<1000 ->
  ∃ y4 y5,forGo 4 b_Q0V_l1 (ps.map .int) [.sh (.int n),.sh (L A),.sh (cX n A),.ow (.lst ws),z4,z5]=.nx [.sh (.int n),.sh (L A),.sh (cX n A),.ow (.lst (ws++(ps.map λ p=>Dv.wyL ((A.map λ x=>(p-x)%n).map (wy n A))))),y4,y5]
 | [],ws,z4,z5,_=>⟨z4,z5,by simp[forGo]⟩
 | p::r,ws,z4,z5,hl=>by
  rw[A8] at hl;obtain⟨y4,y5,e⟩:=jz h n2 r (ws++[Dv.wyL ((A.map λ x=>(p-x)%n).map (wy n A))]) (.sh (.int p)) (.sh (L (A.map λ x=>(p-x)%n))) (by rw[Bo,BQ];omega);refine⟨y4,y5,?_⟩;rw[A2,bC (st':=[.sh (.int n),.sh (L A),.sh (cX n A),.ow (.lst (ws++[Dv.wyL ((A.map λ x=>(p-x)%n).map (wy n A))])),.sh (.int p),.sh (L (A.map λ x=>(p-x)%n))]),e]
  ·rw[A2,B2];rfl
  ·simp only[Bc,Bb]
   exact rK h n2 (by omega)
theorem wA (h:Beat n A)(n2:n<=60):∃ f,F_Q0V [.int n,L A]=.ok (Dv.wysD (cW n A)) f:=by
 have hp:=h.pos;have c1:∃ f,c_Q0V_1 [some (.int n),some (L A),none,none,none,none]=.ok (cX n A) f:=by
  obtain⟨f,e,_⟩:=kF (elt:=eCall F_Q0U (lCons (eVar 1) (lCons (eVar 2) (lCons (eVar 0) lNil)))) (is:=[0,1]) (it:=iRange (eVar 0)) (ρ:=[some (.int n),some (L A),none,none,none,none]) (g:=λ s=>L (Tf n A s)) (xs:=upto n.toNat) (f:=true) (f0:=true)
   (by simp only[iRange,eVar,ah,A1,if_true,cY (n:=n) (by omega) (by omega),bg]) (by rw[aY];omega) (λ s _=>by simp only[eVar,lNil,lCons,eCall,Dv.pick,R.bind,RL.bind,Dv.R.bindL,Dv.RL.bindL,Out.bind,ah,ak,A2,A9,A1,A3,Bi,Bm,Bu,gB n2 h];rfl)
  exact⟨f,e⟩
 obtain⟨f,c1⟩:=c1;obtain⟨y4,y5,e⟩:=jz h n2 (upto n.toNat) [] .no .no (by rw[aY];simp;omega);rw[Bg] at e;have et:(upto n.toNat).map (λ p=>Dv.wyL ((A.map λ x=>(p-x)%n).map (wy n A)))=(cW n A).map Dv.wyL:=by
  unfold cW;rw[BI];refine BH λ p _=>?_
  show Dv.wyL _=Dv.wyL _
  rw[BI];rfl
 rw[et] at e;refine⟨Dv.flatL ((cW n A).map Dv.wyL),?_⟩;simp only[F_Q0V,b_Q0V,b_Q0V_t1,b_Q0V_t2,b_Q0V_t3,Dv.fn,sCons,sSet,sSetG,keep_nil,Dv.give,Dv.open_,aN,aL,ax,aV,sRetO,sFor,iRange,eVar,eLst,lNil,R.bind,RL.bind,Out.bind,ah,A2,A9,A8,Bk,List.replicate,Bf,Bg,A1,A3,Bb,Bc,Bn,Bq,Bi,if_true,Nat.reduceAdd,Nat.reduceSub,c1,cY (n:=n) (by omega) (by omega),bg,e];rfl
theorem jB (ns:List Int):Dv.intsOf (ns.map .int)=some ns:=f9 ns
theorem xu:∀ l:List Wy,Dv.deWL (l.map Wy.d)=some l
 | []=>rfl
 | w::r=>by
  rw[A2];unfold Dv.deWL;rw[xu r];have:Dv.deW w.d=some w:=by
   unfold Wy.d Dv.deW;simp only[jB]
  rw[this]
theorem zB (l:List Wy):Dv.deL (Dv.wyL l)=some l:=xu l
theorem xI:∀ l:List (List Wy),Dv.deLL (l.map Dv.wyL)=some l
 | []=>rfl
 | w::r=>by
  rw[A2];unfold Dv.deLL;rw[xI r,zB]
theorem Ay (l:List (List Wy)):Dv.deWs (Dv.wysD l)=some l:=xI l
theorem Ak (h:Beat n A)(n2:n<=60):Dv.pwR nY nO [.int n,L A]=.ok (cW n A) [wy n A 0]:=by
 obtain⟨f,e⟩:=wA h n2;have e1:nY ([.int n,L A].map some)=.ok (Dv.wysD (cW n A)) f:=by
  unfold nY;simp only[eVar,lNil,lCons,eCall,R.bind,RL.bind,Dv.R.bindL,Dv.RL.bindL,Out.bind,ah,ak,A2,A9,A1,A3,Bm,Bu,e]
 have e2:nO ([.int n,L A].map some)=.ok (Dv.wyL [wy n A 0]) false:=by
  unfold nO wy Dv.wyL;rw[yZ h];rfl
 unfold Dv.pwR;rw[e1,e2];simp only;rw[Ay,zB]
theorem rN (h:Beat n A):Good n A [0]:=by
 have hp:=h.pos;refine⟨λ s hs=>by simp at hs;omega,by simp,λ x hx y hy s hs t ht e=>?_⟩;simp at hs ht;subst hs;subst ht;exact⟨ff (by omega) (h.rg x hx) (h.rg y hy) e,rfl⟩
theorem zf (h:Beat n A)(n2:n<=60){Q:Nat}(hQ:((A.length*Q:Nat):Int)=n)(hb:cas n A Q [0]<=2000)(hd:(dfs n A Q [0]).length<=50000):Dv.allR kW (Dv.pwR nY nO) [.int n,L A]=.ok (LL (dfs n A Q [0])) true:=by
 have hp:=h.pos;have hQ1:1<=Q:=by
  cases Q with
  | zero=>simp at hQ;omega
  | succ q=>omega
 have hl:=h.len;obtain⟨w',e,k1,_⟩:=uz h n2 hQ Q [0] (Dv.w0 (cW n A) [wy n A 0]) [] ⟨[wy n A 0],0,0⟩ [] (2002-cas n A Q [0]) (rN h) rfl rfl rfl (λ c hc=>by
  have:c=⟨[wy n A 0],0,0⟩:=by simpa[Dv.w0] using hc
  subst this;simp[Dv.w0]) (by simpa[Dv.w0] using hb) (by simp[Dv.w0]) (by simp;omega) (by
   have hA:=h.len1;have:Q*A.length=A.length*Q:=Ds ..;simp;omega) (by simpa using hd)
 unfold Dv.allR;rw[Ak h n2];simp only;rw[show (2002:Nat)=2002-cas n A Q [0]+cas n A Q [0] by omega,e,show 2002-cas n A Q [0]=(2001-cas n A Q [0])+1 by omega];unfold Dv.allGo;rw[k1];simp[LL]
theorem hV:∀ rows:List (List Int),Dv.listsOf (rows.map L)=some rows
 | []=>rfl
 | r::rs=>by
  rw[A2];unfold L;unfold Dv.listsOf;rw[jB];have:=hV rs;unfold L at this;rw[this]
theorem iL (h:Beat n A)(n2:n<=60):F_Q05 [.int n,L A]=.ok (.bl (decide (n%(A.length:Int)=0))) true:=by
 have hl:=h.len1;simp only[F_Q05,b_Q05,b_Q05_t1,Dv.fn,sCons,sRet,sExpr,eB1,Dv.lenD,eCm,eOp,eVar,eInt,lNil,lCons,eCall,Dv.all,R.bind,RL.bind,Dv.R.bindL,Dv.RL.bindL,Out.bind,aw,ah,ak,A2,A9,A8,Bk,List.replicate,Bf,Bg,A1,A3,Bm,Bu,Nat.reduceAdd,Nat.reduceSub,bZ,A4,cc n2 h,L,aF (j:=(A.length:Int)) (by omega)]
theorem lI (h:Beat n A)(n2:n<=60){Q:Nat}(hQ:((A.length*Q:Nat):Int)=n)(hb:cas n A Q [0]<=2000)(hd:(dfs n A Q [0]).length<64):F_Q00 [.int n,L A]=.ok (LL (Dv.lsort (dfs n A Q [0]))) true:=by
 have hz:n%(A.length:Int)=0:=by
  rw[<- hQ,CQ];exact Dc ..
 have ha:=zf h n2 hQ hb (by omega);have hs:Dv.sortedLD (LL (dfs n A Q [0])) true=.ok (LL (Dv.lsort (dfs n A Q [0]))) true:=by
  unfold LL Dv.sortedLD;simp only[hV,hd,if_true]
  try rfl
 simp only[F_Q00,b_Q00,b_Q00_t1,Dv.fn,sCons,sNil,sIf,sRet,eB1,eNot,eVar,lNil,lCons,eCall,Dv.all,R.bind,RL.bind,Dv.R.bindL,Dv.RL.bindL,Out.bind,aw,ah,ak,A2,A9,A8,Bk,List.replicate,Bf,Bg,A1,A3,Bm,Bu,By,Nat.reduceAdd,Nat.reduceSub,iL h n2,decide_eq_true hz,eAllF,ha,hs]
theorem l8 (h:Beat n A)(n2:n<=60)(hz:n%(A.length:Int)≠0):F_Q00 [.int n,L A]=.ok (LL []) true:=by
 simp only[F_Q00,b_Q00,b_Q00_t1,Dv.fn,sCons,sIf,sRet,eNot,eVar,eLst,lNil,lCons,eCall,Dv.all,R.bind,RL.bind,Dv.R.bindL,Dv.RL.bindL,Out.bind,aw,ah,ak,A2,A9,A8,Bk,List.replicate,Bf,Bg,A1,A3,Bm,Bu,BL,Nat.reduceAdd,Nat.reduceSub,iL h n2,decide_eq_false hz];rfl
end
end Cw
namespace Wm
open Bt
open Dv (lexLt lexLe upL)
def G:Nat->Nat->List Int->Int->List (List Int)
 | 0,_,r,_=>[r]
 | _+1,0,_,_=>[]
 | k+1,m+1,r,p=>G k m (r++[p]) (p+1)++G (k+1) m r (p+1)
theorem su:∀ (k m:Nat) (r:List Int) (p:Int),(G k m r p).length<=2 ^ m
 | 0,m,r,p=>by simp only[G,BQ];exact Nat.one_le_two_pow
 | k+1,0,r,p=>by simp[G]
 | k+1,m+1,r,p=>by
  have h1:=su k m (r++[p]) (p+1);have h2:=su (k+1) m r (p+1);simp only[G,Bo];rw[DV];omega
theorem mj:∀ (k m:Nat) (r:List Int) (p:Int) {B:List Int},B∈G k m r p ↔ ∃ t,B=r++t/\t.length=k/\t.Pairwise (·<·)/\∀ x∈t,p<=x/\x<p+m
 | 0,m,r,p,B=>by
  simp only[G,Cc]
  constructor
  ·rintro rfl;exact⟨[],by simp,rfl,.nil,λ x h=>by cases h⟩
  ·rintro ⟨t,rfl,h,_⟩
   have:t=[]:=BZ h;subst this;simp
 | k+1,0,r,p,B=>by
  simp only[G,BG,false_iff]
  rintro ⟨t,rfl,h,_,hr⟩
  cases t with
  | nil=>simp at h
  | cons x t=>have:=hr x (A6 ..);omega
 | k+1,m+1,r,p,B=>by
  simp only[G,B0];rw[mj k m,mj (k+1) m]
  constructor
  ·rintro (⟨t,rfl,h1,h2,h3⟩|⟨t,rfl,h1,h2,h3⟩)
   ·refine⟨p::t,by simp,by simp[h1],List.pairwise_cons.mpr ⟨λ x hx=>by have:=h3 x hx;omega,h2⟩,λ x hx=>?_⟩
    rcases List.mem_cons.mp hx with rfl|hx
    ·omega
    ·have:=h3 x hx;omega
   ·exact⟨t,rfl,h1,h2,λ x hx=>by have:=h3 x hx;omega⟩
  ·rintro ⟨t,rfl,h1,h2,h3⟩
   cases t with
   | nil=>simp at h1
   | cons x t=>
    obtain⟨q1,q2⟩:=List.pairwise_cons.mp h2;have hx:=h3 x (A6 ..);by_cases e:x=p
    ·subst e
     exact .inl ⟨t,by simp,by simpa using h1,q2,λ y hy=>by have:=q1 y hy;have:=h3 y (A5 _ hy);omega⟩
    ·refine .inr ⟨x::t,rfl,h1,h2,λ y hy=>?_⟩
     have:=h3 y hy
     rcases List.mem_cons.mp hy with rfl|hy
     ·omega
     ·have:=q1 y hy;omega
theorem qo:∀ (r a b:List Int),lexLt (r++a) (r++b)=lexLt a b
 | [],a,b=>rfl
 | x::r,a,b=>by simp only[Bf,lexLt,if_true];exact qo r a b
theorem xk:∀ (k m:Nat) (r:List Int) (p:Int),(G k m r p).Pairwise λ a b=>lexLt a b=true
 | 0,m,r,p=>by simp[G]
 | k+1,0,r,p=>by simp[G]
 | k+1,m+1,r,p=>by
  simp only[G];refine List.pairwise_append.mpr ⟨xk k m _ _,xk (k+1) m _ _,λ a ha b hb=>?_⟩;obtain⟨t,rfl,_,_,_⟩:=(mj k m _ _).mp ha;obtain⟨u,rfl,h1,_,h3⟩:=(mj (k+1) m _ _).mp hb;cases u with
  | nil=>simp at h1
  | cons x u=>
   have:=h3 x (A6 ..);rw[B2,qo];simp only[List.singleton_append,lexLt];rw[if_neg (by omega)];simp;omega
def ext (n:Int)(R:List (List Int)):List (List Int):=R.flatMap λ r=>(upL (r.getLastD 0+1) (n-(r.getLastD 0+1)).toNat).map λ p=>r++[p]
def itr (n:Int):Nat->List (List Int)->List (List Int)
 | 0,R=>R
 | k+1,R=>itr n k (ext n R)
theorem xG {n:Int}{k:Nat}{r:List Int}:∀ (m:Nat) (p:Int),p+m=n->((upL p m).flatMap λ q=>G k (n-(q+1)).toNat (r++[q]) (q+1))=G (k+1) m r p
 | 0,p,_=>by simp[upL,G]
 | m+1,p,h=>by
  have ih:=xG (n:=n) (k:=k) (r:=r) m (p+1) (by omega);unfold upL;rw[Ci,ih,show (n-(p+1)).toNat=m by omega];rfl
theorem xD {n:Int}:∀ (k:Nat) (R:List (List Int)),itr n k R=R.flatMap λ r=>G k (n-(r.getLastD 0+1)).toNat r (r.getLastD 0+1)
 | 0,R=>by
  unfold itr;have:(R.flatMap λ r=>G 0 (n-(r.getLastD 0+1)).toNat r (r.getLastD 0+1))=R.flatMap λ r=>[r]:=by
   congr 1;funext r;simp[G]
  rw[this,List.flatMap_singleton']
 | k+1,R=>by
  unfold itr;rw[xD k];unfold ext;rw[List.flatMap_assoc];congr 1;funext r;rw[List.flatMap_map];have e:(λ q=>G k (n-((r++[q]).getLastD 0+1)).toNat (r++[q]) ((r++[q]).getLastD 0+1))=λ q=>G k (n-(q+1)).toNat (r++[q]) (q+1):=by
   funext q;simp
  show ((upL _ _).flatMap λ q=>G k (n-((r++[q]).getLastD 0+1)).toNat (r++[q]) ((r++[q]).getLastD 0+1))=_
  rw[e];by_cases z:r.getLastD 0+1<=n
  ·exact xG _ _ (by omega)
  ·rw[show (n-(r.getLastD 0+1)).toNat=0 by omega]
   rfl
theorem pK {n:Int}:∀ (k:Nat) (R:List (List Int)),itr n k (ext n R)=ext n (itr n k R)
 | 0,R=>rfl
 | k+1,R=>by unfold itr;rw[pK k]
def bx (n:Int)(k:Nat):List (List Int):=G k (n-1).toNat [0] 1
theorem jh {n:Int}(k:Nat):itr n k [[0]]=bx n k:=by
 rw[xD];simp[bx]
theorem iA {n:Int}(k:Nat):ext n (bx n k)=bx n (k+1):=by
 rw[<- jh,<- jh,<- pK];rfl
theorem jn {n:Int}(hn:n<=12)(k:Nat):(bx n k).length<=2048:=by
 have h1:=su k (n-1).toNat [0] 1;have h2:2 ^ (n-1).toNat<=2 ^ 11:=Nat.pow_le_pow_right (by omega) (by omega);unfold bx;omega
theorem gi {n:Int}(hn:1<=n){k:Nat}{B:List Int}:B∈bx n k ↔ Beat n B/\0∈B/\B.length=k+1:=by
 unfold bx;rw[mj]
 constructor
 ·rintro ⟨t,rfl,h1,h2,h3⟩
  refine⟨⟨by simp,?_,λ x hx=>?_⟩,by simp,by simp[h1]⟩
  ·exact List.pairwise_cons.mpr ⟨λ x hx=>by have:=h3 x hx;omega,h2⟩
  ·rcases List.mem_cons.mp hx with rfl|hx
   ·omega
   ·have:=h3 x hx;omega
 ·rintro ⟨b,h0,hl⟩
  cases B with
  | nil=>exact absurd rfl b.ne
  | cons x t=>
   obtain⟨q1,q2⟩:=List.pairwise_cons.mp b.up;have hx:x=0:=by
    rcases List.mem_cons.mp h0 with e|h0
    ·exact e.symm
    ·have:=q1 0 h0;have:=b.rg x (A6 ..);omega
   subst hx;exact⟨t,rfl,by simpa using hl,q2,λ y hy=>by have:=q1 y hy;have:=b.rg y (A5 _ hy);omega⟩
def mw (n:Int)(A:List Int)(k:Nat):List (List Int):=(bx n k).filter λ B=>decide (tally n.toNat (hits n A B)=List.replicate n.toNat 1)
theorem pN {n:Int}{A:List Int}(h:Beat n A){k:Nat}(hQ:((A.length*(k+1):Nat):Int)=n):Dv.lsort (dfs n A (k+1) [0])=mw n A k:=by
 have hp:=h.pos;have g0:Good n A [0]:=by
  refine⟨λ s hs=>by simp at hs;omega,by simp,λ x hx y hy s hs t ht e=>?_⟩;simp at hs ht;subst hs;subst ht;exact⟨ff (by omega) (h.rg x hx) (h.rg y hy) e,rfl⟩
 have up:(mw n A k).Pairwise λ a b=>lexLt a b=true:=List.Pairwise.filter _ (xk _ _ _ _)
 have nd:(mw n A k).Nodup:=up.imp λ {a b} q e=>by subst e;rw[Dv.lex_irr] at q;cases q
 refine Dv.sorted_one ((Dv.lsort_perm _).trans ((BW (uO h _ _ g0 (by simp)) nd).mpr λ B=>?_)) (Dv.lsort_sorted _) (up.imp λ q=>Dv.lt_le q);unfold mw;rw[CO,gi hp,decide_eq_true_eq]
 constructor
 ·intro hB
  obtain⟨f,sub⟩:=en h _ _ g0 (by simp) B hB;refine⟨⟨f.oth,sub 0 (by simp),?_⟩,f.tally⟩;have:=f.len;have e:A.length*B.length=A.length*(k+1):=by omega
  exact CL h.len1 e
 ·rintro ⟨⟨b,h0,hl⟩,ht⟩
  exact p6 (oO h b ht) (k+1) [0] (by simp) (λ s hs=>by simp at hs;subst hs;exact h0) (by simp) (by simp;omega)
end Wm
namespace Cw
open Dv (Out R RL compGo eAnd eB1 eB2 eBl eCall eCm eComp eInt eIx eLst eNeg eNot eOp eOr ePart eSlice eTup eVar forGo iRange iRange2 iSeq iZip lCons lNil opD rngOk sAppG sCons sExpr sFor sForT sIf sKillRows sNil sPar sRet sSet sSetD sSetG sUnpack sUnpackL)
open Dv (D R RL EE EL EI RI Sl Out SS St)
open Bt
section
variable {s:List Int}{k0 n t:Int}{a b:List Int}{sa sb z5 z6 z8:Sl}
theorem jj (ha:Hs sa a)(ht0:0<=t)(ht:t<=100)(hsb:True):∀ (ks found:List Int) (z:Sl),(∀ k∈ks,0<=k/\k<=1000)->found.length+ks.length*a.length<=100000 ->
  ∃ z',forGo 10 b_Q0L_l1 (ks.map .int) [.sh (L s),.sh (.int k0),.sh (.int n),sa,sb,z5,z6,.sh (.int t),z8,.ow (L found),z]=.nx [.sh (L s),.sh (.int k0),.sh (.int n),sa,sb,z5,z6,.sh (.int t),z8,.ow (L (ks.foldl (λ x k=>x++a.map (·*t+k)) found)),z']
 | [],found,z,_,_=>⟨z,rfl⟩
 | k::r,found,z,h,hl=>by
  rw[A8,CU] at hl;have hk:=h k (A6 ..);have hc:c_Q0L_1 [some (L s),some (.int k0),some (.int n),some (L a),sb.get,z5.get,z6.get,some (.int t),z8.get,some (L found),some (.int k)]=.ok (L (a.map (·*t+k))) true:=by
   unfold c_Q0L_1;exact b0 (f:=false) rfl (by omega) λ x hx=>by simp only[eOp,eVar,Dv.pick,R.bind,RL.bind,Out.bind,ah,A2,A9,A1,A3,Bi,bE,b9 (fK (i:=x) (j:=t) (by omega) (by omega))]
  obtain⟨z',e⟩:=jj ha ht0 ht hsb r (found++a.map (·*t+k)) (.sh (.int k)) (λ x hx=>h x (A5 _ hx)) (by rw[Bo,A4];omega);refine⟨z',?_⟩;rw[A2,bC (st':=[.sh (L s),.sh (.int k0),.sh (.int n),sa,sb,z5,z6,.sh (.int t),z8,.ow (L (found++a.map (·*t+k))),.sh (.int k)]),e]
  ·rfl
  ·simp only[b_Q0L_l1,sSet,cP,eOp,eVar,Dv.all,R.bind,RL.bind,Out.bind,aw,bf,ak,A2,A9,A1,A3,Bb,Bc,A4,ha.get,hc,kP (a:=found) (b:=a.map (·*t+k)) (by rw[A4];omega)]
end
theorem nP {P:Int->List Int->List Int->Prop}(hP:PairP P){s:List Int}{k0 n k:Int}{a b:List Int}{sa sb z6 z7 z8 z9 z10:Sl}(hk0:0<=k0)(hk1:k0<=1000)(hk:0<=k/\k<=100)(h:P n a b)(hn:n<=12)(ha:Hs sa a)(hb:Hs sb b):
  ∃ n' a' b' sa' sb' y6 y7 y8 y9 y10,b_Q0L_l2 [.sh (L s),.sh (.int k0),.sh (.int n),sa,sb,.sh (.int k),z6,z7,z8,z9,z10]=.nx [.sh (L s),.sh (.int k0),.sh (.int n'),sa',sb',.sh (.int k),y6,y7,y8,y9,y10]/\P n' a' b'/\n'<=12/\Hs sa' a'/\Hs sb' b':=by
 have hA:=(hP.beat h).1;have hB:=(hP.beat h).2;have hnp:=hA.pos;have hz:=bA (n:=2147483647) (a:=cell s (k0+k)*48271) (by omega);generalize hnum:cell s (k0+k)*48271%2147483647=num at hz;have hm7:=bA (n:=7) (a:=num) (by omega);obtain⟨t,ht,ht2,ht7⟩:=uU (num%7) hm7.1 hm7.2;have h6:sSet 6 (eOp .mod (eOp .mul (eCall F_Q0E (lCons (eVar 0) (lCons (eOp .add (eVar 1) (eVar 5)) lNil))) (eInt 48271)) (eInt 2147483647)) [.sh (L s),.sh (.int k0),.sh (.int n),sa,sb,.sh (.int k),z6,z7,z8,z9,z10]
   = .nx [.sh (L s),.sh (.int k0),.sh (.int n),sa,sb,.sh (.int k),.sh (.int num),z7,z8,z9,z10]:=by
  simp only[sSet,aQ,eOp,eVar,eInt,lNil,lCons,eCall,Dv.all,R.bind,RL.bind,Dv.R.bindL,Dv.RL.bindL,Out.bind,aw,ah,ak,A2,A9,A1,A3,Bb,Bc,Bm,bE,cw (s:=s) (k:=k0+k) (by omega) (by omega),b9 (fK (j:=48271) (by decide) (by decide)),aF (j:=2147483647) (by decide),hnum]
 have h78:∀ rest:SS,sCons (sSet 7 (eIx (eLst (lCons (eInt 2) (lCons (eInt 3) (lCons (eInt 2) (lCons (eInt 5) (lCons (eInt 2) (lCons (eInt 3) (lCons (eInt 7) lNil)))))))) (eOp .mod (eVar 6) (eInt 7)))) (sCons (sSet 8 (eOp .mod (eOp .fdiv (eVar 6) (eInt 7)) (eInt 4))) rest)
   [.sh (L s),.sh (.int k0),.sh (.int n),sa,sb,.sh (.int k),.sh (.int num),z7,z8,z9,z10]=rest [.sh (L s),.sh (.int k0),.sh (.int n),sa,sb,.sh (.int k),.sh (.int num),.sh (.int t),.sh (.int (num/7%4)),z9,z10]:=by
  intro rest;simp only[sCons,sSet,aQ,eIx,Dv.ixD,eOp,eVar,eInt,eLst,lNil,lCons,Dv.all,R.bind,RL.bind,Dv.R.bindL,Dv.RL.bindL,Out.bind,aw,ah,A2,A9,A1,A3,Bb,Bc,Cn,Bm,aF (j:=7) (by decide),ht,cA (j:=7) (by decide) (by decide),aF (j:=4) (by decide)]
 have hsw:∀ (n':Int) (a' b':List Int) (sa' sb' y9 y10:Sl),P n' a' b'->n'<=12->Hs sa' a'->Hs sb' b'->∃ a2 b2 sa2 sb2,sIf (eCm .eq (eOp .mod (eOp .fdiv (eVar 6) (eInt 28)) (eInt 2)) (eInt 1)) (sPar [3,4] 3 4 (eVar 4) (eVar 3)) sNil [.sh (L s),.sh (.int k0),.sh (.int n'),sa',sb',.sh (.int k),.sh (.int num),.sh (.int t),.sh (.int (num/7%4)),y9,y10]
   = .nx [.sh (L s),.sh (.int k0),.sh (.int n'),sa2,sb2,.sh (.int k),.sh (.int num),.sh (.int t),.sh (.int (num/7%4)),y9,y10]/\P n' a2 b2/\Hs sa2 a2/\Hs sb2 b2:=by
  intro n' a' b' sa' sb' y9 y10 h' hn' ha' hb';by_cases hq:num/28%2=1
  ·refine⟨b',a',.sh (L b'),.sh (L a'),?_,hP.swap h',.inl rfl,.inl rfl⟩
   rcases ha' with e|e <;>rcases hb' with e2|e2 <;>(subst e;subst e2;simp only[Dv.give,Dv.open_,aN,kx,ax,sIf,sPar,eCm,eOp,eVar,eInt,Dv.all,R.bind,RL.bind,Out.bind,aw,bf,ah,ak,A2,A9,A1,A3,Bb,Bc,Bn,Bq,Bi,bZ,cA (j:=28) (by decide) (by decide),aF (j:=2) (by decide),decide_eq_true hq])
  ·refine⟨a',b',sa',sb',?_,h',ha',hb'⟩
   simp only[sNil,sIf,eCm,eOp,eVar,eInt,Dv.all,R.bind,RL.bind,Out.bind,aw,ah,A2,A9,A1,A3,bZ,cA (j:=28) (by decide) (by decide),aF (j:=2) (by decide),decide_eq_false hq]
 have hla:=hA.len;have hlb:=hB.len;have hmul:opD .mul (.int n) (.int (t:Int))=.ok (.int (n*t)) true:=b9 (du (by omega) (by omega));unfold b_Q0L_l2;rw[dO h6,h78];by_cases hle:n*t<=12
 ·by_cases hkd:num/7%4<2
  ·have hag:F_Q09 [.int n,L a,.int (t:Int)]=.ok (L (again n a t)) true:=by
    have:=u3 (n:=n) (t:=(t:Int)) (xs:=a) (by omega) (by omega) (by omega)
    rwa [Cz] at this
   obtain⟨a2,b2,sa2,sb2,e,p2,x1,x2⟩:=hsw (n*t) (again n a t) b (.ow (L (again n a t))) sb z9 z10 (hP.again (by omega) h) hle (.inr rfl) hb;refine⟨n*t,a2,b2,sa2,sb2,.sh (.int num),.sh (.int t),.sh (.int (num/7%4)),z9,z10,?_,p2,hle,x1,x2⟩;rw[dO (st1:=[.sh (L s),.sh (.int k0),.sh (.int (n*t)),.ow (L (again n a t)),sb,.sh (.int k),.sh (.int num),.sh (.int t),.sh (.int (num/7%4)),z9,z10])]
   ·exact e
   ·simp only[sCons,sSet,aQ,cP,sIf,eCm,eOp,eVar,eInt,lNil,lCons,eCall,Dv.all,R.bind,RL.bind,Dv.R.bindL,Dv.RL.bindL,Out.bind,aw,bf,ah,ak,A2,A9,A1,A3,Bb,Bc,Bm,Bu,j4,oQ,hmul,decide_eq_true hle,decide_eq_true hkd,ha.get,hag]
  ·obtain⟨z',em⟩:=jj (s:=s) (k0:=k0) (n:=n) (t:=(t:Int)) (a:=a) (sa:=sa) (sb:=sb) (z5:=.sh (.int k)) (z6:=.sh (.int num)) (z8:=.sh (.int (num/7%4))) ha (by omega) (by omega) trivial (upto t) [] z10 (λ x hx=>by have:=mem_upto.mp hx;omega) (by
    rw[aY];have:t*a.length<=7*12:=C9 ht7 (by omega);simp;omega)
   rw[mM] at em;simp only[A9,L] at em;have hmx:(mix a t t).length<64:=by
    have h1:(((mix a t t).length:Nat):Int)<=n*t:=by
     have e1:=(mh hA (show 1<=t by omega)).len;rw[b7] at e1;exact e1
    omega
   have hc2:c_Q0L_2 [some (L s),some (.int k0),some (.int n),some (L (Dv.isort (mix a t t))),some (L b),some (.int k),some (.int num),some (.int t),some (.int (num/7%4)),some (L (mix a t t)),z'.get]=.ok (L (b.map (·*(t:Int)))) true:=by
    unfold c_Q0L_2;exact b0 (f:=false) rfl (by omega) λ x hx=>by simp only[eOp,eVar,Dv.pick,R.bind,RL.bind,Out.bind,ah,A2,A9,A1,A3,Bi,b9 (fK (i:=x) (j:=(t:Int)) (by omega) (by omega))]
   obtain⟨a2,b2,sa2,sb2,e,p2,x1,x2⟩:=hsw (n*t) (Dv.isort (mix a t t)) (b.map (·*(t:Int))) (.ow (L (Dv.isort (mix a t t)))) (.ow (L (b.map (·*(t:Int))))) (.ow (L (mix a t t))) z' (hP.mix (by omega) h) hle (.inr rfl) (.inr rfl);refine⟨n*t,a2,b2,sa2,sb2,.sh (.int num),.sh (.int t),.sh (.int (num/7%4)),.ow (L (mix a t t)),z',?_,p2,hle,x1,x2⟩;rw[dO (st1:=[.sh (L s),.sh (.int k0),.sh (.int (n*t)),.ow (L (Dv.isort (mix a t t))),.ow (L (b.map (·*(t:Int)))),.sh (.int k),.sh (.int num),.sh (.int t),.sh (.int (num/7%4)),.ow (L (mix a t t)),z'])]
   ·exact e
   ·have hso:=di hmx false
    simp only[L] at hso hc2;simp only[sCons,sSet,aQ,cP,keep_nil,Dv.give,Dv.open_,ax,aV,sIf,sFor,iRange,eB1,eCm,eOp,eVar,eInt,eLst,lNil,Dv.all,R.bind,RL.bind,Out.bind,aw,bf,ah,ak,A2,A9,A1,A3,Bb,Bc,Bq,if_true,j4,oQ,hmul,decide_eq_true hle,decide_eq_false hkd,Dv.flatL,cY (n:=(t:Int)) (by omega) (by omega),Cz,bg,em,hso,hb.get,hc2]
 ·obtain⟨a2,b2,sa2,sb2,e,p2,x1,x2⟩:=hsw n a b sa sb z9 z10 h hn ha hb
  refine⟨n,a2,b2,sa2,sb2,.sh (.int num),.sh (.int t),.sh (.int (num/7%4)),z9,z10,?_,p2,hn,x1,x2⟩;rw[dO (st1:=[.sh (L s),.sh (.int k0),.sh (.int n),sa,sb,.sh (.int k),.sh (.int num),.sh (.int t),.sh (.int (num/7%4)),z9,z10])]
  ·exact e
  ·simp only[sNil,sIf,eCm,eOp,eVar,eInt,Dv.all,R.bind,RL.bind,Out.bind,aw,ah,A2,A9,A1,A3,oQ,hmul,decide_eq_false hle]
theorem i7 {P:Int->List Int->List Int->Prop}(hP:PairP P){s:List Int}{k0:Int}(hk0:0<=k0)(hk1:k0<=1000):∀ (ks:List Int) (n:Int) (a b:List Int) (sa sb z5 z6 z7 z8 z9 z10:Sl),(∀ k∈ks,0<=k/\k<=100)->P n a b->n<=12->Hs sa a->Hs sb b ->
  ∃ n' a' b' sa' sb' y5 y6 y7 y8 y9 y10,forGo 5 b_Q0L_l2 (ks.map .int) [.sh (L s),.sh (.int k0),.sh (.int n),sa,sb,z5,z6,z7,z8,z9,z10]=.nx [.sh (L s),.sh (.int k0),.sh (.int n'),sa',sb',y5,y6,y7,y8,y9,y10]/\P n' a' b'/\n'<=12/\Hs sa' a'/\Hs sb' b'
 | [],n,a,b,sa,sb,z5,z6,z7,z8,z9,z10,_,h,hn,ha,hb=>⟨n,a,b,sa,sb,z5,z6,z7,z8,z9,z10,rfl,h,hn,ha,hb⟩
 | k::r,n,a,b,sa,sb,z5,z6,z7,z8,z9,z10,hk,h,hn,ha,hb=>by
  obtain⟨n1,a1,b1,sa1,sb1,y6,y7,y8,y9,y10,e1,p1,hn1,ha1,hb1⟩:=nP hP (s:=s) (z6:=z6) (z7:=z7) (z8:=z8) (z9:=z9) (z10:=z10) hk0 hk1 (hk k (A6 ..)) h hn ha hb;obtain⟨n2,a2,b2,sa2,sb2,x5,x6,x7,x8,x9,x10,e2,p2⟩:=i7 hP hk0 hk1 r n1 a1 b1 sa1 sb1 (.sh (.int k)) y6 y7 y8 y9 y10 (λ x hx=>hk x (A5 _ hx)) p1 hn1 ha1 hb1;refine⟨n2,a2,b2,sa2,sb2,x5,x6,x7,x8,x9,x10,?_,p2⟩;rw[A2,bC (st':=[.sh (L s),.sh (.int k0),.sh (.int n1),sa1,sb1,.sh (.int k),y6,y7,y8,y9,y10])]
  ·exact e2
  ·simp only[Bc,Bb];exact e1
theorem tK {P:Int->List Int->List Int->Prop}(hP:PairP P){s:List Int}{k0:Int}(hk0:0<=k0)(hk1:k0<=1000):∃ n a b f,F_Q0L [L s,.int k0]=.ok (.tup [.int n,L a,L b]) f/\P n a b/\n<=12:=by
 obtain⟨n,a,b,sa,sb,y5,y6,y7,y8,y9,y10,e,p,hn,ha,hb⟩:=i7 hP (s:=s) hk0 hk1 (upto 6) 1 [0] [0] (.ow (L [0])) (.ow (L [0])) .no .no .no .no .no .no (λ x hx=>by have:=mem_upto.mp hx;omega) hP.one (by omega) (.inr rfl) (.inr rfl);have hA:=(hP.beat p).1;have hB:=(hP.beat p).2;have hnp:0<n:=by have:=hA.pos;omega
 have hla:=hA.len;have hlb:=hB.len;simp only[L,A2,A9] at e;have hr:rngOk 6=true:=by decide
 have h6:(6:Int).toNat=6:=rfl;refine⟨n,Dv.isort (a.map λ x=>(x+cell s (k0+6)%n)%n),Dv.isort (b.map λ x=>(x+cell s (k0+7)%n)%n),false,?_,hP.swap (hP.turn _ (hP.swap (hP.turn _ p))),hn⟩;have ht1:=ee (by_:=cell s (k0+6)%n) (xs:=a) hnp (by omega);have ht2:=ee (by_:=cell s (k0+7)%n) (xs:=b) hnp (by omega);simp only[F_Q0L,b_Q0L,b_Q0L_t5,b_Q0L_t4,b_Q0L_t3,b_Q0L_t2,b_Q0L_t1,Dv.fn,sCons,sSet,aQ,cP,sT,Dv.give,sRet,sFor,iRange,eOp,eVar,eInt,eLst,eTup,lNil,lCons,eCall,Dv.all,R.bind,RL.bind,Dv.R.bindL,Dv.RL.bindL,Out.bind,aw,bf,ah,ak,A2,A9,A8,Bk,List.replicate,Bf,Bg,A1,A3,Bb,Bc,Bq,Bm,Bu,if_true,Nat.reduceAdd,Nat.reduceSub,bE,Dv.flatL,hr,h6,bg,e,ha.get,hb.get,cw (s:=s) (k:=k0+6) (by omega) (by omega),cw (s:=s) (k:=k0+7) (by omega) (by omega),aF hnp,ht1,ht2]
theorem vF {xs:List Int}(h:xs≠[]):Dv.at? (xs.map D.int) (-1)=some (.int (xs.getLast h)):=by
 have hl:0<xs.length:=List.length_pos_iff.mpr h;unfold Dv.at?;rw[if_neg (by omega),if_pos (by simp;omega)];have:((-1:Int)+((xs.map D.int).length:Int)).toNat=xs.length-1:=by simp;omega
 rw[this,Bv,Ba (by omega),List.getLast_eq_getElem];rfl
open Bt Wm
theorem jR (lo:Int):∀ m:Nat,Dv.rangeL lo m=(Dv.upL lo m).map .int
 | 0=>rfl
 | m+1=>by unfold Dv.rangeL Dv.upL;rw[jR (lo+1) m];rfl
theorem p0 (lo:Int):∀ m:Nat,(Dv.upL lo m).length=m
 | 0=>rfl
 | m+1=>by unfold Dv.upL;rw[A8,p0]
theorem og {r:List Int}(h:r≠[]):r.getLastD 0=r.getLast h:=by
 cases r with
 | nil=>exact absurd rfl h
 | cons a t=>simp[List.getLastD]
section
variable {n:Int}{A:List Int}
theorem yi {r:List Int}(hr:r≠[])(hl:r.length<=100)(b1:0<=r.getLastD 0)(b2:r.getLastD 0<n)(n2:n<=60){a1 a2 a3 a4:Option D}:
  ∃ f,c_Q0A_1 [some (.int n),a1,a2,a3,a4,some (L r)]=.ok (LL ((Dv.upL (r.getLastD 0+1) (n-(r.getLastD 0+1)).toNat).map λ p=>r++[p])) f:=by
 have hit:iRange2 (eOp .add (eIx (eVar 5) (eNeg (eInt 1))) (eInt 1)) (eVar 0) [some (.int n),a1,a2,a3,a4,some (L r)]=.ok ((Dv.upL (r.getLastD 0+1) (n-(r.getLastD 0+1)).toNat).map .int) true:=by
  have e1:=vF hr;rw[<- og hr] at e1;simp only[iRange2,eIx,Dv.ixD,eNeg,eOp,eVar,eInt,R.bind,RL.bind,Out.bind,ah,ak,A1,A3,Cn,Bm,if_true,bE,L,e1,cY (n:=n) (by omega) (by omega),cY (n:=r.getLastD 0+1) (by omega) (by omega),jR]
 obtain⟨f,e,_⟩:=kF (elt:=eOp .add (eVar 1) (eLst (lCons (eVar 0) lNil))) (is:=[5]) (g:=λ p=>L (r++[p])) (f:=true) hit (by rw[p0];omega) (λ p _=>by
  have:=kP (a:=r) (b:=[p]) (by simp;omega);simp only[L,A2,A9] at this;simp only[eOp,eVar,eLst,lNil,lCons,Dv.pick,R.bind,RL.bind,Dv.R.bindL,Dv.RL.bindL,Out.bind,ah,ak,A2,A9,A1,A3,Bi,Bm,L,this])
 refine⟨f,?_⟩;unfold c_Q0A_1;rw[e];unfold LL;rw[BI];rfl
theorem zr {a b:List (List Int)}(h:a.length+b.length<=100000):∃ f,opD .add (LL a) (LL b)=.ok (LL (a++b)) f:=by
 unfold LL opD;simp only[A4];rw[if_pos (by unfold Dv.mx;exact h)];exact⟨_,by rw[Cf]⟩
def Av (n:Int)(r:List Int):Prop:=r≠[]/\r.length<=100/\0<=r.getLastD 0/\r.getLastD 0<n
theorem tO (n2:n<=60){a1 a2:D}{z3:Sl}:∀ (RR acc:List (List Int)) (z5:Sl),(∀ r∈RR,Av n r)->acc.length+(ext n RR).length<=100000 ->
  ∃ y5,forGo 5 b_Q0A_l1 (RR.map L) [.sh (.int n),.sh a1,.sh a2,z3,.sh (LL acc),z5]=.nx [.sh (.int n),.sh a1,.sh a2,z3,.sh (LL (acc++ext n RR)),y5]
 | [],acc,z5,_,_=>⟨z5,by simp[forGo,ext]⟩
 | r::RR,acc,z5,hr,hl=>by
  obtain⟨h1,h2,h3,h4⟩:=hr r (A6 ..);have e0:ext n (r::RR)=(Dv.upL (r.getLastD 0+1) (n-(r.getLastD 0+1)).toNat).map (λ p=>r++[p])++ext n RR:=by unfold ext;rw[Ci]
  rw[e0,Bo] at hl;obtain⟨f,c1⟩:=yi (n:=n) (r:=r) h1 h2 h3 h4 n2 (a1:=some a1) (a2:=some a2) (a3:=z3.shared) (a4:=some (LL acc));obtain⟨f2,c2⟩:=zr (a:=acc) (b:=(Dv.upL (r.getLastD 0+1) (n-(r.getLastD 0+1)).toNat).map (λ p=>r++[p])) (by omega);obtain⟨y5,e⟩:=tO n2 (a1:=a1) (a2:=a2) (z3:=z3) RR (acc++(Dv.upL (r.getLastD 0+1) (n-(r.getLastD 0+1)).toNat).map (λ p=>r++[p])) (.sh (L r)) (λ x hx=>hr x (A5 _ hx)) (by rw[Bo];omega);refine⟨y5,?_⟩;rw[A2,bC (st':=[.sh (.int n),.sh a1,.sh a2,z3,.sh (LL (acc++(Dv.upL (r.getLastD 0+1) (n-(r.getLastD 0+1)).toNat).map (λ p=>r++[p]))),.sh (L r)]),e,e0,B2];simp only[Bc,Bb];unfold b_Q0A_l1;simp only[sSetG,Dv.give,Dv.open_,aN,ax,eOp,eVar,R.bind,RL.bind,Out.bind,A2,A9,A1,A3,Bb,Bc,Bn,Bq,Bi,c1,c2]
theorem wO {k:Nat}(hn:1<=n)(n2:n<=60):∀ r∈bx n k,Av n r:=λ r hr=>by
 obtain⟨b,_,hl⟩:=(gi hn).mp hr;have h1:=b.rg (r.getLast b.ne) (List.getLast_mem _);have h2:=b.len;exact⟨b.ne,by omega,by rw[og b.ne];omega,by rw[og b.ne];omega⟩
theorem oU (hn:1<=n)(n2:n<=12){a1:D}:∀ (ks:List Int) (k:Nat) (z3 z4 z5:Sl),
  ∃ y3 y4 y5,forGo 3 b_Q0A_l2 (ks.map .int) [.sh (.int n),.sh a1,.sh (LL (bx n k)),z3,z4,z5]=.nx [.sh (.int n),.sh a1,.sh (LL (bx n (k+ks.length))),y3,y4,y5]
 | [],k,z3,z4,z5=>⟨z3,z4,z5,rfl⟩
 | j::ks,k,z3,z4,z5=>by
  have hlen:=jn n2 (k+1);obtain⟨w5,e1⟩:=tO (n:=n) (by omega) (a1:=a1) (a2:=LL (bx n k)) (z3:=.sh (.int j)) (bx n k) [] z5 (wO hn (by omega)) (by rw[iA];simp;omega);rw[Bg,iA] at e1;obtain⟨y3,y4,y5,e⟩:=oU hn n2 (a1:=a1) ks (k+1) (.sh (.int j)) (.sh (LL (bx n (k+1)))) w5;refine⟨y3,y4,y5,?_⟩;rw[A2,bC (st':=[.sh (.int n),.sh a1,.sh (LL (bx n (k+1))),.sh (.int j),.sh (LL (bx n (k+1))),w5]),e]
  ·rw[A8,show k+1+ks.length=k+(ks.length+1) by omega]
  ·simp only[Bc,Bb]
   unfold b_Q0A_l2;have e2:LL ([]:List (List Int))=.lst []:=rfl;rw[e2] at e1;unfold LL at e1 ⊢;simp only[sCons,sSetG,Dv.give,Dv.open_,aN,ax,sFor,iSeq,eVar,eLst,lNil,R.bind,RL.bind,Out.bind,ak,A2,A9,A1,A3,Bb,Bc,Bn,Bq,Bi,e1]
theorem sY:F_Q0G=F_Q0F:=rfl
theorem jq {cond:EE}{free:Dv.Env}{c:List Int->Bool}:∀ {R:List (List Int)},(∀ r∈R,cond (some (L r)::free)=.ok (.bl (c r)) true)->∃ f,compGo (eVar 0) cond free (R.map L)=.ok ((R.filter c).map L) f
 | [],_=>⟨true,rfl⟩
 | r::R,h=>by
  obtain⟨f,e⟩:=jq (R:=R) λ x hx=>h x (A5 _ hx)
  rw[A2];unfold compGo;rw[h r (A6 ..),CH];cases q:c r with
  | true=>
   have:(eVar 0) (some (L r)::free)=.ok (L r) false:=rfl;simp only[this,e,if_true];exact⟨_,rfl⟩
  | false=>
   simp only[e,Be,if_false];exact⟨_,rfl⟩
theorem nG (h:Beat n A)(n2:n<=12){k:Nat}(hQ:((A.length*(k+1):Nat):Int)=n):∃ f,F_Q0A [.int n,L A]=.ok (LL (mw n A k)) f:=by
 have hp:=h.pos;have hl:=h.len1;have hle:=h.len;have hz:n%(A.length:Int)=0:=by
  rw[<- hQ,CQ];exact Dc ..
 have hdv:n/(A.length:Int)-1=(k:Int):=by
  have:n/(A.length:Int)=((k+1:Nat):Int):=by
   rw[<- hQ,CQ];exact Int.mul_ediv_cancel_left _ (by omega)
  omega
 obtain⟨y3,y4,y5,e⟩:=oU hp n2 (a1:=L A) (upto k) 0 .no .no .no;rw[aY,CF] at e;have e0:bx n 0=[[0]]:=by simp[bx,G]
 rw[e0] at e;have hk:k<=12:=by
  have:A.length*(k+1)<=12:=by omega
  have:=DE (k+1) hl;omega
 obtain⟨f,c2⟩:∃ f,c_Q0A_2 [some (.int n),some (L A),some (LL (bx n k)),y3.get,y4.get,y5.get]=.ok (LL (mw n A k)) f:=by
  have hlen:=jn n2 k;obtain⟨f,e⟩:=jq (cond:=eCall F_Q0G (lCons (eVar 1) (lCons (eVar 2) (lCons (eVar 0) lNil)))) (free:=[some (.int n),some (L A)]) (c:=λ B=>decide (tally n.toNat (hits n A B)=List.replicate n.toNat 1)) (R:=bx n k) (λ r _=>by
   rw[sY];simp only[eVar,lNil,lCons,eCall,R.bind,RL.bind,Dv.R.bindL,Dv.RL.bindL,Out.bind,ah,ak,A1,A3,Bm,Bu,qP (show 0<n by omega) (show n<=60 by omega)])
  refine⟨f,?_⟩;unfold c_Q0A_2 eComp;have hi:iSeq (eVar 2) [some (.int n),some (L A),some (LL (bx n k)),y3.get,y4.get,y5.get]=.ok ((bx n k).map L) false:=rfl;rw[hi];simp only;rw[if_pos (by rw[A4];unfold Dv.mx;omega)];have hpk:Dv.pick [some (.int n),some (L A),some (LL (bx n k)),y3.get,y4.get,y5.get] [0,1]=[some (.int n),some (L A)]:=rfl;rw[hpk,e];rfl
 refine⟨f,?_⟩;have e1:LL [[0]]=.lst [.lst [.int 0]]:=rfl;rw[e1] at e;simp only[F_Q0A,b_Q0A,b_Q0A_t1,b_Q0A_t2,b_Q0A_t3,Dv.fn,sCons,sNil,sSetG,Dv.give,Dv.open_,aN,aL,ax,sIf,sRet,sFor,iRange,eB1,Dv.lenD,eCm,eOp,eVar,eInt,eLst,lNil,lCons,Dv.all,R.bind,RL.bind,Dv.R.bindL,Dv.RL.bindL,Out.bind,bu,aw,ah,ak,A2,A9,A8,Bk,List.replicate,Bf,Bg,A1,A3,Bb,Bc,Bn,Bq,Bi,Bm,By,if_true,Nat.reduceAdd,Nat.reduceSub,decide_true,tF,dh,A4,L,aF (j:=(A.length:Int)) (by omega),hz,decide_true,cA (i:=n) (j:=(A.length:Int)) (by omega) (by omega),hdv,cY (n:=(k:Int)) (by omega) (by omega),Cz,bg];simp only[L] at e c2;simp only[aw,A2,A9,e,c2]
theorem ny (h:Beat n A)(hz:n%(A.length:Int)≠0):F_Q0A [.int n,L A]=.ok (LL []) true:=by
 have hl:=h.len1;simp only[F_Q0A,b_Q0A,b_Q0A_t3,b_Q0A_t2,b_Q0A_t1,Dv.fn,sCons,sIf,sRet,eB1,Dv.lenD,eCm,eOp,eVar,eInt,eLst,lNil,Dv.all,R.bind,RL.bind,Out.bind,bu,aw,ah,ak,A2,A9,A8,Bk,List.replicate,Bf,Bg,A1,A3,BL,Nat.reduceAdd,Nat.reduceSub,dh,A4,L,aF (j:=(A.length:Int)) (by omega),decide_eq_false hz];rfl
end
theorem jm:∀ (a b:List (List Int)) (A B:D) (y z:Sl),a.length=b.length->∃ st',Dv.forGoT (Dv.tupTo [2,3]) b_Q0M_l1 (List.zipWith (λ x y=>D.tup [x,y]) (a.map L) (b.map L)) [.sh A,.sh B,y,z]=(if a=b then .nx st' else .ret (.bl false) true)
 | [],[],A,B,y,z,_=>⟨_,rfl⟩
 | [],_::_,_,_,_,_,h=>by simp at h
 | _::_,[],_,_,_,_,h=>by simp at h
 | x::a,w::b,A,B,y,z,h=>by
  obtain⟨st',e⟩:=jm a b A B (.sh (L x)) (.sh (L w)) (by simpa using h);rw[A2,A2,DD];by_cases q:x=w
  ·subst q
   refine⟨st',?_⟩;rw[gg (st1:=[.sh A,.sh B,.sh (L x),.sh (L x)]) (st':=[.sh A,.sh B,.sh (L x),.sh (L x)]) rfl,e]
   ·simp
   ·simp only[b_Q0M_l1,sNil,sIf,eNot,eVar,lNil,lCons,eCall,Dv.all,R.bind,RL.bind,Dv.R.bindL,Dv.RL.bindL,Out.bind,aw,ak,A2,A9,A1,A3,Bm,Bu,By,decide_true,iQ,decide_true]
  ·refine⟨[],?_⟩
   rw[ip (st1:=[.sh A,.sh B,.sh (L x),.sh (L w)]) (v:=.bl false) (f:=true) rfl,if_neg (by intro z;cases z;exact q rfl)];simp only[b_Q0M_l1,sIf,sRet,eNot,eVar,eBl,lNil,lCons,eCall,Dv.all,R.bind,RL.bind,Dv.R.bindL,Dv.RL.bindL,Out.bind,aw,ak,A2,A9,A1,A3,Bm,Bu,BL,iQ,decide_eq_false q]
theorem wB (a b:List (List Int)):F_Q0M [LL a,LL b]=.ok (.bl (decide (a=b))) true:=by
 have hI:((a.length:Int)=(b.length:Int))=(a.length=b.length):=by simp;omega
 by_cases hl:a.length=b.length
 ·obtain⟨st',e⟩:=jm a b (LL a) (LL b) .no .no hl
  unfold LL at e;by_cases q:a=b
  ·rw[if_pos q] at e
   simp only[F_Q0M,b_Q0M,b_Q0M_t1,b_Q0M_t2,Dv.fn,sCons,sNil,Dv.give,Dv.open_,aN,aL,ax,sIf,sRet,sForT,iZip,eB1,Dv.lenD,Dv.isListD,eOr,eNot,eCm,eVar,eBl,Dv.all,R.bind,RL.bind,Out.bind,bu,aw,ak,A2,A9,A8,Bk,List.replicate,Bf,Bg,A1,A3,Bb,Bc,Bn,Bq,Bi,By,Nat.reduceAdd,Nat.reduceSub,decide_true,dh,A4,LL,hl,e,decide_eq_true q,decide_true]
  ·rw[if_neg q] at e
   simp only[F_Q0M,b_Q0M,b_Q0M_t1,b_Q0M_t2,Dv.fn,sCons,sNil,Dv.give,Dv.open_,aN,aL,ax,sIf,sForT,iZip,eB1,Dv.lenD,Dv.isListD,eOr,eNot,eCm,eVar,Dv.all,R.bind,RL.bind,Out.bind,bu,aw,ak,A2,A9,A8,Bk,List.replicate,Bf,Bg,A1,A3,Bb,Bc,Bn,Bq,Bi,By,Nat.reduceAdd,Nat.reduceSub,decide_true,dh,A4,LL,hl,e,decide_eq_false q,decide_true]
 ·have q:¬ a=b:=λ z=>hl (by rw[z])
  have hl2:¬ (a.length:Int)=(b.length:Int):=by omega
  simp only[F_Q0M,b_Q0M,b_Q0M_t2,b_Q0M_t1,Dv.fn,sCons,sIf,sRet,eB1,Dv.lenD,Dv.isListD,eOr,eNot,eCm,eVar,eBl,Dv.all,R.bind,RL.bind,Out.bind,bu,aw,ak,A2,A9,A8,Bk,List.replicate,Bf,Bg,A1,A3,By,BL,Nat.reduceAdd,Nat.reduceSub,dh,A4,LL,decide_eq_false hl2,decide_eq_false q]
theorem sL (b:List Int)(f:Bool):∃ f',Dv.sliceD (L b) f (some 1) none=.ok (L (b.drop 1)) f':=by
 refine⟨f || Dv.flatL (Dv.cutL (b.map .int) (some 1) none),?_⟩;unfold Dv.sliceD L;simp only;congr 2;unfold Dv.cutL Dv.cutI;simp only[A4];rw[if_neg (by omega)];cases b with
 | nil=>rfl
 | cons x r=>
  simp only[A8,A2,DP,DJ,A2];have:min (1:Int).toNat (r.length+1)=1:=by show min 1 _=1;omega
  rw[this];simp only[DS,DP,DJ];exact Cq (by simp)
theorem nH {n:Int}{b:List Int}(h:Beat n b){p:Int}(hp:0<=p/\p<n)(hn:p∉b):Beat n (Dv.isort (b.drop 1++[p])):=by
 refine eB (by simp) (List.nodup_append.mpr ⟨h.nd.sublist (DY _ _),by simp,λ x hx y hy e=>?_⟩) λ x hx=>?_
 ·simp at hy;subst hy;subst e;exact hn (C4 hx)
 ·rcases List.mem_append.mp hx with hx|hx
  ·exact h.rg x (C4 hx)
  ·simp at hx;subst hx;exact hp
theorem tR {s:List Int}(hs:Sm s):∃ n b f,F_Q0D [L s]=.ok (.lst [.int n,L b]) f/\Beat n b/\n<=12:=by
 have c0:=cw (s:=s) (k:=0) (by omega) (by omega);obtain⟨n,p,q,f,e,⟨hp,_⟩,n2⟩:=tK ur (s:=s) (k0:=1) (by omega) (by omega);have hpos:=hp.pos;have r4:=bA (n:=4) (a:=cell s 0) (by omega);generalize hq:cell s 0%4=kind at *;by_cases h1:kind=1
 ·have hm:=bA (n:=10) (a:=cell s 0/4) (by omega)
  have n1:1<=1+cell s 0/4%10:=by omega
  have so:=vY hs (k:=9) (n:=1+cell s 0/4%10) (by omega) (by omega) n1 (by omega);have h2:¬ kind=2:=by omega
  refine⟨1+cell s 0/4%10,eQ s 9 (1+cell s 0/4%10),false,?_,qx s 9 n1,by omega⟩;simp only[F_Q0D,b_Q0D,b_Q0D_t1,b_Q0D_t2,b_Q0D_t3,b_Q0D_t4,Dv.fn,sCons,sNil,sSet,aQ,cP,Dv.give,Dv.open_,aN,aL,ax,sIf,sRet,sUnpack,Dv.setAll,eCm,eOp,eVar,eInt,eLst,lNil,lCons,eCall,Dv.all,R.bind,RL.bind,Dv.R.bindL,Dv.RL.bindL,Out.bind,bu,aw,bf,ah,ak,A2,A9,A8,Bk,List.replicate,Bf,Bg,A1,A3,Bb,Bc,Bn,Bq,Bi,Bm,Bu,if_true,Nat.reduceAdd,Nat.reduceSub,bE,bZ,e,c0,aF (j:=4) (by decide),hq,decide_eq_true h1,cA (j:=4) (by decide) (by decide),aF (j:=10) (by decide),so,decide_eq_false h2]
 ·by_cases h2:kind=2
  ·have hm:=bA (n:=n) (a:=cell s 0/4) (by omega)
   by_cases hin:cell s 0/4%n∈p
   ·refine⟨n,p,false,?_,hp,n2⟩
    simp only[F_Q0D,b_Q0D,b_Q0D_t1,b_Q0D_t2,b_Q0D_t3,b_Q0D_t4,Dv.fn,sCons,sNil,sSet,aQ,Dv.give,Dv.open_,aN,aL,ax,sIf,sRet,sUnpack,Dv.setAll,eCm,eOp,eVar,eInt,eLst,lNil,lCons,eCall,Dv.all,R.bind,RL.bind,Dv.R.bindL,Dv.RL.bindL,Out.bind,bu,aw,ah,ak,A2,A9,A8,Bk,List.replicate,Bf,Bg,A1,A3,Bb,Bc,Bn,Bq,Bi,Bm,Bu,By,if_true,Nat.reduceAdd,Nat.reduceSub,bZ,mv,e,c0,aF (j:=4) (by decide),hq,decide_eq_false h1,decide_eq_true h2,cA (j:=4) (by decide) (by decide),aF (j:=n) (by omega),decide_eq_true hin]
   ·have hl:=hp.len
    obtain⟨f',ed⟩:=sL p false;have ec:=kP (a:=p.drop 1) (b:=[cell s 0/4%n]) (by simp;omega);have es:=di (xs:=p.drop 1++[cell s 0/4%n]) (by simp;omega) true;have e1:L [cell s 0/4%n]=.lst [.int (cell s 0/4%n)]:=rfl;rw[e1] at ec;refine⟨n,Dv.isort (p.drop 1++[cell s 0/4%n]),false,?_,nH hp hm hin,n2⟩;simp only[F_Q0D,b_Q0D,b_Q0D_t1,b_Q0D_t2,b_Q0D_t3,b_Q0D_t4,Dv.fn,sCons,sNil,sSet,aQ,cP,Dv.give,Dv.open_,aN,aL,ax,sIf,sRet,sUnpack,Dv.setAll,eB1,eCm,eOp,eVar,eInt,eLst,lNil,lCons,eCall,eSlice,ePart,Dv.all,R.bind,RL.bind,Dv.R.bindL,Dv.RL.bindL,Out.bind,bu,aw,bf,ah,ak,A2,A9,A8,Bk,List.replicate,Bf,Bg,A1,A3,Bb,Bc,Bn,Bq,Bi,Bm,Bu,BL,if_true,Nat.reduceAdd,Nat.reduceSub,bZ,mv,e,c0,aF (j:=4) (by decide),hq,decide_eq_false h1,decide_eq_true h2,cA (j:=4) (by decide) (by decide),aF (j:=n) (by omega),decide_eq_false hin,ed,ec,es]
  ·refine⟨n,p,false,?_,hp,n2⟩
   simp only[F_Q0D,b_Q0D,b_Q0D_t1,b_Q0D_t2,b_Q0D_t3,b_Q0D_t4,Dv.fn,sCons,sNil,sSet,aQ,Dv.give,Dv.open_,aN,aL,ax,sIf,sRet,sUnpack,Dv.setAll,eCm,eOp,eVar,eInt,eLst,lNil,lCons,eCall,Dv.all,R.bind,RL.bind,Dv.R.bindL,Dv.RL.bindL,Out.bind,bu,aw,ah,ak,A2,A9,A8,Bk,List.replicate,Bf,Bg,A1,A3,Bb,Bc,Bn,Bq,Bi,Bm,Bu,if_true,Nat.reduceAdd,Nat.reduceSub,bZ,e,c0,aF (j:=4) (by decide),hq,decide_eq_false h1,decide_eq_false h2]
theorem vO:((List.range 13).all λ a=>(List.range 13).all λ k=>decide (a*(k+1) > 12) || (decide (bnd a k<=2000)&&decide (a ^ k<64)))=true:=by decide +kernel
theorem yx {a k:Nat}(ha:1<=a)(h:a*(k+1)<=12):bnd a k<=2000/\a ^ k<64:=by
 have h1:a<13:=by have:=Nat.le_mul_of_pos_right a (show 0<k+1 by omega);omega
 have h2:k<13:=by have:=DE (k+1) ha;omega
 have:=List.all_eq_true.mp (List.all_eq_true.mp vO a (List.mem_range.mpr h1)) k (List.mem_range.mpr h2);simp only[D6,Bj,decide_eq_true_eq] at this
 rcases this with h' | h'
 ·omega
 ·exact h'
theorem l6:∀ {X:List (List Int)},(∀ r∈X,r.length<=100)->∃ m,Dv.shapeL (X.map L)=some m/\m<=100
 | [],_=>⟨0,rfl,by omega⟩
 | r::X,h=>by
  obtain⟨m,e,hm⟩:=l6 (X:=X) λ x hx=>h x (A5 _ hx)
  have:=h r (A6 ..);refine⟨max r.length m,?_,by omega⟩;rw[A2];unfold L;unfold Dv.shapeL;unfold L at e;rw[e,cE];simp
def turn (n:Int)(xs:List Int)(c:Int):List Int:=Dv.isort (xs.map λ x=>(x+c)%n)
def zY (n:Int):List Int:=(List.range (n-1).toNat).map λ (i:Nat)=>1+(i:Int)
def own (n:Int)(xs:List Int):Int:=((zY n).find? λ c=>decide (turn n xs c=xs)).getD n
theorem o9 {n:Int}(h:-1000000<=n)(h2:n<=1000000):rngOk n=true:=by
 unfold rngOk;simp[h,h2]
theorem eT {elt:EE}{free:Dv.Env}{g:Int->List Int}:∀ {xs:List Int},(∀ x∈xs,elt (some (.int x)::free)=.ok (L (g x)) true) ->
  compGo elt (eBl true) free (xs.map .int)=.ok (xs.map λ x=>L (g x)) true
 | [],_=>rfl
 | x::r,h=>by
  have ih:=eT (λ y hy=>h y (A5 _ hy));rw[A2];unfold compGo;simp only[eBl,h x (A6 ..),ih,A2,Bm]
theorem kC (g:Int->List Int):∀ xs:List Int,Dv.listsOf (xs.map λ x=>L (g x))=some (xs.map g)
 | []=>rfl
 | x::r=>by
  rw[A2];unfold L;unfold Dv.listsOf;rw[f9];have ih:=kC g r;unfold L at ih;rw[ih];rfl
theorem jc {n:Int}{xs:List Int}(hn:n<=60)(h:Beat n xs):F_Q06 [.int n,L xs]=.ok (L (Dv.least ((upto n.toNat).map (turn n xs)))) true:=by
 have hp:=h.pos;have hc:c_Q06_1 [some (.int n),some (L xs)]=.ok (.lst ((upto n.toNat).map λ c=>L (turn n xs c))) true:=by
  unfold c_Q06_1 eComp;simp only[iRange,eVar,A1,o9 (n:=n) (by omega) (by omega),if_true,bg];rw[if_pos (by rw[A4,aY];unfold Dv.mx;omega)];rw[eT (g:=turn n xs)];intro x hx;simp only[eVar,lNil,lCons,eCall,Dv.pick,R.bind,RL.bind,Dv.R.bindL,Dv.RL.bindL,Out.bind,ah,ak,A2,A9,A1,A3,Bi,Bm,Bu,gB hn h,turn]
 have hm:Dv.minD (.lst ((upto n.toNat).map λ c=>L (turn n xs c))) true=.ok (L (Dv.least ((upto n.toNat).map (turn n xs)))) true:=by
  unfold Dv.minD;simp only[kC];rw[if_pos (by rw[A4,aY];omega)]
 simp only[F_Q06,b_Q06,b_Q06_t1,Dv.fn,sCons,sRet,sExpr,eB1,eVar,lNil,lCons,eCall,Dv.all,R.bind,RL.bind,Dv.R.bindL,Dv.RL.bindL,Out.bind,aw,ah,ak,A2,A9,A8,Bk,List.replicate,Bf,Bg,A1,A3,Bm,Bu,Nat.reduceAdd,Nat.reduceSub,cc hn h,hc,hm]
theorem rk {n:Int}{xs:List Int}(a b:Int):turn n (turn n xs a) b=turn n xs (a+b):=by
 unfold turn;refine eF ?_
 have h:=(ay (xs.map λ x=>(x+a)%n)).map (λ x=>(x+b)%n);refine h.trans ?_
 rw[BI];refine List.Perm.of_eq (BH λ x _=>?_);simp only[Gv];rw[Int.emod_add_emod,Int.add_assoc]
theorem qS {n:Int}{xs:List Int}(h:Beat n xs):turn n xs 0=xs:=by
 unfold turn;have e:(xs.map λ x=>(x+0)%n)=xs:=by
  conv=>rhs;rw[<- Eo xs]
  refine BH λ x hx=>?_
  have:=h.rg x hx;rw[Dw,CY this.1 this.2];rfl
 rw[e];exact lP (h.up.imp λ h=>Ek h)
theorem gy {n c:Int}{xs:List Int}(h:Beat n xs):Beat n (turn n xs c):=da h
theorem lex_irr:∀ a:List Int,Dv.lexLt a a=false
 | []=>rfl
 | x::r=>by unfold Dv.lexLt;rw[if_pos rfl];exact lex_irr r
theorem lex_trans:∀ {a b c:List Int},Dv.lexLt a b=true->Dv.lexLt b c=true->Dv.lexLt a c=true
 | a,[],c,h1,h2=>by
  cases a with
  | nil=>simp[Dv.lexLt] at h1
  | cons x r=>simp[Dv.lexLt] at h1
 | [],y::b,[],h1,h2=>by simp[Dv.lexLt] at h2
 | [],y::b,z::c,h1,h2=>by simp[Dv.lexLt]
 | x::a,y::b,[],h1,h2=>by simp[Dv.lexLt] at h2
 | x::a,y::b,z::c,h1,h2=>by
  unfold Dv.lexLt at h1 h2 ⊢;by_cases e1:x=y
  ·subst e1
   rw[if_pos rfl] at h1;by_cases e2:x=z
   ·subst e2
    rw[if_pos rfl] at h2 ⊢;exact lex_trans h1 h2
   ·rw[if_neg e2] at h2 ⊢
    exact h2
  ·rw[if_neg e1] at h1
   have h1:=of_decide_eq_true h1;by_cases e2:y=z
   ·subst e2
    rw[if_neg e1];exact decide_eq_true h1
   ·rw[if_neg e2] at h2
    have h2:=of_decide_eq_true h2;rw[if_neg (by omega)];exact decide_eq_true (by omega)
theorem oX (f:Nat->List Int):∀ k,Dv.bestIx (λ i j=>Dv.lexLt (f i) (f j)) k<=k/\∀ i,i<=k->Dv.lexLt (f i) (f (Dv.bestIx (λ i j=>Dv.lexLt (f i) (f j)) k))=false
 | 0=>⟨Bh _,λ i hi=>by
  have:i=0:=by omega
  subst this;exact lex_irr _⟩
 | k+1=>by
  obtain⟨h1,h2⟩:=oX f k;unfold Dv.bestIx;cases hb:Dv.lexLt (f (k+1)) (f (Dv.bestIx (λ i j=>Dv.lexLt (f i) (f j)) k)) with
  | true=>
   rw[if_pos rfl];refine⟨Bh _,λ i hi=>?_⟩
   rcases CD i (k+1) with h|h
   ·cases hc:Dv.lexLt (f i) (f (k+1)) with
    | false=>rfl
    | true=>
     have:=lex_trans hc hb;rw[h2 i (by omega)] at this;cases this
   ·have:i=k+1:=by omega
    subst this;exact lex_irr _
  | false=>
   rw[if_neg (by simp)];refine⟨by omega,λ i hi=>?_⟩
   rcases CD i (k+1) with h|h
   ·exact h2 i (by omega)
   ·have:i=k+1:=by omega
    subst this;exact hb
theorem lX {nss:List (List Int)}(h:nss≠[]):Dv.least nss∈nss/\∀ y∈nss,Dv.lexLt y (Dv.least nss)=false:=by
 have hl:=List.length_pos_iff.mpr h;obtain⟨h1,h2⟩:=oX (λ i=>nss.getD i []) (nss.length-1);unfold Dv.least Dv.leastIx;have gm:∀ i,i<nss.length->nss.getD i []∈nss:=λ i hi=>by
  rw[A7,Ba hi];exact BO hi
 refine⟨gm _ (by omega),λ y hy=>?_⟩;obtain⟨i,hi,rfl⟩:=BC hy;have:=h2 i (by omega)
 rwa [show nss.getD i []=nss[i] by rw[A7,Ba hi];rfl] at this
def fst (n:Int)(r:List Int):List Int:=Dv.least ((upto n.toNat).map (turn n r))
theorem lR:∀ (nss σ:List (List Int)) {x:List Int},x∈nss.foldl Dv.onceStepL σ ↔ x∈σ\/x∈nss
 | [],σ,x=>by simp
 | k::r,σ,x=>by
  rw[Bn,lR r];unfold Dv.onceStepL
  split
  ·rename_i q
   have:k∈σ:=by simpa using q
   constructor
   ·rintro (a|a)
    ·exact .inl a
    ·exact .inr (A5 _ a)
   ·rintro (a|a)
    ·exact .inl a
    ·rcases List.mem_cons.mp a with rfl|a
     ·exact .inl this
     ·exact .inr a
  ·simp only[B0,Cc,BE,or_assoc,BG,false_or]
theorem ky:∀ (nss σ:List (List Int)),(nss.foldl Dv.onceStepL σ).length<=σ.length+nss.length
 | [],_=>by simp
 | k::r,σ=>by
  rw[Bn];refine BN (ky r _) ?_
  unfold Dv.onceStepL
  split <;>simp <;>omega
theorem zb {n:Int}{r:List Int}(h:Beat n r):fst n r≠[]:=by
 have hp:=h.pos;have h1:=(lX (nss:=(upto n.toNat).map (turn n r)) (by
  intro e;have:=congrArg List.length e;rw[A4,aY] at this;simp at this;omega)).1
 obtain⟨c,_,e⟩:=List.mem_map.mp h1;unfold fst;rw[<- e];exact(gy h).ne
theorem oK:∀ (X:List (List Int)),(∀ r∈X,r≠[])->Dv.tupsOf (X.map λ r=>.tup (r.map .int))=some X
 | [],_=>rfl
 | r::X,h=>by
  rw[A2];unfold Dv.tupsOf;rw[f9,oK X λ x hx=>h x (A5 _ hx)];have:=h r (A6 ..);cases r with
  | nil=>exact absurd rfl this
  | cons a b=>rfl
theorem iD {elt:EE}{free:Dv.Env}{g:List Int->D}:∀ {R:List (List Int)},(∀ r∈R,elt (some (L r)::free)=.ok (g r) true)->compGo elt (eBl true) free (R.map L)=.ok (R.map g) true
 | [],_=>rfl
 | r::R,h=>by
  rw[A2];unfold compGo;rw[h r (A6 ..),iD λ x hx=>h x (A5 _ hx)];rfl
theorem jH {elt:EE}{free:Dv.Env}{g:List Int->D}:∀ {R:List (List Int)},(∀ r∈R,elt (some (.tup (r.map .int))::free)=.ok (g r) true)->compGo elt (eBl true) free (R.map λ r=>.tup (r.map .int))=.ok (R.map g) true
 | [],_=>rfl
 | r::R,h=>by
  rw[A2];unfold compGo;rw[h r (A6 ..),jH λ x hx=>h x (A5 _ hx)];rfl
def bU (n:Int)(X:List (List Int)):List (List Int):=Dv.lsort (Dv.onceL (X.map (fst n)))
theorem iy (n:Int)(X:List (List Int)):(bU n X).length<=X.length:=by
 unfold bU Dv.onceL;rw[(Dv.lsort_perm _).length_eq];have:=ky (X.map (fst n)) [];simpa using this
theorem mem_kindsL {n:Int}{X:List (List Int)}{r:List Int}:r∈bU n X ↔ ∃ x∈X,fst n x=r:=by
 unfold bU Dv.onceL;rw[(Dv.lsort_perm _).mem_iff,lR];simp
theorem mi {n:Int}{A:List Int}{X:List (List Int)}(n2:n<=60)(e:F_Q00 [.int n,L A]=.ok (LL X) true)(hX:∀ r∈X,Beat n r)(hl:X.length<64):F_Q0R [.int n,L A]=.ok (LL (bU n X)) true:=by
 have e1:c_Q0R_1 [some (.int n),some (L A),none]=.ok (.lst (X.map λ r=>.tup ((fst n r).map .int))) true:=by
  unfold c_Q0R_1 eComp;have:iSeq (eCall F_Q00 (lCons (eVar 0) (lCons (eVar 1) lNil))) [some (.int n),some (L A),none]=.ok (X.map L) true:=by
   simp only[iSeq,eVar,lNil,lCons,eCall,R.bind,RL.bind,Dv.R.bindL,Dv.RL.bindL,Out.bind,ah,ak,A1,A3,Bm,Bu,e,LL]
  rw[this];simp only;rw[if_pos (by rw[A4];unfold Dv.mx;omega)];rw[iD (g:=λ r=>.tup ((fst n r).map .int)) λ r hr=>?_];simp only[eB1,eVar,lNil,lCons,eCall,Dv.pick,R.bind,RL.bind,Dv.R.bindL,Dv.RL.bindL,Out.bind,ah,ak,A2,A9,A1,A3,Bi,Cn,Bm,Bu,cE,jc n2 (hX r hr),Dv.tupleD];rfl
 have e2:c_Q0R_2 [some (.int n),some (L A),some (.lst (X.map λ r=>.tup ((fst n r).map .int)))]=.ok (LL (bU n X)) true:=by
  unfold c_Q0R_2 eComp;have ht:Dv.tupsOf (X.map λ r=>.tup ((fst n r).map .int))=some (X.map (fst n)):=by
   have:=oK (X.map (fst n)) (λ r hr=>by obtain⟨x,hx,rfl⟩:=List.mem_map.mp hr;exact zb (hX x hx));rw[BI] at this;exact this
  have:iSeq (eB1 Dv.sortSetTD (eVar 2)) [some (.int n),some (L A),some (.lst (X.map λ r=>.tup ((fst n r).map .int)))]=.ok ((bU n X).map λ r=>.tup (r.map .int)) false:=by
   simp only[iSeq,eB1,eVar,R.bind,RL.bind,Out.bind,ak,A1,A3,A4,Dv.sortSetTD,ht];rw[if_pos hl];rfl
  rw[this];simp only;rw[if_pos (by have:=iy n X;rw[A4];unfold Dv.mx;omega)];rw[jH (g:=L) λ r hr=>?_]
  ·rfl
  ·simp only[eB1,Dv.listD,eVar,Dv.pick,R.bind,RL.bind,Out.bind,tm,A9,A1,Cn,cE,Dv.listD]
   all_goals rfl
 simp only[F_Q0R,b_Q0R,b_Q0R_t1,Dv.fn,sCons,sSetG,Dv.give,Dv.open_,aN,aL,ax,sRet,Dv.all,R.bind,RL.bind,Out.bind,aw,A2,A9,A8,Bk,List.replicate,Bf,Bg,A1,A3,Bb,Bc,Bn,Bq,Bi,Nat.reduceAdd,Nat.reduceSub,e1,e2]
theorem xB {n:Int}{A:List Int}(h:Beat n A)(n2:n<=12):∃ X f,F_Q00 [.int n,L A]=.ok (LL X) true/\F_Q0A [.int n,L A]=.ok (LL X) f/\X.length<64/\(X.Pairwise λ a b=>Dv.lexLt a b=true)/\∀ B,B∈X ↔ (0:Int)∈B/\Fill n A B:=by
 have hp:=h.pos;have hl:=h.len1;by_cases hz:n%(A.length:Int)=0
 ·obtain⟨k,hk⟩:∃ k:Nat,((A.length*(k+1):Nat):Int)=n:=by
   obtain⟨c,hc⟩:=Dt hz;have hc1:1<=c:=by
    by_cases z:1<=c
    ·exact z
    ·have:(A.length:Int)*c<=(A.length:Int)*0:=B8 (by omega) (by omega)
     omega
   refine⟨(c-1).toNat,?_⟩;rw[CQ,hc];congr 1;omega
  have ⟨b1,b2⟩:=yx hl (show A.length*(k+1)<=12 by omega);have c1:=sE h (k+1) [0];have c2:=qd h (k+1) [0];simp only[DS] at c1 c2;have e1:=lI h (by omega) hk (by omega) (by omega);obtain⟨f,e2⟩:=nG h n2 hk;refine⟨mw n A k,f,?_,e2,?_,?_,λ B=>?_⟩
  ·rw[e1,pN h hk]
  ·rw[<- pN h hk,(Dv.lsort_perm _).length_eq];omega
  ·exact List.Pairwise.filter _ (xk _ _ _ _)
  ·unfold mw
   rw[CO,gi hp,decide_eq_true_eq]
   constructor
   ·rintro ⟨⟨b,h0,_⟩,ht⟩
    exact⟨h0,oO h b ht⟩
   ·rintro ⟨h0,f⟩
    refine⟨⟨f.oth,h0,?_⟩,f.tally⟩;have:=f.len;have e:A.length*B.length=A.length*(k+1):=by omega
    exact CL h.len1 e
 ·refine⟨[],true,l8 h (by omega) hz,ny h hz,by simp,.nil,λ B=>⟨λ hB=>(by cases hB),λ⟨_,f⟩=>absurd ?_ hz⟩⟩
  have:=f.len;rw[<- this,CQ];exact Dc _ _
theorem wZ {X Y:List (List Int)}(hX:X.Pairwise λ a b=>Dv.lexLt a b=true)(hY:Y.Pairwise λ a b=>Dv.lexLt a b=true)(h:∀ B,B∈X ↔ B∈Y):X=Y:=by
 have nd:∀ {Z:List (List Int)},(Z.Pairwise λ a b=>Dv.lexLt a b=true)->Z.Nodup:=λ hz=>hz.imp λ {a b} q e=>by subst e;rw[Dv.lex_irr] at q;cases q
 exact Dv.sorted_one ((BW (nd hX) (nd hY)).mpr h) (hX.imp λ q=>Dv.lt_le q) (hY.imp λ q=>Dv.lt_le q)
theorem wu {X:List (List Int)}{B:List Int}(hl:X.length<=1000):Dv.inG true (L B) (LL X)=.ok (.bl (!(X.any (· == B)))) true:=by
 unfold LL Dv.inG;have h1:Dv.depthL (X.map L)<=1:=by
  clear hl
  induction X with
  | nil=>simp[Dv.depthL]
  | cons r X ih=>rw[A2];unfold Dv.depthL;rw[gq];omega
 have h2:∀ X:List (List Int),Dv.eqsD (X.map L) (L B)=some (X.map λ r=>decide (r=B)):=by
  intro X
  induction X with
  | nil=>rfl
  | cons r X ih=>rw[A2];unfold Dv.eqsD;rw[ih,zk];rfl
 have z:(decide (Dv.depthL (X.map L)<=8)&&decide (Dv.depthD (L B)<=8)&&decide ((X.map L).length<=Dv.mx))=true:=by
  rw[gq,A4,decide_eq_true (show Dv.depthL (X.map L)<=8 by omega),decide_eq_true (show X.length<=Dv.mx by unfold Dv.mx;omega)];rfl
 simp only[z,if_true,h2];congr 3;rw[List.any_map];congr 1;funext r;simp only[Gv,id];rw[CN];simp
theorem nF {n:Int}{r:List Int}{acc:List (List Int)}(h:Beat n r)(n2:n<=60)(hl:acc.length<900)(d1:D)(z4:Sl):∃ z4',b_Q0J_l1 [.sh (.int n),.sh d1,.ow (LL acc),.sh (L r),z4]=.nx [.sh (.int n),.sh d1,.ow (LL (Dv.onceStepL acc (fst n r))),.sh (L r),z4']:=by
 have hp:=h.pos;have hrl:=h.len;have hc:∀ a1 a2 a4,c_Q0J_1 [some (.int n),a1,a2,some (L r),a4]=.ok (.lst ((upto n.toNat).map λ c=>L (turn n r c))) true:=by
  intro a1 a2 a4;unfold c_Q0J_1 eComp;simp only[iRange,eVar,A1,o9 (n:=n) (by omega) (by omega),if_true,bg];rw[if_pos (by rw[A4,aY];unfold Dv.mx;omega)];rw[eT (g:=turn n r)];intro x hx;simp only[eVar,lNil,lCons,eCall,Dv.pick,R.bind,RL.bind,Dv.R.bindL,Dv.RL.bindL,Out.bind,ah,ak,A2,A9,A1,A3,Bi,Bm,Bu,ee (n:=n) (by_:=x) (xs:=r) (by omega) (by omega),turn]
 have hm:Dv.minD (.lst ((upto n.toNat).map λ c=>L (turn n r c))) true=.ok (L (fst n r)) true:=by
  unfold Dv.minD;simp only[kC];rw[if_pos (by rw[A4,aY];omega)];rfl
 have hi:=wu (X:=acc) (B:=fst n r) (by omega);refine⟨.sh (L (fst n r)),?_⟩;unfold Dv.onceStepL;by_cases q:acc.any (· == fst n r)=true
 ·rw[q] at hi
  rw[if_pos q];simp only[b_Q0J_l1,sCons,sNil,sSetG,Dv.give,Dv.open_,aN,ax,aV,sIf,eB1,eB2,eVar,Dv.all,R.bind,RL.bind,Out.bind,aw,bf,ak,A2,A9,A1,A3,Bb,Bc,Bn,Bq,Bi,By,hc,hm,hi,eB2]
 ·have q':acc.any (· == fst n r)=false:=Bool.eq_false_iff.mpr q
  rw[q'] at hi;rw[if_neg q];have ha:decide ((acc.map L).length<Dv.mx)=true:=decide_eq_true (by rw[A4];unfold Dv.mx;omega);have e1:LL (acc++[fst n r])=.lst (acc.map L++[L (fst n r)]):=by unfold LL;rw[Cf];rfl
  simp only[b_Q0J_l1,sCons,sSetG,Dv.give,Dv.open_,aN,ax,aV,sIf,eB1,eB2,eVar,Dv.all,R.bind,RL.bind,Out.bind,aw,bf,ak,A2,A9,A1,A3,Bb,Bc,Bn,Bq,Bi,BL,hc,hm,hi,eB2,sAppG];rw[e1];simp only[LL,ha,if_true]
theorem ig {n:Int}(n2:n<=60)(d1:D):∀ (X acc:List (List Int)) (z3 z4:Sl),(∀ r∈X,Beat n r)->acc.length+X.length<900->∃ z3' z4',forGo 3 b_Q0J_l1 (X.map L) [.sh (.int n),.sh d1,.ow (LL acc),z3,z4]=.nx [.sh (.int n),.sh d1,.ow (LL ((X.map (fst n)).foldl Dv.onceStepL acc)),z3',z4']
 | [],acc,z3,z4,_,_=>⟨z3,z4,rfl⟩
 | r::X,acc,z3,z4,h,hl=>by
  simp only[A8] at hl;obtain⟨z,e⟩:=nF (acc:=acc) (h r (A6 ..)) n2 (by omega) d1 z4;have hs:(Dv.onceStepL acc (fst n r)).length<=acc.length+1:=by unfold Dv.onceStepL;split <;>simp
  obtain⟨z3',z4',e2⟩:=ig n2 d1 X (Dv.onceStepL acc (fst n r)) (.sh (L r)) z (λ x hx=>h x (A5 _ hx)) (by omega);refine⟨z3',z4',?_⟩;rw[A2,A2,Bn];unfold forGo;have e':b_Q0J_l1 ([.sh (.int n),.sh d1,.ow (LL acc),z3,z4].set 3 (.sh (L r)))=_:=e;rw[e'];exact e2
theorem kK {n:Int}{A:List Int}{X:List (List Int)}{f:Bool}(n2:n<=60)(e:F_Q0A [.int n,L A]=.ok (LL X) f)(hX:∀ r∈X,Beat n r)(hl:X.length<64):∃ f',F_Q0J [.int n,L A]=.ok (LL (bU n X)) f':=by
 obtain⟨z3,z4,el⟩:=ig n2 (L A) X [] .no .no hX (by simp;omega);have e0:(LL []:D)=.lst []:=rfl;rw[e0] at el;have hs:∀ g,Dv.sortedLD (LL (Dv.onceL (X.map (fst n)))) g=.ok (LL (bU n X)) g:=by
  intro g;unfold LL Dv.sortedLD;simp only[hV];rw[if_pos (by have:=ky (X.map (fst n)) [];simp at this;unfold Dv.onceL;omega)];rfl
 have e1:iSeq (eCall F_Q0A (lCons (eVar 0) (lCons (eVar 1) lNil))) [some (.int n),some (L A),none,none,none]=.ok (X.map L) f:=by
  simp only[iSeq,eVar,lNil,lCons,eCall,R.bind,RL.bind,Dv.R.bindL,Dv.RL.bindL,Out.bind,ah,ak,A1,A3,Bm,Bu,e,LL]
 refine⟨false,?_⟩;have e2:(X.map (fst n)).foldl Dv.onceStepL []=Dv.onceL (X.map (fst n)):=rfl;rw[e2] at el;simp only[F_Q0J,b_Q0J,b_Q0J_t1,b_Q0J_t2,sFor,Dv.fn,sCons,sSet,eLst,lNil,keep_nil,Dv.give,Dv.open_,aN,kx,aL,ax,aV,A2,A9,A8,Bk,List.replicate,Bf,Bg,A1,A3,Bb,Bc,Bn,Bq,Bi,RL.bind,Dv.all,Nat.reduceAdd,Nat.reduceSub,Out.bind,Dv.flatL,Bm,if_true,e1,el,sRet,eB1,R.bind,eVar,bf,aw,hs];rfl
theorem law44_ok {s:List Int}(hs:Sm s):F_Q0H [L s]=.ok (.bl true) true:=by
 obtain⟨n,A,f0,e0,h,n2⟩:=tR hs;have hp:=h.pos;have hl:=h.len;have c0:=cw (s:=s) (k:=0) (by omega) (by omega);obtain⟨X,f1,e1,e2,x1,x2,x3⟩:=xB h n2;have hX:∀ r∈X,Beat n r:=λ r hr=>((x3 r).mp hr).2.oth
 generalize hby:cell s 0/4%n=by_ at *;have h1:Beat n (Dv.isort (A.map λ x=>(x+by_)%n)):=da h;obtain⟨Y,f2,e3,_,y1,y2,y3⟩:=xB h1 n2;have hXY:X=Y:=by
  refine wZ x2 y2 λ B=>?_
  rw[x3,y3];refine and_congr_right λ _=>⟨λ f=>f.turn,λ f=>?_⟩
  have g:=f.turn (c:=-by_);have e:turn n (turn n A by_) (-by_)=A:=by rw[rk,Int.add_right_neg,qS h]
  unfold turn at e;rw[e] at g;exact g
 subst hXY;have k1:=mi (by omega) e1 hX x1;have k2:=mi (by omega) e3 hX x1;obtain⟨f3,k3⟩:=kK (by omega) e2 hX x1;have et:=ee (n:=n) (by_:=by_) (xs:=A) (by omega) (by omega);obtain⟨m,sm,hm⟩:=l6 (X:=bU n X) λ r hr=>by
  obtain⟨x,hx,rfl⟩:=mem_kindsL.mp hr;have h1:=(lX (nss:=(upto n.toNat).map (turn n x)) (by
   intro e;have:=congrArg List.length e;rw[A4,aY] at this;simp at this;omega)).1
  obtain⟨c,_,e⟩:=List.mem_map.mp h1;unfold fst;rw[<- e];have:=(gy (c:=c) (hX x hx)).len;omega
 have hkl:=iy n X;have rx:=wB (bU n X) (bU n X);rw[decide_eq_true rfl] at rx;have hk:(decide (m<2000)&&decide (((bU n X).map L).length<=2000))=true:=by
  rw[A4,Bj];exact⟨decide_eq_true (by omega),decide_eq_true (by omega)⟩
 have ls:Dv.listD (L A) false=.ok (L A) true:=by
  unfold Dv.listD L;simp[cE]
 have sk:∀ (z0 z1 z2 z3 z4 z7:Sl),sKillRows 5 6 [z0,z1,z2,z3,z4,.dp (LL (bU n X)),.no,z7]=.nx [z0,z1,z2,z3,z4,.no,.no,z7]:=by
  intro z0 z1 z2 z3 z4 z7;unfold sKillRows LL;simp only[A3,A1,sm,hk,CM];rfl
 simp only[F_Q0H,b_Q0H,b_Q0H_t1,b_Q0H_t2,b_Q0H_t3,b_Q0H_t4,b_Q0H_t5,b_Q0H_t6,b_Q0H_t7,Dv.fn,sCons,sNil,sSet,sSetG,cP,Dv.give,Dv.open_,aN,aL,ax,sIf,sRet,sUnpackL,Dv.setAll,eB1,Dv.listD,eOr,eAnd,eNot,eCm,eOp,eVar,eInt,lNil,lCons,eCall,Dv.all,R.bind,RL.bind,Dv.R.bindL,Dv.RL.bindL,Out.bind,bu,aw,bf,yu,sSetD,ah,ak,A2,A9,A8,Bk,List.replicate,Bf,Bg,A1,A3,Bb,Bc,Bn,Bq,Bi,Cn,Bm,CM,Bu,By,if_true,Nat.reduceAdd,Nat.reduceSub,decide_true,yE,cE,e0,k3,ls,k1,rx,decide_true,sk,c0,cA (j:=4) (by decide) (by decide),aF (j:=n) (by omega),hby,et,k2]
end Cw
noncomputable def PySem.W.Fast.tw5903086032488593249:PySem.Program:=PySem.Challenge.pw_canonwheel_k44_partner_kinds
theorem PySem.W.Fast.te5903086032488593249:PySem.Challenge.pw_canonwheel_k44_partner_kinds=PySem.W.Fast.tw5903086032488593249:=rfl
def PySem.W.Fast.tw15015162287704175010 : Unit := ()
def PySem.W.Fast.tw17559291422567298844 : Unit := ()
def PySem.W.Fast.tw9860960078620040662 : Unit := ()
def PySem.W.Fast.tw18046617215833128033 : Unit := ()
def PySem.W.Fast.tw4737364205925244656 : Unit := ()
def PySem.W.Fast.tw5796570140191809500 : Unit := ()
def PySem.W.Fast.tw1669371121387950778 : Unit := ()
def PySem.W.Fast.tw5422626608860211398 : Unit := ()
def PySem.W.Fast.tw10770706374674739671 : Unit := ()
def PySem.W.Fast.tw14881502564759992509 : Unit := ()
def PySem.W.Fast.tw2851634282492011264 : Unit := ()
open PySem PySem.W PyProof.Rows
set_option maxRecDepth 100000 in
set_option maxHeartbeats 0 in
theorem PySem.Challenge.cw_canonwheel_k44_partner_kinds_holds : PySem.Challenge.rw_canonwheel_k44_partner_kinds.Holds := by
 w_on; o_law; k_head; (case hw => w_witness2)
 k_fill
 refine Sd.walkD (l := PySem.Challenge.rw_canonwheel_k44_partner_kinds) (k := 9) (x := "_law_script") (CX := fun w => Sd.CXe PySem.Challenge.rw_canonwheel_k44_partner_kinds.prog w) (Fl := Cw.F_Q0H) rfl rfl ⟨rfl,by decide,by decide⟩ (fun w h Y => PySem.W.kIn_of Y) (fun w => Sd.cxe_ok) ?F ?S
 case F =>
  intro w mg fa h KX G hmg
  refine' Lk44.all_mk KX G hmg ?D_check_wheel ?D_check_rising ?D_check_beat ?D_made_beat ?a_Q0U ?l_Q0U ?c_Q0U ?k_Q0U ?t_turned ?D_first_turn ?D_places_filled ?D_ways_of ?D_count_divides ?D_law_cell ?D_law_whole ?D_law_beat_is ?D_law_some ?D_law_turned ?D_law_again ?D_law_pair ?D_law_fills ?D_law_all ?D_law_case ?D_law_rows ?D_law_kinds ?D_all_that_fill ?D_partner_walk ?D_all_partners ?D_partner_kinds ?a_Q08 ?l_Q08 ?c_Q08 ?k_Q08 ?z_len ?z_sorted ?z_min ?z_range ?z_isinstance ?z_int ?z_bool ?z_list ?z_zip ?z_max ?z_tuple ?z_set ?n_LONGEST ?n_MOST_CASES ?a_Walk ?pg_Walk ?hd_Walk ?po_Walk ?sa_Walk ?mk_Walk ?kc_Walk ?na_Walk_ways ?na_Walk_waiting ?na_Walk_rows ?na_Walk_gone ?a_Case ?pg_Case ?hd_Case ?po_Case ?sa_Case ?mk_Case ?kc_Case ?na_Case_laid ?na_Case_answers ?na_Case_at ?a_Case_init ?i_Case_init ?l_Case_init ?c_Case_init ?k_Case_init ?a_Walk_init ?i_Walk_init ?l_Walk_init ?c_Walk_init ?k_Walk_init ?a_Q0W ?i_write_row ?l_Q0W ?c_Q0W ?k_Q0W ?a_Q07 ?i_go_on ?l_Q07 ?c_Q07 ?k_Q07 ?a_3 ?x_3 ?g1_3 ?g2_3 ?g3_3 ?v_3 ?y_3 ?a_1 ?x_1 ?g1_1 ?g2_1 ?g3_1 ?v_1 ?y_1 ?a_0 ?x_0 ?g1_0 ?g2_0 ?g3_0 ?v_0 ?y_0 ?a_2 ?x_2 ?g1_2 ?g2_2 ?g3_2 ?v_2 ?y_2 ?s_33 ?s_31 ?s_30 ?s_32 ?s_13 ?s_11 ?s_10 ?s_12 ?s_03 ?s_01 ?s_00 ?s_02 ?s_23 ?s_21 ?s_20 ?s_22
  (case D_check_wheel => exact ⟨_,_,_,_,_,_,_,_,_,_,by k_is,by k_is,by k_is,by k_is⟩)
  (case D_check_rising => exact ⟨_,_,_,_,_,_,_,_,_,_,by k_is,by k_is,by k_is,by k_is⟩)
  (case D_check_beat => exact ⟨_,_,_,_,_,_,_,_,_,_,by k_is,by k_is,by k_is,by k_is⟩)
  (case D_made_beat => exact ⟨_,_,_,_,_,_,_,_,_,_,by k_is,by k_is,by k_is,by k_is⟩)
  (case a_Q0U | l_Q0U | c_Q0U | k_Q0U | t_turned => show _ = _; k_is)
  (case D_first_turn => exact ⟨_,_,_,_,_,_,_,_,_,_,by k_is,by k_is,by k_is,by k_is⟩)
  (case D_places_filled => exact ⟨_,_,_,_,_,_,_,_,_,_,by k_is,by k_is,by k_is,by k_is⟩)
  (case D_ways_of => exact ⟨_,_,_,_,_,_,_,_,_,_,by k_is,by k_is,by k_is,by k_is⟩)
  (case D_count_divides => exact ⟨_,_,_,_,_,_,_,_,_,_,by k_is,by k_is,by k_is,by k_is⟩)
  (case D_law_cell => exact ⟨_,_,_,_,_,_,_,_,_,_,by k_is,by k_is,by k_is,by k_is⟩)
  (case D_law_whole => exact ⟨_,_,_,_,_,_,_,_,_,_,by k_is,by k_is,by k_is,by k_is⟩)
  (case D_law_beat_is => exact ⟨_,_,_,_,_,_,_,_,_,_,by k_is,by k_is,by k_is,by k_is⟩)
  (case D_law_some => exact ⟨_,_,_,_,_,_,_,_,_,_,by k_is,by k_is,by k_is,by k_is⟩)
  (case D_law_turned => exact ⟨_,_,_,_,_,_,_,_,_,_,by k_is,by k_is,by k_is,by k_is⟩)
  (case D_law_again => exact ⟨_,_,_,_,_,_,_,_,_,_,by k_is,by k_is,by k_is,by k_is⟩)
  (case D_law_pair => exact ⟨_,_,_,_,_,_,_,_,_,_,by k_is,by k_is,by k_is,by k_is⟩)
  (case D_law_fills => exact ⟨_,_,_,_,_,_,_,_,_,_,by k_is,by k_is,by k_is,by k_is⟩)
  (case D_law_all => exact ⟨_,_,_,_,_,_,_,_,_,_,by k_is,by k_is,by k_is,by k_is⟩)
  (case D_law_case => exact ⟨_,_,_,_,_,_,_,_,_,_,by k_is,by k_is,by k_is,by k_is⟩)
  (case D_law_rows => exact ⟨_,_,_,_,_,_,_,_,_,_,by k_is,by k_is,by k_is,by k_is⟩)
  (case D_law_kinds => exact ⟨_,_,_,_,_,_,_,_,_,_,by k_is,by k_is,by k_is,by k_is⟩)
  (case D_all_that_fill => exact ⟨_,_,_,_,_,_,_,_,_,_,by k_is,by k_is,by k_is,by k_is⟩)
  (case D_partner_walk => exact ⟨_,_,_,_,_,_,_,_,_,_,by k_is,by k_is,by k_is,by k_is⟩)
  (case D_all_partners => exact ⟨_,_,_,_,_,_,_,_,_,_,by k_is,by k_is,by k_is,by k_is⟩)
  (case D_partner_kinds => exact ⟨_,_,_,_,_,_,_,_,_,_,by k_is,by k_is,by k_is,by k_is⟩)
  (case a_Q08 | l_Q08 | c_Q08 | k_Q08 | z_len | z_sorted | z_min | z_range | z_isinstance | z_int | z_bool | z_list | z_zip | z_max | z_tuple | z_set | n_LONGEST | n_MOST_CASES | a_Walk | pg_Walk | hd_Walk | po_Walk | sa_Walk | mk_Walk | kc_Walk | na_Walk_ways | na_Walk_waiting | na_Walk_rows | na_Walk_gone | a_Case | pg_Case | hd_Case | po_Case | sa_Case | mk_Case | kc_Case | na_Case_laid | na_Case_answers | na_Case_at | a_Case_init | i_Case_init | l_Case_init | c_Case_init | k_Case_init | a_Walk_init | i_Walk_init | l_Walk_init | c_Walk_init | k_Walk_init | a_Q0W | i_write_row | l_Q0W | c_Q0W | k_Q0W | a_Q07 | i_go_on | l_Q07 | c_Q07 | k_Q07 | a_3 => show _ = _; k_is)
  (case x_3 => k_exc)
  (case g1_3 | g2_3 | g3_3 => show _ = _; k_is)
  (case v_3 => show _ = _; kit_is)
  (case y_3 | a_1 => show _ = _; k_is)
  (case x_1 => k_exc)
  (case g1_1 | g2_1 | g3_1 => show _ = _; k_is)
  (case v_1 => show _ = _; kit_is)
  (case y_1 | a_0 => show _ = _; k_is)
  (case x_0 => k_exc)
  (case g1_0 | g2_0 | g3_0 => show _ = _; k_is)
  (case v_0 => show _ = _; kit_is)
  (case y_0 | a_2 => show _ = _; k_is)
  (case x_2 => k_exc)
  (case g1_2 | g2_2 | g3_2 => show _ = _; k_is)
  (case v_2 => show _ = _; kit_is)
  (case y_2 => show _ = _; k_is)
  (case s_33 | s_31 | s_30 | s_32 | s_13 | s_11 | s_10 | s_12 | s_03 | s_01 | s_00 | s_02 | s_23 | s_21 | s_20 | s_22 => show _ = _; kit_is)
 case S => exact fun ns _ hb => Cw.law44_ok hb
