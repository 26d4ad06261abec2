import PyProof.Rows.All
import Wide.All
import OpenK.AllK
import Wide.FinOn
import Lean
import PyProof.EqAt
import PyProof.EqKinds
import PyProof.TupleCall
import KE.BitLaws
import KE.KRevIter
import PyProof.P3In
import PySem.SetTable
import PyProof.TupleKey
import PyProof.SetRoads
import PyProof.IsRules
import PyProof.Rows.SetFrom
import KE.KDictSum
import PySem.Challenge.RW_canonwheel_k45_cases_refused
set_option Elab.async false
set_option linter.all false
set_option maxRecDepth 100000
set_option maxHeartbeats 4000000
set_option compiler.extract_closed false
set_option genSizeOf false
set_option genSizeOfSpec false
set_option bootstrap.genMatcherCode false
noncomputable section
local macro_rules|`(⋯)=>`(by omega)
open scoped BitVec
set_option hygiene false
local macro_rules|`($a:num#$b:num)=>if a.getNat !=0 then Lean.Macro.throwUnsupported else#[`(adA C_13 C_9 C_1 C_6 C_7 C_10 C_5 C_8 C_3 C_4 C_2 C_11),`(upd (upd (upd (upd (upd (upd (upd (upd H x (.ins CW dx 2#9)) p (.lst [.non])) dc (.own c)) c 1#24) wl (.lst [.ref c])) x (.ins CW dx (aG "waiting" (.ref wl) 2#9))) rl 2#62) x (.ins CW dx (aG "rows" (.ref rl) (aG "waiting" (.ref wl) 2#9)))),`(by decide),`(model X.prog X.w),`((x == ("__debug__":Str))=false),`(by simp),`(by decide +kernel),`(model prog w),`(C.X.fn x=true\/C.X.env.scope.names.lookup x=some .local),`(starEach [a] C.X.env=[1#36]),`(Or.inl rfl),`(lCons (eVar 0) (lCons (eVar 1) lNil)),`(nomatch (show (none:Option Bool)=some r from h)),`(.ListComp elt [⟨tg,iter,ifs,0⟩] scope pos),`(aT C (ts++fs) scope cl L s₀ H₀ ex),`(s.heap.objs.size+1),`((x == ("__classdict__":Str))=false),`(lCons (eVar 0) lNil),`(Addr×Obj),`(GJ x qual (aL st) (aB st) (af st) dV kV doc pm an cdv ct),`(.ListComp elt [⟨.Name x px,iter,ifs,0⟩] scope pos),`(.Name x px),`((Da,{ cls:=.type "list",data:=.seq its.toArray ne })),`(ae (aa 0) (ae (aa 1) aj)),`(CXe P w),`((∀ v,foldedSetIterable iter C.X.env v=pure v)),`(GJ x x (aL st) (aB st) (af st) dV kV doc pm an cdv ct),`(aT C ([x]++fs) scope cl L s₀ H₀ ex),`(k == Hb&&env.scope.kind == .function&&env.kindOf n == some .cell),`(cF 0#24 P w K mg base N qual scope f cd A outer s H E),`([e].length+([]:List Keyword).length+(if ([]:List Keyword).isEmpty then 0 else 1)<30),`(by simp;omega),`(upto n.toNat),`(seqObj "list" vs.toArray 0),`(by intro _ _ z;cases z),`(.Call (.Attribute 0#21 "append" apos) [e] [] cpos),`((false,eval e C.X.env)),`(bL C.X (ts++fs) scope cl L s2 H1 fp),`(envOfC qual scope s.heap.objs.size f cd),`(.dK (putK ((ks.map Sum.inl).zip vs) (Sum.inl j) (.ref b))),`(aH q_divisors.d q_divisors.o hr 0#2 rfl 1#6),`(lCons (eVar 1) (lCons (eVar 2) lNil)),`(.dct ks ds),`(λ cl L s₀ H₀ ex=>dt),`(model C.X.prog C.X.w),`(cxe_ok (P:=P) (w:=w)),`(X.fn x=true\/X.env.scope.names.lookup x=some .local),`(.ins CW dx (wf wa wl rl 0)),`(List Int),`(.Subscript 0#21 (.Constant (.int k) j kpos) ipos),`(λ cl L s₀ H₀ ex=>(aa 0)),`(ha pins s σ H _ I h),`(aH q_law_cell.d q_law_cell.o hr 0#2 rfl (ae (aa 0) (ae ao aj))),`(EP X pins σ Q),`(.Call (.Name x p) (e::es) [] pos),`(swapsWith e (some 1#42) pos.line C.X.env=pure false),`(eSlice (eCall F_Q07 0#17) (some (eInt 1)) none),`(seqObj "list" #[] 0),`(Vis C.X.env.scope x),`(Dv.eVar 0),`(λ c hf H' r'=>?_),`(C.X.calm=true),`(he pins s σ H _ I h),`(apos.endLine == cpos.line),`((A.map λ x=>(p-x)%n).map (wy n A)),`(λ z=>nomatch z),`(ha pos pins s σ H _ I h),`(ns.map .int),`(lCons (eInt 0) lNil),`(cC (aH q_check_beat.d q_check_beat.o hr 0#2 rfl 0#23)),`(A.deeper (envOfC qual (af st) s.heap.objs.size f cdv)),`(λ ρ=>(f ρ).bind λ x _=>(g ρ).bind λ y _=>F x y),`(eBl true),`(f+(ss.map λ s=>cas n A d (S++[s])).sum),`((false,eval e X.env)),`(A.deeper (envOfC x (af st) s.heap.objs.size f cdv)),`(.inl rfl),`((backTo pos 2#5).any (·.1)=false),`((λ v H'=>∃ b,v=.bl b/\Q b H')),`(σ.set i (some v)),`((∀ b o,s.heap.get? b=some o->h'.get? b=some o)),`(ae (aa 1) (ae (aa 2) aj)),`(Option Value),`(by unfold Rp;rfl),`(L (A.map λ x=>(p-x)%n)),`(.builtin "type.__call__" ⟨.ref C::us,kw⟩),`(starEach [e] C.X.env=[0#36]),`(share.set n (co rest (n+m))),`(seqObj "tuple" vs.toArray 0),`(as.set c.at_ (.row w.rows.length)),`((∀ x c,X.env.cells.lookup x=some c->c≠b)),`(λ x e=>nomatch e),`(es.map some++free),`(bu bj rfl z_len Hm (aq 2#47 ay)),`(List.mem_range.mpr ⋯),`(.lst ds),`(.bl true),`(cu hN hv hd hcd),`(by rw[n] at h;cases h),`(List Key×Addr×Value)][b.getNat]!
local macro_rules|`($a:num#$b:num)=>if a.getNat !=1 then Lean.Macro.throwUnsupported else#[`(.ref s.heap.objs.size),`((false,eval a X.env)),`(cN rest n (-(co rest (n+m))) o),`(C.X.N[i]?=some x),`(.bl false),`(.ins ["laid"] [Dv.wyL (S.map (wy n A))]),`(ae (aa 0) aj),`(.refl s),`(xs.map .int),`(eB1 Dv.lenD (eVar 0)),`(List.replicate (a.length-m) 0),`(by simpa using hi),`(LL [upto n.toNat]),`(De _ hy),`(.refl _),`(Hi f p m q),`(.Assign [.Name x pos'] e pos),`(some (.builtin "object.__setattr__")),`(cn z_len rfl (aa 0)),`(List.replicate (m-1) 0++comb m (p+1)),`(ns.map V.int),`(des.map some++Dv.pick ρ is),`(Dv.eCompG bn fe fc is fi ρ),`(.ins ["ways"] [Dv.wysD wys]),`(.ins CC dc (cf lb p 0)),`(λ hf=>?_),`(Dv.eVar 1),`(Dv.all st),`(p.getD (m-1) 0),`(b∈X.ex\/X.s₀.heap.objs.size<=b),`(by show 2<=sizeLine;decide),`(.tup [.str Dv.staC,L 0#32]),`(L ((bA n).filter λ d=>hasB xs d)),`(by simp only[Ds] <;>omega),`(a == sysModules),`(λ z=>by rw[z,ha] at h3;cases h3),`((false,eval a C.X.env)),`(.lst xs),`(.ins CC dc (cf p2 ab avs.length)),`(.frz o u),`(.dct ks (ks.map λ d=>L (phi d))),`(.Name x pos),`(.Name x pos'),`((e::es).length=ps.length),`(vs.toArray.size<ws.toArray.size),`(λ n m e=>nomatch e),`(starEach es C.X.env),`(Rd.same Hnew.sub h1),`(.lst vs),`(λ x=>x.1.isSome),`(x.trans y),`(eBl false),`(by simp[Dv.scal]),`(.Name "range" p2),`(.Compare a [op] [b] pos),`(!t.plain&&decide (es.size > 1)),`(Dv.eBl true),`(.ins ["laid"] [Dv.wyL c.laid]),`(open_ (give is st)),`(ks.any (Dv.subX c)),`(bS ha hN hw f.2 h2),`(bR I q 0#5),`(.ins C dx fs),`(λ _ _=>False),`(nss.getD i []),`(eNeg (eInt 1)),`(some (.Name y py)),`(by simpa using hl),`(.builtin "object.__class__"),`(x≠"__name__"),`(some (V.ref a)),`(kz n A S),`(keywordEach [] X.env),`(ho pins s σ H _ I h),`(by show 0<=sizeLine;decide),`(I.ok.hd hc),`(DG (GE e) I.ok.above),`(.builtin id),`(.Name "set" p2),`(.Name "isinstance" p),`(st.set i .no),`(eU Hc O H),`(by simpa using z),`(by simp[Dv.noTy]),`(bubble p k (k-l)),`(Dv.w0 (bW n A) [wy n A 0]),`(λ _ _ z=>nomatch z),`(ks.length=ds.length),`(GZ (·++vs.toArray)),`(st'.set i (.sh (.exn c))),`(sExpr (eCall F_Q03 0#11)),`(nomark _),`(kas_asc p f m),`(cQ phi (l++[d])),`(by rw[DE];omega),`(below t.place j),`(.dK kvs),`(.Name "range" p),`(start N vs),`(Int×Value)][b.getNat]!
local macro_rules|`($a:num#$b:num)=>if a.getNat !=2 then Lean.Macro.throwUnsupported else#[`((fst n r).map .int),`(λ _ _=>rfl),`(ps.zip us),`(λ _ e=>nomatch e),`(w.params.setOrder a ep),`(starEach es X.env),`(some (.Name (GG k) np)),`(keywordEach [] C.X.env),`(comb m (p+1)),`(aG "ways" (.ref wa) []),`(Dv.lexLt ns ms),`(.ow 0#95),`(x%(lpf d.toNat:Int)=0),`(Hh C s.heap.objs.size),`(Dv.lCons 0#59 Dv.lNil),`(DF _ (DF _ (dJ hb e))),`(model P w),`(by simpa using h),`(Str×Value),`(.ref C_12),`(some (.ref f)),`(some (.ref a)),`(aK (ae ao aj)),`(L2.start N vs),`(.tup xs),`(ds.map some),`(Tf n A s),`(.Name xP pP),`(pyNext (.ref I)),`(.lst (lvs++[y])),`(String×Addr),`(List Wy×Nat),`(List Wy),`(HV vs.length),`(upd H a o),`(Str×Addr),`(Hnew H H2),`(λ x=>!x.1),`(intKind prog w),`(Dv.w0 wys laid),`(.bool true),`(vs++dvs),`(ks.length+1),`(Dv.open_ st),`(De _ hx),`(.ref fa),`(by kernel_rfl),`(b0 (pv 0) rfl),`(eLst lNil),`(Hnew H H1),`(Hnew H H'),`(λ _=>none),`(tU es ep t),`(p.getD m 0),`(out.getD j 0),`(out.getD i 0),`(eval o X.env),`(by simp[z]),`(av (aN bY)),`(Or.inr rfl),`(Dv.pwR nS mY),`(CXe l.prog w),`(.lst []),`(tOp r ta tb),`(tC (.int 0)),`(e.same x.vv),`(I.tok _),`(Ht m nr p),`(HS m nr p),`(0#63=true),`(.lst ws),`(au q hn),`(af s_Q15),`(.tup vs),`(.ref it),`(.ref C_0),`(.lst es),`(.int i t),`(.dT kvs)][b.getNat]!
set_option hygiene true
local macro_rules|`(command|def $i:declId $s:optDeclSig $v:declVal)=>`(command|noncomputable def $i:declId $s:optDeclSig $v:declVal)
local macro_rules|`(command|abbrev $i:declId $s:optDeclSig $v:declVal)=>`(command|noncomputable abbrev $i:declId $s:optDeclSig $v:declVal)
def Zf {C:Prop}(h:False):C:=h.elim
open List renaming getElem?_cons_zero → C8, map_cons → C9, getElem?_cons_succ → Dc, length_cons → Dd, mem_cons_of_mem → De, getD_eq_getElem?_getD → Dg, mem_cons_self → Dh, length_map → Di, map_nil → Dj, getElem?_eq_getElem → Dk, cons_append → Dm, nil_append → Do, length_nil → Dp, set_cons_succ → Dq, set_cons_zero → Dr, size_toArray → Ds, length_append → Dz, foldl_cons → DA, getElem?_map → DD, length_set → DE, mem_append_right → DF, foldl_nil → DH, getElem?_append_left → DI, getElem?_set_self → DJ, lookup_cons → DK, replicate_succ → DL, eq_nil_of_length_eq_zero → DM, getElem?_eq_none → DO, mem_append_left → DP, getElem?_set_ne → DQ, length_replicate → DS, mem_cons → DT, append_nil → DU, map_map → DV, mem_of_getElem? → DW, getElem?_append_right → DX, not_mem_nil → DY, length_range → D1, map_congr_left → D2, length_singleton → D5, getElem_mem → D6, drop_eq_getElem_cons → Eb, getElem_map → Ec, length_filter_le → Ed, flatten_cons → Ef, reverse_cons → Eg, getElem?_replicate → Eh, getElem_of_mem → Ei, zip_cons_cons → Ej, perm_ext_iff_of_nodup → Ek, append_assoc → El, length_take → Ep, all_eq_true → Er, any_cons → Eu, find?_cons → Ew, take_of_length_le → Ex, count_eq_zero_of_not_mem → Ey, flatMap_cons → EA, length_reverse → ED, getElem?_range → EF, mem_filter → EJ, getElem?_take_of_lt → EM, getLast_eq_getElem → ES, drop_eq_nil_of_le → EV, take_succ_eq_append_getElem → EW, getElem?_toArray → EY, ext_getElem → EZ, of_mem_zip → E2, map_append → E3, length_zip → E4, mem_map → E8, filterMap_cons → E9, contains_cons → Fb, mem_singleton → Fc, ext_getElem? → Ff, pairwise_iff_getElem → Fg, getElem_append_right → Fh, foldl_append → Fi, exists_mem_of_ne_nil → Fj, getElem_append_left → Fq, drop_length → Fs, filter_cons → Fv, getLast_mem → Fw, take_length → Fx, map_id' → Fz, nodup_cons → FA, mem_append → FB, range_succ_eq_map → FD, countP_mono_left → FF, take_append_drop → FG, length_dropLast → FI, sum_cons → FL, length_flatMap → FM, zip_nil_right → FO, getElem_range → FP, pairwise_cons → FR, isEmpty_cons → F2, getElem_inj → F5, isEmpty_nil → F7, countP_cons → F8, mem_flatMap → Ga, perm_cons → Gi, nodup_nil → Gj, drop_zero → Gn, all_cons → Gp, map_take → Gq
open Bool renaming and_eq_true → Dl, and_true → Dt, false_eq_true → Dx, false_ne_true → DB, and_false → DC, or_true → DN, not_true → D3, eq_iff_iff → Ee, false_or → Em, or_false → En, false_and → Eo, or_eq_true → EH, beq_eq_decide_eq → EX, true_and → Fk, and_self → Fp, not_false → Gk
open Nat renaming le_refl → Du, ne_of_lt → Dy, lt_of_lt_of_le → DG, lt_succ_self → DR, lt_irrefl → D0, le_trans → D4, zero_le → D7, lt_succ_of_lt → D8, succ_mul → Ea, zero_add → Et, le_succ → Ez, le_of_lt → EB, mod_eq_of_lt → EC, mul_comm → EN, le_succ_of_le → ET, mul_le_mul_right → E1, ne_of_gt → E7, add_mul_mod_self_right → Fd, lt_or_ge → Fy, dvd_of_mod_eq_zero → FE, pow_le_pow_right → FJ, mod_lt → FK, mul_le_mul_left → FN, mod_eq_sub_mod → FT, le_of_eq → FU, add_comm → FV, sub_self → FX, sub_zero → F1, lt_trichotomy → F3, log2_lt → Gb, pow_pos → Gd, min_le_left → Ge, min_eq_left → Gh, mul_le_mul → Gm, lt_trans → Gr, pow_succ → Gs, add_zero → Gu
open Option renaming getD_some → Dw, map_eq_some_iff → DZ, map_some → EK, isSome_map → Fe, getD_none → F6
open Int renaming toNat_natCast → D9, le_refl → Es, emod_eq_emod_iff_emod_sub_eq_zero → EG, dvd_of_emod_eq_zero → EO, emod_eq_zero_of_dvd → ER, emod_eq_of_lt → EU, mul_le_mul_of_nonneg_left → E5, natCast_mul → E6, natCast_zero → Ft, natCast_add → FC, emod_add_mul_ediv → FH, emod_lt_of_pos → FQ, mul_emod_right → FS, le_trans → FW, le_of_lt → FY, add_zero → FZ, mul_zero → F0, mul_left_comm → F4, natCast_succ → F9, mul_add → Gc, le_antisymm → Gf, emod_nonneg → Gg, add_comm → Gv, mul_one → Gw, mul_neg → Gx, neg_mul → Gy, add_mul → Gz
open PySem.W renaming Frag → GA, findIn → GI, fnOf → GJ, nsIn → GM, mg_none_of → GW, keepIn → G0, codeIn → G4, kitOne → G6, emptyDict → G7, mg_of → He, kia_one → Hf, instObj → Hh, kas_desc → Hi, kas_descPart → Ht, plainGet → HC, tail_of_in → HJ, hasDictIn → HK, isFn → HN, kas_tail3 → HS, looks_findIn → HU, kas_sort → HV, hideAll_get → HX, callWith_K → Ia, plainOver → Im, cellsFrom_some → Ip, kas_count → Ir, kas_place → Iu, makesIn → Iv, plainGet_of → ID, lookIn → IF, nsOkIn → IG, excIn → IP, methodObj → IR, hideAll → Jb, takerIn → Jc, methodCall_KW → Ju, of_hideAll → JX, codeRec_of → J2, handedIn → Kh, tailIn → Kn, kitAny → Ko, Looks → Ks
open PySem renaming wpAny_bind → GB, wpAny_pure → GD, wpAny_mono → GL, Env → GO, sizeLine_eq → GS, wpAny_Call_Name_kw → G1, codeAny_builtin → G8, wpAny_holding → G9, wpAny_loadPart_at → Hj, boot_len → Hm, wpAny_passesOwn → Hu, plainId_quiet → Hw, wpAny_truthy_bool → Hy, wpAny_setState_of → HA, codeAny_mono → HD, wpAny_call_entry → HF, mem_of_lookup → HG, wpAny_newObj_type → HM, wpAny_askSetting → HW, wpAny_isSubtype_exc → HY, wpAny_execs_nil → HZ, tupleKind_room_in1 → Ic, call_meets → Ih, wpAny_pyIter_list → Il, codeAny_call_builtin → Iy, lookup_relabel_local → IA, wpAny_setEntries_of → IE, wpAny_tryCatch → IH, wpAny_newFunctionEnv_cells → IM, wpAny_call → IU, wpAny_getItem_list_slice → IW, wpAny_callSpecial?_slot → Ja, wpAny_specialOf → Jd, wpAny_updateSeq → Jh, wpAny_pyNext_list_item → Ji, wpAny_pyNext_range_end → Jj, wpAny_pyIter_rangeiter → Jl, seqIndex_of → Jm, wpAny_letGo → Jq, wpAny_isTrue_Compare1 → Jr, wpAny_pyNext_list_end → Js, wpAny_loadPart → Jt, codeAny_call_function → Jv, wpAny_seqItems → Jx, builtinLookup_eq_fast → Jz, isSubtype_type → JA, wpAny_loadName_local → JB, wpAny_standAt → JI, evalPart_none → JJ, wpAny_newList → JM, wpAny_loadName_cell → JO, Within → JW, wpAny_pyIter_range → JZ, seqIndex_neg → J5, wpAny_setField_rec → Ka, list_append → Kb, wpAny_of_eq → Kf
open PySem.Heap renaming get?_push_of_some → GC, lt_size → GE, get?_push_size → GF, get?_update_other → GK, size_push → HB, get?_update_self → HP, SameBut → H0
open PySem.Str renaming ofString → GG, empty → Kq
open PySem.Value renaming ref → GH, none → GN, type → GR, int → Hk, isInt_shape → Ik, builtin → IQ, bool → IT, str → JT, isStrOf → Kr
open PySem.F renaming plainAttrs_list → GP, slot_list_append → GU, type_list_append → GV, plain_min_loop → Ho, typeOf_object_class → HR, slot_list_lt → Iz, entry_min_loop → IY, args_list_lt_2 → Jp, entry_list_lt → Jw, args_list_append_2 → JF, entry_list_append → JP, slot_list_append → J6
open False renaming elim → GQ
open PyProof.Rows renaming callWith_type1 → GT, boot_sorted → Ie, callWith_builtin1 → Iw, subscriptTail_builtinR → Jn, boot_range → JC, Subscript_ → JD, Constant_none → JH, listUpdate_at → JL, seqEpoch_at → Kg
open Array renaming length_toList → GX, getElem?_eq_getElem → GY, getElem?_eq_none → Hr, getElem?_toList → HQ, getElem?_map → Ig, getD → IB, eq_empty_of_size_eq_zero → IC, append_assoc → JY, toList_map → Kj
open PySem.Obj renaming mapSeq → GZ, putSet → Km
open PySem.Around renaming under_plainId → G3, under → J0
open PySem.PyData renaming canLay0 → G5, depth → Hg, eqv → Ii, eqvAll → Iq, canLayAll0 → IS, depthAll → Je
open PySem.NameKind renaming free → Hb, cell → JK
open PySem.Builtin.Range renaming rangeSize → Hl, small → JR
open True renaming intro → Hq
open PySem.Builtin.List renaming listTooLong → HE, listLengthHint → IK
open PySem.Calls renaming spliced_cons → HH, spliced_nil → HL, Name_function_global → IL, call_function_entry → IV, callWith_builtin → Jo, evalArgs_plain → JE
open ForInStep renaming yield → HI
open PySem.W.WData renaming int → Ib, weightAll → Jg, weight → J8, list → Kl
open PyProof.Rows.F renaming plain_set_update_loop → Ij, entry_set_update_loop → IZ
open PySem.PassesOwn renaming leaving → Io, never → Jf, looking → Kc
open Sum.inl renaming inj → II
open PySem.Builtin.Builtins renaming bindParams → IJ
open PyProof renaming noPylong_of_log2 → IX
open PySem.Value.type renaming inj → Jy
open PySem.Paired renaming length → JG, snoc → Ky
open Function renaming comp → JN
open PySem.Builtin.Int renaming intBits → JQ
open PySem.BindsTo renaming of_defaults → JS
open PySem.SeqAt.EqAt renaming int_str → JU, str_int → JV, int_int → J3
open PySem.Code renaming isFrame → J1, quiet_builtin → J7
open PySem.Heap.IsSliceOf renaming new → J4
open PySem.pickOrder renaming go → J9
open PySem.IsRange renaming new → Ke
open PySem.IsL renaming update → Ki
open PySem.SeqAt renaming EqAt → Kk
open PySem.Builtin.Frozenset renaming updateFrom → Kp, newClass → Ku, sizeOf → Kw, slot0 → Kx
open PySem.SetTable renaming fill → Kt
open PySem.W.KasT renaming ret → Kv
def ZB (h:True:=by first|exact .inl rfl|exact .inr rfl|assumption):True:=h
def ZC (h:True:=by decide):True:=h
def ZD (h:True:=by first|exact nobehind _ (by decide) 0#2|rfl):True:=h
def ZE (h:True:=by intro _;rfl):True:=h
def ZF (h:True:=by rfl):True:=h
def ZG (h:True:=by intros;rfl):True:=h
def ZH (h:True:=by first|exact Or.inl rfl|exact Or.inr 0#10|exact Or.inr 2#59):True:=h
def ZI (h:True:=by intro _ _ z;cases z):True:=h
def ZJ (h:True:=by decide +kernel):True:=h
def ZK (h:True:=by intro _ _;rfl):True:=h
def ZL (h:True:=by with_unfolding_all rfl):True:=h
namespace L2
open PySem PySem.Spec PyProof.Rows
abbrev Key:=Sum Int Str
def kh:Key->Value->Bool
 |.inl k,v=>Value.isInt k v
 |.inr x,v=>Kr x v
def CY (w:World):Key->Int
 |.inl k=>hashInt k
 |.inr x=>hashStr w x
def bf:∀ {k:Key} {v:Value},kh k v=true->(∃ i t,k=Sum.inl i/\v=Hk i t)\/(∃ x t,k=Sum.inr x/\v=JT x t)
 |.inl i,v,h=>by
  obtain⟨t,e⟩:=Ik (k:=i) (v:=v) h;exact .inl ⟨i,t,rfl,e⟩
 |.inr x,v,h=>by
  obtain⟨t,e⟩:=Value.isStrOf_shape (x:=x) (v:=v) h;exact .inr ⟨x,t,rfl,e⟩
def t5 (i:Int)(t:Tok):kh (.inl i) (.int i t)=true:=by simp[kh,Value.isInt]
def tG (x:Str)(t:Tok):kh (.inr x) (.str x t)=true:=by simp[kh,Kr]
def Aa (a b:Int):decide ((Sum.inl a:Key)=Sum.inl b)=(a == b):=by
 by_cases e:a=b
 ·subst e;simp
 ·have h:¬ (Sum.inl a:Key)=Sum.inl b:=λ q=>e (II q)
  rw[decide_eq_false h];exact(beq_eq_false_iff_ne.mpr e).symm
def A6 (a b:Str):decide ((Sum.inr a:Key)=Sum.inr b)=decide (a=b):=by
 by_cases e:a=b
 ·subst e;simp
 ·have h:¬ (Sum.inr a:Key)=Sum.inr b:=λ q=>e (Sum.inr.inj q)
  rw[decide_eq_false h,decide_eq_false e]
def AC (a:Int)(b:Str):decide ((Sum.inl a:Key)=Sum.inr b)=false:=decide_eq_false (λ q=>nomatch q)
def Ar (a:Str)(b:Int):decide ((Sum.inr a:Key)=Sum.inl b)=false:=decide_eq_false (λ q=>nomatch q)
def bC (prog:Program)(w:World):PySem.KeyKind prog w Key where
 is:=kh
 hash:=CY w
 inj:=λ v a b ha hb=>by
  rcases bf ha with ⟨i,t,rfl,rfl⟩|⟨x,t,rfl,rfl⟩
  ·rcases bf hb with ⟨j,u,rfl,e⟩|⟨y,u,rfl,e⟩
   ·injection e with e1 _;rw[e1]
   ·exact nomatch e
  ·rcases bf hb with ⟨j,u,rfl,e⟩|⟨y,u,rfl,e⟩
   ·exact nomatch e
   ·injection e with e1 _;rw[e1]
 byValue:=λ k v h=>by
  rcases bf h with ⟨i,t,rfl,rfl⟩|⟨x,t,rfl,rfl⟩ <;>rfl
 pyHash:=λ hv h=>by
  rcases bf hv with ⟨i,t,rfl,rfl⟩|⟨x,t,rfl,rfl⟩
  ·exact wpAny_pyHash_int h
  ·exact wpAny_pyHash_str h
 eqBool:=λ hu hv h=>by
  rcases bf hu with ⟨i,t,rfl,rfl⟩|⟨x,t,rfl,rfl⟩
  ·rcases bf hv with ⟨j,u,rfl,rfl⟩|⟨y,u,rfl,rfl⟩
   ·rw[Aa] at h;exact wpAny_eqBool_int h
   ·rw[AC] at h;exact JU i t y u _ _ _ _ h
  ·rcases bf hv with ⟨j,u,rfl,rfl⟩|⟨y,u,rfl,rfl⟩
   ·rw[Ar] at h;exact JV x t j u _ _ _ _ h
   ·rw[A6] at h;exact wpAny_eqBool_str h
 «strs»:=λ k x t v h=>by
  rcases bf h with ⟨i,u,rfl,e⟩|⟨y,u,rfl,e⟩
  ·exact nomatch e
  ·injection e with e1 _
   subst e1;cases v <;>rfl
def m3 (prog:Program)(w:World)(i:Int)(t:Tok):(bC prog w).is (.inl i) 2#77=true:=t5 i t
def nT (prog:Program)(w:World)(x:Str)(t:Tok):(bC prog w).is (.inr x) (.str x t)=true:=tG x t
inductive V where
 |non|bl (b:Bool)|int (i:Int)|str (x:Str)|byt (b:Array UInt8)|flt (b:UInt64)|ref (a:Addr)|ty (n:String)
 deriving DecidableEq
def RelV:V->Value->Prop
 |.non,u=>u=GN
 |.bl b,u=>u=IT b
 |.int i,u=>∃ t,u=Hk i t
 |.str x,u=>∃ t,u=JT x t
 |.byt b,u=>∃ t,u=Value.bytes b t
 |.flt b,u=>∃ t,u=Value.float b t
 |.ref a,u=>u=GH a
 |.ty n,u=>u=GR n
abbrev Vals:List V->List Value->Prop:=Paired RelV
def Vals.length {xs:List V}{us:List Value}(r:Vals xs us):xs.length=us.length:=JG r
def Vals.get:∀ {xs:List V} {us:List Value} {i:Nat} {x:V},Vals xs us->xs[i]?=some x->∃ u,us[i]?=some u/\RelV x u
 |_,_,_,_,.nil,e=>by simp at e
 |_,_,0,_,.cons r _,e=>by simp at e;subst e;exact⟨_,rfl,r⟩
 |_,_,i+1,x,.cons _ t,e=>by
  obtain⟨u,h1,h2⟩:=Vals.get (i:=i) (x:=x) t (by simpa using e);exact⟨u,by simpa using h1,h2⟩
def Vals.set {x:V}{u:Value}(r:RelV x u):∀ {xs:List V} {us:List Value} (i:Nat),Vals xs us->Vals (xs.set i x) (us.set i u)
 |_,_,_,.nil=>.nil
 |_,_,0,.cons _ t=>.cons r t
 |_,_,i+1,.cons q t=>.cons q (Vals.set r i t)
def Vals.append {xs ys:List V}{us ws:List Value}(q:Vals xs us)(s:Vals ys ws):Vals (xs++ys) (us++ws):=by
 induction q with
 |nil=>exact s
 |cons r t ih=>exact .cons r ih
def Vals.take:∀ {xs:List V} {us:List Value} (n:Nat),Vals xs us->Vals (xs.take n) (us.take n)
 |_,_,0,_=>.nil
 |_,_,_+1,.nil=>.nil
 |_,_,n+1,.cons r t=>.cons r (Vals.take n t)
def Vals.drop:∀ {xs:List V} {us:List Value} (n:Nat),Vals xs us->Vals (xs.drop n) (us.drop n)
 |_,_,0,r=>r
 |_,_,_+1,.nil=>.nil
 |_,_,n+1,.cons _ t=>Vals.drop n t
def RelO:Option V->Option Value->Prop
 |some v,some u=>RelV v u
 |none,none=>True
 |_,_=>False
def KV {κ:Type}:List (κ×V)->List (κ×Value)->Prop:=Paired λ (p:κ×V) (q:κ×Value)=>p.1=q.1/\RelV p.2 q.2
def kV:Key->V
 |.inl i=>.int i
 |.inr x=>.str x
inductive HO where
  |lst (xs:List V)
  |tup (xs:List V)
  |dK (kvs:List (Key×V))|dT (kvs:List (List Key×V))
  |set (S:Int->Bool) (n:Nat)
  |ins (C dx:Addr) (fs:List (Str×V))
  |own (x:Addr)
  |xd (fs:List (Str×V))
  |met (f x:Addr)
  |rng (lo hi:Int)
  |frz (o:Obj) (u:HO)
  |tbl (ps:Array Value)
  |ext (φ:Heap->Prop)
abbrev Hp:=Addr->Option HO
def upd (H:Hp)(a:Addr)(o:HO):Hp:=λ b=>if b=a then some o else H b
def ai {H:Hp}{a:Addr}{o:HO}:upd H a o a=some o:=by unfold upd;rw[if_pos rfl]
def ag {H:Hp}{a b:Addr}{o:HO}(h:b≠a):upd H a o b=H b:=by unfold upd;rw[if_neg h]
def iP {H:Hp}{a:Addr}{o u:HO}:upd (upd H a o) a u=upd H a u:=by
 funext b;unfold upd;split <;>rfl
def B3 {H:Hp}{a b:Addr}{o u:HO}(h:H a=some o)(h':H b=some u)(d:o≠u):a≠b:=by
 intro e;subst e;rw[h] at h';exact d (Option.some.inj h')
def au {H:Hp}{a b:Addr}{o:HO}(h:H a=some o)(h':H b=none):a≠b:=by
 intro e;subst e;rw[h] at h';cases h'
section
variable (P:Program)(w:World)
def ObjOk (H:Hp)(h:Heap)(a:Addr):HO->Prop
 |.lst xs=>xs.length<=sizeLine/\∃ (its:List Value) (n:Nat),Vals xs its/\h.get? a=some { cls:=.type "list",data:=.seq its.toArray n }
 |.tup xs=>xs.length<=sizeLine/\∃ its:List Value,Vals xs its/\IsTup h a its.toArray
 |.dK kvs=>kvs.length<=sizeLine/\1#34=false/\∃ vs,KV kvs vs/\h.DictOf (bC P w) a vs
 |.dT kvs=>kvs.length<=sizeLine/\1#34=false/\∃ xs:List 0#99,
   Paired (λ (p:List Key×V) (q:List Key×Addr×Value)=>p.1=q.1/\H q.2.1=some (.tup (p.1.map kV))/\RelV p.2 q.2.2) kvs xs /\
   ∃ o es ep,h.get? a=some o/\o.ExactDict/\o.data=.dict es ep/\es.toList=xs.map (entryOfKey (tupleKind (bC P w)))/\(xs.map (·.1)).Nodup
 |.set S n=>h.SetOf (intKind P w) a S n
 |.ins C dx fs=>H dx=some (.own a)/\fs.length<=1000/\dx≠a/\h.get? a=some (Hh C dx) /\
   ∃ mA,h.Ns1 dx mA/\(∀ f,RelO (fs.lookup f) (mA f))/\JW mA (fs.map (·.1))
 |.own _=>∃ o,h.get? a=some o
 |.xd fs=>∃ mA,h.Ns1 a mA/\∀ f,RelO (fs.lookup f) (mA f)
 |.rng lo hi=>∃ t u v,h.get? a=some { cls:=.type "range",data:=.fields #[.int lo t,.int hi u,.int 1 v] }
 |.frz o u=>h.get? a=some o/\ObjOk H h a u
 |.tbl ps=>h.get? a=some { cls:=.none,data:=.fields ps }
 |.met f x=>h.get? a=some (IR (.ref f) (.ref x))
 |.ext φ=>φ h/\(∃ o,h.get? a=some o)/\∀ h1 h2:Heap,φ h1->(∀ o,h1.get? a=some o->h2.get? a=some o)->φ h2
def HOk (H:Hp)(h:Heap):Prop:=∀ a o,H a=some o->ObjOk P w H h a o
end
section
variable {P:Program}{w:World}{H H':Hp}{h h':Heap}{a:Addr}{o:HO}
def ObjOk.lt (x:ObjOk P w H h a o):a<h.objs.size:=by
 cases o with
 |lst xs=>obtain⟨_,_,_,_,e⟩:=x;exact GE e
 |tup xs=>obtain⟨_,_,_,p⟩:=x;exact p.lt
 |dK kvs=>obtain⟨_,_,_,_,o,_,_,e,_⟩:=x;exact GE e
 |dT kvs=>obtain⟨_,_,_,_,o,_,_,e,_⟩:=x;exact GE e
 |set S n=>obtain⟨o,_,_,_,e,_⟩:=x;exact GE e
 |ins C dx fs=>obtain⟨_,_,_,e,_⟩:=x;exact GE e
 |own y=>obtain⟨_,e⟩:=x;exact GE e
 |xd fs=>obtain⟨_,⟨_,_,_,e,_⟩,_⟩:=x;exact GE e
 |rng lo hi=>obtain⟨_,_,_,e⟩:=x;exact GE e
 |frz ob u=>obtain⟨e,_⟩:=x;exact GE e
 |tbl ps=>exact GE (show h.get? a=some _ from x)
 |met f y=>exact GE (show h.get? a=some _ from x)
 |ext φ=>obtain⟨_,⟨_,e⟩,_⟩:=x;exact GE e
def Paired.mapP {α β:Type}{F G:α->β->Prop}{l₁:List α}{l₂:List β}(q:Paired F l₁ l₂)(f:∀ a b,F a b->G a b):Paired G l₁ l₂:=by
 induction q with
 |nil=>exact .nil
 |cons r t ih=>exact .cons (f _ _ r) ih
def ObjOk.stay (x:ObjOk P w H h a o)(k:∀ b u,(b=a\/H b=some (.own a))->h.get? b=some u->h'.get? b=some u)
  (ho:∀ b,H b=some (.own a)->H' b=some (.own a)) (ht:∀ b xs,H b=some 2#24->H' b=some 2#24):ObjOk P w H' h' a o:=by
 induction o with
 |lst xs=>obtain⟨z,its,n,r,e⟩:=x;exact⟨z,its,n,r,k _ _ 0#76 e⟩
 |tup xs=>obtain⟨z,its,r,ob,e,c⟩:=x;exact⟨z,its,r,ob,k _ _ 0#76 e,c⟩
 |dK kvs=>obtain⟨z,y,vs,r,ob,es,ep,e,c⟩:=x;exact⟨z,y,vs,r,ob,es,ep,k _ _ 0#76 e,c⟩
 |dT kvs=>
  obtain⟨z,y,xs,r,ob,es,ep,e,c⟩:=x;exact⟨z,y,xs,Paired.mapP r λ p q z=>⟨z.1,ht _ _ z.2.1,z.2.2⟩,ob,es,ep,k _ _ 0#76 e,c⟩
 |set S n=>obtain⟨ob,es,ep,t,e,c⟩:=x;exact⟨ob,es,ep,t,k _ _ 0#76 e,c⟩
 |ins C dx fs=>
  obtain⟨d,z,ne,e,mA,⟨od,es,ep,e2,c⟩,r⟩:=x;exact⟨ho _ d,z,ne,k _ _ 0#76 e,mA,⟨od,es,ep,k _ _ (.inr d) e2,c⟩,r⟩
 |own y=>obtain⟨ob,e⟩:=x;exact⟨ob,k _ _ 0#76 e⟩
 |xd fs=>obtain⟨mA,⟨od,es,ep,e,c⟩,r⟩:=x;exact⟨mA,⟨od,es,ep,k _ _ 0#76 e,c⟩,r⟩
 |rng lo hi=>obtain⟨t,u,v,e⟩:=x;exact⟨t,u,v,k _ _ 0#76 e⟩
 |frz ob u ih=>obtain⟨e,q⟩:=x;exact⟨k _ _ 0#76 e,ih q⟩
 |tbl ps=>
  have e:h.get? a=some { cls:=.none,data:=.fields ps }:=x;show h'.get? a=some { cls:=.none,data:=.fields ps }
  exact k a _ 0#76 e
 |met f y=>
  have e:h.get? a=some (IR (.ref f) (.ref y)):=x;show h'.get? a=some (IR (.ref f) (.ref y))
  exact k a _ 0#76 e
 |ext φ=>obtain⟨p,⟨o,e⟩,st⟩:=x;exact⟨st _ _ p λ o q=>k _ _ 0#76 q,⟨o,k _ _ 0#76 e⟩,st⟩
def HOk.lt (x:HOk P w H h)(e:H a=some o):a<h.objs.size:=(x a o e).lt
def HOk.fresh (x:HOk P w H h)(e:h.objs.size<=a):H a=none:=by
 cases q:H a with
 |none=>rfl
 |some u=>exact absurd (DG (x.lt q) e) (D0 _)
def HOk.kept (x:HOk P w H h)(k:∀ b u,h.get? b=some u->h'.get? b=some u):HOk P w H h':=λ a o e=>
 (x a o e).stay (λ b u _ q=>k b u q) (λ _ q=>q) λ _ _ q=>q
def HOk.laid (x:HOk P w H h)(k:∀ b u,h.get? b=some u->h'.get? b=some u)(hp:h.objs.size<=a)(new:ObjOk P w 2#34 h' a o):HOk P w 2#34 h':=λ b u e=>by
 have hn:=x.fresh hp;by_cases hb:b=a
 ·subst hb;rw[ai] at e;cases e;exact new
 ·rw[ag hb] at e
  exact(x b u e).stay (λ c v _ q=>k c v q) (λ c q=>by rw[ag 2#71];exact q) λ c xs q=>by rw[ag 2#71];exact q
end
def Rd (H:Hp)(a:Addr)(u:HO):Prop:=H a=some u\/∃ o,H a=some 1#39
def Rd.ok {P:Program}{w:World}{H:Hp}{h:Heap}{a:Addr}{u:HO}(r:Rd H a u)(x:HOk P w H h):ObjOk P w H h a u:=by
 rcases r with r|⟨o,r⟩
 ·exact x a u r
 ·obtain⟨_,q⟩:=x a _ r
  exact q
def Mut:Option HO->Prop
 |some (.lst _)=>True
 |some (.dK _)=>True
 |some (.dT _)=>True
 |some (.set _ _)=>True
 |some (.ins _ _ _)=>True
 |some (.ext _)=>True
 |_=>False
section
variable {P:Program}{w:World}{H:Hp}{h h':Heap}{x e:Addr}{o':HO}
def HOk.write (ok:HOk P w H h)(mu:Mut (H x))(he:e=x\/H e=some (.own x))(k:∀ b u,b≠e->h.get? b=some u->h'.get? b=some u)(heo:∃ u,h'.get? e=some u)
  (new:ObjOk P w (upd H x o') h' x o'):HOk P w (upd H x o') h':=λ b u q=>by
 have nown:∀ c y,H c=some (.own y)->c≠x:=λ c y r z=>by subst z;rw[r] at mu;exact mu
 have ntup:∀ c xs,H c=some 2#24->c≠x:=λ c xs r z=>by subst z;rw[r] at mu;exact mu
 by_cases hb:b=x
 ·subst hb;rw[ai] at q;cases q;exact new
 ·rw[ag hb] at q
  by_cases hbe:b=e
  ·have q':H b=some (.own x):=by
    rcases he with z|z
    ·exact absurd (hbe.trans z) hb
    ·rw[hbe];exact z
   rw[q] at q';cases q';obtain⟨v,hv⟩:=heo;exact⟨v,by rw[hbe];exact hv⟩
  ·refine(ok b u q).stay (λ c v hc r=>k c v ?_ r) (λ c r=>by rw[ag (nown c b r)];exact r) λ c xs r=>by rw[ag (ntup c xs r)];exact r
   rcases hc with rfl|hc
   ·exact hbe
   ·rintro rfl
    rcases he with z|z
    ·exact nown c b hc z
    ·rw[hc] at z;cases z;exact hb rfl
end
structure Un (fs ex:List Addr)(H H':Hp)(h h':Heap):Prop where
 keep:∀ b o,h.get? b=some o->H b=none->b∉fs->b∉ex->h'.get? b=some o
 slot:∀ b o,h.get? b=some o->H b=none->b∈fs->b∉ex->∃ sl,h'.get? b=some { o with slots:=sl }
 free:∀ b o,h.get? b=some o->H b=none->b∉ex->H' b=none
 there:∀ b o,h.get? b=some o->b∉ex->∃ o',h'.get? b=some o'
 tups:∀ b xs,H b=some 2#24->H' b=some 2#24
 frzs:∀ b o u,H b=some 1#39->H' b=some 1#39
 tbls:∀ b ps,H b=some (.tbl ps)->∃ more,H' b=some (.tbl (ps++more))
section
variable {fs fs' ex ex':List Addr}{H H1 H2:Hp}{h h1 h2 h':Heap}{a x e:Addr}{o:HO}
def Un.any (u:Un fs ex H H1 h h1){b:Addr}{ob:Obj}(q:h.get? b=some ob)(n:H b=none)(hx:b∉ex):∃ sl,h1.get? b=some { ob with slots:=sl }:=by
 by_cases hb:b∈fs
 ·exact u.slot b ob q n hb hx
 ·exact⟨ob.slots,u.keep b ob q n hb hx⟩
def Un.kept (k:∀ b u,h.get? b=some u->h'.get? b=some u):Un fs ex H H h h':=
 ⟨λ b ob q _ _ _=>k b ob q,λ b ob q _ _ _=>⟨ob.slots,k b ob q⟩,λ _ _ _ n _=>n,λ b ob q _=>⟨ob,k b ob q⟩,λ _ _ q=>q,λ _ _ _ q=>q,λ _ ps q=>⟨#[],by rw[q];simp⟩⟩
def Un.refl:Un fs ex H H h h:=Un.kept λ _ _ q=>q
def Un.laid (k:∀ b u,h.get? b=some u->h'.get? b=some u)(hp:h.objs.size<=a)(hn:H a=none):Un fs ex H 2#34 h h' where
 keep:=λ b u q _ _ _=>k b u q
 slot:=λ b u q _ _ _=>⟨u.slots,k b u q⟩
 free:=λ b u q n _=>by rw[ag (Dy (DG (GE q) hp))];exact n
 there:=λ b u q _=>⟨u,k b u q⟩
 tups:=λ b xs q=>by rw[ag 2#71];exact q
 frzs:=λ b u xs q=>by rw[ag 2#71];exact q
 tbls:=λ b ps q=>⟨#[],by rw[ag 2#71,q];simp⟩
def Un.write (mu:Mut (H x))(he:e=x\/H e=some (.own x))(k:∀ b u,b≠e->h.get? b=some u->h'.get? b=some u)(heo:∃ u,h'.get? e=some u):Un fs ex H (upd H x o) h h':=by
 have hx:∀ b,H b=none->b≠x:=λ b n z=>by subst z;rw[n] at mu;exact mu
 have hb:∀ b,H b=none->b≠e:=λ b n z=>by
  subst z
  rcases he with r|r
  ·exact hx b n r
  ·rw[n] at r;cases r
 have hm:∀ b u,H b=some u->¬ Mut (some u)->b≠x:=λ b u q nm z=>by subst z;rw[q] at mu;exact nm mu
 refine⟨λ b u q n _ _=>k b u (hb b n) q,λ b u q n _ _=>⟨u.slots,k b u (hb b n) q⟩,λ b u q n _=>by rw[ag (hx b n)];exact n,λ b u q _=>?_,
  λ b xs q=>by rw[ag (hm b _ q λ z=>z)];exact q,λ b u xs q=>by rw[ag (hm b _ q λ z=>z)];exact q,λ b ps q=>⟨#[],by rw[ag (hm b _ q λ z=>z),q];simp⟩⟩
 by_cases hbe:b=e
 ·subst hbe;exact heo
 ·exact⟨u,k b u hbe q⟩
end
def trk (h:Heap)(H:Hp):List Addr:=(List.range h.objs.size).filter λ a=>(H a).isSome
def me (h:Heap)(H:Hp):Heap:=Jb h (trk h H)
def tD (h:Heap)(H:Hp):(me h H).objs.size=h.objs.size:=PySem.W.hideAll_size _ _
def xn {h:Heap}{H:Hp}{b:Addr}{o:Obj}(e:h.get? b=some o)(n:H b=none):(me h H).get? b=some o:=
 HX _ e λ hm=>by
  have q:(H b).isSome=true:=(List.mem_filter.mp hm).2;rw[n] at q;simp at q
def yE {h:Heap}{H:Hp}{b:Addr}{o:Obj}(e:(me h H).get? b=some o):h.get? b=some o/\H b=none:=by
 have e':h.get? b=some o:=JX (trk h H) e;refine⟨e',?_⟩;cases q:H b with
 |none=>rfl
 |some x=>
  have hm:b∈trk h H:=List.mem_filter.mpr ⟨List.mem_range.mpr (GE e'),by simp[q]⟩;have z:(me h H).get? b=none:=PySem.W.hideAll_none (trk h H) hm;rw[z] at e;cases e
def yx (g h:Heap)(L:Addr):List 0#18:=(List.range h.objs.size).filterMap λ a=>if a=L\/(g.get? a).isSome=true then none else (h.get? a).map λ o=>(a,o)
def rest (g h:Heap)(L d:Addr):List 0#18:=(yx g h L).filter λ p=>decide (p.1≠d)
structure Mod (K:GA)(mg:Str->Option Value)(base:Heap):Prop where
 kin:K.In base
 glob:base.Ns mainGlobals mg
 blt:∃ mb,base.Ns builtinsNs mb/\∀ x:Str,x≠"__name__"->mb x=bootBuiltins x
 nolimit:base.NoLimit
/-- the context: a def's body (or a comprehension's block) running. base: fixed through the whole law;s₀,H₀: the entry;outer: the frames whose slots others may change (a def's callers);stack: all frames that run;
   ex: iterators that were made ahead of the entry and are walked here (a comprehension's);fn: the names whose cells were made at the entry (a def: all;a comprehension's block: its own);calm: not within an except suite;pn: pins that every state bears;xe: what is wanted of an exception that leaves the code -/
structure Cx where
 prog:Program
 w:World
 K:GA
 mg:Str->Option Value
 base:Heap
 A:Around
 N:List Str
 s₀:Shared
 H₀:Hp
 env:Env
 outer:List Env
 stack:List Env
 ex:List Addr
 fn:Str->Bool
 calm:Bool
 pn:List 0#18
 xe:Value->Shared->Prop
def frs (l:List Env):List Addr:=l.filterMap (·.frame)
abbrev Cx.fs (X:Cx):List Addr:=frs X.outer
def Vis (sc:Scope)(x:Str):Prop:=sc.names.lookup x=some .local\/sc.names.lookup x=some .cell\/sc.names.lookup x=some .free
def Loc (sc:Scope)(x:Str):Prop:=sc.names.lookup x=some .local\/sc.names.lookup x=some .cell
def Look (env:Env)(h:Heap)(m:Str->Option Value)(x:Str)(u:Value):Prop:=
 (env.kindOf x=some .local/\m x=some u)\/((env.kindOf x=some .cell\/env.kindOf x=some .free)/\∃ c,env.cells.lookup x=some c/\h.IsCell c (some u))
structure Cx.Ok (X:Cx):Prop where
 mod:Mod X.K X.mg X.base
 kind:X.env.scope.kind=.function
 glob:X.env.globals=mainGlobals
 blt:X.env.builtins=builtinsNs
 above:X.s₀.heap.objs.size<=X.env.locals
 inj:∀ x y c,X.env.cells.lookup x=some c->X.env.cells.lookup y=some c->x=y
 has:∀ x,(X.env.kindOf x=some .cell\/X.env.kindOf x=some .free)->∃ c,X.env.cells.lookup x=some c
 cab:∀ x c,X.fn x=true->X.env.cells.lookup x=some c->X.s₀.heap.objs.size<=c
 hd:X.calm=true->X.A.handled=none
 frames:X.A.frames=some X.stack
 stk:X.stack=X.outer\/(X.stack=X.env::X.outer/\X.env.frame=some X.env.locals)
 exf:∀ b∈X.ex,b≠X.env.locals/\∀ x c,X.env.cells.lookup x=some c->c≠b
 bs:∀ b o,X.base.get? b=some o->X.s₀.heap.get? b=some o/\X.H₀ b=none
 bsz:X.base.objs.size<=X.s₀.heap.objs.size
 noex:∀ b o,X.base.get? b=some o->b∉X.ex
 exfs:∀ b∈X.ex,b∉X.fs
 funs:X.s₀.heap.FunFrames X.base X.outer
 frf:∀ b∈X.fs,X.H₀ b=none
structure Inv (X:Cx)(pins:List (Addr×Obj))(σ:List (Option V))(H:Hp)(s:Shared):Prop where
 ok:X.Ok
 os:s.os=X.s₀.os
 bare:AllBare s.gens
 base:Un X.fs X.ex X.H₀ H X.s₀.heap s.heap
 loc:∃ m,s.heap.Ns X.env.locals m/\∀ (i:Nat) (x:Str) (v:V),X.N[i]?=some x->σ[i]?=some (some v)->Vis X.env.scope x->∃ u,RelV v u/\Look X.env s.heap m x u
 cell:∀ x c,X.env.cells.lookup x=some c->∃ v,s.heap.IsCell c v
 free:H X.env.locals=none
 freeC:∀ x c,X.env.cells.lookup x=some c->H c=none
 pin:∀ p∈X.pn++pins,s.heap.get? p.1=some p.2/\H p.1=none/\p.1≠X.env.locals/\p.1∉X.fs/\∀ v,p.2.data≠.cell v
 hok:HOk X.prog X.w H s.heap
 len:σ.length=X.N.length
section
variable {X:Cx}{pins:List (Addr×Obj)}{σ:List (Option V)}{H H':Hp}{s:Shared}{h':Heap}
def Cx.Ok.nofr (ok:X.Ok){b:Addr}{o:Obj}(e:X.base.get? b=some o):b∉X.fs:=λ hb=>by
 have:=(ok.funs.mem hb).1;rw[e] at this;cases this
def Inv.bs (I:Inv X pins σ H s):∀ b o,X.base.get? b=some o->s.heap.get? b=some o/\H b=none:=λ b o e=>
 ⟨I.base.keep b o (I.ok.bs b o e).1 (I.ok.bs b o e).2 (I.ok.nofr e) (I.ok.noex b o e),I.base.free b o (I.ok.bs b o e).1 (I.ok.bs b o e).2 (I.ok.noex b o e)⟩
def Inv.bk (I:Inv X pins σ H s):∀ b o,X.base.get? b=some o->s.heap.get? b=some o:=λ b o e=>(I.bs b o e).1
def Inv.mod (I:Inv X pins σ H s):Mod X.K X.mg X.base:=I.ok.mod
def Inv.kIn (I:Inv X pins σ H s):X.K.In s.heap:=I.ok.mod.kin.keeps I.bk
def Inv.lt (I:Inv X pins σ H s):X.env.locals<s.heap.objs.size:=let ⟨_,hn,_⟩:=I.loc;hn.lt
def Inv.sz (I:Inv X pins σ H s):X.s₀.heap.objs.size<=s.heap.objs.size:=D4 I.ok.above (EB I.lt)
def Inv.nofs (I:Inv X pins σ H s){a:Addr}(h:s.heap.objs.size<=a):a∉X.fs:=λ hb=>by
 obtain⟨_,o,ho,_⟩:=I.ok.funs.mem hb;exact absurd (DG (GE ho) (D4 I.sz h)) (D0 _)
def Inv.cne (I:Inv X pins σ H s):∀ x c,X.env.cells.lookup x=some c->c≠X.env.locals:=λ x c e z=>by
 obtain⟨v,o,ho,hd⟩:=I.cell x c e;obtain⟨m,⟨o',es,ep,ho',hd',_⟩,_⟩:=I.loc;rw[z,ho'] at ho;cases ho;rw[hd'] at hd;cases hd
def Inv.funs (I:Inv X pins σ H s):s.heap.FunFrames X.base X.outer:=by
 have all:∀ (l:List Env),(∀ b∈frs l,b∈X.fs)->X.s₀.heap.FunFrames X.base l->s.heap.FunFrames X.base l:=by
  intro l
  induction l with
  |nil=>intro _ _;trivial
  |cons env r ih=>
   intro hs hl;obtain⟨hk,⟨L,o,hf,hn,ho,hd⟩,hr⟩:=hl;have hL:L∈X.fs:=hs L (by unfold frs;rw[E9,hf];exact Dh);obtain⟨sl,e⟩:=I.base.slot L o ho (I.ok.frf L hL) hL λ z=>I.ok.exfs L z hL
   exact⟨hk,⟨L,_,hf,hn,e,hd⟩,ih (λ b hb=>hs b (by unfold frs;rw[E9,hf];exact De _ hb)) hr⟩
 exact all X.outer (λ _ hb=>hb) I.ok.funs
def Inv.stack (I:Inv X pins σ H s):s.heap.FunFrames X.base X.stack:=by
 rcases I.ok.stk with e|⟨e,hf⟩
 ·rw[e];exact I.funs
 ·rw[e]
  obtain⟨m,hn,_⟩:=I.loc;refine .cons (by rw[I.ok.kind];decide) hf hn ?_ I.funs
  exact Heap.get?_none_of_le (D4 I.ok.bsz I.ok.above)
def Inv.stkSub (I:Inv X pins σ H s):∀ b∈frs X.stack,b∈X.env.locals::X.fs:=λ b hb=>by
 rcases I.ok.stk with e|⟨e,hf⟩
 ·rw[e] at hb;exact De _ hb
 ·rw[e] at hb
  unfold frs at hb;rw[E9,hf] at hb;exact hb
def Inv.stkFree (I:Inv X pins σ H s):∀ b∈frs X.stack,H b=none:=λ b hb=>by
 rcases List.mem_cons.mp (I.stkSub b hb) with e|hb
 ·rw[e];exact I.free
 ·obtain⟨_,o,ho,_⟩:=I.ok.funs.mem hb
  exact I.base.free b o ho (I.ok.frf b hb) λ z=>I.ok.exfs b z hb
def Inv.step {g':Array GenState}{t':Nat}{d':Drawn}{ch:List Addr}(I:Inv X pins σ H s)
  (hch:∀ b∈ch,1#29/\b≠X.env.locals/\0#90/\∀ p∈X.pn++pins,p.1≠b)
  (keep:∀ b o,b≠X.env.locals->b∉X.fs->b∉ch->s.heap.get? b=some o->H b=none->h'.get? b=some o)
  (slot:∀ b o,b≠X.env.locals->b∈X.fs->b∉ch->s.heap.get? b=some o->H b=none->∃ sl,h'.get? b=some { o with slots:=sl }) (free:∀ b o,b∉ch->s.heap.get? b=some o->H b=none->H' b=none)
  (there:∀ b o,b∉ch->s.heap.get? b=some o->∃ o',h'.get? b=some o')
  (tups:∀ b xs,H b=some 2#24->H' b=some 2#24) (frzs:∀ b o u,H b=some 1#39->H' b=some 1#39) (tbls:∀ b ps,H b=some (.tbl ps)->∃ more,H' b=some (.tbl (ps++more)))
  (ns:∀ m,s.heap.Ns X.env.locals m->h'.Ns X.env.locals m) (hok:HOk X.prog X.w H' h') (hg:AllBare g'):
  Inv X pins σ H' { s with heap:=h',gens:=g',drawn:=d',toks:=t' }:=by
 have neL:∀ b o,X.s₀.heap.get? b=some o->b≠X.env.locals:=λ b o e=>Dy 1#76
 have neC:∀ b o,X.s₀.heap.get? b=some o->b∉X.ex->b∉ch:=λ b o e hx hb=>by
  rcases (hch b hb).1 with z|z
  ·exact hx z
  ·exact absurd (DG (GE e) z) (D0 _)
 have cellK:∀ x c,X.env.cells.lookup x=some c->∀ v,s.heap.IsCell c v->h'.IsCell c v:=λ x c e v ⟨o,ho,hd⟩=>by
  have nch:c∉ch:=λ z=>(hch c z).2.2.1 x c e rfl
  by_cases hc:c∈X.fs
  ·obtain⟨sl,q⟩:=slot c o (I.cne x c e) hc nch ho (I.freeC x c e)
   exact⟨_,q,hd⟩
  ·exact⟨o,keep c o (I.cne x c e) hc nch ho (I.freeC x c e),hd⟩
 refine⟨I.ok,I.os,hg,⟨λ b o e n hb hx=>?_,λ b o e n hb hx=>?_,λ b o e n hx=>?_,λ b o e hx=>?_,λ b xs e=>tups b xs (I.base.tups b xs e),λ b o xs e=>frzs b o xs (I.base.frzs b o xs e),λ b ps e=>?_⟩,?_,λ x c e=>?_,?_,λ x c e=>?_,λ p hp=>?_,hok,I.len⟩
 ·exact keep b o (neL b o e) hb (neC b o e hx) (I.base.keep b o e n hb hx) (I.base.free b o e n hx)
 ·obtain⟨sl,e1⟩:=I.base.slot b o e n hb hx
  obtain⟨sl',e2⟩:=slot b _ (neL b o e) hb (neC b o e hx) e1 (I.base.free b o e n hx);exact⟨sl',e2⟩
 ·obtain⟨o',e1⟩:=I.base.there b o e hx
  exact free b o' (neC b o e hx) e1 (I.base.free b o e n hx)
 ·obtain⟨o',e1⟩:=I.base.there b o e hx
  exact there b o' (neC b o e hx) e1
 ·obtain⟨m1,e1⟩:=I.base.tbls b ps e
  obtain⟨m2,e2⟩:=tbls b _ e1;exact⟨m1++m2,by rw[e2,JY]⟩
 ·obtain⟨m,hn,hl⟩:=I.loc
  refine⟨m,ns m hn,λ i x v e1 e2 e3=>?_⟩;obtain⟨u,r,l⟩:=hl i x v e1 e2 e3;refine⟨u,r,?_⟩
  rcases l with l|⟨k,c,e,z⟩
  ·exact .inl l
  ·exact .inr ⟨k,c,e,cellK x c e _ z⟩
 ·obtain⟨v,z⟩:=I.cell x c e
  exact⟨v,cellK x c e v z⟩
 ·obtain⟨m,⟨o,_,_,ho,_⟩,_⟩:=I.loc
  exact free _ o (λ z=>(hch _ z).2.1 rfl) ho I.free
 ·obtain⟨v,o,ho,hd⟩:=I.cell x c e
  exact free c o (λ z=>(hch c z).2.2.1 x c e rfl) ho (I.freeC x c e)
 ·obtain⟨e,n,ne,nf,d⟩:=I.pin p hp
  have nch:p.1∉ch:=λ z=>(hch p.1 z).2.2.2 p hp rfl
  exact⟨keep p.1 p.2 ne nf nch e n,free p.1 p.2 nch e n,ne,nf,d⟩
def Inv.un {t':Nat}(I:Inv X pins σ H s)(u:Un X.fs [] H H' s.heap h')(hok:HOk X.prog X.w H' h'):Inv X pins σ H' { s with heap:=h',toks:=t' }:=by
 obtain⟨m,⟨o,es,ep,ho,r⟩,_⟩:=id I.loc;obtain⟨sl,hL⟩:=u.any ho I.free 0#5;exact I.step (g':=s.gens) (d':=s.drawn) (ch:=[]) (λ _ z=>nomatch z) (λ b o _ hb _ e n=>u.keep b o e n hb 0#5) (λ b o _ hb _ e n=>u.slot b o e n hb 0#5) (λ b o _ e n=>u.free b o e n 0#5) (λ b o _ e=>u.there b o e 0#5) u.tups u.frzs u.tbls (λ m' hm=>by
  obtain⟨o',es',ep',ho',r'⟩:=hm;rw[ho] at ho';cases ho';exact⟨_,es',ep',hL,r'⟩) hok I.bare
def Inv.call {g':Array GenState}{t':Nat}{d':Drawn}{ch:List Addr}(I:Inv X pins σ H s)(u:Un (frs X.stack) ch H H' s.heap h')(hok:HOk X.prog X.w H' h')(hg:AllBare g')
  (hch:∀ b∈ch,1#29/\b≠X.env.locals/\0#90/\∀ p∈X.pn++pins,p.1≠b):
  Inv X pins σ H' { s with heap:=h',gens:=g',drawn:=d',toks:=t' }:=by
 obtain⟨m,⟨o,es,ep,ho,r⟩,_⟩:=id I.loc;obtain⟨sl,hL⟩:=u.any ho I.free λ z=>(hch _ z).2.1 rfl
 exact I.step (ch:=ch) hch (λ b o hL hb hc e n=>u.keep b o e n (λ z=>(List.mem_cons.mp (I.stkSub b z)).elim hL hb) hc) (λ b o _ _ hc e n=>u.any e n hc) (λ b o hc e n=>u.free b o e n hc) (λ b o hc e=>u.there b o e hc) u.tups u.frzs u.tbls (λ m' hm=>by
  obtain⟨o',es',ep',ho',r'⟩:=hm;rw[ho] at ho';cases ho';exact⟨_,es',ep',hL,r'⟩) hok hg
def Inv.turned {t':Nat}{it:Addr}(I:Inv X pins σ H s)(k:∀ b o,b≠it->s.heap.get? b=some o->h'.get? b=some o)(hn:H it=none)(hL:it≠X.env.locals)
  (h1:it∈X.ex\/X.s₀.heap.objs.size<=it) (h2:∀ x c,X.env.cells.lookup x=some c->c≠it) (h3:∀ p∈X.pn++pins,p.1≠it):Inv X pins σ H { s with heap:=h',toks:=t' }:=by
 have nit:∀ b u,H b=some u->b≠it:=λ b u e z=>by rw[z,hn] at e;cases e
 refine I.step (g':=s.gens) (d':=s.drawn) (ch:=[it]) (λ b hb=>?_) (λ b o _ _ hc e _=>k b o (λ z=>hc 2#57) e) (λ b o _ _ hc e _=>⟨o.slots,k b o (λ z=>hc 2#57) e⟩) (λ _ _ _ _ n=>n)
  (λ b o hc e=>⟨o,k b o (λ z=>hc 2#57) e⟩) (λ _ _ e=>e) (λ _ _ _ e=>e) (λ b ps e=>⟨#[],by rw[e];simp⟩) (λ m hm=>?_) (λ b u e=>?_) I.bare
 ·have e:b=it:=by simpa using hb
  subst e;exact⟨h1,hL,h2,h3⟩
 ·obtain⟨o,es,ep,ho,r⟩:=hm
  exact⟨o,es,ep,k _ o (Ne.symm hL) ho,r⟩
 ·refine(I.hok b u e).stay (λ c v hc q=>k c v ?_ q) (λ _ q=>q) λ _ _ q=>q
  rcases hc with z|z
  ·rw[z];exact nit b u e
  ·exact nit c _ z
def Inv.tok (I:Inv X pins σ H s)(t:Nat):Inv X pins σ H { s with toks:=t }:=I.un (h':=s.heap) (t':=t) Un.refl I.hok
def Inv.kept {t':Nat}(I:Inv X pins σ H s)(k:∀ b u,s.heap.get? b=some u->h'.get? b=some u):Inv X pins σ H { s with heap:=h',toks:=t' }:=I.un (Un.kept k) (I.hok.kept k)
def Inv.laid {a:Addr}{o:HO}{t':Nat}(I:Inv X pins σ H s)(k:∀ b u,s.heap.get? b=some u->h'.get? b=some u)(hp:s.heap.objs.size<=a)(new:ObjOk X.prog X.w 2#34 h' a o):
  Inv X pins σ 2#34 { s with heap:=h',toks:=t' }:=I.un (Un.laid k hp (I.hok.fresh hp)) (I.hok.laid k hp new)
def Inv.write {x e:Addr}{o:HO}{t':Nat}(I:Inv X pins σ H s)(mu:Mut (H x))(he:e=x\/H e=some (.own x))(k:∀ b u,b≠e->s.heap.get? b=some u->h'.get? b=some u)(heo:∃ u,h'.get? e=some u)
  (new:ObjOk X.prog X.w (upd H x o) h' x o):Inv X pins σ (upd H x o) { s with heap:=h',toks:=t' }:=I.un (Un.write mu he k heo) (I.hok.write mu he k heo new)
def Inv.pins_of {pins':List (Addr×Obj)}(I:Inv X pins σ H s)(h:∀ p∈pins',s.heap.get? p.1=some p.2/\H p.1=none/\p.1≠X.env.locals/\p.1∉X.fs/\∀ v,p.2.data≠.cell v):Inv X pins' σ H s:=
 ⟨I.ok,I.os,I.bare,I.base,I.loc,I.cell,I.free,I.freeC,λ p hp=>(List.mem_append.mp hp).elim (λ z=>I.pin p (DP _ z)) (h p),I.hok,I.len⟩
def mV {N:List Str}(hN:N.Nodup){i j:Nat}{x:Str}(a:N[i]?=some x)(b:N[j]?=some x):i=j:=by
 obtain⟨h1,e1⟩:=List.getElem?_eq_some_iff.mp a;obtain⟨h2,e2⟩:=List.getElem?_eq_some_iff.mp b;exact(F5 hN).mp (e1.trans e2.symm)
def k7 {M:Model}{A:Around}{E:Value->Shared->Prop}{i:Nat}{x:Str}{v:V}{u:Value}{Q:Unit->Shared->Prop}(I:Inv X pins σ H s)(hN:X.N.Nodup)(hi:X.N[i]?=some x)(hx:Loc X.env.scope x)(r:RelV v u)
  (h:∀ s',Inv X pins 0#79 H s'->(∃ a,H0 a s.heap s'.heap/\(a=X.env.locals\/X.env.cells.lookup x=some a))->Q () s') (hf:autoParam 0#46 ZB._auto_1):wpAny M A (storeName X.env x u) Q E s:=by
 obtain⟨m,hn,hl⟩:=id I.loc;have hcls:(X.env.scope.kind == .class || (X.env.scope.kind == .module&&X.env.locals != X.env.globals))=false:=by rw[I.ok.kind];rfl
 have hiσ:i<σ.length:=by rw[I.len];exact(List.getElem?_eq_some_iff.mp hi).1
 have cne:=I.cne;have tracked:∀ {a:Addr} {h':Heap},(∃ o,s.heap.get? a=some o/\H a=none)->H0 a s.heap h'->HOk X.prog X.w H h':=λ {a h'} ha hs b ob e=>by
  obtain⟨_,_,hfree⟩:=ha;refine(I.hok b ob e).stay (λ c w' hc q=>(hs.2 c ?_).trans q) (λ _ q=>q) λ _ _ q=>q
  rintro rfl
  rcases hc with rfl|hc
  ·rw[hfree] at e;cases e
  ·rw[hfree] at hc;cases hc
 rcases hx with hk|hk
 ·refine wpAny_storeName_local hk hn (λ h' hn' hs=>?_) hcls
  obtain⟨oL,_,_,hoL,_⟩:=id hn;refine h _ ⟨I.ok,I.os,I.bare,⟨λ b o e n hb hx=>?_,λ b o e n hb hx=>?_,I.base.free,λ b o e hx=>?_,I.base.tups,I.base.frzs,I.base.tbls⟩,⟨_,hn',λ j y v' e1 e2 e3=>?_⟩,λ y c e=>?_,I.free,I.freeC,λ p hp=>?_,tracked ⟨oL,hoL,I.free⟩ hs,by simpa using I.len⟩ ⟨_,hs,.inl rfl⟩
  ·exact(hs.2 b (Dy 1#76)).trans (I.base.keep b o e n hb hx)
  ·obtain⟨sl,e1⟩:=I.base.slot b o e n hb hx
   exact⟨sl,(hs.2 b (Dy 1#76)).trans e1⟩
  ·obtain⟨o',e1⟩:=I.base.there b o e hx
   exact⟨o',(hs.2 b (Dy 1#76)).trans e1⟩
  ·by_cases hj:j=i
   ·subst hj
    rw[hi] at e1;cases e1;rw[DJ hiσ] at e2;cases e2;exact⟨u,r,.inl ⟨hk,by simp⟩⟩
   ·rw[DQ (Ne.symm hj)] at e2
    obtain⟨u',r',q⟩:=hl j y v' e1 e2 e3;refine⟨u',r',?_⟩
    rcases q with ⟨k,e⟩|⟨k,c,e,z⟩
    ·refine .inl ⟨k,?_⟩
     have:y≠x:=λ e=>hj (mV hN e1 (e▸hi))
     simp[this,e]
    ·exact .inr ⟨k,c,e,z.sameBut hs (cne y c e)⟩
  ·obtain⟨w',z⟩:=I.cell y c e
   exact⟨w',z.sameBut hs (cne y c e)⟩
  ·obtain⟨e,n,ne,nf,d⟩:=I.pin p hp
   exact⟨(hs.2 p.1 ne).trans e,n,ne,nf,d⟩
 ·have hfn:X.fn x=true:=by
   rcases hf with z|z
   ·exact z
   ·rw[z] at hk;cases hk
  obtain⟨c,hc⟩:=I.ok.has x (.inl hk);obtain⟨w',z⟩:=I.cell x c hc;refine wpAny_storeName_cell I.ok.kind hk hc z (λ h' hc' hs=>?_);obtain⟨oc,hoc,hocd⟩:=id z;refine h { s with heap:=h' } ⟨I.ok,I.os,I.bare,⟨λ b o e n hb hx=>?_,λ b o e n hb hx=>?_,I.base.free,λ b o e hx=>?_,I.base.tups,I.base.frzs,I.base.tbls⟩,⟨m,hn.sameBut hs (Ne.symm (cne x c hc)),λ j y v' e1 e2 e3=>?_⟩,λ y c' e=>?_,I.free,I.freeC,λ p hp=>?_,tracked ⟨oc,hoc,I.freeC x c hc⟩ hs,by simpa using I.len⟩ ⟨c,hs,.inr hc⟩
  ·exact(hs.2 b (Dy (DG (GE e) (I.ok.cab x c hfn hc)))).trans (I.base.keep b o e n hb hx)
  ·obtain⟨sl,e1⟩:=I.base.slot b o e n hb hx
   exact⟨sl,(hs.2 b (Dy (DG (GE e) (I.ok.cab x c hfn hc)))).trans e1⟩
  ·obtain⟨o',e1⟩:=I.base.there b o e hx
   exact⟨o',(hs.2 b (Dy (DG (GE e) (I.ok.cab x c hfn hc)))).trans e1⟩
  ·by_cases hj:j=i
   ·subst hj
    rw[hi] at e1;cases e1;rw[DJ hiσ] at e2;cases e2;exact⟨u,r,.inr ⟨.inl hk,c,hc,hc'⟩⟩
   ·rw[DQ (Ne.symm hj)] at e2
    obtain⟨u',r',q⟩:=hl j y v' e1 e2 e3;refine⟨u',r',?_⟩
    rcases q with q|⟨k,c',e,z'⟩
    ·exact .inl q
    ·refine .inr ⟨k,c',e,z'.sameBut hs ?_⟩
     rintro rfl
     exact hj (mV hN e1 (I.ok.inj _ _ _ e hc▸hi))
  ·by_cases hcc:c'=c
   ·subst hcc;exact⟨_,hc'⟩
   ·obtain⟨w2,z2⟩:=I.cell y c' e
    exact⟨w2,z2.sameBut hs hcc⟩
  ·obtain⟨e,n,ne,nf,d⟩:=I.pin p hp
   refine⟨(hs.2 p.1 ?_).trans e,n,ne,nf,d⟩;intro q;rw[q,hoc] at e;have q':oc=p.2:=Option.some.inj e;exact d w' (by rw[<- q'];exact hocd)
def gz {M:Model}{A:Around}{E:Value->Shared->Prop}{i:Nat}{x:Str}{v:V}{u:Value}{Q:Unit->Shared->Prop}(I:Inv X pins σ H s)(hN:X.N.Nodup)(hi:X.N[i]?=some x)(hx:Loc X.env.scope x)(r:RelV v u)
  (h:∀ s',Inv X pins 0#79 H s'->Q () s') (hf:autoParam 0#46 ZB._auto_1):wpAny M A (storeName X.env x u) Q E s:=
 k7 I hN hi hx r (λ s' I' _=>h s' I') hf
def Inv.call' {s':Shared}{ch:List Addr}(I:Inv X pins σ H s)(ho:s'.os=s.os)(u:Un (frs X.stack) ch H H' s.heap s'.heap)(hok:HOk X.prog X.w H' s'.heap)(hg:AllBare s'.gens)
  (hch:∀ b∈ch,1#29/\b≠X.env.locals/\0#90/\∀ p∈X.pn++pins,p.1≠b):Inv X pins σ H' s':=by
 obtain⟨h',g',d',t',o'⟩:=s';have e:o'=s.os:=ho;subst e;exact I.call (g':=g') (t':=t') (d':=d') u hok hg hch
end
abbrev XK:=Value->Option Addr->Hp->Prop
abbrev St:=List (Option V)
abbrev VK:=V->Hp->Prop
abbrev TE:=St->Hp->VK->Prop
abbrev TT:=St->Hp->(Bool->Hp->Prop)->Prop
abbrev TA:=St->Hp->(List V->Hp->Prop)->Prop
structure Ends where
 nx:St->Hp->Prop
 rt:VK
 bk:St->Hp->Prop:=λ _ _=>False
 ct:St->Hp->Prop:=λ _ _=>False
abbrev TS:=Ends->St->Hp->Prop
def EP (X:Cx)(pins:List 0#18)(σ:St)(Q:VK)(u:Value)(s':Shared):Prop:=∃ v H',Inv X pins σ H' s'/\RelV v u/\Q v H'
def TP (X:Cx)(pins:List 0#18)(σ:St)(Q:Bool->Hp->Prop)(b:Bool)(s':Shared):Prop:=∃ H',Inv X pins σ H' s'/\Q b H'
def AP (X:Cx)(pins:List 0#18)(σ:St)(Q:List V->Hp->Prop)(us:List Value)(s':Shared):Prop:=∃ vs H',Inv X pins σ H' s'/\Vals vs us/\Q vs H'
def SP (X:Cx)(pins:List 0#18)(D:Ends)(f:Flow)(s':Shared):Prop:=
 match f with
 |.next=>∃ σ' H',Inv X pins σ' H' s'/\D.nx σ' H'
 |.brk=>∃ σ' H',Inv X pins σ' H' s'/\D.bk σ' H'
 |.cont=>∃ σ' H',Inv X pins σ' H' s'/\D.ct σ' H'
 |.ret u=>∃ v σ' H',Inv X pins σ' H' s'/\RelV v u/\D.rt v H'
def PE (X:Cx)(e:Expr)(t:TE):Prop:=
 ∀ (pins:List 0#18) (s:Shared) (σ:St) (H:Hp) (Q:VK),Inv X pins σ H s->t σ H Q->wpAny 0#3 X.A (eval e X.env) 0#53 X.xe s
def PT (X:Cx)(e:Expr)(t:TT):Prop:=
 ∀ (pins:List 0#18) (s:Shared) (σ:St) (H:Hp) (Q:Bool->Hp->Prop),Inv X pins σ H s->t σ H Q->wpAny 0#3 X.A (isTrue e X.env (eval e X.env)) (TP X pins σ Q) X.xe s
def PW (X:Cx)(e:Expr)(t:TT):Prop:=
 ∀ (whole:Sem Value) (pins:List 0#18) (s:Shared) (σ:St) (H:Hp) (Q:Bool->Hp->Prop),Inv X pins σ H s->t σ H Q->wpAny 0#3 X.A (isTrue e X.env whole) (TP X pins σ Q) X.xe s
def PW.pt {X:Cx}{e:Expr}{t:TT}(h:PW X e t):PT X e t:=h _
def PA (X:Cx)(es:List Expr)(t:TA):Prop:=
 ∀ (pos:Pos) (pins:List 0#18) (s:Shared) (σ:St) (H:Hp) (Q:List V->Hp->Prop),Inv X pins σ H s->t σ H Q->wpAny 0#3 X.A (spliced (backTo pos 2#5)) (AP X pins σ Q) X.xe s
def PS (X:Cx)(st:Stmt)(t:TS):Prop:=
 ∀ (pins:List 0#18) (s:Shared) (σ:St) (H:Hp) (D:Ends),Inv X pins σ H s->t D σ H->wpAny 0#3 X.A (exec st X.env) (SP X pins D) X.xe s
def PSs (X:Cx)(st:List Stmt)(t:TS):Prop:=
 ∀ (pins:List 0#18) (s:Shared) (σ:St) (H:Hp) (D:Ends),Inv X pins σ H s->t D σ H->wpAny 0#3 X.A (execs st X.env) (SP X pins D) X.xe s
def thn {α:Type}{t:Sem α}{Q Q':α->Shared->Prop}{M:Model}{A:Around}{E:Value->Shared->Prop}{s:Shared}(h:wpAny M A t Q E s)(hQ:∀ a s,Q a s->Q' a s):wpAny M A t Q' E s:=GL h hQ λ _ _ x=>x
section
variable {X:Cx}
def aS (i:Nat):TE:=λ σ H Q=>∃ v,σ[i]?=some (some v)/\Q v H
def tC (v:V):TE:=λ _ H Q=>Q v H
def cu {i:Nat}{x:Str}{pos:Pos}(hN:X.N[i]?=some x)(hv:Vis X.env.scope x)(hd:autoParam 0#4 ZC._auto_1)(hcd:autoParam 0#16 ZC._auto_1):PE X 1#41 (aS i):=by
 intro pins s σ H Q I h;obtain⟨v,e,h⟩:=h;obtain⟨m,hn,hl⟩:=I.loc;obtain⟨u,r,l⟩:=hl i x v hN e hv;have fin:EP X pins σ Q u s:=⟨v,H,I,r,h⟩
 rcases l with ⟨hk,hm⟩|⟨hk,c,hc,hcell⟩
 ·exact wpAny_Name (JB I.ok.kind hk hn hm fin) hd
 ·rcases hk with hk|hk
  ·exact wpAny_Name (JO I.ok.kind hk hc hcell fin) hd
  ·exact wpAny_Name (wpAny_loadName_free I.ok.kind hk hc hcell fin hcd) hd
def dY {i j pos}:PE X (.Constant (.int i) j pos) (tC (.int i)):=λ _ _ _ H _ I h=>wpAny_Constant_int ⟨.int i,H,I.tok _,⟨_,rfl⟩,h⟩
def B6 {b j pos}:PE X (.Constant (.bool b) j pos) (tC (.bl b)):=λ _ _ _ H _ I h=>Constant_bool ⟨.bl b,H,I,rfl,h⟩
def mw {j pos}:PE X (.Constant .none j pos) (tC .non):=λ _ _ _ H _ I h=>JH ⟨.non,H,I,rfl,h⟩
def gP {x j pos}:PE X (.Constant (.str x) j pos) (tC (.str x)):=λ _ _ _ H _ I h=>Calls.Constant_str ⟨.str x,H,I.tok _,⟨_,rfl⟩,h⟩
def Gl (X:Cx)(x:Str):Prop:=X.env.kindOf x=some .globalImplicit
def gD {E:Value->Shared->Prop}{pins:List (Addr×Obj)}{s:Shared}{σ:St}{H:Hp}{x:Str}{u:Value}{pos:Pos}{Q:Value->Shared->Prop}(I:Inv X pins σ H s)(hg:Gl X x)(hm:X.mg x=some u)(h:Q u s)
  (hd:autoParam 0#4 ZC._auto_1):wpAny 0#3 X.A (eval 1#41 X.env) Q E s:=
 IL I.ok.kind hg (Calls.loadGlobal_global (by rw[I.ok.glob];exact I.mod.glob.keeps I.bk) hm h) hd
def cY {E:Value->Shared->Prop}{pins:List (Addr×Obj)}{s:Shared}{σ:St}{H:Hp}{x:Str}{u:Value}{pos:Pos}{Q:Value->Shared->Prop}(I:Inv X pins σ H s)(hg:Gl X x)(hm:X.mg x=none)(hv:bootBuiltins x=some u)(h:Q u s)
  (hn:autoParam 1#69 ZC._auto_1) (hd:autoParam 0#4 ZC._auto_1):wpAny 0#3 X.A (eval 1#41 X.env) Q E s:=by
 obtain⟨mb,h1,h2⟩:=I.mod.blt;exact IL I.ok.kind hg (Calls.loadGlobal_builtin (by rw[I.ok.glob];exact I.mod.glob.keeps I.bk) hm (by rw[I.ok.blt];exact h1.keeps I.bk) ((h2 x hn).trans hv) h) hd
def gL {x:Str}{v:V}{u:Value}{pos:Pos}(hg:Gl X x)(hm:X.mg x=some u)(r:RelV v u)(hd:autoParam 0#4 ZC._auto_1):PE X 1#41 (tC v):=
 λ _ _ _ H _ I h=>gD I hg hm ⟨v,H,I,r,h⟩ hd
def rL {x:Str}{v:V}{u:Value}{pos:Pos}(hg:Gl X x)(hm:X.mg x=none)(hv:bootBuiltins x=some u)(r:RelV v u)(hn:autoParam 1#69 ZC._auto_1)(hd:autoParam 0#4 ZC._auto_1):PE X 1#41 (tC v):=
 λ _ _ _ H _ I h=>cY I hg hm hv ⟨v,H,I,r,h⟩ hn hd
variable {a b:Expr}{ta tb:TE}{pos:Pos}
def PC (X:Cx)(op:CmpOp)(a b:Expr)(t:TE):Prop:=
 ∀ (pins:List 0#18) (s:Shared) (σ:St) (H:Hp) (Q:VK),Inv X pins σ H s->t σ H Q ->
  wpAny 0#3 X.A (eval a X.env) (λ v s₁=>wpAny 0#3 X.A (eval b X.env) (λ u s₂=>wpAny 0#3 X.A (compareOp op v u) 0#53 X.xe s₂) X.xe s₁) X.xe s
def nobehind (b:Expr){op:CmpOp}(h:op≠.In)(h2:op≠.NotIn):behindInMarks op b=false:=by
 have e1:(op == CmpOp.In)=false:=by cases op <;>first|rfl|exact absurd rfl h
 have e2:(op == CmpOp.NotIn)=false:=by cases op <;>first|rfl|exact absurd rfl h2
 cases b <;>simp[behindInMarks,e1,e2]
def CM (ta:TE):TE:=λ σ H Q=>ta σ H λ x H1=>Q (.bl (decide (x=.non))) H1
def wL (ta:TE):TE:=λ σ H Q=>ta σ H λ x H1=>Q (.bl (!decide (x=.non))) H1
def RelV.none_iff {x:V}{v:Value}(r:RelV x v):(v == GN)=decide (x=.non):=by
 cases x with
 |non=>cases r;rfl
 |bl _=>cases r;rfl
 |int _=>obtain⟨t,rfl⟩:=r;rfl
 |str _=>obtain⟨t,rfl⟩:=r;rfl
 |byt _=>obtain⟨t,rfl⟩:=r;rfl
 |flt _=>obtain⟨t,rfl⟩:=r;rfl
 |ref _=>cases r;rfl
 |ty _=>cases r;rfl
def AR {j pos'}(ha:PE X a ta):PC X .Is a (.Constant .none j pos') (CM ta):=by
 intro pins s σ H Q I h;refine thn 0#51 λ v s1 ⟨x,H1,I1,r1,q1⟩=>?_
 exact JH (is_none_gen ⟨.bl _,H1,I1,by rw[r1.none_iff];rfl,q1⟩)
def sf {j pos'}(ha:PE X a ta):PC X .IsNot a (.Constant .none j pos') (wL ta):=by
 intro pins s σ H Q I h;refine thn 0#51 λ v s1 ⟨x,H1,I1,r1,q1⟩=>?_
 exact JH (isnot_none_gen ⟨.bl _,H1,I1,by rw[r1.none_iff];rfl,q1⟩)
def tB (t:TE):TT:=λ σ H Q=>t σ H λ x H1=>∃ c,x=.bl c/\Q c H1
def pU {op:CmpOp}{t:TE}(h:PC X op a b t)(h1:autoParam (behindInMarks op b=false) ZD._auto_1):PT X 1#54 (tB t):=by
 intro pins s σ H Q I hw;refine Jr (thn (h pins s σ H _ I hw) λ v s1 h1=>thn h1 λ u s2 h2=>thn h2 λ c s3 ⟨x,H1,I1,r1,q1⟩=>?_) h1;obtain⟨d,rfl,q⟩:=q1;cases r1;exact Hy ⟨H1,I1,q⟩
def By {e:Expr}{t:TE}(h:PE X e t)(he:autoParam (∀ whole,isTrue e X.env whole=(do let v <- whole;standAt e.pos;holding [v] (truthy v))) ZE._auto_1):PT X e (tB t):=by
 intro pins s σ H Q I hw;refine isTrue_plain (thn (h pins s σ H _ I hw) λ v s1 ⟨x,H1,I1,r1,q1⟩=>?_) (he _);obtain⟨d,rfl,q⟩:=q1;cases r1;exact Hy ⟨H1,I1,q⟩
variable {tA tB':TT}{rest:List Expr}
def CN (t u:TT):TT:=λ σ H Q=>t σ H λ c H1=>if c=true then u σ H1 Q else Q false H1
def tOr (t u:TT):TT:=λ σ H Q=>t σ H λ c H1=>if c=true then Q true H1 else u σ H1 Q
def CQ (t:TT):TT:=λ σ H Q=>t σ H λ c H1=>Q (!c) H1
def yZ (ha:PT X a tA):PW X (.BoolOp .And [a] pos) tA:=by
 intro wh pins s σ H Q I h;refine isTrue_and (thn (ha pins s σ H Q I h) λ c s1 e=>?_);cases c with
 |true=>exact isTrue_and_nil e
 |false=>exact e
def AA (ha:PT X a tA):PW X (.BoolOp .Or [a] pos) tA:=by
 intro wh pins s σ H Q I h;refine isTrue_or (thn (ha pins s σ H Q I h) λ c s1 e=>?_);cases c with
 |false=>exact isTrue_or_nil e
 |true=>exact e
def AG (ha:PT X a tA)(hb:PW X (.BoolOp .And (b::rest) pos) tB'):PW X (.BoolOp .And (a::b::rest) pos) (CN tA tB'):=by
 intro wh pins s σ H Q I h;refine isTrue_and (thn 0#51 λ c s1 ⟨H1,I1,q1⟩=>?_);cases c with
 |true=>exact hb wh pins s1 σ H1 Q I1 q1
 |false=>exact⟨H1,I1,q1⟩
def Cz (ha:PT X a tA)(hb:PW X (.BoolOp .Or (b::rest) pos) tB'):PW X (.BoolOp .Or (a::b::rest) pos) (tOr tA tB'):=by
 intro wh pins s σ H Q I h;refine isTrue_or (thn 0#51 λ c s1 ⟨H1,I1,q1⟩=>?_);cases c with
 |true=>exact⟨H1,I1,q1⟩
 |false=>exact hb wh pins s1 σ H1 Q I1 q1
def Aq (ha:PT X a tA):PT X (.UnaryOp .Not a pos) (CQ tA):=by
 intro pins s σ H Q I h;exact isTrue_not (ha pins s σ H (λ c H1=>Q (!c) H1) I h)
end
def SqL (K:GA)(H:Hp)(a:Addr)(xs:List V):Prop:=
 Rd H a 1#37 \/
  ∃ (o:Obj) (its:Array Value) (n:Nat),K.lookup a=some o/\o.cls=.type "list"/\o.dict=none/\o.data=.seq its n/\its.size<=sizeLine/\Vals xs its.toList
def SqT (K:GA)(H:Hp)(a:Addr)(xs:List V):Prop:=
 Rd H a 2#24 \/
  ∃ (o:Obj) (its:Array Value) (n:Nat),K.lookup a=some o/\o.cls=.type "tuple"/\o.data=.seq its n/\its.size<=sizeLine/\Vals xs its.toList
def C1:Value->Option V
 |.none=>some .non
 |.bool b=>some (.bl b)
 |.int i _=>some (.int i)
 |.str x _=>some (.str x)
 |.bytes b _=>some (.byt b)
 |.float b _=>some (.flt b)
 |.ref a=>some (.ref a)
 |.type n=>some (.ty n)
 |_=>none
def RelV.abs {x:V}{u:Value}(r:RelV x u):C1 u=some x:=by
 cases x with
 |non=>cases r;rfl
 |bl _=>cases r;rfl
 |int _=>obtain⟨t,rfl⟩:=r;rfl
 |str _=>obtain⟨t,rfl⟩:=r;rfl
 |byt _=>obtain⟨t,rfl⟩:=r;rfl
 |flt _=>obtain⟨t,rfl⟩:=r;rfl
 |ref _=>cases r;rfl
 |ty _=>cases r;rfl
def RelV.inj {x y:V}{u:Value}(r:RelV x u)(q:RelV y u):x=y:=Option.some.inj (r.abs.symm.trans q.abs)
def Vals.inj {xs ys:List V}{us:List Value}(q:Vals xs us)(p:Vals ys us):xs=ys:=by
 induction q generalizing ys with
 |nil=>cases p;rfl
 |cons r t ih=>
  cases p with
  |cons r' t'=>rw[r.inj r',ih t']
section
variable {X:Cx}{pins:List (Addr×Obj)}{σ:St}{H:Hp}{s:Shared}{a:Addr}{xs ys:List V}
def SqL.of {K:GA}(h:H a=some (.lst xs)):SqL K H a xs:=.inl (.inl h)
def Inv.list (I:Inv X pins σ H s)(h:SqL X.K H a xs):∃ its:List Value,Vals xs its/\PlainL s.heap a its.toArray/\xs.length<=sizeLine:=by
 rcases h with h|⟨o,its,n,hk,hc,hd,hs,hz,r⟩
 ·obtain⟨z,its,n,r,e⟩:=h.ok I.hok
  exact⟨its,r,⟨_,n,e,rfl,rfl,rfl⟩,z⟩
 ·refine⟨its.toList,r,⟨o,n,I.kIn a o hk,hc,hd,by simpa using hs⟩,?_⟩
  have e:=r.length;simp only[GX] at e;omega
def Inv.tuple (I:Inv X pins σ H s)(h:SqT X.K H a xs):∃ its:List Value,Vals xs its/\IsTup s.heap a its.toArray/\xs.length<=sizeLine:=by
 rcases h with h|⟨o,its,n,hk,hc,hs,hz,r⟩
 ·obtain⟨z,its,r,p⟩:=h.ok I.hok
  exact⟨its,r,p,z⟩
 ·refine⟨its.toList,r,⟨o,I.kIn a o hk,hc,n,by simpa using hs⟩,?_⟩
  have e:=r.length;simp only[GX] at e;omega
def Inv.list_inj (I:Inv X pins σ H s)(h:SqL X.K H a xs)(h':SqL X.K H a ys):xs=ys:=by
 obtain⟨its,r,⟨o,n,e,_,_,d⟩,_⟩:=I.list h;obtain⟨its',r',⟨o',n',e',_,_,d'⟩,_⟩:=I.list h';rw[e] at e';cases e';rw[d] at d';injection d' with d1 _
 have:its=its':=by simpa using congrArg Array.toList d1
 subst this;exact r.inj r'
end
abbrev Cx.wish (X:Cx)(E:Value->Shared->Prop):Cx:={ X with xe:=E }
abbrev Cx.nox (X:Cx):Cx:=X.wish λ _ _=>False
def Cx.Ok.wish {X:Cx}(ok:X.Ok)(E:Value->Shared->Prop):(X.wish E).Ok:=
 ⟨ok.mod,ok.kind,ok.glob,ok.blt,ok.above,ok.inj,ok.has,ok.cab,ok.hd,ok.frames,ok.stk,ok.exf,ok.bs,ok.bsz,ok.noex,ok.exfs,ok.funs,ok.frf⟩
def Cx.Ok.unwish {X:Cx}{E:Value->Shared->Prop}(ok:(X.wish E).Ok):X.Ok:=
 ⟨ok.mod,ok.kind,ok.glob,ok.blt,ok.above,ok.inj,ok.has,ok.cab,ok.hd,ok.frames,ok.stk,ok.exf,ok.bs,ok.bsz,ok.noex,ok.exfs,ok.funs,ok.frf⟩
section
variable {X:Cx}{pins:List (Addr×Obj)}{σ:St}{H:Hp}{s:Shared}{E:Value->Shared->Prop}
def Inv.wish (I:Inv X pins σ H s)(E:Value->Shared->Prop):Inv (X.wish E) pins σ H s:=⟨I.ok.wish E,I.os,I.bare,I.base,I.loc,I.cell,I.free,I.freeC,I.pin,I.hok,I.len⟩
def Inv.unwish (I:Inv (X.wish E) pins σ H s):Inv X pins σ H s:=⟨I.ok.unwish,I.os,I.bare,I.base,I.loc,I.cell,I.free,I.freeC,I.pin,I.hok,I.len⟩
def SP.unwish {D:Ends}{f:Flow}{s':Shared}(h:SP (X.wish E) pins D f s'):SP X pins D f s':=by
 cases f with
 |next=>obtain⟨σ',H',I,q⟩:=h;exact⟨σ',H',I.unwish,q⟩
 |brk=>obtain⟨σ',H',I,q⟩:=h;exact⟨σ',H',I.unwish,q⟩
 |cont=>obtain⟨σ',H',I,q⟩:=h;exact⟨σ',H',I.unwish,q⟩
 |ret u=>obtain⟨v,σ',H',I,r,q⟩:=h;exact⟨v,σ',H',I.unwish,r,q⟩
def PE.nox {e:Expr}{t:TE}(h:PE X.nox e t):PE X e t:=λ pins s σ H Q I hw=>
 GL (h pins s σ H Q (I.wish _) hw) (λ _ _ ⟨v,H',I',r,q⟩=>⟨v,H',I'.unwish,r,q⟩) λ _ _ z=>GQ z
def PT.nox {e:Expr}{t:TT}(h:PT X.nox e t):PT X e t:=λ pins s σ H Q I hw=>
 GL (h pins s σ H Q (I.wish _) hw) (λ _ _ ⟨H',I',q⟩=>⟨H',I'.unwish,q⟩) λ _ _ z=>GQ z
def PSs.nox {st:List Stmt}{t:TS}(h:PSs X.nox st t):PSs X st t:=λ pins s σ H D I hw=>
 GL (h pins s σ H D (I.wish _) hw) (λ _ _ q=>q.unwish) λ _ _ z=>GQ z
end
section
variable {X:Cx}{st:Stmt}{rest:List Stmt}{t u:TS}{e:Expr}{te:TE}{pos:Pos}
def kO:TS:=λ D σ H=>D.nx σ H
def cJ (t u:TS):TS:=λ D σ H=>t { D with nx:=u D } σ H
def fB:PSs X [] kO:=λ _ _ σ H _ I h=>HZ ⟨σ,H,I,h⟩
def aE (h1:PS X st t)(h2:PSs X rest u):PSs X (st::rest) (cJ t u):=by
 intro pins s σ H D I h;refine wpAny_execs_cons (thn (h1 pins s σ H { D with nx:=u D } I h) λ f s1 q=>?_);cases f with
 |next=>
  obtain⟨σ',H',I',q⟩:=q;exact h2 pins s1 σ' H' D I' q
 |ret v=>exact q
 |brk=>exact q
 |cont=>exact q
def aU (h1:PS X st t):PSs X [st] t:=by
 intro pins s σ H D I h;refine wpAny_execs_cons (thn (h1 pins s σ H D I h) λ f s1 q=>?_);cases f with
 |next=>exact HZ q
 |ret v=>exact q
 |brk=>exact q
 |cont=>exact q
def Inv.quiet {pins:List (Addr×Obj)}{σ:St}{H:Hp}{s:Shared}(I:Inv X pins σ H s):interactive X.env=false:=by simp[interactive,I.ok.kind]
def iB (te:TE):TS:=λ D σ H=>te σ H λ _ H1=>D.nx σ H1
def bQ (he:PE X e te)(hs:autoParam (swapsWith e none pos.line X.env=pure false) ZF._auto_1):PS X (.Expr e pos) (iB te):=by
 intro pins s σ H D I h;exact wpAny_Expr_any (thn 0#62 λ v s1 ⟨x,H1,I1,r1,q1⟩=>⟨σ,H1,I1,q1⟩) I.quiet hs
def l5 (te:TE):TS:=λ D σ H=>te σ H D.rt
def cU (he:PE X e te):PS X (.Return (some e) pos) (l5 te):=by
 intro pins s σ H D I h;exact wpAny_Return_some (thn 0#62 λ v s1 ⟨x,H1,I1,r1,q1⟩=>⟨x,σ,H1,I1,r1,q1⟩)
def o2 (c:TT)(t u:TS):TS:=λ D σ H=>c σ H λ b H1=>if b=true then t D σ H1 else u D σ H1
def ju {c:Expr}{a b:List Stmt}{tc:TT}(hc:PT X c tc)(ha:PSs X a t)(hb:PSs X b u):PS X (.If c a b pos) (o2 tc t u):=by
 intro pins s σ H D I h;refine wpAny_If (thn (hc pins s σ H _ I h) λ d s1 ⟨H1,I1,q1⟩=>?_);cases d with
 |true=>exact ha pins s1 σ H1 D I1 q1
 |false=>exact hb pins s1 σ H1 D I1 q1
end
abbrev TG:=V->St->Hp->(St->Hp->Prop)->Prop
abbrev TGs:=List V->St->Hp->(St->Hp->Prop)->Prop
def PG (X:Cx)(target:Expr)(t:TG):Prop:=
 ∀ (pins:List 0#18) (s:Shared) (σ:St) (H:Hp) (v:V) (u:Value) (Q:St->Hp->Prop),Inv X pins σ H s->RelV v u->t v σ H Q ->
  wpAny 0#3 X.A (assign target X.env u) (λ _ s'=>∃ σ' H',Inv X pins σ' H' s'/\Q σ' H') X.xe s
def PGs (X:Cx)(ts:List Expr)(t:TGs):Prop:=
 ∀ (pins:List 0#18) (s:Shared) (σ:St) (H:Hp) (vs:List V) (us:List Value) (Q:St->Hp->Prop),Inv X pins σ H s->Vals vs us->t vs σ H Q ->
  wpAny 0#3 X.A (assignInOrder ((assignEach ts X.env).map (·.2)) us) (λ _ s'=>∃ σ' H',Inv X pins σ' H' s'/\Q σ' H') X.xe s
abbrev w6:=V->V->V->Hp->(Hp->Prop)->Prop
def A3 (X:Cx)(t:w6):Prop:=
 ∀ (pins:List 0#18) (s:Shared) (σ:St) (H:Hp) (o i v:V) (ov iv u:Value) (Q:Hp->Prop),Inv X pins σ H s->RelV o ov->RelV i iv->RelV v u->t o i v H Q ->
  wpAny 0#3 X.A (setItem ov iv u) (λ _ s'=>∃ H',Inv X pins σ H' s'/\Q H') X.xe s
abbrev TIp:=V->V->Hp->VK->Prop
def PIp (X:Cx)(op:Operator)(t:TIp):Prop:=
 ∀ (pins:List 0#18) (s:Shared) (σ:St) (H:Hp) (x y:V) (v u:Value) (Q:VK),Inv X pins σ H s->RelV x v->RelV y u->t x y H Q ->
  wpAny 0#3 X.A (inplaceOp op v u) 0#53 X.xe s
section
variable {X:Cx}{pos:Pos}
def c5 (i:Nat):TG:=λ v σ H Q=>Q 0#79 H
def gI {i:Nat}{x:Str}(hN:X.N.Nodup)(hi:X.N[i]?=some x)(hx:Loc X.env.scope x)(hf:autoParam 0#46 ZB._auto_1):PG X 1#41 (c5 i):=by
 intro pins s σ H v u Q I r h;exact wpAny_assign_Name (gz I hN hi hx r (λ s' I'=>⟨_,H,I',h⟩) hf)
def Cf:TGs:=λ vs σ H Q=>vs=[]/\Q σ H
def zQ (t:TG)(u:TGs):TGs:=λ vs σ H Q=>∃ v r,vs=v::r/\t v σ H λ σ' H'=>u r σ' H' Q
def rC:PGs X [] Cf:=by
 intro pins s σ H vs us Q I r h;obtain⟨e,h⟩:=h;subst e;cases r;exact assignInOrder_nil ⟨σ,H,I,h⟩
def mK {e:Expr}{es:List Expr}{t:TG}{u:TGs}(h1:PG X e t)(h2:PGs X es u)
  (hs:autoParam ((assignEach (e::es) X.env).map (·.2)=assign e X.env::(assignEach es X.env).map (·.2)) ZF._auto_1):PGs X (e::es) (zQ t u):=by
 intro pins s σ H vs us Q I r h;obtain⟨v,vr,e1,h⟩:=h;subst e1;cases r with
 |cons r rr=>
  rw[hs];refine assignInOrder_cons (thn (h1 pins s σ H _ _ _ I r h) λ _ s1 ⟨σ1,H1,I1,q1⟩=>?_);exact h2 pins s1 σ1 H1 _ _ Q I1 rr q1
def BV (K:GA)(n:Nat)(t:TGs):TG:=λ v σ H Q=>∃ a xs,v=.ref a/\SqT K H a xs/\xs.length=n/\t xs σ H Q
def uT {es:List Expr}{k:Nat}{t:TGs}{n:Nat}(hc:X.calm=true)(h:PGs X es t)
  (hn:autoParam ((assignEach es X.env).length=n) ZF._auto_1) (hst:autoParam ((assignEach es X.env).findIdx? (·.1)=none) ZF._auto_1):PG X (.Tuple es k pos) (BV X.K n t):=by
 intro pins s σ H v u Q I r hw;obtain⟨a,xs,e1,hq,hl,hw⟩:=hw;subst e1;cases r;obtain⟨its,rv,ht,hz⟩:=I.tuple hq;refine assign_Tuple_tuple 1#75 ht (by simp[hn,<- hl,rv.length]) hst λ h' hx=>?_
 have I1:Inv X pins σ H { s with heap:=h' }:=I.kept (t':=s.toks) λ b o e=>hx b o (Dy (GE e)) e
 exact h pins _ σ H xs _ Q I1 (by simpa using rv) hw
def Cn (to ti:TE)(t:w6):TG:=λ v σ H Q=>to σ H λ o H1=>ti σ H1 λ i H2=>t o i v H2 λ H3=>Q σ H3
def u4 {o i:Expr}{to ti:TE}{t:w6}(ho:PE X o to)(hi:PE X i ti)(hs:A3 X t)
  (ha:autoParam (∀ v,assign (.Subscript o i pos) X.env v=(do
   let ov <- holding [v] 2#56
   let iv <- holding [v,ov] (eval i X.env)
   standAt pos
   holding [v,ov,iv] (setItem ov iv v)
   release [v,ov,iv] [])) ZE._auto_1):PG X (.Subscript o i pos) (Cn to ti t):=by
 intro pins s σ H v u Q I r h;rw[ha];refine GB (G9 (thn 1#73 λ ov s1 ⟨x,H1,I1,r1,q1⟩=>?_));refine GB (G9 (thn (hi pins s1 σ H1 _ I1 q1) λ iv s2 ⟨y,H2,I2,r2,q2⟩=>?_));refine GB (JI (GB (G9 (thn (hs pins s2 σ H2 x y v ov iv u _ I2 r1 r2 r q2) λ _ s3 ⟨H3,I3,q3⟩=>?_))));exact wpAny_release ⟨σ,H3,I3,q3⟩
def g0 (te:TE)(g:TG):TS:=λ D σ H=>te σ H λ x H1=>g x σ H1 D.nx
def xE {tg e:Expr}{te:TE}{g:TG}(he:PE X e te)(hg:PG X tg g)(hs:autoParam (swapsWithSole [tg] e pos.line X.env=pure false) ZF._auto_1)(hw:autoParam (swappedStores [tg] e X.env=pure none) ZF._auto_1)
  (h1:autoParam ((assignEach [tg] X.env).map (·.2)=[assign tg X.env]) ZF._auto_1):PS X (.Assign [tg] e pos) (g0 te g):=by
 intro pins s σ H D I h;refine wpAny_Assign_stores (thn 0#62 λ v s1 ⟨x,H1,I1,r1,q1⟩=>?_) hs hw;rw[h1];exact thn (hg pins s1 σ H1 x v _ I1 r1 q1) λ _ s2 q=>q
def bZ {i:Nat}{x:Str}{e:Expr}{te:TE}{pos':Pos}(hN:X.N.Nodup)(hi:X.N[i]?=some x)(hx:Loc X.env.scope x)(he:PE X e te)(hs:autoParam (swapsWith e (some 1#42) pos.line X.env=pure false) ZF._auto_1)(hf:autoParam 0#46 ZB._auto_1):
  PS X 1#16 (g0 te (c5 i)):=by
 intro pins s σ H D I h;refine wpAny_Assign_Name (thn 0#62 λ v s1 ⟨y,H1,I1,r1,q1⟩=>?_) hs;exact gz I1 hN hi hx r1 (λ s2 I2=>⟨_,H1,I2,q1⟩) hf
def CU (i:Nat)(te:TE)(ti:TIp):TS:=λ D σ H=>∃ x,σ[i]?=some (some x)/\te σ H λ y H1=>ti x y H1 λ z H2=>D.nx (σ.set i (some z)) H2
def A0 {i:Nat}{x:Str}{e:Expr}{te:TE}{op:Operator}{ti:TIp}{pos':Pos}(hN:X.N.Nodup)(hi:X.N[i]?=some x)(hx:Loc X.env.scope x)(he:PE X e te)(ho:PIp X op ti)(hf:autoParam 0#46 ZB._auto_1):
  PS X (.AugAssign 1#42 op e pos) (CU i te ti):=by
 intro pins s σ H D I h;obtain⟨v,e1,h⟩:=h;obtain⟨m,hn,hl⟩:=I.loc;have vis:Vis X.env.scope x:=by rcases hx with k|k;exact .inl k;exact .inr (.inl k)
 obtain⟨u,r,l⟩:=hl i x v hi e1 vis;refine wpAny_AugAssign_Name ?_
 have go:wpAny 0#3 X.A (eval e X.env) (λ w s₂=>wpAny 0#3 X.A (inplaceOp op u w) (λ r s₃=>wpAny 0#3 X.A (storeName X.env x r) (λ _=>SP X pins D .next) X.xe s₃) X.xe s₂) X.xe s:=by
  refine thn 0#62 λ w s1 ⟨y,H1,I1,r1,q1⟩=>?_
  refine thn (ho pins s1 σ H1 v y u w _ I1 r r1 q1) λ z s2 ⟨zv,H2,I2,r2,q2⟩=>?_
  exact gz I2 hN hi hx r2 (λ s3 I3=>⟨_,H2,I3,q2⟩) hf
 rcases l with ⟨hk,hm⟩|⟨hk,c,hc,hcell⟩
 ·exact JB I.ok.kind hk hn hm go
 ·rcases hk with hk|hk
  ·exact JO I.ok.kind hk hc hcell go
  ·rcases hx with k|k
   ·have:X.env.scope.names.lookup x=some .free:=hk
    rw[k] at this;cases this
   ·have:X.env.scope.names.lookup x=some .free:=hk
    rw[k] at this;cases this
def BI (to ti te:TE)(tget:V->V->Hp->VK->Prop)(tip:TIp)(tset:w6):TS:=λ D σ H=>to σ H λ o H1=>ti σ H1 λ i H2=>tget o i H2 λ x H3=>te σ H3 λ y H4=>tip x y H4 λ z H5=>tset o i z H5 λ H6=>D.nx σ H6
def B2 (X:Cx)(t:V->V->Hp->VK->Prop):Prop:=
 ∀ (pins:List 0#18) (s:Shared) (σ:St) (H:Hp) (o i:V) (ov iv:Value) (Q:VK),Inv X pins σ H s->RelV o ov->RelV i iv->t o i H Q ->
  wpAny 0#3 X.A (getItem ov iv) 0#53 X.xe s
def zt {o i e:Expr}{to ti te:TE}{tget:V->V->Hp->VK->Prop}{tip:TIp}{tset:w6}{op:Operator}{tpos:Pos}(ho:PE X o to)(hi:PE X i ti)(hg:B2 X tget)(he:PE X e te)(hp:PIp X op tip)(hs:A3 X tset)
  (ha:autoParam (∀ ov iv new,augStore i ov iv new=(do holding [new,ov,iv] (setItem ov iv new);release [new,ov,iv] [];pure .next)) ZG._auto_1):PS X (.AugAssign (.Subscript o i tpos) op e pos) (BI to ti te tget tip tset):=by
 intro pins s σ H D I h;refine wpAny_AugAssign_SubscriptAny (thn 1#73 λ ov s1 ⟨x1,H1,I1,r1,q1⟩=>?_) ha;refine thn (hi pins s1 σ H1 _ I1 q1) λ iv s2 ⟨x2,H2,I2,r2,q2⟩=>?_
 refine thn (hg pins s2 σ H2 x1 x2 ov iv _ I2 r1 r2 q2) λ old s3 ⟨x3,H3,I3,r3,q3⟩=>?_
 refine thn (he pins s3 σ H3 _ I3 q3) λ v s4 ⟨x4,H4,I4,r4,q4⟩=>?_
 refine thn (hp pins s4 σ H4 x3 x4 old v _ I4 r3 r4 q4) λ new s5 ⟨x5,H5,I5,r5,q5⟩=>?_
 exact thn (hs pins s5 σ H5 x1 x2 x5 ov iv new _ I5 r1 r2 r5 q5) λ _ s6 ⟨H6,I6,q6⟩=>⟨σ,H6,I6,q6⟩
def ipI (f:Int->Int->Int):TIp:=λ x y H Q=>∃ i j,x=.int i/\y=.int j/\Q (.int (f i j)) H
def u7:PIp X .Sub (ipI λ i j=>i-j):=by
 intro pins s σ H x y v u Q I r1 r2 h;obtain⟨i,j,e1,e2,q⟩:=h;subst e1;subst e2;obtain⟨t,rfl⟩:=r1;obtain⟨t',rfl⟩:=r2;exact isub_int ⟨.int _,H,I.tok _,⟨_,rfl⟩,q⟩
end
section
variable {X:Cx}{pos:Pos}
def pN (c:TT)(tb:TS):TS:=λ D σ H=>∃ W:Nat->St->Hp->Prop,(∃ m,W m σ H)/\∀ m σ H,W m σ H ->
 c σ H λ b H1=>if b=true then ∃ N:St->Hp->Prop,(∀ σ' H',N σ' H'->∃ m',m'<m/\W m' σ' H')/\tb { D with nx:=N,ct:=N,bk:=D.nx } σ H1 else D.nx σ H1
def jR {c:Expr}{body:List Stmt}{tc:TT}{tb:TS}(hp:PassesOwn 0#3 X.A X.env X.xe)(hc:PT X c tc)(hb:PSs X body tb):PS X (.While c body [] pos) (pN tc tb):=by
 intro pins s σ H D I h;obtain⟨W,⟨m0,w0⟩,turn⟩:=h;refine wpAny_While (codeAny_whileLoop (λ n s'=>∃ σ' H',Inv X pins σ' H' s'/\W n σ' H') ?_ m0 ⟨σ,H,I,w0⟩)
 rintro n s1 ⟨σ1,H1,I1,w1⟩
 refine Hu hp (thn (hc pins s1 σ1 H1 _ I1 (turn n σ1 H1 w1)) λ b s2 ⟨H2,I2,q2⟩=>?_);cases b with
 |true=>
  obtain⟨N,hN,q2⟩:=q2;rw[if_pos rfl];refine Hu hp (thn (hb pins s2 σ1 H2 _ I2 q2) λ f s3 q3=>?_);cases f with
  |next=>
   obtain⟨σ3,H3,I3,n3⟩:=q3;obtain⟨m',hm,w3⟩:=hN σ3 H3 n3;exact⟨m',hm,σ3,H3,I3,w3⟩
  |cont=>
   obtain⟨σ3,H3,I3,n3⟩:=q3;obtain⟨m',hm,w3⟩:=hN σ3 H3 n3;exact⟨m',hm,σ3,H3,I3,w3⟩
  |brk=>exact q3
  |ret v=>exact q3
 |false=>
  rw[if_neg DB];exact HZ ⟨σ1,H2,I2,q2⟩
end
structure It where
 go:Nat->Hp->Prop
 yld:Nat->Hp->V->Hp->Prop
 stop:Nat->Hp->Prop
def jH (X:Cx)(pins:List 0#18)(H:Hp)(b:Addr):Prop:=
 H b=none/\b≠X.env.locals/\b∉X.fs/\1#29/\0#90/\∀ p∈X.pn++pins,p.1≠b
def Inv.fpOk {X:Cx}{pins:List (Addr×Obj)}{σ:St}{H H':Hp}{s:Shared}{b:Addr}(I:Inv X pins σ H s)(hb:s.heap.objs.size<=b)(hn:H' b=none):jH X pins H' b:=by
 refine⟨hn,E7 (DG I.lt hb),I.nofs hb,.inr (D4 I.sz hb),λ x c e z=>?_,λ p hp z=>?_⟩
 ·obtain⟨v,q⟩:=I.cell x c e
  exact absurd (DG q.lt (by rw[z];exact hb)) (D0 _)
 ·exact absurd (DG (GE (I.pin p hp).1) (by rw[z];exact hb)) (D0 _)
structure Turn (P:Program)(w:World)(K:GA)(tg:Expr)(J:It)(fp:List Addr)(it:Addr)(tn:Nat->Heap->Prop):Prop where
 mem:it∈fp
 obj:∀ i h,tn i h->∀ b∈fp,∃ o,h.get? b=some o/\∀ v,o.data≠.cell v
 keep:∀ i h h',tn i h->(∀ b∈fp,∀ o,h.get? b=some o->h'.get? b=some o)->tn i h'
 item:∀ (X:Cx),X.prog=P->X.w=w->X.K=K->X.calm=true->∀ (i:Nat) (pins:List 0#18) (s:Shared) (σ:St) (H:Hp) (E:Value->Shared->Prop),Inv X pins σ H s->(∀ b∈fp,jH X pins H b)->tn i s.heap->J.go i H ->
  wpAny 2#16 X.A (pyNext 2#74) (λ r s1=>∃ u,r=some u /\
   wpAny 2#16 X.A (letOwnedTupleGo tg 2#74 u) (λ _ s2=>∃ x H',Inv X pins σ H' s2/\RelV x u/\J.yld i H x H'/\tn (i+1) s2.heap/\∀ b∈fp,H' b=none) E s1) E s
 done:∀ (X:Cx),X.prog=P->X.w=w->X.K=K->X.calm=true->∀ (i:Nat) (pins:List 0#18) (s:Shared) (σ:St) (H:Hp) (E:Value->Shared->Prop),Inv X pins σ H s->(∀ b∈fp,jH X pins H b)->tn i s.heap->J.stop i H ->
  wpAny 2#16 X.A (pyNext 2#74) (λ r s1=>r=none/\Inv X pins σ H s1) E s
 self:∀ (A:Around) (i:Nat) (s:Shared) (Q:Value->Shared->Prop) (E:Value->Shared->Prop),tn i s.heap->Q 2#74 s->wpAny 2#16 A (pyIter 2#74) Q E s
abbrev TI:=St->Hp->(It->Hp->Prop)->Prop
def PIE (X:Cx)(pins:List 0#18)(σ:St)(tg:Expr)(R:It->Hp->Prop)(itv:Value)(s2:Shared):Prop:=
 ∃ (it:Addr) (fp:List Addr) (tn:Nat->Heap->Prop) (J:It) (H':Hp),itv=.ref it/\Inv X pins σ H' s2/\Turn X.prog X.w X.K tg J fp it tn/\tn 0 s2.heap/\(∀ b∈fp,jH X pins H' b)/\R J H'
def PI (X:Cx)(tg iter:Expr)(wi:TI):Prop:=
 ∀ (pins:List 0#18) (s:Shared) (σ:St) (H:Hp) (R:It->Hp->Prop),Inv X pins σ H s->wi σ H R ->
  wpAny 0#3 X.A (eval iter X.env) (λ v s1=>wpAny 0#3 X.A (pyIter v) (PIE X pins σ tg R) X.xe s1) X.xe s
def wg {M:Model}{A:Around}{E:Value->Shared->Prop}{s:Shared}{tg:Expr}{it:Addr}{u:Value}{o:Obj}{n:String}{vs:Array Value}{Q:Unit->Shared->Prop}(ho:s.heap.get? it=some o)(hc:o.cls=.type n)(hd:o.data=.fields vs)
    (hn:["enumerate","zip","dict_itemiterator","dict_reverseitemiterator","odict_iterator","itertools.zip_longest","itertools.pairwise"].contains n=false) (hQ:Q () s):wpAny M A (letOwnedTupleGo tg 2#74 u) Q E s:=by
  unfold letOwnedTupleGo;cases tg <;>first
    |exact GD hQ
    | (cases u <;>first
        |exact GD hQ
        | (refine GB (wpAny_load ho ?_)
           rw[hc,hd];show wpAny M A (if (["enumerate","zip","dict_itemiterator","dict_reverseitemiterator","odict_iterator","itertools.zip_longest","itertools.pairwise"].contains n&&vs[0]? == some (rawInt _))=true then _ else _) Q E s
           rw[if_neg (by intro h;rw[hn,Eo] at h;cases h)];exact GD hQ))
def Itl (K:GA)(a:Addr):It:=
 ⟨λ i H=>∃ xs x,SqL K H a xs/\xs[i]?=some x,λ i H x H'=>H'=H/\∀ xs,SqL K H a xs->xs[i]?=some x,λ i H=>∃ xs,SqL K H a xs/\xs.length<=i⟩
def Itr (lo:Int)(n:Nat):It:=⟨λ i _=>i<n,λ i H x H'=>H'=H/\x=.int (lo+i),λ i _=>n<=i⟩
def sM {P:Program}{w:World}{K:GA}{tg:Expr}(a it:Addr):Turn P w K tg (Itl K a) [it] it (λ i h=>h.IsListIter it a i) where
 mem:=by simp
 obj:=λ i h st b hb=>by
  have e:b=it:=by simpa using hb
  subst e;obtain⟨o,e,c,d⟩:=st;exact⟨o,e,λ v z=>by rw[d] at z;cases z⟩
 keep:=λ i h h' st k=>st.at λ o e=>k it 0#5 o e
 item:=by
  intro X hP hw hK hc i pins s σ H E I hf st hg;subst hP hw hK;obtain⟨xs,x,hq,hx⟩:=hg;obtain⟨its,rv,p,hz⟩:=I.list hq;obtain⟨u,hu,ru⟩:=rv.get hx;obtain⟨f0,f1,f2,f3,f4,f5⟩:=hf it 0#5;refine Ji st p.isList (x:=u) (by simpa using hu) λ h' st' sb=>?_
  have I1:Inv X pins σ H { s with heap:=h' }:=I.turned (t':=s.toks) (λ b o hb e=>(sb.2 b hb).trans e) f0 f1 f3 f4 f5;obtain⟨o,e,c,d⟩:=id st';exact⟨u,rfl,wg (s:={ s with heap:=h' }) e c d 0#2 ⟨x,H,I1,ru,⟨rfl,λ ys hy=>by rw[I.list_inj hy hq];exact hx⟩,st',λ b hb=>(hf b hb).1⟩⟩
 done:=by
  intro X hP hw hK hc i pins s σ H E I hf st hg;subst hP hw hK;obtain⟨xs,hq,hx⟩:=hg;obtain⟨its,rv,p,hz⟩:=I.list hq;obtain⟨f0,f1,f2,f3,f4,f5⟩:=hf it 0#5;have hl:=rv.length;exact Js 1#75 st p.isList 0#31 λ h' eb=>⟨rfl,I.turned (t':=s.toks) (λ b o hb e=>eb b o hb e) f0 f1 f3 f4 f5⟩
 self:=λ _ _ _ _ _ st h=>wpAny_pyIter_listiter st h
def p6 {P:Program}{w:World}{K:GA}{tg:Expr}(it:Addr)(lo:Int)(n:Nat):Turn P w K tg (Itr lo n) [it] it (λ i h=>IsRangeIter h it (lo+(i:Nat)*1) ((n:Int)-(i:Nat)) 1) where
 mem:=by simp
 obj:=λ i h st b hb=>by
  have e:b=it:=by simpa using hb
  subst e;exact⟨_,st,λ v z=>by
   have z':Data.fields _=Data.cell v:=z;cases z'⟩
 keep:=λ i h h' st k=>k it 0#5 _ st
 item:=by
  intro X hP hw hK hc i pins s σ H E I hf st hg;subst hP hw hK;obtain⟨f0,f1,f2,f3,f4,f5⟩:=hf it 0#5;have W:=Walks.range (prog:=X.prog) (w:=X.w) 1#75 it lo 1 n;refine W.item i s _ _ hg st λ v h' tk hv st' kk=>?_
  obtain⟨t,rfl⟩:=hv;have I1:Inv X pins σ H { s with heap:=h',toks:=tk }:=I.turned (λ b o hb e=>kk b o (by simpa using hb) e) f0 f1 f3 f4 f5;refine⟨_,rfl,wg (s:={ s with heap:=h',toks:=tk }) (n:="range_iterator") st' rfl rfl 0#2 ⟨.int (lo+i),H,I1,⟨t,?_⟩,⟨rfl,rfl⟩,st',λ b hb=>(hf b hb).1⟩⟩;rw[Gw]
 done:=by
  intro X hP hw hK hc i pins s σ H E I hf st hg;subst hP hw hK;obtain⟨f0,f1,f2,f3,f4,f5⟩:=hf it 0#5;exact Jj 1#75 st (by have:n<=i:=hg;omega) λ h' eb=>⟨rfl,I.turned (t':=s.toks) (λ b o hb e=>eb b o hb e) f0 f1 f3 f4 f5⟩
 self:=λ _ _ _ _ _ st h=>Jl st h
section
variable {X:Cx}{tg:Expr}
def zP (K:GA)(tl:TE):TI:=λ σ H R=>tl σ H λ x H1=>∃ a,x=.ref a/\(∃ xs,SqL K H1 a xs)/\R (Itl K a) H1
def qO {l:Expr}{tl:TE}(hl:PE X l tl):PI X tg l (zP X.K tl):=by
 intro pins s σ H R I h;refine thn (hl pins s σ H _ I h) λ v s1 ⟨x,H1,I1,r1,q1⟩=>?_
 obtain⟨a,e,⟨xs,hq⟩,q⟩:=q1;subst e;cases r1;obtain⟨its,rv,p,hz⟩:=I1.list hq;refine Il p.isList ?_
 refine⟨s1.heap.objs.size,[s1.heap.objs.size],_,_,H1,rfl,I1.kept (t':=s1.toks) λ b o e=>GC _ e,sM a _,⟨_,GF _ rfl,rfl,rfl⟩,λ b hb=>?_,q⟩;have e:b=s1.heap.objs.size:=by simpa using hb
 subst e;exact I1.fpOk (Du _) (I1.hok.fresh (Du _))
def nU {pins:List (Addr×Obj)}{σ:St}{H:Hp}{s:Shared}{R:It->Hp->Prop}{E:Value->Shared->Prop}{lo hi:Int}{t u v:Tok}{tk:Nat}(I:Inv X pins σ H s)(h1:-(2 ^ 62)<=lo)(h2:lo<2 ^ 62)(h3:-(2 ^ 62)<=hi)(h4:hi<2 ^ 62)
  (q:R (Itr lo (hi-lo).toNat) H):wpAny 0#3 X.A (pyIter 1#0) (PIE X pins σ tg R) E { s with heap:=s.heap.push { cls:=.type "range",data:=.fields #[.int lo t,.int hi u,.int 1 v] },toks:=tk }:=by
 refine JZ (Ke ..) (small_one h1 h2 h3 h4) ?_
 have I1:Inv X pins σ H { s with heap:=s.heap.push { cls:=.type "range",data:=.fields #[.int lo t,.int hi u,.int 1 v] },toks:=tk }:=I.kept λ b o e=>GC _ e
 refine⟨(s.heap.push { cls:=.type "range",data:=.fields #[.int lo t,.int hi u,.int 1 v] }).objs.size,[(s.heap.push { cls:=.type "range",data:=.fields #[.int lo t,.int hi u,.int 1 v] }).objs.size],_,_,H,rfl,
  I1.kept (t':=tk) λ b o e=>GC _ e,p6 _ lo (hi-lo).toNat,?_,λ b hb=>?_,q⟩
 ·have e1:lo+((0:Nat):Int)*1=lo:=by simp
  have e2:(((hi-lo).toNat:Nat):Int)-((0:Nat):Int)=Hl lo hi 1:=by rw[rangeSize_one];split <;>omega
  show IsRangeIter _ _ (lo+((0:Nat):Int)*1) ((((hi-lo).toNat:Nat):Int)-((0:Nat):Int)) 1
  rw[e1,e2];exact GF _ rfl
 ·have e:b=(s.heap.push { cls:=.type "range",data:=.fields #[.int lo t,.int hi u,.int 1 v] }).objs.size:=by simpa using hb
  subst e;exact I1.fpOk (Du _) (I1.hok.fresh (Du _))
def B5 (ta:TA):TI:=λ σ H R=>ta σ H λ vs H1=>∃ j:Int,vs=[.int j]/\-(2 ^ 62)<=j/\j<2 ^ 62/\R (Itr 0 j.toNat) H1
def Cj (ta:TA):TI:=λ σ H R=>ta σ H λ vs H1=>∃ i j:Int,vs=[.int i,.int j]/\(-(2 ^ 62)<=i/\i<2 ^ 62/\-(2 ^ 62)<=j/\j<2 ^ 62)/\R (Itr i (j-i).toNat) H1
def sS {a:Expr}{ta:TA}{p pos:Pos}(hg:Gl X "range")(hm:X.mg "range"=none)(ha:PA X [a] ta)(hs:autoParam (starEach [a] X.env=[1#1]) ZF._auto_1):PI X tg (.Call 1#97 [a] [] pos) (B5 ta):=by
 intro pins s σ H R I h;refine Call_ (cY I hg hm JC (GT (thn 0#66 λ us s1 ⟨vs,H1,I1,r1,q1⟩=>?_) hs rfl));obtain⟨j,e,q1,q2,q⟩:=q1;subst e;cases r1 with
 |cons r rr=>
  cases rr;obtain⟨t,rfl⟩:=r;exact call_range_1 (nU I1 ⋯ ⋯ q1 q2 (by simpa using q))
def uN {a b:Expr}{ta:TA}{p pos:Pos}(hg:Gl X "range")(hm:X.mg "range"=none)(ha:PA X [a,b] ta)(hs:autoParam (starEach [a,b] X.env=[1#1,(false,eval b X.env)]) ZF._auto_1)(hs2:autoParam (starEach [b] X.env=[(false,eval b X.env)]) ZF._auto_1):
  PI X tg (.Call 1#97 [a,b] [] pos) (Cj ta):=by
 intro pins s σ H R I h;refine Call_ (cY I hg hm JC (GT (thn 0#66 λ us s1 ⟨vs,H1,I1,r1,q1⟩=>?_) (by rw[hs,hs2]) (by rw[hs2];rfl)));obtain⟨i,j,e,⟨q1,q2,q3,q4⟩,q⟩:=q1;subst e;cases r1 with
 |cons r rr=>
  cases rr with
  |cons r' rr=>
   cases rr;obtain⟨t,rfl⟩:=r;obtain⟨t',rfl⟩:=r';exact call_range_2 (nU I1 q1 q2 q3 q4 q)
def BW (wi:TI)(g:TG)(tb:TS):TS:=λ D σ H=>wi σ H λ J H1=>∃ W:Nat->Nat->St->Hp->Prop,(∃ m,W 0 m σ H1)/\∀ i m σ H,W i m σ H ->
 (J.stop i H/\D.nx σ H)\/(J.go i H/\∃ N:St->Hp->Prop,(∀ σ' H',N σ' H'->∃ m',m'<m/\W (i+1) m' σ' H')/\∀ x H',J.yld i H x H'->g x σ H' λ σ2 H2=>tb { D with nx:=N,ct:=N,bk:=D.nx } σ2 H2)
def jb (fp:List Addr)(h:Heap):List 0#18:=fp.filterMap λ b=>(h.get? b).map λ o=>(b,o)
def dJ {fp:List Addr}{h:Heap}{b:Addr}{o:Obj}(hb:b∈fp)(e:h.get? b=some o):(b,o)∈jb fp h:=List.mem_filterMap.mpr ⟨b,hb,by rw[e];rfl⟩
def uu {fp:List Addr}{h:Heap}{p:Addr×Obj}(hp:p∈jb fp h):p.1∈fp/\h.get? p.1=some p.2:=by
 obtain⟨b,hb,e⟩:=List.mem_filterMap.mp hp;cases q:h.get? b with
 |none=>rw[q] at e;cases e
 |some o=>
  rw[q] at e;have e':(b,o)=p:=Option.some.inj e;subst e';exact⟨hb,q⟩
def Inv.pinned {pins:List (Addr×Obj)}{σ:St}{H:Hp}{s:Shared}{fp:List Addr}(I:Inv X pins σ H s)(hf:∀ b∈fp,jH X pins H b)(ho:∀ b∈fp,∃ o,s.heap.get? b=some o/\∀ v,o.data≠.cell v):Inv X (pins++jb fp s.heap) σ H s:=
 I.pins_of λ p hp=>(List.mem_append.mp hp).elim (λ z=>I.pin p (DF _ z)) λ z=>by
  obtain⟨hb,e⟩:=uu z;obtain⟨f0,f1,f2,_⟩:=hf p.1 hb;obtain⟨o,e',d⟩:=ho p.1 hb;rw[e] at e';cases e';exact⟨e,f0,f1,f2,d⟩
def Inv.unpinned {pins pl:List (Addr×Obj)}{σ:St}{H:Hp}{s:Shared}(I:Inv X (pins++pl) σ H s):Inv X pins σ H s:=I.pins_of λ p hp=>I.pin p (DF _ (DP _ hp))
def pI {iter:Expr}{body:List Stmt}{wi:TI}{g:TG}{tb:TS}{pos:Pos}(hp:PassesOwn 0#3 X.A X.env X.xe)(hc:X.calm=true)(hi:PI X tg iter wi)(hg:PG X tg g)(hb:PSs X body tb)
  (hs:autoParam (∀ x,foldedSetIterable iter X.env x=pure x) ZE._auto_1):PS X (.For tg iter body [] pos) (BW wi g tb):=by
 intro pins s σ H D I h;refine wpAny_For (thn (hi pins s σ H _ I h) λ v s1 h1=>thn h1 λ itv s2 h2=>?_) hs;obtain⟨it,fp,tn,J,H2,e,I2,T,st2,f2,W,⟨m0,w0⟩,turn⟩:=h2;subst e;have stat:∀ {H':Hp},(∀ b∈fp,H' b=none)->∀ b∈fp,jH X pins H' b:=λ hn b hb=>⟨hn b hb,(f2 b hb).2⟩
 refine codeAny_forLoop_any (λ n s'=>∃ i σ' H',Inv X pins σ' H' s'/\tn i s'.heap/\(∀ b∈fp,H' b=none)/\W i n σ' H') ?_ m0 ⟨0,σ,H2,I2,st2,λ b hb=>(f2 b hb).1,w0⟩
 rintro n s3 ⟨i,σ3,H3,I3,st3,fr3,w3⟩
 rcases turn i n σ3 H3 w3 with ⟨stop,qn⟩|⟨go,N,hN,step⟩
 ·refine Hu hp (thn (T.done X rfl rfl rfl hc i pins s3 σ3 H3 X.xe I3 (stat fr3) st3 stop) λ r s4 ⟨hr,I4⟩=>?_)
  subst hr;exact HZ ⟨σ3,H3,I4,qn⟩
 ·refine Hu hp (thn (T.item X rfl rfl rfl hc i pins s3 σ3 H3 X.xe I3 (stat fr3) st3 go) λ r s4 ⟨u,hr,h4⟩=>?_)
  subst hr;refine Hu hp (thn h4 λ _ s5 ⟨x,H5,I5,r5,y5,st5,fr5⟩=>?_);have I5':=I5.pinned (stat fr5) (T.obj _ _ st5);refine Hu hp (thn (hg _ s5 σ3 H5 x u _ I5' r5 (step x H5 y5)) λ _ s6 ⟨σ6,H6,I6,q6⟩=>?_);refine Hu hp (thn (hb _ s6 σ6 H6 _ I6 q6) λ f s7 q7=>?_);have again:∀ {σ7:St} {H7:Hp},Inv X (pins++jb fp s5.heap) σ7 H7 s7->N σ7 H7->∃ m,m<n/\∃ i σ' H',Inv X pins σ' H' s7/\tn i s7.heap/\(∀ b∈fp,H' b=none)/\W i m σ' H':=λ {σ7 H7} I7 n7=>by
   obtain⟨m',hm,w7⟩:=hN σ7 H7 n7;refine⟨m',hm,i+1,σ7,H7,I7.unpinned,T.keep _ _ _ st5 λ b hb o e=>(I7.pin (b,o) 2#15).1,λ b hb=>?_,w7⟩;obtain⟨o,e,d⟩:=T.obj _ _ st5 b hb;exact(I7.pin (b,o) 2#15).2.1
  cases f with
  |next=>obtain⟨σ7,H7,I7,n7⟩:=q7;exact again I7 n7
  |cont=>obtain⟨σ7,H7,I7,n7⟩:=q7;exact again I7 n7
  |brk=>obtain⟨σ7,H7,I7,q7⟩:=q7;exact⟨σ7,H7,I7.unpinned,q7⟩
  |ret v=>obtain⟨x7,σ7,H7,I7,r7,q7⟩:=q7;exact⟨x7,σ7,H7,I7.unpinned,r7,q7⟩
end
def vM {K:GA}{a:Addr}{xs:List V}{g:TG}{tb:TS}{D:Ends}{σ:St}{H:Hp}(Pv:Nat->St->Hp->Prop)(h0:Pv 0 σ H)(hl:∀ i σ H,i<=xs.length->Pv i σ H->SqL K H a xs)
  (hs:∀ i x σ H,xs[i]?=some x->Pv i σ H->g x σ H λ σ2 H2=>tb { D with nx:=Pv (i+1),ct:=Pv (i+1),bk:=D.nx } σ2 H2) (hd:∀ σ H,Pv xs.length σ H->D.nx σ H):
  ∃ W:Nat->Nat->St->Hp->Prop,(∃ m,W 0 m σ H)/\∀ i m σ H,W i m σ H ->
   ((Itl K a).stop i H/\D.nx σ H)\/((Itl K a).go i H/\∃ N:St->Hp->Prop,(∀ σ' H',N σ' H'->∃ m',m'<m/\W (i+1) m' σ' H')/\∀ x H',(Itl K a).yld i H x H'->g x σ H' λ σ2 H2=>tb { D with nx:=N,ct:=N,bk:=D.nx } σ2 H2):=by
 refine⟨λ i m σ H=>m=xs.length-i/\i<=xs.length/\Pv i σ H,⟨xs.length,by simp,D7 _,h0⟩,?_⟩
 rintro i m σ H ⟨rfl,hi,p⟩
 have q:=hl i σ H hi p;by_cases hlt:i<xs.length
 ·refine .inr ⟨⟨xs,xs[i],q,by simp[hlt]⟩,Pv (i+1),λ σ' H' p'=>⟨xs.length-(i+1),⋯,rfl,hlt,p'⟩,λ x H' y=>?_⟩
  obtain⟨e,y⟩:=y;subst e;exact hs i x σ _ (y xs q) p
 ·have e:i=xs.length:=⋯
  subst e;exact .inl ⟨⟨xs,q,Du _⟩,hd σ H p⟩
abbrev R2:=V->V->Hp->VK->Prop
def OpR (X:Cx)(f:Value->Value->Sem Value)(r:R2):Prop:=
 ∀ (pins:List 0#18) (s:Shared) (σ:St) (H:Hp) (x y:V) (v u:Value) (Q:VK),Inv X pins σ H s->RelV x v->RelV y u->r x y H Q ->
  wpAny 0#3 X.A (f v u) 0#53 X.xe s
def UnR (X:Cx)(f:Value->Sem Value)(r:V->Hp->VK->Prop):Prop:=
 ∀ (pins:List 0#18) (s:Shared) (σ:St) (H:Hp) (x:V) (v:Value) (Q:VK),Inv X pins σ H s->RelV x v->r x H Q ->
  wpAny 0#3 X.A (f v) 0#53 X.xe s
def cP (X:Cx)(f:Value)(r:List V->Hp->VK->Prop):Prop:=
 ∀ (pins:List 0#18) (s:Shared) (σ:St) (H:Hp) (xs:List V) (us:List Value) (Q:VK),Inv X pins σ H s->Vals xs us->r xs H Q ->
  wpAny 0#3 X.A (call f us) 0#53 X.xe s
def tOp (r:R2)(ta tb:TE):TE:=λ σ H Q=>ta σ H λ x H1=>tb σ H1 λ y H2=>r x y H2 Q
def tUn (r:V->Hp->VK->Prop)(ta:TE):TE:=λ σ H Q=>ta σ H λ x H1=>r x H1 Q
def rI (C:Int->Int->Prop)(g:Int->Int->V):R2:=λ x y H Q=>∃ i j,x=.int i/\y=.int j/\C i j/\Q (g i j) H
def rI0 (g:Int->Int->V):R2:=λ x y H Q=>∃ i j,x=.int i/\y=.int j/\Q (g i j) H
def rU (g:Int->V):V->Hp->VK->Prop:=λ x H Q=>∃ i,x=.int i/\Q (g i) H
section
variable {X:Cx}{a b c:Expr}{ta tb tc:TE}{pos:Pos}
def Bj (ha:PE X a ta)(hb:PE X b tb){pins:List 0#18}{s:Shared}{σ:St}{H:Hp}{R:V->V->Hp->Prop}(I:Inv X pins σ H s)
  (h:ta σ H λ x H1=>tb σ H1 λ y H2=>R x y H2) {Q:Value->Shared->Prop} {f:Value->Value->Sem Value}
  (hf:∀ v u s2 x y H2,Inv X pins σ H2 s2->RelV x v->RelV y u->R x y H2->wpAny 0#3 X.A (f v u) Q X.xe s2):
  wpAny 0#3 X.A (eval a X.env) (λ v s₁=>wpAny 0#3 X.A (eval b X.env) (λ u s₂=>wpAny 0#3 X.A (f v u) Q X.xe s₂) X.xe s₁) X.xe s:=by
 refine thn 0#51 λ v s1 ⟨x,H1,I1,r1,q1⟩=>?_
 refine thn (hb pins s1 σ H1 _ I1 q1) λ u s2 ⟨y,H2,I2,r2,q2⟩=>?_
 exact hf v u s2 x y H2 I2 r1 r2 q2
def zA {op:Operator}{r:R2}(ho:OpR X (binaryOp op) r)(ha:PE X a ta)(hb:PE X b tb):PE X (.BinOp a op b pos) 2#63:=by
 intro pins s σ H Q I h;exact wpAny_BinOp (Bj ha hb I h λ v u s2 x y H2 I2 rx ry q=>ho pins s2 σ H2 x y v u Q I2 rx ry q)
def CH {op:UnaryOp}{r:V->Hp->VK->Prop}(ho:UnR X (unaryOp op) r)(ha:PE X a ta):PE X (.UnaryOp op a pos) (tUn r ta):=by
 intro pins s σ H Q I h;exact UnaryOp_ (thn 0#51 λ v s1 ⟨x,H1,I1,r1,q1⟩=>ho pins s1 σ H1 x v Q I1 r1 q1)
def opI {f:Value->Value->Sem Value}{C:Int->Int->Prop}{g:Int->Int->Int}
  (rule:∀ (i j:Int) (t u:Tok) (s:Shared) (Q:Value->Shared->Prop) (E:Value->Shared->Prop),C i j->Q (.int (g i j) s.toks) { s with toks:=s.toks+1 }->wpAny 0#3 X.A (f 2#77 (.int j u)) Q E s):
  OpR X f (rI C λ i j=>.int (g i j)):=by
 intro pins s σ H x y v u Q I rx ry h;obtain⟨i,j,rfl,rfl,hc,q⟩:=h;obtain⟨t,rfl⟩:=rx;obtain⟨t',rfl⟩:=ry;exact rule i j t t' s _ _ hc ⟨.int (g i j),H,I.tok _,⟨_,rfl⟩,q⟩
def Ce {f:Value->Value->Sem Value}{g:Int->Int->Int}
  (rule:∀ (i j:Int) (t u:Tok) (s:Shared) (Q:Value->Shared->Prop) (E:Value->Shared->Prop),Q (.int (g i j) s.toks) { s with toks:=s.toks+1 }->wpAny 0#3 X.A (f 2#77 (.int j u)) Q E s):
  OpR X f (rI0 λ i j=>.int (g i j)):=by
 intro pins s σ H x y v u Q I rx ry h;obtain⟨i,j,rfl,rfl,q⟩:=h;obtain⟨t,rfl⟩:=rx;obtain⟨t',rfl⟩:=ry;exact rule i j t t' s _ _ ⟨.int (g i j),H,I.tok _,⟨_,rfl⟩,q⟩
def yy {f:Value->Value->Sem Value}{g:Int->Int->Bool}
  (rule:∀ (i j:Int) (t u:Tok) (s:Shared) (Q:Value->Shared->Prop) (E:Value->Shared->Prop),Q (.bool (g i j)) s->wpAny 0#3 X.A (f 2#77 (.int j u)) Q E s):
  OpR X f (rI0 λ i j=>.bl (g i j)):=by
 intro pins s σ H x y v u Q I rx ry h;obtain⟨i,j,rfl,rfl,q⟩:=h;obtain⟨t,rfl⟩:=rx;obtain⟨t',rfl⟩:=ry;exact rule i j t t' s _ _ ⟨.bl (g i j),H,I,rfl,q⟩
def CMul (i j:Int):Prop:=(-(2 ^ 64)<i/\i<2 ^ 64)\/(-(2 ^ 64)<j/\j<2 ^ 64)
def CMul.ok {i j:Int}(h:CMul i j):IntMulOk i j:=by
 rcases h with ⟨h1,h2⟩|⟨h1,h2⟩
 ·exact .of_left (intBits_le_64 h1 h2)
 ·exact .of_right (intBits_le_64 h1 h2)
def AE:OpR X (binaryOp .Add) (rI0 λ i j=>.int (i+j)):=Ce λ _ _ _ _ _ _ _ q=>add_int q
def Bg:OpR X (binaryOp .Sub) (rI0 λ i j=>.int (i-j)):=Ce λ _ _ _ _ _ _ _ q=>sub_int q
def Bl:OpR X (binaryOp .Mod) (rI (λ _ j=>0<j) λ i j=>.int (i%j)):=opI λ i j _ _ _ _ _ hc q=>by
 have h1:(0:Int)<j:=hc;exact mod_int' ⋯ (by rw[Int.fmod_eq_emod_of_nonneg i ⋯];exact q)
def unI {f:Value->Sem Value}{g:Int->Int}
  (rule:∀ (i:Int) (t:Tok) (s:Shared) (Q:Value->Shared->Prop) (E:Value->Shared->Prop),Q (.int (g i) s.toks) { s with toks:=s.toks+1 }->wpAny 0#3 X.A (f 2#77) Q E s):
  UnR X f (rU λ i=>.int (g i)):=by
 intro pins s σ H x v Q I rx h;obtain⟨i,rfl,q⟩:=h;obtain⟨t,rfl⟩:=rx;exact rule i t s _ _ ⟨.int (g i),H,I.tok _,⟨_,rfl⟩,q⟩
def Be:UnR X (unaryOp .USub) (rU λ i=>.int (-i)):=unI λ _ _ _ _ _ q=>neg_int q
end
def scal:V->V->Bool
 |.non,.non=>true | .non,.int _=>true | .int _,.non=>true | .non,.bl _=>true | .bl _,.non=>true | .non,.str _=>true | .str _,.non=>true
 |.int _,.int _=>true | .bl _,.bl _=>true | .str _,.str _=>true | .byt _,.byt _=>true
 |.int _,.str _=>true | .str _,.int _=>true | .bl _,.str _=>true | .str _,.bl _=>true
 |_,_=>false
def rEq:R2:=λ x y H Q=>scal x y=true/\Q (.bl (decide (x=y))) H
def xX {i j:Int}:decide (V.int i=V.int j)=(i == j):=by
 rw[Ee];simp
def AN {i j:Bool}:decide (V.bl i=V.bl j)=(i == j):=by
 rw[Ee];simp
def zw {i j:Str}:decide (V.str i=V.str j)=(i == j):=by
 rw[Ee];simp
def yc {i j:Array UInt8}:decide (V.byt i=V.byt j)=(i.toList == j.toList):=by
 rw[Ee];cases i;cases j;simp
section
variable {X:Cx}{a b c:Expr}{ta tb tc:TE}{pos:Pos}
def bR {pins:List (Addr×Obj)}{σ:St}{H:Hp}{s:Shared}{Q:VK}{k k':Bool}(I:Inv X pins σ H s)(q:Q (.bl k) H)(e:k=k'):EP X pins σ Q (.bool k') s:=by
 subst e;exact⟨.bl k,H,I,rfl,q⟩
def zS:OpR X (compareOp .Eq) rEq:=by
 intro pins s σ H x y v u Q I rx ry h;obtain⟨hs,q⟩:=h;cases x with
 |non=>
  cases rx;cases y with
  |non=>cases ry;exact PySem.EqNone.eq_none_none 1#61
  |bl j=>cases ry;exact PySem.EqNone.eq_none_bool 1#61
  |int j=>obtain⟨t',rfl⟩:=ry;exact PySem.EqNone.eq_none_int 1#61
  |str j=>obtain⟨t',rfl⟩:=ry;exact PySem.EqNone.eq_none_str 1#61
  |_=>exact absurd (show false=true from hs) DB
 |bl i=>
  cases rx;cases y with
  |non=>cases ry;exact PySem.EqNone.eq_bool_none 1#61
  |bl j=>cases ry;exact eq_bool (bR I q AN)
  |str j=>obtain⟨t',rfl⟩:=ry;exact PySem.EqMixed.eq_bool_str 1#61
  |_=>exact absurd (show false=true from hs) DB
 |int i=>
  obtain⟨t,rfl⟩:=rx;cases y with
  |non=>cases ry;exact PySem.EqNone.eq_int_none 1#61
  |int j=>obtain⟨t',rfl⟩:=ry;exact eq_int (bR I q xX)
  |str j=>obtain⟨t',rfl⟩:=ry;exact PySem.EqMixed.eq_int_str 1#61
  |_=>exact absurd (show false=true from hs) DB
 |str i=>
  obtain⟨t,rfl⟩:=rx;cases y with
  |non=>cases ry;exact PySem.EqNone.eq_str_none 1#61
  |bl j=>cases ry;exact PySem.EqMixed.eq_str_bool 1#61
  |int j=>obtain⟨t',rfl⟩:=ry;exact PySem.EqMixed.eq_str_int 1#61
  |str j=>obtain⟨t',rfl⟩:=ry;exact eq_str (bR I q zw)
  |_=>exact absurd (show false=true from hs) DB
 |byt i=>
  obtain⟨t,rfl⟩:=rx;cases y with
  |byt j=>obtain⟨t',rfl⟩:=ry;exact PySem.W.eq_bytes (bR I q yc)
  |_=>exact absurd (show false=true from hs) DB
 |_=>cases y <;>exact absurd (show false=true from hs) DB
def CJ:OpR X (compareOp .Lt) (rI0 λ i j=>.bl (decide (i<j))):=yy λ _ _ _ _ _ _ _ q=>lt_int q
def Cq:OpR X (compareOp .LtE) (rI0 λ i j=>.bl (decide (i<=j))):=yy λ _ _ _ _ _ _ _ q=>le_int q
def qJ:OpR X (compareOp .Gt) (rI0 λ i j=>.bl (decide (j<i))):=yy λ _ _ _ _ _ _ _ q=>gt_int q
def BK:OpR X (compareOp .GtE) (rI0 λ i j=>.bl (decide (j<=i))):=yy λ _ _ _ _ _ _ _ q=>ge_int q
def OpR.or {f:Value->Value->Sem Value}{r r':R2}(h:OpR X f r)(h':OpR X f r'):OpR X f (λ x y H Q=>r x y H Q\/r' x y H Q):=by
 intro pins s σ H x y v u Q I rx ry q
 rcases q with q|q
 ·exact h pins s σ H x y v u Q I rx ry q
 ·exact h' pins s σ H x y v u Q I rx ry q
def nomark (b:Expr){op:CmpOp}(h:autoParam (op≠.In) ZC._auto_1)(h2:autoParam (op≠.NotIn) ZC._auto_1):behindInMarks op b=false:=by
 have e1:(op == CmpOp.In)=false:=by cases op <;>first|rfl|exact absurd rfl h
 have e2:(op == CmpOp.NotIn)=false:=by cases op <;>first|rfl|exact absurd rfl h2
 cases b <;>simp[behindInMarks,e1,e2]
def zi {op:CmpOp}{r:R2}(ho:OpR X (compareOp op) r)(ha:PE X a ta)(hb:PE X b tb)(hm:behindInMarks op b=false):PE X 1#54 2#63:=by
 intro pins s σ H Q I h;exact wpAny_Compare1 (Bj ha hb I h λ v u s2 x y H2 I2 rx ry q=>ho pins s2 σ H2 x y v u Q I2 rx ry q) hm
def mF (t:TE):TT:=λ σ H Q=>t σ H λ x H'=>∃ k,x=.bl k/\Q k H'
def e8 {op:CmpOp}{r:R2}(ho:OpR X (compareOp op) r)(ha:PE X a ta)(hb:PE X b tb)(hm:behindInMarks op b=false):PT X 1#54 (mF 2#63):=by
 intro pins s σ H Q I h;refine Jr (thn 0#51 λ v s1 ⟨x,H1,I1,r1,q1⟩=>thn (hb pins s1 σ H1 _ I1 q1) λ u s2 ⟨y,H2,I2,r2,q2⟩=>
  thn (ho pins s2 σ H2 x y v u _ I2 r1 r2 q2) λ c s3 ⟨z,H3,I3,r3,k,e,q3⟩=>?_) hm
 subst e;cases r3;exact Hy ⟨H3,I3,q3⟩
def jU:(sizeLine:Nat)<2 ^ 63:=by rw[GS];decide
def vals1 {x:V}{us:List Value}(r:Vals [x] us):∃ u,us=[u]/\RelV x u:=by
 cases r with
 |cons r1 r2=>cases r2;exact⟨_,rfl,r1⟩
def vals2 {x y:V}{us:List Value}(r:Vals [x,y] us):∃ u w',us=[u,w']/\RelV x u/\RelV y w':=by
 cases r with
 |cons r1 r2=>
  cases r2 with
  |cons r3 r4=>cases r4;exact⟨_,_,rfl,r1,r3⟩
end
structure ObjM (h:Heap)(x dx C:Addr)(mA:Str->Option Value):Prop where
 obj:h.get? x=some (Hh C dx)
 ns:h.Ns1 dx mA
 ne:dx≠x
def ud {h:Heap}{dx:Addr}{mA:Str->Option Value}(n:h.Ns1 dx mA):∃ od,h.get? dx=some od/\∀ name,IF name od=some (mA name):=by
 obtain⟨o,es,ep,ho,hd,hk,_,hm⟩:=n;refine⟨o,ho,λ name=>?_⟩;have e:=hm name;unfold nsFind findBy at e;rw[<- Array.find?_toList] at e;unfold IF;rw[hd];dsimp only
 split
 ·rename_i y q
  rw[q] at e;exact congrArg some e
 ·rename_i q
  rw[q] at e;have a:es.toList.any (·.refKey)=false:=by
   rw[List.any_eq_false];intro y hy;obtain⟨z,t,hkey⟩:=hk y (Array.mem_toList_iff.mp hy);simp[DictEntry.refKey,hkey]
  have a':¬ es.toList.any (·.refKey)=true:=by rw[a];exact DB
  rw[if_neg a'];exact congrArg some e
def ObjM.look {h:Heap}{x dx C:Addr}{mA:Str->Option Value}(I:ObjM h x dx C mA):∃ od,PySem.W.InstAt h x (Hh C dx) C (some od)/\∀ name,IF name od=some (mA name):=
 let ⟨od,ho,hl⟩:=ud I.ns
 ⟨od,⟨I.obj,rfl,rfl,ho⟩,hl⟩
section
variable {prog:Program}{w:World}{A:Around}{E:Value->Shared->Prop}{s:Shared}{K:GA}{x dx C f:Addr}{mA:Str->Option Value}{name:Str}{v:Value}
def get_map {expr:Bool}{Q:Value->Shared->Prop}(X:K.In s.heap)(I:ObjM s.heap x dx C mA)(hg:HC K C name=true)(hh:HK K C=true)
  (ha:GI K (.ref C) name=some none) (hv:mA name=some v) (hv':Kh v=true) (h:Q v { s with toks:=s.toks+1 }):
  wpAny 0#7 A (getAttr (.ref x) name expr) Q E s:=by
 obtain⟨od,J,hl⟩:=I.look;exact PySem.W.get_value X J (ID hg).1 (PySem.W.findObj_own hh ha rfl (by rw[hl,hv])) hv' h
def wQ {pl:Sem Bool}{Q:Value×List Value->Shared->Prop}(X:K.In s.heap)(I:ObjM s.heap x dx C mA)(hg:HC K C name=true)
  (hf:GI K (.ref C) name=some 2#20) (ht:HN K (.ref f)=true) (hv:mA name=none) (h:Q (.ref f,[.ref x]) s):
  wpAny 0#7 A (getMethod (.ref x) name pl) Q E s:=by
 obtain⟨od,J,hl⟩:=I.look;exact PySem.W.method_fn X J (ID hg).1 (ID hg).2 hf (beq_iff_eq.mp ht) (by show (IF name od).map (·.isSome)=some false;rw[hl,hv];rfl) h
def xZ {ns:List Str}{Q:Unit->Shared->Prop}(X:K.In s.heap)(I:ObjM s.heap x dx C mA)
  (hs:GI K (.ref C) "__setattr__"=some 1#17) (hp:Im K C=true) (ht:Jc K C name=some none) (hh:HK K C=true)
  (hw:JW mA ns) (hsz:ns.length<=sizeLine)
  (h:∀ h',ObjM h' x dx C (λ y=>if y=name then some v else mA y)->H0 dx s.heap h'->Q () { s with heap:=h',toks:=s.toks+2 }):
  wpAny 0#7 A (setAttr (.ref x) name v) Q E s:=by
 obtain⟨od,J,hl⟩:=I.look;refine PySem.W.set_plain X J hs (PySem.W.osa_open (s:={ s with toks:=s.toks+1 }) (r:=none) X J hp ht λ b=>?_);obtain⟨cd,hc,hd'⟩:=PySem.W.any_some hh;have hx:s.heap.get? x=some ⟨.ref C,some dx,.plain,#[]⟩:=I.obj;refine GB (GD (GB (GB (Jt hx (GB (PySem.W.Looks.here (s:={ s with toks:=s.toks+1 }) (PySem.W.looks_clsIn X hc) ?_))))));rw[hd'];refine GD (a:=some dx) (GB (GD (GB ?_)));refine wpAny_nsSet1 (s:={ s with toks:=s.toks+1 }) I.ns λ h' hn2 hs2=>?_
 obtain⟨oD,esD,epD,hoD,hdD,hcD⟩:=hn2.count (PySem.Within.cons name v hw);refine GB (wpAny_lookBehind hoD (by rw[hdD];exact pastItsLine_dict (D4 hcD (by rw[Dd];omega))) ?_);exact GD (h _ ⟨(hs2.2 _ (Ne.symm I.ne)).trans I.obj,hn2,I.ne⟩ hs2)
def u5 {R:Result->Shared->Prop}{vs:List Value}{kw:List 2#18}(X:K.In s.heap)(hm:Iv K C=true)
  (hi:GI K (.ref C) "__init__"=some 2#20) (hf:PySem.W.typeIn K (.ref f)=some (.type "function"))
  (h:codeAny 0#7 (A.under (.builtin "type.__call__" ⟨.ref C::vs,kw⟩)) (.call (.ref f) ⟨.ref 0#15::vs,kw⟩) (PySem.W.InitBack 0#15 R)
   { s with heap:=(s.heap.push G7).push 2#13 }):
  codeAny 0#7 A (.call (.ref C) ⟨vs,kw⟩) R s:=by
 obtain⟨hh,g,d,t,os⟩:=s;exact PySem.W.make_core (PySem.W.makes_of X hm) (HU X hi) (λ self=>PySem.W.bind_fn X self hf) 0#76 h
end
def aG (f:Str)(v:V):List (Str×V)->List (Str×V)
 |[]=>[(f,v)]
 | (g,x)::r=>if g=f then (g,v)::r else (g,x)::aG f v r
def ik (f g:Str)(v:V):∀ fs:List (Str×V),(aG f v fs).lookup g=if g=f then some v else fs.lookup g
 |[]=>by
  show List.lookup g [(f,v)]=_
  by_cases h:g=f
  ·have hb:(g == f)=true:=beq_iff_eq.mpr h
   simp only[List.lookup,hb,if_pos h]
  ·have hb:(g == f)=false:=beq_eq_false_iff_ne.mpr h
   simp only[List.lookup,hb,if_neg h]
 | (k,x)::r=>by
  have ih:=ik f g v r;rw[show aG f v ((k,x)::r)=(if k=f then (k,v)::r else (k,x)::aG f v r) from rfl];by_cases hk:k=f
  ·rw[if_pos hk]
   by_cases h:g=k
   ·have hb:(g == k)=true:=beq_iff_eq.mpr h
    simp only[List.lookup,hb,if_pos (h.trans hk)]
   ·have hb:(g == k)=false:=beq_eq_false_iff_ne.mpr h
    simp only[List.lookup,hb,if_neg (λ e:g=f=>h (e.trans hk.symm))]
  ·rw[if_neg hk]
   by_cases h:g=k
   ·have hb:(g == k)=true:=beq_iff_eq.mpr h
    simp only[List.lookup,hb,if_neg (λ e:g=f=>hk (h.symm.trans e))]
   ·have hb:(g == k)=false:=beq_eq_false_iff_ne.mpr h
    simp only[List.lookup,hb];exact ih
def ib (f:Str)(v:V):∀ fs:List (Str×V),f∈(aG f v fs).map (·.1)/\∀ g,g∈fs.map (·.1)->g∈(aG f v fs).map (·.1)
 |[]=>⟨by simp[aG],λ g h=>by simp at h⟩
 | (k,x)::r=>by
  obtain⟨i1,i2⟩:=ib f v r;rw[show aG f v ((k,x)::r)=(if k=f then (k,v)::r else (k,x)::aG f v r) from rfl];by_cases hk:k=f
  ·rw[if_pos hk]
   subst hk;exact⟨by simp,λ g h=>by simpa using h⟩
  ·rw[if_neg hk]
   refine⟨?_,λ g h=>?_⟩
   ·rw[C9]
    exact De _ i1
   ·rw[C9] at h ⊢
    rcases List.mem_cons.mp h with e|e
    ·exact List.mem_cons.mpr (.inl e)
    ·exact De _ (i2 g e)
def iz (f:Str)(v:V):∀ fs:List (Str×V),(aG f v fs).length<=fs.length+1
 |[]=>by simp[aG]
 | (k,x)::r=>by
  have ih:=iz f v r;rw[show aG f v ((k,x)::r)=(if k=f then (k,v)::r else (k,x)::aG f v r) from rfl];by_cases hk:k=f
  ·rw[if_pos hk,Dd,Dd];omega
  ·rw[if_neg hk,Dd,Dd];omega
def RelO.some_of {v:V}{o:Option Value}(r:RelO (some v) o):∃ u,o=some u/\RelV v u:=by
 cases o with
 |none=>exact Zf r
 |some u=>exact⟨u,rfl,r⟩
def RelO.none_of {o:Option Value}(r:RelO none o):o=none:=by
 cases o with
 |none=>rfl
 |some u=>exact Zf r
def uD {v:V}{u:Value}(r:RelV v u):Kh u=true:=by
 cases v with
 |non=>cases (show u=GN from r);rfl
 |bl b=>cases (show u=IT b from r);rfl
 |int i=>obtain⟨t,e⟩:=(show ∃ t,u=Hk i t from r);cases e;rfl
 |str x=>obtain⟨t,e⟩:=(show ∃ t,u=JT x t from r);cases e;rfl
 |byt b=>obtain⟨t,e⟩:=(show ∃ t,u=Value.bytes b t from r);cases e;rfl
 |flt b=>obtain⟨t,e⟩:=(show ∃ t,u=Value.float b t from r);cases e;rfl
 |ref a=>cases (show u=GH a from r);rfl
 |ty n=>cases (show u=GR n from r);rfl
section
variable {P:Program}{w:World}{H H':Hp}{h h':Heap}{a C dx:Addr}{fs fs':List (Str×V)}
def mh (hok:HOk P w H h)(e:H a=some (.ins C dx fs)):∃ mA,ObjM h a dx C mA/\(∀ f,RelO (fs.lookup f) (mA f))/\JW mA (fs.map (·.1))/\fs.length<=1000/\H dx=some (.own a):=by
 obtain⟨d,z,ne,ob,mA,n,r,q⟩:=(show ObjOk P w H h a 1#62 from hok a _ e);exact⟨mA,⟨ob,n,ne⟩,r,q,z,d⟩
end
structure Cls (K:GA)(C:Addr):Prop where
 pg:HC K C Kq=true
 hd:HK K C=true
 po:Im K C=true
 sa:GI K (.ref C) "__setattr__"=some 1#17
def Cls.get {K:GA}{C:Addr}(c:Cls K C)(f:Str):HC K C f=true:=c.pg
def NoAttr (K:GA)(C:Addr)(f:Str):Prop:=GI K (.ref C) f=some none
def NoAttr.taker {K:GA}{C:Addr}{f:Str}(n:NoAttr K C f):Jc K C f=some none:=by
 unfold Jc;rw[show GI K (.ref C) f=some none from n];rfl
structure Meth (K:GA)(C:Addr)(m:Str)(f:Addr):Prop where
 at_:GI K (.ref C) m=some 2#20
 fn:HN K (.ref f)=true
 kp:G0 K (.ref f)=true
section
variable {X:Cx}{pins:List (Addr×Obj)}{σ:St}{H:Hp}{s:Shared}{a C dx:Addr}{fs:List (Str×V)}{f:Str}{v:V}{A:Around}{E:Value->Shared->Prop}
def jf {b:Bool}{Q:Value->Shared->Prop}(I:Inv X pins σ H s)(e:H a=some 1#62)(c:Cls X.K C)(n:NoAttr X.K C f)(l:fs.lookup f=some v)
  (h:∀ u s',Inv X pins σ H s'->RelV v u->Q u s'):wpAny 0#3 A (getAttr (.ref a) f b) Q E s:=by
 obtain⟨mA,O,r,_,_,_⟩:=mh I.hok e;obtain⟨u,hu,ru⟩:=RelO.some_of (v:=v) (o:=mA f) (by rw[<- l];exact r f);exact get_map I.kIn O (c.get f) c.hd n hu (uD ru) (h u _ 2#66 ru)
def jX {m:Str}{g:Addr}{pl:Sem Bool}{Q:Value×List Value->Shared->Prop}(I:Inv X pins σ H s)(e:H a=some 1#62)(c:Cls X.K C)(k:Meth X.K C m g)(l:fs.lookup m=none)
  (h:Q (.ref g,[.ref a]) s):wpAny 0#3 A (getMethod (.ref a) m pl) Q E s:=by
 obtain⟨mA,O,r,_,_,_⟩:=mh I.hok e;have hn:mA m=none:=RelO.none_of (by rw[<- l];exact r m);exact wQ I.kIn O (c.get m) k.at_ k.fn hn h
def jN {y:V}{u:Value}{Q:Unit->Shared->Prop}(I:Inv X pins σ H s)(e:H a=some 1#62)(c:Cls X.K C)(n:NoAttr X.K C f)(hl:fs.length<1000)(ry:RelV y u)
  (h:∀ s',Inv X pins σ (upd H a (.ins C dx (aG f y fs))) s'->Q () s'):wpAny 0#3 A (setAttr (.ref a) f u) Q E s:=by
 obtain⟨mA,O,r,wi,_,ho⟩:=mh I.hok e;have hz:(fs.map (·.1)).length<=sizeLine:=by rw[Di,GS];omega
 refine xZ I.kIn O c.sa c.po n.taker c.hd wi hz λ h' O' sb=>h _ ?_
 have hd:∃ o,h'.get? dx=some o:=let ⟨o,_,_,e',_⟩:=O'.ns;⟨o,e'⟩
 refine I.write (x:=a) (e:=dx) (by rw[e];exact Hq) (.inr ho) (λ b q hb z=>(sb.2 b hb).trans z) hd ?_
 refine⟨by rw[ag O.ne];exact ho,?_,O.ne,O'.obj,_,O'.ns,λ g=>?_,λ g hg=>?_⟩
 ·have:=iz f y fs;omega
 ·show RelO ((aG f y fs).lookup g) (if g=f then some u else mA g)
  rw[ik];by_cases q:g=f
  ·rw[if_pos q,if_pos q];exact ry
  ·rw[if_neg q,if_neg q];exact r g
 ·by_cases q:g=f
  ·rw[q];exact(ib f y fs).1
  ·refine(ib f y fs).2 g (wi g λ z=>hg ?_)
   show (if g=f then some u else mA g)=none
   rw[if_neg q];exact z
def Inv.made (I:Inv X pins σ H s):Inv X pins σ (upd (upd H s.heap.objs.size (.own 0#15)) 0#15 (.ins C s.heap.objs.size []))
  { s with heap:=(s.heap.push G7).push 2#13 }:=by
 have e1:(s.heap.push G7).get? s.heap.objs.size=some G7:=GF s.heap rfl;have e2:((s.heap.push G7).push 2#13).get? 0#15=some 2#13:=by
  have:=GF (s.heap.push G7) (o:=Hh C s.heap.objs.size) rfl
  rwa [HB] at this
 have e3:(s.heap.push G7).Ns s.heap.objs.size 2#51:=⟨G7,#[],_,e1,rfl,(λ e he=>absurd he 0#5),λ _=>rfl⟩;have I1:=I.laid (a:=s.heap.objs.size) (o:=.own 0#15) (h':=s.heap.push G7) (t':=s.toks) (λ b u q=>GC _ q) (Du _) ⟨_,e1⟩;refine I1.laid (a:=s.heap.objs.size+1) (o:=.ins C s.heap.objs.size []) (t':=s.toks) (λ b u q=>GC _ q) (FU (HB _ _)) ?_
 have ne:s.heap.objs.size≠s.heap.objs.size+1:=Dy (DR _);refine⟨by rw[ag ne,ai],D7 _,ne,e2,λ _=>none,(Heap.Ns1.of_empty e3).at λ o q=>GC _ q,λ _=>Hq,λ y hy=>absurd rfl hy⟩
def xT {prog:Program}{w:World}{env:Env}{e:Expr}{f:Str}{pos:Pos}{s:Shared}{Q:Value->Shared->Prop}(hb:attributeBase e f env (eval e env)=eval e env)
  (h:wpAny 0#7 A (eval e env) (λ o s₁=>wpAny 0#7 A (getAttr o f true) Q E s₁) E s):wpAny 0#7 A (eval (.Attribute e f pos) env) Q E s:=
 Attribute_any_ h (by rw[arm_eval_Attribute,hb])
end
def gY (K:GA)(ta:TE)(f:Str):TE:=λ σ H Q=>ta σ H λ x H1=>∃ a C dx fs v,x=.ref a/\H1 a=some 1#62/\Cls K C/\NoAttr K C f/\fs.lookup f=some v/\Q v H1
def nD (K:GA)(ta tv:TE)(f:Str):TS:=λ D σ H=>tv σ H λ y H1=>ta σ H1 λ x H2=>∃ a C dx fs,x=.ref a/\H2 a=some 1#62/\Cls K C/\NoAttr K C f/\fs.length<1000 /\
 D.nx σ (upd H2 a (.ins C dx (aG f y fs)))
def CG (X:Cx)(op:Operator)(rd:V->V->Hp->VK->Prop):Prop:=
 ∀ (pins:List 0#18) (s:Shared) (σ:St) (H:Hp) (x y:V) (u v:Value) (Q:VK),Inv X pins σ H s->RelV x u->RelV y v->rd x y H Q->wpAny 0#3 X.A (inplaceOp op u v) 0#53 X.xe s
def qS (K:GA)(ta tv:TE)(rd:V->V->Hp->VK->Prop)(f:Str):TS:=λ D σ H=>ta σ H λ x H1=>∃ a C dx fs v,x=.ref a/\H1 a=some 1#62/\Cls K C/\NoAttr K C f/\fs.lookup f=some v /\
 tv σ H1 λ y H2=>rd v y H2 λ z H3=>∃ dx' fs',H3 a=some (.ins C dx' fs')/\fs'.length<1000/\D.nx σ (upd H3 a (.ins C dx' (aG f z fs')))
section
variable {X:Cx}{o e value:Expr}{f:Str}{pos pos' tpos:Pos}{ta tv:TE}
def b0 (he:PE X e ta)(hb:attributeBase e f X.env (eval e X.env)=eval e X.env):PE X (.Attribute e f pos) (gY X.K ta f):=by
 intro pins s σ H Q I h;refine xT hb (thn 0#62 λ u s1 ⟨x,H1,I1,rx,a,C,dx,fs,v,ex,ea,c,n,l,q⟩=>?_);subst ex;obtain rfl:u=GH a:=rx;exact jf I1 ea c n l λ u' s2 I2 ru=>⟨v,H1,I2,ru,q⟩
def fZ (ha:PE X o ta)(hv:PE X value tv)(hs:swapsWith value (some (.Attribute o f pos')) pos.line X.env=pure false):PS X (.Assign [.Attribute o f pos'] value pos) (nD X.K ta tv f):=by
 intro pins s σ H D I h;refine plainObj_wpAny_Assign_Attribute (thn (hv pins s σ H _ I h) λ u s1 ⟨y,H1,I1,ry,q⟩=>thn (ha pins s1 σ H1 _ I1 q) λ ov s2 ⟨x,H2,I2,rx,a,C,dx,fs,ex,ea,c,n,l,q2⟩=>?_) hs;subst ex;obtain rfl:ov=GH a:=rx;exact jN I2 ea c n l ry λ s3 I3=>⟨σ,_,I3,q2⟩
def ub {op:Operator}{rd:V->V->Hp->VK->Prop}(ha:PE X o ta)(hv:PE X value tv)(hop:CG X op rd):PS X (.AugAssign (.Attribute o f tpos) op value pos) (qS X.K ta tv rd f):=by
 intro pins s σ H D I h;refine wpAny_AugAssign_AttributeAny (thn 0#51 λ ov s1 ⟨x,H1,I1,rx,a,C,dx,fs,v,ex,ea,c,n,l,q⟩=>?_);subst ex;obtain rfl:ov=GH a:=rx;refine jf I1 ea c n l λ u s2 I2 ru=>thn (hv pins s2 σ H1 _ I2 q) λ w3 s3 ⟨y,H2,I3,ry,q3⟩=>thn (hop pins s3 σ H2 v y u w3 _ I3 ru ry q3) λ w4 s4 ⟨z,H3,I4,rz,dx',fs',ea',l',q4⟩=>?_
 exact jN I4 ea' c n l' rz λ s5 I5=>⟨σ,_,I5,q4⟩
def BG:V->V->Hp->VK->Prop:=λ x y H Q=>∃ i j,x=.int i/\y=.int j/\Q (.int (i+j)) H
def AX:CG X .Add BG:=by
 rintro pins s σ H x y u v Q I rx ry ⟨i,j,rfl,rfl,q⟩
 obtain⟨t,rfl⟩:=(show ∃ t,u=Hk i t from rx);obtain⟨t',rfl⟩:=(show ∃ t',v=Hk j t' from ry);exact PyProof.Rows.iadd_int ⟨.int (i+j),H,I.tok _,⟨_,rfl⟩,q⟩
end
structure Room (k:Nat)(A:Around):Prop where
 hd:A.handled=none
 dp:A.depth+3*k+5<recursionLimit
 un:A.units+16*k+200<cLine
def Room.mono {j k:Nat}{A:Around}(r:Room k A)(h:j<=k):Room j A:=⟨r.hd,by have:=r.dp;omega,by have:=r.un;omega⟩
def Room.deeper {k:Nat}{A:Around}(r:Room (k+1) A)(env:Env):Room k (A.deeper env):=
 ⟨r.hd,by have:=r.dp;show A.depth+1+3*k+5<_;omega,by have:=r.un;show A.units+3+16*k+200<_;omega⟩
def qd {A:Around}{C:Addr}{us:List Value}{kw:List 2#18}:(A.under 0#85).depth=A.depth+1:=by
 first|rfl|simp[J0,Code.weight,Code.isCreation,Code.isGuard,Code.isCaller,Code.frames,J1,guardIds]
def pG {A:Around}{C:Addr}{us:List Value}{kw:List 2#18}:(A.under 0#85).units=A.units+1:=by
 first|rfl|simp[J0,Code.cUnits,Code.frames,J1]
def Room.make {k:Nat}{A:Around}(r:Room (k+1) A)(C:Addr)(us:List Value)(kw:List 2#18):Room k (A.under 0#85):=
 ⟨r.hd,by have:=r.dp;rw[qd];omega,by have:=r.un;rw[pG];omega⟩
def Room.depth {k:Nat}{A:Around}(r:Room k A):A.depth<recursionLimit:=by have:=r.dp;omega
def Room.units {k:Nat}{A:Around}(r:Room k A):A.units+64<cLine:=by have:=r.un;omega
def bK:TA:=λ _ H Q=>Q [] H
def aQ (ta:TE)(tr:TA):TA:=λ σ H Q=>ta σ H λ x H1=>tr σ H1 λ xs H2=>Q (x::xs) H2
section
variable {X:Cx}{e:Expr}{es:List Expr}{te:TE}{t:TA}{pos:Pos}
def ay:PA X [] bK:=λ _ _ _ _ H Q I h=>HL ⟨[],H,I,.nil,h⟩
def aq (ha:PE X e te)(hr:PA X es t)(hs:autoParam (starEach (e::es) X.env=0#74::starEach es X.env) ZF._auto_1):PA X (e::es) (aQ te t):=by
 intro pos pins s σ H Q I h;rw[hs];show wpAny _ _ (spliced (0#74::backTo pos 2#5)) _ _ s
 refine HH (thn 0#51 λ u s1 ⟨x,H1,I1,r1,q1⟩=>?_);exact thn (hr pos pins s1 σ H1 _ I1 q1) λ us s2 ⟨xs,H2,I2,r2,q2⟩=>⟨x::xs,H2,I2,.cons r1 r2,q2⟩
def tI (t:TA):TE:=λ σ H Q=>t σ H λ xs H1=>xs.length<=sizeLine/\∀ p,H1 p=none->Q (.ref p) (upd H1 p 2#24)
def nG (t:TA):TE:=λ σ H Q=>t σ H λ xs H1=>xs.length<=sizeLine/\∀ p,H1 p=none->Q (.ref p) (upd H1 p 1#37)
def eQ {x1}(h:PA X es t):PE X (.Tuple es x1 pos) (tI t):=by
 intro pins s σ H Q I hq;refine wpAny_Tuple_spliced (thn (h pos pins s σ H _ I hq) λ us s1 ⟨xs,H1,I1,r,z,q⟩=>⟨by rw[<- r.length];exact z,?_⟩);have hf:H1 s1.heap.objs.size=none:=I1.hok.fresh (Du _);refine⟨.ref s1.heap.objs.size,upd H1 s1.heap.objs.size 2#24,I1.laid (t':=s1.toks) (λ b u e=>GC _ e) (Du _) ?_,rfl,q _ hf⟩;exact⟨z,us,r,⟨_,GF _ rfl,rfl,_,rfl⟩⟩
def eT (h:PA X es t):PE X (.List es pos) (nG t):=by
 intro pins s σ H Q I hq;refine wpAny_List_spliced (thn (h pos pins s σ H _ I hq) λ us s1 ⟨xs,H1,I1,r,z,q⟩=>⟨by rw[<- r.length];exact z,?_⟩);have hf:H1 s1.heap.objs.size=none:=I1.hok.fresh (Du _);refine⟨.ref s1.heap.objs.size,upd H1 s1.heap.objs.size 1#37,I1.laid (t':=s1.toks) (λ b u e=>GC _ e) (Du _) ?_,rfl,q _ hf⟩;exact⟨z,us,0,r,GF _ rfl⟩
end
abbrev Sp:=List V->Hp->VK->XK->Prop
abbrev CXT:=List Env->Hp->Shared->XK->Value->Shared->Prop
structure Env0 (P:Program)(w:World)(K:GA)(mg:Str->Option Value)(base:Heap)(A:Around)(outer:List Env)(s:Shared)(H:Hp):Prop where
 frames:A.frames=some outer
 mod:Mod K mg base
 bs:∀ b o,base.get? b=some o->s.heap.get? b=some o/\H b=none
 bsz:base.objs.size<=s.heap.objs.size
 funs:s.heap.FunFrames base outer
 frf:∀ b∈frs outer,H b=none
 hok:HOk P w H s.heap
 bare:AllBare s.gens
def CE (outer:List Env)(P:Program)(w:World)(H:Hp)(s:Shared)(Q:VK)(u:Value)(s':Shared):Prop:=
 ∃ v H',s'.os=s.os/\AllBare s'.gens/\Un (frs outer) [] H H' s.heap s'.heap/\HOk P w H' s'.heap/\RelV v u/\Q v H'
def CR (CX:CXT)(outer:List Env)(P:Program)(w:World)(H:Hp)(s:Shared)(Q:VK)(E:XK)(r:Result)(s':Shared):Prop:=
 match r with
 |.ok (.ret u)=>CE outer P w H s Q u s'
 |.ok _=>False
 |.error e=>CX outer H s E e s'
structure FnOk (P:Program)(w:World)(K:GA)(mg:Str->Option Value)(base:Heap)(CX:CXT)(k:Nat)(f:Addr)(fd:FuncData)(ps:List Str)(sp:Sp):Prop where
 len:∀ vs H Q E,sp vs H Q E->vs.length=ps.length
 run:∀ (A:Around) (outer:List Env) (s:Shared) (H:Hp) (args:Args) (us:List Value) (vs:List V) (Q:VK) (E:XK),Room k A->Env0 P w K mg base A outer s H->BindsTo s fd args 2#2->Vals vs us->sp vs H Q E ->
  codeAny 2#16 A (.call (.ref f) args) (CR CX outer P w H s Q E) s
def FnOk.mono {P:Program}{w:World}{K:GA}{mg:Str->Option Value}{base:Heap}{CX:CXT}{j k:Nat}{f:Addr}{fd:FuncData}{ps:List Str}{sp:Sp}(F:FnOk P w K mg base CX j f fd ps sp)(h:j<=k):
  FnOk P w K mg base CX k f fd ps sp:=⟨F.len,λ A outer s H args us vs Q E hr=>F.run A outer s H args us vs Q E (hr.mono h)⟩
def FnOk.imp {P:Program}{w:World}{K:GA}{mg:Str->Option Value}{base:Heap}{CX:CXT}{k:Nat}{f:Addr}{fd:FuncData}{ps:List Str}{sp sp':Sp}(F:FnOk P w K mg base CX k f fd ps sp)
  (h:∀ vs H Q E,sp' vs H Q E->sp vs H Q E):FnOk P w K mg base CX k f fd ps sp':=
 ⟨λ vs H Q E q=>F.len vs H Q E (h _ _ _ _ q),λ A outer s H args us vs Q E hr he hb hv hs=>F.run A outer s H args us vs Q E hr he hb hv (h _ _ _ _ hs)⟩
def Env0.make {P:Program}{w:World}{K:GA}{mg:Str->Option Value}{base:Heap}{A:Around}{outer:List Env}{s:Shared}{H:Hp}(e:Env0 P w K mg base A outer s H)(C:Addr)(us:List Value)(kw:List 2#18):
  Env0 P w K mg base (A.under 0#85) outer s H:=⟨by first|exact e.frames|(simpa[J0,Code.envs,J1,pushEnvs] using e.frames),e.mod,e.bs,e.bsz,e.funs,e.frf,e.hok,e.bare⟩
section
variable {X:Cx}{pins:List (Addr×Obj)}{σ:St}{H:Hp}{s s':Shared}
def Inv.env0 (I:Inv X pins σ H s):Env0 X.prog X.w X.K X.mg X.base X.A X.stack s H:=
 ⟨I.ok.frames,I.ok.mod,I.bs,D4 I.ok.bsz I.sz,I.stack,I.stkFree,I.hok,I.bare⟩
def Inv.after {Q:VK}{u:Value}(I:Inv X pins σ H s)(h:CE X.stack X.prog X.w H s Q u s'):EP X pins σ Q u s':=by
 obtain⟨v,H',os,bare,un,hok,r,q⟩:=h;obtain⟨hh,g,d,t,os'⟩:=s';obtain rfl:os'=s.os:=os;exact⟨v,H',I.call (h':=hh) (g':=g) (d':=d) (t':=t) (ch:=[]) un hok bare (λ b z=>absurd z 0#5),r,q⟩
end
def mX (C:Addr)(m:Str)(sp:Sp)(dvs:List V)(E:XK)(ta:TE)(t:TA):TE:=λ σ H Q=>ta σ H λ x H1=>∃ a dx fs,x=.ref a/\H1 a=some 1#62/\fs.lookup m=none /\
 t σ H1 λ vs H2=>sp (x::2#41) H2 Q E
def rh (C:Addr)(sp:Sp)(dvs:List V)(E:XK)(t:TA):TE:=λ σ H Q=>t σ H λ vs H1=>∀ x dx,H1 x=none->H1 dx=none->dx≠x ->
 sp (.ref x::2#41) (upd (upd H1 dx (.own x)) x (.ins C dx [])) (λ v H2=>v=.non/\Q (.ref x) H2) E
def Binds (K:GA)(fd:FuncData)(ps:List Str)(ds:List Value):Prop:=
 ∀ (s:Shared) (us:List Value),K.In s.heap->(us++ds).length=ps.length->BindsTo s fd ⟨us,[]⟩ (ps.zip (us++ds))
def Binds.all {K:GA}{fd:FuncData}{ps:List Str}(h:∀ us:List Value,us.length=ps.length->bindArgs fd ⟨us,[]⟩=pure 2#2):Binds K fd ps []:=λ s us _ hl=>by
 rw[DU] at hl ⊢;exact .of_eq (h us hl)
def gN (CX:CXT)(X:Cx)(E:XK):Prop:=∀ (pins:List 0#18) (σ:St) (H:Hp) (s:Shared) (e:Value) (s':Shared),Inv X pins σ H s->CX X.stack H s E e s'->X.xe e s'
section
variable {X:Cx}{CX:CXT}{k:Nat}{f C:Addr}{fd:FuncData}{ps:List Str}{sp:Sp}{dvs:List V}{ds:List Value}{E:XK}{x m:Str}{p pos apos:Pos}{e o:Expr}{es:List Expr}{ta:TE}{t:TA}
def wW {pins:List (Addr×Obj)}{σ:St}{H:Hp}{s:Shared}{Q:VK}{us:List Value}{vs:List V}(F:FnOk X.prog X.w X.K X.mg X.base CX k f fd ps sp)(hr:Room k X.A)(hb:Binds X.K fd ps ds)(hd:Vals dvs ds)(hx:gN CX X E)
  (I:Inv X pins σ H s) (r:Vals vs us) (h:sp 2#41 H Q E):wpAny 0#3 X.A (call (.ref f) us) 0#53 X.xe s:=by
 have r2:Vals 2#41 (us++ds):=r.append hd;have hl:(us++ds).length=ps.length:=by rw[<- r2.length];exact F.len _ _ _ _ h
 refine IU (HD (F.run X.A X.stack s H ⟨us,[]⟩ (us++ds) 2#41 Q E hr I.env0 (hb s us I.kIn hl) r2 h) λ r s' hq=>?_);cases r with
 |error e=>exact hx pins σ H s e s' I hq
 |ok fl=>
  cases fl with
  |ret u=>exact I.after hq
  |next=>exact GQ hq
  |brk=>exact GQ hq
  |cont=>exact GQ hq
def yg {pl:Sem Bool}(he:PE X o ta)(c:Cls X.K C)(hm:Meth X.K C m f)(F:FnOk X.prog X.w X.K X.mg X.base CX k f fd ps sp)(hr:Room k X.A)(hb:Binds X.K fd ps ds)(hd:Vals dvs ds)(hx:gN CX X E)(ha:PA X (e::es) t)
  (hst:autoParam (starEach (e::es) X.env=0#74::starEach es X.env) ZF._auto_1) (hpl:autoParam 0#77 ZF._auto_1)
  (ht:autoParam (eval (.Call (.Attribute o m apos) (e::es) [] pos) X.env=(do
   let ov <- eval o X.env
   standAt apos.atName
   let (f,first) <- holding [ov] (getMethod ov m pl)
   callWith pos f first (backTo pos (starEach (e::es) X.env)) (backToKw pos 1#72))) ZF._auto_1):
  PE X (.Call (.Attribute o m apos) (e::es) [] pos) (mX C m sp dvs E ta t):=by
 intro pins s σ H Q I h;refine Ju (pl:=pl) (thn 0#62 λ u s1 ⟨x,H1,I1,rx,a,dx,fs,ex,ea,l,q⟩=>?_) ht;subst ex;obtain rfl:u=GH a:=rx;refine jX I1 ea c hm l ?_
 refine Ia (first:=[.ref a]) (h₀:=X.base) I.ok.mod.kin hm.kp (thn (ha pos pins s1 σ H1 _ I1 q) λ us s2 ⟨vs,H2,I2,r,q2⟩=>⟨I2.kIn,?_⟩) hst hpl;exact wW (us:=.ref a::us) (vs:=.ref a::vs) F hr hb hd hx I2 (.cons rfl r) q2
def mQ {pl:Sem Bool}(he:PE X o ta)(c:Cls X.K C)(hm:Meth X.K C m f)(F:FnOk X.prog X.w X.K X.mg X.base CX k f fd ps sp)(hr:Room k X.A)(hb:Binds X.K fd ps ds)(hd:Vals dvs ds)(hx:gN CX X E)
  (ht:autoParam (eval (.Call (.Attribute o m apos) [] [] pos) X.env=(do
   let ov <- eval o X.env
   standAt apos.atName
   let (f,first) <- holding [ov] (getMethod ov m pl)
   callWith pos f first (backTo pos (starEach [] X.env)) (backToKw pos 1#72))) ZF._auto_1):
  PE X (.Call (.Attribute o m apos) [] [] pos) (mX C m sp dvs E ta bK):=by
 intro pins s σ H Q I h;refine Ju (pl:=pl) (thn 0#62 λ u s1 ⟨x,H1,I1,rx,a,dx,fs,ex,ea,l,q⟩=>?_) ht;subst ex;obtain rfl:u=GH a:=rx;refine jX I1 ea c hm l ?_
 exact PySem.W.callWith_K0 (first:=[.ref a]) I1.kIn hm.kp (wW (us:=[.ref a]) (vs:=[.ref a]) F hr hb hd hx I1 (.cons rfl .nil) q)
structure Mk (K:GA)(C f:Addr):Prop where
 makes:Iv K C=true
 init:GI K (.ref C) "__init__"=some 2#20
 fn:HN K (.ref f)=true
 kp:G0 K (.ref C)=true
def xj {pins:List (Addr×Obj)}{σ:St}{H:Hp}{s:Shared}{Q:VK}{us:List Value}{vs:List V}(M:Mk X.K C f)(F:FnOk X.prog X.w X.K X.mg X.base CX k f fd ps sp)(hr:Room (k+1) X.A)(hb:Binds X.K fd ps ds)(hd:Vals dvs ds)
  (hx:gN CX X E) (I:Inv X pins σ H s) (r:Vals vs us)
  (h:∀ x dx,H x=none->H dx=none->dx≠x->sp (.ref x::2#41) (upd (upd H dx (.own x)) x (.ins C dx [])) (λ v H2=>v=.non/\Q (.ref x) H2) E):
  wpAny 0#3 X.A (call (.ref C) us) 0#53 X.xe s:=by
 have hq:=h 0#15 s.heap.objs.size (I.hok.fresh (Ez _)) (I.hok.fresh (Du _)) (Dy (DR _));have I2:=Inv.made (C:=C) I;have r2:Vals (V.ref 0#15::2#41) (GH 0#15::(us++ds)):=.cons rfl (r.append hd);have hl:(GH 0#15::us++ds).length=ps.length:=by
  have e:=r2.length;rw[F.len _ _ _ _ hq] at e;exact e.symm
 refine IU (u5 (f:=f) I.kIn M.makes M.init (beq_iff_eq.mp M.fn) (HD (F.run _ X.stack _ _ ⟨GH 0#15::us,[]⟩ (GH 0#15::(us++ds)) _ _ E (hr.make C us [])
  (I2.env0.make C us []) (hb _ (GH 0#15::us) I2.kIn hl) r2 hq) λ r s' hq'=>?_))
 cases r with
 |error e=>exact hx pins σ _ _ e s' I2 hq'
 |ok fl=>
  cases fl with
  |ret u=>
   obtain⟨v,H',I3,rv,ev,q3⟩:=I2.after hq';subst ev;exact⟨rv,⟨V.ref 0#15,H',I3,rfl,q3⟩⟩
  |next=>exact GQ hq'
  |brk=>exact GQ hq'
  |cont=>exact GQ hq'
def lY (M:Mk X.K C f)(F:FnOk X.prog X.w X.K X.mg X.base CX k f fd ps sp)(hr:Room (k+1) X.A)(hg:Gl X x)(hm:X.mg x=some (.ref C))(hb:Binds X.K fd ps ds)(hd:Vals dvs ds)(hx:gN CX X E)
  (ha:PA X (e::es) t) (hdb:autoParam 0#4 ZC._auto_1) (he:autoParam (starEach (e::es) X.env=0#74::starEach es X.env) ZF._auto_1) (hpl:autoParam 0#77 ZF._auto_1):
  PE X 0#54 (rh C sp dvs E t):=by
 intro pins s σ H Q I h;refine G1 (gD I hg hm ?_ hdb);refine Ia (h₀:=X.base) I.ok.mod.kin M.kp (thn 0#66 λ us s1 ⟨vs,H1,I1,r,q⟩=>⟨I1.kIn,?_⟩) he hpl;exact xj M F hr hb hd hx I1 r q
end
structure FnScope (N P:List Str)(sc:Scope):Prop where
 kind:sc.kind=.function
 co:sc.isCoroutine=false
 gen:sc.isGenerator=false
 nd:N.Nodup
 pre:N.take P.length=P
 par:∀ x∈P,sc.names.lookup x=some .local\/sc.names.lookup x=some .cell
 nofree:∀ y∈sc.names,y.2≠.free
def kR {kindOf:Str->Option NameKind}{x:Str}:∀ {binds:List 2#18} {m:Str->Option Value},(∀ v,(x,v)∉binds)->bindL kindOf binds m x=m x
 |[],_,_=>rfl
 | (n,v)::r,m,h=>by
  unfold bindL;rw[kR λ w hw=>h w (De _ hw)]
  split
  ·have:x≠n:=by rintro rfl;exact h v Dh
   simp[this]
  ·rfl
def ku {kindOf:Str->Option NameKind}{x:Str}:∀ {binds:List 2#18} {m:Str->Option Value},(∀ v,(x,v)∉binds)->bindC kindOf binds m x=m x
 |[],_,_=>rfl
 | (n,v)::r,m,h=>by
  unfold bindC;rw[ku λ w hw=>h w (De _ hw)]
  split
  ·rfl
  ·have:x≠n:=by rintro rfl;exact h v Dh
   simp[this]
def kI {kindOf:Str->Option NameKind}{x:Str}{v:Value}:∀ {P:List Str} {vs:List Value} {i:Nat} {m:Str->Option Value},P.Nodup->P[i]?=some x->vs[i]?=some v->kindOf x=some .local ->
  bindL kindOf (P.zip vs) m x=some v
 |[],_,_,_,_,h,_,_=>by simp at h
 |_::_,[],_,_,_,_,h,_=>by simp at h
 |p::P,w::vs,0,m,nd,h1,h2,hk=>by
  simp at h1 h2;subst h1;subst h2;show bindL kindOf ((p,w)::P.zip vs) m p=_
  unfold bindL;rw[kR λ v hv=>(List.nodup_cons.mp nd).1 (E2 hv).1,if_pos hk];simp
 |p::P,w::vs,i+1,m,nd,h1,h2,hk=>by
  show bindL kindOf ((p,w)::P.zip vs) m x=_
  unfold bindL;exact kI (i:=i) (List.nodup_cons.mp nd).2 (by simpa using h1) (by simpa using h2) hk
def kT {kindOf:Str->Option NameKind}{x:Str}{v:Value}:∀ {P:List Str} {vs:List Value} {i:Nat} {m:Str->Option Value},P.Nodup->P[i]?=some x->vs[i]?=some v->kindOf x≠some .local ->
  bindC kindOf (P.zip vs) m x=some v
 |[],_,_,_,_,h,_,_=>by simp at h
 |_::_,[],_,_,_,_,h,_=>by simp at h
 |p::P,w::vs,0,m,nd,h1,h2,hk=>by
  simp at h1 h2;subst h1;subst h2;show bindC kindOf ((p,w)::P.zip vs) m p=_
  unfold bindC;rw[ku λ v hv=>(List.nodup_cons.mp nd).1 (E2 hv).1,if_neg hk];simp
 |p::P,w::vs,i+1,m,nd,h1,h2,hk=>by
  show bindC kindOf ((p,w)::P.zip vs) m x=_
  unfold bindC;exact kT (i:=i) (List.nodup_cons.mp nd).2 (by simpa using h1) (by simpa using h2) hk
def start (N:List Str)(vs:List V):St:=vs.map some++List.replicate (N.length-vs.length) none
def cF (CX:CXT)(P:Program)(w:World)(K:GA)(mg:Str->Option Value)(base:Heap)(N:List Str)(qual:Str)(scope:Scope)(f:Addr)(cd:Value)(A:Around)(outer:List Env)(s:Shared)(H:Hp)(E:XK):Cx where
 prog:=P
 w:=w
 K:=K
 mg:=mg
 base:=base
 A:=A.deeper 0#38
 N:=N
 s₀:=s
 H₀:=H
 env:=envOfC qual scope s.heap.objs.size f cd
 outer:=outer
 stack:=envOfC qual scope s.heap.objs.size f cd::outer
 ex:=[]
 calm:=true
 fn:=λ _=>true
 pn:=[]
 xe:=λ e s'=>wpAny 2#16 (A.deeper 0#38) (leaving 0#38 e) (λ _ s''=>CX outer H s E e s'') (λ e' s''=>CX outer H s E e' s'') s'
def m4 {sc:Scope}{n:Nat}{x:Str}(h:sc.names.lookup x=some .cell):∃ c,(cellsFrom n sc.names []).lookup x=some c:=by
 have q:=Ip sc.names n [] (.inl h);exact Option.isSome_iff_exists.mp q
def kq {CX:CXT}{P:Program}{w:World}{K:GA}{mg:Str->Option Value}{base:Heap}{N ps:List Str}{qual:Str}{scope:Scope}{f:Addr}{cd:Value}{A:Around}{outer:List Env}{s s1:Shared}{H:Hp}{E:XK}{us:List Value}{vs:List V}
  (S:FnScope N ps scope) (hd:A.handled=none) (e0:Env0 P w K mg base A outer s H) (hl:vs.length=ps.length) (r:Vals vs us)
  (x:InCallC s s.heap.objs.size (bindL (envOfC qual scope s.heap.objs.size f cd).kindOf 2#2 λ _=>none) (cellsFrom 0#15 scope.names []) (bindC (envOfC qual scope s.heap.objs.size f cd).kindOf 2#2 λ _=>none) s1):
  Inv (cF CX P w K mg base N qual scope f cd A outer s H E) [] 1#98 H s1:=by
 have hpl:ps.length<=N.length:=by have:=congrArg List.length S.pre;rw[Ep] at this;omega
 obtain⟨h1,tk,rfl,hk⟩:=x.done;have noA:∀ b:Addr,b∉(cF CX P w K mg base N qual scope f cd A outer s H E).ex:=λ b z=>absurd (show b∈([]:List Addr) from z) 0#5
 refine⟨⟨e0.mod,S.kind,rfl,rfl,Du _,λ y z c h1 h2=>?_,λ y hy=>?_,λ y c _ h=>?_,λ _=>hd,Around.frames_deeper e0.frames,.inr ⟨rfl,rfl⟩,λ b z=>absurd z (noA b),e0.bs,e0.bsz,λ b _ _=>noA b,λ b z=>absurd z (noA b),e0.funs,e0.frf⟩,
  rfl,e0.bare,Un.kept hk,⟨_,x.toInCall.ns,λ i y v h1 h2 h3=>?_⟩,λ y c h=>⟨_,x.cell y c h⟩,e0.hok.fresh (Du _),λ y c h=>?_,λ p hp=>absurd (show p∈([]:List 0#18) from hp) 0#5,e0.hok.kept hk,?_⟩
 ·exact name_of_addr x.apart (HG h1) (HG h2)
 ·have hy:scope.names.lookup y=some .cell\/scope.names.lookup y=some .free:=hy
  rcases hy with hy|hy
  ·exact m4 hy
  ·exact absurd rfl (S.nofree _ (HG hy))
 ·exact EB (x.above y c (HG h))
 ·have hi:i<vs.length:=by
   unfold start at h2;by_cases hi:i<vs.length
   ·exact hi
   ·rw[DX 1#11] at h2
    rw[Eh] at h2
    split at h2 <;>cases h2
  have ha:vs[i]?=some v:=by
   unfold start at h2;rw[DI 1#11,DD] at h2;cases e:vs[i]? with
   |none=>rw[e] at h2;cases h2
   |some a=>rw[e] at h2;cases h2;rfl
  obtain⟨u,hu,rv⟩:=r.get ha;have hp:ps[i]?=some y:=by
   rw[<- S.pre,EM ⋯];exact h1
  have ndP:ps.Nodup:=by rw[<- S.pre];exact S.nd.sublist (List.take_sublist _ _)
  refine⟨u,rv,?_⟩
  rcases S.par y (DW hp) with k|k
  ·exact .inl ⟨k,kI ndP hp hu k⟩
  ·obtain⟨c,e⟩:=m4 (n:=s.heap.objs.size+1) k
   refine .inr ⟨.inl k,c,e,?_⟩;have q:=x.cell y c e;rw[kT ndP hp hu (by show scope.names.lookup y≠_;rw[k];decide)] at q;exact q
 ·exact e0.hok.fresh (EB (x.above y c (HG h)))
 ·unfold start
  show _=N.length
  rw[Dz,Di,DS];omega
def qC {CX:CXT}{P:Program}{w:World}{K:GA}{mg:Str->Option Value}{base:Heap}{k:Nat}{f:Addr}{name qual:Str}{params:Arguments}{body:List Stmt}{scope:Scope}{dV kV doc pm cdv ct oc:Value}{an od:Option Addr}
  {osl:Array 0#82} {N ps:List Str} {sp:Sp} (lk:K.lookup f=some ⟨oc,od,.func (GJ name qual params body scope dV kV doc pm an cdv ct),osl⟩) (hcd:G4 K cdv qual=true) (S:FnScope N ps scope)
  (len:∀ vs H Q E,sp vs H Q E->vs.length=ps.length)
  (hbody:∀ (A:Around) (outer:List Env) (s:Shared) (H:Hp) (vs:List V) (Q:VK) (E:XK),Room k (A.deeper (envOfC qual scope s.heap.objs.size f cdv))->sp vs H Q E ->
   ∃ t,PSs (cF CX P w K mg base N qual scope f cdv A outer s H E) body t/\t { nx:=λ _ H'=>Q .non H',rt:=Q } 1#98 H):
  FnOk P w K mg base CX (k+1) f (GJ name qual params body scope dV kV doc pm an cdv ct) ps sp:=by
 refine⟨len,λ A outer s H args us vs Q E hr e0 hb r hsp=>?_⟩;have hl:=len _ _ _ _ hsp;have KX:K.In s.heap:=e0.mod.kin.keeps λ b o e=>(e0.bs b o e).1
 have lim:s.heap.NoLimit:=e0.mod.nolimit.keeps λ b o e=>(e0.bs b o e).1
 have hkind:∀ y∈ps.zip us,scope.names.lookup y.1=some .local\/(scope.names.lookup y.1=some .cell/\((cellsFrom 0#15 scope.names []).lookup y.1).isSome=true):=λ⟨n,v⟩ hy=>by
  rcases S.par n (E2 hy).1 with q|q
  ·exact .inl q
  ·exact .inr ⟨q,Ip _ _ _ (.inl q)⟩
 refine Jv hr.depth (KX _ _ lk) rfl S.co S.gen rfl (J2 KX hcd) (hb _ _ _ _ ?_);refine IM S.kind hkind λ env he s1 x=>?_
 subst he;refine⟨lim.keeps x.toInCall.keep,codeAny_func ?_⟩;obtain⟨t,ht,hq⟩:=hbody A outer s H vs Q E (hr.deeper _) hsp;have I:Inv (cF CX P w K mg base N qual scope f cdv A outer s H E) [] 1#98 H s1:=kq S hr.hd e0 hl r x;refine GL (ht [] s1 1#98 H _ I hq) (λ fl s' hs=>?_) λ e s' hs=>hs
 have fin:∀ {σ':St} {H':Hp} {v:V} {u:Value},Inv (cF CX P w K mg base N qual scope f cdv A outer s H E) [] σ' H' s'->RelV v u->Q v H'->CE outer P w H s Q u s':=
  λ {σ' H' v u} J rv q=>⟨v,H',J.os,J.bare,J.base,J.hok,rv,q⟩
 cases fl with
 |ret u=>
  obtain⟨v,σ',H',J,rv,q⟩:=hs;exact fin J rv q
 |next=>
  obtain⟨σ',H',J,q⟩:=hs;exact fin (v:=V.non) (u:=GN) J rfl q
 |brk=>
  obtain⟨_,_,_,q⟩:=hs;exact GQ q
 |cont=>
  obtain⟨_,_,_,q⟩:=hs;exact GQ q
section
variable {X:Cx}{x:Str}{p pos:Pos}{e:Expr}{es:List Expr}{t:TA}{id T:String}{r:List V->Hp->VK->Prop}
def tCB (r:List V->Hp->VK->Prop)(t:TA):TE:=λ σ H Q=>t σ H λ vs H1=>r vs H1 Q
def bu (hc:cP X (.builtin id) r)(hg:Gl X x)(hm:X.mg x=none)(hv:bootBuiltins x=some 1#77)(ha:PA X (e::es) t)(hn:autoParam 1#69 ZC._auto_1)(hdb:autoParam 0#4 ZC._auto_1)
  (he:autoParam (starEach (e::es) X.env=0#74::starEach es X.env) ZF._auto_1) (hpl:autoParam 0#77 ZF._auto_1):PE X 0#54 (tCB r t):=by
 intro pins s σ H Q I h;refine G1 (cY I hg hm hv ?_ hn hdb);exact Iw (thn 0#66 λ us s1 ⟨vs,H1,I1,r1,q1⟩=>hc pins s1 σ H1 vs us Q I1 r1 q1) he hpl
def um (hc:cP X (.type T) r)(hg:Gl X x)(hm:X.mg x=none)(hv:bootBuiltins x=some (.type T))(ha:PA X (e::es) t)(hn:autoParam 1#69 ZC._auto_1)(hdb:autoParam 0#4 ZC._auto_1)
  (he:autoParam (starEach (e::es) X.env=0#74::starEach es X.env) ZF._auto_1) (hpl:autoParam 0#77 ZF._auto_1):PE X 0#54 (tCB r t):=by
 intro pins s σ H Q I h;refine G1 (cY I hg hm hv ?_ hn hdb);exact GT (thn 0#66 λ us s1 ⟨vs,H1,I1,r1,q1⟩=>hc pins s1 σ H1 vs us Q I1 r1 q1) he hpl
end
end L2
namespace HT
open PySem PyProof.Rows
def wt (A:Around)(s:Shared)(a:Int)(t:Tok)(c:Int)(u:Tok):∃ e,Kk A s (.int a t) (.int c u) e/\(e=true ↔ a=c):=
 ⟨(a == c),J3 a t c u,by simp⟩
def vR (A:Around)(s:Shared)(a:Int)(t:Tok)(c:Int)(u:Tok)(prog:Program)(w:World)(E:Value->Shared->Prop)(Q:Value->Shared->Prop)(h:Q (.bool (decide (a<c))) s):
  wpAny 0#7 A (richCompare .Lt (.int a t) (.int c u)) Q E s:=
 (PyProof.Rows.lt_int h:wpAny 0#7 A (compareOp .Lt (.int a t) (.int c u)) Q E s)
section
open PySem.SeqAt
open PySem.AutoSeq1 (wpAny_loadPart')
open PySem.MeetsSeq PySem.MeetsSeq2 PySem.MeetsSeq3
end
section
variable {prog:Program}{w:World}{A:Around}{E:Value->Shared->Prop}{s:Shared}
def sIx (n d:Nat):Option Int->Nat
 |none=>d
 |some v=>if v<0 then (v+(n:Int)).toNat else min v.toNat n
end
end HT
namespace L2
open PySem PySem.Spec PyProof.Rows
abbrev TO:=St->Hp->(Option Int->Hp->Prop)->Prop
def PO (X:Cx)(e:Option Expr)(t:TO):Prop:=
 ∀ (pins:List 0#18) (s:Shared) (σ:St) (H:Hp) (Q:Option Int->Hp->Prop),Inv X pins σ H s->t σ H Q ->
  wpAny 0#3 X.A (evalPart e X.env) (λ u s'=>∃ o H',Inv X pins σ H' s'/\IsPart u o/\Q o H') X.xe s
def yu:TO:=λ _ H Q=>Q none H
def zB (t:TE):TO:=λ σ H Q=>t σ H λ x H1=>∃ i,x=.int i/\Q (some i) H1
def intsAre_of {ns:List Int}:∀ {us:List Value},Vals 1#20 us->IntsAre us ns:=by
 induction ns with
 |nil=>intro us r;rw[Dj] at r;cases r;exact .nil
 |cons n ns ih=>
  intro us r;rw[C9] at r;cases r with
  |cons r1 r2=>
   obtain⟨t,e⟩:=r1;subst e;exact .cons n t (ih r2)
section
variable {X:Cx}{e:Expr}{te:TE}{lo hi:Option Expr}{tl th:TO}{pos p2:Pos}
def xV:PO X none yu:=by
 intro pins s σ H Q I h;rw[JJ];exact GD ⟨none,H,I,.none,h⟩
def sG (h:PE X e te):PO X (some e) (zB te):=by
 intro pins s σ H Q I hw;rw[evalPart_some];refine thn (h pins s σ H _ I hw) λ u s1 ⟨x,H1,I1,r1,q1⟩=>?_
 obtain⟨i,rfl,q⟩:=q1;obtain⟨t,rfl⟩:=r1;exact⟨some i,H1,I1,.int i t,q⟩
def SlR (X:Cx)(r:V->Option Int->Option Int->Hp->VK->Prop):Prop:=
 ∀ (pins:List 0#18) (s:Shared) (σ:St) (H:Hp) (x:V) (v vl vu:Value) (lo hi:Option Int) (sl:Addr) (Q:VK),Inv X pins σ H s->RelV x v->s.heap.IsSliceOf sl vl vu .none->IsPart vl lo->IsPart vu hi->r x lo hi H Q ->
  ∃ T id,typeLookup (.type T) "__getitem__"=pure (some 1#77)/\s.TypeIs v T/\wpAny 0#3 X.A (getItem v (.ref sl)) 0#53 X.xe s
def tSl (r:V->Option Int->Option Int->Hp->VK->Prop)(te:TE)(tl th:TO):TE:=λ σ H Q=>te σ H λ x H1=>tl σ H1 λ l H2=>th σ H2 λ u H3=>r x l u H3 Q
def vX {r:V->Option Int->Option Int->Hp->VK->Prop}(hr:SlR X r)(he:PE X e te)(hl:PO X lo tl)(hu:PO X hi th):PE X (.Subscript e (.Slice lo hi none p2) pos) (tSl r te tl th):=by
 intro pins s σ H Q I h;refine JD (thn 0#62 λ v s1 ⟨x,H1,I1,r1,q1⟩=>?_);refine wpAny_Slice (thn (hl pins s1 σ H1 _ I1 q1) λ vl s2 ⟨l,H2,I2,pl,q2⟩=>thn (hu pins s2 σ H2 _ I2 q2) λ vu s3 ⟨u,H3,I3,pu,q3⟩=>?_);rw[JJ];refine GD ?_
 have I4:Inv X pins σ H3 { s3 with heap:=s3.heap.push { cls:=.type "slice",data:=.fields #[vl,vu,.none] } }:=I3.kept (t':=s3.toks) λ b ob q=>GC _ q
 obtain⟨T,id,hT,ht,hg⟩:=hr pins { s3 with heap:=s3.heap.push { cls:=.type "slice",data:=.fields #[vl,vu,.none] } } σ H3 x v vl vu l u s3.heap.objs.size Q I4 r1 (J4 ..) pl pu q3;show wpAny 0#3 X.A (subscriptTail e (.Slice lo hi none p2) v (.ref s3.heap.objs.size)) 0#53 X.xe { s3 with heap:=s3.heap.push { cls:=.type "slice",data:=.fields #[vl,vu,.none] } }
 exact tail_any (ops:=[.ref s3.heap.objs.size,v]) ht hT hg (by with_unfolding_all rfl)
def uJ (xs:List V)(lo hi:Option Int):List V:=(xs.drop (HT.sIx xs.length 0 lo)).take (HT.sIx xs.length xs.length hi-HT.sIx xs.length 0 lo)
def nu (xs:List V)(lo hi:Option Int):(uJ xs lo hi).length<=xs.length:=by
 unfold uJ;rw[Ep,List.length_drop];omega
end
def ixN (n:Nat)(i:Int):Option Nat:=if 0<=i then (if i<n then some i.toNat else none) else if -(n:Int)<=i then some (i+n).toNat else none
def atI {α:Type}(xs:List α)(i:Int):Option α:=(ixN xs.length i).bind λ j=>xs[j]?
def qu {n:Nat}{i:Int}{j:Nat}(h:ixN n i=some j):seqIndex? i n=some j/\j<n/\-(n:Int)<=i/\i<n:=by
 unfold ixN at h;by_cases h0:0<=i
 ·rw[if_pos h0] at h
  by_cases h1:i<n
  ·rw[if_pos h1] at h
   have e:i.toNat=j:=Option.some.inj h;exact⟨by rw[Jm h0 h1,e],⋯,⋯,h1⟩
  ·rw[if_neg h1] at h;cases h
 ·rw[if_neg h0] at h
  by_cases h1:-(n:Int)<=i
  ·rw[if_pos h1] at h
   have e:(i+n).toNat=j:=Option.some.inj h;exact⟨by rw[J5 ⋯ h1,e],⋯,h1,⋯⟩
  ·rw[if_neg h1] at h;cases h
def iR {α:Type}{xs:List α}{i:Int}{v:α}(h:atI xs i=some v):∃ j,seqIndex? i xs.length=some j/\xs[j]?=some v/\j<xs.length/\-(xs.length:Int)<=i/\i<xs.length:=by
 unfold atI at h;cases e:ixN xs.length i with
 |none=>rw[e] at h;cases h
 |some j=>
  rw[e] at h;obtain⟨h1,h2,h3,h4⟩:=qu e;exact⟨j,h1,h,h2,h3,h4⟩
def lF {α:Type}{xs:List α}{j:Nat}{v:α}(h:xs[j]?=some v):atI xs (j:Int)=some v:=by
 have hj:j<xs.length:=(List.getElem?_eq_some_iff.mp h).1;have e:ixN xs.length (j:Int)=some j:=by
  unfold ixN;rw[if_pos ⋯,if_pos ⋯];simp
 unfold atI;rw[e];exact h
def mz (b:Expr):Prop:=∀ o i,subscripted b false o i=operate [o,i] (getItem o i)
def IxR (X:Cx)(r:R2):Prop:=
 ∀ (value slice:Expr) (pins:List 0#18) (s:Shared) (σ:St) (H:Hp) (x y:V) (v u:Value) (Q:VK),Inv X pins σ H s->RelV x v->RelV y u->r x y H Q ->
  subscripted slice false v u=operate [v,u] (getItem v u)->wpAny 0#3 X.A (subscriptTail value slice v u) 0#53 X.xe s
def MtR (X:Cx)(id:String)(r:V->List V->Hp->VK->Prop):Prop:=
 ∀ (pins:List 0#18) (s:Shared) (σ:St) (H:Hp) (x:V) (xs:List V) (v:Value) (us:List Value) (Q:VK),Inv X pins σ H s->RelV x v->Vals xs us->r x xs H Q ->
  wpAny 0#3 X.A (call 1#77 (v::us)) 0#53 X.xe s
section
variable {X:Cx}{a b:Expr}{ta tb:TE}{pos:Pos}
def IxR.or {r r':R2}(h:IxR X r)(h':IxR X r'):IxR X (λ x y H Q=>r x y H Q\/r' x y H Q):=by
 intro value slice pins s σ H x y v u Q I rx ry q hs
 rcases q with q|q
 ·exact h value slice pins s σ H x y v u Q I rx ry q hs
 ·exact h' value slice pins s σ H x y v u Q I rx ry q hs
def sE {r:R2}(hr:IxR X r)(ha:PE X a ta)(hb:PE X b tb)(hs:mz b):PE X (.Subscript a b pos) 2#63:=by
 intro pins s σ H Q I h;exact JD (Bj ha hb I h λ v u s2 x y H2 I2 rx ry q=>hr a b pins s2 σ H2 x y v u Q I2 rx ry q (hs _ _))
def Aw (K:GA):R2:=λ x y H Q=>∃ p xs i v,x=.ref p/\y=.int i/\SqL K H p xs/\atI xs i=some v/\Q v H
def CS (K:GA):R2:=λ x y H Q=>∃ p xs i v,x=.ref p/\y=.int i/\SqT K H p xs/\atI xs i=some v/\Q v H
def ix_list:IxR X (Aw X.K):=by
 intro value slice pins s σ H x y v u Q I rx ry h hs;obtain⟨p,xs,i,z,rfl,rfl,hq,he,q⟩:=h;cases rx;obtain⟨t,rfl⟩:=ry;obtain⟨its,r,pl,hz⟩:=I.list hq;obtain⟨j,h1,h2,h3,h4,h5⟩:=iR he;obtain⟨w,ew,rw'⟩:=r.get h2;have hl:=r.length;have hn:=jU;have fin:EP X pins σ Q w s:=⟨z,H,I,rw',q⟩;by_cases h0:0<=i
 ·have hj:i.toNat=j:=by
   rw[Jm h0 h5] at h1;exact Option.some.inj h1
  exact item_listR pl.isList h0 ⋯ (by rw[hj];simpa using ew) fin hs
 ·have hj:(i+(its.toArray.size:Int)).toNat=j:=by
   rw[J5 ⋯ h4] at h1;rw[Ds,<- hl];exact Option.some.inj h1
  exact Jn (x:=w) pl.isList.typeIs slot_list_getitem.lookup
   (wpAny_getItem_list_neg (Q:=λ r s'=>r=w/\EP X pins σ Q r s') pl.isList ⋯ (by rw[Ds] <;>omega) ⋯ (by rw[hj];simpa using ew) ⟨rfl,fin⟩) hs
def xr:IxR X (CS X.K):=by
 intro value slice pins s σ H x y v u Q I rx ry h hs;obtain⟨p,xs,i,z,rfl,rfl,hq,he,q⟩:=h;cases rx;obtain⟨t,rfl⟩:=ry;obtain⟨its,r,pl,hz⟩:=I.tuple hq;obtain⟨j,h1,h2,h3,h4,h5⟩:=iR he;obtain⟨w,ew,rw'⟩:=r.get h2;have hl:=r.length;have hn:=jU;have fin:EP X pins σ Q w s:=⟨z,H,I,rw',q⟩;exact Jn (x:=w) pl.typeIs slot_tuple_getitem.lookup
  (getItem_tuple (j:=j) (Q:=λ r s'=>r=w/\EP X pins σ Q r s') pl ⋯ ⋯ (by rw[Ds,<- hl];exact h1) (by simpa using ew) ⟨rfl,fin⟩) hs
def oY (its:List Value)(n j:Nat)(u:Value):GZ (·.setIfInBounds j u) { cls:=.type "list",data:=.seq its.toArray n }={ cls:=.type "list",data:=.seq (its.set j u).toArray n }:=by
 simp[GZ]
def Inv.lst {pins:List (Addr×Obj)}{σ:St}{H:Hp}{s:Shared}{p:Addr}{xs:List V}(I:Inv X pins σ H s)(h:H p=some 1#37):
  ∃ (its:List Value) (n:Nat),Vals xs its/\s.heap.get? p=some { cls:=.type "list",data:=.seq its.toArray n }/\xs.length<=sizeLine:=by
 obtain⟨z,its,n,r,e⟩:=I.hok p _ h;exact⟨its,n,r,e,z⟩
def Inv.lstUpd {pins:List (Addr×Obj)}{σ:St}{H:Hp}{s:Shared}{p:Addr}{xs ys:List V}{its its':List Value}{n n':Nat}{f:Obj->Obj}(I:Inv X pins σ H s)(h:H p=some 1#37)
  (ho:s.heap.get? p=some { cls:=.type "list",data:=.seq its.toArray n }) (hf:f { cls:=.type "list",data:=.seq its.toArray n }={ cls:=.type "list",data:=.seq its'.toArray n' }) (r:Vals ys its') (hz:ys.length<=sizeLine) (t:Nat):
  Inv X pins σ (upd H p (.lst ys)) { s with heap:=s.heap.update p f,toks:=t }:=by
 have e:(s.heap.update p f).get? p=some { cls:=.type "list",data:=.seq its'.toArray n' }:=by
  rw[HP f ho (by rw[hf] <;>rfl),hf]
 refine I.write (x:=p) (e:=p) (by rw[h];trivial) 0#76 (λ b u hb q=>(GK _ _ (Ne.symm hb)).trans q) ⟨_,e⟩ ?_
 exact⟨hz,its',n',r,e⟩
def zV:V->V->V->Hp->(Hp->Prop)->Prop:=λ o i v H Q=>∃ p xs k j,o=.ref p/\i=.int k/\H p=some 1#37/\ixN xs.length k=some j/\Q (upd H p (.lst (xs.set j v)))
def set_list:A3 X zV:=by
 intro pins s σ H o i v ov iv u Q I ro ri rv h;obtain⟨p,xs,k,j,rfl,rfl,hp,hj,q⟩:=h;cases ro;obtain⟨t,rfl⟩:=ri;obtain⟨its,n,r,ho,hz⟩:=I.lst hp;obtain⟨h1,h2,h3,h4⟩:=qu hj;have hl:=r.length;have hn:=jU;have I':Inv X pins σ (upd H p (.lst (xs.set j v))) { s with heap:=s.heap.update p (GZ (·.setIfInBounds j u)) }:=
  I.lstUpd hp ho (oY its n j u) (r.set rv j) (by rw[DE];exact hz) s.toks
 by_cases h0:0<=k
 ·have hk:k.toNat=j:=by
   rw[Jm h0 h4] at h1;exact Option.some.inj h1
  exact PySem.W.ki_setAt ho h0 ⋯ (by rw[Ds,<- hl];exact h4) (by rw[hk];exact⟨_,I',q⟩)
 ·have hk:(k+(its.toArray.size:Int)).toNat=j:=by
   rw[J5 ⋯ h3] at h1;rw[Ds,<- hl];exact Option.some.inj h1
  exact PySem.W.ki_setBack ho ⋯ (by rw[Ds,<- hl];exact h3) ⋯ (by rw[hk];exact⟨_,I',q⟩)
def lO (lo hi:Option Int)(n:Nat):(sliceBounds lo hi none n).1=((HT.sIx n 0 lo:Nat):Int)/\(sliceBounds lo hi none n).2.1=((HT.sIx n n hi:Nat):Int)/\(sliceBounds lo hi none n).2.2=1:=by
 refine⟨?_,?_,rfl⟩
 ·cases lo with
  |none=>simp[sliceBounds,HT.sIx]
  |some i=>
   simp only[sliceBounds,HT.sIx,F6,show (1:Int) > 0 by decide,if_true];by_cases h:i<0
   ·simp only[h,if_true] <;>omega
   ·simp only[h,if_false] <;>omega
 ·cases hi with
  |none=>simp[sliceBounds,HT.sIx]
  |some i=>
   simp only[sliceBounds,HT.sIx,F6,show (1:Int) > 0 by decide,if_true];by_cases h:i<0
   ·simp only[h,if_true] <;>omega
   ·simp only[h,if_false] <;>omega
def j5 (its:List Value)(lo hi:Option Int):slicePick its.toArray lo hi none=((its.drop (HT.sIx its.length 0 lo)).take (HT.sIx its.length its.length hi-HT.sIx its.length 0 lo)).toArray:=by
 obtain⟨h1,h2,h3⟩:=lO lo hi its.toArray.size;unfold slicePick;rw[h1,h2,h3];simp only[sliceRange_one,pick_run,Ds] <;>rfl
def CZ (K:GA):V->Option Int->Option Int->Hp->VK->Prop:=λ x lo hi H Q=>∃ a xs,x=.ref a/\SqL K H a xs/\∀ p,H p=none->Q (.ref p) (upd H p (.lst (uJ xs lo hi)))
def yd:SlR X (CZ X.K):=by
 intro pins s σ H x v vl vu lo hi sl Q I rx hs pl pu h;obtain⟨a,xs,rfl,hx,q⟩:=h;cases rx;obtain⟨its,r,ht,hz⟩:=I.list hx;have hlen:=r.length;refine⟨"list",_,slot_list_getitem.lookup,ht.isList.typeIs,?_⟩;refine IW ht.isList hs pl pu .none 0#5 ?_ (by rw[Ds] <;>omega)
 rw[j5,<- hlen];refine⟨.ref s.heap.objs.size,_,I.laid (t':=s.toks) (o:=.lst (uJ xs lo hi)) (λ b ob q=>GC _ q) (Du _) ?_,rfl,q _ (I.hok.fresh (Du _))⟩;exact⟨D4 (nu xs lo hi) hz,_,0,(r.drop (HT.sIx xs.length 0 lo)).take (HT.sIx xs.length xs.length hi-HT.sIx xs.length 0 lo),GF _ rfl⟩
def fJ:V->Bool
 |.non=>true
 |.bl _=>true
 |.int _=>true
 |.str _=>true
 |_=>false
def eqV:V->V->Bool
 |.non,.non=>true
 |.bl a,.bl b=>a == b
 |.bl a,.int b=>(if a then 1 else 0) == b
 |.int a,.bl b=>a == (if b then 1 else 0)
 |.int a,.int b=>a == b
 |.str a,.str b=>a == b
 |_,_=>false
def AV {A:Around}{s:Shared}{y x:V}{u v:Value}(ry:RelV y u)(rx:RelV x v)(fy:fJ y=true)(fx:fJ x=true):Kk A s u v (eqV y x):=by
 cases y with
 |non=>
  cases ry;cases x with
  |non=>cases rx;exact SeqAt.EqAt.same _
  |bl b=>cases rx;exact SeqAt.EqAt.none_bool b
  |int b=>obtain⟨t,rfl⟩:=rx;exact SeqAt.EqAt.none_int b t
  |str b=>obtain⟨t,rfl⟩:=rx;exact SeqAt.EqAt.none_str b t
  |_=>exact absurd (show false=true from fx) DB
 |bl a=>
  cases ry;cases x with
  |non=>cases rx;exact SeqAt.EqAt.bool_none a
  |bl b=>cases rx;exact SeqAt.EqAt.bool_bool a b
  |int b=>obtain⟨t,rfl⟩:=rx;exact SeqAt.EqAt.bool_int a b t
  |str b=>obtain⟨t,rfl⟩:=rx;exact SeqAt.EqAt.bool_str a b t
  |_=>exact absurd (show false=true from fx) DB
 |int a=>
  obtain⟨t',rfl⟩:=ry;cases x with
  |non=>cases rx;exact SeqAt.EqAt.int_none a t'
  |bl b=>cases rx;exact SeqAt.EqAt.int_bool a t' b
  |int b=>obtain⟨t,rfl⟩:=rx;exact J3 a t' b t
  |str b=>obtain⟨t,rfl⟩:=rx;exact JU a t' b t
  |_=>exact absurd (show false=true from fx) DB
 |str a=>
  obtain⟨t',rfl⟩:=ry;cases x with
  |non=>cases rx;exact SeqAt.EqAt.str_none a t'
  |bl b=>cases rx;exact SeqAt.EqAt.str_bool a t' b
  |int b=>obtain⟨t,rfl⟩:=rx;exact JV a t' b t
  |str b=>obtain⟨t,rfl⟩:=rx;exact SeqAt.EqAt.str_str a t' b t
  |_=>exact absurd (show false=true from fx) DB
 |_=>exact absurd (show false=true from fy) DB
def eqU (x:V)(u:Value):Bool:=match u with
 |.none=>eqV .non x
 |.bool b=>eqV (.bl b) x
 |.int i _=>eqV (.int i) x
 |.str z _=>eqV (.str z) x
 |_=>false
def vI {x y:V}{u:Value}(r:RelV y u)(f:fJ y=true):eqU x u=eqV y x:=by
 cases y with
 |non=>cases r;rfl
 |bl b=>cases r;rfl
 |int i=>obtain⟨t,rfl⟩:=r;rfl
 |str z=>obtain⟨t,rfl⟩:=r;rfl
 |_=>exact absurd (show false=true from f) DB
def mf {x:V}:∀ {xs:List V} {us:List Value},Vals xs us->xs.all fJ=true->us.any (eqU x)=xs.any λ y=>eqV y x
 |_,_,.nil,_=>rfl
 |y::xs,u::us,.cons r t,f=>by
  rw[Gp,Dl] at f;rw[Eu,Eu,vI r f.1,mf t f.2]
def jW {A:Around}{s:Shared}{x:V}{v:Value}(rx:RelV x v)(fx:fJ x=true):∀ {xs:List V} {us:List Value},Vals xs us->xs.all fJ=true->∀ u∈us,Kk A s u v (eqU x u)
 |_,_,.nil,_=>λ u hu=>by cases hu
 |y::xs,u::us,.cons r t,f=>λ u' hu=>by
  rw[Gp,Dl] at f
  rcases List.mem_cons.mp hu with rfl|hu
  ·rw[vI r f.1];exact AV r rx f.1 fx
  ·exact jW rx fx t f.2 u' hu
def inV (x:V)(xs:List V):Bool:=xs.any λ y=>eqV y x
def rIn (K:GA)(neg:Bool):R2:=λ x y H Q=>∃ p xs,y=.ref p/\(SqL K H p xs\/SqT K H p xs)/\fJ x=true/\xs.all fJ=true/\Q (.bl (if neg then !inV x xs else inV x xs)) H
def t4:OpR X (compareOp .In) (rIn X.K false):=by
 intro pins s σ H x y v u Q I rx ry h;obtain⟨p,xs,rfl,hq,fx,fs,q⟩:=h;cases ry
 rcases hq with hq|hq
 ·obtain⟨its,r,pl,hz⟩:=I.list hq
  refine SeqAt.in_listAt (eqU x) pl.isList (λ w hw=>jW rx fx r fs w (by simpa using hw)) ⟨.bl _,H,I,rfl,?_⟩;rw[show its.toArray.any (eqU x)=its.any (eqU x) by simp,mf r fs];exact q
 ·obtain⟨its,r,pl,hz⟩:=I.tuple hq
  refine SeqAt.in_tupleAt (eqU x) pl (λ w hw=>jW rx fx r fs w (by simpa using hw)) ⟨.bl _,H,I,rfl,?_⟩;rw[show its.toArray.any (eqU x)=its.any (eqU x) by simp,mf r fs];exact q
def bj:cP X (.builtin "len") (λ xs H Q=>∃ p ys,xs=[.ref p]/\(SqL X.K H p ys\/SqT X.K H p ys)/\Q (.int ys.length) H):=by
 intro pins s σ H xs us Q I r h;obtain⟨p,ys,rfl,hq,q⟩:=h;obtain⟨u,rfl,rx⟩:=vals1 r;cases rx;have hn:=jU
 rcases hq with hq|hq
 ·obtain⟨its,r',pl,hz⟩:=I.list hq
  have hlen:=r'.length;exact Calls.call_len_list pl.isList 1#33 ⟨.int ys.length,H,I.tok _,⟨s.toks+1,by rw[Ds,hlen]⟩,q⟩
 ·obtain⟨its,r',pl,hz⟩:=I.tuple hq
  have hlen:=r'.length;exact len_tuple pl 1#33 ⟨.int ys.length,H,I.tok _,⟨s.toks+1,by rw[Ds,hlen]⟩,q⟩
def lZ:cP X (.type "list") (λ xs H Q=>∃ p ys,xs=[.ref p]/\(SqL X.K H p ys\/SqT X.K H p ys)/\∀ l,H l=none->Q (.ref l) (upd H l (.lst ys))):=by
 intro pins s σ H xs us Q I r h;obtain⟨p,ys,rfl,hq,q⟩:=h;obtain⟨u,rfl,rx⟩:=vals1 r;cases rx;have fin:∀ (its:List Value),Vals ys its->ys.length<=sizeLine->∀ (h':Heap) (c':Nat),(∀ b o',s.heap.get? b=some o'->h'.get? b=some o') ->
   h'.get? s.heap.objs.size=some { cls:=.type "list",dict:=none,data:=.seq its.toArray c',slots:=#[] }->EP X pins σ Q 1#0 { s with heap:=h' }:=λ its r' hz h' c' kp e=>
  ⟨.ref s.heap.objs.size,_,I.laid (t':=s.toks) kp (Du _) (show ObjOk X.prog X.w _ h' _ (.lst ys) from ⟨hz,its,c',r',e⟩),rfl,q _ (I.hok.fresh (Du _))⟩
 rcases hq with hq|hq
 ·obtain⟨its,r',pl,hz⟩:=I.list hq
  have hlen:=r'.length;obtain⟨o,ho,hc,n,hd⟩:=pl.isList;exact call_list_seq p 0#76 ho hc hd (λ h' c' kp e=>fin its r' hz h' c' kp e) 1#33
 ·obtain⟨its,r',pl,hz⟩:=I.tuple hq
  have hlen:=r'.length;obtain⟨o,ho,hc,n,hd⟩:=pl;exact call_list_seq p (.inr rfl) ho hc hd (λ h' c' kp e=>fin its r' hz h' c' kp e) 1#33
def j9:cP X (.type "tuple") (λ xs H Q=>∃ p ys,xs=[.ref p]/\((SqL X.K H p ys/\∀ l,H l=none->Q (.ref l) (upd H l (.tup ys)))\/(SqT X.K H p ys/\Q (.ref p) H))):=by
 intro pins s σ H xs us Q I r h;obtain⟨p,ys,rfl,h⟩:=h;obtain⟨u,rfl,rx⟩:=vals1 r;cases rx
 rcases h with ⟨hq,q⟩|⟨hq,q⟩
 ·obtain⟨its,r',pl,hz⟩:=I.list hq
  have hlen:=r'.length;refine call_tuple_list pl.isList (λ h' kp=>?_) 1#33;have I1:Inv X pins σ H { s with heap:=h' }:=I.kept (t':=s.toks) kp;have I2:Inv X pins σ (upd H h'.objs.size (.tup ys)) { s with heap:=h'.push { cls:=.type "tuple",data:=.seq its.toArray } }:=
   I1.laid (t':=s.toks) (λ b o e=>GC _ e) (Du _) (show ObjOk X.prog X.w _ _ _ (.tup ys) from ⟨hz,its,r',IsTup.new _ _⟩)
  exact⟨.ref h'.objs.size,_,I2,rfl,q _ (I1.hok.fresh (Du _))⟩
 ·obtain⟨its,r',pl,hz⟩:=I.tuple hq
  exact call_tuple_same pl ⟨.ref p,H,I,rfl,q⟩
def tyV (K:GA)(T:String)(x:V)(H:Hp):Prop:=match x with
 |.str _=>T="str"
 |.int _=>T="int"
 |.ref p=>(T="list"/\∃ xs,SqL K H p xs)\/(T="tuple"/\∃ o,K.lookup p=some o/\o.cls=.type "tuple"/\o.dict=none) \/
   (T="dict"/\((∃ kvs,H p=some 1#96)\/∃ kvs,H p=some 2#78))\/(T="set"/\∃ S n,H p=some (.set S n))
 |_=>False
def wI {pins:List (Addr×Obj)}{σ:St}{H:Hp}{s:Shared}{T:String}{x:V}{v:Value}(I:Inv X pins σ H s)(r:RelV x v)(ty:tyV X.K T x H):
  s.TypeIs v T/\∀ a,v=.ref a->∃ ob,s.heap.get? a=some ob/\ob.dict=none:=by
 cases x with
 |str z=>
  obtain⟨t,rfl⟩:=r;cases (show T="str" from ty);exact⟨typeIs_str s z t,λ _ e=>nomatch e⟩
 |int i=>
  obtain⟨t,rfl⟩:=r;cases (show T="int" from ty);exact⟨typeIs_int s i t,λ _ e=>nomatch e⟩
 |ref p=>
  cases r
  rcases ty with ⟨rfl,xs,hq⟩|⟨rfl,o,hk,hc,hd⟩|⟨rfl,hk⟩|⟨rfl,S,n,hk⟩
  ·obtain⟨its,_,pl,_⟩:=I.list hq
   refine⟨pl.isList.typeIs,λ a e=>?_⟩;cases e;obtain⟨o,n,e,c,hd,_⟩:=pl;exact⟨o,e,hd⟩
  ·refine⟨⟨o,I.kIn p o hk,hc⟩,λ a e=>?_⟩
   cases e;exact⟨o,I.kIn _ o hk,hd⟩
  ·have z:∃ o,s.heap.get? p=some o/\o.ExactDict:=by
    rcases hk with ⟨kvs,hk⟩|⟨kvs,hk⟩
    ·obtain⟨_,_,_,_,o,_,_,e,ex,_⟩:=I.hok p _ hk
     exact⟨o,e,ex⟩
    ·obtain⟨_,_,_,_,o,_,_,e,ex,_⟩:=I.hok p _ hk
     exact⟨o,e,ex⟩
   obtain⟨o,e,ex⟩:=z;refine⟨⟨o,e,ex.1⟩,λ a e2=>?_⟩;cases e2;exact⟨o,e,ex.2.1⟩
  ·obtain⟨o,_,_,_,e,ex,_⟩:=I.hok p _ hk
   refine⟨⟨o,e,ex.1⟩,λ a e2=>?_⟩;cases e2;exact⟨o,e,ex.2.1⟩
 |_=>exact GQ ty
def CA (K:GA)(T:String)(r:V->List V->Hp->VK->Prop)(to:TE):TE:=λ σ H Q=>to σ H λ x H1=>tyV K T x H1/\r x [] H1 Q
def tBM (K:GA)(T:String)(r:V->List V->Hp->VK->Prop)(to:TE)(t:TA):TE:=λ σ H Q=>to σ H λ x H1=>tyV K T x H1/\t σ H1 λ xs H2=>r x xs H2 Q
variable {o e:Expr}{es:List Expr}{to:TE}{t:TA}{name:Str}{apos cpos:Pos}{T id:String}{r:V->List V->Hp->VK->Prop}
def Az (pa:PlainAttrs T)(slot:Slot T name id)(hty:typeOf 1#77=pure (.type "method_descriptor"))(hm:MtR X id r)(ho:PE X o to)
  (hbase:autoParam (attributeBase o name X.env 2#56=eval o X.env) ZF._auto_1) (hline:autoParam 2#69 ZF._auto_1):PE X (.Call (.Attribute o name apos) [] [] cpos) (CA X.K T r to):=by
 intro pins s σ H Q I h;refine wpAny_Call_method0_late hbase hline (thn 1#73 λ v s1 ⟨x,H1,I1,r1,ty,q1⟩=>?_);obtain⟨h1,h2⟩:=wI I1 r1 ty;exact⟨T,id,pa,slot,hty,h1,h2,Jo rfl (PySem.evalArgs_none (hm pins s1 σ H1 x [] v [] Q I1 r1 .nil q1))⟩
def fK (pa:PlainAttrs T)(slot:Slot T name id)(hty:typeOf 1#77=pure (.type "method_descriptor"))(hm:MtR X id r)(ho:PE X o to)(ha:PA X (e::es) t)
  (hbase:autoParam (attributeBase o name X.env 2#56=eval o X.env) ZF._auto_1)
  (hfew:autoParam (((backTo cpos (starEach (e::es) X.env)).all 2#37&&(backToKw cpos 1#72).all 1#49
   && decide ((e::es).length+([]:List Keyword).length+(if ([]:List Keyword).isEmpty then 0 else 1)<30))=true) ZF._auto_1)
  (hline:autoParam 2#69 ZF._auto_1) (hs:autoParam (starEach (e::es) X.env=0#74::starEach es X.env) ZF._auto_1) (hplain:autoParam ((backTo cpos 2#5).any (·.1)=false) ZF._auto_1):
  PE X (.Call (.Attribute o name apos) (e::es) [] cpos) (tBM X.K T r to t):=by
 intro pins s σ H Q I h;refine wpAny_Call_method_late hbase hfew hline rfl (thn 1#73 λ v s1 ⟨x,H1,I1,r1,ty,q1⟩=>?_);obtain⟨h1,h2⟩:=wI I1 r1 ty;refine⟨T,id,pa,slot,hty,h1,h2,?_⟩;have hA:=ha cpos pins s1 σ H1 _ I1 q1;rw[hs] at hA ⊢;refine Jo (by show (false || (backTo cpos 2#5).any (·.1))=false;rw[hplain] <;>rfl) (JE ?_);exact thn hA λ us s2 ⟨vs,H2,I2,r2,q2⟩=>hm pins s2 σ H2 x vs v us Q I2 r1 r2 q2
end
def MtM (X:Cx)(id:String)(r:V->List V->Hp->VK->Prop):Prop:=
 ∀ (pins:List 0#18) (s:Shared) (σ:St) (H:Hp) (x:V) (xs:List V) (v:Value) (us:List Value) (Q:VK),Inv X pins σ H s->RelV x v->Vals xs us->r x xs H Q ->
  wpAny 0#3 X.A (call 1#77 (v::us)) 0#53 X.xe s
def Vals.one {x:V}{us:List Value}(r:Vals [x] us):∃ u,us=[u]/\RelV x u:=by
 cases r with
 |cons r1 r2=>cases r2;exact⟨_,rfl,r1⟩
def Vals.two {x y:V}{us:List Value}(r:Vals [x,y] us):∃ u v,us=[u,v]/\RelV x u/\RelV y v:=by
 cases r with
 |cons r1 r2=>
  cases r2 with
  |cons q1 q2=>cases q2;exact⟨_,_,rfl,r1,q1⟩
def Vals.zero:∀ {us:List Value},Vals [] us->us=[]
 |_,.nil=>rfl
def Vals.dropLast {xs:List V}{us:List Value}(h:Vals xs us):Vals xs.dropLast us.dropLast:=by
 induction h with
 |nil=>exact .nil
 |cons r t ih=>
  cases t with
  |nil=>exact .nil
  |cons q t'=>exact .cons r ih
def Vals.rep {xs:List V}{us:List Value}(h:Vals xs us):∀ k:Nat,Vals (List.replicate k xs).flatten (List.replicate k us).flatten
 |0=>.nil
 |k+1=>by
  rw[DL,DL,Ef,Ef];exact Vals.append h (Vals.rep h k)
def pV {α:Type}(l:List α):l.eraseIdx (l.length-1)=l.dropLast:=by
 induction l with
 |nil=>rfl
 |cons a r ih=>
  cases r with
  |nil=>rfl
  |cons b r=>
   have e:(a::b::r).length-1=((b::r).length-1)+1:=by
    have h1:(a::b::r).length=r.length+2:=rfl;have h2:(b::r).length=r.length+1:=rfl;omega
   rw[e,List.eraseIdx_cons_succ,ih]
   all_goals rfl
def foldl_rep (its:List Value):∀ (k:Nat) (acc:List Value),
  List.foldl (λ x1 x2=>x1++x2) acc.toArray (List.replicate k its.toArray)=(acc++(List.replicate k its).flatten).toArray
 |0,acc=>by simp
 |k+1,acc=>by
  have e:acc.toArray++its.toArray=(acc++its).toArray:=by simp
  have e2:(acc++its)++(List.replicate k its).flatten=acc++(List.replicate (k+1) its).flatten:=by
   rw[DL,Ef,El]
  rw[<- e2,<- foldl_rep its k (acc++its),<- e,DL,DA]
section
variable {X:Cx}{pins:List (Addr×Obj)}{σ:St}{H:Hp}{s:Shared}{l b:Addr}{xs ys zs:List V}
def Inv.lset {its its':List Value}{n:Nat}{f:Array Value->Array Value}{t':Nat}(I:Inv X pins σ H s)(hH:H l=some 1#37)
  (e:s.heap.get? l=some { cls:=.type "list",data:=.seq its.toArray n }) (hf:f its.toArray=its'.toArray) (hv:Vals ys its') (hz:ys.length<=sizeLine):
  Inv X pins σ (upd H l (.lst ys)) { s with heap:=s.heap.update l (GZ f),toks:=t' }:=by
 have q:=Ki e f;rw[hf] at q;refine I.write (x:=l) (e:=l) (by rw[hH];exact trivial) 0#76 (λ b' u hb hu=>(GK s.heap (GZ f) (Ne.symm hb)).trans hu) ⟨_,q⟩ ?_
 exact⟨hz,its',_,hv,q⟩
def Inv.lnew {its:List Value}{t':Nat}(I:Inv X pins σ H s)(hv:Vals ys its)(hz:ys.length<=sizeLine):
  Inv X pins σ (upd H s.heap.objs.size (.lst ys)) { s with heap:=s.heap.push { cls:=.type "list",data:=.seq its.toArray },toks:=t' }:=
 I.laid (λ _ _ q=>GC _ q) (Du _) ⟨hz,its,0,hv,GF _ rfl⟩
def Inv.fresh (I:Inv X pins σ H s):H s.heap.objs.size=none:=I.hok.fresh (Du _)
def Inv.lstM (I:Inv X pins σ H s)(hH:H l=some 1#37):xs.length<=sizeLine/\∃ (its:List Value) (n:Nat),Vals xs its/\xs.length=its.length/\s.heap.get? l=some { cls:=.type "list",data:=.seq its.toArray n }:=by
 obtain⟨z,its,n,r,e⟩:=I.hok l _ hH;exact⟨z,its,n,r,r.length,e⟩
def oH {n:Nat}(h:n<=sizeLine):HE n=false:=by
 unfold HE;exact decide_eq_false ⋯
end
section
variable {X:Cx}
def dU:V->List V->Hp->VK->Prop:=λ x vs H Q=>∃ l xs y,x=.ref l/\vs=[y]/\H l=some 1#37/\xs.length<sizeLine/\Q .non (upd H l (.lst (xs++[y])))
def bF:MtM X "list.append" dU:=by
 intro pins s σ H x vs v us Q I rx rv h;obtain⟨l,xs,y,rfl,rfl,hH,hz,q⟩:=h;cases rx;obtain⟨u,rfl,ru⟩:=rv.one;obtain⟨z,its,n,r,hl,e⟩:=I.lstM hH;refine Ih J6 ⟨_,e,rfl⟩ JP (JF _ _) (Kb l its.toArray n u (by rw[Ds];omega)) ⟨e,?_⟩;refine⟨.non,_,I.lset (its':=its++[u]) hH e 0#5 (r.append (.cons ru .nil)) ?_,rfl,q⟩;rw[Dz,D5];omega
def qK:V->List V->Hp->VK->Prop:=λ x vs H Q=>∃ l b xs zs,x=.ref l/\vs=[.ref b]/\H l=some 1#37/\H b=some (.lst zs)/\xs.length+zs.length<=sizeLine/\Q .non (upd H l (.lst (xs++zs)))
def uo:MtM X "list.extend" qK:=by
 intro pins s σ H x vs v us Q I rx rv h;obtain⟨l,b,xs,zs,rfl,rfl,hH,hB,hz,q⟩:=h;cases rx;obtain⟨u,rfl,ru⟩:=rv.one;cases ru;obtain⟨z,its,n,r,hl,e⟩:=I.lstM hH;obtain⟨z2,its2,n2,r2,hl2,e2⟩:=I.lstM hB;have hsz:its.toArray.size+its2.toArray.size<=sizeLine:=by rw[Ds,Ds];omega
 have hlong:¬ (!its.toArray.isEmpty&&HE (its.toArray.size+its2.toArray.size))=true:=by
  rw[oH hsz,DC];exact DB
 refine Ih F.slot_list_extend ⟨_,e,rfl⟩ F.entry_list_extend (F.args_list_extend_2 _ _)
  (AutoSeq1.list_extend_list_list_0 l its.toArray n b its2.toArray n2 hlong (by rw[Ds];omega) ⋯) ⟨e,e2,?_⟩
 refine⟨.non,_,I.lset (its':=its++its2) hH e 0#5 (r.append r2) ?_,rfl,q⟩;rw[Dz];omega
def BC:V->List V->Hp->VK->Prop:=λ x vs H Q=>∃ l xs y,x=.ref l/\vs=[]/\H l=some 1#37/\xs[xs.length-1]?=some y/\Q y (upd H l (.lst xs.dropLast))
def Bx:MtM X "list.pop" BC:=by
 intro pins s σ H x vs v us Q I rx rv h;obtain⟨l,xs,y,rfl,rfl,hH,hy,q⟩:=h;cases rx;have hus:=rv.zero;subst hus;obtain⟨z,its,n,r,hl,e⟩:=I.lstM hH;obtain⟨u,hu,ru⟩:=r.get hy;have hy':its.toArray[its.toArray.size-1]?=some u:=by
  show its.toArray[its.length-1]?=some u
  rw[<- HQ,<- hl];exact hu
 refine Ih F.slot_list_pop ⟨_,e,rfl⟩ F.entry_list_pop (F.args_list_pop_1 _) (MeetsSeq.list_pop_last l its.toArray n u hy' (by rw[Ds];omega)) ⟨e,?_⟩;refine⟨y,_,I.lset (its':=its.dropLast) hH e ?_ r.dropLast ?_,ru,q⟩
 ·show its.toArray.eraseIdxIfInBounds (its.toArray.size-1)=its.dropLast.toArray
  rw[Ds,List.eraseIdxIfInBounds_toArray,pV]
 ·rw[FI]
  omega
def len_rep {α:Type}(xs:List α)(k:Nat):(List.replicate k xs).flatten.length=k*xs.length:=by
 induction k with
 |zero=>simp
 |succ k ih=>rw[DL,Ef,Dz,ih,Ea,FV]
end
end L2
namespace Att
open PySem PySem.W PySem.Calls PyProof.Rows
def iK {P:Params}{h:Heap}:∀ (ns:List Int) (vs:List Value),WellAll P h vs (ns.map Ib)->IntsAre vs ns:=by
 intro ns
 induction ns with
 |nil=>
  intro vs w;rw[Dj] at w;cases w;exact .nil
 |cons n ns ih=>
  intro vs w;rw[C9] at w;cases w with
  |cons a b=>
   cases a;exact .cons _ _ (ih _ b)
def script_of {l:OpenLaw}{n:Nat}(hn:l.most=some n){P:Params}{h:Heap}{args:List WData}{vals:List Value}
  (hpre:l.row.toRowW.claim.pre args=true) (hwl:WellAll P h vals args):
  ∃ a vs ns,vals=[GH a]/\args=[Kl (ns.map Ib)]/\h.get? a=some { cls:=.type "list",data:=.seq vs.toArray }/\IntsAre vs ns/\ns.length<=n:=by
 have hsh:WShape.hasAll [] args [.list .int]=true:=(pre_splitW hpre).1;have hc:l.pre.holds [] { args:=args }=true:=(pre_splitW hpre).2;obtain⟨d,r,rfl,h1,h2⟩:=hasAllW_cons hsh;obtain rfl:=hasAllW_nil h2;obtain⟨xs,rfl,h3⟩:=hasW_list h1;obtain⟨ns,rfl⟩:=items_int h3;have hlen:ns.length<=n:=by
  unfold OpenLaw.pre at hc;have h4:(WTm.not (.lt (.lit (.int (n:Int))) (.len (.arg 0)))).holds [] { args:=[.list 0#67] }=true:=by
   have h4:=(holds_andW hc).1;rw[hn] at h4;exact h4
  have h5:=condW_of h4 (w_not (w_lt w_lit (w_len_list (w_arg rfl))));rw[Di] at h5;refine Nat.le_of_not_lt λ q=>?_
  have q':(n:Int)<((ns.length:Nat):Int):=⋯
  first
   | (rw[decide_eq_true q'] at h5;exact absurd h5 0#2)
   | (simp at h5;omega)
 cases hwl with
 |cons w1 w2=>
  cases w2;cases w1 with
  |list ho hall=>exact⟨_,_,ns,rfl,rfl,ho,iK ns _ hall,hlen⟩
def post_true (l:OpenLaw)(args:List WData):l.row.toRowW.claim.post args 2#40 args=true:=
 postW_of (r:=l.row.toRowW) (X:=(true == true))
  (show WShape.has [] 2#40 .bool=true by first|rfl|decide|simp[WShape.has,WShape.arms,WShape.armsAll])
  (show (WTm.eq .res (.lit 2#40)).value [] { args:=args,res:=some 2#40,after:=args }=some (.bool (true == true)) from w_eq_bool (w_res rfl) w_lit) rfl
section
variable {prog:Program}{w:World}{A:Around}{E:Value->Shared->Prop}{s:Shared}{K:Frag}
def ledger (h:Heap)(L d:Addr):List 0#18:=(List.range h.objs.size).filterMap λ a=>if a=L\/a=d then none else (h.get? a).map λ o=>(a,o)
end
end Att
namespace L2
open PySem PySem.Spec PyProof.Rows
def kJ:∀ {vs:List Value} {ns:List Int},IntsAre vs ns->Vals 1#20 vs
 |_,_,.nil=>.nil
 |_,_,.cons n t h=>.cons ⟨t,rfl⟩ (kJ h)
def BZ (H:Hp):Prop:=∀ b,H b=none\/∃ o xs,H b=some (.frz o 1#37)
def law_call {P:Program}{w:World}{K:GA}{mg mb:Str->Option Value}{CX:CXT}{k:Nat}{fa a:Addr}{fd:FuncData}{x:Str}{sp:Sp}{s₁:Shared}{vs:List Value}{ns:List Int}
  (KX:K.In s₁.heap) (hns:s₁.heap.Ns mainGlobals mg) (hb:s₁.heap.Ns builtinsNs mb) (hbb:∀ x:Str,x≠"__name__"->mb x=bootBuiltins x) (hlim:s₁.heap.NoLimit) (hg:s₁.gens=#[])
  (ha:s₁.heap.get? a=some { cls:=.type "list",data:=.seq vs.toArray }) (hi:IntsAre vs ns) (hl:ns.length<=sizeLine) (hr:Room k callerA)
  (F:∀ base:Heap,K.In base->base.Ns mainGlobals mg->FnOk P w K mg base CX k fa fd [x] sp) (hbind:∀ (s:Shared) (u:Value),BindsTo s fd ⟨[u],[]⟩ [(x,u)])
  (hsp:∀ H:Hp,BZ H->SqL K H a 1#20->sp [.ref a] H (λ v _=>v=.bl true) λ _ _ _=>False)
  (hCX:∀ H e s',CX [] H s₁ (λ _ _ _=>False) e s'->False):
  codeAny 2#16 callerA (.call 2#45 ⟨[.ref a],[]⟩) (λ r s'=>r=.ok (.ret 2#40)/\OldK s₁.heap s'.heap/\s'.os=s₁.os/\AllBare s'.gens) s₁:=by
 have rv:=kJ hi;have lenV:=hi.length;have core:∀ H:Hp,BZ H->SqL K H a 1#20->HOk P w H s₁.heap->(∀ b,H b≠none->b=a)->(H a≠none->K.lookup a=none) ->
   codeAny 2#16 callerA (.call 2#45 ⟨[.ref a],[]⟩) (λ r s'=>r=.ok (.ret 2#40)/\OldK s₁.heap s'.heap/\s'.os=s₁.os/\AllBare s'.gens) s₁:=by
  intro H hO hS hok hA hK;have base_of:∀ {b:Addr} {o:Obj},s₁.heap.get? b=some o->H b=none->(me s₁.heap H).get? b=some o:=λ e n=>xn e n
  have noA:∀ {b:Addr} {o:Obj} {es:Array DictEntry} {ep:Nat},s₁.heap.get? b=some o->o.data=.dict es ep->H b=none:=λ {b o es ep} e d=>by
   cases q:H b with
   |none=>rfl
   |some u=>
    have e':b=a:=hA b (by rw[q];simp);subst e';rw[ha] at e;cases e;have d':Data.seq vs.toArray _=Data.dict es ep:=d;cases d'
  have nsK:∀ {b:Addr} {m:Str->Option Value},s₁.heap.Ns b m->(me s₁.heap H).Ns b m:=λ {b m} ⟨o,es,ep,e,d,r⟩=>⟨o,es,ep,base_of e (noA e d),d,r⟩
  have hKb:K.In (me s₁.heap H):=λ b o e=>base_of (KX b o e) (by
   cases q:H b with
   |none=>rfl
   |some u=>
    have e':b=a:=hA b (by rw[q];simp);subst e';rw[hK (by rw[q];simp)] at e;cases e)
  have hM:Mod K mg (me s₁.heap H):=⟨hKb,nsK hns,⟨mb,nsK hb,hbb⟩,let ⟨mc,h1,h2⟩:=hlim;⟨mc,nsK h1,h2⟩⟩;have e0:Env0 P w K mg (me s₁.heap H) callerA [] s₁ H:=⟨rfl,hM,λ b o e=>yE e,FU (tD _ _),trivial,λ b hb=>absurd (show b∈([]:List Addr) from hb) 0#5,hok,.of_eq hg⟩;refine HD ((F _ hKb (nsK hns)).run callerA [] s₁ H ⟨[.ref a],[]⟩ [.ref a] [.ref a] _ _ hr e0 (hbind s₁ (.ref a)) (.cons rfl .nil) (hsp H hO hS)) λ r s' h=>?_
  cases r with
  |error e=>exact(hCX H e s' h).elim
  |ok fl=>
   cases fl with
   |next=>exact GQ h
   |brk=>exact GQ h
   |cont=>exact GQ h
   |ret u=>
    obtain⟨v,H',os,bare,un,hok',r',q⟩:=h;have q':v=.bl true:=q;subst q';obtain rfl:u=IT true:=r';refine⟨rfl,OldK.of_keep λ b o e=>?_,os,bare⟩;cases q:H b with
    |none=>exact un.keep b o e q (by intro z;exact absurd (show b∈([]:List Addr) from z) 0#5) 0#5
    |some u=>
     rcases hO b with z|⟨ob,xs,z⟩
     ·rw[q] at z;cases z
     ·have z2:=un.frzs b ob _ z
      obtain⟨e1,_⟩:=hok b _ z;obtain⟨e2,_⟩:=hok' b _ z2;rw[e] at e1;cases e1;exact e2
 cases hk:K.lookup a with
 |some o=>
  have e:=KX a o hk;rw[ha] at e;cases e;refine core 2#51 (λ _=>.inl rfl) (.inr ⟨_,vs.toArray,_,hk,rfl,rfl,rfl,by rw[Ds,lenV];exact hl,by simpa using rv⟩) (λ b u z=>by have z':(none:Option HO)=some u:=z;cases z') (λ b z=>absurd rfl z) λ z=>absurd rfl z
 |none=>
  refine core (λ b=>if b=a then some (.frz { cls:=.type "list",data:=.seq vs.toArray } (.lst 1#20)) else none) (λ b=>?_) (.inl (.inr ⟨{ cls:=.type "list",data:=.seq vs.toArray },if_pos rfl⟩)) (λ b u z=>?_) (λ b z=>?_) λ _=>hk
  ·by_cases hb:b=a
   ·exact .inr ⟨_,_,if_pos hb⟩
   ·exact .inl (if_neg hb)
  ·by_cases hb:b=a
   ·have z':=(if_pos hb).symm.trans z
    cases z';subst hb;exact⟨ha,by rw[Di];exact hl,vs,_,rv,ha⟩
   ·have z':=(if_neg hb).symm.trans z
    cases z'
  ·by_cases hb:b=a
   ·exact hb
   ·exact absurd (if_neg hb) z
def inClass (s:Stmt)(j:Nat):Stmt:=match s with
 |.ClassDef _ _ _ body _ _ _ _ _ _ _=>body.getD j (.Pass ⟨0,0,0,0⟩)
 |_=>.Pass ⟨0,0,0,0⟩
def aL (s:Stmt):Arguments:=match s with
 |.FunctionDef _ a _ _ _ _ _ _ _ _=>a
 |_=>{ posonlyargs:=[],args:=[],vararg:=none,kwonlyargs:=[],kw_defaults:=[],kwarg:=none,defaults:=[] }
def aB (s:Stmt):List Stmt:=match s with
 |.FunctionDef _ _ b _ _ _ _ _ _ _=>b
 |_=>[]
def af (s:Stmt):Scope:=match s with
 |.FunctionDef _ _ _ _ _ _ sc _ _ _=>sc
 |_=>{ kind:=.function,names:=[],isGenerator:=false,isCoroutine:=false }
abbrev CX0:CXT:=λ _ _ _ _ _ _=>False
abbrev E0:XK:=λ _ _ _=>False
structure Fun (K:GA)(x qual:Str)(st:Stmt)(f:Addr)(fd:FuncData):Prop where
 ex:∃ (oc:Value) (od:Option Addr) (kV doc pm:Value) (an:Option Addr) (cdv ct:Value) (osl:Array 0#82),
  fd=GJ x qual (aL st) (aB st) (af st) .none kV doc pm an cdv ct/\K.lookup f=some ⟨oc,od,.func fd,osl⟩/\G4 K cdv qual=true
 kp:G0 K (.ref f)=true
section
variable {P:Program}{w:World}{K:GA}{mg:Str->Option Value}{base:Heap}
def Fun.ok {x qual:Str}{st:Stmt}{f:Addr}{fd:FuncData}{N ps:List Str}{k:Nat}{sp:Sp}(F:Fun K x qual st f fd)(S:FnScope N ps (af st))(len:∀ vs H Q E,sp vs H Q E->vs.length=ps.length)
  (hbody:∀ (cdv:Value) (A:Around) (outer:List Env) (s:Shared) (H:Hp) (vs:List V) (Q:VK) (E:XK),Room k 0#70->sp vs H Q E ->
   ∃ t,PSs (cF CX0 P w K mg base N qual (af st) f cdv A outer s H E).nox (aB st) t/\t { nx:=λ _ H'=>Q .non H',rt:=Q } 1#98 H):FnOk P w K mg base CX0 (k+1) f fd ps sp:=by
 obtain⟨oc,od,kV,doc,pm,an,cdv,ct,osl,rfl,lk,hcd⟩:=F.ex;refine qC lk hcd S len λ A outer s H vs Q E hr hsp=>?_
 obtain⟨t,h,q⟩:=hbody cdv A outer s H vs Q E hr hsp;exact⟨t,h.nox,q⟩
end
section
variable {X:Cx}
def pv (i:Nat){x:Str}{pos:Pos}(hN:autoParam (X.N[i]?=some x) ZF._auto_1)(hv:autoParam (Vis X.env.scope x) ZH._auto_1)(hd:autoParam 0#4 ZC._auto_1)
  (hcd:autoParam 0#16 ZC._auto_1):PE X 1#41 (aS i):=cu hN hv hd hcd
end
def xS {A B:Prop}(h:B):if false=true then A else B:=by
 rw[if_neg DB];exact h
def xO {A B:Prop}(h:A):if true=true then A else B:=by
 rw[if_pos rfl];exact h
def Same (H H':Hp):Prop:=∀ b o,H b=some o->H' b=some o
def Same.refl (H:Hp):Same H H:=λ _ _ h=>h
def Same.trans {H H1 H2:Hp}(a:Same H H1)(b:Same H1 H2):Same H H2:=λ c o h=>b c o (a c o h)
def Same.free {H H':Hp}(e:Same H H'){l:Addr}(h:H' l=Option.none):H l=Option.none:=by
 cases q:H l with
 |none=>rfl
 |some o=>
  rw[e l o q] at h;cases h
section
variable {κ:Type}[DecidableEq κ]
def iM (kvs:List (κ×V))(k:κ):Option V:=(kvs.find? λ kv=>decide (kv.1=k)).map (·.2)
def putK (kvs:List (κ×V))(k:κ)(v:V):List (κ×V):=
 if (kvs.any λ kv=>decide (kv.1=k))=true then kvs.map (λ kv=>if kv.1=k then (kv.1,v) else kv) else kvs++[(k,v)]
def gj {p:κ×V}{r:List (κ×V)}{k:κ}(e:p.1=k):iM (p::r) k=some p.2:=by simp[iM,Ew,e]
def eP {p:κ×V}{r:List (κ×V)}{k:κ}(e:¬ p.1=k):iM (p::r) k=iM r k:=by simp[iM,Ew,e]
def nP (k:κ):∀ kvs:List (κ×V),(kvs.any λ kv=>decide (kv.1=k))=(iM kvs k).isSome
 |[]=>rfl
 |p::r=>by
  rw[Eu];by_cases e:p.1=k
  ·simp only[gj e,decide_eq_true e,Bool.true_or,Option.isSome_some]
  ·rw[eP e,decide_eq_false e,Em];exact nP k r
def ij (kvs:List (κ×V))(k:κ)(v:V):(putK kvs k v).length<=kvs.length+1:=by
 unfold putK
 split
 ·rw[Di];omega
 ·rw[Dz,Dd,Dp];omega
def RelO.isSome_eq {o:Option V}{u:Option Value}(r:RelO o u):o.isSome=u.isSome:=by
 cases o with
 |none=>cases u with
  |none=>rfl
  |some _=>exact Zf r
 |some _=>cases u with
  |none=>exact Zf r
  |some _=>rfl
def RelO.getD {o:Option V}{u:Option Value}{d:V}{d':Value}(r:RelO o u)(rd:RelV d d'):RelV (o.getD d) (u.getD d'):=by
 cases o with
 |none=>cases u with
  |none=>exact rd
  |some _=>exact Zf r
 |some _=>cases u with
  |none=>exact Zf r
  |some _=>exact r
def KV.val {kvs:List (κ×V)}{vs:List (κ×Value)}(r:KV kvs vs)(k:κ):RelO (iM kvs k) (valueAt vs k):=by
 unfold KV at r
 induction r with
 |nil=>exact Hq
 | @cons p q ps qs h t ih=>
  obtain⟨h1,h2⟩:=h;by_cases e:p.1=k
  ·have e':q.1=k:=h1.symm.trans e
   have b:valueAt (q::qs) k=some q.2:=by simp[valueAt,Ew,e']
   rw[gj e,b];exact h2
  ·have e':¬ q.1=k:=λ z=>e (h1.trans z)
   have b:valueAt (q::qs) k=valueAt qs k:=by simp[valueAt,Ew,e']
   rw[eP e,b];exact ih
def KV.any {kvs:List (κ×V)}{vs:List (κ×Value)}(r:KV kvs vs)(k:κ):(kvs.any λ kv=>decide (kv.1=k))=vs.any λ kv=>decide (kv.1=k):=by
 unfold KV at r
 induction r with
 |nil=>rfl
 |cons h t ih=>rw[Eu,Eu,ih,h.1]
def KV.repl {kvs:List (κ×V)}{vs:List (κ×Value)}(r:KV kvs vs)(k:κ){y:V}{u:Value}(ry:RelV y u):
  KV (kvs.map λ kv=>if kv.1=k then (kv.1,y) else kv) (vs.map λ kv=>if kv.1=k then (kv.1,u) else kv):=by
 unfold KV at r ⊢
 induction r with
 |nil=>exact .nil
 | @cons p q ps qs h t ih=>
  rw[C9,C9];refine .cons ?_ ih
  obtain⟨h1,h2⟩:=h;by_cases e:p.1=k
  ·rw[if_pos e,if_pos (h1.symm.trans e)];exact⟨h1,ry⟩
  ·rw[if_neg e,if_neg (λ z=>e (h1.trans z))];exact⟨h1,h2⟩
def KV.put {kvs:List (κ×V)}{vs:List (κ×Value)}(r:KV kvs vs)(k:κ){y:V}{u:Value}(ry:RelV y u):KV (putK kvs k y) (stored vs k u):=by
 unfold putK stored;rw[r.any k];by_cases e:(vs.any λ kv=>decide (kv.1=k))=true
 ·rw[if_pos e,if_pos e];exact r.repl k ry
 ·rw[if_neg e,if_neg e];exact Ky r ⟨rfl,ry⟩
def KV.length {kvs:List (κ×V)}{vs:List (κ×Value)}(r:KV kvs vs):kvs.length=vs.length:=JG r
end
def mU {P:Program}{w:World}{k:Key}{u:Value}(r:RelV (kV k) u):(bC P w).is k u=true:=by
 cases k with
 |inl i=>obtain⟨t,e⟩:=(show ∃ t,u=Hk i t from r);subst e;exact m3 P w i t
 |inr x=>obtain⟨t,e⟩:=(show ∃ t,u=JT x t from r);subst e;exact nT P w x t
def k9 {P:Program}{w:World}:∀ {ks:List Key} {us:List Value},Vals (ks.map kV) us->ItemsAre (bC P w) ks us
 |[],_,r=>by rw[Dj] at r;cases r;exact .nil
 |k::ks,_,r=>by
  rw[C9] at r;cases r with
  |cons h t=>exact .cons (mU h) (k9 t)
abbrev KT (H:Hp):List (List Key×V)->List 0#99->Prop:=Paired λ p q=>p.1=q.1/\H q.2.1=some (.tup (p.1.map kV))/\RelV p.2 q.2.2
def KT.val {H:Hp}{kvs:List (List Key×V)}{xs:List 0#99}(r:KT H kvs xs)(k:List Key):RelO (iM kvs k) ((atKey xs k).map (·.2)):=by
 induction r with
 |nil=>exact Hq
 | @cons p q ps qs h t ih=>
  obtain⟨h1,_,h2⟩:=h;by_cases e:p.1=k
  ·have e':q.1=k:=h1.symm.trans e
   have b:atKey (q::qs) k=some q.2:=by simp[atKey,Ew,e']
   rw[gj e,b];exact h2
  ·have e':¬ q.1=k:=λ z=>e (h1.trans z)
   have b:atKey (q::qs) k=atKey qs k:=by simp[atKey,Ew,e']
   rw[eP e,b];exact ih
def KT.repl {H:Hp}{kvs:List (List Key×V)}{xs:List 0#99}(r:KT H kvs xs)(k:List Key){y:V}{u:Value}(ry:RelV y u):
  KT H (kvs.map λ kv=>if kv.1=k then (kv.1,y) else kv) (xs.map (putAt k u)):=by
 induction r with
 |nil=>exact .nil
 | @cons p q ps qs h t ih=>
  rw[C9,C9];refine .cons ?_ ih
  obtain⟨h1,h2,h3⟩:=h;unfold putAt;by_cases e:p.1=k
  ·rw[if_pos e,if_pos (h1.symm.trans e)];exact⟨h1,h2,ry⟩
  ·rw[if_neg e,if_neg (λ z=>e (h1.trans z))];exact⟨h1,h2,h3⟩
def KT.put {H:Hp}{kvs:List (List Key×V)}{xs:List 0#99}(r:KT H kvs xs)(k:List Key){b:Addr}{y:V}{u:Value}(hb:H b=some (.tup (k.map kV)))(ry:RelV y u):
  KT H (putK kvs k y) (storedH xs k b u):=by
 have e:(kvs.any λ kv=>decide (kv.1=k))=(atKey xs k).isSome:=by
  rw[nP,(r.val k).isSome_eq,Fe]
 unfold putK storedH;rw[e];by_cases q:(atKey xs k).isSome=true
 ·rw[if_pos q,if_pos q];exact r.repl k ry
 ·rw[if_neg q,if_neg q];exact Ky r ⟨rfl,hb,ry⟩
def KT.keeps {H H':Hp}{kvs:List (List Key×V)}{xs:List 0#99}(r:KT H kvs xs)(ht:∀ b ys,H b=some (.tup ys)->H' b=some (.tup ys)):KT H' kvs xs:=
 Paired.mapP r λ _ _ z=>⟨z.1,ht _ _ z.2.1,z.2.2⟩
section
variable {P:Program}{w:World}{H:Hp}{h:Heap}{a:Addr}
def zO {u:HO}(ok:HOk P w H h)(e:Rd H a u):ObjOk P w H h a u:=e.ok ok
def jd {kvs:List (Key×V)}(ok:HOk P w H h)(e:Rd H a 1#96):kvs.length<=sizeLine/\1#34=false/\∃ vs,KV kvs vs/\h.DictOf (bC P w) a vs:=
 show ObjOk P w H h a 1#96 from zO ok e
def B9 {kvs:List (Key×V)}(ok:HOk P w H h)(e:H a=some 1#96):kvs.length<=sizeLine/\1#34=false/\∃ vs,KV kvs vs/\h.DictOf (bC P w) a vs:=jd ok (.inl e)
def jO {ks:List Key}(ok:HOk P w H h)(e:H a=some (.tup (ks.map kV))):(tupleKind (bC P w)).is h ks a:=by
 obtain⟨_,its,r,o,h1,h2,n,h3⟩:=(show ObjOk P w H h a (.tup (ks.map kV)) from ok a _ e);exact⟨o,its.toArray,n,h1,h2,h3,by simpa using k9 r⟩
def kL {kvs:List (List Key×V)}(ok:HOk P w H h)(e:Rd H a 2#78):kvs.length<=sizeLine/\1#34=false /\
  ∃ xs,KT H kvs xs/\h.DictOfH (tupleKind (bC P w)) a xs:=by
 obtain⟨z,y,xs,r,o,es,ep,h1,h2,h3,h4,h5⟩:=(show ObjOk P w H h a 2#78 from zO ok e);refine⟨z,y,xs,r,o,es,ep,h1,h2,h3,h4,λ x hx=>?_,h5⟩;have all:∀ {l:List (List Key×V)} {m:List 0#99},KT H l m->∀ x∈m,(tupleKind (bC P w)).is h x.1 x.2.1:=by
  intro l m q
  induction q with
  |nil=>intro x hx;exact nomatch hx
  | @cons p q ps qs hq t ih=>
   intro x hx
   rcases List.mem_cons.mp hx with e|hx
   ·subst e
    exact jO ok (by rw[<- hq.1];exact hq.2.1)
   ·exact ih x hx
 exact all r x hx
def Cy {kvs:List (List Key×V)}(ok:HOk P w H h)(e:H a=some 2#78):kvs.length<=sizeLine/\1#34=false /\
  ∃ xs,KT H kvs xs/\h.DictOfH (tupleKind (bC P w)) a xs:=kL ok (.inl e)
end
def oQ (H:Hp)(a:Addr)(y:V)(r:Option V):Prop:=
 (∃ kvs k,Rd H a 1#96/\y=kV k/\r=iM kvs k)\/∃ kvs k b,Rd H a 2#78/\y=.ref b/\H b=some (.tup (k.map kV))/\r=iM kvs k
def Cg (H:Hp)(a:Addr)(y v:V)(H':Hp):Prop:=
 (∃ kvs k,H a=some 1#96/\y=kV k/\kvs.length<sizeLine/\H'=upd H a (.dK (putK kvs k v))) \/
 ∃ kvs k b,H a=some 2#78/\y=.ref b/\H b=some (.tup (k.map kV))/\kvs.length<sizeLine/\H'=upd H a (.dT (putK kvs k v))
section
variable {X:Cx}{pins:List (Addr×Obj)}{σ:St}{H:Hp}{s:Shared}{a:Addr}{y v:V}{u r:Value}{o:Option V}{A:Around}{E:Value->Shared->Prop}
def Inv.big (I:Inv X pins σ H s):sysModules<s.heap.objs.size:=by
 have h:mainGlobals<s.heap.objs.size:=(I.mod.glob.keeps I.bk).lt;exact Gr 0#2 h
def tR {Q:Value->Shared->Prop}(hu:A.units+1<cLine)(I:Inv X pins σ H s)(g:oQ H a y (some v))(ry:RelV y u)(h:∀ w' s',Inv X pins σ H s'->RelV v w'->Q w' s'):
  wpAny 0#3 A (getItem (.ref a) u) Q E s:=by
 rcases g with ⟨kvs,k,e,ey,l⟩|⟨kvs,k,b,e,ey,eb,l⟩
 ·subst ey
  obtain⟨z,hd,vs,rel,dd⟩:=jd I.hok e;obtain⟨w',hw,rw'⟩:=RelO.some_of (v:=v) (o:=valueAt vs k) (by rw[l];exact rel.val k);exact wpAny_getItem_of (mU ry) dd.mapOf hw (h w' _ 2#66 rw')
 ·subst ey
  cases (show u=GH b from ry);obtain⟨z,hd,xs,rel,dd⟩:=kL I.hok e;obtain⟨w',hw,rw'⟩:=RelO.some_of (v:=v) (o:=(atKey xs k).map (·.2)) (by rw[l];exact rel.val k);obtain⟨p,hp,hp2⟩:=Option.map_eq_some_iff.mp hw;refine wpAny_getItem_heap (Ic hu) (jO I.hok eb) dd hp ?_
  rw[hp2];exact h w' _ 2#66 rw'
def C3 {Q:Value->Shared->Prop}(hu:A.units+1<cLine)(I:Inv X pins σ H s)(g:oQ H a y o)(ry:RelV y u)(h:∀ s',Inv X pins σ H s'->Q (.bool o.isSome) s'):
  wpAny 0#3 A (compareOp .In u (.ref a)) Q E s:=by
 rcases g with ⟨kvs,k,e,ey,l⟩|⟨kvs,k,b,e,ey,eb,l⟩
 ·subst ey
  obtain⟨z,hd,vs,rel,dd⟩:=jd I.hok e;refine wpAny_in_of (mU ry) hd dd.mapOf ?_
  rw[<- (rel.val k).isSome_eq,<- l];exact h _ 2#66
 ·subst ey
  cases (show u=GH b from ry);obtain⟨z,hd,xs,rel,dd⟩:=kL I.hok e;refine wpAny_in_heap (Ic hu) (jO I.hok eb) hd dd ?_
  have q:=(rel.val k).isSome_eq;rw[Fe] at q;rw[<- q,<- l];exact h _ 2#66
def yW {Q:Value->Shared->Prop}(hu:A.units+1<cLine)(I:Inv X pins σ H s)(g:oQ H a y o)(ry:RelV y u)(h:∀ s',Inv X pins σ H s'->Q (.bool (!o.isSome)) s'):
  wpAny 0#3 A (compareOp .NotIn u (.ref a)) Q E s:=by
 rcases g with ⟨kvs,k,e,ey,l⟩|⟨kvs,k,b,e,ey,eb,l⟩
 ·subst ey
  obtain⟨z,hd,vs,rel,dd⟩:=jd I.hok e;refine wpAny_notIn_of (mU ry) hd dd.mapOf ?_
  rw[<- (rel.val k).isSome_eq,<- l];exact h _ 2#66
 ·subst ey
  cases (show u=GH b from ry);obtain⟨z,hd,xs,rel,dd⟩:=kL I.hok e;refine wpAny_notIn_heap (Ic hu) (jO I.hok eb) hd dd ?_
  have q:=(rel.val k).isSome_eq;rw[Fe] at q;rw[<- q,<- l];exact h _ 2#66
def qQ {h':Heap}{t':Nat}{ob:HO}(I:Inv X pins σ H s)(mu:Mut (H a))(hs:H0 a s.heap h')(he:∃ q,h'.get? a=some q)(new:ObjOk X.prog X.w (upd H a ob) h' a ob):
  Inv X pins σ (upd H a ob) { s with heap:=h',toks:=t' }:=
 I.write (x:=a) (e:=a) mu 0#76 (λ b q hb z=>(hs.2 b hb).trans z) he new
def z9 {P:Program}{w:World}{H':Hp}{h':Heap}{kvs:List (Key×V)}{vs:List (Key×Value)}(z:kvs.length<=sizeLine)(hd:1#34=false)(rel:KV kvs vs)(dd:h'.DictOf (bC P w) a vs):
  ObjOk P w H' h' a 1#96:=⟨z,hd,vs,rel,dd⟩
def uC {H':Hp}{Q:Unit->Shared->Prop}(hu:A.units+1<cLine)(I:Inv X pins σ H s)(g:Cg H a y v H')(ry:RelV y u)(rv:RelV v r)(h:∀ s',Inv X pins σ H' s'->Q () s'):
  wpAny 0#3 A (setItem (.ref a) u r) Q E s:=by
 rcases g with ⟨kvs,k,e,ey,l,eH⟩|⟨kvs,k,b,e,ey,eb,l,eH⟩
 ·subst ey eH
  obtain⟨z,hd,vs,rel,dd⟩:=B9 I.hok e;have hz:vs.length<=sizeLine:=by rw[<- rel.length];exact z
  have hl:(putK kvs k v).length<=sizeLine:=by have:=ij kvs k v;omega
  refine wpAny_setItem_pairs (hsz:=hz) (mU ry) dd λ h' dd' hs=>h _ ?_
  have he:∃ q,h'.get? a=some q:=let ⟨q,_,_,hq,_⟩:=dd';⟨q,hq⟩
  exact qQ I (by rw[e];exact Hq) hs he (z9 hl hd (rel.put k rv) dd')
 ·subst ey eH
  cases (show u=GH b from ry);obtain⟨z,hd,xs,rel,dd⟩:=Cy I.hok e;have hz:xs.length<=sizeLine:=by rw[<- JG rel];exact z
  have hl:(putK kvs k v).length<=sizeLine:=by have:=ij kvs k v;omega
  refine wpAny_setItem_heap (hsz:=hz) (Ic hu) (jO I.hok eb) dd λ h' dd' hs=>h _ ?_
  obtain⟨q,es,ep,hq,h2,h3,h4,_,h5⟩:=dd';refine qQ I (by rw[e];exact Hq) hs ⟨q,hq⟩ ⟨hl,hd,_,(rel.put k eb rv).keeps λ c ys ec=>?_,q,es,ep,hq,h2,h3,h4,h5⟩;rw[ag (B3 ec e 0#65)];exact ec
end
section
variable {X:Cx}{pins:List (Addr×Obj)}{σ:St}{H:Hp}{s:Shared}{a:Addr}{kvs:List (Key×V)}{k:Key}{u:Value}{A:Around}{E:Value->Shared->Prop}
def B4 {Q:Value->Shared->Prop}(I:Inv X pins σ H s)(e:Rd H a 1#96)(h:∀ t s',Inv X pins σ H s'->Q (.int kvs.length t) s'):wpAny 0#3 A (call (.builtin "len") [.ref a]) Q E s:=by
 obtain⟨z,hd,vs,rel,dd⟩:=jd I.hok e;refine call_len_dict hd dd (by rw[<- rel.length];rw[GS] at z;omega) ?_
 rw[<- rel.length];exact h _ _ 2#66
end
def Av (i:Expr):Prop:=∀ ov iv,subscripted i false ov iv=operate [ov,iv] (getItem ov iv)
def yt {prog:Program}{w:World}{A:Around}{E:Value->Shared->Prop}{s:Shared}{env:Env}{value slice:Expr}{pos:Pos}{T id:String}{Q:Value->Shared->Prop}
  (hl:typeLookup (.type T) "__getitem__"=pure (some 1#77)) (hs:Av slice)
  (h:wpAny 0#7 A (eval value env) (λ o s₁=>wpAny 0#7 A (eval slice env) (λ i s₂=>s₂.TypeIs o T/\wpAny 0#7 A (getItem o i) Q E s₂) E s₁) E s):
  wpAny 0#7 A (eval (.Subscript value slice pos) env) Q E s:=by
 refine JD (GL h (λ o s₁ h₁=>GL h₁ (λ i s₂ h₂=>?_) λ _ _ x=>x) λ _ _ x=>x);obtain⟨hT,h₂⟩:=h₂;unfold subscriptTail;refine GB ?_
 rw[getitemInPython_of_ne hT.not_modules];refine GB (Jd hT hl ?_);have fin:wpAny 0#7 A (subscripted slice false o i) (λ r s₃=>wpAny 0#7 A (letTemporaryGo value o r >>= λ _=>pure r) Q E s₃) E s₂:=by
  rw[hs o i];exact wpAny_operating (GL h₂ (λ r s₃ h₃=>GB (wpAny_letTemporaryGo (GD h₃))) λ _ _ x=>x)
 first
  |exact GD (GB fin)
  |exact GB (GD (GB fin))
  |exact GB fin
def oE {X:Cx}{pins:List (Addr×Obj)}{σ:St}{H:Hp}{s:Shared}{a:Addr}{y:V}{o:Option V}(I:Inv X pins σ H s)(g:oQ H a y o):s.TypeIs (.ref a) "dict":=by
 rcases g with ⟨kvs,k,e,_,_⟩|⟨kvs,k,b,e,_,_,_⟩
 ·obtain⟨_,_,vs,_,dd⟩:=jd I.hok e
  exact dd.typeIs
 ·obtain⟨_,_,xs,_,dd⟩:=kL I.hok e
  exact dd.typeIs
def BH (td ty:TE):TE:=λ σ H Q=>td σ H λ x H1=>ty σ H1 λ y H2=>∃ a v,x=.ref a/\oQ H2 a y (some v)/\Q v H2
def sDPut (td ty tv:TE):TS:=λ D σ H=>tv σ H λ v H1=>td σ H1 λ x H2=>ty σ H2 λ y H3=>∃ a H4,x=.ref a/\Cg H3 a y v H4/\D.nx σ H4
section
variable {X:Cx}{o i e value:Expr}{pos pos' tpos:Pos}{td ty tv:TE}
def yO (hu:X.A.units+1<cLine)(ho:PE X o td)(hi:PE X i ty)(hs:Av i):PE X (.Subscript o i pos) (BH td ty):=by
 intro pins s σ H Q I h;refine yt PySem.F.slot_dict_getitem.lookup hs (thn 1#73 λ u s1 ⟨x,H1,I1,rx,q1⟩=>thn (hi pins s1 σ H1 _ I1 q1) λ iv s2 ⟨y,H2,I2,ry,a,v,ex,g,q2⟩=>?_);subst ex;obtain rfl:u=GH a:=rx;exact⟨oE I2 g,tR hu I2 g ry λ w' s3 I3 rw'=>⟨v,H2,I3,rw',q2⟩⟩
def rJ (hu:X.A.units+1<cLine)(ho:PE X o td)(hi:PE X i ty)(hv:PE X value tv)(hs:swapsWith value (some (.Subscript o i pos')) pos.line X.env=pure false):
  PS X (.Assign [.Subscript o i pos'] value pos) (sDPut td ty tv):=by
 intro pins s σ H D I h;refine wpAny_Assign_Subscript (thn (hv pins s σ H _ I h) λ r s1 ⟨v,H1,I1,rv,q1⟩=>thn (ho pins s1 σ H1 _ I1 q1) λ u s2 ⟨x,H2,I2,rx,q2⟩=>thn (hi pins s2 σ H2 _ I2 q2) λ iv s3 ⟨y,H3,I3,ry,a,H4,ex,g,q3⟩=>?_) hs;subst ex;obtain rfl:u=GH a:=rx;exact uC hu I3 g ry rv λ s4 I4=>⟨σ,H4,I4,q3⟩
end
def v8 {P:Program}{w:World}{H:Hp}(h:Heap)(hb:sysModules<h.objs.size):ObjOk P w H (h.push { cls:=.type "dict",data:=.dict #[] }) h.objs.size (.dK []):=
 ⟨D7 _,beq_eq_false_iff_ne.mpr (Ne.symm (Dy hb)),[],.nil,Heap.DictOf.new h⟩
def A7:TE:=λ _ H Q=>∀ p,H p=none->Q (.ref p) (upd H p (.dK []))
section
variable {X:Cx}{pos:Pos}
def xI:PE X (.Dict [] [] pos) A7:=λ pins s σ H Q I h=>
 wpAny_Dict_empty ⟨.ref s.heap.objs.size,_,I.laid (a:=s.heap.objs.size) (o:=.dK []) (t':=s.toks) (λ _ _ q=>GC _ q) (Du _) (v8 s.heap I.big),rfl,h _ (I.hok.fresh (Du _))⟩
end
structure M1 (X:Cx)(o:Expr)(m:Str)(apos:Pos)(e:Expr)(cpos:Pos):Prop where
 base:attributeBase o m X.env 2#56=eval o X.env
 few:((backTo cpos (starEach [e] X.env)).all 2#37&&(backToKw cpos 1#72).all 1#49
  && decide (([e]:List Expr).length+([]:List Keyword).length+(if ([]:List Keyword).isEmpty then 0 else 1)<30))=true
 line:0#63=true
 trees:backTo cpos (starEach [e] X.env)=[0#74]
structure M2 (X:Cx)(o:Expr)(m:Str)(apos:Pos)(e f:Expr)(cpos:Pos):Prop where
 base:attributeBase o m X.env 2#56=eval o X.env
 few:((backTo cpos (starEach [e,f] X.env)).all 2#37&&(backToKw cpos 1#72).all 1#49
  && decide (([e,f]:List Expr).length+([]:List Keyword).length+(if ([]:List Keyword).isEmpty then 0 else 1)<30))=true
 line:0#63=true
 trees:backTo cpos (starEach [e,f] X.env)=[0#74,(false,eval f X.env)]
def IsD (H:Hp)(a:Addr):Prop:=(∃ kvs,Rd H a 1#96)\/∃ kvs,Rd H a 2#78
def Bq {X:Cx}{pins:List (Addr×Obj)}{σ:St}{H:Hp}{s:Shared}{a:Addr}(I:Inv X pins σ H s)(d:IsD H a):
  s.TypeIs (.ref a) "dict"/\(∀ b,GH a=.ref b->∃ ob,s.heap.get? b=some ob/\ob.dict=none)/\1#34=false:=by
 rcases d with ⟨kvs,e⟩|⟨kvs,e⟩
 ·obtain⟨_,hd,vs,_,dd⟩:=jd I.hok e
  refine⟨dd.typeIs,λ b q=>?_,hd⟩;cases q;obtain⟨ob,_,_,h1,h2,_⟩:=dd;exact⟨ob,h1,h2.2.1⟩
 ·obtain⟨_,hd,xs,_,dd⟩:=kL I.hok e
  refine⟨dd.typeIs,λ b q=>?_,hd⟩;cases q;obtain⟨ob,_,_,h1,h2,_⟩:=dd;exact⟨ob,h1,h2.2.1⟩
end L2
namespace Dv
inductive D where
 |non
 |bl (b:Bool)
 |int (i:Int)
  |str (x:List Nat)
 |lst (ds:List D)
 |tup (ds:List D)
  |exn (c:String)
  |raw (a:Nat)
  |tab (rows:List 0#48)
  |dct (ks:List Int) (ds:List D)
  |ins (ns:List String) (ds:List D)
def scal:D->Bool
 |.lst _=>false
 |.tup _=>false
 |.exn _=>false
 |.raw _=>false
 |.tab _=>false
 |.dct _ _=>false
 |.ins _ _=>false
 |_=>true
def noTy:D->Bool
 |.exn _=>true
 |.raw _=>true
 |.tab _=>true
 |.ins _ _=>true
 |_=>false
def flatL:List D->Bool
 |[]=>true
 |d::r=>scal d&&flatL r
def clipS (x:List Nat):List Nat:=x.map (·%1114112)
mutual
def eqD:D->D->Option Bool
 |.non,.non=>some true
 |.bl a,.bl b=>some (a == b)
 |.int a,.int b=>some (decide (a=b))
 |.str a,.str b=>some (decide (clipS a=clipS b))
 |.lst a,.lst b=>eqDL a b
 |.tup a,.tup b=>eqDL a b
 |_,_=>none
def eqDL:List D->List D->Option Bool
 |[],[]=>some true
 |[],_::_=>some false
 |_::_,[]=>some false
 |a::x,b::y=>
  match eqD a b,eqDL x y with
  |some p,some q=>some (p&&q)
  |_,_=>none
end
mutual
def depthD:D->Nat
 |.lst ds=>depthL ds+1
 |.tup ds=>depthL ds+1
 |.exn _=>100
 |.raw _=>100
 |.tab _=>100
 |.dct _ _=>100
 |.ins _ _=>100
 |_=>0
def depthL:List D->Nat
 |[]=>0
 |d::r=>max (depthD d) (depthL r)
end
def intsOf:List D->Option 0#48
 |[]=>some []
 |.int i::r=>(intsOf r).map (i::·)
 |_::_=>none
def bits (a:Int):Nat:=if a=0 then 0 else a.natAbs.log2+1
def mulOk (i j:Int):Bool:=decide (bits i<=64) || decide (bits j<=64) || (decide (bits i<=1048576)&&decide (bits j<=1048576))
def divOk (j:Int):Bool:=decide (0<j)&&decide (j.natAbs.log2<9000)
def ins (i:Int):List Int->List Int
 |[]=>[i]
 |j::r=>if i<=j then i::j::r else j::ins i r
def isort:List Int->List Int
 |[]=>[]
 |i::r=>ins i (isort r)
inductive R where
 |ok (d:D) (fr:Bool)
 |exc (c:String)
 |bad
inductive RL where
 |ok (ds:List D) (fr:Bool)
 |exc (c:String)
 |bad
abbrev R.bind (r:R)(k:D->Bool->R):R:=match r with
 |.ok d fr=>k d fr
 |.exc c=>.exc c
 |.bad=>.bad
abbrev RL.bind (r:RL)(k:List D->Bool->R):R:=match r with
 |.ok d fr=>k d fr
 |.exc c=>.exc c
 |.bad=>.bad
abbrev R.bindL (r:R)(k:D->Bool->RL):RL:=match r with
 |.ok d fr=>k d fr
 |.exc c=>.exc c
 |.bad=>.bad
abbrev RL.bindL (r:RL)(k:List D->Bool->RL):RL:=match r with
 |.ok d fr=>k d fr
 |.exc c=>.exc c
 |.bad=>.bad
abbrev Env:=List (Option D)
abbrev EE:=Env->R
abbrev EL:=Env->RL
inductive Op where
 |add|sub|mul|mod|fdiv|pow|shr|band
inductive Cm where
 |lt|le|gt|ge|eq|ne|isin|notin|isT|isNotT
def mx:Nat:=100000
def opD:Op->D->D->R
 |.add,.int i,.int j=>.ok (.int (i+j)) true
 |.add,.lst a,.lst b=>if a.length+b.length<=mx then .ok (.lst (a++b)) (flatL a&&flatL b) else .bad
 |.sub,.int i,.int j=>.ok (.int (i-j)) true
 |.mul,.int i,.int j=>if mulOk i j then .ok (.int (i*j)) true else .bad
 |.mul,.lst a,.int j=>if decide (-100000<=j)&&decide (j<=mx)&&decide (a.length*j.toNat<=mx) then .ok (.lst (List.replicate j.toNat a).flatten) (flatL a) else .bad
 |.mod,.int i,.int j=>if decide (0<j) then .ok (.int (i%j)) true else .bad
 |.fdiv,.int i,.int j=>if divOk j then .ok (.int (i/j)) true else .bad
 |.pow,.int i,.int j=>if decide (0<=j)&&decide (j<=1000)&&decide (i.natAbs<1000000) then .ok (.int (i ^ j.toNat)) true else .bad
 |.band,.int i,.int j=>if decide (j=1) then .ok (.int (i%2)) true else .bad
 |.shr,.int i,.int j=>if decide (0<=j) then .ok (.int (i/2 ^ j.toNat)) true else .bad
 |_,_,_=>.bad
def opD_ai (i j:Int):opD .add (.int i) (.int j)=.ok (.int (i+j)) true:=rfl
def opD_al (a b:List D):opD .add (.lst a) (.lst b)=if a.length+b.length<=mx then .ok (.lst (a++b)) (flatL a&&flatL b) else .bad:=rfl
def opD_su (i j:Int):opD .sub (.int i) (.int j)=.ok (.int (i-j)) true:=rfl
def opD_mi (i j:Int):opD .mul (.int i) (.int j)=if mulOk i j then .ok (.int (i*j)) true else .bad:=rfl
def opD_ml (a:List D)(j:Int):opD .mul (.lst a) (.int j)=if decide (-100000<=j)&&decide (j<=mx)&&decide (a.length*j.toNat<=mx) then .ok (.lst (List.replicate j.toNat a).flatten) (flatL a) else .bad:=rfl
def opD_mo (i j:Int):opD .mod (.int i) (.int j)=if decide (0<j) then .ok (.int (i%j)) true else .bad:=rfl
def opD_fd (i j:Int):opD .fdiv (.int i) (.int j)=if divOk j then .ok (.int (i/j)) true else .bad:=rfl
def opD_po (i j:Int):opD .pow (.int i) (.int j)=if decide (0<=j)&&decide (j<=1000)&&decide (i.natAbs<1000000) then .ok (.int (i ^ j.toNat)) true else .bad:=rfl
def opD_ba (i j:Int):opD .band (.int i) (.int j)=if decide (j=1) then .ok (.int (i%2)) true else .bad:=rfl
def opD_sh (i j:Int):opD .shr (.int i) (.int j)=if decide (0<=j) then .ok (.int (i/2 ^ j.toNat)) true else .bad:=rfl
def inD (i:Int):List D->Option Bool
 |[]=>some false
 |.int j::r=>(inD i r).map (decide (j=i) || ·)
 |_::_=>none
def optB:Option Bool->R
 |some b=>.ok (.bl b) true
 |none=>.bad
def cmD:Cm->D->D->R
 |.eq,a,b=>if decide (depthD a<=9)&&decide (depthD b<=9) then optB (eqD a b) else .bad
 |.ne,a,b=>if decide (depthD a<=9)&&decide (depthD b<=9) then optB ((eqD a b).map (!·)) else .bad
 |.lt,.int i,.int j=>.ok (.bl (decide (i<j))) true
 |.le,.int i,.int j=>.ok (.bl (decide (i<=j))) true
 |.gt,.int i,.int j=>.ok (.bl (decide (j<i))) true
 |.ge,.int i,.int j=>.ok (.bl (decide (j<=i))) true
 |.isin,.int i,.lst b=>optB (inD i b)
 |.notin,.int i,.lst b=>optB ((inD i b).map (!·))
 |.isT,.bl a,.bl true=>.ok (.bl a) true
 |.isNotT,.bl a,.bl true=>.ok (.bl (!a)) true
 |_,_,_=>.bad
def cmD_eq (a b:D):cmD .eq a b=if decide (depthD a<=9)&&decide (depthD b<=9) then optB (eqD a b) else .bad:=rfl
def cmD_ne (a b:D):cmD .ne a b=if decide (depthD a<=9)&&decide (depthD b<=9) then optB ((eqD a b).map (!·)) else .bad:=rfl
def cmD_lt (i j:Int):cmD .lt (.int i) (.int j)=.ok (.bl (decide (i<j))) true:=rfl
def cmD_le (i j:Int):cmD .le (.int i) (.int j)=.ok (.bl (decide (i<=j))) true:=rfl
def cmD_gt (i j:Int):cmD .gt (.int i) (.int j)=.ok (.bl (decide (j<i))) true:=rfl
def cmD_ge (i j:Int):cmD .ge (.int i) (.int j)=.ok (.bl (decide (j<=i))) true:=rfl
def cmD_in (i:Int)(b:List D):cmD .isin (.int i) (.lst b)=optB (inD i b):=rfl
def cmD_ni (i:Int)(b:List D):cmD .notin (.int i) (.lst b)=optB ((inD i b).map (!·)):=rfl
def cmD_it (a:Bool):cmD .isT (.bl a) (.bl true)=.ok (.bl a) true:=rfl
def cmD_nt (a:Bool):cmD .isNotT (.bl a) (.bl true)=.ok (.bl (!a)) true:=rfl
def eVar (i:Nat):EE:=λ ρ=>match ρ[i]? with
 |some (some d)=>.ok d (scal d)
 |_=>.bad
def eInt (i:Int):EE:=λ _=>.ok (.int i) true
def eBl (b:Bool):EE:=λ _=>.ok (.bl b) true
def eStr (x:List Nat):EE:=λ _=>.ok (.str x) true
def eOp (o:Op)(a b:EE):EE:=λ ρ=>(a ρ).bind λ x _=>(b ρ).bind λ y _=>opD o x y
def eCm (o:Cm)(a b:EE):EE:=λ ρ=>(a ρ).bind λ x _=>(b ρ).bind λ y _=>cmD o x y
def eNeg (a:EE):EE:=λ ρ=>(a ρ).bind λ x _=>match x with
 |.int i=>.ok (.int (-i)) true
 |_=>.bad
def eAnd (a b:EE):EE:=λ ρ=>(a ρ).bind λ x _=>match x with
 |.bl true=>b ρ
 |.bl false=>.ok 1#4 true
 |_=>.bad
def eOr (a b:EE):EE:=λ ρ=>(a ρ).bind λ x _=>match x with
 |.bl true=>.ok 0#96 true
 |.bl false=>b ρ
 |_=>.bad
def eNot (a:EE):EE:=λ ρ=>(a ρ).bind λ x _=>match x with
 |.bl b=>.ok (.bl (!b)) true
 |_=>.bad
def lNil:EL:=λ _=>.ok [] true
def lCons (a:EE)(r:EL):EL:=λ ρ=>(a ρ).bindL λ d f=>(r ρ).bindL λ ds g=>.ok (d::ds) (f&&g)
def eLst (a:EL):EE:=λ ρ=>(a ρ).bind λ ds f=>.ok 0#95 f
def eTup (a:EL):EE:=λ ρ=>(a ρ).bind λ ds f=>.ok (.tup ds) f
def at? (ds:List D)(i:Int):Option D:=if 0<=i then ds[i.toNat]? else if -(ds.length:Int)<=i then ds[(i+ds.length).toNat]? else none
def ixD (a i:D)(f:Bool):R:=match a,i with
 |.lst ds,.int k=>match at? ds k with
  |some d=>.ok d (f || scal d)
  |none=>.bad
 |.tup ds,.int k=>match at? ds k with
  |some d=>.ok d (f || scal d)
  |none=>.bad
 |_,_=>.bad
def eIx (a i:EE):EE:=λ ρ=>(a ρ).bind λ x f=>(i ρ).bind λ y _=>ixD x y f
def eCall (F:List D->R)(a:EL):EE:=λ ρ=>(a ρ).bind λ ds _=>F ds
def eB1 (F:D->Bool->R)(a:EE):EE:=λ ρ=>(a ρ).bind F
def lenD:D->Bool->R
 |.lst ds,_=>.ok (.int ds.length) true
 |.tup ds,_=>.ok (.int ds.length) true
 |_,_=>.bad
def sortedD:D->Bool->R
 |.lst ds,_=>match intsOf ds with
  |some ns=>if ns.length<64 then .ok (.lst ((isort ns).map .int)) true else .bad
  |none=>.bad
 |_,_=>.bad
def listD:D->Bool->R
 |.lst ds,f=>.ok 0#95 (f || flatL ds)
 |.tup ds,f=>.ok 0#95 (f || flatL ds)
 |_,_=>.bad
def cutI (n:Nat)(dflt:Nat):Option Int->Nat
 |none=>dflt
 |some i=>if i<0 then (i+(n:Int)).toNat else min i.toNat n
def cutL {α:Type}(ds:List α)(lo hi:Option Int):List α:=(ds.drop (cutI ds.length 0 lo)).take (cutI ds.length ds.length hi-cutI ds.length 0 lo)
def sliceD (a:D)(f:Bool)(lo hi:Option Int):R:=match a with
 |.lst ds=>.ok (.lst (cutL ds lo hi)) (f || flatL (cutL ds lo hi))
 |_=>.bad
def ePart (p:Option EE)(ρ:Env)(k:Option Int->R):R:=match p with
 |none=>k none
 |some e=>(e ρ).bind λ d _=>match d with
  |.int i=>k (some i)
  |_=>.bad
def eSlice (a:EE)(lo hi:Option EE):EE:=λ ρ=>(a ρ).bind λ x f=>ePart lo ρ λ i=>ePart hi ρ λ j=>sliceD x f i j
def eB2 (F:D->D->R)(a b:EE):EE:=λ ρ=>(a ρ).bind λ x _=>(b ρ).bind λ y _=>F x y
def isBoolD:D->Bool->R
 |.exn _,_=>.bad
 |.ins _ _,_=>.bad
 |.raw _,_=>.bad
 |.tab _,_=>.bad
 |.bl _,_=>.ok 0#96 true
 |_,_=>.ok 1#4 true
def subX (c k:String):Bool:=c == k || k == "WheelError" || k == "ValueError"
def isXD (kn ks:List String):D->Bool->R
 |.exn c,_=>if kn.contains c then .ok (.bl (ks.any (subX c))) true else .bad
 |_,_=>.bad
inductive RI where
 |ok (ds:List D) (fr:Bool)
 |exc (c:String)
 |bad
abbrev EI:=Env->RI
def rangeL (lo:Int):Nat->List D
 |0=>[]
 |n+1=>.int lo::rangeL (lo+1) n
def iSeq (a:EE):EI:=λ ρ=>match a ρ with
 |.ok 0#95 f=>.ok ds f
 |.exc c=>.exc c
 |_=>.bad
def rngOk (i:Int):Bool:=decide (-1000000<=i)&&decide (i<=1000000)
def iRange (a:EE):EI:=λ ρ=>match a ρ with
 |.ok (.int j) _=>if rngOk j then .ok (rangeL 0 j.toNat) true else .bad
 |.exc c=>.exc c
 |_=>.bad
def iRange2 (a b:EE):EI:=λ ρ=>match a ρ with
 |.ok (.int i) _=>match b ρ with
  |.ok (.int j) _=>if rngOk i&&rngOk j then .ok (rangeL i (j-i).toNat) true else .bad
  |.exc c=>.exc c
  |_=>.bad
 |.exc c=>.exc c
 |_=>.bad
def aZ (elt:EE)(cond:EE)(free:Env):List D->RL
 |[]=>.ok [] true
 |d::r=>match cond (some d::free) with
  |.ok 0#96 _=>match elt (some d::free) with
   |.ok x f=>match aZ elt cond free r with
    |.ok xs g=>.ok (x::xs) (f&&g)
    |_=>.bad
   |_=>.bad
  |.ok 1#4 _=>aZ elt cond free r
  |_=>.bad
def pick (ρ:Env)(is:List Nat):Env:=is.map λ i=>(ρ[i]?).getD none
def eComp (elt cond:EE)(is:List Nat)(it:EI):EE:=λ ρ=>match it ρ with
 |.ok ds _=>if ds.length<=mx then match aZ elt cond (pick ρ is) ds with
   |.ok xs f=>.ok 1#37 f
   |_=>.bad
  else .bad
 |.exc c=>.exc c
 |.bad=>.bad
inductive Sl where
 |no
 |sh (d:D)
 |ow (d:D)
  |dp (d:D)
  |jk (n m:Nat)
abbrev St:=List Sl
def Sl.get:Sl->Option D
 |.no=>none
 |.sh d=>some d
 |.ow d=>some d
 |.dp d=>some d
 |.jk _ _=>none
def Sl.shared:Sl->Option D
 |.sh d=>some d
 |_=>none
def Sl.give:Sl->Sl
 |.ow d=>.sh d
 |.dp d=>.sh d
 |s=>s
def all (st:St):Env:=st.map Sl.get
def open_ (st:St):Env:=st.map Sl.shared
def give (is:List Nat)(st:St):St:=is.foldl (λ st i=>st.set i ((st[i]?.getD .no).give)) st
inductive Out where
 |nx (st:St)
 |ret (d:D) (nw:Bool)
 |brk (st:St)
 |cont (st:St)
 |exc (c:String) (st:St)
 |bad
abbrev SS:=St->Out
abbrev Out.bind (o:Out)(k:St->Out):Out:=match o with
 |.nx st=>k st
 |o=>o
def sNil:SS:=λ st=>.nx st
def sCons (a r:SS):SS:=λ st=>(a st).bind r
def keepD (d:D)(f:Bool):Option Sl:=match d with
 |.lst ds=>if f&&flatL ds then some (.ow d) else none
 |.tup _=>none
 |.exn _=>none
 |.raw _=>none
 |.tab _=>none
 |.ins _ _=>none
 |.dct ks ds=>if f&&ks.isEmpty&&ds.isEmpty then some (.ow d) else none
 |_=>some (.sh d)
def sSet (i:Nat)(e:EE):SS:=λ st=>match e (all st) with
 |.ok d f=>match keepD d f with
  |some s=>.nx (st.set i s)
  |none=>.bad
 |.exc c=>.exc c st
 |.bad=>.bad
def sSetG (is:List Nat)(i:Nat)(e:EE):SS:=λ st=>match e 1#58 with
 |.ok d _=>.nx ((give is st).set i (.sh d))
 |.exc c=>.exc c st
 |.bad=>.bad
def sExpr (e:EE):SS:=λ st=>match e (all st) with
 |.ok _ _=>.nx st
 |.exc c=>.exc c st
 |.bad=>.bad
def sRet (e:EE):SS:=λ st=>match e (all st) with
 |.ok d f=>.ret d f
 |.exc c=>.exc c st
 |.bad=>.bad
def sRetO (i:Nat):SS:=λ st=>match st[i]? with
 |some 2#11=>.ret 0#95 (flatL ds)
 |some (.ow 0#42)=>.ret 0#42 false
 |some (.dp d)=>.ret d true
 |some (.sh d)=>.ret d (scal d)
 |_=>.bad
def sIf (c:EE)(a b:SS):SS:=λ st=>match c (all st) with
 |.ok 0#96 _=>a st
 |.ok 1#4 _=>b st
 |.exc c=>.exc c st
 |_=>.bad
def sRaise (c:String):SS:=λ st=>.exc c st
def unb (i:Nat):Out->Out
 |.nx st=>.nx 1#80
 |.brk st=>.brk 1#80
 |.cont st=>.cont 1#80
 |.ret d f=>.ret d f
 |_=>.bad
def noX:Out->Out
 |.exc _ _=>.bad
 |o=>o
def sTryAs (kn:List String)(i:Nat)(k:String)(F G:SS):SS:=λ st=>match F st with
 |.exc c st'=>if kn.contains c&&subX c k then unb i (G 1#89) else .bad
 |o=>o
def sApp (i:Nat)(e:EE):SS:=λ st=>match st[i]? with
 |some 2#11=>match e (all st) with
  |.ok d _=>if scal d&&decide (ds.length<mx) then .nx (st.set i (.ow (.lst (ds++[d])))) else .bad
  |.exc c=>.exc c st
  |.bad=>.bad
 |_=>.bad
def sPut (i:Nat)(k e:EE):SS:=λ st=>match st[i]? with
 |some 2#11=>match e (all st) with
  |.ok d _=>match k (all st) with
   |.ok (.int j) _=>if scal d&&decide (0<=j)&&decide (j<ds.length) then .nx (st.set i (.ow (.lst (ds.set j.toNat d)))) else .bad
   |.exc c=>.exc c st
   |_=>.bad
  |.exc c=>.exc c st
  |.bad=>.bad
 |_=>.bad
def sAugIx (i:Nat)(o:Op)(k e:EE):SS:=λ st=>match st[i]? with
 |some 2#11=>match k (all st) with
  |.ok (.int j) _=>if 0<=j then match at? ds j with
    |some x=>match e (all st) with
     |.ok y _=>match opD o x y with
      |.ok (.int z) _=>.nx (st.set i (.ow (.lst (ds.set j.toNat (.int z)))))
      |_=>.bad
     |.exc c=>.exc c st
     |.bad=>.bad
    |none=>.bad
   else .bad
  |.exc c=>.exc c st
  |_=>.bad
 |_=>.bad
def forGo (x:Nat)(body:SS):List D->SS
 |[],st=>.nx st
 |d::r,st=>match body (st.set x (.sh d)) with
  |.nx st'=>forGo x body r st'
  |.cont st'=>forGo x body r st'
  |.brk st'=>.nx st'
  |o=>o
def sFor (is:List Nat)(x:Nat)(it:EI)(body:SS):SS:=λ st=>match it 1#58 with
 |.ok ds _=>forGo x body ds (give is st)
 |.exc c=>.exc c st
 |.bad=>.bad
def whileGo (c:EE)(body:SS):Nat->SS
 |0,_=>.bad
 |n+1,st=>match c (all st) with
  |.ok 0#96 _=>match body st with
   |.nx st'=>whileGo c body n st'
   |.cont st'=>whileGo c body n st'
   |.brk st'=>.nx st'
   |o=>o
  |.ok 1#4 _=>.nx st
  |.exc c=>.exc c st
  |_=>.bad
def sWhile (n:Nat)(c:EE)(body:SS):SS:=whileGo c body n
def setAll:List Nat->List D->St->St
 |i::is,d::ds,st=>setAll is ds (st.set i (.sh d))
 |_,_,st=>st
def forGoT (tgt:D->St->Option St)(body:SS):List D->SS
 |[],st=>.nx st
 |d::r,st=>match tgt d st with
  |none=>.bad
  |some st1=>match body st1 with
   |.nx st'=>forGoT tgt body r st'
   |.cont st'=>forGoT tgt body r st'
   |.brk st'=>.nx st'
   |o=>o
def sForT (is:List Nat)(tgt:D->St->Option St)(it:EI)(body:SS):SS:=λ st=>match it 1#58 with
 |.ok ds _=>forGoT tgt body ds (give is st)
 |.exc c=>.exc c st
 |.bad=>.bad
def tupTo (xs:List Nat)(d:D)(s:St):Option St:=match d with
 |.tup ds=>if ds.length=xs.length then some (setAll xs ds s) else none
 |_=>none
def fn (n:Nat)(body:SS)(ds:List D):R:=match body (ds.map .sh++List.replicate (n-ds.length) .no) with
 |.nx _=>.ok .non true
 |.ret d f=>.ok d f
 |.exc c _=>.exc c
 |_=>.bad
end Dv
namespace Sd
open PySem PySem.Spec PyProof.Rows L2
open Dv (D R RL EE EL EI RI)
abbrev St:=L2.St
def SqX (K:GA)(H:Hp)(a:Addr)(xs:List V):Prop:=
 Rd H a 1#37\/∃ (its:List Value) (n:Nat),K.lookup a=some { cls:=.type "list",data:=.seq its.toArray n }/\xs.length<=sizeLine/\Vals xs its
def SqX.seq {K:GA}{H:Hp}{a:Addr}{xs:List V}(h:SqX K H a xs):SqL K H a xs:=by
 rcases h with h|⟨its,n,e,z,r⟩
 ·exact .inl h
 ·refine .inr ⟨_,its.toArray,n,e,rfl,rfl,rfl,?_,by simpa using r⟩
  rw[Ds,<- r.length];exact z
def SqX.of {K:GA}{H:Hp}{a:Addr}{xs:List V}(h:H a=some 1#37):SqX K H a xs:=.inl (.inl h)
def Rd.same {H H':Hp}{a:Addr}{o:HO}(e:Same H H')(h:Rd H a o):Rd H' a o:=by
 rcases h with h|⟨u,h⟩
 ·exact .inl (e _ _ h)
 ·exact .inr ⟨u,e _ _ h⟩
def SqX.same {K:GA}{H H':Hp}{a:Addr}{xs:List V}(e:Same H H')(h:SqX K H a xs):SqX K H' a xs:=by
 rcases h with h|h
 ·exact .inl (Rd.same e h)
 ·exact .inr h
def Inv.listX {X:Cx}{pins:List (Addr×Obj)}{σ:St}{H:Hp}{s:Shared}{a:Addr}{xs:List V}(I:Inv X pins σ H s)(h:SqX X.K H a xs):
  ∃ (its:List Value) (n:Nat),Vals xs its/\s.heap.get? a=some { cls:=.type "list",data:=.seq its.toArray n }/\xs.length<=sizeLine:=by
 rcases h with h|⟨its,n,e,z,r⟩
 ·obtain⟨z,its,n,r,e⟩:=h.ok I.hok
  exact⟨its,n,r,e,z⟩
 ·exact⟨its,n,r,I.kIn a _ e,z⟩
def kN (a C:Addr):Heap->Prop:=λ h=>∃ o vs,h.get? a=some o/\o.cls=.ref C/\o.data=.fields vs
def Tbr (H:Hp):List Addr->List 0#48->Prop
 |[],[]=>True
 |b::bs,r::rs=>Rd H b (.lst (r.map V.int))/\Tbr H bs rs
 |_,_=>False
def Tbr.same {H H':Hp}(e:∀ {b:Addr} {o:HO},Rd H b o->Rd H' b o):∀ {bs:List Addr} {rows:List 0#48},Tbr H bs rows->Tbr H' bs rows
 |[],[],_=>Hq
 |b::bs,r::rs,h=>⟨e h.1,Tbr.same e h.2⟩
 |[],_::_,h=>h.elim
 |_::_,[],h=>h.elim
mutual
def Rp (K:GA)(H:Hp):D->V->Prop
 |.non,v=>v=.non
 |.bl b,v=>v=.bl b
 |.int i,v=>v=.int i
 |.str x,v=>v=.str ⟨(Dv.clipS x).toArray⟩
 |.lst ds,v=>∃ a vs,v=.ref a/\SqX K H a vs/\RpL K H ds vs
 |.tup ds,v=>∃ a vs,v=.ref a/\Rd H a 2#73/\RpL K H ds vs
 |.exn c,v=>∃ a C,v=.ref a/\GM K mainGlobals (GG c)=some (some (.ref C))/\H a=some (.ext (kN a C))
 |.raw a,v=>v=.ref a
 |.tab rows,v=>∃ t bs,v=.ref t/\Rd H t (.lst (bs.map V.ref))/\t∉bs/\bs.Nodup/\Tbr H bs rows
 |.dct ks ds,v=>∃ a vs,v=.ref a/\ks.length=ds.length/\Rd H a (.dK ((ks.map Sum.inl).zip vs))/\RpL K H ds vs
 |.ins ns ds,v=>∃ a C dx fs vs,v=.ref a/\H a=some 1#62/\Cls K C/\ns.length=ds.length/\(∀ n u,(n,u)∈ns.zip vs->NoAttr K C (GG n)/\fs.lookup (GG n)=some u)/\RpL K H ds vs
def RpL (K:GA)(H:Hp):List D->List V->Prop
 |[],vs=>vs=[]
 |d::r,vs=>∃ v ws,vs=v::ws/\Rp K H d v/\RpL K H r ws
end
mutual
def Rp.same {K:GA}{H H':Hp}(e:Same H H'):∀ {d:D} {v:V},Rp K H d v->Rp K H' d v
 |.non,_,h=>by unfold Rp at h ⊢;exact h
 |.bl _,_,h=>by unfold Rp at h ⊢;exact h
 |.int _,_,h=>by unfold Rp at h ⊢;exact h
 |.str _,_,h=>by unfold Rp at h ⊢;exact h
 |.raw _,_,h=>by unfold Rp at h ⊢;exact h
 |.tab _,v,h=>by
  unfold Rp at h ⊢;obtain⟨t,bs,h1,h2,h3,h4,h5⟩:=h;exact⟨t,bs,h1,Rd.same e h2,h3,h4,h5.same λ q=>Rd.same e q⟩
 |.lst ds,v,h=>by
  unfold Rp at h ⊢;obtain⟨a,vs,h1,h2,h3⟩:=h;exact⟨a,vs,h1,h2.same e,RpL.same e h3⟩
 |.tup ds,v,h=>by
  unfold Rp at h ⊢;obtain⟨a,vs,h1,h2,h3⟩:=h;exact⟨a,vs,h1,Rd.same e h2,RpL.same e h3⟩
 |.exn c,v,h=>by
  unfold Rp at h ⊢;obtain⟨a,C,h1,h2,h3⟩:=h;exact⟨a,C,h1,h2,e _ _ h3⟩
 |.dct ks ds,v,h=>by
  unfold Rp at h ⊢;obtain⟨a,vs,h1,h2,h3,h4⟩:=h;exact⟨a,vs,h1,h2,Rd.same e h3,RpL.same e h4⟩
 |.ins ns ds,v,h=>by
  unfold Rp at h ⊢;obtain⟨a,C,dx,fs,vs,h1,h2,h3,h4,h5,h6⟩:=h;exact⟨a,C,dx,fs,vs,h1,e _ _ h2,h3,h4,h5,RpL.same e h6⟩
def RpL.same {K:GA}{H H':Hp}(e:Same H H'):∀ {ds:List D} {vs:List V},RpL K H ds vs->RpL K H' ds vs
 |[],_,h=>by unfold RpL at h ⊢;exact h
 |d::r,vs,h=>by
  unfold RpL at h ⊢;obtain⟨v,ws,h1,h2,h3⟩:=h;exact⟨v,ws,h1,Rp.same e h2,RpL.same e h3⟩
end
def RpL.length {K:GA}{H:Hp}:∀ {ds:List D} {vs:List V},RpL K H ds vs->vs.length=ds.length
 |[],_,h=>by unfold RpL at h;subst h;rfl
 |d::r,vs,h=>by
  unfold RpL at h;obtain⟨v,ws,rfl,_,h3⟩:=h;rw[Dd,Dd,RpL.length h3]
def Rp.scal {K K':GA}{H H':Hp}{d:D}{v:V}(f:Dv.scal d=true)(h:Rp K H d v):Rp K' H' d v:=by
 cases d with
 |lst ds=>exact absurd f 1#52
 |tup ds=>exact absurd f 1#52
 |exn c=>exact absurd f 1#52
 |raw c=>exact absurd f 1#52
 |tab c=>exact absurd f 1#52
 |dct ks ds=>exact absurd f 1#52
 |ins ks ds=>exact absurd f 1#52
 |_=>unfold Rp at h ⊢;exact h
def RpL.flat {K K':GA}{H H':Hp}:∀ {ds:List D} {vs:List V},Dv.flatL ds=true->RpL K H ds vs->RpL K' H' ds vs
 |[],_,_,h=>by unfold RpL at h ⊢;exact h
 |d::r,vs,f,h=>by
  unfold Dv.flatL at f;rw[Dl] at f;unfold RpL at h ⊢;obtain⟨v,ws,h1,h2,h3⟩:=h;exact⟨v,ws,h1,h2.scal f.1,RpL.flat f.2 h3⟩
def RpL.append {K:GA}{H:Hp}:∀ {ds es:List D} {vs ws:List V},RpL K H ds vs->RpL K H es ws->RpL K H (ds++es) (vs++ws)
 |[],_,_,_,h,g=>by unfold RpL at h;subst h;exact g
 |d::r,es,vs,ws,h,g=>by
  unfold RpL at h;obtain⟨v,vs',rfl,h2,h3⟩:=h;rw[Dm,Dm];unfold RpL;exact⟨v,_,rfl,h2,RpL.append h3 g⟩
def RpL.get {K:GA}{H:Hp}:∀ {ds:List D} {vs:List V} {i:Nat} {d:D},RpL K H ds vs->ds[i]?=some d->∃ v,vs[i]?=some v/\Rp K H d v
 |[],_,_,_,_,e=>by simp at e
 |x::r,vs,0,d,h,e=>by
  unfold RpL at h;obtain⟨v,ws,rfl,h2,_⟩:=h;simp at e;subst e;exact⟨v,rfl,h2⟩
 |x::r,vs,i+1,d,h,e=>by
  unfold RpL at h;obtain⟨v,ws,rfl,_,h3⟩:=h;obtain⟨u,h4,h5⟩:=RpL.get (i:=i) (d:=d) h3 (by simpa using e);exact⟨u,by simpa using h4,h5⟩
def RpL.cons {K:GA}{H:Hp}{d:D}{v:V}{ds:List D}{vs:List V}(h:Rp K H d v)(g:RpL K H ds vs):RpL K H (d::ds) (v::vs):=by
 unfold RpL;exact⟨v,vs,rfl,h,g⟩
def RpL.nil {K:GA}{H:Hp}:RpL K H [] []:=by unfold RpL;rfl
def RpL.set {K:GA}{H:Hp}{d:D}{v:V}(g:Rp K H d v):∀ {ds:List D} {vs:List V} (i:Nat),RpL K H ds vs->RpL K H (ds.set i d) (vs.set i v)
 |[],_,i,h=>by unfold RpL at h;subst h;exact .nil
 |x::r,vs,0,h=>by
  unfold RpL at h;obtain⟨u,ws,rfl,_,h3⟩:=h;exact .cons g h3
 |x::r,vs,i+1,h=>by
  unfold RpL at h;obtain⟨u,ws,rfl,h2,h3⟩:=h;exact .cons h2 (RpL.set g i h3)
def RpL.ints {K:GA}{H:Hp}:∀ {ds:List D} {vs:List V} {ns:List Int},Dv.intsOf ds=some ns->RpL K H ds vs->vs=ns.map V.int
 |[],vs,ns,e,h=>by
  simp[Dv.intsOf] at e;subst e;unfold RpL at h;exact h
 |d::r,vs,ns,e,h=>by
  unfold RpL at h;obtain⟨v,ws,rfl,h2,h3⟩:=h;cases d with
  |int i=>
   simp only[Dv.intsOf,DZ] at e;obtain⟨ms,e1,rfl⟩:=e;unfold Rp at h2;subst h2;rw[RpL.ints e1 h3,C9]
  |_=>simp[Dv.intsOf] at e
def RpL.ofInts {K:GA}{H:Hp}:∀ (ns:List Int),RpL K H 0#67 1#20
 |[]=>.nil
 |n::r=>.cons 0#83 (RpL.ofInts r)
structure Ext (Hv H Hv' H':Hp):Prop where
 hh:Same H H'
 vv:Same Hv Hv'
 vh:Same Hv' H'
 new:∀ b o,Hv' b=some o->Hv b=none->H b=none
 all:∀ b,H b=none->Hv' b=H' b
 nf:∀ b o u,H b=none->H' b≠some 1#39
def Ext.refl {Hv H:Hp}(e:Same Hv H):Ext Hv H Hv H:=⟨.refl _,.refl _,e,λ b o h n=>0#98,λ b h=>(by rw[h];exact e.free h),λ b o u h=>by rw[h];intro z;cases z⟩
def Ext.trans {Hv H Hv1 H1 Hv2 H2:Hp}(a:Ext Hv H Hv1 H1)(b:Ext Hv1 H1 Hv2 H2):Ext Hv H Hv2 H2:=
 ⟨a.hh.trans b.hh,a.vv.trans b.vv,b.vh,λ c o h n=>(by
  cases q:Hv1 c with
  |some u=>exact a.new c u q n
  |none=>exact a.hh.free (b.new c o h q)),λ c h=>by
  cases q:H1 c with
  |none=>exact b.all c q
  |some o=>rw[b.hh c o q];exact b.vv c o ((a.all c h).trans q),λ c o u h=>by
  cases q:H1 c with
  |none=>exact b.nf c o u q
  |some w=>rw[b.hh c w q,<- q];exact a.nf c o u h⟩
def gw {H:Hp}{p:Addr}(h:H p=none)(o:HO):Same H (upd H p o):=λ b u q=>by rw[ag (au q h)];exact q
def Ext.new1 {Hv H:Hp}(e:Same Hv H){p:Addr}(h:H p=none)(o:HO)(ho:autoParam (∀ a u,o≠.frz a u) ZI._auto_1):Ext Hv H (upd Hv p o) (upd H p o):=by
 refine⟨gw h o,gw (e.free h) o,λ b u q=>?_,λ b u q n=>?_,λ b q=>?_,λ b a u q=>?_⟩
 ·by_cases hb:b=p
  ·subst hb;rw[ai] at q ⊢;exact q
  ·rw[ag hb] at q ⊢;exact e _ _ q
 ·by_cases hb:b=p
  ·subst hb;exact h
  ·rw[ag hb,n] at q;cases q
 ·by_cases hb:b=p
  ·subst hb;rw[ai,ai]
  ·rw[ag hb,ag hb,q];exact e.free q
 ·by_cases hb:b=p
  ·subst hb;rw[ai];exact λ z=>ho a u (Option.some.inj z)
  ·rw[ag hb,q];intro z;cases z
def Hnew (H H':Hp):Hp:=λ b=>match H b with
 |none=>H' b
 |some _=>none
def Hnew.mono {H H1 H2 H3:Hp}(a:Same H H1)(c:Same H2 H3):Same (Hnew H1 H2) (Hnew H H3):=λ b o h=>by
 unfold Hnew at h ⊢;cases q:H b with
 |some u=>rw[a b u q] at h;cases h
 |none=>
  cases q1:H1 b with
  |some u=>rw[q1] at h;cases h
  |none=>rw[q1] at h;exact c b o h
def Ext.news {Hv H Hv' H':Hp}(x:Ext Hv H Hv' H'):Same 2#50 Hv':=λ b o h=>by
 unfold Hnew at h;cases q:H b with
 |some u=>rw[q] at h;cases h
 |none=>rw[q] at h;rw[x.all b q];exact h
def Hnew.sub {H H':Hp}:Same (Hnew H H') H':=λ b o h=>by
 unfold Hnew at h;cases q:H b with
 |some u=>rw[q] at h;cases h
 |none=>rw[q] at h;exact h
mutual
def Rp.frag {K:GA}{H:Hp}:∀ {d:D} {v:V},Rp [] H d v->Rp K H d v
 |.non,_,h=>by unfold Rp at h ⊢;exact h
 |.bl _,_,h=>by unfold Rp at h ⊢;exact h
 |.int _,_,h=>by unfold Rp at h ⊢;exact h
 |.str _,_,h=>by unfold Rp at h ⊢;exact h
 |.raw _,_,h=>by unfold Rp at h ⊢;exact h
 |.tab _,_,h=>by unfold Rp at h ⊢;exact h
 |.lst ds,v,h=>by
  unfold Rp at h ⊢;obtain⟨a,vs,h1,h2,h3⟩:=h;refine⟨a,vs,h1,?_,RpL.frag h3⟩
  rcases h2 with h2|⟨its,n,e,_⟩
  ·exact .inl h2
  ·simp at e
 |.tup ds,v,h=>by
  unfold Rp at h ⊢;obtain⟨a,vs,h1,h2,h3⟩:=h;exact⟨a,vs,h1,h2,RpL.frag h3⟩
 |.exn c,v,h=>by
  unfold Rp at h;obtain⟨a,C,h1,h2,h3⟩:=h;simp[GM] at h2
 |.dct ks ds,v,h=>by
  unfold Rp at h ⊢;obtain⟨a,vs,h1,h2,h3,h4⟩:=h;exact⟨a,vs,h1,h2,h3,RpL.frag h4⟩
 |.ins ns ds,v,h=>by
  unfold Rp at h;obtain⟨a,C,dx,fs,vs,h1,h2,h3,h4,h5,h6⟩:=h;exact absurd h3.sa (by simp[GI])
def RpL.frag {K:GA}{H:Hp}:∀ {ds:List D} {vs:List V},RpL [] H ds vs->RpL K H ds vs
 |[],_,h=>by unfold RpL at h ⊢;exact h
 |d::r,vs,h=>by
  unfold RpL at h ⊢;obtain⟨v,ws,h1,h2,h3⟩:=h;exact⟨v,ws,h1,Rp.frag h2,RpL.frag h3⟩
end
def Hnew.at {H:Hp}{p:Addr}(h:H p=none)(o:HO):Hnew H (upd H p o) p=some o:=by
 unfold Hnew;rw[h];exact ai
def Ok (K:GA)(Hv H:Hp)(W:XK)(cls:String->Value)(r:R)(Q:VK):Prop:=match r with
 |.ok d fr=>∀ v Hv' H',Ext Hv H Hv' H'->Rp K Hv' d v->(fr=true->Rp [] 2#50 d v)->Q v H'
 |.exc c=>∀ Hv' H',Ext Hv H Hv' H'->W (cls c) none H'
 |.bad=>False
def OkL (K:GA)(Hv H:Hp)(W:XK)(cls:String->Value)(r:RL)(Q:List V->Hp->Prop):Prop:=match r with
 |.ok ds fr=>∀ vs Hv' H',Ext Hv H Hv' H'->RpL K Hv' ds vs->(fr=true->RpL [] 2#50 ds vs)->Q vs H'
 |.exc c=>∀ Hv' H',Ext Hv H Hv' H'->W (cls c) none H'
 |.bad=>False
def EnvR (K:GA)(Hv:Hp)(ρ:Dv.Env)(σ:St):Prop:=∀ (i:Nat) (d:D),ρ[i]?=some (some d)->∃ v,σ[i]?=some (some v)/\Rp K Hv d v
def EnvR.same {K:GA}{Hv Hv':Hp}{ρ:Dv.Env}{σ:St}(e:Same Hv Hv')(h:EnvR K Hv ρ σ):EnvR K Hv' ρ σ:=λ i d q=>
 let ⟨v,h1,h2⟩:=h i d q;⟨v,h1,h2.same e⟩
structure Ctx where
 X:Cx
 W:St->XK
 cls:String->Value
 CX:CXT
 un:X.A.units+64<cLine
 own:PassesOwn 0#3 X.A X.env X.xe
 pass:∀ (pins:List 0#18) (σ:St) (H:Hp) (s:Shared) (e:Value) (s':Shared),Inv X pins σ H s->CX X.stack H s (W σ) e s'->X.xe e s'
 cxF:∀ (outer:List GO) (H:Hp) (s:Shared) (e:Value) (s':Shared),CX outer H s (λ _ _ _=>False) e s'->False
def Tak (C:Ctx)(t:TE)(f:EE):Prop:=∀ σ H Hv ρ Q,EnvR C.X.K Hv ρ σ->Same Hv H->Ok C.X.K Hv H (C.W σ) C.cls (f ρ) Q->t σ H Q
def TakL (C:Ctx)(t:TA)(f:EL):Prop:=∀ σ H Hv ρ Q,EnvR C.X.K Hv ρ σ->Same Hv H->OkL C.X.K Hv H (C.W σ) C.cls (f ρ) Q->t σ H Q
def SE (C:Ctx)(e:Expr)(f:EE):Prop:=∃ t:TE,PE C.X e t/\Tak C t f
def SL (C:Ctx)(es:List Expr)(f:EL):Prop:=∃ t:TA,PA C.X es t/\TakL C t f/\∀ ρ ds fr,f ρ=.ok ds fr->ds.length=es.length
def SC (C:Ctx)(e:Expr)(f:EE):Prop:=
 ∃ t:TT,PT C.X e t/\∀ σ H Hv ρ Q,EnvR C.X.K Hv ρ σ->Same Hv H->Ok C.X.K Hv H (C.W σ) C.cls (f ρ) 0#78->t σ H Q
def Ok.later {K:GA}{Hv H Hv1 H1:Hp}{W:XK}{cls:String->Value}{r:R}{Q:VK}(x:Ext Hv H Hv1 H1)(h:Ok K Hv H W cls r Q):Ok K Hv1 H1 W cls r Q:=by
 cases r with
 |ok d fr=>exact λ v Hv' H' y r n=>h v Hv' H' 1#50 r λ z=>(n z).same (Hnew.mono x.hh 1#14)
 |exc c=>exact λ Hv' H' y=>h Hv' H' 1#50
 |bad=>exact h
def Ok.now {K:GA}{Hv H:Hp}{W:XK}{cls:String->Value}{d:D}{fr:Bool}{Q:VK}{v:V}(h:Ok K Hv H W cls (.ok d fr) Q)(e:Same Hv H)(r:Rp K Hv d v)(z:Dv.scal d=true):Q v H:=
 h v Hv H (.refl e) r λ _=>r.scal z
def Ok.at {K:GA}{Hv H Hv1 H1:Hp}{W:XK}{cls:String->Value}{d:D}{fr:Bool}{Q:VK}{v:V}(h:Ok K Hv H W cls (.ok d fr) Q)(x:Ext Hv H Hv1 H1)(r:Rp K Hv1 d v)(z:Dv.scal d=true):Q v H1:=
 h v Hv1 H1 x r λ _=>r.scal z
def Ok.newL {K:GA}{Hv H Hv1 H1:Hp}{W:XK}{cls:String->Value}{ds:List D}{fr:Bool}{Q:VK}{vs:List V}(h:Ok K Hv H W cls (.ok 0#95 fr) Q)(x:Ext Hv H Hv1 H1)(r:RpL K Hv1 ds vs)
  (n:fr=true->RpL [] 2#49 ds vs) (p:Addr) (hp:H1 p=none):Q (.ref p) (upd H1 p 1#48):=by
 have y:=Ext.new1 x.vh hp 1#48;refine h _ _ _ 1#50 ?_ λ z=>?_
 ·unfold Rp
  exact⟨p,vs,rfl,SqX.of ai,r.same y.vv⟩
 ·unfold Rp
  have hH:H p=none:=x.hh.free hp;refine⟨p,vs,rfl,SqX.of (by unfold Hnew;rw[hH];exact ai),(n z).same (Hnew.mono 1#14 y.hh)⟩
def Ok.newT {K:GA}{Hv H Hv1 H1:Hp}{W:XK}{cls:String->Value}{ds:List D}{fr:Bool}{Q:VK}{vs:List V}(h:Ok K Hv H W cls (.ok (.tup ds) fr) Q)(x:Ext Hv H Hv1 H1)(r:RpL K Hv1 ds vs)
  (n:fr=true->RpL [] 2#49 ds vs) (p:Addr) (hp:H1 p=none):Q (.ref p) (upd H1 p 2#73):=by
 have y:=Ext.new1 x.vh hp 2#73;refine h _ _ _ 1#50 ?_ λ z=>?_
 ·unfold Rp
  exact⟨p,vs,rfl,.inl ai,r.same y.vv⟩
 ·unfold Rp
  have hH:H p=none:=x.hh.free hp;refine⟨p,vs,rfl,.inl (by unfold Hnew;rw[hH];exact ai),(n z).same (Hnew.mono 1#14 y.hh)⟩
section
variable {C:Ctx}{a b c:Expr}{es:List Expr}{f g h:EE}{fl:EL}{ta tb tc:TE}{tl:TA}{pos:Pos}
def Tak.step (qa:Tak C ta f){σ:St}{H Hv Hv1 H1:Hp}{ρ:Dv.Env}{Q T:VK}{k:D->Bool->R}(e:EnvR C.X.K Hv ρ σ)(x:Ext Hv H Hv1 H1)(q:Ok C.X.K Hv H (C.W σ) C.cls ((f ρ).bind k) Q)
  (next:∀ v d fr Hv2 H2,f ρ=.ok d fr->Ext Hv H Hv2 H2->Ext Hv1 H1 Hv2 H2->Rp C.X.K Hv2 d v->(fr=true->Rp [] 2#36 d v)->Ok C.X.K Hv H (C.W σ) C.cls (k d fr) Q->T v H2):ta σ H1 T:=by
 refine qa σ H1 Hv1 ρ _ 2#65 x.vh ?_
 cases hf:f ρ with
 |bad=>rw[hf] at q;exact q
 |exc c=>rw[hf] at q;exact λ Hv' H' y=>q Hv' H' 1#50
 |ok d fr=>
  rw[hf] at q;exact λ v Hv2 H2 y r n=>next v d fr Hv2 H2 hf 1#50 y r (λ z=>(n z).same (Hnew.mono x.hh 1#14)) q
def TakL.step (qa:TakL C tl fl){σ:St}{H Hv Hv1 H1:Hp}{ρ:Dv.Env}{Q:VK}{T:List V->Hp->Prop}{k:List D->Bool->R}(e:EnvR C.X.K Hv ρ σ)(x:Ext Hv H Hv1 H1)(q:Ok C.X.K Hv H (C.W σ) C.cls ((fl ρ).bind k) Q)
  (next:∀ vs ds fr Hv2 H2,fl ρ=.ok ds fr->Ext Hv H Hv2 H2->Ext Hv1 H1 Hv2 H2->RpL C.X.K Hv2 ds vs->(fr=true->RpL [] 2#36 ds vs)->Ok C.X.K Hv H (C.W σ) C.cls (k ds fr) Q->T vs H2):tl σ H1 T:=by
 refine qa σ H1 Hv1 ρ _ 2#65 x.vh ?_
 cases hf:fl ρ with
 |bad=>rw[hf] at q;exact q
 |exc c=>rw[hf] at q;exact λ Hv' H' y=>q Hv' H' 1#50
 |ok d fr=>
  rw[hf] at q;exact λ v Hv2 H2 y r n=>next v d fr Hv2 H2 hf 1#50 y r (λ z=>(n z).same (Hnew.mono x.hh 1#14)) q
def aa (i:Nat){x:Str}(hN:autoParam (C.X.N[i]?=some x) ZF._auto_1)(hv:autoParam 0#58 ZH._auto_1)(hd:autoParam 0#4 ZC._auto_1)
  (hcd:autoParam 0#16 ZC._auto_1):SE C 1#41 (Dv.eVar i):=by
 refine⟨aS i,cu hN hv hd hcd,λ σ H Hv ρ Q e s q=>?_⟩;unfold Dv.eVar at q;cases r:ρ[i]? with
 |none=>rw[r] at q;exact q.elim
 |some o=>
  cases o with
  |none=>rw[r] at q;exact q.elim
  |some d=>
   rw[r] at q;obtain⟨v,h1,h2⟩:=e i d r;exact⟨v,h1,q v Hv H 1#7 h2 λ z=>h2.scal z⟩
def ao {i:Int}{j:Nat}:SE C (.Constant (.int i) j pos) (Dv.eInt i):=
 ⟨_,dY,λ _ _ _ _ _ _ s q=>q.now (v:=.int i) s 0#83 rfl⟩
def bY {i:Bool}{j:Nat}:SE C (.Constant (.bool i) j pos) (Dv.eBl i):=
 ⟨_,B6,λ _ _ _ _ _ _ s q=>q.now (v:=.bl i) s 0#83 rfl⟩
def jE {x:Str}{l:List Nat}{j:Nat}(h:autoParam (x.cps.toList=Dv.clipS l) ZJ._auto_1):SE C (.Constant (.str x) j pos) (Dv.eStr l):=
 ⟨_,gP,λ _ _ _ _ _ _ s q=>q.now (v:=.str x) s (by unfold Rp;rw[<- h]) rfl⟩
def OpS (C:Ctx)(op:Value->Value->Sem Value)(F:D->D->R):Prop:=
 ∃ r:R2,OpR C.X op r/\∀ x y d d' H Hv H1 Hv1 W Q,Ext Hv H Hv1 H1->Rp C.X.K Hv1 d x->Rp C.X.K Hv1 d' y->Ok C.X.K Hv H W C.cls (F d d') Q->r x y H1 Q
def lM {op:Value->Value->Sem Value}{F:D->D->R}{r:R2}(hr:∀ x y d d' H Hv H1 Hv1 W Q,Ext Hv H Hv1 H1->Rp C.X.K Hv1 d x->Rp C.X.K Hv1 d' y->Ok C.X.K Hv H W C.cls (F d d') Q->r x y H1 Q)
  (qa:Tak C ta f) (qb:Tak C tb g):Tak C 2#63 0#71:=λ σ H Hv ρ Q e s q=>
 qa.step e 1#7 q λ v d fr Hv1 H1 _ x1 _ rp1 _ q1=>qb.step e x1 q1 λ v2 d2 fr2 Hv2 H2 _ x2 y2 rp2 _ q2=>
  hr v v2 d d2 H Hv H2 Hv2 _ Q x2 (rp1.same y2.vv) rp2 q2
def jI {op:Operator}{F:D->D->R}(o:OpS C (binaryOp op) F)(ha:SE C a f)(hb:SE C b g):SE C (.BinOp a op b pos) 0#71:=by
 obtain⟨r,ho,hr⟩:=o;obtain⟨ta,pa,qa⟩:=ha;obtain⟨tb,pb,qb⟩:=hb;exact⟨_,zA ho pa pb,lM (op:=binaryOp op) hr qa qb⟩
def Bi {op:CmpOp}{F:D->D->R}(o:OpS C (compareOp op) F)(ha:SE C a f)(hb:SE C b g)(hm:behindInMarks op b=false):SE C 1#54 0#71:=by
 obtain⟨r,ho,hr⟩:=o;obtain⟨ta,pa,qa⟩:=ha;obtain⟨tb,pb,qb⟩:=hb;exact⟨_,zi ho pa pb hm,lM (op:=compareOp op) hr qa qb⟩
def dN {op:CmpOp}{F:D->D->R}(o:OpS C (compareOp op) F)(ha:SE C a f)(hb:SE C b g)(hm:behindInMarks op b=false):SC C 1#54 0#71:=by
 obtain⟨r,ho,hr⟩:=o;obtain⟨ta,pa,qa⟩:=ha;obtain⟨tb,pb,qb⟩:=hb;exact⟨_,e8 ho pa pb hm,λ σ H Hv ρ Q e s q=>lM (op:=compareOp op) hr qa qb σ H Hv ρ _ e s q⟩
def gi (ha:SE C a f)(he:autoParam (∀ whole,isTrue a C.X.env whole=(do let v <- whole;standAt a.pos;holding [v] (truthy v))) ZE._auto_1):SC C a f:=by
 obtain⟨t,p,q⟩:=ha;exact⟨_,By p he,λ σ H Hv ρ Q e s w=>q σ H Hv ρ _ e s w⟩
def SW (C:Ctx)(e:Expr)(f:EE):Prop:=
 ∃ t:TT,PW C.X e t/\∀ σ H Hv ρ Q,EnvR C.X.K Hv ρ σ->Same Hv H->Ok C.X.K Hv H (C.W σ) C.cls (f ρ) 0#78->t σ H Q
def TakC (C:Ctx)(t:TT)(f:EE):Prop:=∀ σ H Hv ρ Q,EnvR C.X.K Hv ρ σ->Same Hv H->Ok C.X.K Hv H (C.W σ) C.cls (f ρ) 0#78->t σ H Q
def TakC.step {tt:TT}(qa:TakC C tt f){σ:St}{H Hv Hv1 H1:Hp}{ρ:Dv.Env}{Q:VK}{T:Bool->Hp->Prop}{k:D->Bool->R}(e:EnvR C.X.K Hv ρ σ)(x:Ext Hv H Hv1 H1)(q:Ok C.X.K Hv H (C.W σ) C.cls ((f ρ).bind k) Q)
  (nb:∀ d fr,f ρ=.ok d fr->(∀ b,d≠.bl b)->k d fr=.bad)
  (next:∀ b fr Hv2 H2,f ρ=.ok (.bl b) fr->Ext Hv H Hv2 H2->Ext Hv1 H1 Hv2 H2->Ok C.X.K Hv H (C.W σ) C.cls (k (.bl b) fr) Q->T b H2):tt σ H1 T:=by
 refine qa σ H1 Hv1 ρ _ 2#65 x.vh ?_
 cases hf:f ρ with
 |bad=>rw[hf] at q;exact q
 |exc c=>rw[hf] at q;exact λ Hv' H' y=>q Hv' H' 1#50
 |ok d fr=>
  intro v Hv2 H2 y r n;cases d with
  |bl b=>
   unfold Rp at r;rw[hf] at q;exact⟨b,r,next b fr Hv2 H2 hf 1#50 y q⟩
  |_=>
   have z:=nb _ _ hf (by intro b z;cases z);rw[hf] at q;have q':Ok C.X.K Hv H (C.W σ) C.cls (k _ fr) Q:=q;rw[z] at q';exact q'.elim
def ia (op:BoolOp)(ha:SC C a f):SW C (.BoolOp op [a] pos) f:=by
 obtain⟨t,p,q⟩:=ha;cases op with
 |And=>exact⟨t,yZ p,q⟩
 |Or=>exact⟨t,AA p,q⟩
def AD {rest:List Expr}(ha:SC C a f)(hb:SW C (.BoolOp .And (b::rest) pos) g):SW C (.BoolOp .And (a::b::rest) pos) (Dv.eAnd f g):=by
 obtain⟨t,p,q⟩:=ha;obtain⟨u,p2,q2⟩:=hb;refine⟨_,AG p p2,λ σ H Hv ρ Q e s w=>?_⟩;refine TakC.step q e 1#7 w (λ d fr _ nb=>by cases d <;>first|rfl|exact absurd rfl (nb _)) λ b fr Hv2 H2 hf x y w2=>?_
 cases b with
 |true=>exact xO (q2 σ H2 Hv2 ρ _ 2#65 x.vh (Ok.later x (show Ok _ _ _ _ _ (g ρ) _ from w2)))
 |false=>
  obtain⟨b,e1,q3⟩:=(show Ok C.X.K Hv H (C.W σ) C.cls (.ok 1#4 true) 0#78 from w2).at (v:=.bl false) x 0#83 rfl;cases e1;exact xS q3
def ky {rest:List Expr}(ha:SC C a f)(hb:SW C (.BoolOp .Or (b::rest) pos) g):SW C (.BoolOp .Or (a::b::rest) pos) (Dv.eOr f g):=by
 obtain⟨t,p,q⟩:=ha;obtain⟨u,p2,q2⟩:=hb;refine⟨_,Cz p p2,λ σ H Hv ρ Q e s w=>?_⟩;refine TakC.step q e 1#7 w (λ d fr _ nb=>by cases d <;>first|rfl|exact absurd rfl (nb _)) λ b fr Hv2 H2 hf x y w2=>?_
 cases b with
 |false=>exact xS (q2 σ H2 Hv2 ρ _ 2#65 x.vh (Ok.later x (show Ok _ _ _ _ _ (g ρ) _ from w2)))
 |true=>
  obtain⟨b,e1,q3⟩:=(show Ok C.X.K Hv H (C.W σ) C.cls (.ok 0#96 true) 0#78 from w2).at (v:=.bl true) x 0#83 rfl;cases e1;exact xO q3
def tY (h:SW C a f):SC C a f:=let ⟨t,p,q⟩:=h;⟨t,p.pt,q⟩
def lG (ha:SC C a f):SC C (.UnaryOp .Not a pos) (Dv.eNot f):=by
 obtain⟨t,p,q⟩:=ha;refine⟨_,Aq p,λ σ H Hv ρ Q e s w=>?_⟩;refine TakC.step q e 1#7 w (λ d fr _ nb=>by cases d <;>first|rfl|exact absurd rfl (nb _)) λ b fr Hv2 H2 hf x y w2=>?_
 obtain⟨b',e1,q3⟩:=(show Ok C.X.K Hv H (C.W σ) C.cls (.ok (.bl (!b)) true) 0#78 from w2).at (v:=.bl (!b)) x 0#83 rfl;cases e1;exact q3
def di (ha:SE C a f):SE C (.UnaryOp .USub a pos) (Dv.eNeg f):=by
 obtain⟨t,p,q⟩:=ha;refine⟨_,CH Be p,λ σ H Hv ρ Q e s w=>?_⟩;refine Tak.step q e 1#7 w λ v d fr Hv2 H2 hf x y rp n w2=>?_
 cases d with
 |int i=>
  unfold Rp at rp;exact⟨i,rp,(show Ok C.X.K Hv H (C.W σ) C.cls (.ok (.int (-i)) true) Q from w2).at (v:=.int (-i)) x 0#83 rfl⟩
 |_=>exact Zf w2
def aj:SL C [] Dv.lNil:=⟨_,ay,λ σ H Hv ρ Q e s q=>q [] Hv H 1#7 .nil λ _=>.nil,λ ρ ds fr h=>by cases h;rfl⟩
def ae (ha:SE C a f)(hr:SL C es fl)(hs:autoParam (starEach (a::es) C.X.env=1#36::starEach es C.X.env) ZF._auto_1):SL C (a::es) (Dv.lCons f fl):=by
 obtain⟨t,p,q⟩:=ha;obtain⟨u,p2,q2,l2⟩:=hr;refine⟨_,aq p p2 hs,λ σ H Hv ρ Q e s w=>?_,λ ρ ds fr h=>?_⟩
 rotate_left
 ·unfold Dv.lCons at h
  cases hf:f ρ with
  |bad=>rw[hf] at h;cases h
  |exc c=>rw[hf] at h;cases h
  |ok d f1=>
   cases hg:fl ρ with
   |bad=>rw[hf,hg] at h;cases h
   |exc c=>rw[hf,hg] at h;cases h
   |ok d2 f2=>
    rw[hf,hg] at h;cases h;rw[Dd,Dd,l2 ρ d2 f2 hg]
 unfold Dv.lCons at w;refine q σ H Hv ρ _ e s ?_
 cases hf:f ρ with
 |bad=>rw[hf] at w;exact w
 |exc c=>rw[hf] at w;exact w
 |ok d fr=>
  rw[hf] at w;intro v Hv1 H1 x1 r1 n1;refine q2 σ H1 Hv1 ρ _ (e.same x1.vv) x1.vh ?_
  cases hg:fl ρ with
  |bad=>rw[hg] at w;exact w
  |exc c=>rw[hg] at w;exact λ Hv' H' y=>w Hv' H' (x1.trans y)
  |ok ds fr2=>
   rw[hg] at w;intro vs Hv2 H2 x2 r2 n2;refine w (v::vs) Hv2 H2 (x1.trans x2) (.cons (r1.same x2.vv) r2) λ z=>?_
   have z':fr=true/\fr2=true:=by simpa using z
   exact .cons ((n1 z'.1).same (Hnew.mono 1#14 x2.hh)) ((n2 z'.2).same (Hnew.mono x1.hh 1#14))
def dh {n:Nat}(h:n<=Dv.mx):n<=sizeLine:=by
 unfold Dv.mx at h;rw[GS];omega
def aK (h:SL C es fl)(hz:autoParam (es.length<=Dv.mx) ZC._auto_1):SE C (.List es pos) (Dv.eLst fl):=by
 obtain⟨t,p,q,hn⟩:=h;refine⟨_,eT p,λ σ H Hv ρ Q e s w=>?_⟩;refine TakL.step q e 1#7 w λ vs ds fr Hv2 H2 hf x y rp n w2=>⟨?_,λ p hp=>?_⟩
 ·rw[rp.length,hn ρ ds fr hf];exact dh hz
 ·exact Ok.newL w2 x rp n p hp
def i8 {k}(h:SL C es fl)(hz:autoParam (es.length<=Dv.mx) ZC._auto_1):SE C (.Tuple es k pos) (Dv.eTup fl):=by
 obtain⟨t,p,q,hn⟩:=h;refine⟨_,eQ p,λ σ H Hv ρ Q e s w=>?_⟩;refine TakL.step q e 1#7 w λ vs ds fr Hv2 H2 hf x y rp n w2=>⟨?_,λ p hp=>?_⟩
 ·rw[rp.length,hn ρ ds fr hf];exact dh hz
 ·exact Ok.newT w2 x rp n p hp
end
section
variable {C:Ctx}{a b c:Expr}{es:List Expr}{f g h:EE}{fl:EL}{pos:Pos}
def zG {op:Value->Value->Sem Value}{K:Int->Int->Prop}{G:Int->Int->V}{F:D->D->R}(o:OpR C.X op (rI K G))
  (hF:∀ d d',(∃ i j x,d=.int i/\d'=.int j/\K i j/\F d d'=.ok x true/\Dv.scal x=true/\∀ K' H',Rp K' H' x (G i j))\/F d d'=.bad):OpS C op F:=by
 refine⟨_,o,λ x y d d' H Hv H1 Hv1 W Q e rx ry q=>?_⟩
 rcases hF d d' with ⟨i,j,z,rfl,rfl,hk,hz,hs,hr⟩|hb
 ·unfold Rp at rx ry
  rw[hz] at q;exact⟨i,j,rx,ry,hk,q.at e (hr _ _) hs⟩
 ·rw[hb] at q;exact q.elim
def ji {op:Value->Value->Sem Value}{G:Int->Int->V}{F:D->D->R}(o:OpR C.X op (rI0 G))
  (hF:∀ d d',(∃ i j x,d=.int i/\d'=.int j/\F d d'=.ok x true/\Dv.scal x=true/\∀ K' H',Rp K' H' x (G i j))\/F d d'=.bad):OpS C op F:=by
 refine⟨_,o,λ x y d d' H Hv H1 Hv1 W Q e rx ry q=>?_⟩
 rcases hF d d' with ⟨i,j,z,rfl,rfl,hz,hs,hr⟩|hb
 ·unfold Rp at rx ry
  rw[hz] at q;exact⟨i,j,rx,ry,q.at e (hr _ _) hs⟩
 ·rw[hb] at q;exact q.elim
def cm {K:GA}{H:Hp}{i:Int}:Rp K H (.int i) (.int i):=by unfold Rp;rfl
def cE {K:GA}{H:Hp}{i:Bool}:Rp K H (.bl i) (.bl i):=by unfold Rp;rfl
def xJ {K:GA}{H:Hp}:Rp K H .non .non:=by unfold Rp;rfl
def AU:OpS C (binaryOp .Sub) (Dv.opD .sub):=ji Bg λ d d'=>by
 cases d <;>first
  |exact .inr rfl
  | (cases d' <;>first
   |exact .inr rfl
   |exact .inl ⟨_,_,_,rfl,rfl,rfl,rfl,λ _ _=>cm⟩)
def Bz:OpS C (binaryOp .Mod) (Dv.opD .mod):=zG Bl λ d d'=>by
 cases d with
 |int i=>
  cases d' with
  |int j=>
   by_cases h:0<j
   ·exact .inl ⟨i,j,.int (i%j),rfl,rfl,h,by simp[Dv.opD_ai,Dv.opD_al,Dv.opD_su,Dv.opD_mi,Dv.opD_ml,Dv.opD_mo,Dv.opD_fd,Dv.opD_po,Dv.opD_ba,Dv.opD_sh,h],rfl,λ _ _=>cm⟩
   ·exact .inr (by simp[Dv.opD_ai,Dv.opD_al,Dv.opD_su,Dv.opD_mi,Dv.opD_ml,Dv.opD_mo,Dv.opD_fd,Dv.opD_po,Dv.opD_ba,Dv.opD_sh,h])
  |_=>exact .inr rfl
 |_=>exact .inr rfl
def wN:OpR C.X (binaryOp .FloorDiv) (rI (λ _ j=>0<j/\j.natAbs.log2<9000) λ i j=>.int (i/j)):=opI λ i j _ _ _ _ _ hc q=>by
 have h1:(0:Int)<j:=hc.1;exact floordiv_int ⋯ (by rw[Int.fdiv_eq_ediv_of_nonneg i ⋯];exact q) (.inl (IX hc.2))
def yI:OpS C (binaryOp .FloorDiv) (Dv.opD .fdiv):=zG wN λ d d'=>by
 cases d with
 |int i=>
  cases d' with
  |int j=>
   by_cases h:Dv.divOk j=true
   ·refine .inl ⟨i,j,.int (i/j),rfl,rfl,?_,by simp[Dv.opD_ai,Dv.opD_al,Dv.opD_su,Dv.opD_mi,Dv.opD_ml,Dv.opD_mo,Dv.opD_fd,Dv.opD_po,Dv.opD_ba,Dv.opD_sh,h],rfl,λ _ _=>cm⟩
    unfold Dv.divOk at h;simpa using h
   ·exact .inr (by simp[Dv.opD_ai,Dv.opD_al,Dv.opD_su,Dv.opD_mi,Dv.opD_ml,Dv.opD_mo,Dv.opD_fd,Dv.opD_po,Dv.opD_ba,Dv.opD_sh,h])
  |_=>exact .inr rfl
 |_=>exact .inr rfl
def zD (K:GA):R2:=λ x y H Q=>∃ l b xs zs,x=.ref l/\y=.ref b/\SqX K H l xs/\SqX K H b zs/\xs.length+zs.length<=sizeLine/\∀ p,H p=none->Q (.ref p) (upd H p (.lst (xs++zs)))
def qM {X:Cx}:OpR X (binaryOp .Add) (zD X.K):=by
 intro pins s σ H x y v u Q I rx ry h;obtain⟨l,b,xs,zs,rfl,rfl,hH,hB,hz,q⟩:=h;cases rx;cases ry;obtain⟨its,n,r,e,z⟩:=Inv.listX I hH;obtain⟨its2,n2,r2,e2,z2⟩:=Inv.listX I hB;have hl:=r.length;have hl2:=r2.length;refine PySem.P.add_list e e2 ?_ (by rw[Ds,Ds];omega)
 have ea:its.toArray++its2.toArray=(its++its2).toArray:=by simp
 rw[ea];exact⟨.ref _,_,I.lnew (t':=s.toks) (r.append r2) (by rw[Dz];omega),rfl,q _ I.fresh⟩
def A9:OpS C (binaryOp .Add) (Dv.opD .add):=by
 refine⟨_,OpR.or AE qM,λ x y d d' H Hv H1 Hv1 W Q e rx ry q=>?_⟩;cases d with
 |int i=>
  cases d' with
  |int j=>
   unfold Rp at rx ry;exact .inl ⟨i,j,rx,ry,(show Ok _ _ _ _ _ (.ok (.int (i+j)) true) Q from q).at e cm rfl⟩
  |_=>exact Zf q
 |lst xs=>
  cases d' with
  |lst ys=>
   unfold Rp at rx ry;obtain⟨l,vs,rfl,h1,h2⟩:=rx;obtain⟨m,ws,rfl,h3,h4⟩:=ry;by_cases hz:xs.length+ys.length<=Dv.mx
   ·have q':Ok C.X.K Hv H W C.cls (.ok (.lst (xs++ys)) (Dv.flatL xs&&Dv.flatL ys)) Q:=by simpa[Dv.opD_ai,Dv.opD_al,Dv.opD_su,Dv.opD_mi,Dv.opD_ml,Dv.opD_mo,Dv.opD_fd,Dv.opD_po,Dv.opD_ba,Dv.opD_sh,hz] using q
    refine .inr ⟨l,m,vs,ws,rfl,rfl,h1.same e.vh,h3.same e.vh,?_,λ p hp=>Ok.newL q' e (h2.append h4) (λ z=>?_) p hp⟩
    ·rw[h2.length,h4.length];exact dh hz
    ·rw[Dl] at z
     exact(h2.flat z.1).append (h4.flat z.2)
   ·have q':False:=by simpa[Dv.opD_ai,Dv.opD_al,Dv.opD_su,Dv.opD_mi,Dv.opD_ml,Dv.opD_mo,Dv.opD_fd,Dv.opD_po,Dv.opD_ba,Dv.opD_sh,hz,Ok] using q
    exact q'.elim
  |_=>exact Zf q
 |_=>exact Zf q
def qo (i:Int):JQ i=Dv.bits i:=by
 unfold JQ Dv.bits;by_cases h:i=0
 ·simp[h]
 ·simp[h]
def y9:OpR C.X (binaryOp .Mult) (rI (λ i j=>Dv.mulOk i j=true) λ i j=>.int (i*j)):=opI λ i j _ _ _ _ _ hc q=>by
 refine mul_int q ?_
 unfold Dv.mulOk at hc;simp only[EH,Dl,decide_eq_true_eq,<- qo] at hc
 rcases hc with (hc|hc)|hc
 ·exact .of_left hc
 ·exact .of_right hc
 ·exact .of_bits (by simpa using hc.1) (by simpa using hc.2)
def CI (K:GA):R2:=λ x y H Q=>∃ l k xs,x=.ref l/\y=.int k/\SqX K H l xs/\-(2 ^ 63)<=k/\k<2 ^ 63/\xs.length*k.toNat<=sizeLine /\
 ∀ p,H p=none->Q (.ref p) (upd H p (.lst (List.replicate k.toNat xs).flatten))
def za {X:Cx}:OpR X (binaryOp .Mult) (CI X.K):=by
 intro pins s σ H x y v u Q I rx ry h;obtain⟨l,k,xs,rfl,rfl,hH,h1,h2,hz,q⟩:=h;cases rx;obtain⟨t,rfl⟩:=ry;obtain⟨its,n,r,e,z⟩:=Inv.listX I hH;have hl:=r.length;have hlen:its.toArray.size*k.toNat<=sizeLine:=by rw[Ds,<- hl];exact hz
 have hcap:¬ its.toArray.size*k.toNat > (2 ^ 63-1)/8:=by
  have:(sizeLine:Nat)<=(2 ^ 63-1)/8:=by decide
  omega
 have hfit:¬ (!Builtin.List.listFitsIndex k)=true:=by
  rw[fitsIndex_both h1 h2];exact DB
 have hlong:¬ HE (its.toArray.size*k.toNat)=true:=by
  rw[oH hlen];exact DB
 have hnew:List.foldl (λ x1 x2=>x1++x2) #[] (List.replicate (if its.toArray.isEmpty=true then 0 else k.toNat) its.toArray)=(List.replicate k.toNat its).flatten.toArray:=by
  have f0:∀ m:Nat,List.foldl (λ x1 x2=>x1++x2) #[] (List.replicate m its.toArray)=(List.replicate m its).flatten.toArray:=λ m=>by
   have:=foldl_rep its m [];rw[Do] at this;exact this
  rw[f0];cases its with
  |nil=>simp
  |cons a r'=>rw[if_neg 0#5]
 refine wpAny_binaryOp_repeat_ref (T:="list") (U:="int") 0#2 ⟨_,e,rfl⟩ (λ s'=>typeIs_int s' k t) noFill_list_mul F.fills_int_mul F.slot_int_rmul repeat_list F.slot_int_index.lookup
  (Ih F.slot_int_rmul (typeIs_int s k t) F.entry_int_rmul (F.args_int_rmul_2 _ _) (int___rmul___int_list k t l its.toArray n)
   ⟨e,rfl,⟨_,e,rfl⟩,Ih F.slot_list_mul ⟨_,e,rfl⟩ F.entry_list_mul (F.args_list_mul_2 _ _) (AutoListH.list___mul___list_int_3 l its.toArray n k t hfit hcap hlong) ⟨e,?_⟩⟩)
 rw[hnew];exact⟨.ref _,_,I.lnew (t':=s.toks) (r.rep k.toNat) (by rw[len_rep,EN];exact hz),rfl,q _ I.fresh⟩
def RpL.rep {K:GA}{H:Hp}{ds:List D}{vs:List V}(h:RpL K H ds vs):∀ k:Nat,RpL K H (List.replicate k ds).flatten (List.replicate k vs).flatten
 |0=>.nil
 |k+1=>by
  rw[DL,DL,Ef,Ef];exact h.append (RpL.rep h k)
def Bf:OpS C (binaryOp .Mult) (Dv.opD .mul):=by
 refine⟨_,OpR.or y9 za,λ x y d d' H Hv H1 Hv1 W Q e rx ry q=>?_⟩;cases d with
 |int i=>
  cases d' with
  |int j=>
   unfold Rp at rx ry;by_cases h:Dv.mulOk i j=true
   ·have q':Ok C.X.K Hv H W C.cls (.ok (.int (i*j)) true) Q:=by simpa[Dv.opD_ai,Dv.opD_al,Dv.opD_su,Dv.opD_mi,Dv.opD_ml,Dv.opD_mo,Dv.opD_fd,Dv.opD_po,Dv.opD_ba,Dv.opD_sh,h] using q
    exact .inl ⟨i,j,rx,ry,h,q'.at e cm rfl⟩
   ·have q':False:=by simpa[Dv.opD_ai,Dv.opD_al,Dv.opD_su,Dv.opD_mi,Dv.opD_ml,Dv.opD_mo,Dv.opD_fd,Dv.opD_po,Dv.opD_ba,Dv.opD_sh,h,Ok] using q
    exact q'.elim
  |_=>exact Zf q
 |lst xs=>
  cases d' with
  |int j=>
   unfold Rp at rx ry;obtain⟨l,vs,rfl,h1,h2⟩:=rx;subst ry;by_cases hz:(decide (-100000<=j)&&decide (j<=Dv.mx)&&decide (xs.length*j.toNat<=Dv.mx))=true
   ·have q':Ok C.X.K Hv H W C.cls (.ok (.lst (List.replicate j.toNat xs).flatten) (Dv.flatL xs)) Q:=by
     simp only[Dv.opD_ai,Dv.opD_al,Dv.opD_su,Dv.opD_mi,Dv.opD_ml,Dv.opD_mo,Dv.opD_fd,Dv.opD_po,Dv.opD_ba,Dv.opD_sh,hz,if_true] at q;exact q
    simp only[Dl,decide_eq_true_eq] at hz;have hj:j<=100000:=hz.1.2;have hj0:-100000<=j:=hz.1.1;refine .inr ⟨l,j,vs,rfl,rfl,h1.same e.vh,⋯,⋯,?_,λ p hp=>Ok.newL q' e (h2.rep _) (λ z=>?_) p hp⟩
    ·rw[h2.length];exact dh hz.2
    ·exact(h2.flat z).rep _
   ·simp only[Dv.opD_ai,Dv.opD_al,Dv.opD_su,Dv.opD_mi,Dv.opD_ml,Dv.opD_mo,Dv.opD_fd,Dv.opD_po,Dv.opD_ba,Dv.opD_sh,hz] at q
    exact Zf q
  |_=>exact Zf q
 |_=>exact Zf q
def Cr:OpS C (compareOp .Lt) (Dv.cmD .lt):=ji CJ λ d d'=>by
 cases d <;>first
  |exact .inr rfl
  | (cases d' <;>first|exact .inr rfl|exact .inl ⟨_,_,_,rfl,rfl,rfl,rfl,λ _ _=>cE⟩)
def BM:OpS C (compareOp .LtE) (Dv.cmD .le):=ji Cq λ d d'=>by
 cases d <;>first
  |exact .inr rfl
  | (cases d' <;>first|exact .inr rfl|exact .inl ⟨_,_,_,rfl,rfl,rfl,rfl,λ _ _=>cE⟩)
def BQ:OpS C (compareOp .Gt) (Dv.cmD .gt):=ji qJ λ d d'=>by
 cases d <;>first
  |exact .inr rfl
  | (cases d' <;>first|exact .inr rfl|exact .inl ⟨_,_,_,rfl,rfl,rfl,rfl,λ _ _=>cE⟩)
def BD:OpS C (compareOp .GtE) (Dv.cmD .ge):=ji BK λ d d'=>by
 cases d <;>first
  |exact .inr rfl
  | (cases d' <;>first|exact .inr rfl|exact .inl ⟨_,_,_,rfl,rfl,rfl,rfl,λ _ _=>cE⟩)
mutual
def pd:D->PyData
 |.non=>.none
 |.bl b=>.bool b
 |.int i=>.int i
 |.str x=>.str ⟨(Dv.clipS x).toArray⟩
 |.lst ds=>.list (pdL ds)
 |.tup ds=>.tuple (pdL ds)
 |.exn _=>.none
 |.raw _=>.none
 |.tab _=>.none
 |.dct _ _=>.none
 |.ins _ _=>.none
def pdL:List D->List PyData
 |[]=>[]
 |d::r=>pd d::pdL r
end
mutual
def jh:∀ d:D,(pd d).canLay0=true
 |.non=>by simp[pd,G5]
 |.bl _=>by simp[pd,G5]
 |.int _=>by simp[pd,G5]
 |.str x=>by
  have:∀ n:Nat,n%1114112<1114112:=λ n=>FK _ 0#2
  simp[pd,G5,PyData.strOk,Dv.clipS,this]
 |.lst ds=>by simp[pd,G5,ma ds]
 |.tup ds=>by simp[pd,G5,ma ds]
 |.exn _=>by simp[pd,G5]
 |.raw _=>by simp[pd,G5]
 |.tab _=>by simp[pd,G5]
 |.dct _ _=>by simp[pd,G5]
 |.ins _ _=>by simp[pd,G5]
def ma:∀ ds:List D,IS (pdL ds)=true
 |[]=>by simp[pdL,IS]
 |d::r=>by simp[pdL,IS,jh d,ma r]
end
mutual
def eW:∀ d:D,(pd d).depth<=Dv.depthD d
 |.non=>by simp[pd,Hg,Dv.depthD]
 |.bl _=>by simp[pd,Hg,Dv.depthD]
 |.int _=>by simp[pd,Hg,Dv.depthD]
 |.str _=>by simp[pd,Hg,Dv.depthD]
 |.lst ds=>by have:=gU ds;simp[pd,Hg,Dv.depthD];omega
 |.tup ds=>by have:=gU ds;simp[pd,Hg,Dv.depthD];omega
 |.exn _=>by simp[pd,Hg,Dv.depthD]
 |.raw _=>by simp[pd,Hg,Dv.depthD]
 |.tab _=>by simp[pd,Hg,Dv.depthD]
 |.dct _ _=>by simp[pd,Hg,Dv.depthD]
 |.ins _ _=>by simp[pd,Hg,Dv.depthD]
def gU:∀ ds:List D,Je (pdL ds)<=Dv.depthL ds
 |[]=>by simp[pdL,Je,Dv.depthL]
 |d::r=>by have:=eW d;have:=gU r;simp[pdL,Je,Dv.depthL];omega
end
mutual
def o8:∀ (a b:D) (r:Bool),Dv.eqD a b=some r->Ii (pd a) (pd b)=r
 |.non,b,r,h=>by
  cases b with
  |non=>cases (show some true=some r from h);simp[pd,Ii]
  |_=>exact 0#12
 |.bl p,b,r,h=>by
  cases b with
  |bl q=>cases (show some (p == q)=some r from h);simp[pd,Ii]
  |_=>exact 0#12
 |.int p,b,r,h=>by
  cases b with
  |int q=>cases (show some (decide (p=q))=some r from h);simp[pd,Ii,EX]
  |_=>exact 0#12
 |.str p,b,r,h=>by
  cases b with
  |str q=>cases (show some (decide (Dv.clipS p=Dv.clipS q))=some r from h);simp[pd,Ii,EX]
  |_=>exact 0#12
 |.lst xs,b,r,h=>by
  cases b with
  |lst ys=>
   have h:Dv.eqDL xs ys=some r:=h;simp only[pd,Ii];exact lR _ _ _ h
  |_=>exact 0#12
 |.tup xs,b,r,h=>by
  cases b with
  |tup ys=>
   have h:Dv.eqDL xs ys=some r:=h;simp only[pd,Ii];exact lR _ _ _ h
  |_=>exact 0#12
 |.exn _,b,r,h=>by cases b <;>exact 0#12
 |.raw _,b,r,h=>by cases b <;>exact 0#12
 |.tab _,b,r,h=>by cases b <;>exact 0#12
 |.dct _ _,b,r,h=>by cases b <;>exact 0#12
def lR:∀ (a b:List D) (r:Bool),Dv.eqDL a b=some r->Iq (pdL a) (pdL b)=r
 |[],[],r,h=>by simp[Dv.eqDL] at h;subst h;simp[pdL,Iq]
 |[],_::_,r,h=>by simp[Dv.eqDL] at h;subst h;simp[pdL,Iq]
 |_::_,[],r,h=>by simp[Dv.eqDL] at h;subst h;simp[pdL,Iq]
 |x::xs,y::ys,r,h=>by
  simp only[Dv.eqDL] at h;cases h1:Dv.eqD x y with
  |none=>rw[h1] at h;cases h
  |some p=>
   cases h2:Dv.eqDL xs ys with
   |none=>rw[h1,h2] at h;cases h
   |some q=>
    rw[h1,h2] at h;cases h;simp only[pdL,Iq,o8 x y p h1,lR xs ys q h2]
end
mutual
def eI {X:Cx}{pins:List (Addr×Obj)}{σ:St}{H:Hp}{s:Shared}(I:Inv X pins σ H s):∀ (d:D) (v:V) (u:Value),Rp X.K H d v->RelV v u->Dv.depthD d<=9->∃ as,Reads s.heap u (pd d) as
 |.non=>λ v u h r _=>by unfold Rp at h;subst h;cases r;unfold pd;exact⟨_,.none⟩
 |.bl b=>λ v u h r _=>by unfold Rp at h;subst h;cases r;unfold pd;exact⟨_,.bool b⟩
 |.int i=>λ v u h r _=>by unfold Rp at h;subst h;obtain⟨t,rfl⟩:=r;unfold pd;exact⟨_,.int i t⟩
 |.str x=>λ v u h r _=>by unfold Rp at h;subst h;obtain⟨t,rfl⟩:=r;unfold pd;exact⟨_,.str _ t⟩
 |.exn _=>λ v u h r hd=>by unfold Dv.depthD at hd;omega
 |.raw _=>λ v u h r hd=>by unfold Dv.depthD at hd;omega
 |.tab _=>λ v u h r hd=>by unfold Dv.depthD at hd;omega
 |.dct _ _=>λ v u h r hd=>by unfold Dv.depthD at hd;omega
 |.ins _ _=>λ v u h r hd=>by unfold Dv.depthD at hd;omega
 |.lst ds=>λ v u h r hd=>by
  unfold Rp at h;unfold Dv.depthD at hd;obtain⟨a,vs,rfl,h1,h2⟩:=h;cases r;obtain⟨its,n,rv,e,_⟩:=Inv.listX I h1;obtain⟨as,ra⟩:=ic I ds vs its h2 rv ⋯;unfold pd;exact⟨_,.list e rfl rfl (by simpa using ra)⟩
 |.tup ds=>λ v u h r hd'=>by
  unfold Rp at h;unfold Dv.depthD at hd';obtain⟨a,vs,rfl,h1,h2⟩:=h;cases r;obtain⟨_,its,rv,o,e,hc,n,hd⟩:=h1.ok I.hok;obtain⟨as,ra⟩:=ic I ds vs its h2 rv ⋯;unfold pd;exact⟨_,.tuple e hc hd (by simpa using ra)⟩
def ic {X:Cx}{pins:List (Addr×Obj)}{σ:St}{H:Hp}{s:Shared}(I:Inv X pins σ H s):∀ (ds:List D) (vs:List V) (us:List Value),RpL X.K H ds vs->Vals vs us->Dv.depthL ds<=9->∃ as,ReadsAll s.heap us (pdL ds) as
 |[]=>λ vs us h r _=>by unfold RpL at h;subst h;cases r;unfold pdL;exact⟨_,.nil⟩
 |d::ds=>λ vs us h r hd=>by
  unfold RpL at h;unfold Dv.depthL at hd;obtain⟨v,ws,rfl,h1,h2⟩:=h;cases r with
  |cons r1 r2=>
   obtain⟨as,ra⟩:=eI I d v _ h1 r1 ⋯;obtain⟨bs,rb⟩:=ic I ds ws _ h2 r2 ⋯;unfold pdL;exact⟨_,.cons ra rb⟩
end
def CK (K:GA)(neg:Bool):R2:=λ x y H Q=>∃ d d' b,Rp K H d x/\Rp K H d' y/\Dv.depthD d<=9/\Dv.depthD d'<=9/\Dv.eqD d d'=some b/\Q (.bl (if neg then !b else b)) H
def Bn (hu:C.X.A.units+64<cLine):OpR C.X (compareOp .Eq) (CK C.X.K false):=by
 intro pins s σ H x y v u Q I rx ry h;obtain⟨d,d',b,h1,h2,z1,z2,e,q⟩:=h;obtain⟨as,ra⟩:=eI I d x v h1 rx z1;obtain⟨bs,rb⟩:=eI I d' y u h2 ry z2;refine SeqAt.compareEq_reads ra rb (jh d) (jh d') ?_ ⟨.bl b,H,I,?_,q⟩
 ·have:=eW d
  have:=eW d';have:=Ge (pd d).depth (pd d').depth;omega
 ·rw[o8 _ _ _ e];rfl
def AL (hu:C.X.A.units+64<cLine):OpR C.X (compareOp .NotEq) (CK C.X.K true):=by
 intro pins s σ H x y v u Q I rx ry h;obtain⟨d,d',b,h1,h2,z1,z2,e,q⟩:=h;obtain⟨as,ra⟩:=eI I d x v h1 rx z1;obtain⟨bs,rb⟩:=eI I d' y u h2 ry z2;refine SeqAt.compareNe_reads ra rb (jh d) (jh d') ?_ ⟨.bl (!b),H,I,?_,q⟩
 ·have:=eW d
  have:=eW d';have:=Ge (pd d).depth (pd d').depth;omega
 ·rw[o8 _ _ _ e];rfl
def os_eq:OpS C (compareOp .Eq) (Dv.cmD .eq):=by
 refine⟨_,Bn C.un,λ x y d d' H Hv H1 Hv1 W Q e rx ry q=>?_⟩;simp only[Dv.cmD_eq,Dv.cmD_ne,Dv.cmD_lt,Dv.cmD_le,Dv.cmD_gt,Dv.cmD_ge,Dv.cmD_in,Dv.cmD_ni,Dv.cmD_it,Dv.cmD_nt] at q;by_cases hz:(decide (Dv.depthD d<=9)&&decide (Dv.depthD d'<=9))=true
 ·rw[if_pos hz] at q
  simp only[Dl,decide_eq_true_eq] at hz;cases he:Dv.eqD d d' with
  |none=>rw[he] at q;exact Zf q
  |some b=>
   rw[he] at q;exact⟨d,d',b,rx.same e.vh,ry.same e.vh,hz.1,hz.2,he,Ok.at (d:=.bl b) (fr:=true) q e cE rfl⟩
 ·rw[if_neg hz] at q;exact Zf q
def BE:OpS C (compareOp .NotEq) (Dv.cmD .ne):=by
 refine⟨_,AL C.un,λ x y d d' H Hv H1 Hv1 W Q e rx ry q=>?_⟩;simp only[Dv.cmD_eq,Dv.cmD_ne,Dv.cmD_lt,Dv.cmD_le,Dv.cmD_gt,Dv.cmD_ge,Dv.cmD_in,Dv.cmD_ni,Dv.cmD_it,Dv.cmD_nt] at q;by_cases hz:(decide (Dv.depthD d<=9)&&decide (Dv.depthD d'<=9))=true
 ·rw[if_pos hz] at q
  simp only[Dl,decide_eq_true_eq] at hz;cases he:Dv.eqD d d' with
  |none=>rw[he] at q;exact Zf q
  |some b=>
   rw[he] at q;exact⟨d,d',b,rx.same e.vh,ry.same e.vh,hz.1,hz.2,he,Ok.at (d:=.bl (!b)) (fr:=true) q e cE rfl⟩
 ·rw[if_neg hz] at q;exact Zf q
def rG:∀ (i:Int) (ds:List D) (vs:List V) (b:Bool) {K:GA} {H:Hp},Dv.inD i ds=some b->RpL K H ds vs->vs.all fJ=true/\inV (.int i) vs=b
 |i,[],vs,b,K,H,h,r=>by
  unfold RpL at r;subst r;simp[Dv.inD] at h;subst h;exact⟨rfl,rfl⟩
 |i,d::ds,vs,b,K,H,h,r=>by
  unfold RpL at r;obtain⟨v,ws,rfl,h1,h2⟩:=r;cases d with
  |int j=>
   simp only[Dv.inD,DZ] at h;obtain⟨c,hc,rfl⟩:=h;obtain⟨z1,z2⟩:=rG i ds ws c hc h2;unfold Rp at h1;subst h1;refine⟨by simp[fJ,z1],?_⟩;have:inV (.int i) (.int j::ws)=(eqV (.int j) (.int i) || inV (.int i) ws):=rfl;rw[this,z2];show ((j == i) || c)=(decide (j=i) || c)
   rw[EX]
  |_=>simp[Dv.inD] at h
def Co:OpS C (compareOp .In) (Dv.cmD .isin):=by
 refine⟨_,t4,λ x y d d' H Hv H1 Hv1 W Q e rx ry q=>?_⟩;cases d with
 |int i=>
  cases d' with
  |lst ds=>
   simp only[Dv.cmD_eq,Dv.cmD_ne,Dv.cmD_lt,Dv.cmD_le,Dv.cmD_gt,Dv.cmD_ge,Dv.cmD_in,Dv.cmD_ni,Dv.cmD_it,Dv.cmD_nt] at q;cases hi:Dv.inD i ds with
   |none=>rw[hi] at q;exact Zf q
   |some b=>
    rw[hi] at q;unfold Rp at rx ry;subst rx;obtain⟨l,vs,rfl,h1,h2⟩:=ry;obtain⟨z1,z2⟩:=rG i ds vs b hi h2;refine⟨l,vs,rfl,.inl (h1.same e.vh).seq,rfl,z1,?_⟩;rw[z2];exact Ok.at (d:=.bl b) (fr:=true) q e cE rfl
  |_=>exact Zf q
 |_=>exact Zf q
def jS {ds:List D}{vs:List V}{K:GA}{H:Hp}{i:Int}{d:D}(r:RpL K H ds vs)(h:Dv.at? ds i=some d):∃ v,atI vs i=some v/\Rp K H d v:=by
 unfold Dv.at? at h;unfold atI ixN;have hl:=r.length;by_cases h0:0<=i
 ·rw[if_pos h0] at h
  obtain⟨v,h1,h2⟩:=r.get h;have hlt:i.toNat<vs.length:=(List.getElem?_eq_some_iff.mp h1).1;refine⟨v,?_,h2⟩;rw[if_pos h0,if_pos ⋯];exact h1
 ·rw[if_neg h0] at h
  by_cases h1:-(ds.length:Int)<=i
  ·rw[if_pos h1] at h
   obtain⟨v,h2,h3⟩:=r.get h;refine⟨v,?_,h3⟩;rw[if_neg h0,if_pos ⋯];rw[hl];exact h2
  ·rw[if_neg h1] at h;cases h
def sg {K:GA}{H Hv H2 Hv2:Hp}{ds:List D}{v:V}{fr:Bool}{k:Int}{d:D}(x:Ext Hv H Hv2 H2)(hk:Dv.at? ds k=some d):
  (Rp K Hv2 0#95 v->(fr=true->Rp [] 2#36 0#95 v)->∃ l vs u,v=.ref l/\SqX K H2 l vs/\atI vs k=some u/\Rp K Hv2 d u/\((fr || Dv.scal d)=true->Rp [] 2#36 d u)) /\
  (Rp K Hv2 (.tup ds) v->(fr=true->Rp [] 2#36 (.tup ds) v)->∃ l vs u,v=.ref l/\Rd H2 l 2#73/\atI vs k=some u/\Rp K Hv2 d u/\((fr || Dv.scal d)=true->Rp [] 2#36 d u)):=by
 constructor
 ·intro rp n
  cases fr with
  |true=>
   have rn:=n rfl;unfold Rp at rn;obtain⟨l,vs,rfl,h1,h2⟩:=rn;obtain⟨u,h3,h4⟩:=jS h2 hk;refine⟨l,vs,u,rfl,?_,h3,(Rp.frag h4).same x.news,λ _=>h4⟩
   rcases h1 with h1|⟨its,n,e,_⟩
   ·exact .inl 1#47
   ·simp at e
  |false=>
   unfold Rp at rp;obtain⟨l,vs,rfl,h1,h2⟩:=rp;obtain⟨u,h3,h4⟩:=jS h2 hk;exact⟨l,vs,u,rfl,h1.same x.vh,h3,h4,λ z=>h4.scal 1#82⟩
 ·intro rp n
  cases fr with
  |true=>
   have rn:=n rfl;unfold Rp at rn;obtain⟨l,vs,rfl,h1,h2⟩:=rn;obtain⟨u,h3,h4⟩:=jS h2 hk;exact⟨l,vs,u,rfl,Rd.same Hnew.sub h1,h3,(Rp.frag h4).same x.news,λ _=>h4⟩
  |false=>
   unfold Rp at rp;obtain⟨l,vs,rfl,h1,h2⟩:=rp;obtain⟨u,h3,h4⟩:=jS h2 hk;exact⟨l,vs,u,rfl,Rd.same x.vh h1,h3,h4,λ z=>h4.scal 1#82⟩
def cj (ha:SE C a f)(hb:SE C b g)(hs:autoParam (mz b) ZK._auto_1):SE C (.Subscript a b pos) (Dv.eIx f g):=by
 obtain⟨ta,pa,qa⟩:=ha;obtain⟨tb,pb,qb⟩:=hb;refine⟨_,sE (ix_list.or xr) pa pb hs,λ σ H Hv ρ Q e s w=>?_⟩;refine qa.step e 1#7 w λ v d fr Hv1 H1 _ x1 _ rp1 n1 q1=>qb.step e x1 q1 λ v2 d2 fr2 Hv2 H2 _ x2 y2 rp2 _ q2=>?_
 have rp:=rp1.same y2.vv;have rn:fr=true->Rp [] 2#36 d v:=λ z=>(n1 z).same (Hnew.mono 1#14 y2.hh)
 cases d2 with
 |int k=>
  unfold Rp at rp2;cases d with
  |lst ds=>
   have q3:Ok C.X.K Hv H (C.W σ) C.cls (match Dv.at? ds k with|some d=>.ok d (fr || Dv.scal d)|none=>.bad) Q:=q2;cases hk:Dv.at? ds k with
   |none=>rw[hk] at q3;exact Zf q3
   |some d=>
    rw[hk] at q3;obtain⟨l,vs,u,e1,h1,h2,h3,h4⟩:=(sg (fr:=fr) x2 hk).1 rp rn;exact .inl ⟨l,vs,k,u,e1,rp2,h1.seq,h2,q3 u Hv2 H2 x2 h3 h4⟩
  |tup ds=>
   have q3:Ok C.X.K Hv H (C.W σ) C.cls (match Dv.at? ds k with|some d=>.ok d (fr || Dv.scal d)|none=>.bad) Q:=q2;cases hk:Dv.at? ds k with
   |none=>rw[hk] at q3;exact Zf q3
   |some d=>
    rw[hk] at q3;obtain⟨l,vs,u,e1,h1,h2,h3,h4⟩:=(sg (fr:=fr) x2 hk).2 rp rn;exact .inr ⟨l,vs,k,u,e1,rp2,.inl h1,h2,q3 u Hv2 H2 x2 h3 h4⟩
  |_=>exact Zf q2
 |_=>cases d <;>exact Zf q2
def C1S (C:Ctx)(fv:Value)(F:D->Bool->R):Prop:=
 ∃ r,cP C.X fv r/\∀ x d fr H Hv H1 Hv1 W Q,Ext Hv H Hv1 H1->Rp C.X.K Hv1 d x->(fr=true->Rp [] 2#49 d x)->Ok C.X.K Hv H W C.cls (F d fr) Q->r [x] H1 Q
def kB {x:Str}{p:Pos}{id:String}{F:D->Bool->R}(o:C1S C 1#77 F)(hg:Gl C.X x)(hm:C.X.mg x=none)(hv:bootBuiltins x=some 1#77)(ha:SE C a f)
  (hn:autoParam 1#69 ZC._auto_1) (hdb:autoParam 0#4 ZC._auto_1) (he:autoParam 0#9 ZF._auto_1):SE C (.Call (.Name x p) [a] [] pos) (Dv.eB1 F f):=by
 obtain⟨r,ho,hr⟩:=o;obtain⟨t,pa,qa⟩:=ha;refine⟨_,bu ho hg hm hv (aq pa ay he) hn hdb he rfl,λ σ H Hv ρ Q e s w=>?_⟩;exact qa.step e 1#7 w λ v d fr Hv1 H1 _ x1 _ rp1 n1 q1=>hr v d fr H Hv H1 Hv1 _ Q x1 rp1 n1 q1
def zF {x:Str}{p:Pos}{id:String}{F:D->Bool->R}(o:C1S C (.type id) F)(hg:Gl C.X x)(hm:C.X.mg x=none)(hv:bootBuiltins x=some (.type id))(ha:SE C a f)
  (hn:autoParam 1#69 ZC._auto_1) (hdb:autoParam 0#4 ZC._auto_1) (he:autoParam 0#9 ZF._auto_1):SE C (.Call (.Name x p) [a] [] pos) (Dv.eB1 F f):=by
 obtain⟨r,ho,hr⟩:=o;obtain⟨t,pa,qa⟩:=ha;refine⟨_,um ho hg hm hv (aq pa ay he) hn hdb he rfl,λ σ H Hv ρ Q e s w=>?_⟩;exact qa.step e 1#7 w λ v d fr Hv1 H1 _ x1 _ rp1 n1 q1=>hr v d fr H Hv H1 Hv1 _ Q x1 rp1 n1 q1
def AQ:C1S C (.builtin "len") Dv.lenD:=by
 refine⟨_,bj,λ x d fr H Hv H1 Hv1 W Q e rx n q=>?_⟩;cases d with
 |lst ds=>
  unfold Rp at rx;obtain⟨l,vs,rfl,h1,h2⟩:=rx;refine⟨l,vs,rfl,.inl (h1.same e.vh).seq,?_⟩;rw[h2.length];exact Ok.at (d:=.int ds.length) (fr:=true) q e cm rfl
 |tup ds=>
  unfold Rp at rx;obtain⟨l,vs,rfl,h1,h2⟩:=rx;refine⟨l,vs,rfl,.inr (.inl (Rd.same e.vh h1)),?_⟩;rw[h2.length];exact Ok.at (d:=.int ds.length) (fr:=true) q e cm rfl
 |_=>exact Zf q
def yK:C1S C (.type "list") Dv.listD:=by
 refine⟨_,lZ,λ x d fr H Hv H1 Hv1 W Q e rx n q=>?_⟩;cases d with
 |lst ds=>
  cases fr with
  |true=>
   have rn:=n rfl;unfold Rp at rn;obtain⟨l,vs,rfl,h1,h2⟩:=rn;have h1':SqX C.X.K H1 l vs:=by
    rcases h1 with h1|⟨its,n,e,_⟩
    ·exact .inl 1#47
    ·simp at e
   exact⟨l,vs,rfl,.inl h1'.seq,λ p hp=>Ok.newL q e ((RpL.frag h2).same e.news) (λ _=>h2) p hp⟩
  |false=>
   unfold Rp at rx;obtain⟨l,vs,rfl,h1,h2⟩:=rx;exact⟨l,vs,rfl,.inl (h1.same e.vh).seq,λ p hp=>Ok.newL q e h2 (λ z=>h2.flat 1#82) p hp⟩
 |tup ds=>
  cases fr with
  |true=>
   have rn:=n rfl;unfold Rp at rn;obtain⟨l,vs,rfl,h1,h2⟩:=rn;exact⟨l,vs,rfl,.inr (.inl 1#47),λ p hp=>Ok.newL q e ((RpL.frag h2).same e.news) (λ _=>h2) p hp⟩
  |false=>
   unfold Rp at rx;obtain⟨l,vs,rfl,h1,h2⟩:=rx;exact⟨l,vs,rfl,.inr (.inl (Rd.same e.vh h1)),λ p hp=>Ok.newL q e h2 (λ z=>h2.flat 1#82) p hp⟩
 |_=>exact Zf q
def c8 (i:Int):∀ l:List Int,(Dv.ins i l).Perm (i::l)
 |[]=>.refl _
 |j::r=>by
  unfold Dv.ins
  split
  ·exact .refl _
  ·exact((c8 i r).cons j).trans (.swap i j r)
def aI:∀ l:List Int,(Dv.isort l).Perm l
 |[]=>.refl _
 |i::r=>(c8 i _).trans ((aI r).cons i)
def cV (i:Int):∀ l:List Int,l.Pairwise (·<=·)->(Dv.ins i l).Pairwise (·<=·)
 |[],_=>by simp[Dv.ins]
 |j::r,h=>by
  unfold Dv.ins
  split
  ·rename_i hij
   refine List.pairwise_cons.mpr ⟨λ x hx=>?_,h⟩
   rcases List.mem_cons.mp hx with rfl|hx
   ·exact hij
   ·exact FW hij ((List.pairwise_cons.mp h).1 x hx)
  ·rename_i hij
   refine List.pairwise_cons.mpr ⟨λ x hx=>?_,cV i r (List.pairwise_cons.mp h).2⟩
   rcases List.mem_cons.mp ((c8 i r).mem_iff.mp hx) with rfl|hx
   ·omega
   ·exact(List.pairwise_cons.mp h).1 x hx
def bb:∀ l:List Int,(Dv.isort l).Pairwise (·<=·)
 |[]=>.nil
 |i::r=>cV i _ (bb r)
def bV:∀ {a b:List Int},a.Perm b->a.Pairwise (·<=·)->b.Pairwise (·<=·)->a=b
 |[],b,p,_,_=>by simpa using p.symm.eq_nil
 |x::a,[],p,_,_=>absurd p.eq_nil 0#5
 |x::a,y::b,p,ha,hb=>by
  have h1:=List.pairwise_cons.mp ha;have h2:=List.pairwise_cons.mp hb;have e:x=y:=by
   have hx:x∈y::b:=p.mem_iff.mp Dh;have hy:y∈x::a:=p.mem_iff.mpr Dh
   rcases List.mem_cons.mp hx with e|hx
   ·exact e
   rcases List.mem_cons.mp hy with e|hy
   ·exact e.symm
   exact Gf (h1.1 y hy) (h2.1 x hx)
  subst e;rw[bV ((Gi x).mp p) h1.2 h2.2]
def lL {vs:List Value}{ns:List Int}(h:IntsAre vs ns):Vals 1#20 vs:=by
 induction h with
 |nil=>exact .nil
 |cons n t _ ih=>exact .cons ⟨t,rfl⟩ ih
def m8 {X:Cx}:cP X (.builtin "sorted") (λ xs H Q=>∃ p ns,xs=[.ref p]/\SqX X.K H p 1#20/\ns.length<64/\∀ l,H l=none->Q (.ref l) (upd H l (.lst ((Dv.isort ns).map V.int)))):=by
 intro pins s σ H xs us Q I r h;obtain⟨p,ns,rfl,hq,h64,q⟩:=h;obtain⟨u,rfl,rx⟩:=vals1 r;cases rx;obtain⟨its,n,rv,e,z⟩:=Inv.listX I hq;have hi:=intsAre_of rv;have hl:=rv.length;rw[Di] at hl;refine sorted_ints (ns:=ns) ⟨_,e,rfl,n,rfl⟩ hi ⋯ λ out ns' a1 a2 a3=>?_
 have e1:ns'=Dv.isort ns:=bV (a2.trans (aI ns).symm) a3 (bb ns);subst e1;obtain⟨ep,hat⟩:=sortedAll_at s.heap its out;have hf:H 0#15=none:=I.hok.fresh (Ez _);refine⟨.ref 0#15,_,I.laid (t':=s.toks) (o:=.lst ((Dv.isort ns).map V.int)) (λ b u q=>sortedAll_old q) (Ez _) ?_,rfl,q _ hf⟩;refine⟨?_,out.toList,ep,lL a1,by simpa[seqObj] using hat⟩;rw[Di,(aI ns).length_eq];rw[GS];omega
def uz:C1S C (.builtin "sorted") Dv.sortedD:=by
 refine⟨_,m8,λ x d fr H Hv H1 Hv1 W Q e rx n q=>?_⟩;cases d with
 |lst ds=>
  simp only[Dv.sortedD] at q;cases hi:Dv.intsOf ds with
  |none=>rw[hi] at q;exact Zf q
  |some ns=>
   rw[hi] at q;by_cases h64:ns.length<64
   ·simp only[h64,if_true] at q
    unfold Rp at rx;obtain⟨l,vs,rfl,h1,h2⟩:=rx;have e1:=RpL.ints hi h2;subst e1;exact⟨l,ns,rfl,h1.same e.vh,h64,λ p hp=>Ok.newL q e (RpL.ofInts _) (λ _=>RpL.ofInts _) p hp⟩
   ·simp only[h64,if_false] at q
    exact Zf q
 |_=>exact Zf q
end
open Dv (D R RL EE EL EI RI Sl Out SS)
def Nd (K:GA)(Hc:Hp):D->HO->Prop
 |.lst ds,o=>∃ vs,o=.lst vs/\RpL K Hc ds vs
 |.dct ks ds,o=>∃ vs,o=.dK ((ks.map Sum.inl).zip vs)/\ks.length=ds.length/\RpL K Hc ds vs
 |_,_=>False
def Nd.same {K:GA}{H H':Hp}{d:D}{o:HO}(e:Same H H')(h:Nd K H d o):Nd K H' d o:=by
 cases d with
 |lst ds=>obtain⟨vs,h1,h2⟩:=h;exact⟨vs,h1,h2.same e⟩
 |dct ks ds=>obtain⟨vs,h1,h2,h3⟩:=h;exact⟨vs,h1,h2,h3.same e⟩
 |_=>exact Zf h
def Nd.rp {K:GA}{H:Hp}{d:D}{o:HO}{a:Addr}(h:Nd K H d o)(ha:H a=some o):Rp K H d (.ref a):=by
 cases d with
 |lst ds=>obtain⟨vs,rfl,h2⟩:=h;unfold Rp;exact⟨a,vs,rfl,SqX.of ha,h2⟩
 |dct ks ds=>obtain⟨vs,rfl,h2,h3⟩:=h;unfold Rp;exact⟨a,vs,rfl,h2,.inl ha,h3⟩
 |_=>exact Zf h
def Jk (R:Hp)(n m:Nat)(v:V):Prop:=∃ t vs,v=.ref t/\(R t=some 1#48\/R t=some 2#73)/\vs.length=n/\∀ x∈vs,∃ b ws,x=.ref b/\b≠t/\R b=some 2#70/\ws.length<=m
structure RelC (K:GA)(Hv₀ H₀ Hc:Hp)(O:Nat->Hp)(st:Dv.St)(σ:St)(H:Hp):Prop where
 h0:Same H₀ H
 vc:Same Hv₀ Hc
 ch:Same Hc H
 new:∀ b o,Hc b=some o->Hv₀ b=none->H₀ b=none
 nf:∀ b o u,H₀ b=none->H b≠some 1#39
 len:st.length=σ.length
 sh:∀ (i:Nat) (d:D),st[i]?=some (Sl.sh d)->∃ v,σ[i]?=some (some v)/\Rp K Hc d v
 ow:∀ (i:Nat) (d:D),st[i]?=some (Sl.ow d)->∃ (a:Addr) (o:HO),σ[i]?=some 1#70/\O i a=some o/\Nd K Hc d o
 dp:∀ (i:Nat) (d:D),st[i]?=some (Sl.dp d)->∃ v,σ[i]?=some (some v)/\Rp [] (O i) d v
 jk:∀ (i n m:Nat),st[i]?=some (Sl.jk n m)->∃ v,σ[i]?=some (some v)/\Jk (O i) n m v
 oh:∀ (i:Nat) (b:Addr) (o:HO),O i b=some o->H b=some o/\Hc b=none/\H₀ b=none
 one:∀ (i j:Nat) (b:Addr) (o o':HO),O i b=some o->O j b=some o'->i=j
def Rel (K:GA)(Hv₀ H₀:Hp)(st:Dv.St)(σ:St)(H:Hp):Prop:=∃ Hc O,RelC K Hv₀ H₀ Hc O st σ H
section
variable {K:GA}{Hv₀ H₀ Hc:Hp}{O:Nat->Hp}{st:Dv.St}{σ:St}{H:Hp}
def RelC.less {Hv1:Hp}(r:RelC K Hc H₀ Hv1 O st σ H)(vc:Same Hv₀ Hc)(new:∀ b o,Hc b=some o->Hv₀ b=none->H₀ b=none):RelC K Hv₀ H₀ Hv1 O st σ H:=
 ⟨r.h0,vc.trans r.vc,r.ch,λ b o h n=>(by
  cases q:Hc b with
  |some u=>exact new b u q n
  |none=>exact r.new b o h q),r.nf,r.len,r.sh,r.ow,r.dp,r.jk,r.oh,r.one⟩
def yM (O:Nat->Hp)(b:Addr):Prop:=∃ (i:Nat) (o:HO),O i b=some o
open Classical in
def eU (Hc:Hp)(O:Nat->Hp)(H:Hp):Hp:=λ b=>if yM O b then H b else Hc b
def RelC.cAll (r:RelC K Hv₀ H₀ Hc O st σ H):Same Hc 1#81:=λ b o h=>by
 unfold eU;by_cases q:yM O b
 ·obtain⟨i,u,h1⟩:=q
  rw[(r.oh i b u h1).2.1] at h;cases h
 ·rw[if_neg q];exact h
def RelC.oAll (r:RelC K Hv₀ H₀ Hc O st σ H)(i:Nat):Same (O i) 1#81:=λ b o h=>by
 unfold eU;rw[if_pos ⟨i,o,h⟩];exact(r.oh i b o h).1
def RelC.allH (r:RelC K Hv₀ H₀ Hc O st σ H):Same 1#81 H:=λ b o h=>by
 unfold eU at h;by_cases q:yM O b
 ·rw[if_pos q] at h;exact h
 ·rw[if_neg q] at h;exact r.ch b o h
def RelC.allNew (r:RelC K Hv₀ H₀ Hc O st σ H):∀ b o,eU Hc O H b=some o->Hv₀ b=none->H₀ b=none:=λ b o h n=>by
 unfold eU at h;by_cases q:yM O b
 ·obtain⟨i,u,h1⟩:=q
  exact(r.oh i b u h1).2.2
 ·rw[if_neg q] at h;exact r.new b o h n
def yS {i:Nat}{d:D}(h:(Dv.all st)[i]?=some (some d)):st[i]?=some (.sh d)\/st[i]?=some (.ow d)\/st[i]?=some (.dp d):=by
 unfold Dv.all at h;rw[DD] at h;cases q:st[i]? with
 |none=>rw[q] at h;cases h
 |some s=>
  rw[q] at h;cases s with
  |no=>cases h
  |sh x=>cases h;exact .inl rfl
  |ow x=>cases h;exact .inr 0#76
  |dp x=>cases h;exact .inr (.inr rfl)
  |jk n m=>cases h
def get_open {i:Nat}{d:D}(h:(Dv.open_ st)[i]?=some (some d)):st[i]?=some (.sh d):=by
 unfold Dv.open_ at h;rw[DD] at h;cases q:st[i]? with
 |none=>rw[q] at h;cases h
 |some s=>
  rw[q] at h;cases s with
  |sh x=>cases h;rfl
  |_=>cases h
def RelC.envAll (r:RelC K Hv₀ H₀ Hc O st σ H):EnvR K 1#81 1#27 σ:=λ i d h=>by
 rcases yS h with h|h|h
 ·obtain⟨v,h1,h2⟩:=r.sh i d h
  exact⟨v,h1,h2.same r.cAll⟩
 ·obtain⟨a,o,h1,h2,h3⟩:=r.ow i d h
  exact⟨_,h1,(h3.same r.cAll).rp (r.oAll i a o h2)⟩
 ·obtain⟨v,h1,h2⟩:=r.dp i d h
  exact⟨v,h1,Rp.frag (h2.same (r.oAll i))⟩
def RelC.envOpen (r:RelC K Hv₀ H₀ Hc O st σ H):EnvR K Hc 2#43 σ:=λ i d h=>r.sh i d (get_open h)
def RelC.grow {H':Hp}(r:RelC K Hv₀ H₀ Hc O st σ H)(hh:Same H H')(nf:∀ b o u,H b=none->H' b≠some 1#39):RelC K Hv₀ H₀ Hc O st σ H':=
 ⟨r.h0.trans hh,r.vc,r.ch.trans hh,r.new,λ b o u h=>(by
  cases q:H b with
  |none=>exact nf b o u q
  |some w=>rw[hh b w q,<- q];exact r.nf b o u h),r.len,r.sh,r.ow,r.dp,r.jk,λ i b o h=>⟨hh _ _ (r.oh i b o h).1,(r.oh i b o h).2⟩,r.one⟩
def RelC.growC {Hc' H':Hp}(r:RelC K Hv₀ H₀ Hc O st σ H)(x:Ext Hc H Hc' H'):RelC K Hv₀ H₀ Hc' O st σ H':=by
 have g:=r.grow x.hh x.nf;refine⟨g.h0,r.vc.trans x.vv,x.vh,λ b o h n=>?_,g.nf,g.len,λ i d h=>?_,λ i d h=>?_,r.dp,r.jk,λ i b o h=>?_,g.one⟩
 ·cases q:Hc b with
  |some u=>exact r.new b u q n
  |none=>exact r.h0.free (x.new b o h q)
 ·obtain⟨v,h1,h2⟩:=r.sh i d h
  exact⟨v,h1,h2.same x.vv⟩
 ·obtain⟨a,o,h1,h2,h3⟩:=r.ow i d h
  exact⟨a,o,h1,h2,h3.same x.vv⟩
 ·obtain⟨h1,h2,h3⟩:=r.oh i b o h
  refine⟨x.hh _ _ h1,?_,h3⟩;cases q:Hc' b with
  |none=>rfl
  |some u=>
   have:=x.new b u q h2;rw[this] at h1;cases h1
def cS {α:Type}{l:List α}{i j:Nat}{x y:α}(h:(l.set i x)[j]?=some y):(j=i/\y=x/\i<l.length)\/(j≠i/\l[j]?=some y):=by
 by_cases e:j=i
 ·subst e
  by_cases hl:j<l.length
  ·rw[DJ hl] at h
   exact .inl ⟨rfl,(Option.some.inj h).symm,hl⟩
  ·rw[DO 1#94] at h
   cases h
 ·rw[DQ (Ne.symm e)] at h
  exact .inr ⟨e,h⟩
def RelC.setAny {i:Nat}{s:Sl}{v:Option V}{H':Hp}{O':Nat->Hp}(r:RelC K Hv₀ H₀ Hc O st σ H)(h0:Same H₀ H')(ch:Same Hc H')(nf:∀ b o u,H₀ b=none->H' b≠some 1#39)(hO:∀ j,j≠i->O' j=O j)
  (sh:∀ d,s=.sh d->∃ w,v=some w/\Rp K Hc d w) (ow:∀ d,s=.ow d->∃ a o,v=some (.ref a)/\O' i a=some o/\Nd K Hc d o) (dp:∀ d,s=.dp d->∃ w,v=some w/\Rp [] (O' i) d w) (jk:∀ n m,s=.jk n m->∃ w,v=some w/\Jk (O' i) n m w)
  (oh:∀ j b o,O' j b=some o->H' b=some o/\Hc b=none/\H₀ b=none) (one:∀ j b o o',O' i b=some o->j≠i->O j b≠some o'):RelC K Hv₀ H₀ Hc O' (st.set i s) (σ.set i v) H':=by
 have at_:∀ {j:Nat},j=i->i<st.length->(σ.set i v)[j]?=some v:=λ {j} e hl=>by subst e;exact DJ (by rw[<- r.len];exact hl)
 have no:∀ {j:Nat},j≠i->(σ.set i v)[j]?=σ[j]?:=λ hj=>DQ (Ne.symm hj)
 refine⟨h0,r.vc,ch,r.new,nf,by rw[DE,DE];exact r.len,λ j x h=>?_,λ j x h=>?_,λ j x h=>?_,λ j n m h=>?_,oh,λ j k b o o' h1 h2=>?_⟩
 ·rcases cS h with ⟨e,e2,hl⟩|⟨hj,h⟩
  ·obtain⟨w,e3,rp⟩:=sh x e2.symm
   exact⟨w,by rw[at_ e hl,e3],rp⟩
  ·obtain⟨u,h1,h2⟩:=r.sh j x h
   exact⟨u,by rw[no hj];exact h1,h2⟩
 ·rcases cS h with ⟨e,e2,hl⟩|⟨hj,h⟩
  ·obtain⟨a,o,e3,e4,rp⟩:=ow x e2.symm
   exact⟨a,o,by rw[at_ e hl,e3],by rw[e];exact e4,rp⟩
  ·obtain⟨a,o,h1,h2,h3⟩:=r.ow j x h
   exact⟨a,o,by rw[no hj];exact h1,by rw[hO j hj];exact h2,h3⟩
 ·rcases cS h with ⟨e,e2,hl⟩|⟨hj,h⟩
  ·obtain⟨w,e3,rp⟩:=dp x e2.symm
   exact⟨w,by rw[at_ e hl,e3],by rw[e];exact rp⟩
  ·obtain⟨u,h1,h2⟩:=r.dp j x h
   exact⟨u,by rw[no hj];exact h1,by rw[hO j hj];exact h2⟩
 ·rcases cS h with ⟨e,e2,hl⟩|⟨hj,h⟩
  ·obtain⟨w,e3,rp⟩:=jk n m e2.symm
   exact⟨w,by rw[at_ e hl,e3],by rw[e];exact rp⟩
  ·obtain⟨u,h1,h2⟩:=r.jk j n m h
   exact⟨u,by rw[no hj];exact h1,by rw[hO j hj];exact h2⟩
 ·by_cases e1:j=i
  ·by_cases e2:k=i
   ·rw[e1,e2]
   ·rw[e1] at h1;rw[hO k e2] at h2;exact absurd h2 (one k b o o' h1 e2)
  ·by_cases e2:k=i
   ·rw[e2] at h2;rw[hO j e1] at h1;exact absurd h1 (one j b o' o h2 e1)
   ·rw[hO j e1] at h1;rw[hO k e2] at h2;exact r.one j k b o o' h1 h2
def RelC.setSh {i:Nat}{d:D}{v:V}(r:RelC K Hv₀ H₀ Hc O st σ H)(rp:Rp K Hc d v):RelC K Hv₀ H₀ Hc O (st.set i (.sh d)) 0#79 H:=
 r.setAny r.h0 r.ch r.nf 2#1 (λ x e=>by cases e;exact⟨v,rfl,rp⟩) 0#91 0#91 1#45 r.oh λ j b o o' h hj h2=>hj (r.one j i b o' o h2 h)
def RelC.setNo {i:Nat}{v:Option V}(r:RelC K Hv₀ H₀ Hc O st σ H):RelC K Hv₀ H₀ Hc O 1#80 (σ.set i v) H:=
 r.setAny r.h0 r.ch r.nf 2#1 0#91 0#91 0#91 1#45 r.oh λ j b o o' h hj h2=>hj (r.one j i b o' o h2 h)
def iL (O:Nat->Hp)(i:Nat)(R:Hp):Nat->Hp:=λ j=>if j=i then R else O j
def aJ {R:Hp}{i:Nat}:iL O i R i=R:=if_pos rfl
def bc {R:Hp}{i j:Nat}(h:j≠i):iL O i R j=O j:=if_neg h
def only (a:Addr)(o:HO):Hp:=λ b=>if b=a then some o else none
def uq {a:Addr}{o:HO}:only a o a=some o:=if_pos rfl
def sd {a b:Addr}{o u:HO}(h:only a o b=some u):b=a/\u=o:=by
 unfold only at h;by_cases e:b=a
 ·rw[if_pos e] at h;exact⟨e,(Option.some.inj h).symm⟩
 ·rw[if_neg e] at h;cases h
def RelC.setOw {i:Nat}{d:D}{o:HO}{a:Addr}(r:RelC K Hv₀ H₀ Hc O st σ H)(ha:H a=some o)(hc:Hc a=none)(h0:H₀ a=none)(no:∀ j,j≠i->O j a=none)
  (nd:Nd K Hc d o):RelC K Hv₀ H₀ Hc (iL O i (only a o)) (st.set i (.ow d)) (σ.set i 2#21) H:=
 r.setAny r.h0 r.ch r.nf (λ j hj=>bc hj) 0#91 (λ x e=>by cases e;exact⟨a,o,rfl,by rw[aJ];exact uq,nd⟩) 0#91 1#45
  (λ j b u h=>by
   by_cases hj:j=i
   ·rw[hj,aJ] at h
    obtain⟨rfl,rfl⟩:=sd h;exact⟨ha,hc,h0⟩
   ·rw[bc hj] at h;exact r.oh j b u h)
  λ j b u u' h hj h2=>by
   rw[aJ] at h;obtain⟨rfl,rfl⟩:=sd h;rw[no j hj] at h2;cases h2
def RelC.setDp {i:Nat}{d:D}{v:V}{R:Hp}(r:RelC K Hv₀ H₀ Hc O st σ H)(hR:∀ b o,R b=some o->H b=some o/\Hc b=none/\H₀ b=none/\∀ j,j≠i->O j b=none)
  (rp:Rp [] R d v):RelC K Hv₀ H₀ Hc (iL O i R) (st.set i (.dp d)) 0#79 H:=
 r.setAny r.h0 r.ch r.nf (λ j hj=>bc hj) 0#91 0#91 (λ x e=>by cases e;exact⟨v,rfl,by rw[aJ];exact rp⟩) 1#45
  (λ j b u h=>by
   by_cases hj:j=i
   ·rw[hj,aJ] at h
    exact⟨(hR b u h).1,(hR b u h).2.1,(hR b u h).2.2.1⟩
   ·rw[bc hj] at h;exact r.oh j b u h)
  λ j b u u' h hj h2=>by
   rw[aJ] at h;rw[(hR b u h).2.2.2 j hj] at h2;cases h2
def jo {α:Type}{l:List α}{i:Nat}{x:α}(h:l[i]?=some x):l.set i x=l:=by
 refine Ff λ j=>?_
 by_cases hj:j=i
 ·subst hj;rw[DJ (List.getElem?_eq_some_iff.mp h).1,h]
 ·rw[DQ (Ne.symm hj)]
def RelC.putAny {i:Nat}{s:Sl}{v:V}{a:Addr}{u o:HO}(r:RelC K Hv₀ H₀ Hc O st σ H)(hσ:σ[i]?=some (some v))(ha:O i a=some u)(ho:∀ q w,o≠.frz q w)
  (ow:∀ d,s=.ow d->v=.ref a/\Nd K Hc d o) (jk:∀ n m,s=.jk n m->Jk (upd (O i) a o) n m v) (hs:∀ d,s≠.sh d/\s≠.dp d):
  RelC K Hv₀ H₀ Hc (iL O i (upd (O i) a o)) (st.set i s) σ 2#34:=by
 obtain⟨h1,h2,h3⟩:=r.oh i a u ha;have hset:σ.set i (some v)=σ:=jo hσ;have key:=r.setAny (i:=i) (s:=s) (v:=some v) (H':=upd H a o) (O':=iL O i (upd (O i) a o)) (λ b w h=>by rw[ag (au h h3)];exact r.h0 b w h) (λ b w h=>by rw[ag (au h h2)];exact r.ch b w h)
  (λ b q w h=>by
   by_cases hb:b=a
   ·subst hb;rw[ai];exact λ z=>ho q w (Option.some.inj z)
   ·rw[ag hb];exact r.nf b q w h)
  (λ j hj=>bc hj) (λ d e=>absurd e (hs d).1) (λ d e=>⟨a,o,by rw[(ow d e).1],by rw[aJ,ai],(ow d e).2⟩) (λ d e=>absurd e (hs d).2) (λ n m e=>⟨v,rfl,by rw[aJ];exact jk n m e⟩)
  (λ j b w h=>by
   by_cases hj:j=i
   ·rw[hj,aJ] at h
    by_cases hb:b=a
    ·subst hb;rw[ai] at h ⊢;exact⟨h,h2,h3⟩
    ·rw[ag hb] at h ⊢;exact r.oh i b w h
   ·rw[bc hj] at h
    have hb:b≠a:=λ z=>hj (r.one j i b w u h (by rw[z];exact ha))
    rw[ag hb];exact r.oh j b w h)
  λ j b w w' h hj h4=>by
   rw[aJ] at h;by_cases hb:b=a
   ·exact hj (r.one j i b w' u h4 (by rw[hb];exact ha))
   ·rw[ag hb] at h;exact hj (r.one j i b w' w h4 h)
 rw[hset] at key;exact key
def RelC.put {i:Nat}{d:D}{ds:List D}{ws:List V}{a:Addr}(r:RelC K Hv₀ H₀ Hc O st σ H)(hi:st[i]?=some (.ow d))(hσ:σ[i]?=some 2#21)(rp:RpL K Hc ds ws):
  ∃ O',RelC K Hv₀ H₀ Hc O' (st.set i 2#11) σ (upd H a 2#70):=by
 obtain⟨a',o,h1,h2,h3⟩:=r.ow i d hi;rw[hσ] at h1;cases h1;exact⟨_,r.putAny hσ h2 0#34 (λ x e=>by cases e;exact⟨rfl,ws,rfl,rp⟩) 1#45 λ x=>⟨nofun,nofun⟩⟩
def RelC.putDct {i:Nat}{d:D}{ks:List Int}{ds:List D}{ws:List V}{a:Addr}(r:RelC K Hv₀ H₀ Hc O st σ H)(hi:st[i]?=some (.ow d))(hσ:σ[i]?=some 2#21)(hl:ks.length=ds.length)(rp:RpL K Hc ds ws):
  ∃ O',RelC K Hv₀ H₀ Hc O' (st.set i (.ow 0#42)) σ (upd H a (.dK ((ks.map Sum.inl).zip ws))):=by
 obtain⟨a',o,h1,h2,h3⟩:=r.ow i d hi;rw[hσ] at h1;cases h1;exact⟨_,r.putAny hσ h2 0#34 (λ x e=>by cases e;exact⟨rfl,ws,rfl,hl,rp⟩) 1#45 λ x=>⟨nofun,nofun⟩⟩
def cc (A B:Hp):Hp:=λ b=>match A b with
 |some o=>some o
 |none=>B b
def fj {A B:Hp}:Same A (cc A B):=λ b o h=>by unfold cc;rw[h]
def gu {A B:Hp}(d:∀ b o,B b=some o->A b=none):Same B (cc A B):=λ b o h=>by unfold cc;rw[d b o h];exact h
def bO {A B:Hp}{b:Addr}{o:HO}(h:cc A B b=some o):A b=some o\/(A b=none/\B b=some o):=by
 unfold cc at h;cases q:A b with
 |some u=>rw[q] at h;exact .inl h
 |none=>rw[q] at h;exact .inr ⟨rfl,h⟩
def RelC.give1 {i:Nat}(r:RelC K Hv₀ H₀ Hc O st σ H):∃ Hc' O',Same Hc Hc'/\RelC K Hv₀ H₀ Hc' O' (st.set i ((st[i]?.getD .no).give)) σ H:=by
 cases hi:st[i]? with
 |none=>
  refine⟨Hc,O,.refl _,?_⟩;rw[List.set_eq_of_length_le (by have:=List.getElem?_eq_none_iff.mp hi;omega)];exact r
 |some s=>
  have hs:st.set i s=st:=jo hi;have key:∀ (d:D) (v:V),σ[i]?=some (some v)->Rp K (cc Hc (O i)) d v->∃ Hc' O',Same Hc Hc'/\RelC K Hv₀ H₀ Hc' O' (st.set i (.sh d)) σ H:=λ d v hσ rp=>by
   have sm:Same Hc (cc Hc (O i)):=fj;have hset:σ.set i (some v)=σ:=jo hσ;have r1:RelC K Hv₀ H₀ (cc Hc (O i)) (iL O i λ _=>none) 1#80 σ H:=by
    refine⟨r.h0,r.vc.trans sm,λ b o h=>?_,λ b o h n=>?_,r.nf,by rw[DE];exact r.len,λ j x h=>?_,λ j x h=>?_,λ j x h=>?_,λ j n m h=>?_,λ j b o h=>?_,λ j k b o o' h1 h2=>?_⟩
    ·rcases bO h with h|⟨_,h⟩
     ·exact r.ch b o h
     ·exact(r.oh i b o h).1
    ·rcases bO h with h|⟨_,h⟩
     ·exact r.new b o h n
     ·exact(r.oh i b o h).2.2
    ·rcases cS h with ⟨_,e,_⟩|⟨hj,h⟩
     ·cases e
     ·obtain⟨u,h1,h2⟩:=r.sh j x h
      exact⟨u,h1,h2.same sm⟩
    ·rcases cS h with ⟨_,e,_⟩|⟨hj,h⟩
     ·cases e
     ·obtain⟨a,o,h1,h2,h3⟩:=r.ow j x h
      exact⟨a,o,h1,by rw[bc hj];exact h2,h3.same sm⟩
    ·rcases cS h with ⟨_,e,_⟩|⟨hj,h⟩
     ·cases e
     ·obtain⟨u,h1,h2⟩:=r.dp j x h
      exact⟨u,h1,by rw[bc hj];exact h2⟩
    ·rcases cS h with ⟨_,e,_⟩|⟨hj,h⟩
     ·cases e
     ·obtain⟨u,h1,h2⟩:=r.jk j n m h
      exact⟨u,h1,by rw[bc hj];exact h2⟩
    ·by_cases hj:j=i
     ·rw[hj,aJ] at h;cases h
     ·rw[bc hj] at h
      obtain⟨h1,h2,h3⟩:=r.oh j b o h;refine⟨h1,?_,h3⟩;cases q:cc Hc (O i) b with
      |none=>rfl
      |some u=>
       rcases bO q with q|⟨_,q⟩
       ·rw[h2] at q;cases q
       ·exact absurd (r.one j i b o u h q) hj
    ·by_cases hj:j=i
     ·rw[hj,aJ] at h1;cases h1
     ·by_cases hk:k=i
      ·rw[hk,aJ] at h2;cases h2
      ·rw[bc hj] at h1;rw[bc hk] at h2;exact r.one j k b o o' h1 h2
   have r2:=r1.setSh (i:=i) rp;rw[hset,List.set_set] at r2;exact⟨_,_,sm,r2⟩
  cases s with
  |no=>exact⟨Hc,O,.refl _,by show RelC K Hv₀ H₀ Hc O 1#80 σ H;rw[hs];exact r⟩
  |sh d=>exact⟨Hc,O,.refl _,by show RelC K Hv₀ H₀ Hc O (st.set i (.sh d)) σ H;rw[hs];exact r⟩
  |jk n m=>exact⟨Hc,O,.refl _,by show RelC K Hv₀ H₀ Hc O (st.set i (.jk n m)) σ H;rw[hs];exact r⟩
  |ow d=>
   obtain⟨a,o,h1,h2,h3⟩:=r.ow i d hi;exact key d _ h1 ((h3.same fj).rp (gu (λ b o h=>(r.oh i b o h).2.1) a o h2))
  |dp d=>
   obtain⟨v,h1,h2⟩:=r.dp i d hi;exact key d v h1 (Rp.frag (h2.same (gu λ b o h=>(r.oh i b o h).2.1)))
def RelC.give:∀ (is:List Nat) {st:Dv.St} {Hc:Hp} {O:Nat->Hp},RelC K Hv₀ H₀ Hc O st σ H->∃ Hc' O',Same Hc Hc'/\RelC K Hv₀ H₀ Hc' O' (Dv.give is st) σ H
 |[],st,Hc,O,r=>⟨Hc,O,.refl _,r⟩
 |i::is,st,Hc,O,r=>by
  obtain⟨Hc1,O1,s1,r1⟩:=r.give1 (i:=i);obtain⟨Hc2,O2,s2,r2⟩:=RelC.give is r1;exact⟨Hc2,O2,s1.trans s2,r2⟩
end
def OkS (C:Ctx)(Hv₀ H₀:Hp)(E:Ends)(o:Out):Prop:=match o with
 |.nx st=>∀ σ' H',Rel C.X.K Hv₀ H₀ st σ' H'->E.nx σ' H'
 |.ret d nw=>∀ v Hv' H',Ext Hv₀ H₀ Hv' H'->Rp C.X.K Hv' d v->(nw=true->Rp [] (Hnew H₀ H') d v)->E.rt v H'
 |.brk st=>∀ σ' H',Rel C.X.K Hv₀ H₀ st σ' H'->E.bk σ' H'
 |.cont st=>∀ σ' H',Rel C.X.K Hv₀ H₀ st σ' H'->E.ct σ' H'
 |.exc c st=>∀ σ' H',Rel C.X.K Hv₀ H₀ st σ' H'->C.W σ' (C.cls c) none H'
 |.bad=>False
def BA (C:Ctx)(t:TS)(f:SS):Prop:=∀ Hv₀ H₀ E σ H st,Rel C.X.K Hv₀ H₀ st σ H->OkS C Hv₀ H₀ E (f st)->t E σ H
def SSt (C:Ctx)(s:Stmt)(f:SS):Prop:=∃ t:TS,PS C.X s t/\BA C t f
def SSs (C:Ctx)(ss:List Stmt)(f:SS):Prop:=∃ t:TS,PSs C.X ss t/\BA C t f
section
variable {C:Ctx}{a b c:Expr}{e:Expr}{f g h:EE}{F G:SS}{s:Stmt}{ss:List Stmt}{pos pos':Pos}{E:Ends}
def OkS.now {Hv₀ H₀:Hp}{st:Dv.St}{σ:St}{H:Hp}(q:OkS C Hv₀ H₀ E (.nx st))(r:Rel C.X.K Hv₀ H₀ st σ H):E.nx σ H:=q σ H r
def bx:SSs C [] Dv.sNil:=⟨_,fB,λ Hv₀ H₀ E σ H st r q=>q σ H r⟩
def ak (h1:SSt C s F)(h2:SSs C ss G):SSs C (s::ss) (Dv.sCons F G):=by
 obtain⟨t,p,q⟩:=h1;obtain⟨u,p2,q2⟩:=h2;refine⟨_,aE p p2,λ Hv₀ H₀ E σ H st r w=>?_⟩;refine q Hv₀ H₀ { E with nx:=u E } σ H st r ?_
 have w':OkS C Hv₀ H₀ E ((F st).bind G):=w;cases hf:F st with
 |nx st'=>rw[hf] at w';exact λ σ' H' r'=>q2 Hv₀ H₀ E σ' H' st' r' w'
 |ret d nw=>rw[hf] at w';exact w'
 |brk st=>rw[hf] at w';exact w'
 |cont st=>rw[hf] at w';exact w'
 |exc c st=>rw[hf] at w';exact w'
 |bad=>rw[hf] at w';exact w'
def av (h1:SSt C s F):SSs C [s] F:=by
 obtain⟨t,p,q⟩:=h1;exact⟨t,aU p,q⟩
def Tak.all {t:TE}(q:Tak C t f){Hv₀ H₀ Hc H:Hp}{O:Nat->Hp}{σ:St}{st:Dv.St}(r:RelC C.X.K Hv₀ H₀ Hc O st σ H){T:VK}
  (hx:∀ c,f 1#27=.exc c->∀ H',RelC C.X.K Hv₀ H₀ Hc O st σ H'->C.W σ (C.cls c) none H') (hb:f 1#27≠.bad)
  (ok:∀ d fr v Hv' H',f 1#27=.ok d fr->Ext 1#81 H Hv' H'->RelC C.X.K Hv₀ H₀ Hc O st σ H'->Rp C.X.K Hv' d v->(fr=true->Rp [] 2#50 d v)->T v H'):t σ H T:=by
 refine q σ H 1#81 1#27 T r.envAll r.allH ?_
 cases hf:f 1#27 with
 |bad=>exact absurd hf hb
 |exc c=>exact λ Hv' H' x=>hx c hf H' (r.grow x.hh x.nf)
 |ok d fr=>exact λ v Hv' H' x rp n=>ok d fr v Hv' H' hf x (r.grow x.hh x.nf) rp n
def Tak.open {t:TE}(q:Tak C t f){Hv₀ H₀ Hc H:Hp}{O:Nat->Hp}{σ:St}{st:Dv.St}(r:RelC C.X.K Hv₀ H₀ Hc O st σ H){T:VK}
  (hx:∀ c,f 2#43=.exc c->∀ Hc' H',Ext Hc H Hc' H'->C.W σ (C.cls c) none H') (hb:f 2#43≠.bad)
  (ok:∀ d fr v Hc' H',f 2#43=.ok d fr->Ext Hc H Hc' H'->RelC C.X.K Hv₀ H₀ Hc' O st σ H'->Rp C.X.K Hc' d v->T v H'):t σ H T:=by
 refine q σ H Hc 2#43 T r.envOpen r.ch ?_
 cases hf:f 2#43 with
 |bad=>exact absurd hf hb
 |exc c=>exact λ Hv' H' x=>hx c hf Hv' H' x
 |ok d fr=>exact λ v Hv' H' x rp n=>ok d fr v Hv' H' hf x (r.growC x) rp
def cC (he:SE C e f)(hs:autoParam (swapsWith e none pos.line C.X.env=pure false) ZF._auto_1):SSt C (.Expr e pos) (Dv.sExpr f):=by
 obtain⟨t,p,q⟩:=he;refine⟨_,bQ p hs,λ Hv₀ H₀ E σ H st ⟨Hc,O,r⟩ w=>?_⟩;unfold Dv.sExpr at w;refine q.all r 0#60 1#25 λ d fr v Hv' H' hf x r' rp n=>?_
 ·rw[hf] at w;exact w σ H' ⟨Hc,O,r'⟩
 ·rw[hf] at w;exact w
 ·rw[hf] at w;exact w σ H' ⟨Hc,O,r'⟩
def RelC.ret {Hv₀ H₀ Hc H Hv' H':Hp}{O:Nat->Hp}{σ:St}{st:Dv.St}{K:GA}(r:RelC K Hv₀ H₀ Hc O st σ H)(x:Ext 1#81 H Hv' H'):∃ Hv2,Ext Hv₀ H₀ Hv2 H'/\Same Hv' Hv2:=by
 have key:∀ b o,Hv' b=some o->Hv₀ b=none->H₀ b=none:=λ b o h n=>by
  cases q:eU Hc O H b with
  |some u=>exact r.allNew b u q n
  |none=>exact r.h0.free (x.new b o h q)
 refine⟨λ b=>match H₀ b with|none=>H' b|some _=>Hv' b,⟨r.h0.trans x.hh,λ b o h=>?_,λ b o h=>?_,λ b o h n=>?_,λ b h=>?_,λ b o u h=>?_⟩,λ b o h=>?_⟩
 ·have h2:Hv' b=some o:=x.vv _ _ (r.cAll _ _ (r.vc b o h))
  show (match H₀ b with|none=>H' b|some _=>Hv' b)=some o
  cases H₀ b with
  |none=>exact x.vh b o h2
  |some _=>exact h2
 ·have h':(match H₀ b with|none=>H' b|some _=>Hv' b)=some o:=h
  cases q:H₀ b with
  |none=>rw[q] at h';exact h'
  |some _=>rw[q] at h';exact x.vh b o h'
 ·have h':(match H₀ b with|none=>H' b|some _=>Hv' b)=some o:=h
  cases q:H₀ b with
  |none=>rfl
  |some u=>
   rw[q] at h';have:=key b o h' n;rw[q] at this;cases this
 ·show (match H₀ b with|none=>H' b|some _=>Hv' b)=H' b
  rw[h]
 ·exact(r.grow x.hh x.nf).nf b o u h
 ·show (match H₀ b with|none=>H' b|some _=>Hv' b)=some o
  cases H₀ b with
  |none=>exact x.vh b o h
  |some _=>exact h
def aN (he:SE C e f):SSt C (.Return (some e) pos) (Dv.sRet f):=by
 obtain⟨t,p,q⟩:=he;refine⟨_,cU p,λ Hv₀ H₀ E σ H st ⟨Hc,O,r⟩ w=>?_⟩;unfold Dv.sRet at w;refine q.all r 0#60 1#25 λ d fr v Hv' H' hf x r' rp n=>?_
 ·rw[hf] at w;exact w σ H' ⟨Hc,O,r'⟩
 ·rw[hf] at w;exact w
 ·rw[hf] at w
  obtain⟨Hv2,x2,s2⟩:=r.ret x;exact w v Hv2 H' x2 (rp.same s2) λ z=>(n z).same (Hnew.mono r.h0 1#14)
def fo (i:Nat){x:Str}(hN:autoParam (C.X.N[i]?=some x) ZF._auto_1)(hv:autoParam 0#58 ZH._auto_1)(hd:autoParam 0#4 ZC._auto_1)
  (hcd:autoParam 0#16 ZC._auto_1):SSt C (.Return (some 1#42) pos) (Dv.sRetO i):=by
 refine⟨_,cU 0#97,λ Hv₀ H₀ E σ H st ⟨Hc,O,r⟩ w=>?_⟩;unfold Dv.sRetO at w;obtain⟨Hv2,x2,s2⟩:=r.ret (.refl r.allH);cases hi:st[i]? with
 |none=>rw[hi] at w;exact Zf w
 |some s=>
  rw[hi] at w;cases s with
  |no=>exact Zf w
  |sh d=>
   obtain⟨v,h1,h2⟩:=r.sh i d hi;exact⟨v,h1,w v Hv2 H x2 ((h2.same r.cAll).same s2) λ z=>h2.scal z⟩
  |jk n m=>exact Zf w
  |dp d=>
   obtain⟨v,h1,h2⟩:=r.dp i d hi;exact⟨v,h1,w v Hv2 H x2 ((Rp.frag (h2.same (r.oAll i))).same s2) λ _=>h2.same λ b o h=>by
    unfold Hnew;rw[(r.oh i b o h).2.2];exact(r.oh i b o h).1⟩
  |ow d=>
   obtain⟨a,o,h1,h2,h3⟩:=r.ow i d hi;have rp:Rp C.X.K Hv2 d (.ref a):=by
    obtain⟨v,h6,h7⟩:=r.envAll i d (by unfold Dv.all;rw[DD,hi];rfl);rw[h1] at h6;cases h6;exact h7.same s2
   cases d with
   |lst ds=>
    refine⟨_,h1,w (.ref a) Hv2 H x2 rp λ z=>?_⟩;obtain⟨vs,rfl,h5⟩:=h3;unfold Rp;refine⟨a,vs,rfl,SqX.of ?_,h5.flat z⟩;unfold Hnew;rw[(r.oh i a _ h2).2.2];exact(r.oh i a _ h2).1
   |dct ks ds=>exact⟨_,h1,w (.ref a) Hv2 H x2 rp λ z=>nomatch z⟩
   |_=>exact Zf h3
def cg {pa pb:List Stmt}(hc:SC C c f)(ha:SSs C pa F)(hb:SSs C pb G):SSt C (.If c pa pb pos) (Dv.sIf f F G):=by
 obtain⟨tc,pc,qc⟩:=hc;obtain⟨t,p,q⟩:=ha;obtain⟨u,p2,q2⟩:=hb;refine⟨_,ju pc p p2,λ Hv₀ H₀ E σ H st ⟨Hc,O,r⟩ w=>?_⟩;unfold Dv.sIf at w;refine qc σ H 1#81 1#27 _ r.envAll r.allH ?_
 cases hf:f 1#27 with
 |bad=>rw[hf] at w;exact w
 |exc c=>rw[hf] at w;exact λ Hv' H' x=>w σ H' ⟨Hc,O,r.grow x.hh x.nf⟩
 |ok d fr=>
  rw[hf] at w;intro v Hv' H' x rp n;cases d with
  |bl b=>
   unfold Rp at rp;refine⟨b,rp,?_⟩;cases b with
   |true=>exact xO (q Hv₀ H₀ E σ H' st ⟨Hc,O,r.grow x.hh x.nf⟩ w)
   |false=>exact xS (q2 Hv₀ H₀ E σ H' st ⟨Hc,O,r.grow x.hh x.nf⟩ w)
  |_=>exact Zf w
def qz {t:TE}(q:Tak C t f)(i:Nat){Hv₀ H₀ H:Hp}{σ:St}{st:Dv.St}(r:Rel C.X.K Hv₀ H₀ st σ H)(w:OkS C Hv₀ H₀ E (Dv.sSet i f st)):t σ H λ v H'=>E.nx 0#79 H':=by
 obtain⟨Hc,O,r⟩:=r;unfold Dv.sSet at w;refine q.all r 0#60 1#25 λ d fr v Hv' H' hf x r' rp n=>?_
 ·rw[hf] at w;exact w σ H' ⟨Hc,O,r'⟩
 ·rw[hf] at w;exact w
 ·rw[hf] at w
  cases d with
  |lst ds=>
   simp only[Dv.keepD] at w;by_cases z:(fr&&Dv.flatL ds)=true
   ·simp only[z,if_true] at w
    rw[Dl] at z;have rn:=n z.1;unfold Rp at rn;obtain⟨a,vs,rfl,h1,h2⟩:=rn;have h1':Hnew H H' a=some 1#48:=by
     rcases h1 with (h1|⟨o,h1⟩)|⟨its,m,e,_⟩
     ·exact h1
     ·exfalso
      have hn:H a=none:=by
       unfold Hnew at h1;cases q:H a with
       |none=>rfl
       |some u=>rw[q] at h1;cases h1
      exact x.nf a o _ hn (Hnew.sub a _ h1)
     ·simp at e
    have hn:H a=none:=by
     unfold Hnew at h1';cases q:H a with
     |none=>rfl
     |some u=>rw[q] at h1';cases h1'
    refine w _ H' ⟨Hc,_,r'.setOw (Hnew.sub a _ h1') (r.ch.free hn) (r.h0.free hn) (λ j _=>?_) ⟨vs,rfl,h2.flat z.2⟩⟩;cases q:O j a with
    |none=>rfl
    |some u=>have:=(r.oh j a u q).1;rw[hn] at this;cases this
   ·simp only[z] at w
    exact Zf w
  |tup ds=>exact Zf w
  |exn c=>exact Zf w
  |raw _=>exact Zf w
  |ins _ _=>exact Zf w
  |tab _=>exact Zf w
  |dct ks ds=>
   simp only[Dv.keepD] at w;by_cases z:(fr&&ks.isEmpty&&ds.isEmpty)=true
   ·simp only[z,if_true] at w
    simp only[Dl,List.isEmpty_iff] at z;obtain⟨⟨z1,z2⟩,z3⟩:=z;subst z2 z3;have rn:=n z1;unfold Rp at rn;obtain⟨a,vs,rfl,_,h1,h2⟩:=rn;unfold RpL at h2;subst h2;have h1':Hnew H H' a=some (.dK []):=by
     rcases h1 with h1|⟨o,h1⟩
     ·exact h1
     ·exfalso
      have hn:H a=none:=by
       unfold Hnew at h1;cases q:H a with
       |none=>rfl
       |some u=>rw[q] at h1;cases h1
      exact x.nf a o _ hn (Hnew.sub a _ h1)
    have hn:H a=none:=by
     unfold Hnew at h1';cases q:H a with
     |none=>rfl
     |some u=>rw[q] at h1';cases h1'
    refine w _ H' ⟨Hc,_,r'.setOw (Hnew.sub a _ h1') (r.ch.free hn) (r.h0.free hn) (λ j _=>?_) ⟨[],rfl,rfl,.nil⟩⟩;cases q:O j a with
    |none=>rfl
    |some u=>have:=(r.oh j a u q).1;rw[hn] at this;cases this
   ·simp only[z] at w
    exact Zf w
  |_=>exact w _ H' ⟨Hc,O,r'.setSh (Rp.scal rfl rp)⟩
def aY {i:Nat}{x:Str}(he:SE C e f)(hN:C.X.N.Nodup)(hi:C.X.N[i]?=some x)(hx:Loc C.X.env.scope x)(hs:autoParam 0#55 ZF._auto_1)
  (hf:autoParam 0#8 ZB._auto_1):SSt C 1#16 (Dv.sSet i f):=by
 obtain⟨t,p,q⟩:=he;exact⟨_,bZ hN hi hx p hs hf,λ Hv₀ H₀ E σ H st r w=>qz q i r w⟩
def om {t:TE}(q:Tak C t f)(is:List Nat)(i:Nat){Hv₀ H₀ H:Hp}{σ:St}{st:Dv.St}(r:Rel C.X.K Hv₀ H₀ st σ H)(w:OkS C Hv₀ H₀ E (Dv.sSetG is i f st)):t σ H λ v H'=>E.nx 0#79 H':=by
 obtain⟨Hc0,O0,r0⟩:=r;obtain⟨Hc,O,_,r⟩:=r0.give is;unfold Dv.sSetG at w;refine q.open r (λ c hf Hc' H' x=>?_) 1#25 λ d fr v Hc' H' hf x r' rp=>?_
 ·rw[hf] at w;exact w σ H' ⟨Hc0,O0,r0.grow x.hh x.nf⟩
 ·rw[hf] at w;exact w
 ·rw[hf] at w
  exact w _ H' ⟨Hc',O,r'.setSh rp⟩
def i4 (is:List Nat){i:Nat}{x:Str}(he:SE C e f)(hN:C.X.N.Nodup)(hi:C.X.N[i]?=some x)(hx:Loc C.X.env.scope x)(hs:autoParam 0#55 ZF._auto_1)
  (hf:autoParam 0#8 ZB._auto_1):SSt C 1#16 (Dv.sSetG is i f):=by
 obtain⟨t,p,q⟩:=he;exact⟨_,bZ hN hi hx p hs hf,λ Hv₀ H₀ E σ H st r w=>om q is i r w⟩
def RelC.own {Hv₀ H₀ Hc H:Hp}{O:Nat->Hp}{σ:St}{st:Dv.St}{K:GA}{i:Nat}{ds:List D}(r:RelC K Hv₀ H₀ Hc O st σ H)(hi:st[i]?=some 2#11):
  ∃ a vs,σ[i]?=some 2#21/\H a=some 1#48/\RpL K Hc ds vs:=by
 obtain⟨a,o,h1,h2,vs,rfl,h3⟩:=r.ow i _ hi;exact⟨a,vs,h1,(r.oh i a _ h2).1,h3⟩
def mj {i:Nat}{x:Str}{apos cpos:Pos}{px:Pos}(he:SE C e f)(hN:autoParam 1#3 ZF._auto_1)(hv:autoParam 0#58 ZH._auto_1)
    (hd:autoParam 0#4 ZC._auto_1) (hcd:autoParam 0#16 ZC._auto_1) (hst:autoParam 0#86 ZF._auto_1)
    (hbase:autoParam (attributeBase 0#21 "append" C.X.env (eval 0#21 C.X.env)=eval 0#21 C.X.env) ZF._auto_1)
    (hfew:autoParam (((backTo cpos (starEach [e] C.X.env)).all 2#37&&(backToKw cpos 2#7).all 1#49
      && decide 0#30)=true) ZF._auto_1)
    (hline:autoParam 2#69 ZF._auto_1)
    (hs:autoParam (swapsWith 0#35 none pos.line C.X.env=pure false) ZF._auto_1):
    SSt C (.Expr 0#35 pos) (Dv.sApp i f):=by
  obtain⟨t,p,q⟩:=he;refine⟨_,bQ (fK GP GU GV bF 0#97 (aq p ay hst) hbase hfew hline hst rfl) hs,λ Hv₀ H₀ E σ H st ⟨Hc,O,r⟩ w=>?_⟩;unfold Dv.sApp at w;cases hi:st[i]? with
  |none=>rw[hi] at w;exact Zf w
  |some s=>
    rw[hi] at w;cases s with
    |no=>exact Zf w
    |sh d=>exact Zf w
    |dp d=>exact Zf w
    |jk n m=>exact Zf w
    |ow d0=>
     cases d0 with
     |lst ds=>
      obtain⟨a,vs,h1,h2,h5⟩:=r.own hi;refine⟨_,h1,.inl ⟨rfl,vs,SqL.of h2⟩,?_⟩;refine q.all r 0#60 1#25 λ d fr v Hv' H' hf x r' rp n=>?_
      · simp only[hf] at w;exact w σ H' ⟨Hc,O,r'⟩
      · simp only[hf] at w;exact w
      · simp only[hf] at w
        by_cases z:(Dv.scal d&&decide (ds.length<Dv.mx))=true
        · simp only[z,if_true] at w
          rw[Dl,decide_eq_true_eq] at z;obtain⟨O',r2⟩:=r'.put hi h1 (h5.append (.cons (rp.scal z.1) .nil));refine⟨a,vs,v,rfl,rfl,x.hh _ _ h2,?_,w σ _ ⟨Hc,O',r2⟩⟩;have:=h5.length;have:=dh (EB z.2);have e1:(100000:Nat)<sizeLine:=by rw[GS];decide
          have e2:ds.length<100000:=z.2;omega
        · simp only[z] at w
          exact Zf w
     |_=>exact Zf w
end
section
variable {C:Ctx}{a b c e o k:Expr}{f g h:EE}{fl:EL}{F G:SS}{s:Stmt}{ss:List Stmt}{pos pos':Pos}{E:Ends}
def Wlk (K:GA)(J:It)(Hv:Hp)(ds:List D):Prop:=
 ∀ (i:Nat) (H:Hp),Same Hv H->(∀ d,ds[i]?=some d->J.go i H/\∀ x H',J.yld i H x H'->∃ Hv',Ext Hv H Hv' H'/\Rp K Hv' d x)/\(i=ds.length->J.stop i H)
def OkI (K:GA)(Hv H:Hp)(W:XK)(cls:String->Value)(r:RI)(T:It->Hp->Prop):Prop:=match r with
 |.ok ds _=>∀ J Hv' H',Ext Hv H Hv' H'->Wlk K J Hv' ds->T J H'
 |.exc c=>∀ Hv' H',Ext Hv H Hv' H'->W (cls c) none H'
 |.bad=>False
def SI (C:Ctx)(tg it:Expr)(f:EI):Prop:=
 ∃ wi:TI,PI C.X tg it wi/\∀ σ H Hv ρ T,EnvR C.X.K Hv ρ σ->Same Hv H->OkI C.X.K Hv H (C.W σ) C.cls (f ρ) T->wi σ H T
def aV {tg:Expr}(he:SE C e f):SI C tg e (Dv.iSeq f):=by
 obtain⟨t,p,q⟩:=he;refine⟨_,qO p,λ σ H Hv ρ T er s w=>?_⟩;refine q σ H Hv ρ _ er s ?_
 unfold Dv.iSeq at w;cases hf:f ρ with
 |bad=>rw[hf] at w;exact w
 |exc c=>rw[hf] at w;exact w
 |ok d fr=>
  rw[hf] at w;intro v Hv' H' x rp n;cases d with
  |lst ds=>
   unfold Rp at rp;obtain⟨l,vs,rfl,h1,h2⟩:=rp;refine⟨l,rfl,⟨vs,(h1.same x.vh).seq⟩,w _ Hv' H' x λ i H2 s2=>⟨λ d hd=>?_,λ hi=>?_⟩⟩
   ·obtain⟨u,h3,h4⟩:=h2.get hd
    refine⟨⟨vs,u,(h1.same s2).seq,h3⟩,λ x H3 ⟨e1,hy⟩=>?_⟩;subst e1;have:=hy vs (h1.same s2).seq;rw[h3] at this;cases this;exact⟨Hv',.refl s2,h4⟩
   ·exact⟨vs,(h1.same s2).seq,by rw[h2.length,hi];exact Du _⟩
  |_=>exact Zf w
def t6 (lo:Int):∀ (n i:Nat) (d:D),(Dv.rangeL lo n)[i]?=some d->i<n/\d=.int (lo+i):=by
 intro n
 induction n generalizing lo with
 |zero=>intro i d h;simp[Dv.rangeL] at h
 |succ n ih=>
  intro i d h;cases i with
  |zero=>simp[Dv.rangeL] at h;subst h;exact⟨⋯,by simp⟩
  |succ i=>
   simp only[Dv.rangeL,Dc] at h;obtain⟨h1,h2⟩:=ih (lo+1) i d h;exact⟨⋯,by rw[h2];congr 1;omega⟩
def tL (lo:Int):∀ n:Nat,(Dv.rangeL lo n).length=n:=by
 intro n
 induction n generalizing lo with
 |zero=>rfl
 |succ n ih=>simp[Dv.rangeL,ih]
def k8 {K:GA}{Hv:Hp}(lo:Int)(n:Nat):Wlk K (Itr lo n) Hv (Dv.rangeL lo n):=λ i H s=>⟨λ d hd=>by
  obtain⟨h1,rfl⟩:=t6 lo n i d hd;refine⟨h1,λ x H' ⟨e1,e2⟩=>?_⟩;subst e1 e2;exact⟨Hv,.refl s,cm⟩,λ hi=>by rw[tL] at hi;subst hi;exact Du _⟩
def vz {j:Int}(h:Dv.rngOk j=true):-(2 ^ 62)<=j/\j<2 ^ 62:=by
 unfold Dv.rngOk at h;simp only[Dl,decide_eq_true_eq] at h;omega
def dy {tg:Expr}{p:Pos}(hg:Gl C.X "range")(hm:C.X.mg "range"=none)(he:SE C e f)(hs:autoParam 0#86 ZF._auto_1):
  SI C tg (.Call 1#97 [e] [] pos) (Dv.iRange f):=by
 obtain⟨t,pe,q⟩:=he;refine⟨_,sS hg hm (aq pe ay hs) hs,λ σ H Hv ρ T er s w=>?_⟩;refine q σ H Hv ρ _ er s ?_
 unfold Dv.iRange at w;cases hf:f ρ with
 |bad=>rw[hf] at w;exact w
 |exc c=>rw[hf] at w;exact w
 |ok d fr=>
  rw[hf] at w;intro v Hv' H' x rp n;cases d with
  |int j=>
   unfold Rp at rp;subst rp;by_cases hr:Dv.rngOk j=true
   ·simp only[hr,if_true] at w
    obtain⟨h1,h2⟩:=vz hr;exact⟨j,rfl,h1,h2,w _ Hv' H' x (k8 0 j.toNat)⟩
   ·simp only[hr] at w
    exact Zf w
  |_=>exact Zf w
def uA {tg:Expr}{p:Pos}(hg:Gl C.X "range")(hm:C.X.mg "range"=none)(he:SE C e f)(hb:SE C b g)(hs:autoParam (starEach [e,b] C.X.env=[0#36,(false,eval b C.X.env)]) ZF._auto_1)
  (hs2:autoParam (starEach [b] C.X.env=[(false,eval b C.X.env)]) ZF._auto_1):SI C tg (.Call 1#97 [e,b] [] pos) (Dv.iRange2 f g):=by
 obtain⟨t,pe,q⟩:=he;obtain⟨t2,pe2,q2⟩:=hb;refine⟨_,uN hg hm (aq pe (aq pe2 ay hs2) (by rw[hs,hs2])) hs hs2,λ σ H Hv ρ T er s w=>?_⟩;refine q σ H Hv ρ _ er s ?_
 unfold Dv.iRange2 at w;cases hf:f ρ with
 |bad=>rw[hf] at w;exact w
 |exc c=>rw[hf] at w;exact w
 |ok d fr=>
  rw[hf] at w;intro v Hv' H' x rp n;cases d with
  |int i=>
   unfold Rp at rp;subst rp;refine q2 σ H' Hv' ρ _ (er.same x.vv) x.vh ?_
   cases hg':g ρ with
   |bad=>simp only[hg'] at w;exact w
   |exc c=>simp only[hg'] at w;exact λ Hv2 H2 y=>w Hv2 H2 1#50
   |ok d2 fr2=>
    simp only[hg'] at w;intro v2 Hv2 H2 y rp2 n2;cases d2 with
    |int j=>
     unfold Rp at rp2;subst rp2;by_cases hr:(Dv.rngOk i&&Dv.rngOk j)=true
     ·simp only[hr,if_true] at w
      rw[Dl] at hr;obtain⟨h1,h2⟩:=vz hr.1;obtain⟨h3,h4⟩:=vz hr.2;exact⟨i,j,rfl,⟨h1,h2,h3,h4⟩,w _ Hv2 H2 1#50 (k8 i _)⟩
     ·simp only[hr] at w
      exact Zf w
    |_=>exact Zf w
  |_=>exact Zf w
def SG (C:Ctx)(tg:Expr)(st:D->Dv.St->Option Dv.St):Prop:=
 ∃ g:TG,PG C.X tg g/\∀ Hv₀ H₀ Hc O H σ s s' d v T,RelC C.X.K Hv₀ H₀ Hc O s σ H->Rp C.X.K Hc d v->st d s=some s'->(∀ σ' ,RelC C.X.K Hv₀ H₀ Hc O s' σ' H->T σ' H)->g v σ H T
def qy {i:Nat}{x:Str}(hN:C.X.N.Nodup)(hi:C.X.N[i]?=some x)(hx:Loc C.X.env.scope x)(hf:autoParam 0#8 ZB._auto_1):
  SG C 1#41 (λ d s=>some (s.set i (.sh d))):=by
 refine⟨_,gI hN hi hx hf,λ Hv₀ H₀ Hc O H σ s s' d v T r rp e h=>?_⟩;cases e;exact h _ (r.setSh rp)
def RelC.self {K:GA}{Hv₀ H₀ Hc H:Hp}{O:Nat->Hp}{st:Dv.St}{σ:St}(r:RelC K Hv₀ H₀ Hc O st σ H):RelC K Hc H₀ Hc O st σ H:=
 ⟨r.h0,.refl _,r.ch,λ b o h n=>0#98,r.nf,r.len,r.sh,r.ow,r.dp,r.jk,r.oh,r.one⟩
def OkS.less {Hv₀ Hc H₀:Hp}{o:Out}(h:OkS C Hv₀ H₀ E o)(vc:Same Hv₀ Hc)(new:∀ b o,Hc b=some o->Hv₀ b=none->H₀ b=none):OkS C Hc H₀ E o:=by
 have rl:∀ {st σ H},Rel C.X.K Hc H₀ st σ H->Rel C.X.K Hv₀ H₀ st σ H:=λ⟨Hd,O,r⟩=>⟨Hd,O,r.less vc new⟩
 cases o with
 |nx st=>exact λ σ H r=>h σ H (rl r)
 |ret d nw=>
  refine λ v Hv' H' x rp n=>h v Hv' H' ⟨x.hh,vc.trans x.vv,x.vh,λ b o q m=>?_,x.all,x.nf⟩ rp n
  cases z:Hc b with
  |some u=>exact new b u z m
  |none=>exact x.new b o q z
 |brk st=>exact λ σ H r=>h σ H (rl r)
 |cont st=>exact λ σ H r=>h σ H (rl r)
 |exc c st=>exact λ σ H r=>h σ H (rl r)
 |bad=>exact h
def vT {tgt:D->Dv.St->Option Dv.St}{g:TG}{tb:TS}{J:It}{ds:List D}{Hc H₀ H:Hp}{σ:St}{st:Dv.St}
  (qg:∀ Hv₀ H₀ Hc O H σ s s' d v T,RelC C.X.K Hv₀ H₀ Hc O s σ H->Rp C.X.K Hc d v->tgt d s=some s'->(∀ σ' ,RelC C.X.K Hv₀ H₀ Hc O s' σ' H->T σ' H)->g v σ H T)
  (qb:BA C tb F) (wl:Wlk C.X.K J Hc ds) (r:Rel C.X.K Hc H₀ st σ H) (w:OkS C Hc H₀ E (Dv.forGoT tgt F ds st)):
  ∃ W:Nat->Nat->St->Hp->Prop,(∃ m,W 0 m σ H)/\∀ i m σ H,W i m σ H ->
   (J.stop i H/\E.nx σ H)\/(J.go i H/\∃ N:St->Hp->Prop,(∀ σ' H',N σ' H'->∃ m',m'<m/\W (i+1) m' σ' H')/\∀ x H',J.yld i H x H'->g x σ H' λ σ2 H2=>tb { E with nx:=N,ct:=N,bk:=E.nx } σ2 H2):=by
 refine⟨λ i m σ H=>m=ds.length-i/\i<=ds.length/\∃ st,Rel C.X.K Hc H₀ st σ H/\OkS C Hc H₀ E (Dv.forGoT tgt F (ds.drop i) st),⟨_,rfl,D7 _,st,r,w⟩,?_⟩
 rintro i m σ H ⟨rfl,hi,st,⟨Hd,O,r⟩,w⟩
 obtain⟨w1,w2⟩:=wl i H (r.vc.trans r.ch);by_cases hlt:i<ds.length
 ·have hd:ds[i]?=some ds[i]:=by simp[hlt]
  have e1:ds.drop i=ds[i]::ds.drop (i+1):=Eb hlt;rw[e1] at w;generalize ds[i]=d at hd e1 w;obtain⟨go,yl⟩:=w1 d hd;refine .inr ⟨go,λ σ' H'=>∃ st,Rel C.X.K Hc H₀ st σ' H'/\OkS C Hc H₀ E (Dv.forGoT tgt F (ds.drop (i+1)) st),λ σ' H' h=>⟨ds.length-(i+1),⋯,rfl,hlt,h⟩,λ x H' hy=>?_⟩;obtain⟨Hv',x1,rp⟩:=yl x H' hy;unfold Dv.forGoT at w;cases ht:tgt d st with
  |none=>simp only[ht] at w;exact Zf w
  |some st1=>
   simp only[ht] at w;have x2:Ext Hd H (λ b=>match H b with|none=>H' b|some _=>Hd b) H':=by
    refine⟨x1.hh,λ b o q=>?_,λ b o q=>?_,λ b o q n=>?_,λ b q=>?_,x1.nf⟩
    ·show (match H b with|none=>H' b|some _=>Hd b)=some o
     cases z:H b with
     |none=>rw[r.ch b o q] at z;cases z
     |some _=>exact q
    ·have q':(match H b with|none=>H' b|some _=>Hd b)=some o:=q
     cases z:H b with
     |none=>rw[z] at q';exact q'
     |some u=>rw[z] at q';exact x1.hh _ _ (r.ch b o q')
    ·have q':(match H b with|none=>H' b|some _=>Hd b)=some o:=q
     cases z:H b with
     |none=>rfl
     |some u=>rw[z] at q';rw[n] at q';cases q'
    ·show (match H b with|none=>H' b|some _=>Hd b)=H' b
     rw[q]
   have r2:=r.growC x2;have sub:Same Hv' (λ b=>match H b with|none=>H' b|some _=>Hd b):=λ b o q=>by
    show (match H b with|none=>H' b|some _=>Hd b)=some o
    cases z:H b with
    |none=>exact x1.vh b o q
    |some u=>
     cases z2:Hc b with
     |none=>have:=x1.new b o q z2;rw[z] at this;cases this
     |some u'=>
      have h1:=x1.vv b u' z2;rw[q] at h1;cases h1;exact r.vc b o z2
   refine qg Hc H₀ _ _ H' σ st st1 d x _ r2 (rp.same sub) ht λ σ2 r3=>?_
   refine qb Hc H₀ _ σ2 H' st1 ⟨_,_,r3⟩ ?_
   cases hb:F st1 with
   |nx st'=>simp only[hb] at w;exact λ σ' H' r'=>⟨st',r',w⟩
   |cont st'=>simp only[hb] at w;exact λ σ' H' r'=>⟨st',r',w⟩
   |brk st'=>simp only[hb] at w;exact w
   |ret d nw=>simp only[hb] at w;exact w
   |exc c st'=>simp only[hb] at w;exact w
   |bad=>simp only[hb] at w;exact w
 ·have e:i=ds.length:=⋯
  refine .inl ⟨w2 e,?_⟩;rw[e,Fs] at w;exact w σ H ⟨Hd,O,r⟩
def mq (is:List Nat){tg it:Expr}{body:List Stmt}{tgt:D->Dv.St->Option Dv.St}{fi:EI}(hi:SI C tg it fi)(hg:SG C tg tgt)(hb:SSs C body F)(hcalm:autoParam 0#61 ZF._auto_1)
  (hs:autoParam (∀ x,foldedSetIterable it C.X.env x=pure x) ZE._auto_1):SSt C (.For tg it body [] pos) (Dv.sForT is tgt fi F):=by
 obtain⟨wi,pi,qi⟩:=hi;obtain⟨g,pg,qg⟩:=hg;obtain⟨tb,pb,qb⟩:=hb;refine⟨_,pI C.own hcalm pi pg pb hs,λ Hv₀ H₀ E σ H st ⟨Hc0,O0,r0⟩ w=>?_⟩;obtain⟨Hc,O,_,r⟩:=r0.give is;unfold Dv.sForT at w;refine qi σ H Hc (Dv.open_ (Dv.give is st)) _ r.envOpen r.ch ?_
 cases hf:fi (Dv.open_ (Dv.give is st)) with
 |bad=>simp only[hf] at w;exact w
 |exc c=>simp only[hf] at w;exact λ Hv' H' x=>w σ H' ⟨Hc0,O0,r0.grow x.hh x.nf⟩
 |ok ds fr=>
  simp only[hf] at w;intro J Hc' H' x wl;have r1:=r.growC x;exact vT qg qb wl ⟨Hc',O,r1.self⟩ (w.less r1.vc r1.new)
def iV (x:Nat)(body:SS):∀ (ds:List D) (st:Dv.St),Dv.forGoT (λ d s=>some (s.set x (.sh d))) body ds st=Dv.forGo x body ds st
 |[],st=>rfl
 |d::r,st=>by
  unfold Dv.forGoT Dv.forGo;cases h:body (st.set x (.sh d)) with
  |nx st'=>simp only[h];exact iV x body r st'
  |cont st'=>simp only[h];exact iV x body r st'
  |_=>simp only[h]
def dM (is:List Nat){i:Nat}{x:Str}{it:Expr}{body:List Stmt}{fi:EI}(hi:SI C 1#42 it fi)(hb:SSs C body F)(hN:C.X.N.Nodup)(hn:C.X.N[i]?=some x)(hx:Loc C.X.env.scope x)
  (hf:autoParam 0#8 ZB._auto_1) (hs:autoParam (∀ x,foldedSetIterable it C.X.env x=pure x) ZE._auto_1) (hcalm:autoParam 0#61 ZF._auto_1):
  SSt C (.For 1#42 it body [] pos) (Dv.sFor is i fi F):=by
 obtain⟨t,p,q⟩:=mq (pos:=pos) is hi (qy (pos:=pos') hN hn hx hf) hb hcalm hs;refine⟨t,p,λ Hv₀ H₀ E σ H st r w=>q Hv₀ H₀ E σ H st r ?_⟩;unfold Dv.sForT;unfold Dv.sFor at w;cases hf:fi (Dv.open_ (Dv.give is st)) with
 |bad=>simp only[hf] at w ⊢;exact w
 |exc c=>simp only[hf] at w ⊢;exact w
 |ok ds fr=>simp only[hf] at w ⊢;rw[iV];exact w
def xM (n:Nat){body:List Stmt}(hc:SC C c f)(hb:SSs C body F):SSt C (.While c body [] pos) (Dv.sWhile n f F):=by
 obtain⟨tc,pc,qc⟩:=hc;obtain⟨tb,pb,qb⟩:=hb;refine⟨_,jR C.own pc pb,λ Hv₀ H₀ E σ H st r w=>?_⟩;refine⟨λ m σ H=>∃ st,Rel C.X.K Hv₀ H₀ st σ H/\OkS C Hv₀ H₀ E (Dv.whileGo f F m st),⟨n,st,r,w⟩,?_⟩
 rintro m σ H ⟨st,⟨Hc,O,r⟩,w⟩
 cases m with
 |zero=>exact Zf w
 |succ m=>
  unfold Dv.whileGo at w;refine qc σ H 1#81 1#27 _ r.envAll r.allH ?_
  cases hf:f 1#27 with
  |bad=>simp only[hf] at w;exact w
  |exc c=>simp only[hf] at w;exact λ Hv' H' x=>w σ H' ⟨Hc,O,r.grow x.hh x.nf⟩
  |ok d fr=>
   intro v Hv' H' x rp nn;cases d with
   |bl b=>
    unfold Rp at rp;refine⟨b,rp,?_⟩;cases b with
    |true=>
     simp only[hf] at w;refine xO ⟨λ σ' H'=>∃ st,Rel C.X.K Hv₀ H₀ st σ' H'/\OkS C Hv₀ H₀ E (Dv.whileGo f F m st),λ σ' H' h=>⟨m,DR m,h⟩,?_⟩;refine qb Hv₀ H₀ _ σ H' st ⟨Hc,O,r.grow x.hh x.nf⟩ ?_
     cases hb:F st with
     |nx st'=>simp only[hb] at w;exact λ σ' H' r'=>⟨st',r',w⟩
     |cont st'=>simp only[hb] at w;exact λ σ' H' r'=>⟨st',r',w⟩
     |brk st'=>simp only[hb] at w;exact w
     |ret d nw=>simp only[hb] at w;exact w
     |exc c st'=>simp only[hb] at w;exact w
     |bad=>simp only[hb] at w;exact w
    |false=>
     simp only[hf] at w;exact xS (w σ H' ⟨Hc,O,r.grow x.hh x.nf⟩)
   |_=>simp only[hf] at w;exact Zf w
def spD (K:GA)(cls:String->Value)(F:List D->R)(n:Nat):Sp:=λ vs H Q E=>∃ ds Hv,ds.length=n/\Same Hv H/\RpL K Hv ds vs/\Ok K Hv H E cls (F ds) Q
def qI {K:GA}{cls:String->Value}{F:List D->R}{n:Nat}{vs:List V}{H:Hp}{Q:VK}{E:XK}(h:spD K cls F n vs H Q E):vs.length=n:=by
 obtain⟨ds,Hv,h1,_,h2,_⟩:=h;rw[h2.length,h1]
def lu {N:List Str}{vs:List V}{i:Nat}{v:V}(h:vs[i]?=some v):(L2.start N vs)[i]?=some (some v):=by
 have hl:i<vs.length:=(List.getElem?_eq_some_iff.mp h).1;unfold L2.start;rw[DI 1#67,DD,h];rfl
def kS {K:GA}{Hv H:Hp}{ds:List D}{vs:List V}{N:List Str}(s:Same Hv H)(rp:RpL K Hv ds vs)(hN:ds.length<=N.length):
  RelC K Hv H Hv (λ _ _=>none) (ds.map Sl.sh++List.replicate (N.length-ds.length) Sl.no) 2#23 H:=by
 have hl:=rp.length;have get:∀ {i:Nat} {x:Sl},(ds.map Sl.sh++List.replicate (N.length-ds.length) Sl.no)[i]?=some x->(∃ d,x=.sh d/\ds[i]?=some d)\/x=.no:=λ {i x} h=>by
  by_cases hi:i<ds.length
  ·rw[DI 1#11,DD] at h
   cases q:ds[i]? with
   |none=>rw[q] at h;cases h
   |some d=>rw[q] at h;cases h;exact .inl ⟨d,rfl,rfl⟩
  ·rw[DX 1#11,Eh] at h
   split at h
   ·cases h;exact .inr rfl
   ·cases h
 refine⟨.refl _,.refl _,s,λ b o h n=>0#98,λ b o u h=>(by rw[h];intro z;cases z),?_,λ i d h=>?_,λ i d h=>?_,λ i d h=>?_,λ i n m h=>?_,(λ i b o h=>nomatch h),(λ i j b o o' h=>nomatch h)⟩
 ·unfold L2.start
  simp only[Dz,Di,DS];omega
 ·rcases get h with ⟨d',e,h2⟩|e
  ·cases e
   obtain⟨v,h3,h4⟩:=rp.get h2;exact⟨v,lu h3,h4⟩
  ·cases e
 ·rcases get h with ⟨d',e,_⟩|e <;>cases e
 ·rcases get h with ⟨d',e,_⟩|e <;>cases e
 ·rcases get h with ⟨d',e,_⟩|e <;>cases e
def vN {Hv H:Hp}{ds:List D}{Q:VK}{W:XK}{n:Nat}{body:SS}(hW:C.W=λ _=>W)(h:Ok C.X.K Hv H W C.cls (Dv.fn n body ds) Q):
  OkS C Hv H { nx:=λ _ H'=>Q .non H',rt:=Q } (body (ds.map Sl.sh++List.replicate (n-ds.length) Sl.no)):=by
 unfold Dv.fn at h;have ext:∀ {st σ' H'},Rel C.X.K Hv H st σ' H'->∃ Hv2,Ext Hv H Hv2 H':=λ {st σ' H'} ⟨Hc,O,r⟩=>by
  obtain⟨Hv2,x,_⟩:=r.ret (.refl r.allH);exact⟨Hv2,x⟩
 cases hb:body (ds.map Sl.sh++List.replicate (n-ds.length) Sl.no) with
 |nx st=>
  simp only[hb] at h;intro σ' H' r;obtain⟨Hv2,x⟩:=ext r;exact h .non Hv2 H' x xJ λ _=>xJ
 |ret d nw=>simp only[hb] at h;exact λ v Hv' H' x rp nn=>h v Hv' H' x rp nn
 |brk st=>simp only[hb] at h;exact Zf h
 |cont st=>simp only[hb] at h;exact Zf h
 |exc c st=>
  simp only[hb] at h;intro σ' H' r;obtain⟨Hv2,x⟩:=ext r;rw[hW];exact h Hv2 H' x
 |bad=>simp only[hb] at h;exact Zf h
end
structure CXok (P:Program)(w:World)(CX:CXT):Prop where
 no:∀ (outer:List GO) (H:Hp) (s:Shared) (e:Value) (s':Shared),CX outer H s (λ _ _ _=>False) e s'->False
 leave:∀ (K:GA) (mg:Str->Option Value) (base:Heap) (N:List Str) (qual:Str) (scope:Scope) (f:Addr) (cd:Value) (A:Around) (outer:List GO) (s:Shared) (H:Hp) (E:XK)
  (pins:List 0#18) (σ:St) (H1:Hp) (s1:Shared) (e:Value) (s':Shared),Inv (cF CX P w K mg base N qual scope f cd A outer s H E) pins σ H1 s1 ->
  CX (cF CX P w K mg base N qual scope f cd A outer s H E).stack H1 s1 E e s'->(cF CX P w K mg base N qual scope f cd A outer s H E).xe e s'
section
variable {P:Program}{w:World}{K:GA}{mg:Str->Option Value}{base:Heap}{CX:CXT}
def cX {P:Program}{w:World}(hC:CXok P w CX)(cls:String->Value)(K:GA)(mg:Str->Option Value)(base:Heap)(N:List Str)(qual:Str)(scope:Scope)(f:Addr)(cd:Value)(A:Around)(outer:List GO)(s:Shared)(H:Hp)(E:XK)
  {k:Nat} (hr:Room k (A.deeper 0#38)):Ctx where
 X:=cF CX P w K mg base N qual scope f cd A outer s H E
 W:=λ _=>E
 cls:=cls
 CX:=CX
 un:=hr.units
 own:=Io
 pass:=λ pins σ H1 s1 e s' I h=>hC.leave K mg base N qual scope f cd A outer s H E pins σ H1 s1 e s' I h
 cxF:=hC.no
def Cd (hC:CXok P w CX)(cls:String->Value){x qual:Str}{st:Stmt}{f:Addr}{N ps:List Str}{k:Nat}{body:SS}(oc:Value)(od:Option Addr)(dV kV doc pm:Value)(an:Option Addr)(cdv ct:Value)(osl:Array 0#82)
  (lk:K.lookup f=some ⟨oc,od,.func 0#19,osl⟩) (hcd:G4 K cdv qual=true) (S:FnScope N ps (af st))
  (hbody:∀ (A:Around) (outer:List GO) (s:Shared) (H:Hp) (E:XK) (hr:Room k 0#70),
   SSs (cX hC cls K mg base N qual (af st) f cdv A outer s H E hr) (aB st) body):
  FnOk P w K mg base CX (k+1) f 0#19 ps (spD K cls (Dv.fn N.length body) ps.length):=by
 refine qC lk hcd S (λ vs H Q E h=>qI h) λ A outer s H vs Q E hr h=>?_
 obtain⟨ds,Hv,hl,sv,rp,ok⟩:=h;obtain⟨t,p,q⟩:=hbody A outer s H E hr;have hpl:ps.length<=N.length:=by
  have:=congrArg List.length S.pre;rw[Ep] at this;omega
 exact⟨t,p,q Hv H _ 2#23 H _ ⟨Hv,_,kS sv rp ⋯⟩ (vN (C:=cX hC cls K mg base N qual (af st) f cdv A outer s H E hr) rfl ok)⟩
end
section
variable {C:Ctx}{a b c e o:Expr}{es:List Expr}{f g h:EE}{fl:EL}{F G:SS}{pos pos':Pos}{E:Ends}
def eR {X:Cx}{CX:CXT}{W:St->XK}{k:Nat}{fa:Addr}{fd:FuncData}{ps:List Str}{sp:Sp}{dvs:List V}{ds:List Value}{x:Str}{p:Pos}{t:TA}(Fn:FnOk X.prog X.w X.K X.mg X.base CX k fa fd ps sp)(hr:Room k X.A)(hg:Gl X x)(hm:X.mg x=some 2#45)(hk:G0 X.K 2#45=true)
  (hb:Binds X.K fd ps ds) (hd:Vals dvs ds) (hx:∀ (pins:List 0#18) (σ:St) (H:Hp) (s:Shared) (e:Value) (s':Shared),Inv X pins σ H s->CX X.stack H s (W σ) e s'->X.xe e s')
  (ha:PA X (e::es) t) (hdb:(x == ("__debug__":Str))=false) (he:starEach (e::es) X.env=0#74::starEach es X.env) (hpl:(backTo pos 2#5).any (·.1)=false):
  PE X 0#54 (λ σ H Q=>t σ H λ vs H1=>sp 2#41 H1 Q (W σ)):=by
 intro pins s σ H Q I h;refine G1 (gD I hg hm ?_ hdb);refine Ia (h₀:=X.base) I.ok.mod.kin hk (thn 0#66 λ us s1 ⟨vs,H1,I1,r,q⟩=>⟨I1.kIn,?_⟩) he hpl;have r2:Vals 2#41 (us++ds):=r.append hd;have hl:(us++ds).length=ps.length:=by rw[<- r2.length];exact Fn.len _ _ _ _ q
 refine IU (HD (Fn.run X.A X.stack s1 H1 ⟨us,[]⟩ (us++ds) 2#41 Q (W σ) hr I1.env0 (hb s1 us I1.kIn hl) r2 q) λ rr s' hq=>?_);cases rr with
 |error e=>exact hx pins σ H1 s1 e s' I1 hq
 |ok fl=>
  cases fl with
  |ret u=>exact I1.after hq
  |next=>exact GQ hq
  |brk=>exact GQ hq
  |cont=>exact GQ hq
def yB {k j:Nat}{fa:Addr}{fd:FuncData}{ps:List Str}{Fm:List D->R}{dds:List D}{dvs:List V}{dus:List Value}{x:Str}{p:Pos}(Fn:FnOk C.X.prog C.X.w C.X.K C.X.mg C.X.base C.CX j fa fd ps (spD C.X.K C.cls Fm ps.length))(hr:Room k C.X.A)(hj:j<=k)
  (hg:Gl C.X x) (hm:C.X.mg x=some 2#45) (hk:G0 C.X.K 2#45=true) (hb:Binds C.X.K fd ps dus) (hd:Vals dvs dus) (hdd:∀ K H,RpL K H dds dvs) (ha:SL C (e::es) fl) (hlen:autoParam ((e::es).length+dds.length=ps.length) ZF._auto_1)
  (hdb:autoParam 0#4 ZC._auto_1) (he:autoParam (starEach (e::es) C.X.env=0#36::starEach es C.X.env) ZF._auto_1) (hpl:autoParam ((backTo pos 1#46).any (·.1)=false) ZF._auto_1):
  SE C 0#54 (Dv.eCall (λ ds=>Fm (ds++dds)) fl):=by
 obtain⟨t,pa,qa,hl⟩:=ha;refine⟨_,eR (W:=C.W) (Fn.mono hj) hr hg hm hk hb hd C.pass pa hdb he hpl,λ σ H Hv ρ Q er s w=>?_⟩;refine qa.step er 1#7 w λ vs ds fr Hv1 H1 hf x1 _ rp _ w1=>?_
 refine⟨ds++dds,Hv1,?_,x1.vh,rp.append (hdd _ _),Ok.later x1 w1⟩;rw[Dz,hl ρ ds fr hf];exact hlen
def bL (X:Cx)(N:List Str)(scope:Scope)(cl:List 2#35)(L:Addr)(s₀:Shared)(H₀:Hp)(ex:List Addr):Cx:=
 { X with N:=N,s₀:=s₀,H₀:=H₀,env:=compEnvC scope cl L X.env,outer:=X.stack,ex:=ex,fn:=λ _=>false,pn:=[],xe:=λ _ _=>False }
def aT (C:Ctx)(N:List Str)(scope:Scope)(cl:List 2#35)(L:Addr)(s₀:Shared)(H₀:Hp)(ex:List Addr):Ctx where
 X:=bL C.X N scope cl L s₀ H₀ ex
 W:=λ _ _ _ _=>False
 cls:=C.cls
 CX:=C.CX
 un:=C.un
 own:=Jf
 pass:=λ _ _ _ _ _ _ _ h=>C.cxF _ _ _ _ _ h
 cxF:=C.cxF
def fV {env:GO}:∀ (names:List (Str×NameKind)) (acc:List 2#35),(∀ y∈names,y.2=.free->∃ c,env.cells.lookup y.1=some c) ->
  ∃ cl,(forIn names acc λ (x:Str×NameKind) (cs:List 2#35)=>(if (x.2 == .free)=true then do let a <- cellOf env x.1;pure (HI ((x.1,a)::cs)) else pure (HI cs):Sem (ForInStep (List 2#35))))=pure cl /\
   (∀ x c,cl.lookup x=some c->acc.lookup x=some c\/env.cells.lookup x=some c)/\(∀ y∈names,y.2=.free->∃ c,cl.lookup y.1=some c)/\(∀ x c,acc.lookup x=some c->∃ c',cl.lookup x=some c')
 |[],acc,_=>⟨acc,rfl,λ _ _ h=>.inl h,(λ _ h=>nomatch h),λ x c h=>⟨c,h⟩⟩
 | (n,k)::r,acc,h=>by
  simp only[List.forIn_cons];by_cases hk:(k == Hb)=true
  ·obtain⟨c,hc⟩:=h (n,k) Dh (by simpa using hk)
   obtain⟨cl,e,h1,h2,h3⟩:=fV r ((n,c)::acc) λ y hy=>h y 1#13
   refine⟨cl,?_,λ x d hx=>?_,λ y hy hf=>?_,λ x d hx=>?_⟩
   ·simp only[hk,if_true]
    have e2:cellOf env n=pure c:=by unfold cellOf;rw[hc]
    rw[e2];exact e
   ·rcases h1 x d hx with q|q
    ·rw[DK] at q
     cases z:x == n with
     |true=>
      rw[z] at q;have:x=n:=by simpa using z
      subst this;cases q;exact .inr hc
     |false=>rw[z] at q;exact .inl q
    ·exact .inr q
   ·rcases List.mem_cons.mp hy with rfl|hy
    ·exact h3 n c (by simp[DK])
    ·exact h2 y hy hf
   ·by_cases z:(x == n)=true
    ·exact h3 x c (by simp[DK,z])
    ·exact h3 x d (by rw[DK];simp only[Bool.not_eq_true] at z;rw[z];exact hx)
  ·obtain⟨cl,e,h1,h2,h3⟩:=fV r acc λ y hy=>h y 1#13
   refine⟨cl,?_,h1,λ y hy hf=>?_,h3⟩
   ·simp only[hk]
    exact e
   ·rcases List.mem_cons.mp hy with rfl|hy
    ·exact absurd (by simpa using hf) hk
    ·exact h2 y hy hf
def pY {env:GO}{scope:Scope}(h:∀ y∈scope.names,y.2=.free->∃ c,env.cells.lookup y.1=some c):
  ∃ cl,closureFor scope env=pure cl/\(∀ x c,cl.lookup x=some c->env.cells.lookup x=some c)/\∀ y∈scope.names,y.2=.free->∃ c,cl.lookup y.1=some c:=by
 obtain⟨cl,e,h1,h2,_⟩:=fV scope.names [] h;refine⟨cl,?_,λ x c hx=>?_,h2⟩
 ·unfold closureFor
  exact(congrArg (λ m:Sem (List 2#35)=>m >>= λ s=>pure s) e).trans rfl
 ·rcases h1 x c hx with q|q
  ·simp at q
  ·exact q
end
def oX {prog:Program}{w:World}{A:Around}{T:Result->Shared->Prop}{s:Shared}{elt target iter:Expr}{ifs:List Expr}{scope:Scope}{pos:Pos}{it acc:Value}{env:GO}(J:Nat->Shared->Prop)
  (turn:∀ n s,J n s->wpAny 0#7 A (pyNext it) (λ r s1=>match r with
   |none=>T (.ok .next) s1
   |some v=>wpAny 0#7 A (letOwnedTupleGo target it v) (λ _ s2=>wpAny 0#7 A (assign target env v) (λ _ s3=>
     wpAny 0#7 A (forIn ifs true λ c r=>if r=true then do let ok <- isTrue c env (eval c env);pure (HI ok) else pure (HI r)) (λ ok s4=>
      if ok=true then wpAny 0#7 A (eval elt env) (λ x s5=>wpAny 0#7 A (call (.builtin "list.append") [acc,x]) (λ _ s6=>∃ m,m<n/\J m s6) 1#63 s5) 1#63 s4
      else ∃ m,m<n/\J m s4) 1#63 s3) 1#63 s2) 1#63 s1) 1#63 s)
  (n:Nat) (h:J n s):codeAny 0#7 A (.compLoop (.ListComp elt [⟨target,iter,ifs,0⟩] scope pos) 0 it acc env) T s:=by
 refine codeAny_loop rfl J (λ n s hJ=>?_) n h;show wpAny _ A ((compTurn (.ListComp elt [⟨target,iter,ifs,0⟩] scope pos) 0 it acc env).onRaise (λ x=>do noteFrame x env;theTreesLotGoes x)) _ _ s
 refine wpAny_noted ?_
 rw[compTurn_list];refine GB (JI (GB (GL (turn n s hJ) (λ r s1 h1=>?_) λ _ _ z=>z.elim)));cases r with
 |none=>exact GD h1
 |some v=>
  refine GB (GL h1 (λ _ s2 h2=>GB (GL h2 (λ _ s3 h3=>GB (GL h3 (λ ok s4 h4=>?_) λ _ _ z=>z.elim)) λ _ _ z=>z.elim)) λ _ _ z=>z.elim);cases ok with
  |false=>exact GD ⟨rfl,h4⟩
  |true=>
   refine GB (GB (GL h4 (λ x s5 h5=>GB (GL h5 (λ _ s6 h6=>?_) λ _ _ z=>z.elim)) λ _ _ z=>z.elim));exact GD (GD ⟨rfl,h6⟩)
def gq {env:GO}:∀ {names:List (Str×NameKind)} {x:Str},names.lookup x=some .free ->
  (names.map λ (n,k)=>if 0#28 then (n,JK) else (n,k)).lookup x=some .cell \/
  (names.map λ (n,k)=>if 0#28 then (n,JK) else (n,k)).lookup x=some .free
 |[],_,h=>by simp at h
 | (n,k)::r,x,h=>by
  have ih:=@gq env r x;simp only[C9];cases hx:x == n with
  |true=>
   simp only[DK,hx] at h;cases h;by_cases hc:(Hb == Hb&&env.scope.kind == .function&&env.kindOf n == some .cell)=true
   ·rw[if_pos hc];left;simp[DK,hx]
   ·rw[if_neg hc];right;simp[DK,hx]
  |false=>
   simp only[DK,hx] at h;by_cases hc:0#28=true
   ·rw[if_pos hc];simp only[DK,hx];exact ih h
   ·rw[if_neg hc];simp only[DK,hx];exact ih h
def fU {env:GO}:∀ {names:List (Str×NameKind)} {x:Str} {kd:NameKind},(∀ y∈names,y.2≠.cell)->kd=.cell\/kd=.free ->
  (names.map λ (n,k)=>if 0#28 then (n,JK) else (n,k)).lookup x=some kd->(x,Hb)∈names
 |[],_,_,_,_,h=>by simp at h
 | (n,k)::r,x,kd,nc,hk,h=>by
  have ih:=@fU env r x kd (λ y hy=>nc y 1#13) hk;simp only[C9] at h;cases hx:x == n with
  |true=>
   have e:x=n:=by simpa using hx
   subst e;by_cases hc:(k == Hb&&env.scope.kind == .function&&env.kindOf x == some .cell)=true
   ·have:k=.free:=by
     simp only[Dl,beq_iff_eq] at hc;exact hc.1.1
    subst this;exact Dh
   ·rw[if_neg hc] at h
    simp only[DK,hx] at h;have e2:k=kd:=by simpa using h
    subst e2
    rcases hk with rfl|rfl
    ·exact absurd rfl (nc (x,.cell) Dh)
    ·exact Dh
  |false=>
   refine De _ (ih ?_);by_cases hc:0#28=true
   ·rw[if_pos hc] at h;simp only[DK,hx] at h;exact h
   ·rw[if_neg hc] at h;simp only[DK,hx] at h;exact h
def mem_lookup {α β:Type}[BEq α][LawfulBEq α]:∀ {l:List (α×β)} {x:α} {y:β},l.lookup x=some y->(x,y)∈l
 |[],_,_,h=>by simp at h
 | (a,b)::r,x,y,h=>by
  rw[DK] at h;cases hx:x == a with
  |true=>
   rw[hx] at h;have e:x=a:=by simpa using hx
   subst e;cases h;exact Dh
  |false=>rw[hx] at h;exact De _ (mem_lookup h)
def STs (C:Ctx)(ifs:List Expr)(f:EE):Prop:=
 ∃ t:TT,(∀ (pins:List 0#18) (s:Shared) (σ:St) (H:Hp) (Q:Bool->Hp->Prop),Inv C.X pins σ H s->t σ H Q ->
  wpAny 0#44 C.X.A (forIn ifs true λ c r=>if r=true then do let ok <- isTrue c C.X.env (eval c C.X.env);pure (HI ok) else pure (HI r)) (TP C.X pins σ Q) C.X.xe s)/\TakC C t f
def dt {C:Ctx}:STs C [] (Dv.eBl true):=
 ⟨λ _ H Q=>Q true H,λ pins s σ H Q I h=>wpAny_tests_nil ⟨H,I,h⟩,λ σ H Hv ρ Q e s q=>by
  obtain⟨b,e1,q⟩:=q.now (v:=.bl true) s cE rfl;cases e1;exact q⟩
def gc {C:Ctx}{c:Expr}{f:EE}(h:SC C c f):STs C [c] f:=by
 obtain⟨t,p,q⟩:=h;exact⟨t,λ pins s σ H Q I h=>wpAny_tests_one (p pins s σ H Q I h),q⟩
def gZ {P:Program}{w:World}{H:Hp}{h:Heap}{a:Addr}{o:HO}(x:HOk P w H h)(hn:H a=none)(new:ObjOk P w 2#34 h a o):HOk P w 2#34 h:=λ b u e=>by
 by_cases hb:b=a
 ·subst hb;rw[ai] at e;cases e;exact new
 ·rw[ag hb] at e
  exact(x b u e).stay (λ c v _ q=>q) (λ c q=>by rw[ag 2#71];exact q) λ c xs q=>by rw[ag 2#71];exact q
def yi {P:Program}{w:World}{H:Hp}{h h':Heap}{a:Addr}(x:HOk P w H h)(hn:H a=none)(k:∀ b o,b≠a->h.get? b=some o->h'.get? b=some o):HOk P w H h':=λ b u e=>by
 refine(x b u e).stay (λ c v hc q=>k c v ?_ q) (λ c q=>q) λ c xs q=>q
 rcases hc with rfl|hc
 ·exact au e hn
 ·exact au hc hn
section
variable {C:Ctx}
def vV {ρ:Dv.Env}{is:List Nat}{j:Nat}{d:D}(h:(Dv.pick ρ is)[j]?=some (some d)):∃ i,is[j]?=some i/\ρ[i]?=some (some d):=by
 unfold Dv.pick at h;rw[DD] at h;cases q:is[j]? with
 |none=>rw[q] at h;cases h
 |some i=>
  rw[q] at h;have h':(ρ[i]?).getD none=some d:=Option.some.inj h;refine⟨i,rfl,?_⟩;cases z:ρ[i]? with
  |none=>rw[z] at h';cases h'
  |some o=>rw[z] at h';exact congrArg some h'
def cR (σ:St)(is:List Nat):St:=is.map λ i=>(σ[i]?).getD none
def sQ {σ:St}{is:List Nat}{j i:Nat}{v:V}(hi:is[j]?=some i)(h:σ[i]?=some (some v)):(cR σ is)[j]?=some (some v):=by
 unfold cR;rw[DD,hi];show some ((σ[i]?).getD none)=_
 rw[h];rfl
def xB {σ:St}{is:List Nat}{j:Nat}{v:V}(h:(cR σ is)[j]?=some (some v)):∃ i,is[j]?=some i/\σ[i]?=some (some v):=by
 unfold cR at h;rw[DD] at h;cases q:is[j]? with
 |none=>rw[q] at h;cases h
 |some i=>
  rw[q] at h;have h':(σ[i]?).getD none=some v:=Option.some.inj h;refine⟨i,rfl,?_⟩;cases z:σ[i]? with
  |none=>rw[z] at h';cases h'
  |some o=>rw[z] at h';exact congrArg some h'
end
def uE {Hv1 H1 Hvn Hn Hv' H':Hp}(x:Ext Hv1 H1 Hvn Hn)(y:Ext Hv1 Hn Hv' H'):∃ Hvm,Ext Hvn Hn Hvm H'/\Same Hv' Hvm:=by
 refine⟨λ b=>match Hn b with|none=>H' b|some _=>Hvn b,⟨y.hh,λ b o q=>?_,λ b o q=>?_,λ b o q n=>?_,λ b q=>?_,y.nf⟩,λ b o q=>?_⟩
 ·show (match Hn b with|none=>H' b|some _=>Hvn b)=some o
  cases z:Hn b with
  |none=>rw[x.vh b o q] at z;cases z
  |some _=>exact q
 ·have q':(match Hn b with|none=>H' b|some _=>Hvn b)=some o:=q
  cases z:Hn b with
  |none=>rw[z] at q';exact q'
  |some u=>rw[z] at q';exact y.hh _ _ (x.vh b o q')
 ·have q':(match Hn b with|none=>H' b|some _=>Hvn b)=some o:=q
  cases z:Hn b with
  |none=>rfl
  |some u=>rw[z] at q';rw[n] at q';cases q'
 ·show (match Hn b with|none=>H' b|some _=>Hvn b)=H' b
  rw[q]
 ·show (match Hn b with|none=>H' b|some _=>Hvn b)=some o
  cases z:Hn b with
  |none=>exact y.vh b o q
  |some u=>
   cases z2:Hv1 b with
   |none=>have:=y.new b o q z2;rw[z] at this;cases this
   |some u'=>
    have h1:=y.vv b u' z2;rw[q] at h1;cases h1;exact x.vv b o z2
section
variable {C:Ctx}{elt iter:Expr}{x:Str}{px pos:Pos}{ifs:List Expr}{scope:Scope}{fs:List Str}{is:List Nat}{fi:EI}{fe fc:EE}
def rA (C:Ctx)(pins:List 0#18)(σ:St)(Q:VK)(Da L:Addr)(s5:Shared):Prop:=
 (∃ m,s5.heap.Ns L m)/\L≠C.X.env.locals/\(∀ x c,C.X.env.cells.lookup x=some c->c≠L)/\C.X.s₀.heap.objs.size<=L/\(∀ p∈C.X.pn++pins,p.1≠L) /\
  ∃ H',H' L=none/\Q (.ref Da) H'/\∀ h',(∀ b,b≠L->h'.get? b=s5.heap.get? b)->Inv C.X pins σ H' { s5 with heap:=h' }
end
section
variable {C:Ctx}{a b c e o k:Expr}{es:List Expr}{f g h:EE}{fl:EL}{F G:SS}{pos pos':Pos}{E:Ends}
def qv (n d:Nat)(o:Option Int):Dv.cutI n d o=HT.sIx n d o:=by cases o <;>rfl
def RpL.drop {K:GA}{H:Hp}:∀ {ds:List D} {vs:List V} (n:Nat),RpL K H ds vs->RpL K H (ds.drop n) (vs.drop n)
 |_,_,0,h=>h
 |[],_,n+1,h=>by unfold RpL at h;subst h;exact .nil
 |d::r,vs,n+1,h=>by
  unfold RpL at h;obtain⟨v,ws,rfl,_,h3⟩:=h;exact RpL.drop n h3
def RpL.take {K:GA}{H:Hp}:∀ {ds:List D} {vs:List V} (n:Nat),RpL K H ds vs->RpL K H (ds.take n) (vs.take n)
 |_,_,0,_=>.nil
 |[],_,n+1,h=>by unfold RpL at h;subst h;exact .nil
 |d::r,vs,n+1,h=>by
  unfold RpL at h;obtain⟨v,ws,rfl,h2,h3⟩:=h;exact .cons h2 (RpL.take n h3)
def RpL.cut {K:GA}{H:Hp}{ds:List D}{vs:List V}(h:RpL K H ds vs)(lo hi:Option Int):RpL K H (Dv.cutL ds lo hi) (uJ vs lo hi):=by
 unfold Dv.cutL uJ;rw[h.length,qv,qv];exact(h.drop _).take _
def SO (C:Ctx)(e:Option Expr)(f:Option EE):Prop:=
 ∃ t:TO,PO C.X e t/\∀ σ H Hv ρ (Q:VK) (T:Option Int->Hp->Prop) (k:Option Int->R) Hv1 H1,EnvR C.X.K Hv ρ σ->Ext Hv H Hv1 H1->Ok C.X.K Hv H (C.W σ) C.cls (Dv.ePart f ρ k) Q ->
  (∀ i Hv2 H2,Ext Hv H Hv2 H2->Ext Hv1 H1 Hv2 H2->Ok C.X.K Hv H (C.W σ) C.cls (k i) Q->T i H2)->t σ H1 T
def fu:SO C none none:=⟨_,xV,λ σ H Hv ρ Q T k Hv1 H1 e x q n=>n none Hv1 H1 x (.refl x.vh) q⟩
def fk (he:SE C e f):SO C (some e) (some f):=by
 obtain⟨t,p,q⟩:=he;refine⟨_,sG p,λ σ H Hv ρ Q T k Hv1 H1 er x w n=>?_⟩;refine Tak.step q er x w λ v d fr Hv2 H2 hf x2 y2 rp _ w2=>?_
 cases d with
 |int i=>
  unfold Rp at rp;exact⟨i,rp,n (some i) Hv2 H2 x2 y2 w2⟩
 |_=>exact Zf w2
def dv {lo hi:Option Expr}{fl fh:Option EE}{p2:Pos}(he:SE C e f)(hl:SO C lo fl)(hh:SO C hi fh):SE C (.Subscript e (.Slice lo hi none p2) pos) (Dv.eSlice f fl fh):=by
 obtain⟨t,p,q⟩:=he;obtain⟨tl,pl,ql⟩:=hl;obtain⟨th,ph,qh⟩:=hh;refine⟨_,vX yd p pl ph,λ σ H Hv ρ Q er s w=>?_⟩;refine Tak.step q er 1#7 w λ v d fr Hv1 H1 _ x1 _ rp1 n1 w1=>?_
 refine ql σ H Hv ρ Q _ _ Hv1 H1 er x1 w1 λ i Hv2 H2 x2 y2 w2=>?_
 refine qh σ H Hv ρ Q _ _ Hv2 H2 er x2 w2 λ j Hv3 H3 x3 y3 w3=>?_
 have y13:=y2.trans y3;cases d with
 |lst ds=>
  cases fr with
  |true=>
   have rn:=(n1 rfl).same (Hnew.mono 1#14 y13.hh);unfold Rp at rn;obtain⟨l,vs,rfl,h1,h2⟩:=rn;have h1':SqX C.X.K H3 l vs:=by
    rcases h1 with h1|⟨its,n,e,_⟩
    ·exact .inl 1#47
    ·simp at e
   exact⟨l,vs,rfl,h1'.seq,λ p hp=>Ok.newL (fr:=true || Dv.flatL (Dv.cutL ds i j)) w3 x3 (((RpL.frag h2).same x3.news).cut i j) (λ _=>h2.cut i j) p hp⟩
  |false=>
   have rp:=rp1.same y13.vv;unfold Rp at rp;obtain⟨l,vs,rfl,h1,h2⟩:=rp;exact⟨l,vs,rfl,(h1.same x3.vh).seq,λ p hp=>Ok.newL (fr:=false || Dv.flatL (Dv.cutL ds i j)) w3 x3 (h2.cut i j) (λ z=>(h2.cut i j).flat 1#82) p hp⟩
 |_=>exact Zf w3
def tyD:D->String
 |.non=>"NoneType"
 |.bl _=>"bool"
 |.int _=>"int"
 |.str _=>"str"
 |.lst _=>"list"
 |.tup _=>"tuple"
 |.exn _=>"BaseException"
 |.raw _=>"BaseException"
 |.tab _=>"BaseException"
 |.ins _ _=>"BaseException"
 |.dct _ _=>"dict"
def w9 {X:Cx}:cP X (.builtin "isinstance") (λ xs H Q=>∃ x d T b,xs=[x,.ty T]/\Rp X.K H d x/\Dv.noTy d=false/\G6 X.K (.type (tyD d)) (.type T)=some b/\Q (.bl b) H):=by
 intro pins s σ H xs us Q I r h;obtain⟨x,d,T,b,rfl,rp,hnx,hk,q⟩:=h;obtain⟨u,w',rfl,ru,rw'⟩:=vals2 r;have rw2:w'=GR T:=rw';subst rw2;have fin:∀ tk,EP X pins σ Q (.bool b) { s with toks:=tk }:=λ tk=>⟨.bl b,H,I.tok tk,rfl,q⟩
 cases d with
 |non=>unfold Rp at rp;subst rp;cases ru;exact Hf PySem.W.kitx_none I.kIn Hq hk 0#65 fin
 |bl y=>unfold Rp at rp;subst rp;cases ru;exact Hf PySem.W.kitx_bool I.kIn Hq hk 0#65 fin
 |int i=>unfold Rp at rp;subst rp;obtain⟨t,rfl⟩:=ru;exact Hf PySem.W.kitx_int I.kIn Hq hk 0#65 fin
 |str y=>unfold Rp at rp;subst rp;obtain⟨t,rfl⟩:=ru;exact Hf PySem.W.kitx_str I.kIn Hq hk 0#65 fin
 |lst ds=>
  unfold Rp at rp;obtain⟨l,vs,rfl,h1,h2⟩:=rp;cases ru;obtain⟨its,n,rv,e,_⟩:=Inv.listX I h1;exact Hf PySem.W.kitx_list I.kIn ⟨_,e,rfl⟩ hk 0#65 fin
 |tup ds=>
  unfold Rp at rp;obtain⟨l,vs,rfl,h1,h2⟩:=rp;cases ru;obtain⟨_,its,rv,ob,e,hc,n,hd⟩:=h1.ok I.hok;exact Hf PySem.W.kitx_tuple I.kIn ⟨ob,e,hc⟩ hk 0#65 fin
 |exn c=>exact absurd hnx 1#83
 |raw c=>exact absurd hnx 1#83
 |ins c d=>exact absurd hnx 1#83
 |tab c=>exact absurd hnx 1#83
 |dct ks ds=>
  unfold Rp at rp;obtain⟨l,vs,rfl,h0,h1,h2⟩:=rp;cases ru;exact Hf PySem.W.kitx_dict I.kIn (Bq I (.inl ⟨_,h1⟩)).1 hk 0#65 fin
def A1 {x:Str}{T:String}{p p2:Pos}{F:D->Bool->R}(β:D->Bool)(hF:∀ d fr,Dv.noTy d=false->F d fr=.ok (.bl (β d)) true)(hX:∀ d fr,Dv.noTy d=true->F d fr=.bad)(hβ:∀ K d,G6 K (.type (tyD d)) (.type T)=some (β d))(hg:Gl C.X "isinstance")(hm:C.X.mg "isinstance"=none)(hgx:Gl C.X x)(hmx:C.X.mg x=none)
  (hvx:bootBuiltins x=some (.type T)) (ha:SE C a f) (hn:autoParam 1#69 ZC._auto_1) (hdb:autoParam 0#4 ZC._auto_1) (he:autoParam (starEach [a,.Name x p2] C.X.env=1#36::starEach [.Name x p2] C.X.env) ZF._auto_1)
  (he2:autoParam (starEach [.Name x p2] C.X.env=[(false,eval (.Name x p2) C.X.env)]) ZF._auto_1):SE C (.Call 1#79 [a,.Name x p2] [] pos) (Dv.eB1 F f):=by
 obtain⟨t,pa,qa⟩:=ha;refine⟨_,bu w9 hg hm 0#6 (aq pa (aq (rL (v:=.ty T) hgx hmx hvx rfl hn hdb) ay he2) he) 0#2 0#2 he (by rw[he2];rfl),λ σ H Hv ρ Q e s w=>?_⟩;refine qa.step e 1#7 w λ v d fr Hv1 H1 _ x1 _ rp1 _ q1=>?_
 by_cases hd:Dv.noTy d=true
 ·rw[hX d fr hd] at q1
  exact q1.elim
 ·have hd':Dv.noTy d=false:=by simpa using hd
  rw[hF d fr hd'] at q1;exact⟨v,d,T,β d,rfl,rp1.same x1.vh,hd',hβ _ d,q1.at x1 cE rfl⟩
def zy:D->Bool
 |.bl _=>true
 |_=>false
def xy (K:GA)(d:D):G6 K (.type (tyD d)) (.type "bool")=some (zy d):=by cases d <;>rfl
def pM (d:D)(fr:Bool)(h:Dv.noTy d=false):Dv.isBoolD d fr=.ok (.bl (zy d)) true:=by cases d <;>first|rfl|exact absurd h 1#83
def sL {X:Cx}:B2 X (λ x y H Q=>∃ p xs i v,x=.ref p/\y=.int i/\0<=i/\SqL X.K H p xs/\atI xs i=some v/\Q v H):=by
 intro pins s σ H o i ov iv Q I ro ri h;obtain⟨p,xs,k,v,rfl,rfl,h0,hq,he,q⟩:=h;cases ro;obtain⟨t,rfl⟩:=ri;obtain⟨its,r,pl,hz⟩:=I.list hq;obtain⟨j,h1,h2,h3,h4,h5⟩:=iR he;obtain⟨w,ew,rw'⟩:=r.get h2;have hn:=jU;have hj:k.toNat=j:=by
  rw[Jm h0 h5] at h1;exact Option.some.inj h1
 exact wpAny_getItem_list pl.isList h0 ⋯ (by rw[hj];simpa using ew) ⟨v,H,I,rw',q⟩
def wz {i:Nat}{x:Str}{px kpos:Pos}(he:SE C e f)(hk:SE C k g)(hN:autoParam 1#3 ZF._auto_1)(hv:autoParam 0#58 ZH._auto_1)
    (hd:autoParam 0#4 ZC._auto_1) (hcd:autoParam 0#16 ZC._auto_1)
    (ha:autoParam (∀ v,assign (.Subscript 0#21 k kpos) C.X.env v=(do
      let ov <- holding [v] (eval 0#21 C.X.env)
      let iv <- holding [v,ov] (eval k C.X.env)
      standAt kpos
      holding [v,ov,iv] (setItem ov iv v)
      release [v,ov,iv] [])) ZE._auto_1)
    (hs:autoParam (swapsWithSole [.Subscript 0#21 k kpos] e pos.line C.X.env=pure false) ZF._auto_1) (hw:autoParam (swappedStores [.Subscript 0#21 k kpos] e C.X.env=pure none) ZF._auto_1)
    (h1:autoParam ((assignEach [.Subscript 0#21 k kpos] C.X.env).map (·.2)=[assign (.Subscript 0#21 k kpos) C.X.env]) ZF._auto_1):SSt C (.Assign [.Subscript 0#21 k kpos] e pos) (Dv.sPut i g f):=by
  obtain⟨t,p,q⟩:=he;obtain⟨t2,p2,q2⟩:=hk;refine⟨_,xE p (u4 0#97 p2 set_list ha) hs hw h1,λ Hv₀ H₀ E σ H st ⟨Hc,O,r⟩ w=>?_⟩;unfold Dv.sPut at w;cases hi:st[i]? with
  |none=>rw[hi] at w;exact Zf w
  |some s=>
    rw[hi] at w;cases s with
    |no=>exact Zf w
    |sh d=>exact Zf w
    |dp d=>exact Zf w
    |jk n m=>exact Zf w
    |ow d0=>
     cases d0 with
     |non=>exact Zf w
     |bl _=>exact Zf w
     |int _=>exact Zf w
     |str _=>exact Zf w
     |tup _=>exact Zf w
     |exn _=>exact Zf w
     |raw _=>exact Zf w
     |ins _ _=>exact Zf w
     |tab _=>exact Zf w
     |dct _ _=>exact Zf w
     |lst ds=>
      obtain⟨a,vs,h1,h2,h5⟩:=r.own hi;refine q.all r 0#60 1#25 λ d fr v Hv' H' hf x r' rp n=>?_
      · simp only[hf] at w;exact w σ H' ⟨Hc,O,r'⟩
      · simp only[hf] at w;exact w
      · simp only[hf] at w
        refine⟨_,h1,?_⟩;refine q2.all r' (λ c hg H2 r2=>?_) (λ hg=>?_) λ d2 fr2 v2 Hv2 H2 hg x2 r2 rp2 n2=>?_
        · simp only[hg] at w;exact w σ H2 ⟨Hc,O,r2⟩
        · simp only[hg] at w;exact w
        · simp only[hg] at w
          cases d2 with
          |int j=>
            unfold Rp at rp2;by_cases z:(Dv.scal d&&decide (0<=j)&&decide (j<ds.length))=true
            · simp only[z,if_true] at w
              simp only[Dl,decide_eq_true_eq] at z;have hl:=h5.length;obtain⟨O',r3⟩:=r2.put hi h1 (h5.set (rp.scal z.1.1) j.toNat);refine⟨a,vs,j,j.toNat,rfl,rp2,x2.hh _ _ (x.hh _ _ h2),?_,w σ _ ⟨Hc,O',r3⟩⟩;unfold ixN;rw[if_pos z.1.2,if_pos (by rw[hl];exact z.2)]
            · simp only[z] at w
              exact Zf w
          |_=>exact Zf w
def SGs (C:Ctx)(ts:List Expr)(xs:List Nat):Prop:=
 ∃ t:TGs,PGs C.X ts t/\∀ Hv₀ H₀ Hc O H σ s ds vs T,RelC C.X.K Hv₀ H₀ Hc O s σ H->RpL C.X.K Hc ds vs->ds.length=xs.length->(∀ σ',RelC C.X.K Hv₀ H₀ Hc O (Dv.setAll xs ds s) σ' H->T σ' H)->t vs σ H T
def wZ:SGs C [] []:=⟨_,rC,λ Hv₀ H₀ Hc O H σ s ds vs T r rp hl h=>by
 cases ds with
 |nil=>unfold RpL at rp;exact⟨rp,h σ r⟩
 |cons d ds=>cases hl⟩
def iX {i:Nat}{x:Str}{ts:List Expr}{xs:List Nat}(hs:SGs C ts xs)(hN:C.X.N.Nodup)(hi:C.X.N[i]?=some x)(hx:Loc C.X.env.scope x)(hf:autoParam 0#8 ZB._auto_1)
  (ha:autoParam ((assignEach (.Name x pos::ts) C.X.env).map (·.2)=assign 1#41 C.X.env::(assignEach ts C.X.env).map (·.2)) ZF._auto_1):SGs C (.Name x pos::ts) (i::xs):=by
 obtain⟨t,p,q⟩:=hs;refine⟨_,mK (gI hN hi hx hf) p ha,λ Hv₀ H₀ Hc O H σ s ds vs T r rp hl h=>?_⟩;cases ds with
 |nil=>cases hl
 |cons d ds=>
  unfold RpL at rp;obtain⟨v,ws,rfl,h1,h2⟩:=rp;exact⟨v,ws,rfl,q Hv₀ H₀ Hc O H _ _ ds ws T (r.setSh h1) h2 1#67 h⟩
end
def Inv.but {X:Cx}{pins:List (Addr×Obj)}{σ:St}{H:Hp}{s:Shared}{ch:List Addr}{h':Heap}(I:Inv X pins σ H s)(hf:∀ b∈ch,jH X pins H b)(k:∀ b o,b∉ch->s.heap.get? b=some o->h'.get? b=some o):Inv X pins σ H { s with heap:=h' }:=by
 have nch:∀ b u,H b=some u->b∉ch:=λ b u e hb=>by rw[(hf b hb).1] at e;cases e
 refine I.step (g':=s.gens) (d':=s.drawn) (t':=s.toks) (ch:=ch) (λ b hb=>⟨(hf b hb).2.2.2.1,(hf b hb).2.1,(hf b hb).2.2.2.2.1,(hf b hb).2.2.2.2.2⟩) (λ b o _ _ hc e _=>k b o hc e) (λ b o _ _ hc e _=>⟨o.slots,k b o hc e⟩) (λ _ _ _ _ n=>n)
  (λ b o hc e=>⟨o,k b o hc e⟩) (λ _ _ e=>e) (λ _ _ _ e=>e) (λ b ps e=>⟨#[],by rw[e];simp⟩) (λ m hm=>?_) (λ b u e=>?_) I.bare
 ·obtain⟨o,es,ep,ho,r⟩:=hm
  exact⟨o,es,ep,k _ _ (λ hb=>(hf _ hb).2.1 rfl) ho,r⟩
 ·refine(I.hok b u e).stay (λ c v hc q=>k c v ?_ q) (λ c q=>q) λ c xs q=>q
  rcases hc with rfl|hc
  ·exact nch _ u e
  ·exact nch _ _ hc
def xf {C:Ctx}{ts:List Expr}{xs:List Nat}{kt:Nat}{tpos:Pos}(hg:SGs C ts xs)(hl:ts.length=xs.length)(hn:autoParam ((assignEach ts C.X.env).length=ts.length) ZF._auto_1)(hst:autoParam ((assignEach ts C.X.env).findIdx? (·.1)=none) ZF._auto_1)(hcl:autoParam 0#61 ZF._auto_1):
  SG C (.Tuple ts kt tpos) (Dv.tupTo xs):=by
 obtain⟨g,pg,qg⟩:=hg;refine⟨_,uT hcl pg hn hst,λ Hv₀ H₀ Hc O H σ s s' d v T r rp e h=>?_⟩;unfold Dv.tupTo at e;cases d with
 |tup ds=>
  by_cases hz:ds.length=xs.length
  ·simp only[hz,if_true] at e
   cases e;unfold Rp at rp;obtain⟨a,vs,rfl,h2,h3⟩:=rp;exact⟨a,vs,rfl,.inl (Rd.same r.ch h2),by rw[h3.length,hz,hl],qg Hv₀ H₀ Hc O H σ s ds vs _ r h3 hz h⟩
  ·simp only[hz,if_false] at e
   cases e
 |_=>cases e
section
variable {C:Ctx}{a b c e k:Expr}{f g h:EE}{pos pos':Pos}
def rR {H H' Hv Hv':Hp}{es:List D}{v:V}(x:Ext Hv H Hv' H')(rn:Rp [] 2#50 2#76 v):∃ b zs,v=.ref b/\H' b=some (.lst zs)/\H b=none/\RpL [] 2#50 es zs:=by
 unfold Rp at rn;obtain⟨a,vs,rfl,h1,h2⟩:=rn;have h1':Hnew H H' a=some 1#48:=by
  rcases h1 with (h1|⟨o,h1⟩)|⟨its,m,e,_⟩
  ·exact h1
  ·exfalso
   have hn:H a=none:=by
    unfold Hnew at h1;cases q:H a with
    |none=>rfl
    |some u=>rw[q] at h1;cases h1
   exact x.nf a o _ hn (Hnew.sub a _ h1)
  ·simp at e
 have hn:H a=none:=by
  unfold Hnew at h1';cases q:H a with
  |none=>rfl
  |some u=>rw[q] at h1';cases h1'
 exact⟨a,vs,rfl,Hnew.sub a _ h1',hn,h2⟩
end
section
variable {C:Ctx}{a b c e:Expr}{f g h:EE}{pos:Pos}
def bJ (ha:SE C a f)(hb:SE C b g):SE C (.BinOp a .Add b pos) (Dv.eOp .add f g):=jI A9 ha hb
def eB (ha:SE C a f)(hb:SE C b g):SE C (.BinOp a .Sub b pos) (Dv.eOp .sub f g):=jI AU ha hb
def dX (ha:SE C a f)(hb:SE C b g):SE C (.BinOp a .Mult b pos) (Dv.eOp .mul f g):=jI Bf ha hb
def bT (ha:SE C a f)(hb:SE C b g):SE C (.BinOp a .Mod b pos) (Dv.eOp .mod f g):=jI Bz ha hb
def eZ (ha:SE C a f)(hb:SE C b g):SE C (.BinOp a .FloorDiv b pos) (Dv.eOp .fdiv f g):=jI yI ha hb
def nJ (ha:SE C a f)(hb:SE C b g):SE C (.Compare a [.Eq] [b] pos) (Dv.eCm .eq f g):=Bi os_eq ha hb 1#91
def wD (ha:SE C a f)(hb:SE C b g):SC C (.Compare a [.Lt] [b] pos) (Dv.eCm .lt f g):=dN Cr ha hb 1#91
def Cv (ha:SE C a f)(hb:SE C b g):SC C (.Compare a [.LtE] [b] pos) (Dv.eCm .le f g):=dN BM ha hb 1#91
def rB (ha:SE C a f)(hb:SE C b g):SC C (.Compare a [.Gt] [b] pos) (Dv.eCm .gt f g):=dN BQ ha hb 1#91
def Cu (ha:SE C a f)(hb:SE C b g):SC C (.Compare a [.GtE] [b] pos) (Dv.eCm .ge f g):=dN BD ha hb 1#91
def jK (ha:SE C a f)(hb:SE C b g):SC C (.Compare a [.Eq] [b] pos) (Dv.eCm .eq f g):=dN os_eq ha hb 1#91
def jy (ha:SE C a f)(hb:SE C b g):SC C (.Compare a [.NotEq] [b] pos) (Dv.eCm .ne f g):=dN BE ha hb 1#91
def CD (ha:SE C a f)(hb:SE C b g)(hm:autoParam (behindInMarks .In b=false) ZL._auto_1):SC C (.Compare a [.In] [b] pos) (Dv.eCm .isin f g):=dN Co ha hb hm
def wM {x:Str}{i:Int}{t:Tok}(hg:Gl C.X x)(hm:C.X.mg x=some 2#77)(hd:autoParam 0#4 ZC._auto_1):SE C 1#41 (Dv.eInt i):=
 ⟨_,gL (v:=.int i) hg hm ⟨t,rfl⟩ hd,λ _ _ _ _ _ _ s q=>q.now (v:=.int i) s cm rfl⟩
def cn {p:Pos}(hm:C.X.mg "len"=none)(hg:Gl C.X "len")(ha:SE C a f)(he:autoParam 0#9 ZF._auto_1):SE C (.Call (.Name "len" p) [a] [] pos) (Dv.eB1 Dv.lenD f):=kB AQ hg hm Hm ha 0#2 0#2 he
def kx {p:Pos}(hm:C.X.mg "sorted"=none)(hg:Gl C.X "sorted")(ha:SE C a f)(he:autoParam 0#9 ZF._auto_1):SE C (.Call (.Name "sorted" p) [a] [] pos) (Dv.eB1 Dv.sortedD f):=kB uz hg hm Ie ha 0#2 0#2 he
def rO {p:Pos}(hm:C.X.mg "list"=none)(hg:Gl C.X "list")(ha:SE C a f)(he:autoParam 0#9 ZF._auto_1):SE C (.Call (.Name "list" p) [a] [] pos) (Dv.eB1 Dv.listD f):=zF yK hg hm 0#6 ha 0#2 0#2 he
def uI {p p2:Pos}(hm:C.X.mg "isinstance"=none)(hmx:C.X.mg "bool"=none)(hg:Gl C.X "isinstance")(hgx:Gl C.X "bool")(ha:SE C a f)(he:autoParam (starEach [a,.Name "bool" p2] C.X.env=1#36::starEach [.Name "bool" p2] C.X.env) ZF._auto_1)
  (he2:autoParam (starEach [.Name "bool" p2] C.X.env=[(false,eval (.Name "bool" p2) C.X.env)]) ZF._auto_1):SE C (.Call 1#79 [a,.Name "bool" p2] [] pos) (Dv.eB1 Dv.isBoolD f):=A1 _ pM (λ d fr h=>by cases d <;>first|rfl|exact absurd h 1#83) xy hg hm hgx hmx 0#6 ha 0#2 0#2 he he2
end
structure Df (K:GA)(mg:Str->Option Value)(x:Str)(st:Stmt)(ps:List Str)(f:Addr)(fd:FuncData):Prop where
 m:mg x=some (.ref f)
 kp:G0 K (.ref f)=true
 ex:∃ (oc:Value) (od:Option Addr) (dV kV doc pm:Value) (an:Option Addr) (cdv ct:Value) (osl:Array 0#82),
  fd=GJ x x (aL st) (aB st) (af st) dV kV doc pm an cdv ct/\K.lookup f=some ⟨oc,od,.func fd,osl⟩/\G4 K cdv x=true
 bd:Binds K fd ps []
section
variable {P:Program}{w:World}{K:GA}{mg:Str->Option Value}{base:Heap}{CX:CXT}{cls:String->Value}
def Df.ok (hC:CXok P w CX){x:Str}{st:Stmt}{f:Addr}{fd:FuncData}{N ps:List Str}{k:Nat}{body:SS}(d:Df K mg x st ps f fd)(S:FnScope N ps (af st))
  (hbody:∀ (cdv:Value) (A:Around) (outer:List GO) (s:Shared) (H:Hp) (E:XK) (hr:Room k 0#75),SSs (cX hC cls K mg base N x (af st) f cdv A outer s H E hr) (aB st) body):
  FnOk P w K mg base CX (k+1) f fd ps (spD K cls (Dv.fn N.length body) ps.length):=by
 obtain⟨oc,od,dV,kV,doc,pm,an,cdv,ct,osl,rfl,lk,hcd⟩:=d.ex;exact Cd hC cls oc od dV kV doc pm an cdv ct osl lk hcd S (hbody cdv)
def zC {x:Str}{st:Stmt}{ps:List Str}{f:Addr}{oc:Value}{od an:Option Addr}{osl:Array 0#82}{dV kV doc pm cdv ct:Value}(m:mg x=some (.ref f))(l:K.lookup f=some ⟨oc,od,.func 0#26,osl⟩)
  (c:G4 K cdv x=true) (k:G0 K (.ref f)=true)
  (h:∀ (kV doc pm:Value) (an:Option Addr) (cdv ct:Value) (us:List Value),us.length=ps.length->bindArgs 0#26 ⟨us,[]⟩=pure 2#2):
  Df K mg x st ps f 0#26:=⟨m,k,⟨oc,od,dV,kV,doc,pm,an,cdv,ct,osl,rfl,l,c⟩,.all (h kV doc pm an cdv ct)⟩
end
def A2 {K:GA}{mg:Str->Option Value}{x:Str}{st:Stmt}{ps:List Str}{f:Addr}{oc:Value}{od an:Option Addr}{osl:Array 0#82}{dV kV doc pm cdv ct:Value}(m:mg x=some (.ref f))(l:K.lookup f=some ⟨oc,od,.func 0#26,osl⟩)
  (c:G4 K cdv x=true) (k:G0 K (.ref f)=true) (bd:Binds K 0#26 ps []):
  Df K mg x st ps f 0#26:=⟨m,k,⟨oc,od,dV,kV,doc,pm,an,cdv,ct,osl,rfl,l,c⟩,bd⟩
def aH {C:Ctx}{e:Expr}{es:List Expr}{fl:EL}{k j:Nat}{fa:Addr}{fd:FuncData}{st:Stmt}{ps:List Str}{Fm:List D->R}{x:Str}{p pos:Pos}(d:Df C.X.K C.X.mg x st ps fa fd)(Fn:FnOk C.X.prog C.X.w C.X.K C.X.mg C.X.base C.CX j fa fd ps (spD C.X.K C.cls Fm ps.length))(hr:Room k C.X.A)(hj:j<=k)
  (hg:Gl C.X x) (ha:SL C (e::es) fl) (hlen:autoParam 1#43 ZF._auto_1) (hdb:autoParam 0#4 ZC._auto_1) (he:autoParam (starEach (e::es) C.X.env=0#36::starEach es C.X.env) ZF._auto_1) (hpl:autoParam ((backTo pos 1#46).any (·.1)=false) ZF._auto_1):
  SE C 0#54 (Dv.eCall Fm fl):=by
 have q:=yB (pos:=pos) (p:=p) (dds:=[]) (dvs:=[]) (dus:=[]) Fn hr hj hg d.m d.kp d.bd .nil (λ _ _=>.nil) ha (by simpa using hlen) hdb he hpl;have e1:(λ ds=>Fm (ds++[]))=Fm:=by funext ds;rw[DU]
 rw[e1] at q;exact q
def Df.is {P:Program}{w:World}{K:GA}{mg:Str->Option Value}{base:Heap}{CX:CXT}{cls:String->Value}(hC:CXok P w CX){x:Str}{st:Stmt}{f:Addr}{fd:FuncData}{ps:List Str}{F:List D->R}{m j:Nat}(N:List Str)(k:Nat)(body:SS)(d:Df K mg x st ps f fd)(S:FnScope N ps (af st))
  (hj:j=k+1) (hm:m=ps.length) (hF:F=Dv.fn N.length body)
  (hbody:∀ (cdv:Value) (A:Around) (outer:List GO) (s:Shared) (H:Hp) (E:XK) (hr:Room k 0#75),SSs (cX hC cls K mg base N x (af st) f cdv A outer s H E hr) (aB st) body):
  FnOk P w K mg base CX j f fd ps (spD K cls F m):=by
 subst hj hm hF;exact d.ok hC S hbody
structure Fly (P:Program)(w:World)(outer:List GO)(H:Hp)(s:Shared)(a:Addr)(cls:Value)(H':Hp)(B:Heap)(t:Addr)(s':Shared):Prop where
 os:s'.os=s.os
 bare:AllBare s'.gens
 fl:Heap.FlyingW B outer a cls (.ref t) s'.heap
 keepB:∀ b o,s.heap.get? b=some o->H b=none->b∉frs outer->B.get? b=some o
 thereB:∀ b o,s.heap.get? b=some o->b∉frs outer->∃ o',B.get? b=some o'
 slot:∀ b o,s.heap.get? b=some o->H b=none->b∈frs outer->∃ sl,s'.heap.get? b=some { o with slots:=sl }
 free:∀ b o,s.heap.get? b=some o->H b=none->H' b=none
 tups:∀ b xs,H b=some 2#24->H' b=some 2#24
 frzs:∀ b o u,H b=some 1#39->H' b=some 1#39
 tbls:∀ b ps,H b=some (.tbl ps)->∃ more,H' b=some (.tbl (ps++more))
 hokB:HOk P w H' B
def CXe (P:Program)(w:World):CXT:=λ outer H s E e s'=>∃ a cls H' B t,e=.ref a/\Fly P w outer H s a cls H' B t s'/\E cls none H'
def sj {P:Program}{w:World}{H:Hp}{h h':Heap}(x:HOk P w H h)(k:∀ b u,H b≠none->h.get? b=some u->h'.get? b=some u):HOk P w H h':=λ a o e=>
 (x a o e).stay (λ b u hb q=>k b u (by
  rcases hb with rfl|hb
  ·rw[e];exact λ z=>nomatch z
  ·rw[hb];exact λ z=>nomatch z) q) (λ _ q=>q) λ _ _ q=>q
def cz {B h:Heap}{l:List GO}{b:Addr}{o:Obj}(f:h.FunFrames B l)(hb:b∈frs l)(e:h.get? b=some o):∀ vs,o.data≠.fields vs:=by
 obtain⟨_,o',e',n⟩:=f.mem hb;rw[e] at e';cases e';exact n
section
variable {P:Program}{w:World}{K:GA}{mg:Str->Option Value}{base:Heap}{N:List Str}{qual:Str}{scope:Scope}{f:Addr}{cd:Value}{A:Around}{outer:List GO}{s:Shared}{H:Hp}{E:XK}
def cT {b:Addr}{o:Obj}(e:s.heap.get? b=some o)(hb:b∉frs outer):b∉frs (envOfC qual scope s.heap.objs.size f cd::outer):=λ m=>by
 have m':b∈s.heap.objs.size::frs outer:=m
 rcases List.mem_cons.mp m' with rfl|m'
 ·exact absurd (GE e) (D0 _)
 ·exact hb m'
def jV {b:Addr}(hb:b∈frs outer):b∈frs (envOfC qual scope s.heap.objs.size f cd::outer):=De (s.heap.objs.size) hb
def tW (pins:List (Addr×Obj))(σ:St)(H1:Hp)(s1:Shared)(e:Value)(s':Shared)(I:Inv 0#29 pins σ H1 s1)
  (h:CXe P w (cF 0#24 P w K mg base N qual scope f cd A outer s H E).stack H1 s1 E e s'):(cF 0#24 P w K mg base N qual scope f cd A outer s H E).xe e s':=by
 obtain⟨a,cls,H',B,t,rfl,F,q⟩:=h;have noex:∀ b:Addr,b∉(cF 0#24 P w K mg base N qual scope f cd A outer s H E).ex:=λ b z=>absurd (show b∈([]:List Addr) from z) 0#5
 refine wpAny_leaves_onW (L:=s.heap.objs.size) I.ok.frames rfl F.fl λ h' x1 x2=>?_
 refine⟨a,cls,H',B,t,rfl,⟨F.os.trans I.os,F.bare,x1,λ b o e n hb=>?_,λ b o e hb=>?_,λ b o e n hb=>?_,λ b o e n=>?_,λ b xs e=>?_,λ b o u e=>?_,λ b ps e=>?_,F.hokB⟩,q⟩
 ·exact F.keepB b o (I.base.keep b o e n hb (noex b)) (I.base.free b o e n (noex b)) (cT e hb)
 ·obtain⟨o1,e1⟩:=I.base.there b o e (noex b)
  exact F.thereB b o1 e1 (cT e hb)
 ·obtain⟨sl,e1⟩:=I.base.slot b o e n hb (noex b)
  obtain⟨sl2,e2⟩:=F.slot b _ e1 (I.base.free b o e n (noex b)) (jV hb);obtain⟨sl3,e3⟩:=x2 b _ e2 (cz F.fl.2.2.1 (jV hb) e2);exact⟨sl3,e3⟩
 ·obtain⟨o1,e1⟩:=I.base.there b o e (noex b)
  exact F.free b o1 e1 (I.base.free b o e n (noex b))
 ·exact F.tups b xs (I.base.tups b xs e)
 ·exact F.frzs b o u (I.base.frzs b o u e)
 ·obtain⟨m1,e1⟩:=I.base.tbls b ps e
  obtain⟨m2,e2⟩:=F.tbls b _ e1;exact⟨m1++m2,by rw[e2,JY]⟩
def cxe_ok {P:Program}{w:World}:CXok P w (CXe P w):=⟨λ _ _ _ _ _ ⟨_,_,_,_,_,_,_,q⟩=>q,λ _ _ _ _ _ _ _ _ _ _ _ _ _ pins σ H1 s1 e s' I h=>tW pins σ H1 s1 e s' I h⟩
def nq {pins:List (Addr×Obj)}{σ:St}{H1:Hp}{s1:Shared}{h':Heap}{e:Addr}{cls:Value}{vs:List Value}(I:Inv 0#29 pins σ H1 s1)
  (hx:Heap.MadeExcOf s1.heap h' e cls vs) (hE:E cls none H1):(cF 0#24 P w K mg base N qual scope f cd A outer s H E).xe (.ref e) { s1 with heap:=h' }:=by
 have noex:∀ b:Addr,b∉(cF 0#24 P w K mg base N qual scope f cd A outer s H E).ex:=λ b z=>absurd (show b∈([]:List Addr) from z) 0#5
 have hfr:s1.heap.FunFrames (Jb s1.heap (frs (envOfC qual scope s.heap.objs.size f cd::outer))) (envOfC qual scope s.heap.objs.size f cd::outer):=
  PySem.W.funFrames_hide I.stack λ env he b hb=>List.mem_filterMap.mpr ⟨env,he,hb⟩
 refine wpAny_leaves_madeW (L:=s.heap.objs.size) (base:=Jb s1.heap (frs (envOfC qual scope s.heap.objs.size f cd::outer))) I.ok.frames rfl (λ b o q=>JX _ q) hfr hx λ h2 t x1 x2 x3 x4=>?_
 refine⟨e,cls,H1,_,t,rfl,⟨I.os,I.bare,x1,λ b o q n hb=>?_,λ b o q hb=>?_,λ b o q n hb=>?_,λ b o q n=>I.base.free b o q n (noex b),λ b xs q=>I.base.tups b xs q,λ b o u q=>I.base.frzs b o u q,λ b ps q=>I.base.tbls b ps q,?_⟩,hE⟩
 ·exact HX _ (I.base.keep b o q n hb (noex b)) (cT q hb)
 ·obtain⟨o1,e1⟩:=I.base.there b o q (noex b)
  exact⟨o1,HX _ e1 (cT q hb)⟩
 ·obtain⟨sl,e1⟩:=I.base.slot b o q n hb (noex b)
  obtain⟨sl2,e2⟩:=x4 b _ (hx.keeps _ _ e1) (cz hfr (jV hb) e1);exact⟨sl2,e2⟩
 ·refine sj I.hok λ b u hb q=>HX _ q λ m=>hb ?_
  exact I.stkFree b m
end
structure XCls (K:GA)(mg:Str->Option Value)(c:String)(C:Addr):Prop where
 m:mg (GG c)=some (.ref C)
 ns:GM K mainGlobals (GG c)=some (some (.ref C))
 ex:IP K C [.type "ValueError",.type "Exception",.type "BaseException",.type "object"] "ValueError.__new__"=true
 lk:∃ bm N nm qn bs hd sn sub ab col dd k0 k1 k2 k3 k5,K.lookup C=some (excClassObj nm qn C N bs bm hd sn sub ab col dd k0 k1 k2 k3 k5 "ValueError.__new__")
def cw {K:GA}{C:Addr}{bm0:List Value}{newId:String}(q:IP K C bm0 newId=true)(l:∃ bm N nm qn bs hd sn sub ab col dd k0 k1 k2 k3 k5,K.lookup C=some (excClassObj nm qn C N bs bm hd sn sub ab col dd k0 k1 k2 k3 k5 newId)):
  ∃ bm N nm qn bs hd sn sub ab col dd k0 k1 k2 k3 k5,K.lookup C=some (excClassObj nm qn C N bs bm hd sn sub ab col dd k0 k1 k2 k3 k5 newId)/\IG K N=true/\GM K N "__init__"=some none/\Kn K bm0 bm=true:=by
 obtain⟨bm,N,nm,qn,bs,hd,sn,sub,ab,col,dd,k0,k1,k2,k3,k5,l⟩:=l;unfold IP at q;rw[l] at q;have q:(C == C&&newId == newId&&!false&&Kn K bm0 bm&&IG K N&&GM K N "__init__" == some none)=true:=q;simp only[Dl,beq_iff_eq] at q;exact⟨bm,N,nm,qn,bs,hd,sn,sub,ab,col,dd,k0,k1,k2,k3,k5,l,q.1.2,q.2,q.1.1.2⟩
def zp {K:GA}{h h':Heap}{N:Addr}{m:Str->Option Value}(X:K.In h)(X':K.In h')(e:IG K N=true)(n:h.Ns N m):h'.Ns N m:=by
 obtain⟨o,es,ep,ho,hd,r⟩:=n;unfold IG at e
 split at e
 ·rename_i a b c d q
  have:=X _ _ q;rw[ho] at this;cases this;exact⟨_,es,ep,X' _ _ q,hd,r⟩
 ·cases e
def mP {P:Program}{w:World}{K:GA}{mg:Str->Option Value}{base:Heap}{N:List Str}{qual:Str}{scope:Scope}{f:Addr}{cd:Value}{A:Around}{outer:List GO}{s:Shared}{H:Hp}{E:XK}{c:String}{Ca:Addr}{tx:Str}{j:Nat}{np p2 cpos pos:Pos}
  (x:XCls K mg c Ca) (hg:Gl 0#29 (GG c)) (hd:(GG c == ("__debug__":Str))=false) (hh:(A.deeper 0#38).handled=none):
  PS 0#29 (.Raise (some (.Call (.Name (GG c) np) [.Constant (.str tx) j p2] [] cpos)) none pos) (λ _ _ H1=>E (.ref Ca) none H1):=by
 intro pins s1 σ H1 D I hE;obtain⟨bm,Na,nm,qn,bs,hdd,sn,sub,ab,col,dd,k0,k1,k2,k3,k5,hC,hN,hni,hT⟩:=cw x.ex x.lk;have T:=HJ I.kIn hT;refine wpAny_Raise_call_subT (C:=Ca) (nm:=nm) (q:=qn) (N:=Na) (bs:=bs) (bm:=bm) (hdct:=hdd) (sn:=sn) (sub:=sub) (ab:=ab) (col:=col) (dd:=dd) (k0:=k0) (k1:=k1) (k2:=k2) (k3:=k3) (k5:=k5) PySem.F.excBase_ValueError (mN:=s1.heap.nsMap Na) (T.hasType 0#2) hh rfl (PySem.W.nsMap_none_of_in I.kIn hN hni) ?_
 have pn:=gL (X:=cF 0#24 P w K mg base N qual scope f cd A outer s H E) (v:=.ref Ca) (pos:=np) hg x.m rfl hd;refine thn (pn pins s1 σ H1 (λ v H2=>v=.ref Ca/\H2=H1) I ⟨rfl,rfl⟩) ?_
 rintro u s2 ⟨v,H2,I2,r2,rfl,rfl⟩
 obtain rfl:u=GH Ca:=r2;refine⟨rfl,JE ?_⟩;have pa:=aq (X:=cF 0#24 P w K mg base N qual scope f cd A outer s H E) (e:=.Constant (.str tx) j p2) gP ay;refine thn (pa cpos pins s2 σ H2 (λ vs H3=>vs=[.str tx]/\H3=H2) I2 ⟨rfl,rfl⟩) ?_
 rintro us s3 ⟨vs,H3,I3,r3,rfl,rfl⟩
 have hl:us.length=1:=r3.length.symm;refine⟨rfl,by rw[hl];decide,I3.kIn _ _ hC,zp I.kIn I3.kIn hN (.of_isNs (PySem.W.isNs_of_in I.kIn hN)),HJ I3.kIn hT,λ h' e hx=>?_⟩;exact nq I3 hx hE
def eY {P:Program}{w:World}{K:GA}{mg:Str->Option Value}{base:Heap}{cls:String->Value}{N:List Str}{qual:Str}{scope:Scope}{f:Addr}{cd:Value}{A:Around}{outer:List GO}{s:Shared}{H:Hp}{E:XK}{k:Nat}{hr:Room k (A.deeper 0#38)}{c:String}{Ca:Addr}{tx:Str}{j:Nat}{np p2 cpos pos:Pos}
  (x:XCls K mg c Ca) (hcls:cls c=.ref Ca) (hg:Gl 0#29 (GG c)) (hd:autoParam ((GG c == ("__debug__":Str))=false) ZC._auto_1):
  SSs (cX 0#45 cls K mg base N qual scope f cd A outer s H E hr) [.Raise (some (.Call (.Name (GG c) np) [.Constant (.str tx) j p2] [] cpos)) none pos] (Dv.sRaise c):=by
 refine⟨_,aU (mP x hg hd hr.hd),λ Hv₀ H₀ E' σ H' st r q=>?_⟩;have q':E (cls c) none H':=q σ H' r;rw[hcls] at q';exact q'
structure XLook (K:GA)(C:Addr):Prop where
 ex:IP K C [.type "ValueError",.type "Exception",.type "BaseException",.type "object"] "ValueError.__new__"=true
 lk:∃ bm N nm qn bs hd sn sub ab col dd k0 k1 k2 k3 k5,K.lookup C=some (excClassObj nm qn C N bs bm hd sn sub ab col dd k0 k1 k2 k3 k5 "ValueError.__new__")
 ga:GI K (.ref C) "__getattribute__"=some (some (.builtin "BaseException.__getattribute__"))
 gn:GI K (.ref C) "__getattr__"=some none
 kc:GI K (.ref C) "__class__"=some (some 1#68)
section
variable {prog:Program}{w:World}{A:Around}{E:Value->Shared->Prop}{K:GA}{h:Heap}{g:Array GenState}{d:Drawn}{t:Nat}{os:OsState}{a C:Addr}{o:Obj}
def AO {R:Result->Shared->Prop}(X:K.In h)(x:XLook K C)(hx:h.get? a=some o)(hc:o.cls=.ref C)(hq:R (.ok (.ret (.ref C))) ⟨h,g,d,t,os⟩):
  codeAny 0#7 A (.call (.builtin "getset_descriptor.__get__") ⟨[.builtin "object.__class__",.ref a,.ref C],[]⟩) R ⟨h,g,d,t,os⟩:=by
 obtain⟨bm,Na,nm,qn,bs,hdd,sn,sub,ab,col,dd,k0,k1,k2,k3,k5,kC,_,_,hT⟩:=cw x.ex x.lk;have hC:=X _ _ kC;have TL:=HJ X hT;have own:(GH C::bm).contains (.type (".".intercalate ("object.__class__".cutAt '.').dropLast))=true:=by
  rw[F.owner_object_class,Fb,TL.hasType (show List.contains [GR "ValueError",GR "Exception",GR "BaseException",GR "object"] (GR "object")=true by decide)];rfl
 refine Iy F.slot_gs_get.plain F.entry_gs_get (F.slot_gs_get.check _ _ _ _ _ _ _ _ (show (⟨h,g,d,t,os⟩:Shared).TypeIs 1#68 "getset_descriptor" from HR) (F.args_gs_get _ _ _) ?_);have ty0:(⟨h,g,d,t,os⟩:Shared).TypeIs 1#68 "getset_descriptor":=HR
 repeat (any_goals (first
  |assumption
  | (with_reducible refine Hj hx ?_;rw[hc])
  | (with_reducible refine HY hC ?_;rw[own])
  |wp_step))
 refine⟨J7 _ 0#6,G8 F.entry_object_class ?_⟩
 repeat (any_goals (first
  |assumption
  | (with_reducible refine Hj hx ?_;rw[hc])
  |wp_step))
def uW {tk:Tok}{Q:Fin->Shared->Prop}(X:K.In h)(x:XLook K C)(hx:h.get? a=some o)(hc:o.cls=.ref C)(hq:Q (.done (.ret (.ref C))) ⟨h,g,d,t,os⟩):
  wpAny 0#7 A (Builtin.«object.__getattribute__» ⟨[.ref a,.str "__class__" tk],[]⟩) Q E ⟨h,g,d,t,os⟩:=by
 have ty0:(⟨h,g,d,t,os⟩:Shared).TypeIs 1#68 "getset_descriptor":=HR;have ty1:=HR;have lk1:=F.slot_gs_get.lookup;have lk2:=F.slot_gs_set.lookup;have L:=HU (M:=model prog w) X x.kc
 repeat (any_goals (first
  |assumption
  | (with_reducible refine Hj hx ?_;rw[hc])
  |with_reducible refine L.at ?_
  |wp_step))
 refine AO X x hx hc ?_
 repeat (any_goals (first
  |assumption
  |wp_step))
def xu {M:Model}{nameV:Value}{Q:Unit->Shared->Prop}(X:K.In h)(x:XLook K C)(hx:h.get? a=some o)(hc:o.cls=.ref C)(hq:Q () ⟨h,g,d,t,os⟩):
  wpAny M A (checkBuiltinCall "BaseException.__getattribute__" ⟨[.ref a,nameV],[]⟩) Q E ⟨h,g,d,t,os⟩:=by
 obtain⟨bm,Na,nm,qn,bs,hdd,sn,sub,ab,col,dd,k0,k1,k2,k3,k5,kC,_,_,hT⟩:=cw x.ex x.lk;have hC:=X _ _ kC;have TL:=HJ X hT;have own:(GH C::bm).contains (.type "BaseException")=true:=by
  rw[Fb,TL.hasType (show List.contains [GR "ValueError",GR "Exception",GR "BaseException",GR "object"] (GR "BaseException")=true by decide)];rfl
 have bk:builtinKind "BaseException.__getattribute__"=some .slot:=by decide +kernel
 have bsp:splitId "BaseException.__getattribute__"=some ("BaseException","__getattribute__"):=by decide +kernel
 have ba:=F.args_bexc_ga (.ref a) nameV;simp only[checkBuiltinCall,bk,bsp];refine GB ?_
 unfold isInstance
 repeat (first
  | (with_reducible refine Hj hx ?_;rw[hc])
  | (with_reducible refine HY hC ?_;rw[own])
  |wp_step)
 exact hq
def ym {tk:Tok}{R:Result->Shared->Prop}(X:K.In h)(x:XLook K C)(hx:h.get? a=some o)(hc:o.cls=.ref C)(hq:R (.ok (.ret (.ref C))) ⟨h,g,d,t,os⟩):
  codeAny 0#7 A (.call (.builtin "BaseException.__getattribute__") ⟨[.ref a,.str "__class__" tk],[]⟩) R ⟨h,g,d,t,os⟩:=
 Iy F.attr_ValueError.ga.plain F.entry_bexc_ga (xu X x hx hc (uW X x hx hc hq))
def BF {tk:Tok}{Q:Value->Shared->Prop}(X:K.In h)(x:XLook K C)(hx:h.get? a=some o)(hc:o.cls=.ref C)(hq:Q (.ref C) ⟨h,g,d,t,os⟩):
  wpAny 0#7 A (getAttrBy (.ref a) (.str "__class__" tk) false) Q E ⟨h,g,d,t,os⟩:=by
 have bd:=F.attr_ValueError.ga.bind (.ref a);have n2:(IQ "BaseException.__getattribute__" == IQ "object.__getattribute__")=false:=by decide +kernel
 have n1:(onTheHeap (GH C)&&IQ "BaseException.__getattribute__" == IQ "object.__getattribute__")=false:=by rw[n2];rfl
 have L:=HU (M:=model prog w) X x.ga;have L2:=HU (M:=model prog w) X x.gn
 repeat (any_goals (first
  |assumption
  | (with_reducible refine Hj hx ?_;rw[hc])
  |with_reducible refine L.at ?_
  |with_reducible refine L2.at ?_
  |wp_step))
 refine ym X x hx hc ?_
 repeat (any_goals (first
  |assumption
  |wp_step))
def yp {Q:Option Value->Shared->Prop}(X:K.In h)(x:XLook K C)(hx:h.get? a=some o)(hc:o.cls=.ref C)(hq:Q (some (.ref C)) ⟨h,g,d,t+1,os⟩):
  wpAny 0#7 A (getAttr? (.ref a) "__class__") Q E ⟨h,g,d,t,os⟩:=by
 unfold getAttr? getAttrBy?
 repeat (any_goals (first
  |assumption
  |with_reducible apply BF X x hx hc
  |wp_step))
end
def jZ {K:GA}{a C:Addr}(x:XLook K C):PySem.W.KitX K (.ref a) (.ref C) (kN a C) where
 ty:=λ M h _ p=>by
  obtain⟨o,vs,h1,h2,_⟩:=p;intro A Q E s k q;unfold typeOf;exact GB (Jt (k _ _ h1) (GD (by rw[h2];exact q)))
 it:=λ M h X _=>by
  obtain⟨bm,Na,nm,qn,bs,hdd,sn,sub,ab,col,dd,k0,k1,k2,k3,k5,kC,_,_,hT⟩:=cw x.ex x.lk;intro A Q E s k q;unfold isType loadHead;exact GB (Jt (k _ _ (X _ _ kC)) (GD q))
 ne:=λ h tp dd its n sl X htp=>by
  obtain⟨bm,Na,nm,qn,bs,hdd,sn,sub,ab,col,dd',k0,k1,k2,k3,k5,kC,_,_,hT⟩:=cw x.ex x.lk;refine Bool.eq_false_iff.mpr λ q=>?_
  have e:C=tp:=Value.ref.inj (beq_iff_eq.mp q);subst e;have z:=congrArg (Option.map Obj.cls) ((X _ _ kC).symm.trans htp);simp[excClassObj] at z
 ca:=λ {prog w A E Q s} X p k=>by
  obtain⟨o,vs,h1,h2,_⟩:=p;obtain⟨h,g,d,t,os⟩:=s;exact yp X x h1 h2 k
structure XAll (K:GA)(mg:Str->Option Value)(ad:String->Option Addr):Prop where
 cl:∀ c C,ad c=some C->XCls K mg c C/\XLook K C
 sub:∀ c C k C',ad c=some C->ad k=some C'->G6 K (.ref C) (.ref C')=some (Dv.subX c k)
 val:∀ c C,ad c=some C->G6 K (.ref C) (.type "ValueError")=some true
def vB {X:Cx}{ad:String->Option Addr}(xa:XAll X.K X.mg ad){k:String}{C':Addr}(hk:ad k=some C'):
  cP X (.builtin "isinstance") (λ xs H Q=>∃ x c,xs=[x,.ref C']/\(∃ C,ad c=some C)/\Rp X.K H (.exn c) x/\Q (.bl (Dv.subX c k)) H):=by
 intro pins s σ H xs us Q I r h;obtain⟨x,c,rfl,⟨C,hc⟩,rp,q⟩:=h;obtain⟨u,w',rfl,ru,rw'⟩:=vals2 r;obtain rfl:w'=GH C':=rw';unfold Rp at rp;obtain⟨a,C2,rfl,n2,h2⟩:=rp;obtain⟨x1,x2⟩:=xa.cl c C hc;have e:C2=C:=by
  have:=n2.symm.trans x1.ns;simpa using this
 subst e;cases ru;obtain⟨p,_⟩:=I.hok a _ h2;exact Hf (jZ x2) I.kIn p (xa.sub c _ k C' hc hk) 0#65 λ tk=>⟨.bl (Dv.subX c k),H,I.tok tk,rfl,q⟩
def wG {X:Cx}{ad:String->Option Addr}(xa:XAll X.K X.mg ad):
  cP X (.builtin "isinstance") (λ xs H Q=>∃ x c,xs=[x,.ty "ValueError"]/\(∃ C,ad c=some C)/\Rp X.K H (.exn c) x/\Q 0#96 H):=by
 intro pins s σ H xs us Q I r h;obtain⟨x,c,rfl,⟨C,hc⟩,rp,q⟩:=h;obtain⟨u,w',rfl,ru,rw'⟩:=vals2 r;obtain rfl:w'=GR "ValueError":=rw';unfold Rp at rp;obtain⟨a,C2,rfl,n2,h2⟩:=rp;obtain⟨x1,x2⟩:=xa.cl c C hc;have e:C2=C:=by
  have:=n2.symm.trans x1.ns;simpa using this
 subst e;cases ru;obtain⟨p,_⟩:=I.hok a _ h2;exact Hf (jZ x2) I.kIn p (xa.val c _ hc) 0#65 λ tk=>⟨.bl true,H,I.tok tk,rfl,q⟩
def Fly.un {P:Program}{w:World}{outer:List GO}{H H':Hp}{s s':Shared}{a t:Addr}{cls:Value}{B h:Heap}(F:Fly P w outer H s a cls H' B t s')(sb:B.StaysIn h)(sm:s'.heap.UpToSlots h)(hf:∀ b∈frs outer,H b=none):
  Un (frs outer) [] H H' s.heap h where
 keep:=λ b o e n hb _=>sb b o (F.keepB b o e n hb)
 slot:=λ b o e n hb _=>by
  obtain⟨sl,e1⟩:=F.slot b o e n hb;obtain⟨sl2,e2⟩:=sm b _ e1 (cz F.fl.2.2.1 hb e1);exact⟨sl2,e2⟩
 free:=λ b o e n _=>F.free b o e n
 there:=λ b o e _=>by
  by_cases hb:b∈frs outer
  ·obtain⟨sl,e1⟩:=F.slot b o e (hf b hb) hb
   obtain⟨sl2,e2⟩:=sm b _ e1 (cz F.fl.2.2.1 hb e1);exact⟨_,e2⟩
  ·obtain⟨o1,e1⟩:=F.thereB b o e hb
   exact⟨o1,sb b o1 e1⟩
 tups:=F.tups
 frzs:=F.frzs
 tbls:=F.tbls
def Fly.none {P:Program}{w:World}{outer:List GO}{H H':Hp}{s s':Shared}{a t:Addr}{cls:Value}{B:Heap}(F:Fly P w outer H s a cls H' B t s'):H' a=Option.none:=by
 cases q:H' a with
 |none=>rfl
 |some o=>
  have e:=F.fl.2.1;obtain⟨o',h1⟩:∃ o',B.get? a=some o':=by
   have:=(F.hokB a o q).lt;have k:=F.hokB a o q;cases o with
   |lst xs=>obtain⟨_,_,_,_,z⟩:=k;exact⟨_,z⟩
   |tup xs=>obtain⟨_,_,_,_,z,_⟩:=k;exact⟨_,z⟩
   |dK kvs=>obtain⟨_,_,_,_,o,_,_,z,_⟩:=k;exact⟨_,z⟩
   |dT kvs=>obtain⟨_,_,_,_,o,_,_,z,_⟩:=k;exact⟨_,z⟩
   |set S n=>obtain⟨o,_,_,_,z,_⟩:=k;exact⟨_,z⟩
   |ins C dx fs=>obtain⟨_,_,_,z,_⟩:=k;exact⟨_,z⟩
   |own y=>obtain⟨_,z⟩:=k;exact⟨_,z⟩
   |xd fs=>obtain⟨_,⟨_,_,_,z,_⟩,_⟩:=k;exact⟨_,z⟩
   |rng lo hi=>obtain⟨_,_,_,z⟩:=k;exact⟨_,z⟩
   |frz ob u=>obtain⟨z,_⟩:=k;exact⟨_,z⟩
   |tbl ps=>exact⟨_,(show B.get? a=some _ from k)⟩
   |met f y=>exact⟨_,(show B.get? a=some _ from k)⟩
   |ext φ=>obtain⟨_,⟨_,z⟩,_⟩:=k;exact⟨_,z⟩
  rw[e] at h1;cases h1
def vF (X:Cx)(pins:List 0#18)(xe:Value->Shared->Prop):Cx:={ X with pn:=X.pn++pins,xe:=xe }
def hdX (X:Cx)(pins:List 0#18)(e:Addr):Cx:={ X with A:=X.A.mark (some (.ref e)),calm:=false,pn:=X.pn++pins,xe:=λ _ _=>False }
section
variable {X:Cx}{pins pins':List (Addr×Obj)}{σ:St}{H:Hp}{s:Shared}{xe:Value->Shared->Prop}{e:Addr}
def Inv.toTry (I:Inv X pins σ H s):Inv (vF X pins xe) [] σ H s:=
 ⟨⟨I.ok.mod,I.ok.kind,I.ok.glob,I.ok.blt,I.ok.above,I.ok.inj,I.ok.has,I.ok.cab,I.ok.hd,I.ok.frames,I.ok.stk,I.ok.exf,I.ok.bs,I.ok.bsz,I.ok.noex,I.ok.exfs,I.ok.funs,I.ok.frf⟩,I.os,I.bare,I.base,I.loc,I.cell,I.free,I.freeC,λ p hp=>I.pin p (by
  have hp':p∈(X.pn++pins)++[]:=hp
  rwa [DU] at hp'),I.hok,I.len⟩
def Inv.ofTry (I:Inv (vF X pins xe) pins' σ H s):Inv X pins σ H s:=
 ⟨⟨I.ok.mod,I.ok.kind,I.ok.glob,I.ok.blt,I.ok.above,I.ok.inj,I.ok.has,I.ok.cab,I.ok.hd,I.ok.frames,I.ok.stk,I.ok.exf,I.ok.bs,I.ok.bsz,I.ok.noex,I.ok.exfs,I.ok.funs,I.ok.frf⟩,I.os,I.bare,I.base,I.loc,I.cell,I.free,I.freeC,λ p hp=>I.pin p (DP _ hp),I.hok,I.len⟩
def Inv.toHd (I:Inv X pins σ H s):Inv (hdX X pins e) [] σ H s:=
 ⟨⟨I.ok.mod,I.ok.kind,I.ok.glob,I.ok.blt,I.ok.above,I.ok.inj,I.ok.has,I.ok.cab,0#65,I.ok.frames,I.ok.stk,I.ok.exf,I.ok.bs,I.ok.bsz,I.ok.noex,I.ok.exfs,I.ok.funs,I.ok.frf⟩,I.os,I.bare,I.base,I.loc,I.cell,I.free,I.freeC,λ p hp=>I.pin p (by
  have hp':p∈(X.pn++pins)++[]:=hp
  rwa [DU] at hp'),I.hok,I.len⟩
def Inv.ofHd (hd:X.calm=true->X.A.handled=none)(I:Inv (hdX X pins e) pins' σ H s):Inv X pins σ H s:=
 ⟨⟨I.ok.mod,I.ok.kind,I.ok.glob,I.ok.blt,I.ok.above,I.ok.inj,I.ok.has,I.ok.cab,hd,I.ok.frames,I.ok.stk,I.ok.exf,I.ok.bs,I.ok.bsz,I.ok.noex,I.ok.exfs,I.ok.funs,I.ok.frf⟩,I.os,I.bare,I.base,I.loc,I.cell,I.free,I.freeC,λ p hp=>I.pin p (DP _ hp),I.hok,I.len⟩
def SP.ofTry {D:Ends}{f:Flow}(h:SP (vF X pins xe) pins' D f s):SP X pins D f s:=by
 cases f with
 |next=>obtain⟨σ',H',I,q⟩:=h;exact⟨σ',H',Inv.ofTry I,q⟩
 |brk=>obtain⟨σ',H',I,q⟩:=h;exact⟨σ',H',Inv.ofTry I,q⟩
 |cont=>obtain⟨σ',H',I,q⟩:=h;exact⟨σ',H',Inv.ofTry I,q⟩
 |ret u=>obtain⟨v,σ',H',I,r,q⟩:=h;exact⟨v,σ',H',Inv.ofTry I,r,q⟩
end
def wm (C:Ctx)(pins:List 0#18)(xe:Value->Shared->Prop)(W:St->XK)(own:PassesOwn 0#44 C.X.A C.X.env xe)
  (pass:∀ (pins':List 0#18) (σ:St) (H:Hp) (s:Shared) (e:Value) (s':Shared),Inv (vF C.X pins xe) pins' σ H s->C.CX C.X.stack H s (W σ) e s'->xe e s'):Ctx where
 X:=vF C.X pins xe
 W:=W
 cls:=C.cls
 CX:=C.CX
 un:=C.un
 own:=own
 pass:=pass
 cxF:=C.cxF
def zJ (C:Ctx)(pins:List 0#18)(e:Addr):Ctx where
 X:=hdX C.X pins e
 W:=λ _ _ _ _=>False
 cls:=C.cls
 CX:=C.CX
 un:=C.un
 own:=Jf
 pass:=λ _ _ _ _ _ _ _ h=>C.cxF _ _ _ _ _ h
 cxF:=C.cxF
def RelC.unset {K:GA}{Hv₀ H₀ Hc H:Hp}{O:Nat->Hp}{st:Dv.St}{σ:St}{i:Nat}(r:RelC K Hv₀ H₀ Hc O st σ H):RelC K Hv₀ H₀ Hc O 1#80 (σ.set i none) H:=r.setNo
def fm {X:Cx}{pins:List (Addr×Obj)}{σ:St}{H:Hp}{s:Shared}{A:Around}{E:Value->Shared->Prop}{i:Nat}{n:Str}{pos:Pos}{Q:Unit->Shared->Prop}{M:Model}(I:Inv X pins σ H s)(hN:X.N.Nodup)(hi:X.N[i]?=some n)(hl:X.env.scope.names.lookup n=some .local)
  (h:∀ s',Inv X pins (σ.set i none) H s'->Q () s'):wpAny M A (do bindName X.env n .none;unbindBehindTheSuite X.env n pos) Q E s:=by
 obtain⟨m,hn,hm⟩:=id I.loc;have kf:(X.env.scope.kind == .class || (X.env.scope.kind == .module&&X.env.locals != X.env.globals))=false:=by rw[I.ok.kind];rfl
 refine wpAny_nameGoes_keeps hl hn kf λ h' v hn' hs=>h _ ?_
 obtain⟨oL,_,_,hoL,_⟩:=id hn;have old:∀ {b:Addr} {o:Obj},X.s₀.heap.get? b=some o->b≠X.env.locals:=λ {b o} e=>Dy 1#76
 have cne:=I.cne;refine⟨I.ok,I.os,I.bare,⟨λ b o e n' hb hx=>(hs.2 b (old e)).trans (I.base.keep b o e n' hb hx),λ b o e n' hb hx=>?_,I.base.free,λ b o e hx=>?_,I.base.tups,I.base.frzs,I.base.tbls⟩,⟨_,hn',λ j y v' e1 e2 e3=>?_⟩,λ y c e=>?_,I.free,I.freeC,λ p hp=>?_,?_,by rw[DE];exact I.len⟩
 ·obtain⟨sl,e1⟩:=I.base.slot b o e n' hb hx
  exact⟨sl,(hs.2 b (old e)).trans e1⟩
 ·obtain⟨o',e1⟩:=I.base.there b o e hx
  exact⟨o',(hs.2 b (old e)).trans e1⟩
 ·rcases cS e2 with ⟨_,z,_⟩|⟨hj,e2⟩
  ·cases z
  ·obtain⟨u,r,q⟩:=hm j y v' e1 e2 e3
   refine⟨u,r,?_⟩;have hyn:y≠n:=λ z=>by
    subst z;have hjl:j<X.N.length:=(List.getElem?_eq_some_iff.mp e1).1;have hil:i<X.N.length:=(List.getElem?_eq_some_iff.mp hi).1;have e3':X.N[j]=X.N[i]:=by
     have a1:=(List.getElem?_eq_some_iff.mp e1).2;have a2:=(List.getElem?_eq_some_iff.mp hi).2;rw[a1,a2]
    exact hj ((F5 (h₀:=hjl) (h₁:=hil) hN).mp e3')
   rcases q with ⟨q1,q2⟩|⟨q1,c,q2,q3⟩
   ·exact .inl ⟨q1,(if_neg hyn).trans q2⟩
   ·refine .inr ⟨q1,c,q2,?_⟩
    exact q3.sameBut hs (cne y c q2)
 ·obtain⟨v,hv⟩:=I.cell y c e
  exact⟨v,hv.sameBut hs (cne y c e)⟩
 ·obtain⟨p1,p2,p3,p4⟩:=I.pin p hp
  exact⟨(hs.2 p.1 p3).trans p1,p2,p3,p4⟩
 ·exact sj I.hok λ b u hb q=>(hs.2 b λ z=>hb (by rw[z];exact I.free)).trans q
def vP {M:Model}{A:Around}{E:Value->Shared->Prop}{K:GA}{h:Heap}{g:Array GenState}{d:Drawn}{t:Nat}{os:OsState}{a C Ck:Addr}{o:Obj}{Q:Bool->Shared->Prop}(X:K.In h)(xk:XLook K Ck)(hx:h.get? a=some o)(hc:o.cls=.ref C)
  (sub:Ks M h (isSubtype (.ref C) (.ref Ck)) true) (hq:Q true ⟨h,g,d,t,os⟩):wpAny M A (excMatches (.ref a) (.ref Ck)) Q E ⟨h,g,d,t,os⟩:=by
 obtain⟨bm,Na,nm,qn,bs,hdd,sn,su,ab,col,dd,k0,k1,k2,k3,k5,kC,_,_,hT⟩:=cw xk.ex xk.lk;have hC:=X _ _ kC;have TL:=HJ X hT;have own:(GH Ck::bm).contains (.type "BaseException")=true:=by
  rw[Fb,TL.hasType (show List.contains [GR "ValueError",GR "Exception",GR "BaseException",GR "object"] (GR "BaseException")=true by decide)];rfl
 have nt:=tc_notTuple;unfold excMatches
 repeat (first
  | (with_reducible refine Hj hx ?_;rw[hc])
  |with_reducible refine Hj hC ?_
  |with_reducible refine sub.at ?_
  | (with_reducible refine HY hC ?_;rw[own])
  |wp_step)
 exact hq
def tf {M:Model}{K:GA}{h:Heap}{C Ck:Addr}(X:K.In h)(x:XLook K C)(e:G6 K (.ref C) (.ref Ck)=some true):Ks M h (isSubtype (.ref C) (.ref Ck)) true:=by
 unfold G6 at e
 split at e
 ·rename_i q
  have z:GH C=GH Ck:=beq_iff_eq.mp q;rw[<- z];obtain⟨bm,Na,nm,qn,bs,hdd,sn,su,ab,col,dd,k0,k1,k2,k3,k5,kC,_,_,hT⟩:=cw x.ex x.lk;intro A Q E s k hq;have hC:=k _ _ (X _ _ kC);obtain⟨hh,g,d,t,os⟩:=s;refine HY hC ?_
  have own:(GH C::bm).contains (GH C)=true:=by simp
  rw[own];exact hq
 ·exact(PySem.W.kit_cls X e).2.2
def zh {C C':Ctx}{Hv₀ H₀:Hp}{D:Ends}{o o':Out}(hK:C'.X.K=C.X.K)(w:OkS C Hv₀ H₀ D o')(hx:∀ c st2,o=.exc c st2->∀ σ H,Rel C.X.K Hv₀ H₀ st2 σ H->C'.W σ (C'.cls c) none H)(ho:(∀ c st2,o≠.exc c st2)->o'=o):OkS C' Hv₀ H₀ D o:=by
 have nx:∀ {st:Dv.St} {σ:St} {H:Hp},Rel C'.X.K Hv₀ H₀ st σ H->Rel C.X.K Hv₀ H₀ st σ H:=λ {st σ H} r=>by rw[<- hK];exact r
 cases o with
 |exc c st2=>exact λ σ H r=>hx c st2 rfl σ H (nx r)
 |nx st2=>rw[ho 1#86] at w;exact λ σ H r=>w σ H (nx r)
 |brk st2=>rw[ho 1#86] at w;exact λ σ H r=>w σ H (nx r)
 |cont st2=>rw[ho 1#86] at w;exact λ σ H r=>w σ H (nx r)
 |ret d nw=>
  rw[ho 1#86] at w;have e:C'.X.K=C.X.K:=hK;unfold OkS at w ⊢;rw[e];exact w
 |bad=>rw[ho 1#86] at w;exact w
section
variable {C:Ctx}{ad:String->Option Addr}{kn:List String}{k:String}{Ck:Addr}{body suite:List Stmt}{b₀:Stmt}{F G:SS}{np hpos pos:Pos}
def wX (xa:XAll C.X.K C.X.mg ad)(hkn:∀ c∈kn,∃ Ca,ad c=some Ca/\C.cls c=.ref Ca)(hk:ad k=some Ck){i:Nat}{n:Str}(hN:C.X.N.Nodup)(hi:C.X.N[i]?=some n)(hg:Gl C.X (GG k))
  (hb:∀ pins xe W own pass,SSs (wm C pins xe W own pass) body F) (hh:∀ pins e,SSs (zJ C pins e) (b₀::suite) G)
  (hl:autoParam (C.X.env.scope.names.lookup n=some .local) ZF._auto_1) (hd:autoParam ((GG k == ("__debug__":Str))=false) ZC._auto_1) (hCX:autoParam (C.CX=CXe C.X.prog C.X.w) ZF._auto_1) (hstk:autoParam (C.X.stack=C.X.env::C.X.outer) ZF._auto_1) (hfr:autoParam (C.X.env.frame=some C.X.env.locals) ZF._auto_1):
  SSt C (.Try body [.ExceptHandler 2#6 (some n) (b₀::suite) hpos] [] [] pos) (Dv.sTryAs kn i k F G):=by
 refine⟨λ D σ H=>∃ Hv₀ H₀ st,Rel C.X.K Hv₀ H₀ st σ H/\OkS C Hv₀ H₀ D (Dv.sTryAs kn i k F G st),?_,λ Hv₀ H₀ E σ H st r w=>⟨Hv₀,H₀,st,r,w⟩⟩
 rintro pins s σ H D I ⟨Hv₀,H₀,st,r,w⟩
 refine wpAny_Try_except ?_
 have hhd:=I.ok.hd;unfold Dv.sTryAs at w;have key:∀ (pins':List 0#18) (σ':St) (H':Hp) (s':Shared) (e:Value) (s'':Shared),Inv C.X pins σ' H' s' ->
   C.CX C.X.stack H' s' (λ cv _ H2=>∃ c st',F st=.exc c st'/\cv=C.cls c/\Rel C.X.K Hv₀ H₀ st' σ' H2) e s'' ->
   wpAny 0#44 C.X.A (noteFrame e C.X.env) (λ _ s₂=>wpAny 0#44 C.X.A (setFlight e none) (λ _ s₃=>wpAny 0#44 C.X.A (handleBy e C.X.env [.ExceptHandler 2#6 (some n) (b₀::suite) hpos]) (SP C.X pins D) C.X.xe s₃) C.X.xe s₂) C.X.xe s'':=by
  rintro pins' σ' H' s' e s'' I0 hx
  rw[hCX] at hx;obtain⟨a,cv,H2,B,t,rfl,Fl,c,st',hF,rfl,Hc,O,rel⟩:=hx;rw[hF] at w;by_cases hs:(kn.contains c&&Dv.subX c k)=true
  case neg=>simp only[hs] at w;exact Zf w
  simp only[hs,if_true] at w;rw[Dl] at hs;obtain⟨Ca,hca,hcv⟩:=hkn c (List.contains_iff_mem.mp hs.1);obtain⟨x1,x2⟩:=xa.cl c Ca hca;obtain⟨y1,y2⟩:=xa.cl k Ck hk;have hsub:=xa.sub c Ca k Ck hca hk;rw[hs.2] at hsub;have hfl:=Fl.fl;rw[hcv,hstk] at hfl;have frames:C.X.A.frames=some (C.X.env::C.X.outer):=by rw[<- hstk];exact I0.ok.frames
  refine wpAny_looks_onW frames hfr hfl λ h4 held4 sm4=>?_
  refine wpAny_landsW held4 λ h5 fl5 sm5=>?_
  have ff:∀ b∈frs C.X.stack,H' b=none:=λ b hb=>I0.stkFree b hb
  have inv:∀ h,B.StaysIn h->s''.heap.UpToSlots h->Inv C.X pins σ' H2 { s'' with heap:=h }:=λ h sb sm=>
   I0.call' (s':={ s'' with heap:=h }) (ch:=[]) Fl.os (Fl.un sb sm ff) (Fl.hokB.kept λ b u q=>sb b u q) Fl.bare λ b hb=>absurd hb 0#5
  have I5:=inv h5 fl5.1 (sm4.trans sm5);refine wpAny_handleBy_cons (codeAny_handlers_test ?_) (by intro q;cases q);refine gD (X:=hdX C.X pins a) (Inv.toHd I5) hg y1.m ?_ hd
  obtain⟨oe,vs,T,oT,ts,e1,e2,e3,_⟩:=fl5.2.2.2;refine vP (h:=h5) I5.kIn y2 e1 e2.1 (tf I5.kIn x2 hsub) ?_
  refine codeAny_handlers_suite_as (lands_againW fl5 λ h6 fl6 sm6=>?_);have I6:=inv h6 fl6.1 ((sm4.trans sm5).trans sm6);have hna:H2 a=Option.none:=Fl.none;obtain⟨oe6,vs6,T6,oT6,ts6,f1,f2,f3,_⟩:=fl6.2.2.2;have hok6:HOk C.X.prog C.X.w (upd H2 a (.ext (kN a Ca))) h6:=gZ I6.hok hna ⟨⟨oe6,vs6,f1,f2.1,f3⟩,⟨oe6,f1⟩,λ h1 h2 ⟨o,ws,z1,z2,z3⟩ kp=>⟨o,ws,kp o z1,z2,z3⟩⟩;have na:∀ {b:Addr} {o:Obj},s'.heap.get? b=some o->b≠a:=λ {b o} e z=>by
   subst z;by_cases hb:b∈frs C.X.stack
   ·obtain⟨sl,q1⟩:=Fl.slot b o e (ff b hb) hb
    obtain⟨sl2,q2⟩:=(sm4.trans sm5).trans sm6 b _ q1 (cz Fl.fl.2.2.1 hb q1);have fr6:=fl6.2.2.1;rw[<- hstk] at fr6;exact cz fr6 hb f1 vs6 f3
   ·obtain⟨o1,q1⟩:=Fl.thereB b o e hb
    rw[Fl.fl.2.1] at q1;cases q1
  have I7:Inv C.X pins σ' (upd H2 a (.ext (kN a Ca))) { s'' with heap:=h6 }:=by
   have u6:=Fl.un fl6.1 ((sm4.trans sm5).trans sm6) ff;refine I0.call' (s':={ s'' with heap:=h6 }) (ch:=[]) Fl.os ⟨u6.keep,u6.slot,λ b o e q hx=>?_,u6.there,λ b xs e=>?_,λ b o u e=>?_,λ b ps e=>?_⟩ hok6 Fl.bare λ b hb=>absurd hb 0#5
   ·rw[ag (na e)];exact u6.free b o e q hx
   ·rw[ag (au (u6.tups b xs e) hna)];exact u6.tups b xs e
   ·rw[ag (au (u6.frzs b o u e) hna)];exact u6.frzs b o u e
   ·obtain⟨more,z⟩:=u6.tbls b ps e
    exact⟨more,by rw[ag (au z hna)];exact z⟩
  refine gz (X:=hdX C.X pins a) (v:=.ref a) (Inv.toHd I7) hN hi (.inl hl) rfl (λ s8 I8=>?_) (.inr hl);obtain⟨tg,pg,qg⟩:=hh pins a;have rel8:Rel C.X.K Hv₀ H₀ 1#89 (σ'.set i 2#21) (upd H2 a (.ext (kN a Ca))):=by
   have x8:=Ext.new1 rel.ch hna (.ext (kN a Ca));refine⟨_,O,(rel.growC x8).setSh ?_⟩;unfold Rp;exact⟨a,Ca,rfl,x1.ns,ai⟩
  have ok8:OkS (zJ C pins a) Hv₀ H₀ { nx:=λ σ2 H3=>D.nx (σ2.set i none) H3,rt:=D.rt,bk:=λ σ2 H3=>D.bk (σ2.set i none) H3,ct:=λ σ2 H3=>D.ct (σ2.set i none) H3 } (G 1#89):=by
   cases hG:G 1#89 with
   |nx st2=>rw[hG] at w;exact λ σ2 H3 ⟨Hc3,O3,r3⟩=>w _ H3 ⟨Hc3,O3,r3.unset⟩
   |brk st2=>rw[hG] at w;exact λ σ2 H3 ⟨Hc3,O3,r3⟩=>w _ H3 ⟨Hc3,O3,r3.unset⟩
   |cont st2=>rw[hG] at w;exact λ σ2 H3 ⟨Hc3,O3,r3⟩=>w _ H3 ⟨Hc3,O3,r3.unset⟩
   |ret d nw=>rw[hG] at w;exact w
   |exc c2 st2=>rw[hG] at w;exact Zf w
   |bad=>rw[hG] at w;exact w
  refine GL (pg [] s8 _ _ _ I8 (qg Hv₀ H₀ _ _ _ _ rel8 ok8)) (λ fl s9 h9=>?_) λ _ _ z=>z.elim
  cases fl with
  |next=>
   obtain⟨σ9,H9,I9,q9⟩:=h9;exact fm (Inv.ofHd hhd I9) hN hi hl λ s10 I10=>⟨_,H9,I10,q9⟩
  |brk=>
   obtain⟨σ9,H9,I9,q9⟩:=h9;exact fm (Inv.ofHd hhd I9) hN hi hl λ s10 I10=>⟨_,H9,I10,q9⟩
  |cont=>
   obtain⟨σ9,H9,I9,q9⟩:=h9;exact fm (Inv.ofHd hhd I9) hN hi hl λ s10 I10=>⟨_,H9,I10,q9⟩
  |ret u=>
   obtain⟨v,σ9,H9,I9,r9,q9⟩:=h9;exact fm (Inv.ofHd hhd I9) hN hi hl λ s10 I10=>⟨v,_,H9,I10,r9,q9⟩
 obtain⟨tb,pb,qb⟩:=hb pins _ (λ σ' cv _ H2=>∃ c st',F st=.exc c st'/\cv=C.cls c/\Rel C.X.K Hv₀ H₀ st' σ' H2) (Kc (K:=λ e s₂=>wpAny 0#44 C.X.A (setFlight e none) (λ _ s₃=>wpAny 0#44 C.X.A (handleBy e C.X.env [.ExceptHandler 2#6 (some n) (b₀::suite) hpos]) (SP C.X pins D) C.X.xe s₃) C.X.xe s₂) (E₁:=C.X.xe))
  λ pins' σ' H' s' e s'' I' h'=>key pins' σ' H' s' e s'' (Inv.ofTry I') h'
 have okb:OkS (wm C pins _ (λ σ' cv _ H2=>∃ c st',F st=.exc c st'/\cv=C.cls c/\Rel C.X.K Hv₀ H₀ st' σ' H2) (Kc (K:=λ e s₂=>wpAny 0#44 C.X.A (setFlight e none) (λ _ s₃=>wpAny 0#44 C.X.A (handleBy e C.X.env [.ExceptHandler 2#6 (some n) (b₀::suite) hpos]) (SP C.X pins D) C.X.xe s₃) C.X.xe s₂) (E₁:=C.X.xe))
  λ pins' σ' H' s' e s'' I' h'=>key pins' σ' H' s' e s'' (Inv.ofTry I') h') Hv₀ H₀ D (F st):=by
  refine zh (C:=C) rfl w (λ c st2 h σ2 H2 r2=>⟨c,st2,h,rfl,r2⟩) λ h=>?_
  generalize F st=o at h;cases o with
  |exc c st2=>exact absurd rfl (h c st2)
  |_=>rfl
 refine GL (pb [] s σ H D (Inv.toTry I) (qb Hv₀ H₀ D σ H st r okb)) (λ fl s1 h1=>?_) λ e s1 h1=>h1
 have h2:=SP.ofTry h1;cases fl with
 |next=>obtain⟨σ2,H2,I2,q2⟩:=h2;exact HZ ⟨σ2,H2,I2,q2⟩
 |brk=>exact h2
 |cont=>exact h2
 |ret u=>exact h2
end
section
variable {C:Ctx}{ad:String->Option Addr}{kn:List String}{a:Expr}{f:EE}{pos:Pos}
def hU (xa:XAll C.X.K C.X.mg ad)(hkn:∀ c∈kn,∃ Ca,ad c=some Ca){k:String}{Ck:Addr}(hk:ad k=some Ck){p p2:Pos}(hm:C.X.mg "isinstance"=none)(hg:Gl C.X "isinstance")(hgk:Gl C.X (GG k))(ha:SE C a f)
  (hd:autoParam ((GG k == ("__debug__":Str))=false) ZC._auto_1) (he:autoParam (starEach [a,.Name (GG k) p2] C.X.env=1#36::starEach [.Name (GG k) p2] C.X.env) ZF._auto_1)
  (he2:autoParam (starEach [.Name (GG k) p2] C.X.env=[(false,eval (.Name (GG k) p2) C.X.env)]) ZF._auto_1):SE C (.Call 1#79 [a,.Name (GG k) p2] [] pos) (Dv.eB1 (Dv.isXD kn [k]) f):=by
 obtain⟨t,pa,qa⟩:=ha;obtain⟨y1,y2⟩:=xa.cl k Ck hk;refine⟨_,bu (vB xa hk) hg hm 0#6 (aq pa (aq (gL (v:=.ref Ck) hgk y1.m rfl hd) ay he2) he) 0#2 0#2 he (by rw[he2];rfl),λ σ H Hv ρ Q e s w=>?_⟩;refine qa.step e 1#7 w λ v d fr Hv1 H1 _ x1 _ rp1 _ q1=>?_
 cases d with
 |exn c=>
  by_cases hc:kn.contains c=true
  ·have q2:Ok C.X.K Hv H (C.W σ) C.cls (.ok (.bl ([k].any (Dv.subX c))) true) Q:=by
    have:Dv.isXD kn [k] (.exn c) fr=.ok (.bl ([k].any (Dv.subX c))) true:=if_pos hc;rw[this] at q1;exact q1
   obtain⟨Ca,hca⟩:=hkn c (List.contains_iff_mem.mp hc);refine⟨v,c,rfl,⟨Ca,hca⟩,rp1.same x1.vh,?_⟩;have:=q2.at (v:=.bl ([k].any (Dv.subX c))) x1 cE rfl;simpa using this
  ·have:Dv.isXD kn [k] (.exn c) fr=.bad:=if_neg hc
   rw[this] at q1;exact q1.elim
 |_=>exact Zf q1
def vp (xa:XAll C.X.K C.X.mg ad)(hkn:∀ c∈kn,∃ Ca,ad c=some Ca){p p2:Pos}(hm:C.X.mg "isinstance"=none)(hmx:C.X.mg "ValueError"=none)(hg:Gl C.X "isinstance")(hgk:Gl C.X "ValueError")(ha:SE C a f)
  (he:autoParam (starEach [a,.Name "ValueError" p2] C.X.env=1#36::starEach [.Name "ValueError" p2] C.X.env) ZF._auto_1)
  (he2:autoParam (starEach [.Name "ValueError" p2] C.X.env=[(false,eval (.Name "ValueError" p2) C.X.env)]) ZF._auto_1):SE C (.Call 1#79 [a,.Name "ValueError" p2] [] pos) (Dv.eB1 (Dv.isXD kn ["ValueError"]) f):=by
 obtain⟨t,pa,qa⟩:=ha;refine⟨_,bu (wG xa) hg hm 0#6 (aq pa (aq (rL (v:=.ty "ValueError") hgk hmx 0#6 rfl 0#2 0#2) ay he2) he) 0#2 0#2 he (by rw[he2];rfl),λ σ H Hv ρ Q e s w=>?_⟩;refine qa.step e 1#7 w λ v d fr Hv1 H1 _ x1 _ rp1 _ q1=>?_
 cases d with
 |exn c=>
  by_cases hc:kn.contains c=true
  ·have q2:Ok C.X.K Hv H (C.W σ) C.cls (.ok 0#96 true) Q:=by
    have:Dv.isXD kn ["ValueError"] (.exn c) fr=.ok 0#96 true:=(if_pos hc).trans (by simp[Dv.subX]);rw[this] at q1;exact q1
   obtain⟨Ca,hca⟩:=hkn c (List.contains_iff_mem.mp hc);exact⟨v,c,rfl,⟨Ca,hca⟩,rp1.same x1.vh,q2.at (v:=.bl true) x1 cE rfl⟩
  ·have:Dv.isXD kn ["ValueError"] (.exn c) fr=.bad:=if_neg hc
   rw[this] at q1;exact q1.elim
 |_=>exact Zf q1
end
open PySem PySem.W PySem.Calls PyProof.Rows
def jC:∀ {ns:List Int} {x:Int},x∈ns->(Ib x).weight<=Jg (ns.map Ib)
 |[],_,h=>by simp at h
 |n::r,x,h=>by
  rw[C9];unfold Jg
  rcases List.mem_cons.mp h with rfl|h
  ·omega
  ·have:=jC h
   omega
def yD {ns:List Int}(h:WData.layableAll [Kl (ns.map Ib)]=true):∀ x∈ns,Dv.bits x<=1048576:=λ x hx=>by
 have h1:=layableW_arg h _ (Dh ..);obtain⟨_,_,h2⟩:=layableW_iff.mp h1;have h3:J8 (Kl (ns.map Ib))=Jg (ns.map Ib):=by unfold J8;rfl
 have h4:=jC hx;have h5:(Ib x).weight=Dv.bits x:=by
  unfold J8 Dv.bits;by_cases e:x=0
  ·simp[e]
  ·simp[e]
 rw[h3] at h2;omega
def zm {l:OpenLaw}{n:Nat}{q:Program}{loose:List Str}{XP:(Str->Option Value)->Heap->Prop}{YP:World->Heap->Prop}{d:DefRec}(hn:l.most=some n)(hdf:d.params.defaults=[])
  (run:∀ (w:World) (s₀ s₁:Shared) (mg mb:Str->Option Value) (fa:Addr) (a:Addr) (vs:List Value) (ns:List Int),Ground q loose [] XP w s₀ mg mb s₁.heap->YP w s₁.heap->mg d.name=some 2#45 ->
   s₁.heap.get? a=some { cls:=.type "list",data:=.seq vs.toArray }->IntsAre vs ns->ns.length<=n->(∀ x∈ns,Dv.bits x<=1048576)->s₁.gens=#[] ->
   codeAny (model l.prog w) callerA (.call 2#45 ⟨[.ref a],[]⟩) (λ r s'=>r=.ok (.ret 2#40)/\OldK s₁.heap s'.heap/\s'.os=s₁.os/\AllBare s'.gens) s₁):
  WalkO q loose XP YP l.row.toRowW d [] (λ f vs=>PySem.call f vs):=by
 intro w s₀ s₁ mg mb G Y fa o pm cd doc dV kV ho hd hcd hD hmg hg args vals as hpre hlay hrd hwl hlo;obtain⟨a,vs,ns,rfl,rfl,hobj,hints,hlen⟩:=Att.script_of hn hpre hwl;have hbits:=yD hlay;refine enter_call (HD (run w s₀ s₁ mg mb fa a vs ns G Y hmg hobj hints hlen hbits hg) ?_)
 rintro r s' ⟨rfl,h2,h3,h4⟩
 exact⟨.inl ⟨.bool true,.bool true,[],rfl,λ _=>rfl,.bool true,Att.post_true l _,λ _=>⟨List.Pairwise.nil,λ _ hm=>(nomatch hm)⟩⟩,h2,h3,h4⟩
def walkD {l:OpenLaw}{k:Nat}{q:Program}{loose:List Str}{XP:(Str->Option Value)->Heap->Prop}{YP:World->Heap->Prop}{d:DefRec}{K:Params->Frag}{CX:World->L2.CXT}{x:Str}{Fl:List Dv.D->Dv.R}
  (hn:l.most=some 63) (hdf:d.params.defaults=[]) (hr:L2.Room k callerA) (hY:∀ (w:World) (h:Heap),YP w h->(K w.params).In h) (hC:∀ w,CXok l.prog w (CX w))
  (F:∀ (w:World) (mg:Str->Option Value) (fa:Addr) (h:Heap),(K w.params).In h->h.Ns mainGlobals mg->mg d.name=some 2#45 ->
   ∃ (fd:FuncData) (cls:String->Value),(∀ (s:Shared) (u:Value),BindsTo s fd ⟨[u],[]⟩ [(x,u)])/\∀ base:Heap,(K w.params).In base->base.Ns mainGlobals mg->L2.FnOk l.prog w (K w.params) mg base (CX w) k fa fd [x] (spD (K w.params) cls Fl 1))
  (hF:∀ ns:List Int,ns.length<=63->(∀ x∈ns,Dv.bits x<=1048576)->Fl [.lst 0#67]=.ok 0#96 true):
  WalkO q loose XP YP l.row.toRowW d [] (λ f vs=>PySem.call f vs):=by
 refine zm hn hdf λ w s₀ s₁ mg mb fa a vs ns G Y hmg hobj hints hlen hbits hg=>?_
 have KX:=hY w _ Y;obtain⟨fd,cls,hb,hFn⟩:=F w mg fa _ KX G.T.g hmg;have hK:∀ o,(K w.params).lookup a=some o->o={ cls:=.type "list",data:=.seq vs.toArray }:=λ o e=>by
  have:=KX a o e;rw[hobj] at this;exact(Option.some.inj this).symm
 have hl:ns.length<=sizeLine:=D4 hlen 0#2;refine L2.law_call KX G.T.g G.T.b G.T.builtins G.T.nolimit hg hobj hints hl hr hFn hb (λ H hO hS=>?_) λ H e s'=>(hC w).no [] H s₁ e s'
 refine⟨[.lst 0#67],H,rfl,.refl _,?_,?_⟩
 ·refine .cons ?_ .nil
  unfold Rp;refine⟨a,ns.map L2.V.int,rfl,?_,RpL.ofInts ns⟩
  rcases hS with hS|⟨o,its,m,e,_,_,e2,z,v⟩
  ·exact .inl hS
  ·have e3:=hK o e
   subst e3;cases e2;exact .inr ⟨vs,_,e,by rw[Di];exact hl,by simpa using v⟩
 ·rw[hF ns hlen hbits]
  intro v Hv' H' _ rp _;unfold Rp at rp;exact rp
open Dv in
def aA (ad:String->Option Addr)(c:String):Value:=match ad c with
 |some C=>.ref C
 |none=>.none
def c7 {ad:String->Option Addr}{c:String}{C:Addr}(h:ad c=some C):aA ad c=.ref C:=by unfold aA;rw[h]
def kn2 {ad:String->Option Addr}{kn:List String}(h:∀ c∈kn,∃ Ca,ad c=some Ca):∀ c∈kn,∃ Ca,ad c=some Ca/\aA ad c=.ref Ca:=λ c hc=>let ⟨Ca,e⟩:=h c hc;⟨Ca,e,c7 e⟩
def uc (l:List 2#30)(c:String):Option Addr:=l.lookup c
def eX:∀ {l:List (String×Addr)} {c:String} {C:Addr},uc l c=some C->(c,C)∈l
 |[],c,C,h=>by simp[uc] at h
 | (k,v)::r,c,C,h=>by
  unfold uc at h;rw[DK] at h
  split at h
  ·rename_i q
   cases h;rw[beq_iff_eq.mp q];exact Dh ..
  ·exact De _ (eX (l:=r) h)
def yL {K:Frag}{mg:Str->Option Value}(l:List (String×Addr))(h1:∀ p∈l,XCls K mg p.1 p.2/\XLook K p.2/\kitOne K (.ref p.2) (.type "ValueError")=some true)(h2:∀ p∈l,∀ q∈l,kitOne K (.ref p.2) (.ref q.2)=some (Dv.subX p.1 q.1)):XAll K mg (uc l) where
 cl:=λ c C h=>let z:=h1 _ (eX h);⟨z.1,z.2.1⟩
 sub:=λ c C k C' h h'=>h2 _ (eX h) _ (eX h')
 val:=λ c C h=>(h1 _ (eX h)).2.2
def fm_nil {α:Type}{p:α->Prop}:∀ x∈([]:List α),p x:=λ x h=>absurd h 0#5
def bo {α:Type}{p:α->Prop}{a:α}{l:List α}(h:p a)(r:∀ x∈l,p x):∀ x∈a::l,p x:=λ x m=>by
 rcases List.mem_cons.mp m with rfl|m
 ·exact h
 ·exact r x m
end Sd
namespace Dv
def upL (lo:Int):Nat->List Int
 |0=>[]
 |n+1=>lo::upL (lo+1) n
def listRangeD:D->Bool->R
 |.int j,_=>if decide (0<=j)&&decide (j<=100000) then .ok (.lst ((upL 0 j.toNat).map .int)) true else .bad
 |_,_=>.bad
end Dv
namespace Sd
open PySem PySem.Spec PyProof.Rows L2 HT
open Dv (D R RL EE EL EI RI Sl Out SS)
section
variable {C:Ctx}{a:Expr}{f:EE}{pos:Pos}
def r8:∀ (n:Nat) (lo:Int),(Dv.upL lo n).length=n
 |0,lo=>rfl
 |n+1,lo=>by unfold Dv.upL;rw[Dd,r8 n]
def qL:∀ (n:Nat) (lo:Int) (us:List Value),us.length=n->(∀ (j:Nat) (v:Value),us[j]?=some v->∃ t,v=Hk (lo+(j:Int)*1) t)->Vals ((Dv.upL lo n).map V.int) us
 |0,lo,us,h,_=>by
  have:us=[]:=List.length_eq_zero_iff.mp h;subst this;exact .nil
 |n+1,lo,[],h,_=>by simp at h
 |n+1,lo,u::us,h,k=>by
  obtain⟨t,e⟩:=k 0 u rfl;unfold Dv.upL;rw[C9];refine .cons ⟨t,by rw[e];simp⟩ (qL n (lo+1) us 2#17 λ j v hj=>?_);obtain⟨t',e'⟩:=k (j+1) v (by simpa using hj);refine⟨t',by rw[e'];congr 1;omega⟩
def lE {X:Cx}{t:TE}{p p2 pos2:Pos}(hcl:X.calm=true)(hm:X.mg "list"=none)(hg:Gl X "list")(hm2:X.mg "range"=none)(hg2:Gl X "range")(ha:PE X a t)
  (he:starEach [.Call 1#53 [a] [] pos2] X.env=[(false,eval (.Call 1#53 [a] [] pos2) X.env)]) (he2:starEach [a] X.env=[1#1]):
  PE X (.Call (.Name "list" p) [.Call 1#53 [a] [] pos2] [] pos) (λ σ H Q=>t σ H λ x H1=>∃ j:Int,x=.int j/\0<=j/\j<=100000/\∀ l,H1 l=none->Q (.ref l) (upd H1 l (.lst ((Dv.upL 0 j.toNat).map V.int)))):=by
 intro pins s σ H Q I h;refine G1 (cY I hg hm (u:=.type "list") 0#6 ?_ 0#2 0#2);refine GT ?_ he rfl
 rw[he];show wpAny _ _ (spliced ((false,eval (.Call 1#53 [a] [] pos2) X.env)::backTo pos [])) _ _ s
 refine HH ?_
 refine G1 (cY I hg2 hm2 JC ?_ 0#2 0#2);refine GT ?_ he2 rfl
 rw[he2];show wpAny _ _ (spliced (1#1::backTo pos2 [])) _ _ s
 refine HH (thn 0#51 λ u s1 ⟨x,H1,I1,r1,j,e1,j0,j1,go⟩=>?_);subst e1;obtain⟨t,rfl⟩:=r1;refine HL ?_
 refine call_range_1 ?_
 refine HL ?_
 have hsz:Hl 0 j 1=(j.toNat:Nat):=by rw[rangeSize_one];split <;>omega
 refine PySem.call_list_range (I1.ok.hd hcl) (Ke ..) (small_one ⋯ ⋯ ⋯ ⋯) hsz ⋯ λ h' tk acc' c' hk hS hacc=>?_
 have hk2:∀ b u,s1.heap.get? b=some u->h'.get? b=some u:=λ b u q=>hk b u (GC _ q)
 have hle:s1.heap.objs.size<=(s1.heap.push { cls:=.type "range",data:=.fields #[.int 0 s1.toks,.int j t,.int 1 (s1.toks+1)] }).objs.size:=by rw[HB];omega
 refine⟨.ref _,_,I1.laid (t':=tk) (o:=.lst ((Dv.upL 0 j.toNat).map V.int)) hk2 hle ?_,rfl,go _ (I1.hok.fresh hle)⟩;refine⟨?_,acc'.toList,c',qL j.toNat 0 _ (by rw[GX];exact hacc.1) (λ i v hi=>hacc.2 i v (by rw[<- HQ];exact hi)),by simpa using hS⟩;rw[Di,r8,GS];omega
def mo {p p2 pos2:Pos}(hm:C.X.mg "list"=none)(hg:Gl C.X "list")(hm2:C.X.mg "range"=none)(hg2:Gl C.X "range")(ha:SE C a f)
  (he:autoParam (starEach [.Call 1#53 [a] [] pos2] C.X.env=[(false,eval (.Call 1#53 [a] [] pos2) C.X.env)]) ZF._auto_1) (he2:autoParam 0#9 ZF._auto_1) (hcl:autoParam 0#61 ZF._auto_1):
  SE C (.Call (.Name "list" p) [.Call 1#53 [a] [] pos2] [] pos) (Dv.eB1 Dv.listRangeD f):=by
 obtain⟨t,pa,qa⟩:=ha;refine⟨_,lE hcl hm hg hm2 hg2 pa he he2,λ σ H Hv ρ Q e s w=>?_⟩;refine qa.step e 1#7 w λ v d fr Hv1 H1 _ x1 _ rx n1 q=>?_
 cases d with
 |int j=>
  simp only[Dv.listRangeD] at q;unfold Rp at rx;subst rx;by_cases hj:(decide (0<=j)&&decide (j<=100000))=true
  ·simp only[hj,if_true] at q
   have h2:=hj;rw[Dl,decide_eq_true_eq,decide_eq_true_eq] at h2;exact⟨j,rfl,h2.1,h2.2,λ p hp=>Ok.newL q x1 (RpL.ofInts _) (λ _=>RpL.ofInts _) p hp⟩
  ·simp only[hj] at q
   exact Zf q
 |_=>exact Zf q
def oq:∀ {xs:List V} {us:List Value},Vals xs us->Vals xs.reverse us.reverse
 |_,_,.nil=>.nil
 |_,_,.cons r t=>by
  rw[Eg,Eg];exact(oq t).append (.cons r .nil)
def AF {X:Cx}{t:TE}{ts:TO}{st:Expr}{p2:Pos}(he:PE X a t)(hs:PO X (some st) ts):PE X (.Subscript a (.Slice none none (some st) p2) pos) (λ σ H Q=>t σ H λ x H1=>ts σ H1 λ l H2=>∃ b xs,l=some (-1)/\x=.ref b/\SqX X.K H2 b xs/\∀ p,H2 p=none->Q (.ref p) (upd H2 p (.lst xs.reverse))):=by
 intro pins s σ H Q I h;refine JD (thn 0#62 λ v s1 ⟨x,H1,I1,r1,q1⟩=>?_);refine wpAny_Slice ?_
 rw[JJ];refine GD ?_
 refine GD ?_
 refine thn (hs pins s1 σ H1 _ I1 q1) λ vs s3 ⟨l,H3,I3,pl,b,xs,e1,e2,hq,go⟩=>?_
 subst e1 e2;cases r1;have I4:L2.Inv X pins σ H3 { s3 with heap:=s3.heap.push { cls:=.type "slice",data:=.fields #[.none,.none,vs] } }:=I3.kept (t':=s3.toks) λ b ob q=>GC _ q
 obtain⟨its,n,rv,e,z⟩:=Inv.listX I4 hq;have hl:=rv.length;have hli:Heap.IsList (s3.heap.push { cls:=.type "slice",data:=.fields #[.none,.none,vs] }) b its.toArray:=⟨_,e,rfl,n,rfl⟩;show wpAny 0#3 X.A (subscriptTail a (.Slice none none (some st) p2) (.ref b) (.ref s3.heap.objs.size)) 0#53 X.xe { s3 with heap:=s3.heap.push { cls:=.type "slice",data:=.fields #[.none,.none,vs] } }
 refine tail_any (ops:=[.ref b,.ref s3.heap.objs.size]) (T:="list") hli.typeIs slot_list_getitem.lookup ?_ (by with_unfolding_all rfl)
 refine IW hli (J4 ..) .none .none pl 0#5 ?_ (by rw[Ds];omega)
 rw[PySem.W.krv_pick];refine⟨.ref _,_,I4.laid (t':=s3.toks) (o:=.lst xs.reverse) (λ b ob q=>GC _ q) (Du _) ?_,rfl,go _ (I4.hok.fresh (Du _))⟩;exact⟨by rw[ED];exact z,_,0,oq rv,GF _ rfl⟩
end
end Sd
namespace Dv
def lexLt:List Int->List Int->Bool
 |[],[]=>false
 |[],_::_=>true
 |_::_,[]=>false
 |x::xs,y::ys=>if x=y then lexLt xs ys else decide (x<y)
def bestIx (bt:Nat->Nat->Bool):Nat->Nat
 |0=>0
 |k+1=>if bt (k+1) (bestIx bt k) then k+1 else bestIx bt k
def listsOf:List D->Option (List 0#48)
 |[]=>some []
 |.lst ds::r=>match intsOf ds,listsOf r with
  |some ns,some nss=>some (ns::nss)
  |_,_=>none
 |_::_=>none
def leastIx (nss:List 0#48):Nat:=bestIx (λ i j=>lexLt 1#64 (nss.getD j [])) (nss.length-1)
def least (nss:List 0#48):List Int:=nss.getD (leastIx nss) []
def minD:D->Bool->R
 |.lst ds,f=>match listsOf ds with
  |some nss=>if 0<nss.length then .ok (.lst ((least nss).map .int)) f else .bad
  |none=>.bad
 |_,_=>.bad
end Dv
namespace Sd
open PySem PySem.Spec PyProof.Rows L2 HT
open Dv (D R RL EE EL EI RI Sl Out SS)
section
open PySem.SeqAt
open PySem.AutoSeq1 (wpAny_loadPart')
open PySem.MeetsSeq PySem.MeetsSeq2 PySem.MeetsSeq3
def qX {vs:List Value}{ns:List Int}(h:IntsAre vs ns){i:Nat}(hi:i<ns.length):∃ t,vs.toArray[i]?=some (Hk (ns.getD i 0) t):=by
 have hl:=h.length;have e:vs[i]?=some vs[i]:=Dk ⋯
 obtain⟨t,e2⟩:=IntsAre.int_at h i _ e;exact⟨t,by rw[EY,e,e2]⟩
def drop_one (ns:List Int){i:Nat}(h:i<ns.length):ns.drop i=ns.getD i 0::ns.drop (i+1):=by
 rw[Eb h,Dg,Dk h];rfl
def zo (l b:Addr)(vs ws:List Value)(n n2:Nat)(dd dd2:Option Addr)(sl sl2:Array 0#82)(ns ms:List Int)(hv:IntsAre vs ns)(hw:IntsAre ws ms)(k:Nat):
  ∀ i:Nat,ns.length-i=k->i<=ns.length->i<=ms.length->Meets (Builtin.«list.__eq__.loop» ⟨[.ref l,.ref b,rawInt i,rawInt 0],[]⟩)
   (λ A R s=>s.heap.get? l=some { cls:=.type "list",dict:=dd,data:=.seq vs.toArray n,slots:=sl }/\s.heap.get? b=some { cls:=.type "list",dict:=dd2,data:=.seq ws.toArray n2,slots:=sl2 } /\
    R (.ok (.ret (.bool (Dv.lexLt (ns.drop i) (ms.drop i))))) s):=by
 have z1:=hv.length;have z2:=hw.length
 induction k with
 |zero=>
  intro i hk h1 h2 prog w A R s h;obtain⟨hp,g,d,tk,os⟩:=s;obtain⟨hl,hb,h⟩:=h
  wp_walk using wpAny_loadPart' hl,wpAny_loadPart' hb
  have hi1:vs.toArray[((i:Nat):Int).toNat]?=none:=by simp;omega
  rw[hi1]
  wp_walk using wpAny_loadPart' hl,wpAny_loadPart' hb
  show R (.ok (.ret (.bool (decide 1#44)))) _
  have e0:ns.drop i=[]:=EV ⋯;have e:Dv.lexLt (ns.drop i) (ms.drop i)=decide 1#44:=by
   rw[e0,Ds,Ds];by_cases hm:i<ms.length
   ·rw[drop_one ms hm];unfold Dv.lexLt;exact(decide_eq_true ⋯).symm
   ·rw[EV (show ms.length<=i by omega)];unfold Dv.lexLt;exact(decide_eq_false ⋯).symm
  rw[<- e];exact h
 |succ k ih=>
  intro i hk h1 h2 prog w A R s h;obtain⟨hp,g,d,tk,os⟩:=s;obtain⟨hl,hb,h⟩:=h
  wp_walk using wpAny_loadPart' hl,wpAny_loadPart' hb
  have hlt:i<ns.length:=⋯
  obtain⟨t,e1⟩:=qX hv hlt;have hi1:vs.toArray[((i:Nat):Int).toNat]?=some (Hk (ns.getD i 0) t):=by simpa using e1
  have hc:((i:Int)+1)=((i+1:Nat):Int):=by push_cast;rfl
  by_cases hm:i<ms.length
  ·obtain⟨t2,e2⟩:=qX hw hm
   have hi2:ws.toArray[((i:Nat):Int).toNat]?=some (Hk (ms.getD i 0) t2):=by simpa using e2
   rw[drop_one ns hlt,drop_one ms hm] at h;unfold Dv.lexLt at h;rw[hi1,hi2];obtain⟨e,he,hiff⟩:=wt A.in1 ⟨hp,g,d,tk,os⟩ (ns.getD i 0) t (ms.getD i 0) t2;refine GB (he prog w _ _ ?_);cases e with
   |true=>
    rw[if_pos (hiff.mp rfl)] at h
    wp_walk
    rw[hc];exact⟨Hw plain_eq_loop _,G8 entry_eq_loop (by
     rw[G3 plain_eq_loop _];exact ih (i+1) ⋯ ⋯ ⋯ prog w A R _ ⟨hl,hb,h⟩)⟩
   |false=>
    rw[if_neg (λ q=>absurd (hiff.mpr q) DB)] at h;have hri:=vR A.in1 ⟨hp,g,d,tk,os⟩ (ns.getD i 0) t (ms.getD i 0) t2 prog w
    wp_walk using wpAny_loadPart' hl,wpAny_loadPart' hb
    rw[hi1,hi2]
    wp_walk using hri
    exact h
  ·have hi2:ws.toArray[((i:Nat):Int).toNat]?=none:=by simp;omega
   rw[hi1,hi2]
   wp_walk using wpAny_loadPart' hl,wpAny_loadPart' hb
   show R (.ok (.ret (.bool (decide 1#44)))) _
   have e:Dv.lexLt (ns.drop i) (ms.drop i)=decide 1#44:=by
    rw[Ds,Ds,drop_one ns hlt,EV (show ms.length<=i by omega)];unfold Dv.lexLt;exact(decide_eq_false ⋯).symm
   rw[<- e];exact h
def rQ (l b:Addr)(vs ws:List Value)(n n2:Nat)(dd dd2:Option Addr)(sl sl2:Array 0#82)(ns ms:List Int)(hv:IntsAre vs ns)(hw:IntsAre ws ms):
  Meets (Builtin.«list.__lt__» ⟨[.ref l,.ref b],[]⟩)
   (λ A R s=>s.heap.get? l=some { cls:=.type "list",dict:=dd,data:=.seq vs.toArray n,slots:=sl }/\s.heap.get? b=some { cls:=.type "list",dict:=dd2,data:=.seq ws.toArray n2,slots:=sl2 } /\
    R (.ok (.ret (.bool 2#10))) s):=by
 intro prog w A R s h;obtain⟨hp,g,d,tk,os⟩:=s;obtain⟨hl,hb,h⟩:=h;have f3:=AutoSeq1.sub_list_list
 wp_walk using wpAny_loadPart' hl,wpAny_loadPart' hb
 exact⟨Hw plain_eq_loop _,G8 entry_eq_loop (by
  rw[G3 plain_eq_loop _];exact zo l b vs ws n n2 dd dd2 sl sl2 ns ms hv hw _ 0 rfl (D7 _) (D7 _) prog w A R _ ⟨hl,hb,by simpa using h⟩)⟩
end
def uZ {prog:Program}{w:World}{A:Around}{E:Value->Shared->Prop}{s:Shared}{l b:Addr}{vs ws:List Value}{n n2:Nat}{ns ms:List Int}{Q:Value->Shared->Prop}
  (hl:s.heap.get? l=some { cls:=.type "list",data:=.seq vs.toArray n }) (hb:s.heap.get? b=some { cls:=.type "list",data:=.seq ws.toArray n2 }) (hi:IntsAre vs ns) (hj:IntsAre ws ms)
  (hu:A.units<cLine) (h:Q (.bool 2#10) s):wpAny 0#7 A (richCompare .Lt (.ref l) (.ref b)) Q E s:=
 (richCompare_meets_room (op:=.Lt) ⟨_,hl,rfl⟩ ⟨_,hb,rfl⟩ Iz Jw (Jp _ _) (rQ l b vs ws n n2 none none #[] #[] ns ms hi hj)
  ⟨hl,hb,show IT 2#10≠Value.notImplemented/\Q (.bool 2#10) s from ⟨(λ x=>nomatch x),h⟩⟩ hu:wpAny 0#7 A (compareOp .Lt (.ref l) (.ref b)) Q E s)
section
variable {prog:Program}{w:World}{A:Around}{R':Result->Shared->Prop}{I:Addr}{fp wr:List Addr}{n:Nat}{P:Nat->Value->Prop}{St:Nat->Heap->Prop}
def vK (W:Walks prog w A.in1 I fp wr n P St)(bt:Nat->Nat->Bool)(G:Heap->Prop)(S:Addr)(hSf:S∉fp)
  (hG:∀ h h',G h->(∀ b o,b∉wr->b≠S->h.get? b=some o->h'.get? b=some o)->G h')
  (hcmp:∀ i j vi vj (s:Shared) (Q:Value->Shared->Prop) (E:Value->Shared->Prop),G s.heap->P i vi->P j vj->Q (.bool (bt i j)) s->wpAny 0#7 A.in1 (richCompare .Lt vi vj) Q E s):
  ∀ (k j:Nat) (s:Shared) (vb:Value) (c:Nat),n-(j+1)=k->j+1<=n->St (j+1) s.heap->G s.heap->P (Dv.bestIx bt j) vb ->
  s.heap.get? S=some { cls:=.type "list",dict:=none,data:=.seq #[vb,vb] c,slots:=#[] } ->
  (∀ v h' tk,P (Dv.bestIx bt (n-1)) v->(∀ b o,b∉wr->b≠S->s.heap.get? b=some o->h'.get? b=some o)->R' (.ok (.ret v)) { s with heap:=h',toks:=tk }) ->
  codeAny 0#7 A (.builtin "min.loop" ⟨[.ref I,.none,.ref S],[]⟩) R' s:=by
 have hSw:S∉wr:=λ h=>hSf (W.sub _ h)
 have hname:(toString "min"++toString ".loop":String)="min.loop":=by decide
 intro k
 induction k with
 |zero=>
  intro j s vb c hk hj hst _ hPb hS hR;have hin:j+1=n:=⋯
  refine G8 IY ?_
  rw[G3 Ho _];show wpAny _ A.in1 (seqItems? (.ref S) >>= _) _ _ s
  refine GB (Jx hS rfl ?_);show wpAny _ A.in1 (tryCatch 2#28 _ >>= _) _ _ s
  refine GB (IH (W.done s _ _ (hin▸hst) λ h' tk hk'=>?_));have hS':=hk' S _ hSw hS;show wpAny _ A.in1 (updateSeq S (λ _=>#[]) >>= _) _ _ _
  refine GB (Jh hS' rfl (GB (Jq (GD ?_))));exact hR vb _ tk (by rw[<- hin];exact hPb) λ b o hbw hbS e=>(GK _ _ (Ne.symm hbS)).trans (hk' b o hbw e)
 |succ k ih=>
  intro j s vb c hk hj hst hg hPb hS hR;refine G8 IY ?_
  rw[G3 Ho _];show wpAny _ A.in1 (seqItems? (.ref S) >>= _) _ _ s
  refine GB (Jx hS rfl ?_);show wpAny _ A.in1 (tryCatch 2#28 _ >>= _) _ _ s
  refine GB (IH (W.item (j+1) s _ _ ⋯ hst λ v h' tk hP hst' hk'=>?_));have hS':=hk' S _ hSw hS;have hg':G h':=hG _ _ hg λ b o h1 _ e=>hk' b o h1 e
  show wpAny _ A.in1 (tryCatch (holding [v,v] (richCompare .Lt v vb >>= _)) _ >>= _) _ _ _
  refine GB (IH (G9 (GB (hcmp (j+1) (Dv.bestIx bt j) v vb _ _ _ hg' hP hPb ?_))));refine GB (G9 (Hy (GB (Jq (GD ?_)))));cases hb:bt (j+1) (Dv.bestIx bt j) with
  |true=>
   simp only[if_true];refine GB (Jh hS' rfl (GB (Jq ?_)));rw[hname];refine GD ⟨Hw Ho _,ih (j+1) _ v _ ⋯ ⋯ (W.frame _ _ _ hst' λ b hbf o e=>?_) (hG _ _ hg' λ b o _ h2 e=>(GK _ _ (Ne.symm h2)).trans e)
    (by simp only[Dv.bestIx,hb,if_true];exact hP) (HP _ hS' rfl) λ v' h2 tk2 hP' hk2=>?_⟩
   ·exact(GK _ _ (λ h:S=b=>hSf (by rw[h];exact hbf))).trans e
   ·exact hR v' h2 tk2 hP' λ b o hbw hbS e=>hk2 b o hbw hbS ((GK _ _ (Ne.symm hbS)).trans (hk' b o hbw e))
  |false=>
   simp only[Dx,if_false];refine GB (Jq ?_);rw[hname];refine GD ⟨Hw Ho _,ih (j+1) _ vb c ⋯ ⋯ hst' hg' (by simp only[Dv.bestIx,hb,Dx,if_false];exact hPb) hS' λ v' h2 tk2 hP' hk2=>?_⟩;exact hR v' h2 tk2 hP' λ b o hbw hbS e=>hk2 b o hbw hbS (hk' b o hbw e)
def uB {E:Value->Shared->Prop}{s:Shared}{x:Value}{Q:Value->Shared->Prop}
  (h:wpAny 0#7 A.in1 (pyIter x) (λ it s₂=>∃ I fp wr n P St bt,∃ G:Heap->Prop,it=.ref I/\Walks prog w A.in1 I fp wr n P St/\St 0 s₂.heap/\(∀ b∈fp,b<s₂.heap.objs.size)/\0<n/\G s₂.heap /\
   (∀ h h',G h->(∀ b o,b∉wr->b≠s₂.heap.objs.size->h.get? b=some o->h'.get? b=some o)->G h') /\
   (∀ i j vi vj (s:Shared) (Q:Value->Shared->Prop) (E:Value->Shared->Prop),G s.heap->P i vi->P j vj->Q (.bool (bt i j)) s->wpAny 0#7 A.in1 (richCompare .Lt vi vj) Q E s) /\
   ∀ v h' tk,P (Dv.bestIx bt (n-1)) v->(∀ b o,b∉wr->s₂.heap.get? b=some o->h'.get? b=some o)->Q v { s₂ with heap:=h',toks:=tk }) E s):
  wpAny 0#7 A (call (.builtin "min") [x]) Q E s:=by
 have hname:(toString "min"++toString ".loop":String)="min.loop":=by decide
 refine call_function_tree F.kind_min F.plain_min F.entry_min (F.args_min1 _) ?_
 show wpAny _ A.in1 (IJ "min" ["key","default"] 0 ⟨[],[]⟩ >>= _) _ _ s
 refine GB (Kf (show IJ "min" ["key","default"] 0 ⟨[],[]⟩=pure [none,none] from rfl) ?_);refine GB (GD ?_);refine GB (GL h (λ it s₂ h₂=>?_) λ _ _ e=>e);obtain⟨I,fp,wr,n,P,St,bt,G,rfl,W,hst,hfp,hn,hg,hG,hcmp,hQ⟩:=h₂;refine GB (HM ?_);have hSf:s₂.heap.objs.size∉fp:=λ hm=>D0 _ (hfp _ hm)
 have hSw:s₂.heap.objs.size∉wr:=λ hm=>hSf (W.sub _ hm)
 rw[hname];refine GD ⟨Hw Ho _,G8 IY ?_⟩;rw[G3 Ho _];show wpAny _ A.in1 (seqItems? (.ref s₂.heap.objs.size) >>= _) _ _ _
 refine GB (Jx (GF _ rfl) rfl ?_);show wpAny _ A.in1 (tryCatch 2#28 _ >>= _) _ _ _
 refine GB (IH (W.item 0 _ _ _ hn (W.frame _ _ _ hst λ b _ o e=>GC _ e) λ v h' tk hP hst' hk'=>?_));have hS':=hk' s₂.heap.objs.size _ hSw (GF _ rfl);have hg':G h':=hG _ _ hg λ b o h1 _ e=>hk' b o h1 (GC _ e)
 show wpAny _ A.in1 (updateSeq s₂.heap.objs.size (λ _=>#[v,v]) >>= _) _ _ _
 refine GB (Jh hS' rfl ?_);rw[hname];refine GD ⟨Hw Ho _,vK W bt G s₂.heap.objs.size hSf hG hcmp _ 0 _ v _ rfl hn (W.frame _ _ _ hst' λ b hbf o e=>?_) (hG _ _ hg' λ b o _ h2 e=>(GK _ _ (Ne.symm h2)).trans e) hP (HP _ hS' rfl) λ v' h2 tk2 hP' hk2=>?_⟩
 ·exact(GK _ _ (λ h:s₂.heap.objs.size=b=>hSf (by rw[h];exact hbf))).trans e
 ·exact hQ v' h2 tk2 hP' λ b o hbw e=>hk2 b o hbw (Dy (GE e)) ((GK _ _ (E7 (GE e))).trans (hk' b o hbw (GC _ e)))
end
def q8 (bt:Nat->Nat->Bool):∀ k,Dv.bestIx bt k<=k
 |0=>Du _
 |k+1=>by
  unfold Dv.bestIx
  split
  ·exact Du _
  ·exact ET (q8 bt k)
def wq {nss:List (List Int)}(h:0<nss.length):Dv.leastIx nss<nss.length:=by
 have:=q8 (λ i j=>Dv.lexLt 1#64 (nss.getD j [])) (nss.length-1);unfold Dv.leastIx;omega
def sZ {X:Cx}(hc:X.calm=true)(hu:X.A.units+64<cLine):cP X (.builtin "min") (λ xs H Q=>∃ p vs nss,xs=[.ref p]/\SqX X.K H p vs/\vs.length=nss.length/\0<nss.length /\
  (∀ i,i<nss.length->∃ q,vs[i]?=some (.ref q)/\SqX X.K H q ((nss.getD i []).map V.int))/\∃ q,vs[Dv.leastIx nss]?=some (.ref q)/\Q (.ref q) H):=by
 intro pins s σ H xs us Q I r h;obtain⟨p,vs,nss,rfl,hq,hlen,hpos,hin,q,hbest,go⟩:=h;obtain⟨u,rfl,rx⟩:=vals1 r;cases rx;obtain⟨its,n,rv,e,z⟩:=Inv.listX I hq;have hl:=rv.length;have key:∀ i,i<nss.length->∃ q ws m,its[i]?=some (.ref q)/\q<s.heap.objs.size/\s.heap.get? q=some { cls:=.type "list",data:=.seq ws.toArray m }/\IntsAre ws 1#64:=λ i hi=>by
  obtain⟨q,h1,h2⟩:=hin i hi;obtain⟨u,h3,h4⟩:=rv.get h1;cases h4;obtain⟨ws,m,rw',e',_⟩:=Inv.listX I h2;exact⟨q,ws,m,h3,GE e',e',intsAre_of rw'⟩
 have hli:s.heap.IsList p its.toArray:=⟨_,e,rfl,n,rfl⟩;have hlt:p<s.heap.objs.size:=GE e;refine uB (Il hli ?_);refine⟨s.heap.objs.size,[s.heap.objs.size,p],[s.heap.objs.size],its.toArray.size,_,_,λ i j=>Dv.lexLt 1#64 (nss.getD j []),
  λ h=>∀ i,i<nss.length->∃ q ws m,its[i]?=some (.ref q)/\q<s.heap.objs.size/\h.get? q=some { cls:=.type "list",data:=.seq ws.toArray m }/\IntsAre ws 1#64,rfl,
  Walks.list (A:=X.A.in1) 1#75 _ p (Dy hlt) its.toArray,⟨⟨_,GF _ rfl,rfl,rfl⟩,hli.push _⟩,λ b hb=>?_,by rw[Ds];omega,λ i hi=>?_,λ h h' hg hk i hi=>?_,λ i j vi vj s' Q' E' hg hi hj hQ=>?_,λ v h' tk hP hk=>?_⟩
 ·show b<(s.heap.push _).objs.size
  rw[HB]
  rcases List.mem_cons.mp hb with rfl|hb
  ·exact DR _
  ·rcases List.mem_cons.mp hb with rfl|hb
   ·exact D8 hlt
   ·cases hb
 ·obtain⟨q,ws,m,h1,h2,h3,h4⟩:=key i hi
  exact⟨q,ws,m,h1,h2,GC _ h3,h4⟩
 ·obtain⟨q,ws,m,h1,h2,h3,h4⟩:=hg i hi
  refine⟨q,ws,m,h1,h2,hk q _ (λ hm=>?_) (λ hm=>?_) h3,h4⟩
  ·rw[List.mem_singleton.mp hm] at h2;exact D0 _ h2
  ·have:q=s.heap.objs.size+1:=by rw[hm];exact HB ..
   exact absurd h2 (by rw[this];exact Nat.not_lt.mpr (Ez _))
 ·have li:i<nss.length:=by
   have:i<its.toArray.size:=by
    rcases Fy i its.toArray.size with h|h
    ·exact h
    ·rw[Hr h] at hi;cases hi
   rw[Ds] at this;omega
  have lj:j<nss.length:=by
   have:j<its.toArray.size:=by
    rcases Fy j its.toArray.size with h|h
    ·exact h
    ·rw[Hr h] at hj;cases hj
   rw[Ds] at this;omega
  obtain⟨q1,ws1,m1,a1,a2,a3,a4⟩:=hg i li;obtain⟨q2,ws2,m2,b1,b2,b3,b4⟩:=hg j lj;rw[EY] at hi hj;rw[a1] at hi;rw[b1] at hj;cases hi;cases hj;exact uZ a3 b3 a4 b4 (by rw[Around.in1_units];omega) hQ
 ·obtain⟨u,h3,h4⟩:=rv.get hbest
  cases h4;rw[EY,Ds,show its.length=nss.length by omega] at hP;have hP2:its[Dv.leastIx nss]?=some v:=hP
  rw[h3] at hP2;cases hP2;have hk2:∀ b o,s.heap.get? b=some o->h'.get? b=some o:=λ b o eb=>by
   refine hk b o (λ hm=>?_) (GC _ eb);rw[List.mem_singleton.mp hm] at eb;exact D0 _ (GE eb)
  exact⟨.ref q,H,I.kept hk2,rfl,go⟩
section
variable {C:Ctx}
def gQ {K:GA}{H:Hp}:∀ {ds:List D} {vs:List V} {nss:List 0#48},Dv.listsOf ds=some nss->RpL K H ds vs->vs.length=nss.length/\∀ i,i<nss.length->∃ q,vs[i]?=some (.ref q)/\SqX K H q ((nss.getD i []).map V.int)
 |[],vs,nss,h,r=>by
  unfold Dv.listsOf at h;cases h;unfold RpL at r;subst r;exact⟨rfl,λ i hi=>by simp at hi⟩
 |d::ds,vs,nss,h,r=>by
  cases d with
  |lst xs=>
   simp only[Dv.listsOf] at h;cases h1:Dv.intsOf xs with
   |none=>rw[h1] at h;cases h
   |some ns=>
    cases h2:Dv.listsOf ds with
    |none=>rw[h1,h2] at h;cases h
    |some ms=>
     rw[h1,h2] at h;cases h;unfold RpL at r;obtain⟨v,r',rfl,hv,hr⟩:=r;obtain⟨l1,l2⟩:=gQ h2 hr;unfold Rp at hv;obtain⟨l,ws,rfl,g1,g2⟩:=hv;have e1:=RpL.ints h1 g2;subst e1;refine⟨by simp[l1],λ i hi=>?_⟩;cases i with
     |zero=>exact⟨l,rfl,g1⟩
     |succ i=>exact l2 i 1#11
  |_=>unfold Dv.listsOf at h;cases h
def zk (hc:C.X.calm=true)(hu:C.X.A.units+64<cLine):C1S C (.builtin "min") Dv.minD:=by
 refine⟨_,sZ hc hu,λ x d fr H Hv H1 Hv1 W Q e rx n q=>?_⟩;cases d with
 |lst ds=>
  simp only[Dv.minD] at q;cases hi:Dv.listsOf ds with
  |none=>rw[hi] at q;exact Zf q
  |some nss=>
   rw[hi] at q;by_cases hp:0<nss.length
   ·simp only[hp,if_true] at q
    have hb:=wq hp;cases fr with
    |false=>
     unfold Rp at rx;obtain⟨l,vs,rfl,h1,h2⟩:=rx;obtain⟨l1,l2⟩:=gQ hi h2;obtain⟨q',b1,b2⟩:=l2 _ hb;refine⟨l,vs,nss,rfl,h1.same e.vh,l1,hp,λ i hi2=>?_,q',b1,?_⟩
     ·obtain⟨a,a1,a2⟩:=l2 i hi2
      exact⟨a,a1,a2.same e.vh⟩
     ·exact q _ Hv1 H1 e (by unfold Rp;exact⟨q',_,rfl,b2,RpL.ofInts _⟩) λ hf=>nomatch hf
    |true=>
     have rn:=n rfl;have conv:∀ {a:Addr} {ys:List V},SqX [] 2#49 a ys->SqX C.X.K H1 a ys:=λ h=>by
      rcases h with h|⟨its,n,e,_⟩
      ·exact .inl (Rd.same Hnew.sub h)
      ·simp at e
     unfold Rp at rn;obtain⟨l,vs,rfl,h1,h2⟩:=rn;obtain⟨l1,l2⟩:=gQ hi h2;obtain⟨q',b1,b2⟩:=l2 _ hb;have hr:Rp [] 2#49 (.lst ((Dv.least nss).map .int)) (.ref q'):=by unfold Rp;exact⟨q',_,rfl,b2,RpL.ofInts _⟩
     refine⟨l,vs,nss,rfl,conv h1,l1,hp,λ i hi2=>?_,q',b1,?_⟩
     ·obtain⟨a,a1,a2⟩:=l2 i hi2
      exact⟨a,a1,conv a2⟩
     ·exact q _ Hv1 H1 e ((Rp.frag hr).same e.news) λ _=>hr
   ·simp only[hp,if_false] at q
    exact Zf q
 |_=>exact Zf q
def zu {a:Expr}{f:EE}{p pos:Pos}(hu:C.X.A.units+64<cLine)(hm:C.X.mg "min"=none)(hg:Gl C.X "min")(ha:SE C a f)(he:autoParam 0#9 ZF._auto_1)(hcl:autoParam 0#61 ZF._auto_1):SE C (.Call (.Name "min" p) [a] [] pos) (Dv.eB1 Dv.minD f):=
 kB (zk hcl hu) hg hm 0#6 ha 0#2 0#2 he
end
def qZ {K:GA}{mg:Str->Option Value}{ad:String->Option Addr}(xa:XAll K mg ad){c:String}{C:Addr}(hc:ad c=some C):∀ {ks:List String} {Cs:List Addr},ks.map ad=Cs.map some->Ko K (.ref C) (Cs.map GH)=some 1#59
 |[],[],_=>rfl
 |[],_::_,h=>by simp at h
 |_::_,[],h=>by simp at h
 |k::ks,C'::Cs,h=>by
  simp only[C9,List.cons.injEq] at h;have h1:=xa.sub c C k C' hc h.1;have h2:=qZ xa hc h.2;rw[C9];unfold Ko;rw[h1,Eu];cases Dv.subX c k with
  |true=>rfl
  |false=>exact h2
def sx:∀ {Cs:List Addr} {its:List Value},Vals (Cs.map V.ref) its->its=Cs.map GH
 |[],_,.nil=>rfl
 |_::_,_,.cons r t=>by rw[C9,<- sx t];exact congrArg (·::_) r
def uj {X:Cx}{ad:String->Option Addr}(xa:XAll X.K X.mg ad){ks:List String}{Cs:List Addr}(hk:ks.map ad=Cs.map some):
  cP X (.builtin "isinstance") (λ xs H Q=>∃ x c tp,xs=[x,.ref tp]/\SqT X.K H tp (Cs.map V.ref)/\(∃ C,ad c=some C)/\Rp X.K H (.exn c) x/\Q (.bl 1#59) H):=by
 intro pins s σ H xs us Q I r h;obtain⟨x,c,tp,rfl,hT,⟨C,hc⟩,rp,q⟩:=h;obtain⟨u,w',rfl,ru,rw'⟩:=vals2 r;obtain rfl:w'=GH tp:=rw';unfold Rp at rp;obtain⟨a,C2,rfl,n2,h2⟩:=rp;obtain⟨x1,x2⟩:=xa.cl c C hc;have e:C2=C:=by
  have:=n2.symm.trans x1.ns;simpa using this
 subst e;cases ru;obtain⟨p,_⟩:=I.hok a _ h2;obtain⟨its,rv,ht,hz⟩:=I.tuple hT;obtain⟨⟨cls,dd,data,sl⟩,ho,hcl,n,hd⟩:=id ht;simp only at hcl hd;subst hcl hd;have hits:=sx rv;subst hits;exact PySem.W.kia_tup (jZ x2) I.kIn p ho (qZ xa hc hk) 0#65 λ tk=>⟨.bl 1#59,H,I.tok tk,rfl,q⟩
section
variable {C:Ctx}{a:Expr}{f:EE}{pos:Pos}{kn:List String}{ad:String->Option Addr}
def PN (C:Ctx)(ad:String->Option Addr)(es:List Expr)(ks:List String):Prop:=∃ Cs:List Addr,ks.map ad=Cs.map some/\PA C.X es (λ _ H Q=>Q (Cs.map V.ref) H)
def mn:PN C ad [] []:=⟨[],rfl,ay⟩
def bg (xa:XAll C.X.K C.X.mg ad){k:String}{Ck:Addr}{es:List Expr}{ks:List String}{p2:Pos}(hk:ad k=some Ck)(hgk:Gl C.X (GG k))(h:PN C ad es ks)(hd:autoParam ((GG k == ("__debug__":Str))=false) ZC._auto_1)
  (he:autoParam (starEach (.Name (GG k) p2::es) C.X.env=(false,eval (.Name (GG k) p2) C.X.env)::starEach es C.X.env) ZF._auto_1):PN C ad (.Name (GG k) p2::es) (k::ks):=by
 obtain⟨Cs,h1,h2⟩:=h;obtain⟨y1,y2⟩:=xa.cl k Ck hk;exact⟨Ck::Cs,by simp[hk,h1],aq (gL (v:=.ref Ck) hgk y1.m rfl hd) h2 he⟩
def iW (xa:XAll C.X.K C.X.mg ad)(hkn:∀ c∈kn,∃ Ca,ad c=some Ca){es:List Expr}{ks:List String}{p p2:Pos}{kt}(hm:C.X.mg "isinstance"=none)(hg:Gl C.X "isinstance")(ha:SE C a f)(hp:PN C ad es ks)(hz:autoParam (ks.length<=100) ZC._auto_1)
  (he:autoParam (starEach [a,.Tuple es kt p2] C.X.env=1#36::starEach [.Tuple es kt p2] C.X.env) ZF._auto_1)
  (he2:autoParam (starEach [.Tuple es kt p2] C.X.env=[(false,eval (.Tuple es kt p2) C.X.env)]) ZF._auto_1):SE C (.Call 1#79 [a,.Tuple es kt p2] [] pos) (Dv.eB1 (Dv.isXD kn ks) f):=by
 obtain⟨t,pa,qa⟩:=ha;obtain⟨Cs,h1,h2⟩:=hp;have hlen:ks.length=Cs.length:=by simpa using congrArg List.length h1
 refine⟨_,bu (uj xa h1) hg hm 0#6 (aq pa (aq (eQ h2) ay he2) he) 0#2 0#2 he (by rw[he2];rfl),λ σ H Hv ρ Q e s w=>?_⟩;refine qa.step e 1#7 w λ v d fr Hv1 H1 _ x1 _ rp1 _ q1=>?_
 cases d with
 |exn c=>
  by_cases hc:kn.contains c=true
  ·have q2:Ok C.X.K Hv H (C.W σ) C.cls (.ok (.bl 1#59) true) Q:=by
    have:Dv.isXD kn ks (.exn c) fr=.ok (.bl 1#59) true:=if_pos hc;rw[this] at q1;exact q1
   obtain⟨Ca,hca⟩:=hkn c (List.contains_iff_mem.mp hc);refine⟨by rw[Di,GS];omega,λ tp htp=>?_⟩;refine⟨v,c,tp,rfl,.inl (.inl (ai)),⟨Ca,hca⟩,(rp1.same x1.vh).same (gw htp _),?_⟩;exact q2.at (v:=.bl 1#59) (x1.trans (Ext.new1 x1.vh htp _)) cE rfl
  ·have:Dv.isXD kn ks (.exn c) fr=.bad:=if_neg hc
   rw[this] at q1;exact q1.elim
 |_=>exact Zf q1
end
end Sd
namespace Dv
def look:List Int->List D->Int->Option D
 |k::ks,d::ds,j=>if k=j then some d else look ks ds j
 |_,_,_=>none
def replL:List Int->List D->Int->D->List D
 |k::ks,d::ds,j,x=>(if k=j then x else d)::replL ks ds j x
 |_,ds,_,_=>ds
def putL (ks:List Int)(ds:List D)(j:Int)(x:D):List D:=if j∈ks then replL ks ds j x else ds++[x]
def putKs (ks:List Int)(j:Int):List Int:=if j∈ks then ks else ks++[j]
def eDict0:EE:=λ _=>.ok (.dct [] []) true
def eDix (a k:EE):EE:=λ ρ=>(a ρ).bind λ x f=>(k ρ).bind λ y _=>match x,y with
 |.dct ks ds,.int j=>match look ks ds j with
  |some d=>.ok d (f || scal d)
  |none=>.bad
 |_,_=>.bad
def sDPut (is:List Nat)(i:Nat)(k e:EE):SS:=λ st=>match (give is st)[i]? with
 |some (.ow 0#42)=>match e 1#58 with
  |.ok d _=>match k 1#58 with
   |.ok (.int j) _=>if decide (ks.length<mx)&&decide 1#87 then .nx ((give is st).set i (.ow (.dct (putKs ks j) (putL ks ds j d)))) else .bad
   |.exc c=>.exc c st
   |_=>.bad
  |.exc c=>.exc c st
  |.bad=>.bad
 |_=>.bad
def lstsFlat:List D->Bool
 |[]=>true
 |.lst es::r=>flatL es&&lstsFlat r
 |_::_=>false
def sDMove (i y:Nat)(k:EE):SS:=λ st=>match st[i]?,st[y]? with
 |some (.dp 0#42),some (.ow 2#76)=>match k (all st) with
  |.ok (.int j) _=>if flatL es&&lstsFlat ds&&decide (ks.length<mx)&&decide 1#87&&decide (i≠y) then .nx ((st.set y .no).set i (.dp (.dct (putKs ks j) (putL ks ds j 2#76)))) else .bad
  |.exc c=>.exc c st
  |_=>.bad
 |_,_=>.bad
def enumL:Nat->List D->List D
 |_,[]=>[]
 |i,d::r=>.tup [.int i,d]::enumL (i+1) r
def iEnum (a:EE):EI:=λ ρ=>match a ρ with
 |.ok 1#37 _=>.ok (enumL 0 xs) true
 |.exc c=>.exc c
 |_=>.bad
def downL (hi:Int):Nat->List D
 |0=>[]
 |n+1=>.int hi::downL (hi-1) n
def iDown (a b:EE):EI:=λ ρ=>match a ρ with
 |.ok (.int i) _=>match b ρ with
  |.ok (.int j) _=>if rngOk i&&rngOk j then .ok (downL i (i-j).toNat) true else .bad
  |.exc c=>.exc c
  |_=>.bad
 |.exc c=>.exc c
 |_=>.bad
def sForR (x:Nat)(it:EI)(body:SS):SS:=λ st=>match it (all st) with
 |.ok ds _=>forGo x body ds st
 |.exc c=>.exc c st
 |.bad=>.bad
def blsOf:List D->Option (List Bool)
 |[]=>some []
 |.bl b::r=>(blsOf r).map (b::·)
 |_::_=>none
def allD:D->Bool->R
 |.lst ds,_=>match blsOf ds with
  |some bs=>.ok (.bl (bs.all id)) true
  |none=>.bad
 |_,_=>.bad
def minI:Int->List Int->Int
 |a,[]=>a
 |a,b::r=>minI (if b<a then b else a) r
def minLD:D->Bool->R
 |.lst ds,_=>match intsOf ds with
  |some (n::ns)=>.ok (.int (minI n ns)) true
  |_=>.bad
 |_,_=>.bad
def sAug (i:Nat)(o:Op)(e:EE):SS:=λ st=>match st[i]? with
 |some (.sh (.int x))=>match e (all st) with
  |.ok (.int y) _=>match opD o (.int x) (.int y) with
   |.ok (.int z) _=>.nx (st.set i (.sh (.int z)))
   |_=>.bad
  |.exc c=>.exc c st
  |_=>.bad
 |_=>.bad
def sAppG (is:List Nat)(i:Nat)(e:EE):SS:=λ st=>match (give is st)[i]? with
 |some 2#11=>match e 1#58 with
  |.ok d _=>if decide (ds.length<mx) then .nx ((give is st).set i (.ow (.lst (ds++[d])))) else .bad
  |.exc c=>.exc c st
  |.bad=>.bad
 |_=>.bad
def sAppF (i:Nat)(e:EE):SS:=λ st=>match st[i]? with
 |some 2#11=>match e (all st) with
  |.ok d true=>if decide (ds.length<mx) then .nx (st.set i (.ow (.lst (ds++[d])))) else .bad
  |.ok _ false=>.bad
  |.exc c=>.exc c st
  |.bad=>.bad
 |_=>.bad
def sSetD (i:Nat)(e:EE):SS:=λ st=>match e (all st) with
 |.ok d true=>.nx (st.set i (.dp d))
 |.ok _ false=>.bad
 |.exc c=>.exc c st
 |.bad=>.bad
def sRetT (i:Nat)(e:EE):SS:=λ st=>match st[i]? with
 |some 2#11=>match e (all st) with
  |.ok 2#76 true=>if flatL ds&&flatL es then .ret (.tup [.lst ds,.lst es]) true else .bad
  |.exc c=>.exc c st
  |_=>.bad
 |_=>.bad
def shapeL:List D->Option Nat
 |[]=>some 0
 |.lst ds::r=>if flatL ds then (shapeL r).map (max ds.length) else none
 |_::_=>none
def shapeD:D->Option (Nat×Nat)
 |.lst ds=>(shapeL ds).map (ds.length,·)
 |.tup ds=>(shapeL ds).map (ds.length,·)
 |_=>none
def junk:Sl->Option (Nat×Nat)
 |.dp d=>shapeD d
 |.jk n m=>some (n,m)
 |_=>none
def sKill (i:Nat)(k:Nat)(e:EE):SS:=λ st=>match st[i]? with
 |some s=>match junk s with
  |some (n,m)=>match e (all st) with
   |.ok d _=>if scal d&&decide (k<n)&&decide (m<mx) then .nx (st.set i (.jk n (m+1))) else .bad
   |_=>.bad
  |none=>.bad
 |none=>.bad
end Dv
namespace Sd
open PySem PySem.Spec PyProof.Rows L2
open Dv (D R RL EE EL EI RI Sl Out SS)
section
variable {C:Ctx}{a b c e k:Expr}{f g h:EE}{F G:SS}{pos pos':Pos}{E:Ends}
def ipC (P:Int->Int->Prop)(f:Int->Int->Int):TIp:=λ x y H Q=>∃ i j,x=.int i/\y=.int j/\P i j/\Q (.int (f i j)) H
def yP {X:Cx}:PIp X .Mult (ipC (λ i j=>Dv.mulOk i j=true) λ i j=>i*j):=by
 intro pins s σ H x y v u Q I r1 r2 h;obtain⟨i,j,e1,e2,hc,q⟩:=h;subst e1;subst e2;obtain⟨t,rfl⟩:=r1;obtain⟨t',rfl⟩:=r2;refine PyProof.Rows.imul_int ⟨.int _,H,I.tok _,⟨_,rfl⟩,q⟩ ?_
 unfold Dv.mulOk at hc;simp only[EH,Dl,decide_eq_true_eq,<- qo] at hc
 rcases hc with (hc|hc)|hc
 ·exact .of_left hc
 ·exact .of_right hc
 ·exact .of_bits (by simpa using hc.1) (by simpa using hc.2)
def qW {op:Operator}{o:Dv.Op}{ti:TIp}(ho:PIp C.X op ti)(hop:∀ x y z fr H Q,Dv.opD o (.int x) (.int y)=.ok (.int z) fr->Q (.int z) H->ti (.int x) (.int y) H Q)
  {i:Nat} {x:Str} (he:SE C e f) (hN:C.X.N.Nodup) (hi:C.X.N[i]?=some x) (hx:Loc C.X.env.scope x) (hf:autoParam 0#8 ZB._auto_1):
  SSt C (.AugAssign 1#42 op e pos) (Dv.sAug i o f):=by
 obtain⟨t,p,q⟩:=he;refine⟨_,A0 hN hi hx p ho hf,λ Hv₀ H₀ E σ H st ⟨Hc,O,r⟩ w=>?_⟩;unfold Dv.sAug at w;cases hs:st[i]? with
 |none=>rw[hs] at w;exact Zf w
 |some s=>
  rw[hs] at w;cases s with
  |sh d=>
   cases d with
   |int x0=>
    obtain⟨v,h1,h2⟩:=r.sh i _ hs;unfold Rp at h2;subst h2;refine⟨_,h1,?_⟩;refine q.all r 0#60 1#25 λ d fr v Hv' H' hf x r' rp n=>?_
    ·simp only[hf] at w;exact w σ H' ⟨Hc,O,r'⟩
    ·simp only[hf] at w;exact w
    ·cases d with
     |int y=>
      simp only[hf] at w;unfold Rp at rp;subst rp;cases ho':Dv.opD o (.int x0) (.int y) with
      |ok d2 fr2=>
       cases d2 with
       |int z=>simp only[ho'] at w;exact hop _ _ _ _ _ _ ho' (w _ H' ⟨Hc,O,r'.setSh cm⟩)
       |_=>simp only[ho'] at w;exact Zf w
      |_=>simp only[ho'] at w;exact Zf w
     |_=>simp only[hf] at w;exact Zf w
   |_=>exact Zf w
  |_=>exact Zf w
def uG {i:Nat}{x:Str}(he:SE C e f)(hN:C.X.N.Nodup)(hi:C.X.N[i]?=some x)(hx:Loc C.X.env.scope x)(hf:autoParam 0#8 ZB._auto_1):
  SSt C (.AugAssign 1#42 .Sub e pos) (Dv.sAug i .sub f):=qW u7 (λ x y z fr H Q h q=>by cases h;exact⟨x,y,rfl,rfl,q⟩) he hN hi hx hf
def uk {i:Nat}{x:Str}(he:SE C e f)(hN:C.X.N.Nodup)(hi:C.X.N[i]?=some x)(hx:Loc C.X.env.scope x)(hf:autoParam 0#8 ZB._auto_1):
  SSt C (.AugAssign 1#42 .Mult e pos) (Dv.sAug i .mul f):=qW yP (λ x y z fr H Q h q=>by
   simp only[Dv.opD_ai,Dv.opD_al,Dv.opD_su,Dv.opD_mi,Dv.opD_ml,Dv.opD_mo,Dv.opD_fd,Dv.opD_po,Dv.opD_ba,Dv.opD_sh] at h;by_cases hm:Dv.mulOk x y=true
   ·simp only[hm,if_true] at h;cases h;exact⟨x,y,rfl,rfl,hm,q⟩
   ·simp only[hm] at h;cases h) he hN hi hx hf
def uH {i:Nat}{x:Str}{px kpos:Pos}(he:SE C e f)(hk:SE C k g)(hN:autoParam 1#3 ZF._auto_1)(hv:autoParam 0#58 ZH._auto_1)
    (hd:autoParam 0#4 ZC._auto_1) (hcd:autoParam 0#16 ZC._auto_1)
    (ha:autoParam (∀ ov iv new,augStore k ov iv new=(do holding [new,ov,iv] (setItem ov iv new);release [new,ov,iv] [];pure .next)) ZG._auto_1):
    SSt C (.AugAssign (.Subscript 0#21 k kpos) .Sub e pos) (Dv.sAugIx i .sub g f):=by
  obtain⟨t,p,q⟩:=he;obtain⟨t2,p2,q2⟩:=hk;refine⟨_,zt 0#97 p2 sL p u7 set_list ha,λ Hv₀ H₀ E σ H st ⟨Hc,O,r⟩ w=>?_⟩;unfold Dv.sAugIx at w;cases hi:st[i]? with
  |none=>rw[hi] at w;exact Zf w
  |some s=>
    rw[hi] at w;cases s with
    |ow d0=>
     cases d0 with
     |lst ds=>
      obtain⟨a,vs,h1,h2,h5⟩:=r.own hi;refine⟨_,h1,?_⟩;refine q2.all r 0#60 1#25 λ d fr v Hv' H' hf x r' rp n=>?_
      · simp only[hf] at w;exact w σ H' ⟨Hc,O,r'⟩
      · simp only[hf] at w;exact w
      · simp only[hf] at w
        cases d with
        |int j=>
          unfold Rp at rp;by_cases z:0<=j
          · simp only[z,if_true] at w
            cases hat:Dv.at? ds j with
            |none=>simp only[hat] at w;exact Zf w
            |some d0=>
              simp only[hat] at w;obtain⟨v0,g1,g2⟩:=jS h5 hat;refine⟨a,vs,j,v0,rfl,rp,z,SqL.of (x.hh _ _ h2),g1,?_⟩;refine q.all r' (λ c hg H2 r2=>?_) (λ hg=>?_) λ d2 fr2 v2 Hv2 H2 hg x2 r2 rp2 n2=>?_
              · simp only[hg] at w;exact w σ H2 ⟨Hc,O,r2⟩
              · simp only[hg] at w;exact w
              · simp only[hg] at w
                cases d0 with
                |int y0=>
                  cases d2 with
                  |int y2=>
                    unfold Rp at rp2 g2;subst g2 rp2;obtain⟨O',r3⟩:=r2.put hi h1 (h5.set (cm (i:=y0-y2)) j.toNat);refine⟨y0,y2,rfl,rfl,a,vs,j,j.toNat,rfl,rp,x2.hh _ _ (x.hh _ _ h2),?_,OkS.now (st:=st.set i (.ow (.lst (ds.set j.toNat (.int (y0-y2)))))) w ⟨Hc,O',r3⟩⟩;unfold ixN;obtain⟨_,_,_,_,_,hlt⟩:=iR g1;rw[if_pos z,if_pos hlt]
                  |_=>exact Zf w
                |_=>exact Zf w
          · simp only[z,if_false] at w;exact Zf w
        |_=>exact Zf w
     |_=>exact Zf w
    |_=>exact Zf w
def ue {X:Cx}(hc:X.calm=true):cP X (.builtin "all") (λ xs H Q=>∃ p,∃ bs:List Bool,xs=[.ref p]/\SqX X.K H p (bs.map V.bl)/\Q (.bl (bs.all id)) H):=by
 intro pins s σ H xs us Q I r h;obtain⟨p,bs,rfl,hq,q⟩:=h;obtain⟨u,rfl,rx⟩:=vals1 r;cases rx;obtain⟨its,n,rv,e,z⟩:=Inv.listX I hq;have hl:s.heap.IsList p its.toArray:=⟨_,e,rfl,n,rfl⟩;have hlt:p<s.heap.objs.size:=GE e;have hlen:its.length=bs.length:=by have:=rv.length;rw[Di] at this;exact this.symm
 refine call_all_walk (Il hl ?_);refine⟨s.heap.objs.size,[s.heap.objs.size,p],[s.heap.objs.size],its.toArray.size,_,_,λ i=>(bs[i]?).getD true,rfl,Walks.list (A:=X.A.in1) 1#75 _ p (Dy hlt) its.toArray,
  ⟨⟨_,GF _ rfl,rfl,rfl⟩,hl.push _⟩,λ i v s' Q' E' hP hQ=>?_,λ h' tk hk=>?_⟩
 ·have hP':its[i]?=some v:=by simpa using hP
  have hi:i<bs.length:=by rw[<- hlen];exact(List.getElem?_eq_some_iff.mp hP').1
  obtain⟨u,e1,e2⟩:=rv.get (show (bs.map V.bl)[i]?=some (V.bl bs[i]) by simp[hi]);rw[hP'] at e1;cases e1;have e3:v=IT bs[i]:=e2;subst e3;have e4:(bs[i]?).getD true=bs[i]:=by simp[hi]
  have hQ':Q' bs[i] s':=by rw[<- e4];exact hQ
  exact Hy hQ'
 ·have e5:((List.range its.toArray.size).all λ i=>(bs[i]?).getD true)=bs.all id:=by
   rw[Ds,hlen,Ee,Er,Er]
   constructor
   ·intro hh b hb
    obtain⟨i,hi,e⟩:=Ei hb;have:=hh i (List.mem_range.mpr hi);simp only[Dk hi,Dw,e] at this;exact this
   ·intro hh i hi
    have hi':=List.mem_range.mp hi;simp only[Dk hi',Dw];exact hh _ (D6 hi')
  rw[e5];exact⟨.bl _,H,I.kept (t':=tk) λ b x e=>hk b x (λ hm=>by rw[List.mem_singleton.mp hm] at e;exact D0 _ (GE e)) (GC _ e),rfl,q⟩
def RpL.bls {K:GA}{H:Hp}:∀ {ds:List D} {vs:List V} {bs:List Bool},Dv.blsOf ds=some bs->RpL K H ds vs->vs=bs.map V.bl
 |[],vs,bs,e,h=>by
  simp[Dv.blsOf] at e;subst e;unfold RpL at h;exact h
 |d::r,vs,bs,e,h=>by
  unfold RpL at h;obtain⟨v,ws,rfl,h2,h3⟩:=h;cases d with
  |bl i=>
   simp only[Dv.blsOf,DZ] at e;obtain⟨ms,e1,rfl⟩:=e;unfold Rp at h2;subst h2;rw[RpL.bls e1 h3,C9]
  |_=>simp[Dv.blsOf] at e
def A8 (hc:C.X.calm=true):C1S C (.builtin "all") Dv.allD:=by
 refine⟨_,ue hc,λ x d fr H Hv H1 Hv1 W Q e rx n q=>?_⟩;cases d with
 |lst ds=>
  simp only[Dv.allD] at q;cases hi:Dv.blsOf ds with
  |none=>rw[hi] at q;exact Zf q
  |some bs=>
   rw[hi] at q;unfold Rp at rx;obtain⟨l,vs,rfl,h1,h2⟩:=rx;have e1:=RpL.bls hi h2;subst e1;exact⟨l,bs,rfl,h1.same e.vh,Ok.at (d:=.bl (bs.all id)) (fr:=true) q e cE rfl⟩
 |_=>exact Zf q
def Bm {p:Pos}(hm:C.X.mg "all"=none)(hg:Gl C.X "all")(ha:SE C a f)(he:autoParam 0#9 ZF._auto_1)(hcl:autoParam 0#61 ZF._auto_1):SE C (.Call (.Name "all" p) [a] [] pos) (Dv.eB1 Dv.allD f):=
 kB (A8 hcl) hg hm 0#6 ha 0#2 0#2 he
end
def ItD (hi:Int)(n:Nat):It:=⟨λ i _=>i<n,λ i H v H'=>v=.int (hi-i)/\H'=H,λ i _=>n<=i⟩
def ux {P:Program}{w:World}{K:GA}{tg:Expr}(it:Addr)(lo:Int)(n:Nat):Turn P w K tg (ItD lo n) [it] it (λ i h=>IsRangeIter h it (lo+(i:Nat)*(-1)) ((n:Int)-(i:Nat)) (-1)) where
 mem:=by simp
 obj:=λ i h st b hb=>by
  have e:b=it:=by simpa using hb
  subst e;exact⟨_,st,λ v z=>by
   have z':Data.fields _=Data.cell v:=z;cases z'⟩
 keep:=λ i h h' st k=>k it 0#5 _ st
 item:=by
  intro X hP hw hK hc i pins s σ H E I hf st hg;subst hP hw hK;obtain⟨f0,f1,f2,f3,f4,f5⟩:=hf it 0#5;have W:=Walks.range (prog:=X.prog) (w:=X.w) 1#75 it lo (-1) n;refine W.item i s _ _ hg st λ v h' tk hv st' kk=>?_
  obtain⟨t,rfl⟩:=hv;have I1:Inv X pins σ H { s with heap:=h',toks:=tk }:=I.turned (λ b o hb e=>kk b o (by simpa using hb) e) f0 f1 f3 f4 f5;refine⟨_,rfl,wg (s:={ s with heap:=h',toks:=tk }) (n:="range_iterator") st' rfl rfl 0#2 ⟨.int (lo-i),H,I1,⟨t,?_⟩,⟨rfl,rfl⟩,st',λ b hb=>(hf b hb).1⟩⟩;have:lo+(i:Nat)*(-1)=lo-i:=⋯
  rw[this]
 done:=by
  intro X hP hw hK hc i pins s σ H E I hf st hg;subst hP hw hK;obtain⟨f0,f1,f2,f3,f4,f5⟩:=hf it 0#5;exact Jj 1#75 st (by have:n<=i:=hg;omega) λ h' eb=>⟨rfl,I.turned (t':=s.toks) (λ b o hb e=>eb b o hb e) f0 f1 f3 f4 f5⟩
 self:=λ _ _ _ _ _ st h=>Jl st h
def gy (a b:Int):Hl a b (-1)=((a-b).toNat:Int):=by
 unfold Hl;by_cases h:a > b
 ·simp[h];omega
 ·simp[h];omega
def BX (ta:TA):TI:=λ σ H R=>ta σ H λ vs H1=>∃ i j:Int,vs=[.int i,.int j,.int (-1)]/\Dv.rngOk i=true/\Dv.rngOk j=true/\R (ItD i (i-j).toNat) H1
def wu {i j:Int}(h1:Dv.rngOk i=true)(h2:Dv.rngOk j=true):JR i j (-1)=true:=by
 simp only[Dv.rngOk,Dl,decide_eq_true_eq] at h1 h2;have hz:=gy i j;unfold JR;rw[hz];simp only[Builtin.Range.rangeFitsLong,Dl,EH,decide_eq_true_eq,beq_iff_eq,show ¬ ((-1:Int) > 0) by decide,if_false];omega
def uL {X:Cx}{tg:Expr}{a b c:Expr}{ta:TA}{p pos:Pos}(hg:Gl X "range")(hm:X.mg "range"=none)(ha:PA X [a,b,c] ta)(hs:starEach [a,b,c] X.env=1#1::starEach [b,c] X.env)(hpl:(backTo pos (starEach [b,c] X.env)).any (·.1)=false):
  PI X tg (.Call 1#97 [a,b,c] [] pos) (BX ta):=by
 intro pins s σ H R I h;refine Call_ (cY I hg hm JC (GT (thn 0#66 λ us s1 ⟨vs,H1,I1,r1,q1⟩=>?_) hs hpl));obtain⟨i,j,e,q1,q2,q⟩:=q1;subst e;cases r1 with
 |cons r rr=>
  cases rr with
  |cons r' rr=>
   cases rr with
   |cons r'' rr=>
   cases rr;obtain⟨t,rfl⟩:=r;obtain⟨t',rfl⟩:=r';obtain⟨t'',rfl⟩:=r'';refine call_range_3 0#2 ?_ (Or.inl (IX 0#6))
   refine JZ (Ke ..) (wu q1 q2) ?_
   have I2:Inv X pins σ H1 { s1 with heap:=s1.heap.push { cls:=.type "range",data:=.fields #[.int i t,.int j t',.int (-1) t''] } }:=I1.kept (t':=s1.toks) λ b o e=>GC _ e
   refine⟨(s1.heap.push { cls:=.type "range",data:=.fields #[.int i t,.int j t',.int (-1) t''] }).objs.size,[(s1.heap.push { cls:=.type "range",data:=.fields #[.int i t,.int j t',.int (-1) t''] }).objs.size],_,_,H1,rfl,
    I2.kept (t':=s1.toks) λ b o e=>GC _ e,ux _ i (i-j).toNat,?_,λ b hb=>?_,q⟩
   ·have e1:i+((0:Nat):Int)*(-1)=i:=by simp
    have e2:(((i-j).toNat:Nat):Int)-((0:Nat):Int)=Hl i j (-1):=by rw[gy];omega
    show IsRangeIter _ _ (i+((0:Nat):Int)*(-1)) ((((i-j).toNat:Nat):Int)-((0:Nat):Int)) (-1)
    rw[e1,e2];exact GF _ rfl
   ·have e:b=(s1.heap.push { cls:=.type "range",data:=.fields #[.int i t,.int j t',.int (-1) t''] }).objs.size:=by simpa using hb
    subst e;exact I2.fpOk (Du _) (I2.hok.fresh (Du _))
def mW (hi:Int):∀ (n i:Nat) (d:D),(Dv.downL hi n)[i]?=some d->i<n/\d=.int (hi-i)
 |0,i,d,h=>by simp[Dv.downL] at h
 |n+1,0,d,h=>by simp[Dv.downL] at h;subst h;simp
 |n+1,i+1,d,h=>by
  have:=mW (hi-1) n i d (by simpa[Dv.downL] using h);refine⟨⋯,?_⟩;rw[this.2];congr 1;omega
def nX:∀ (n:Nat) (hi:Int),(Dv.downL hi n).length=n
 |0,hi=>rfl
 |n+1,hi=>by unfold Dv.downL;rw[Dd,nX n]
def wK {K:GA}{Hv:Hp}(hi:Int)(n:Nat):Wlk K (ItD hi n) Hv (Dv.downL hi n):=λ i H s=>⟨λ d hd=>by
 obtain⟨h1,rfl⟩:=mW hi n i d hd;exact⟨h1,λ v H' ⟨e1,e2⟩=>by subst e1 e2;exact⟨Hv,.refl s,cm⟩⟩,λ e=>by
 rw[nX] at e;show n<=i
 omega⟩
def OkR (K:GA)(Hv H:Hp)(W:XK)(cls:String->Value)(r:RI)(T:It->Hp->Prop):Prop:=match r with
 |.ok ds _=>∀ J Hv' H',Ext Hv H Hv' H'->(∀ Hc,Wlk K J Hc ds)->T J H'
 |.exc c=>∀ Hv' H',Ext Hv H Hv' H'->W (cls c) none H'
 |.bad=>False
def SR (C:Ctx)(tg it:Expr)(f:EI):Prop:=
 ∃ t:TI,PI C.X tg it t/\∀ σ H Hv ρ T,EnvR C.X.K Hv ρ σ->Same Hv H->OkR C.X.K Hv H (C.W σ) C.cls (f ρ) T->t σ H T
section
variable {C:Ctx}{a b c e:Expr}{f g h:EE}{F:SS}{pos pos':Pos}
def yr {tg:Expr}{p:Pos}(hg:Gl C.X "range")(hm:C.X.mg "range"=none)(he:SE C e f)(hb:SE C b g)(hc:SE C c (Dv.eNeg (Dv.eInt 1)))(hs:autoParam (starEach [e,b,c] C.X.env=0#36::starEach [b,c] C.X.env) ZF._auto_1)
  (hs2:autoParam (starEach [b,c] C.X.env=(false,eval b C.X.env)::starEach [c] C.X.env) ZF._auto_1) (hs3:autoParam (starEach [c] C.X.env=[(false,eval c C.X.env)]) ZF._auto_1):SR C tg (.Call 1#97 [e,b,c] [] pos) (Dv.iDown f g):=by
 obtain⟨t,pe,q⟩:=he;obtain⟨t2,pe2,q2⟩:=hb;obtain⟨t3,pe3,q3⟩:=hc;refine⟨_,uL hg hm (aq pe (aq pe2 (aq pe3 ay hs3) hs2) hs) hs (by rw[hs2,hs3];rfl),λ σ H Hv ρ T er s w=>?_⟩;refine q σ H Hv ρ _ er s ?_
 unfold Dv.iDown at w;cases hf:f ρ with
 |bad=>rw[hf] at w;exact w
 |exc c=>rw[hf] at w;exact w
 |ok d fr=>
  rw[hf] at w;intro v Hv' H' x rp n;cases d with
  |int i=>
   refine q2 σ H' Hv' ρ _ (er.same x.vv) x.vh ?_
   cases hg':g ρ with
   |bad=>simp only[hg'] at w;exact w
   |exc c=>simp only[hg'] at w;exact λ Hv2 H2 y=>w Hv2 H2 1#50
   |ok d2 fr2=>
    simp only[hg'] at w;intro v2 Hv2 H2 y rp2 n2;cases d2 with
    |int j=>
     by_cases hr:(Dv.rngOk i&&Dv.rngOk j)=true
     ·simp only[hr,if_true] at w
      rw[Dl] at hr;refine q3 σ H2 Hv2 ρ _ ((er.same x.vv).same y.vv) y.vh ?_
      intro v3 Hv3 H3 z rp3 n3;unfold Rp at rp rp2 rp3;subst rp rp2 rp3;exact⟨i,j,rfl,hr.1,hr.2,w _ Hv3 H3 ((x.trans y).trans z) λ _=>wK i _⟩
     ·simp only[hr] at w;exact Zf w
    |_=>exact Zf w
  |_=>exact Zf w
def yG {i:Nat}{x:Str}{it:Expr}{body:List Stmt}{fi:EI}(hi:SR C 1#42 it fi)(hb:SSs C body F)(hN:C.X.N.Nodup)(hn:C.X.N[i]?=some x)(hx:Loc C.X.env.scope x)
  (hf:autoParam 0#8 ZB._auto_1) (hs:autoParam (∀ x,foldedSetIterable it C.X.env x=pure x) ZE._auto_1) (hcalm:autoParam 0#61 ZF._auto_1):
  SSt C (.For 1#42 it body [] pos) (Dv.sForR i fi F):=by
 obtain⟨wi,pi,qi⟩:=hi;obtain⟨g,pg,qg⟩:=qy (C:=C) (pos:=pos') hN hn hx hf;obtain⟨tb,pb,qb⟩:=hb;refine⟨_,pI C.own hcalm pi pg pb hs,λ Hv₀ H₀ E σ H st ⟨Hc,O,r⟩ w=>?_⟩;unfold Dv.sForR at w;refine qi σ H 1#81 1#27 _ r.envAll r.allH ?_
 cases hf:fi 1#27 with
 |bad=>simp only[hf] at w;exact w
 |exc c=>simp only[hf] at w;exact λ Hv' H' x=>w σ H' ⟨Hc,O,r.grow x.hh x.nf⟩
 |ok ds fr=>
  simp only[hf] at w;intro J Hv' H' x wl;have r1:=r.grow x.hh x.nf;rw[<- iV] at w;exact vT qg qb (wl Hc) ⟨Hc,O,r1.self⟩ (w.less r1.vc r1.new)
end
def ItE (K:GA)(l:Addr):It:=
  ⟨λ i H=>∃ (xs:List V) (x:V),SqL K H l xs/\xs[i]?=some x,
   λ i H v H'=>∃ p,H p=none/\v=.ref p/\∀ xs,SqL K H l xs->∃ x,xs[i]?=some x/\H'=upd H p (.tup [.int i,x]),
   λ i H=>∃ xs,SqL K H l xs/\xs.length<=i⟩
def uP {P:Program}{w:World}{K:GA}{es:List Expr}{kt:Nat}{tpos:Pos}{z i1 l:Addr}(hne:z≠i1)(hl1:l≠z)(hl2:l≠i1):
  Turn P w K (.Tuple es kt tpos) (ItE K l) [z,i1] z (λ i h=>(∃ old,IsEnum h z i1 i old)/\h.IsListIter i1 l i) where
 mem:=by simp
 obj:=λ i h ⟨⟨old,a1⟩,⟨o4,e4,_,d4⟩⟩ b hb=>by
  simp only[DT,DY,or_false] at hb
  rcases hb with rfl|rfl
  ·exact⟨_,a1,λ v q=>by cases q⟩
  ·exact⟨_,e4,λ v q=>by rw[d4] at q;cases q⟩
 keep:=λ i h h' ⟨⟨old,a1⟩,a4⟩ k=>⟨⟨old,k z 0#5 _ a1⟩,a4.at λ o e=>k i1 0#5 o e⟩
 item:=by
  intro X hP hw hK hc i pins s σ H E I hf ⟨⟨old,a1⟩,a4⟩ hg;subst hP hw hK;obtain⟨xs,x,hq1,hx⟩:=hg;obtain⟨its1,r1,p1,z1⟩:=I.list hq1;obtain⟨u1,e1,ru1⟩:=r1.get hx;refine wpAny_pyNext_enum_item a1 a4 p1.isList (x:=u1) (by simpa using e1) hne λ h' b1 b3 b5 b6 kk=>?_
  refine⟨_,rfl,wpAny_letOwnedTupleGo_enum b1 λ h2 hz sb=>?_⟩;have hf0:H s.heap.objs.size=none:=I.hok.fresh (Du _);have ltz:s.heap.objs.size≠z:=E7 (GE a1);have kept:∀ b o,b∉[z,i1]->s.heap.get? b=some o->h2.get? b=some o:=λ b o hb e=>by
   simp only[DT,DY,or_false,not_or] at hb;exact(sb.2 b hb.1).trans (kk b o hb.1 hb.2 e)
  have I0:Inv X pins σ H { s with toks:=s.toks+1 }:=I.tok _;have I2:Inv X pins σ H { s with heap:=h2,toks:=s.toks+1 }:=Inv.but I0 hf kept;have tp:IsTup h2 s.heap.objs.size #[.int i s.toks,u1]:=⟨_,(sb.2 _ ltz).trans b5,rfl,_,rfl⟩;have I3:Inv X pins σ (upd H s.heap.objs.size (.tup [.int i,x])) { s with heap:=h2,toks:=s.toks+1 }:=by
   have hk2:HOk X.prog X.w (upd H s.heap.objs.size (.tup [.int i,x])) h2:=gZ I2.hok hf0 ⟨by show 2<=sizeLine;decide,[.int i s.toks,u1],.cons ⟨_,rfl⟩ (.cons ru1 .nil),tp⟩;have nsz:∀ b o,s.heap.get? b=some o->b≠s.heap.objs.size:=λ b o e=>Dy (GE e)
   refine I.step (g':=s.gens) (d':=s.drawn) (t':=s.toks+1) (ch:=[z,i1]) (λ b hb=>⟨(hf b hb).2.2.2.1,(hf b hb).2.1,(hf b hb).2.2.2.2.1,(hf b hb).2.2.2.2.2⟩) (λ b o _ _ hc e _=>kept b o hc e) (λ b o _ _ hc e _=>⟨o.slots,kept b o hc e⟩) (λ b o _ e n=>by rw[ag (nsz b o e)];exact n)
    (λ b o hc e=>⟨o,kept b o hc e⟩) (λ b us e=>by rw[ag (au e hf0)];exact e) (λ b ob us e=>by rw[ag (au e hf0)];exact e) (λ b ps e=>⟨#[],by rw[ag (au e hf0),e];simp⟩) (λ m hm=>?_) hk2 I.bare
   obtain⟨o,es,ep,ho,r⟩:=hm;exact⟨o,es,ep,kept _ _ (λ hb=>(hf _ hb).2.1 rfl) ho,r⟩
  have c4:h2.IsListIter i1 l (i+1):=b3.extBut sb.extBut (Ne.symm hne);refine⟨.ref s.heap.objs.size,_,I3,rfl,⟨s.heap.objs.size,hf0,rfl,λ as h1=>?_⟩,⟨⟨u1,by exact_mod_cast hz⟩,c4⟩,λ b hb=>?_⟩
  ·exact⟨x,by rw[I.list_inj h1 hq1];exact hx,rfl⟩
  ·have hbs:b≠s.heap.objs.size:=by
    simp only[DT,DY,or_false] at hb
    rcases hb with rfl|rfl
    ·exact Dy (GE a1)
    ·obtain⟨o,e,_⟩:=a4;exact Dy (GE e)
   rw[ag hbs];exact(hf b hb).1
 done:=by
  intro X hP hw hK hc i pins s σ H E I hf ⟨⟨old,a1⟩,a4⟩ hg;subst hP hw hK;obtain⟨xs,hq1,hx⟩:=hg;obtain⟨its1,r1,p1,z1⟩:=I.list hq1;have n1:=r1.length;refine wpAny_pyNext_enum_end 1#75 a1 a4 p1.isList 0#31 λ h' kk=>⟨rfl,Inv.but I hf λ b o hb e=>?_⟩
  simp only[DT,DY,or_false,not_or] at hb;exact kk b o hb.2 e
 self:=λ _ _ _ _ _ st h=>wpAny_pyIter_enum st.1.choose_spec h
def Bk (K:GA)(ta:TA):TI:=λ σ H T=>ta σ H λ vs H1=>∃ l xs,vs=[.ref l]/\SqL K H1 l xs/\T (ItE K l) H1
def yv {X:Cx}{a:Expr}{ta:TA}{es:List Expr}{kt:Nat}{tpos p pos:Pos}(hg:Gl X "enumerate")(hm:X.mg "enumerate"=none)(ha:PA X [a] ta)(hs:starEach [a] X.env=[1#1]):
  PI X (.Tuple es kt tpos) (.Call (.Name "enumerate" p) [a] [] pos) (Bk X.K ta):=by
 intro pins s σ H R I h;refine Call_ (cY I hg hm (by decide +kernel:bootBuiltins "enumerate"=some (.type "enumerate")) (GT (thn 0#66 λ us s1 ⟨vs,H1,I1,r1,q1⟩=>?_) hs rfl));obtain⟨l,xs,rfl,hq1,q⟩:=q1;obtain⟨u1,rfl,e1⟩:=vals1 r1;cases e1;obtain⟨its1,rr1,p1,z1⟩:=I1.list hq1;refine call_enumerate_list p1.isList λ h' c1 c4 c6 kk=>?_
 have lt1:l<s1.heap.objs.size:=by obtain⟨o,e,_⟩:=p1.isList;exact GE e
 have I2:Inv X pins σ H1 { s1 with heap:=h' }:=I1.kept (t':=s1.toks) kk;refine wpAny_pyIter_enum c1 ⟨s1.heap.objs.size+1,[s1.heap.objs.size+1,s1.heap.objs.size],_,_,H1,rfl,I2,uP (Nat.succ_ne_self _) (Dy (D8 lt1)) (Dy lt1),⟨⟨.none,c1⟩,c4⟩,λ b hb=>?_,q⟩;have hb':s1.heap.objs.size<=b:=by
  simp only[DT,DY,or_false] at hb
  rcases hb with rfl|rfl
  ·exact Nat.le_add_right _ _
  ·exact Du _
 exact I1.fpOk hb' (I1.hok.fresh hb')
def mE:∀ {xs:List D} {k i:Nat} {d:D},(Dv.enumL k xs)[i]?=some d->∃ x,xs[i]?=some x/\d=.tup [.int ((k+i:Nat):Int),x]
 |[],k,i,d,h=>by simp[Dv.enumL] at h
 |x::r,k,0,d,h=>by simp[Dv.enumL] at h;subst h;exact⟨x,rfl,by simp⟩
 |x::r,k,i+1,d,h=>by
  obtain⟨y,h1,h2⟩:=mE (k:=k+1) (i:=i) (d:=d) (xs:=r) (by simpa[Dv.enumL] using h);refine⟨y,by simpa using h1,?_⟩;rw[h2];have:k+1+i=k+(i+1):=⋯
  rw[this]
def oM:∀ (xs:List D) (k:Nat),(Dv.enumL k xs).length=xs.length
 |[],k=>rfl
 |x::r,k=>by unfold Dv.enumL;rw[Dd,Dd,oM r]
def yN {C:Ctx}{a:Expr}{f:EE}{es:List Expr}{kt:Nat}{tpos p pos:Pos}(hg:Gl C.X "enumerate")(hm:C.X.mg "enumerate"=none)(ha:SE C a f)(hs:autoParam 0#9 ZF._auto_1):
  SI C (.Tuple es kt tpos) (.Call (.Name "enumerate" p) [a] [] pos) (Dv.iEnum f):=by
 obtain⟨t,pe,q⟩:=ha;refine⟨_,yv hg hm (aq pe ay hs) hs,λ σ H Hv ρ T er s w=>?_⟩;refine q σ H Hv ρ _ er s ?_
 unfold Dv.iEnum at w;cases hf:f ρ with
 |bad=>rw[hf] at w;exact w
 |exc c=>rw[hf] at w;exact w
 |ok d fr=>
  rw[hf] at w;intro v Hv' H' x rp n;cases d with
  |lst xs=>
   unfold Rp at rp;obtain⟨l1,vs,rfl,h1,h2⟩:=rp;refine⟨l1,vs,rfl,(h1.same x.vh).seq,w _ Hv' H' x λ i H3 s3=>⟨λ d hd=>?_,λ hi=>?_⟩⟩
   ·obtain⟨dx,g1,rfl⟩:=mE hd
    obtain⟨vx,k1,k2⟩:=h2.get g1;refine⟨⟨vs,vx,(h1.same s3).seq,k1⟩,λ u H4 ⟨p,hp,e1,hh⟩=>?_⟩;obtain⟨x',m1,rfl⟩:=hh vs (h1.same s3).seq;rw[k1] at m1;cases m1;subst e1;have nx:=Ext.new1 s3 hp (.tup [.int i,vx]);refine⟨_,nx,?_⟩;unfold Rp;refine⟨p,_,rfl,.inl ai,.cons ?_ (.cons (k2.same nx.vv) .nil)⟩;unfold Rp;simp
   ·refine⟨vs,(h1.same s3).seq,?_⟩
    rw[h2.length];rw[oM] at hi;omega
  |_=>exact Zf w
def bD {K:GA}{H:Hp}{j:Int}{d:D}:∀ {ks:List Int} {ds:List D} {vs:List V},RpL K H ds vs->Dv.look ks ds j=some d->∃ v,iM ((ks.map (Sum.inl:Int->Key)).zip vs) (Sum.inl j)=some v/\Rp K H d v
 |[],ds,vs,h,e=>by simp[Dv.look] at e
 |k::ks,[],vs,h,e=>by simp[Dv.look] at e
 |k::ks,x::ds,vs,h,e=>by
  unfold RpL at h;obtain⟨v,ws,rfl,h1,h2⟩:=h;unfold Dv.look at e;rw[C9,Ej];by_cases hk:k=j
  ·rw[if_pos hk] at e
   cases e;exact⟨v,gj (by rw[hk]),h1⟩
  ·rw[if_neg hk] at e
   obtain⟨u,h3,h4⟩:=bD h2 e;exact⟨u,by rw[eP (λ z=>hk (II z))];exact h3,h4⟩
def gW {K:GA}{H:Hp}{j:Int}:∀ {ks:List Int} {ds:List D} {vs:List V},ks.length=ds.length->RpL K H ds vs->Dv.look ks ds j=none->iM ((ks.map (Sum.inl:Int->Key)).zip vs) (Sum.inl j)=none
 |[],ds,vs,_,h,e=>rfl
 |k::ks,[],vs,hl,h,e=>by cases hl
 |k::ks,x::ds,vs,hl,h,e=>by
  unfold RpL at h;obtain⟨v,ws,rfl,h1,h2⟩:=h;unfold Dv.look at e;rw[C9,Ej];by_cases hk:k=j
  ·rw[if_pos hk] at e;cases e
  ·rw[if_neg hk] at e
   rw[eP (λ z=>hk (II z))];exact gW 1#67 h2 e
def kX {K:GA}{H:Hp}{j:Int}{x:D}{v:V}(rx:Rp K H x v):∀ {ks:List Int} {ds:List D} {vs:List V},ks.length=ds.length->RpL K H ds vs ->
  ∃ ws,((ks.map (Sum.inl:Int->Key)).zip vs).map (λ kv=>if kv.1=Sum.inl j then (kv.1,v) else kv)=(ks.map (Sum.inl:Int->Key)).zip ws/\RpL K H (Dv.replL ks ds j x) ws/\(Dv.replL ks ds j x).length=ds.length
 |[],[],vs,_,h=>⟨[],rfl,by unfold Dv.replL;exact .nil,rfl⟩
 |[],_::_,vs,hl,h=>by cases hl
 |_::_,[],vs,hl,h=>by cases hl
 |k::ks,d::ds,vs,hl,h=>by
  unfold RpL at h;obtain⟨u,us,rfl,h1,h2⟩:=h;obtain⟨ws,e1,e2,e3⟩:=kX rx 1#67 h2;unfold Dv.replL;rw[C9,Ej,C9,e1];by_cases hk:k=j
  ·subst hk
   exact⟨v::ws,by simp,by rw[if_pos rfl];exact .cons rx e2,by simp[e3]⟩
  ·have:¬ ((Sum.inl k:Key)=Sum.inl j):=λ z=>hk (II z)
   exact⟨u::ws,by simp[hk],by rw[if_neg hk];exact .cons h1 e2,by simp[e3]⟩
def rH {j:Int}:∀ {ks:List Int} {vs:List V},ks.length=vs.length->(((ks.map (Sum.inl:Int->Key)).zip vs).any λ kv=>decide (kv.1=Sum.inl j))=decide (j∈ks)
 |[],[],_=>by simp
 |[],_::_,h=>by cases h
 |_::_,[],h=>by cases h
 |k::ks,v::vs,h=>by
  rw[C9,Ej,Eu,rH 2#17];by_cases hk:k=j
  ·subst hk;simp
  ·have h1:¬ ((Sum.inl k:Key)=Sum.inl j):=λ z=>hk (II z)
   have h2:¬ j=k:=λ z=>hk z.symm
   simp[h1,h2]
def rN {K:GA}{H:Hp}{j:Int}{x:D}{v:V}{ks:List Int}{ds:List D}{vs:List V}(rx:Rp K H x v)(hl:ks.length=ds.length)(h:RpL K H ds vs):
  ∃ ws,putK ((ks.map (Sum.inl:Int->Key)).zip vs) (Sum.inl j) v=((Dv.putKs ks j).map (Sum.inl:Int->Key)).zip ws/\RpL K H (Dv.putL ks ds j x) ws/\(Dv.putKs ks j).length=(Dv.putL ks ds j x).length:=by
 have hv:=h.length;unfold putK Dv.putKs Dv.putL;rw[rH ⋯];by_cases hj:j∈ks
 ·rw[if_pos (decide_eq_true hj),if_pos hj,if_pos hj]
  obtain⟨ws,e1,e2,e3⟩:=kX (j:=j) rx hl h;exact⟨ws,e1,e2,by rw[e3,hl]⟩
 ·rw[if_neg (by simp[hj]),if_neg hj,if_neg hj]
  refine⟨vs++[v],?_,h.append (.cons rx .nil),by simp[hl]⟩;rw[E3,List.zip_append 0#31];rfl
section
variable {C:Ctx}{a b c e k:Expr}{f g h:EE}{F G:SS}{pos pos':Pos}{E:Ends}
def ng:SE C (.Dict [] [] pos) Dv.eDict0:=⟨_,xI,λ σ H Hv ρ Q e s w p hp=>by
 refine w (.ref p) _ _ (Ext.new1 s hp (.dK [])) ?_ λ _=>?_
 ·unfold Rp;exact⟨p,[],rfl,rfl,.inl ai,.nil⟩
 ·unfold Rp;exact⟨p,[],rfl,rfl,.inl (Hnew.at hp _),.nil⟩⟩
def nY (C:Ctx):C.X.A.units+1<cLine:=by have:=C.un;omega
def wY (ha:SE C a f)(hb:SE C b g)(hs:autoParam (Av b) ZK._auto_1):SE C (.Subscript a b pos) (Dv.eDix f g):=by
 obtain⟨ta,pa,qa⟩:=ha;obtain⟨tb,pb,qb⟩:=hb;refine⟨_,yO (nY C) pa pb hs,λ σ H Hv ρ Q e s w=>?_⟩;refine qa.step e 1#7 w λ v d fr Hv1 H1 _ x1 _ rp1 n1 q1=>qb.step e x1 q1 λ v2 d2 fr2 Hv2 H2 _ x2 y2 rp2 _ q2=>?_
 have rp:=rp1.same y2.vv;have rn:fr=true->Rp [] 2#36 d v:=λ z=>(n1 z).same (Hnew.mono 1#14 y2.hh)
 cases d with
 |dct ks ds=>
  cases d2 with
  |int j=>
   unfold Rp at rp2;cases hk:Dv.look ks ds j with
   |none=>simp only[hk] at q2;exact Zf q2
   |some d0=>
    simp only[hk] at q2;cases fr with
    |true=>
     have rp:=rn rfl;unfold Rp at rp;obtain⟨a,vs,rfl,hl,h1,h2⟩:=rp;obtain⟨v0,e1,e2⟩:=bD h2 hk;exact⟨a,v0,rfl,.inl ⟨_,Sum.inl j,Rd.same Hnew.sub h1,rp2,e1.symm⟩,q2 v0 Hv2 H2 x2 (Rp.frag (e2.same x2.news)) λ z=>e2⟩
    |false=>
     unfold Rp at rp;obtain⟨a,vs,rfl,hl,h1,h2⟩:=rp;obtain⟨v0,e1,e2⟩:=bD h2 hk;exact⟨a,v0,rfl,.inl ⟨_,Sum.inl j,Rd.same x2.vh h1,rp2,e1.symm⟩,q2 v0 Hv2 H2 x2 e2 λ z=>Rp.scal z e2⟩
  |_=>exact Zf q2
 |_=>exact Zf q2
def xY (is:List Nat){i:Nat}{x:Str}{px:Pos}(he:SE C e f)(hk:SE C k g)(hN:autoParam 1#3 ZF._auto_1)(hv:autoParam 0#58 ZH._auto_1)
    (hd:autoParam 0#4 ZC._auto_1) (hcd:autoParam 0#16 ZC._auto_1)
    (hs:autoParam (swapsWith e (some (.Subscript 0#21 k pos')) pos.line C.X.env=pure false) ZF._auto_1):SSt C (.Assign [.Subscript 0#21 k pos'] e pos) (Dv.sDPut is i g f):=by
  obtain⟨t,p,q⟩:=he;obtain⟨t2,p2,q2⟩:=hk;refine⟨_,rJ (nY C) 0#97 p2 p hs,λ Hv₀ H₀ E σ H st ⟨Hc0,O0,r0⟩ w=>?_⟩;obtain⟨Hc,O,_,r⟩:=r0.give is;unfold Dv.sDPut at w;generalize hst:Dv.give is st=st1 at r w;cases hi:st1[i]? with
  |none=>simp only[hi] at w;exact Zf w
  |some s=>
    simp only[hi] at w;cases s with
    |ow d0=>
     cases d0 with
     |dct ks ds=>
      refine q.open r (λ c hf Hc' H' x=>?_) 1#25 λ d fr v Hc' H' hf x r' rp=>?_
      · simp only[hf] at w;exact w σ H' ⟨Hc0,O0,r0.grow x.hh x.nf⟩
      · simp only[hf] at w;exact w
      · simp only[hf] at w
        obtain⟨a,o,h1,h2,h3⟩:=r'.ow i _ hi;refine⟨_,h1,?_⟩;refine q2.open r' (λ c hg Hc2 H2 x2=>?_) (λ hg=>?_) λ d2 fr2 v2 Hc2 H2 hg x2 r2 rp2=>?_
        · simp only[hg] at w
          have xx:=x.trans x2;exact w σ H2 ⟨Hc0,O0,r0.grow xx.hh xx.nf⟩
        · simp only[hg] at w;exact w
        · simp only[hg] at w
          cases d2 with
          |int j=>
            by_cases z:(decide (ks.length<Dv.mx)&&decide 1#87)=true
            · simp only[z,if_true] at w
              simp only[Dl,decide_eq_true_eq] at z;unfold Rp at rp2;subst rp2;obtain⟨vs,rfl,hl,h5⟩:=h3;obtain⟨ws,e1,e2,e3⟩:=rN (j:=j) (rp.same x2.vv) hl (h5.same x2.vv);obtain⟨O',r3⟩:=r2.putDct hi h1 e3 e2;rw[<- e1] at r3;refine⟨a,_,rfl,.inl ⟨_,Sum.inl j,(r2.oh i a _ h2).1,rfl,?_,rfl⟩,w σ _ ⟨Hc2,O',r3⟩⟩;have z5:ks.length<100000:=z.1;have:=GS;simp only[E4,Di];omega
            · simp only[z] at w;exact Zf w
          |_=>exact Zf w
     |_=>exact Zf w
    |_=>exact Zf w
def oB {R R':Hp}{a:Addr}{kvs:List (Key×V)}(ha:R a=some 1#96)(hR:∀ b o,b≠a->R b=some o->R' b=some o):∀ {ds:List D} {vs:List V},Dv.lstsFlat ds=true->RpL [] R ds vs->RpL [] R' ds vs
 |[],vs,_,h=>by unfold RpL at h ⊢;exact h
 |d::r,vs,f,h=>by
  unfold RpL at h;obtain⟨v,ws,rfl,h1,h2⟩:=h;cases d with
  |lst es=>
   simp only[Dv.lstsFlat,Dl] at f;refine .cons ?_ (oB ha hR f.2 h2)
   unfold Rp at h1 ⊢;obtain⟨b,us,rfl,h3,h4⟩:=h1;refine⟨b,us,rfl,?_,h4.flat f.1⟩
   rcases h3 with (h3|⟨u,h3⟩)|⟨its,n,e,_⟩
   ·exact .inl (.inl (hR b _ 1#35 h3))
   ·exact .inl (.inr ⟨u,hR b _ 1#35 h3⟩)
   ·simp at e
  |_=>simp[Dv.lstsFlat] at f
def wF {i y:Nat}{x yn:Str}{px py:Pos}(hk:SE C k g)(hN:autoParam 1#3 ZF._auto_1)(hv:autoParam 0#58 ZH._auto_1)
  (hd:autoParam 0#4 ZC._auto_1) (hcd:autoParam 0#16 ZC._auto_1) (hNy:autoParam (C.X.N[y]?=some yn) ZF._auto_1) (hvy:autoParam (Vis C.X.env.scope yn) ZH._auto_1)
  (hdy:autoParam ((yn == ("__debug__":Str))=false) ZC._auto_1) (hcdy:autoParam ((yn == ("__classdict__":Str))=false) ZC._auto_1)
  (hs:autoParam (swapsWith (.Name yn py) (some (.Subscript 0#21 k pos')) pos.line C.X.env=pure false) ZF._auto_1):SSt C (.Assign [.Subscript 0#21 k pos'] (.Name yn py) pos) (Dv.sDMove i y g):=by
 obtain⟨t2,p2,q2⟩:=hk;refine⟨_,rJ (nY C) 0#97 p2 (cu hNy hvy hdy hcdy) hs,λ Hv₀ H₀ E σ H st ⟨Hc,O,r⟩ w=>?_⟩;unfold Dv.sDMove at w;cases hi:st[i]? with
 |none=>simp only[hi] at w;exact Zf w
 |some si=>
  cases hy:st[y]? with
  |none=>simp only[hi,hy] at w;cases si <;>first|exact Zf w|(rename_i d;cases d <;>exact Zf w)
  |some sy=>
   simp only[hi,hy] at w;cases si with
   |dp d=>
    cases d with
    |dct ks ds=>
     cases sy with
     |ow d2=>
      cases d2 with
      |lst es=>
       obtain⟨b,ob,b1,b2,us,rfl,b3⟩:=r.ow y _ hy;obtain⟨v,h1,h2⟩:=r.dp i _ hi;refine⟨_,b1,_,h1,?_⟩;refine q2.all r 0#60 1#25 λ d fr v2 Hv' H' hf x r' rp n=>?_
       ·simp only[hf] at w;exact w σ H' ⟨Hc,O,r'⟩
       ·simp only[hf] at w;exact w
       ·cases d with
        |int j=>
         simp only[hf] at w;by_cases z:(Dv.flatL es&&Dv.lstsFlat ds&&decide (ks.length<Dv.mx)&&decide 1#87&&decide (i≠y))=true
         ·simp only[z,if_true] at w
          simp only[Dl,decide_eq_true_eq] at z;obtain⟨⟨⟨⟨z1,z2⟩,z3⟩,z4⟩,z5⟩:=z;unfold Rp at rp;subst rp;unfold Rp at h2;obtain⟨a,vs,rfl,hl,h3,h4⟩:=h2;have ha:O i a=some (.dK ((ks.map Sum.inl).zip vs)):=by
           rcases h3 with h3|⟨u,h3⟩
           ·exact h3
           ·exact absurd (r.oh i a _ h3).1 (r.nf a _ _ (r.oh i a _ h3).2.2)
          have hba:b≠a:=λ z=>z5 (r.one i y a _ _ ha (by rw[<- z];exact b2))
          have n1:∀ c o,O y c=some o->O i c=none:=λ c o h=>by
           cases q:O i c with
           |none=>rfl
           |some u=>exact absurd (r.one i y c u o q h) z5
          let R0:Hp:=cc (O i) (O y)
          have hR:∀ kvs c o,c≠a->O i c=some o->upd R0 a 1#96 c=some o:=λ kvs c o hc h=>by
           rw[ag hc];exact fj c o h
          have rb:∀ kvs,Rp [] (upd R0 a 1#96) 2#76 (.ref b):=λ kvs=>by
           unfold Rp;exact⟨b,us,rfl,SqX.of (by rw[ag hba];exact gu (λ c o h=>n1 c o h) b _ b2),b3.flat z1⟩
          obtain⟨ws,e1,e2,e3⟩:=rN (K:=[]) (j:=j) (H:=upd R0 a 0#39) (rb _) hl (oB ha (hR _) z2 h4);refine⟨a,_,rfl,.inl ⟨_,Sum.inl j,x.hh _ _ (r.oh i a _ ha).1,rfl,?_,rfl⟩,w σ (upd H' a 0#39) ⟨Hc,iL (iL O y λ _=>none) i (upd R0 a 0#39),?_⟩⟩
          ·have z6:ks.length<100000:=z3
           have:=GS;simp only[E4,Di];omega
          ·have hσ:σ.set y (some (.ref b))=σ:=jo b1
           have r1:RelC C.X.K Hv₀ H₀ Hc (iL O y λ _=>none) (st.set y .no) (σ.set y (some (.ref b))) H':=
            r'.setAny r'.h0 r'.ch r'.nf (λ j hj=>bc hj) 2#3 2#3 2#3 (λ _ _ e=>nomatch e)
             (λ j c o h=>by
              by_cases hj:j=y
              ·rw[hj,aJ] at h;cases h
              ·rw[bc hj] at h;exact r'.oh j c o h)
             (λ j c o o' h=>by rw[aJ] at h;cases h)
           rw[hσ] at r1;have hσi:σ.set i 2#21=σ:=jo h1;have oo:∀ c o,R0 c=some o->H' c=some o/\Hc c=none/\H₀ c=none:=λ c o h=>by
            rcases bO h with h|⟨_,h⟩
            ·exact r'.oh i c o h
            ·exact r'.oh y c o h
           have haH:=r'.oh i a _ ha;have r2:=r1.setAny (i:=i) (s:=.dp (.dct (Dv.putKs ks j) (Dv.putL ks ds j 2#76))) (v:=some (.ref a)) (H':=upd H' a 0#39) (O':=iL (iL O y λ _=>none) i (upd R0 a 0#39))
            (λ c o h=>by rw[ag (au h haH.2.2)];exact r1.h0 c o h) (λ c o h=>by rw[ag (au h haH.2.1)];exact r1.ch c o h)
            (λ c q u h=>by
             by_cases hc:c=a
             ·subst hc;rw[ai];intro z;cases z
             ·rw[ag hc];exact r1.nf c q u h)
            (λ j hj=>bc hj) 2#3 2#3
            (λ d e=>by
             cases e;refine⟨_,rfl,?_⟩;rw[aJ];unfold Rp;exact⟨a,ws,rfl,e3,.inl (by rw[ai,e1]),e2⟩)
            (λ _ _ e=>nomatch e)
            (λ j' c o h=>by
             by_cases hj:j'=i
             ·rw[hj,aJ] at h
              by_cases hc:c=a
              ·subst hc;rw[ai] at h ⊢;exact⟨h,haH.2⟩
              ·rw[ag hc] at h ⊢;exact oo c o h
             ·rw[bc hj] at h
              have hc:c≠a:=λ z=>by
               have h':=h;by_cases hjy:j'=y
               ·rw[hjy,aJ] at h';cases h'
               ·rw[bc hjy,z] at h';exact hj (r.one j' i a _ _ h' ha)
              rw[ag hc];exact r1.oh j' c o h)
            (λ j' c o o' h hj h'=>by
             rw[aJ] at h;by_cases hjy:j'=y
             ·rw[hjy,aJ] at h';cases h'
             ·rw[bc hjy] at h'
              by_cases hc:c=a
              ·rw[hc] at h';exact hj (r.one j' i a _ _ h' ha)
              ·rw[ag hc] at h
               rcases bO h with h|⟨_,h⟩
               ·exact hj (r.one j' i c _ _ h' h)
               ·exact hjy (r.one j' y c _ _ h' h))
           rw[hσi] at r2;exact r2
         ·simp only[z] at w;exact Zf w
        |_=>simp only[hf] at w;exact Zf w
      |_=>exact Zf w
     |_=>exact Zf w
    |_=>cases sy <;>first|exact Zf w|(rename_i d;cases d <;>exact Zf w)
   |_=>cases sy <;>first|exact Zf w|(rename_i d;cases d <;>exact Zf w)
def ze (is:List Nat){i:Nat}{x:Str}{apos cpos:Pos}{px:Pos}(he:SE C e f)(hN:autoParam 1#3 ZF._auto_1)(hv:autoParam 0#58 ZH._auto_1)
    (hd:autoParam 0#4 ZC._auto_1) (hcd:autoParam 0#16 ZC._auto_1) (hst:autoParam 0#86 ZF._auto_1)
    (hbase:autoParam (attributeBase 0#21 "append" C.X.env (eval 0#21 C.X.env)=eval 0#21 C.X.env) ZF._auto_1)
    (hfew:autoParam (((backTo cpos (starEach [e] C.X.env)).all 2#37&&(backToKw cpos 2#7).all 1#49
      && decide 0#30)=true) ZF._auto_1)
    (hline:autoParam 2#69 ZF._auto_1)
    (hs:autoParam (swapsWith 0#35 none pos.line C.X.env=pure false) ZF._auto_1):
    SSt C (.Expr 0#35 pos) (Dv.sAppG is i f):=by
  obtain⟨t,p,q⟩:=he;refine⟨_,bQ (fK GP GU GV bF 0#97 (aq p ay hst) hbase hfew hline hst rfl) hs,λ Hv₀ H₀ E σ H st ⟨Hc0,O0,r0⟩ w=>?_⟩;obtain⟨Hc,O,_,r⟩:=r0.give is;unfold Dv.sAppG at w;generalize hst:Dv.give is st=st1 at r w;cases hi:st1[i]? with
  |none=>simp only[hi] at w;exact Zf w
  |some s=>
    simp only[hi] at w;cases s with
    |ow d0=>
     cases d0 with
     |lst ds=>
      obtain⟨a,vs,h1,h2,h5⟩:=r.own hi;refine⟨_,h1,.inl ⟨rfl,vs,SqL.of h2⟩,?_⟩;refine q.open r (λ c hf Hc' H' x=>?_) 1#25 λ d fr v Hc' H' hf x r' rp=>?_
      · simp only[hf] at w;exact w σ H' ⟨Hc0,O0,r0.grow x.hh x.nf⟩
      · simp only[hf] at w;exact w
      · simp only[hf] at w
        by_cases z:decide (ds.length<Dv.mx)=true
        · simp only[z,if_true] at w
          rw[decide_eq_true_eq] at z;obtain⟨O',r2⟩:=r'.put hi h1 ((h5.same x.vv).append (.cons rp .nil));refine⟨a,vs,v,rfl,rfl,x.hh _ _ h2,?_,w σ _ ⟨Hc',O',r2⟩⟩;have:=h5.length;have e1:(100000:Nat)<sizeLine:=by rw[GS];decide
          have e2:ds.length<100000:=z;omega
        · simp only[z] at w
          exact Zf w
     |_=>exact Zf w
    |_=>exact Zf w
def fq {H H':Hp}{b:Addr}{o:HO}(h:Hnew H H' b=some o):H b=none:=by
 unfold Hnew at h;cases q:H b with
 |none=>rfl
 |some u=>rw[q] at h;cases h
def lD {i:Nat}{x:Str}(he:SE C e f)(hN:C.X.N.Nodup)(hi:C.X.N[i]?=some x)(hx:Loc C.X.env.scope x)(hs:autoParam 0#55 ZF._auto_1)
  (hf:autoParam 0#8 ZB._auto_1):SSt C 1#16 (Dv.sSetD i f):=by
 obtain⟨t,p,q⟩:=he;refine⟨_,bZ hN hi hx p hs hf,λ Hv₀ H₀ E σ H st ⟨Hc,O,r⟩ w=>?_⟩;unfold Dv.sSetD at w;refine q.all r 0#60 1#25 λ d fr v Hv' H' hf x r' rp n=>?_
 ·rw[hf] at w;exact w σ H' ⟨Hc,O,r'⟩
 ·rw[hf] at w;exact w
 ·rw[hf] at w
  cases fr with
  |false=>exact Zf w
  |true=>
   refine w _ H' ⟨Hc,_,r'.setDp (R:=Hnew H H') (λ b o h=>⟨Hnew.sub b o h,r.ch.free (fq h),r.h0.free (fq h),λ j _=>?_⟩) (n rfl)⟩;cases z:O j b with
   |none=>rfl
   |some u=>have:=(r.oh j b u z).1;rw[fq h] at this;cases this
def xU {i:Nat}{x:Str}{apos cpos:Pos}{px:Pos}(he:SE C e f)(hN:autoParam 1#3 ZF._auto_1)(hv:autoParam 0#58 ZH._auto_1)
    (hd:autoParam 0#4 ZC._auto_1) (hcd:autoParam 0#16 ZC._auto_1) (hst:autoParam 0#86 ZF._auto_1)
    (hbase:autoParam (attributeBase 0#21 "append" C.X.env (eval 0#21 C.X.env)=eval 0#21 C.X.env) ZF._auto_1)
    (hfew:autoParam (((backTo cpos (starEach [e] C.X.env)).all 2#37&&(backToKw cpos 2#7).all 1#49
      && decide 0#30)=true) ZF._auto_1)
    (hline:autoParam 2#69 ZF._auto_1)
    (hs:autoParam (swapsWith 0#35 none pos.line C.X.env=pure false) ZF._auto_1):
    SSt C (.Expr 0#35 pos) (Dv.sAppF i f):=by
  obtain⟨t,p,q⟩:=he;refine⟨_,bQ (fK GP GU GV bF 0#97 (aq p ay hst) hbase hfew hline hst rfl) hs,λ Hv₀ H₀ E σ H st ⟨Hc,O,r⟩ w=>?_⟩;unfold Dv.sAppF at w;cases hi:st[i]? with
  |none=>simp only[hi] at w;exact Zf w
  |some s=>
    simp only[hi] at w;cases s with
    |ow d0=>
     cases d0 with
     |lst ds=>
      obtain⟨a,vs,h1,h2,h5⟩:=r.own hi;refine⟨_,h1,.inl ⟨rfl,vs,SqL.of h2⟩,?_⟩;refine q.all r 0#60 1#25 λ d fr v Hv' H' hf x r' rp n=>?_
      · simp only[hf] at w;exact w σ H' ⟨Hc,O,r'⟩
      · simp only[hf] at w;exact w
      · simp only[hf] at w
        cases fr with
        |false=>exact Zf w
        |true=>
          by_cases z:decide (ds.length<Dv.mx)=true
          · simp only[z,if_true] at w
            rw[decide_eq_true_eq] at z;have hn:∀ b o,Hnew H H' b=some o->Hc b=none:=λ b o h=>r.ch.free (fq h)
            have y:Ext Hc H (cc Hc 2#50) H':=by
              refine⟨x.hh,fj,λ b o h=>?_,λ b o h nn=>?_,λ b h=>?_,x.nf⟩
              · rcases bO h with h|⟨_,h⟩
                · exact x.hh _ _ (r.ch b o h)
                · exact Hnew.sub b o h
              · rcases bO h with h|⟨_,h⟩
                · rw[nn] at h;cases h
                · exact fq h
              · unfold cc Hnew
                rw[r.ch.free h,h]
            have r1:=r.growC y;obtain⟨O',r2⟩:=r1.put hi h1 ((h5.same fj).append (.cons (Rp.frag ((n rfl).same (gu hn))) .nil));refine⟨a,vs,v,rfl,rfl,x.hh _ _ h2,?_,w σ _ ⟨_,O',r2⟩⟩;have:=h5.length;have e1:(100000:Nat)<sizeLine:=by rw[GS];decide
            have e2:ds.length<100000:=z;omega
          · simp only[z] at w
            exact Zf w
     |_=>exact Zf w
    |_=>exact Zf w
def yQ {i:Nat}{x:Str}{px pt:Pos}{kt:Nat}(he:SE C e f)(hN:autoParam 1#3 ZF._auto_1)(hv:autoParam 0#58 ZH._auto_1)(hd:autoParam 0#4 ZC._auto_1)
    (hcd:autoParam 0#16 ZC._auto_1) (h1:autoParam (starEach [.Name x px,e] C.X.env=(false,eval 0#21 C.X.env)::starEach [e] C.X.env) ZF._auto_1) (h2:autoParam 0#86 ZF._auto_1):
    SSt C (.Return (some (.Tuple [.Name x px,e] kt pt)) pos) (Dv.sRetT i f):=by
  obtain⟨t,p,q⟩:=he;refine⟨_,cU (eQ (aq 0#97 (aq p ay h2) h1)),λ Hv₀ H₀ E σ H st ⟨Hc,O,r⟩ w=>?_⟩;unfold Dv.sRetT at w;cases hi:st[i]? with
  |none=>rw[hi] at w;exact Zf w
  |some s=>
    rw[hi] at w;cases s with
    |ow d0=>
     cases d0 with
     |lst ds=>
      obtain⟨a,o,g1,g2,vs,rfl,g3⟩:=r.ow i _ hi;refine⟨_,g1,?_⟩;refine q.all r 0#60 1#25 λ d fr v Hv' H' hf x r' rp n=>?_
      · simp only[hf] at w;exact w σ H' ⟨Hc,O,r'⟩
      · simp only[hf] at w;exact w
      · cases d with
        |lst es=>
          cases fr with
          |false=>simp only[hf] at w;exact Zf w
          |true=>
            simp only[hf] at w;by_cases z:(Dv.flatL ds&&Dv.flatL es)=true
            · simp only[z,if_true] at w
              rw[Dl] at z;obtain⟨b,zs,rfl,hb,hbn,rl⟩:=rR x (n rfl);refine⟨by show 2<=sizeLine;decide,λ tt ht=>?_⟩;have y:=x.trans (Ext.new1 x.vh ht (.tup [.ref a,.ref b]));obtain⟨Hv2,x2,s2⟩:=r.ret y;have ha:H a=some 1#48:=(r.oh i a _ g2).1;have na:a≠tt:=λ z=>by rw[<- z,x.hh _ _ ha] at ht;cases ht
              have nb:b≠tt:=λ z=>by rw[<- z,hb] at ht;cases ht
              have h0t:H₀ tt=none:=(r.h0.trans x.hh).free ht;refine w (.ref tt) Hv2 _ x2 ?_ λ _=>?_
              · unfold Rp
                refine⟨tt,_,rfl,.inl (s2 _ _ ai),.cons ?_ (.cons ?_ .nil)⟩
                · unfold Rp
                  exact⟨a,vs,rfl,SqX.of (s2 _ _ (y.vv _ _ (r.oAll i a _ g2))),g3.flat z.1⟩
                · have:=(rp.same (Ext.new1 x.vh ht (.tup [.ref a,.ref b])).vv).same s2
                  exact this
              · unfold Rp
                refine⟨tt,[.ref a,.ref b],rfl,.inl ?_,.cons ?_ (.cons ?_ .nil)⟩
                · unfold Hnew;rw[h0t];exact ai
                · unfold Rp
                  refine⟨a,vs,rfl,SqX.of ?_,g3.flat z.1⟩;unfold Hnew;rw[(r.oh i a _ g2).2.2];show upd H' tt _ a=_
                  rw[ag na];exact x.hh _ _ ha
                · unfold Rp
                  refine⟨b,zs,rfl,SqX.of ?_,rl.flat z.2⟩;unfold Hnew;rw[r.h0.free hbn];show upd H' tt _ b=_
                  rw[ag nb];exact hb
            · simp only[z] at w;exact Zf w
        |_=>simp only[hf] at w;exact Zf w
     |_=>exact Zf w
    |_=>exact Zf w
def iu {R:Hp}:∀ {ds:List D} {vs:List V} {m:Nat},RpL [] R ds vs->Dv.shapeL ds=some m->∀ x∈vs,∃ b ws es,x=.ref b/\Rd R b 2#70/\ws.length<=m/\Dv.flatL es=true/\RpL [] R es ws
 |[],vs,m,h,e,x,hx=>by unfold RpL at h;subst h;simp at hx
 |d::r,vs,m,h,e,x,hx=>by
  unfold RpL at h;obtain⟨v,ws,rfl,h1,h2⟩:=h;cases d with
  |lst es=>
   simp only[Dv.shapeL] at e;by_cases hf:Dv.flatL es=true
   ·simp only[hf,if_true,DZ] at e
    obtain⟨m',e1,rfl⟩:=e
    rcases List.mem_cons.mp hx with rfl|hx
    ·unfold Rp at h1
     obtain⟨b,us,rfl,h3,h4⟩:=h1;refine⟨b,us,es,rfl,?_,?_,hf,h4⟩
     ·rcases h3 with h3|⟨its,n,e,_⟩
      ·exact h3
      ·simp at e
     ·rw[h4.length];omega
    ·obtain⟨b,us,es',e2,e3,e4,e5⟩:=iu h2 e1 x hx
     exact⟨b,us,es',e2,e3,⋯,e5⟩
   ·simp only[hf] at e;cases e
  |_=>simp[Dv.shapeL] at e
def eM {R:Hp}:∀ {es:List D} {vs:List V},Dv.flatL es=true->RpL [] R es vs->∀ x∈vs,∀ b,x≠.ref b
 |[],vs,_,h,x,hx,b=>by unfold RpL at h;subst h;simp at hx
 |d::r,vs,f,h,x,hx,b=>by
  unfold RpL at h;obtain⟨v,ws,rfl,h1,h2⟩:=h;unfold Dv.flatL at f;rw[Dl] at f
  rcases List.mem_cons.mp hx with rfl|hx
  ·cases d with
   |non=>unfold Rp at h1;subst h1;intro z;cases z
   |bl _=>unfold Rp at h1;subst h1;intro z;cases z
   |int _=>unfold Rp at h1;subst h1;intro z;cases z
   |str _=>unfold Rp at h1;subst h1;intro z;cases z
   |_=>simp[Dv.scal] at f
  ·exact eM f.2 h2 x hx b
def BU {R:Hp}{d:D}{v:V}{n m:Nat}(nf:∀ b o u,R b≠some 1#39)(rp:Rp [] R d v)(e:Dv.shapeD d=some (n,m)):Jk R n m v:=by
 have rd:∀ {b:Addr} {o:HO},Rd R b o->R b=some o:=λ {b o} h=>by
  rcases h with h|⟨u,h⟩
  ·exact h
  ·exact absurd h (nf _ _ _)
 have key:∀ {ds:List D} {vs:List V} {t:Addr},RpL [] R ds vs->Dv.shapeL ds=some m->(R t=some 1#48\/R t=some 2#73)->∀ x∈vs,∃ b ws,x=.ref b/\b≠t/\R b=some 2#70/\ws.length<=m:=λ {ds vs t} h1 h2 h3 x hx=>by
  obtain⟨b,ws,es,rfl,e2,e3,e4,e5⟩:=iu h1 h2 x hx;refine⟨b,ws,rfl,λ z=>?_,rd e2,e3⟩;subst z;have e6:=rd e2
  rcases h3 with h3|h3
  ·rw[h3] at e6
   cases e6;exact eM e4 e5 _ hx b rfl
  ·rw[h3] at e6;cases e6
 cases d with
 |lst ds=>
  simp only[Dv.shapeD,DZ] at e;obtain⟨m',e1,e2⟩:=e;cases e2;unfold Rp at rp;obtain⟨t,vs,rfl,h1,h2⟩:=rp;have h1':R t=some 1#48:=by
   rcases h1 with h1|⟨its,n,e,_⟩
   ·exact rd h1
   ·simp at e
  exact⟨t,vs,rfl,.inl h1',h2.length,key h2 e1 (.inl h1')⟩
 |tup ds=>
  simp only[Dv.shapeD,DZ] at e;obtain⟨m',e1,e2⟩:=e;cases e2;unfold Rp at rp;obtain⟨t,vs,rfl,h1,h2⟩:=rp;exact⟨t,vs,rfl,.inr (rd h1),h2.length,key h2 e1 (.inr (rd h1))⟩
 |_=>simp[Dv.shapeD] at e
def RelC.junk {K:GA}{Hv₀ H₀ Hc H:Hp}{O:Nat->Hp}{st:Dv.St}{σ:St}{i n m:Nat}{s:Sl}(r:RelC K Hv₀ H₀ Hc O st σ H)(hi:st[i]?=some s)(e:Dv.junk s=some (n,m)):∃ v,σ[i]?=some (some v)/\Jk (O i) n m v:=by
 cases s with
 |dp d=>
  obtain⟨v,h1,h2⟩:=r.dp i d hi;exact⟨v,h1,BU (λ b o u h=>r.nf b o u (r.oh i b _ h).2.2 (r.oh i b _ h).1) h2 e⟩
 |jk n' m'=>
  cases e;exact r.jk i _ _ hi
 |_=>cases e
def Ab {R:Hp}{n m m':Nat}{t b:Addr}{vs us:List V}(hm:m<=m')(ht:R t=some 1#48\/R t=some 2#73)(hn:vs.length=n)(hx:∀ x∈vs,∃ b ws,x=.ref b/\b≠t/\R b=some 2#70/\ws.length<=m)(hb:b≠t)(hu:us.length<=m'):
  Jk (upd R b (.lst us)) n m' (.ref t):=by
 refine⟨t,vs,rfl,?_,hn,λ x h=>?_⟩
 ·rw[ag (Ne.symm hb)];exact ht
 ·obtain⟨c,ws,e1,e2,e3,e4⟩:=hx x h
  by_cases hc:c=b
  ·subst hc
   exact⟨c,us,e1,e2,ai,hu⟩
  ·exact⟨c,ws,e1,e2,by rw[ag hc];exact e3,⋯⟩
def yH {i:Nat}{k:Nat}{j:Nat}{x:Str}{apos cpos:Pos}{px kpos ipos:Pos}(he:SE C e f)(hN:autoParam 1#3 ZF._auto_1)(hv:autoParam 0#58 ZH._auto_1)
  (hd:autoParam 0#4 ZC._auto_1) (hcd:autoParam 0#16 ZC._auto_1) (hst:autoParam 0#86 ZF._auto_1)
  (hix:autoParam (mz (.Constant (.int k) j kpos)) ZK._auto_1)
  (hbase:autoParam (attributeBase 0#49 "append" C.X.env (eval 0#49 C.X.env)=eval 0#49 C.X.env) ZF._auto_1)
  (hfew:autoParam (((backTo cpos (starEach [e] C.X.env)).all 2#37&&(backToKw cpos 2#7).all 1#49
   && decide 0#30)=true) ZF._auto_1)
  (hline:autoParam 2#69 ZF._auto_1)
  (hs:autoParam (swapsWith (.Call (.Attribute 0#49 "append" apos) [e] [] cpos) none pos.line C.X.env=pure false) ZF._auto_1):
  SSt C (.Expr (.Call (.Attribute 0#49 "append" apos) [e] [] cpos) pos) (Dv.sKill i k f):=by
 obtain⟨t,p,q⟩:=he;refine⟨_,bQ (fK GP GU GV bF (sE (ix_list.or xr) 0#97 dY hix) (aq p ay hst) hbase hfew hline hst rfl) hs,λ Hv₀ H₀ E σ H st ⟨Hc,O,r⟩ w=>?_⟩;unfold Dv.sKill at w;cases hi:st[i]? with
 |none=>rw[hi] at w;exact Zf w
 |some s=>
  simp only[hi] at w;cases hj:Dv.junk s with
  |none=>simp only[hj] at w;exact Zf w
  |some nm=>
   obtain⟨n,m⟩:=nm;simp only[hj] at w;obtain⟨v,h1,tt,vs,rfl,ht,hn,hx⟩:=r.junk hi hj;cases hf:f 1#27 with
   |bad=>simp only[hf] at w;exact Zf w
   |exc c=>simp only[hf] at w;exact Zf w
   |ok d fr=>
    simp only[hf] at w;by_cases z:(Dv.scal d&&decide (k<n)&&decide (m<Dv.mx))=true
    ·simp only[z,if_true] at w
     simp only[Dl,decide_eq_true_eq] at z;have hk:k<vs.length:=⋯
     obtain⟨b,ws,e1,e2,e3,e4⟩:=hx vs[k] (D6 hk);have hat:atI vs (k:Int)=some (.ref b):=by rw[<- e1];exact lF (by simp[hk])
     have hbl:=(r.oh i b _ e3).1;have go:tyV C.X.K "list" (.ref b) H/\(aQ t bK) σ H λ xs H2=>dU (.ref b) xs H2 λ _ H3=>E.nx σ H3:=by
      refine⟨.inl ⟨rfl,ws,SqL.of hbl⟩,?_⟩;refine q.all r (λ c hf' H' r'=>?_) (λ hf'=>?_) λ d' fr' v Hv' H' hf' x r' rp nn=>?_
      ·rw[hf] at hf';cases hf'
      ·rw[hf] at hf';cases hf'
      ·rw[hf] at hf'
       cases hf';have z5:m<100000:=z.2;have e1:(100000:Nat)<sizeLine:=by rw[GS];decide
       exact⟨b,ws,v,rfl,rfl,x.hh _ _ hbl,⋯,w σ _ ⟨Hc,_,r'.putAny (s:=.jk n (m+1)) h1 e3 0#34 (λ d e=>nomatch e) (λ n' m' e=>by cases e;exact Ab (Ez m) ht hn hx e2 0#31) λ d=>⟨nofun,nofun⟩⟩⟩
     rcases ht with ht|ht
     ·exact⟨_,h1,.inl ⟨tt,vs,k,.ref b,rfl,rfl,SqL.of (r.oh i tt _ ht).1,hat,go⟩⟩
     ·exact⟨_,h1,.inr ⟨tt,vs,k,.ref b,rfl,rfl,.inl (.inl (r.oh i tt _ ht).1),hat,go⟩⟩
    ·simp only[z] at w;exact Zf w
end
structure RoomH (k:Nat)(A:Around):Prop where
 dp:A.depth+3*k+5<recursionLimit
 un:A.units+16*k+200<cLine
def RoomH.mono {j k:Nat}{A:Around}(r:RoomH k A)(h:j<=k):RoomH j A:=⟨by have:=r.dp;omega,by have:=r.un;omega⟩
def RoomH.deeper {k:Nat}{A:Around}(r:RoomH (k+1) A)(env:GO):RoomH k (A.deeper env):=
 ⟨by have:=r.dp;show A.depth+1+3*k+5<_;omega,by have:=r.un;show A.units+3+16*k+200<_;omega⟩
def RoomH.depth {k:Nat}{A:Around}(r:RoomH k A):A.depth<recursionLimit:=by have:=r.dp;omega
def RoomH.units {k:Nat}{A:Around}(r:RoomH k A):A.units+64<cLine:=by have:=r.un;omega
def Ci {k:Nat}{A:Around}{e:Option Value}(r:Room k A):RoomH k (A.mark e):=⟨r.dp,r.un⟩
def cxH (P:Program)(w:World)(K:GA)(mg:Str->Option Value)(base:Heap)(N:List Str)(qual:Str)(scope:Scope)(f:Addr)(cd:Value)(A:Around)(outer:List GO)(s:Shared)(H:Hp):Cx:=
 { cF CX0 P w K mg base N qual scope f cd A outer s H E0 with calm:=false,xe:=λ _ _=>False }
def pE {P:Program}{w:World}{K:GA}{mg:Str->Option Value}{base:Heap}{N ps:List Str}{qual:Str}{scope:Scope}{f:Addr}{cd:Value}{A:Around}{outer:List GO}{s s1:Shared}{H:Hp}{us:List Value}{vs:List V}
  (S:FnScope N ps scope) (e0:Env0 P w K mg base A outer s H) (hl:vs.length=ps.length) (r:Vals vs us)
  (x:InCallC s s.heap.objs.size (bindL (envOfC qual scope s.heap.objs.size f cd).kindOf 2#2 λ _=>none) (cellsFrom 0#15 scope.names []) (bindC (envOfC qual scope s.heap.objs.size f cd).kindOf 2#2 λ _=>none) s1):
  Inv (cxH P w K mg base N qual scope f cd A outer s H) [] 1#98 H s1:=by
 have e1:Env0 P w K mg base { A with handled:=none } outer s H:=⟨e0.frames,e0.mod,e0.bs,e0.bsz,e0.funs,e0.frf,e0.hok,e0.bare⟩;have I:=kq (CX:=CX0) (E:=E0) (A:={ A with handled:=none }) S rfl e1 hl r x;exact⟨⟨I.ok.mod,I.ok.kind,I.ok.glob,I.ok.blt,I.ok.above,I.ok.inj,I.ok.has,I.ok.cab,0#65,I.ok.frames,I.ok.stk,I.ok.exf,I.ok.bs,I.ok.bsz,I.ok.noex,I.ok.exfs,I.ok.funs,I.ok.frf⟩,I.os,I.bare,I.base,I.loc,I.cell,I.free,I.freeC,I.pin,I.hok,I.len⟩
structure FnOkH (P:Program)(w:World)(K:GA)(mg:Str->Option Value)(base:Heap)(k:Nat)(f:Addr)(fd:FuncData)(ps:List Str)(sp:Sp):Prop where
 len:∀ vs H Q E,sp vs H Q E->vs.length=ps.length
 run:∀ (A:Around) (outer:List GO) (s:Shared) (H:Hp) (args:Args) (us:List Value) (vs:List V) (Q:VK),RoomH k A->Env0 P w K mg base A outer s H->BindsTo s fd args 2#2->Vals vs us->sp vs H Q E0 ->
  codeAny 2#16 A (.call (.ref f) args) (CR CX0 outer P w H s Q E0) s
def FnOkH.mono {P:Program}{w:World}{K:GA}{mg:Str->Option Value}{base:Heap}{j k:Nat}{f:Addr}{fd:FuncData}{ps:List Str}{sp:Sp}(F:FnOkH P w K mg base j f fd ps sp)(h:j<=k):
  FnOkH P w K mg base k f fd ps sp:=⟨F.len,λ A outer s H args us vs Q hr=>F.run A outer s H args us vs Q (hr.mono h)⟩
section
variable {P:Program}{w:World}{K:GA}{mg:Str->Option Value}{base:Heap}{CX:CXT}
def Ad {P:Program}{w:World}(hC:CXok P w CX)(cls:String->Value)(K:GA)(mg:Str->Option Value)(base:Heap)(N:List Str)(qual:Str)(scope:Scope)(f:Addr)(cd:Value)(A:Around)(outer:List GO)(s:Shared)(H:Hp)
  {k:Nat} (hr:RoomH k (A.deeper 0#38)):Ctx where
 X:=cxH P w K mg base N qual scope f cd A outer s H
 W:=λ _=>E0
 cls:=cls
 CX:=CX
 un:=hr.units
 own:=Jf
 pass:=λ pins σ H1 s1 e s' I h=>hC.no _ _ _ _ _ h
 cxF:=hC.no
def Ao (hC:CXok P w CX)(cls:String->Value){x qual:Str}{st:Stmt}{f:Addr}{N ps:List Str}{k:Nat}{body:SS}(oc:Value)(od:Option Addr)(dV kV doc pm:Value)(an:Option Addr)(cdv ct:Value)(osl:Array 0#82)
  (lk:K.lookup f=some ⟨oc,od,.func 0#19,osl⟩) (hcd:G4 K cdv qual=true) (S:FnScope N ps (af st))
  (hbody:∀ (A:Around) (outer:List GO) (s:Shared) (H:Hp) (hr:RoomH k 0#70),
   SSs (Ad hC cls K mg base N qual (af st) f cdv A outer s H hr) (aB st) body):
  FnOkH P w K mg base (k+1) f 0#19 ps (spD K cls (Dv.fn N.length body) ps.length):=by
 have len:∀ vs H Q E,spD K cls (Dv.fn N.length body) ps.length vs H Q E->vs.length=ps.length:=λ vs H Q E h=>qI h
 refine⟨len,λ A outer s H args us vs Q hr e0 hb r hsp=>?_⟩;have hl:=len _ _ _ _ hsp;have KX:K.In s.heap:=e0.mod.kin.keeps λ b o e=>(e0.bs b o e).1
 have lim:s.heap.NoLimit:=e0.mod.nolimit.keeps λ b o e=>(e0.bs b o e).1
 have hkind:∀ y∈ps.zip us,(af st).names.lookup y.1=some .local\/((af st).names.lookup y.1=some .cell/\((cellsFrom 0#15 (af st).names []).lookup y.1).isSome=true):=λ⟨n,v⟩ hy=>by
  rcases S.par n (E2 hy).1 with q|q
  ·exact .inl q
  ·exact .inr ⟨q,Ip _ _ _ (.inl q)⟩
 refine Jv hr.depth (KX _ _ lk) rfl S.co S.gen rfl (J2 KX hcd) (hb _ _ _ _ ?_);refine IM S.kind hkind λ env he s1 x=>?_
 subst he;refine⟨lim.keeps x.toInCall.keep,codeAny_func ?_⟩;obtain⟨ds,Hv,hld,sv,rp,ok⟩:=hsp;obtain⟨t,ht,q⟩:=hbody A outer s H (hr.deeper _);have hpl:ps.length<=N.length:=by
  have:=congrArg List.length S.pre;rw[Ep] at this;omega
 have hq:=q Hv H { nx:=λ _ H'=>Q .non H',rt:=Q } 1#98 H _ ⟨Hv,_,kS sv rp ⋯⟩ (vN (C:=Ad hC cls K mg base N qual (af st) f cdv A outer s H (hr.deeper _)) rfl ok);have I:Inv (cxH P w K mg base N qual (af st) f cdv A outer s H) [] 1#98 H s1:=pE S e0 hl r x;refine GL (ht [] s1 1#98 H _ I hq) (λ fl s' hs=>?_) λ e s' hs=>Zf hs
 have fin:∀ {σ':St} {H':Hp} {v:V} {u:Value},Inv (cxH P w K mg base N qual (af st) f cdv A outer s H) [] σ' H' s'->RelV v u->Q v H'->CE outer P w H s Q u s':=
  λ {σ' H' v u} J rv q=>⟨v,H',J.os,J.bare,J.base,J.hok,rv,q⟩
 cases fl with
 |ret u=>
  obtain⟨v,σ',H',J,rv,q⟩:=hs;exact fin J rv q
 |next=>
  obtain⟨σ',H',J,q⟩:=hs;exact fin (v:=V.non) (u:=GN) J rfl q
 |brk=>
  obtain⟨_,_,_,q⟩:=hs;exact GQ q
 |cont=>
  obtain⟨_,_,_,q⟩:=hs;exact GQ q
def Df.isH {cls:String->Value}(hC:CXok P w CX){x:Str}{st:Stmt}{f:Addr}{fd:FuncData}{ps:List Str}{F:List D->R}{m j:Nat}(N:List Str)(k:Nat)(body:SS)(d:Df K mg x st ps f fd)(S:FnScope N ps (af st))
  (hj:j=k+1) (hm:m=ps.length) (hF:F=Dv.fn N.length body)
  (hbody:∀ (cdv:Value) (A:Around) (outer:List GO) (s:Shared) (H:Hp) (hr:RoomH k 0#75),SSs (Ad hC cls K mg base N x (af st) f cdv A outer s H hr) (aB st) body):
  FnOkH P w K mg base j f fd ps (spD K cls F m):=by
 subst hj hm hF;obtain⟨oc,od,dV,kV,doc,pm,an,cdv,ct,osl,rfl,lk,hcd⟩:=d.ex;exact Ao hC cls oc od dV kV doc pm an cdv ct osl lk hcd S (hbody cdv)
end
section
variable {C:Ctx}{e:Expr}{es:List Expr}{fl:EL}{pos:Pos}
def Bo {k j:Nat}{fa:Addr}{fd:FuncData}{st:Stmt}{ps:List Str}{Fm:List D->R}{x:Str}{p:Pos}(d:Df C.X.K C.X.mg x st ps fa fd)(Fn:FnOkH C.X.prog C.X.w C.X.K C.X.mg C.X.base j fa fd ps (spD C.X.K C.cls Fm ps.length))(hr:RoomH k C.X.A)(hj:j<=k)(hW:C.W=λ _=>E0)
  (hg:Gl C.X x) (ha:SL C (e::es) fl) (hlen:autoParam 1#43 ZF._auto_1) (hdb:autoParam 0#4 ZC._auto_1) (he:autoParam (starEach (e::es) C.X.env=0#36::starEach es C.X.env) ZF._auto_1) (hpl:autoParam ((backTo pos 1#46).any (·.1)=false) ZF._auto_1):
  SE C 0#54 (Dv.eCall Fm fl):=by
 obtain⟨t,pa,qa,hl⟩:=ha;have F:=Fn.mono hj;refine⟨λ σ H Q=>t σ H λ vs H1=>spD C.X.K C.cls Fm ps.length vs H1 Q E0,?_,λ σ H Hv ρ Q er s w=>?_⟩
 ·intro pins s σ H Q I h
  refine G1 (gD I hg d.m ?_ hdb);refine Ia (h₀:=C.X.base) I.ok.mod.kin d.kp (thn (pa pos pins s σ H _ I h) λ us s1 ⟨vs,H1,I1,r,q⟩=>⟨I1.kIn,?_⟩) he hpl;have hl2:us.length=ps.length:=by rw[<- r.length];exact F.len _ _ _ _ q
  have hb:=d.bd s1 us I1.kIn (by rw[DU];exact hl2);rw[DU] at hb;refine IU (HD (F.run C.X.A C.X.stack s1 H1 ⟨us,[]⟩ us vs Q hr I1.env0 hb r q) λ rr s' hq=>?_);cases rr with
  |error e=>exact GQ hq
  |ok fl=>
   cases fl with
   |ret u=>exact I1.after hq
   |next=>exact GQ hq
   |brk=>exact GQ hq
   |cont=>exact GQ hq
 ·rw[hW] at w
  have qa':TakL C t fl:=qa;refine qa σ H Hv ρ _ er s ?_
  unfold Dv.eCall at w;cases hf:fl ρ with
  |bad=>rw[hf] at w;exact w
  |exc c=>rw[hf] at w;exact λ Hv' H' x=>(show False from w Hv' H' x).elim
  |ok ds fr=>
   rw[hf] at w;intro vs Hv1 H1 x1 rp n;exact⟨ds,Hv1,by rw[hl ρ ds fr hf];exact hlen,x1.vh,rp,Ok.later x1 w⟩
end
end Sd
namespace Dv
def compGoT (m:Nat)(elt:EE)(cond:EE)(free:Env):List D->RL
 |[]=>.ok [] true
 |d::r=>match d with
  |.tup es=>if es.length=m then match cond 0#92 with
   |.ok 0#96 _=>match elt 0#92 with
    |.ok x f=>match compGoT m elt cond free r with
     |.ok xs g=>.ok (x::xs) (f&&g)
     |_=>.bad
    |_=>.bad
   |.ok 1#4 _=>compGoT m elt cond free r
   |_=>.bad
   else .bad
  |_=>.bad
def eCompT (m:Nat)(elt cond:EE)(is:List Nat)(it:EI):EE:=λ ρ=>match it ρ with
 |.ok ds _=>if ds.length<=mx then match compGoT m elt cond (pick ρ is) ds with
   |.ok xs f=>.ok 1#37 f
   |_=>.bad
  else .bad
 |.exc c=>.exc c
 |.bad=>.bad
def itemsOk:List D->Bool
 |[]=>true
 |.tup es::r=>flatL es&&itemsOk r
 |.lst es::r=>flatL es&&itemsOk r
 |d::r=>scal d&&itemsOk r
def sSetF (i:Nat)(e:EE):SS:=λ st=>match e (all st) with
 |.ok d f=>match d with
  |.lst ds=>if f&&itemsOk ds then .nx (st.set i 2#11) else .bad
  |_=>.bad
 |.exc c=>.exc c st
 |.bad=>.bad
end Dv
namespace Sd
open PySem PySem.Spec PyProof.Rows L2
open Dv (D R RL EE EL EI RI Sl Out SS)
inductive NamesAre:List Expr->List Str->Prop
 |nil:NamesAre [] []
 |cons {x:Str} {p:Pos} {es:List Expr} {ts:List Str}:NamesAre es ts->NamesAre (.Name x p::es) (x::ts)
def NamesAre.length {es:List Expr}{ts:List Str}(h:NamesAre es ts):es.length=ts.length:=by
 induction h with
 |nil=>rfl
 |cons _ ih=>rw[Dd,Dd,ih]
def tgN:Nat->Nat->TGs
 |_,0=>Cf
 |k,n+1=>zQ (c5 k) (tgN (k+1) n)
def uX:∀ (n k:Nat) (vs:List V) (pre os fr:St) (H:Hp) (Q:St->Hp->Prop),vs.length=n->os.length=n->pre.length=k->Q (pre++vs.map some++fr) H->tgN k n vs (pre++os++fr) H Q
 |0,k,vs,pre,os,fr,H,Q,h1,h2,h3,q=>by
  have e1:=DM h1;have e2:=DM h2;subst e1 e2;exact⟨rfl,q⟩
 |n+1,k,v::vs,pre,o::os,fr,H,Q,h1,h2,h3,q=>by
  refine⟨v,vs,rfl,?_⟩;show tgN (k+1) n vs ((pre++(o::os)++fr).set k (some v)) H Q
  have e:(pre++(o::os)++fr).set k (some v)=(pre++[some v])++os++fr:=by
   subst h3;simp[List.set_append]
  rw[e];exact uX n (k+1) vs (pre++[some v]) os fr H Q (by simpa using h1) (by simpa using h2) (by simp[h3]) (by simpa using q)
 |n+1,k,[],pre,os,fr,H,Q,h1,h2,h3,q=>by cases h1
 |n+1,k,v::vs,pre,[],fr,H,Q,h1,h2,h3,q=>by cases h2
def tZ {X:Cx}(hN:X.N.Nodup){es:List Expr}{ts:List Str}(na:NamesAre es ts):∀ k:Nat,(∀ (j:Nat) (t:Str),ts[j]?=some t->X.N[k+j]?=some t/\X.env.scope.names.lookup t=some .local)->PGs X es (tgN k es.length):=by
 induction na with
 |nil=>intro k _;exact rC
 | @cons x p es ts na ih=>
  intro k h;obtain⟨h1,h2⟩:=h 0 x rfl;exact mK (gI hN h1 (.inl h2) (.inr h2)) (ih (k+1) λ j t ht=>by
   have:=h (j+1) t (by simpa using ht);have e:k+1+j=k+(j+1):=⋯
   rw[e];exact this) rfl
structure CompNamesT (X:Cx)(scope:Scope)(ts:List Str)(fs:List Str)(is:List Nat):Prop where
 kind:scope.kind=.function
 cell:∀ y∈scope.names,y.2≠.cell
 names:∀ y∈scope.names,y.2=.local->scope.names.lookup y.1=some .local
 tgt:∀ t∈ts,scope.names.lookup t=some .local
 nd:(ts++fs).Nodup
 free:∀ y∈scope.names,y.2=.free->X.env.kindOf y.1=some .cell\/X.env.kindOf y.1=some .free
 fsf:∀ y∈fs,scope.names.lookup y=some .free
 len:is.length=fs.length
 at':∀ (j:Nat) (y:Str),fs[j]?=some y->∃ i,is[j]?=some i/\X.N[i]?=some y
def tO {K:GA}{Hv:Hp}{ρ:Dv.Env}{σ:St}{is:List Nat}{ds:List D}{vs:List V}(e:EnvR K Hv ρ σ)(r:RpL K Hv ds vs):EnvR K Hv (ds.map some++Dv.pick ρ is) (vs.map some++cR σ is):=λ j x h=>by
 have hl:=r.length;by_cases hj:j<ds.length
 ·rw[DI (by simpa using hj),DD] at h
  cases q:ds[j]? with
  |none=>rw[q] at h;cases h
  |some d=>
   rw[q] at h;cases h;obtain⟨v,h1,h2⟩:=r.get q;exact⟨v,by rw[DI 0#31,DD,h1];rfl,h2⟩
 ·rw[DX 0#31,Di] at h
  obtain⟨i,h1,h2⟩:=vV h;obtain⟨u,h3,h4⟩:=e i x h2;exact⟨u,by rw[DX 0#31,Di,hl];exact sQ h1 h3,h4⟩
def pH {X:Cx}{pins:List (Addr×Obj)}{σ:St}{H1:Hp}{s2:Shared}{scope:Scope}{ts:List Str}{fs:List Str}{is:List Nat}{cl:List 2#35}{fp:List Addr}{L:Addr}(I:Inv X pins σ H1 s2)(S:CompNamesT X scope ts fs is)
  (clsub:∀ x c,cl.lookup x=some c->X.env.cells.lookup x=some c) (clhas:∀ y∈scope.names,y.2=.free->∃ c,cl.lookup y.1=some c) (f2:∀ b∈fp,jH X pins H1 b) (fin:∀ b∈fp,b<s2.heap.objs.size) (hL:s2.heap.objs.size<=L):
  (bL X (ts++fs) scope cl L s2 H1 fp).Ok:=by
 refine⟨I.ok.mod,S.kind,I.ok.glob,I.ok.blt,hL,λ y z c h1 h2=>I.ok.inj y z c (clsub y c h1) (clsub z c h2),λ y hy=>?_,λ y c h=>(by cases h),I.ok.hd,I.ok.frames,.inl rfl,λ b hb=>⟨?_,λ y c h=>?_⟩,I.bs,D4 I.ok.bsz I.sz,λ b o e hb=>?_,λ b hb hf=>?_,I.stack,I.stkFree⟩
 ·have:(y,Hb)∈scope.names:=by
   rcases hy with hy|hy
   ·exact fU (env:=X.env) S.cell 0#76 hy
   ·exact fU (env:=X.env) S.cell (.inr rfl) hy
  exact clhas _ this rfl
 ·exact Dy (DG (fin b hb) hL)
 ·exact(f2 b hb).2.2.2.2.1 y c (clsub y c h)
 ·obtain⟨_,_,_,h4,_⟩:=f2 b hb
  rcases h4 with h4|h4
  ·exact I.ok.noex b o e h4
  ·exact absurd (GE (I.ok.bs b o e).1) (Nat.not_lt.mpr h4)
 ·obtain⟨_,h2,h3,_⟩:=f2 b hb
  rcases List.mem_cons.mp (I.stkSub b hf) with e|e
  ·exact h2 e
  ·exact h3 e
def sO {X:Cx}{pins:List (Addr×Obj)}{σ:St}{H1:Hp}{s2:Shared}{scope:Scope}{ts:List Str}{fs:List Str}{is:List Nat}{cl:List 2#35}{fp:List Addr}{L:Addr}{h1:Heap}{t1:Nat}{m:Str->Option Value}(I:Inv X pins σ H1 s2)(S:CompNamesT X scope ts fs is)
  (clsub:∀ x c,cl.lookup x=some c->X.env.cells.lookup x=some c) (clhas:∀ y∈scope.names,y.2=.free->∃ c,cl.lookup y.1=some c) (f2:∀ b∈fp,jH X pins H1 b) (fin:∀ b∈fp,b<s2.heap.objs.size) (hL:s2.heap.objs.size<=L)
  (old:∀ b o,s2.heap.get? b=some o->h1.get? b=some o) (hn:h1.Ns L m):Inv (bL X (ts++fs) scope cl L s2 H1 fp) [] (List.replicate ts.length none++cR σ is) H1 { s2 with heap:=h1,toks:=t1 }:=by
 refine⟨pH I S clsub clhas f2 fin hL,rfl,I.bare,Un.kept old,⟨m,hn,λ i y v e1 e2 e3=>?_⟩,λ y c e=>?_,I.hok.fresh hL,λ y c e=>I.freeC y c (clsub y c e),λ p hp=>absurd (show p∈([]:List 0#18) from hp) 0#5,I.hok.kept old,?_⟩
 ·by_cases hi:i<ts.length
  ·have e2':(List.replicate ts.length none++cR σ is)[i]?=some (some v):=e2
   rw[DI 1#11,Eh,if_pos hi] at e2';cases e2'
  ·have e1':fs[i-ts.length]?=some y:=by
    have e1'':(ts++fs)[i]?=some y:=e1
    rw[DX ⋯] at e1'';exact e1''
   have e2':(List.replicate ts.length none++cR σ is)[i]?=some (some v):=e2
   rw[DX 0#31,DS] at e2';generalize i-ts.length=j at e1' e2';obtain⟨i,h1',h2'⟩:=xB e2';obtain⟨i',h3,h4⟩:=S.at' j y e1';rw[h1'] at h3;cases h3;have hfr:=S.fsf y (DW e1');have hk:=S.free (y,.free) (mem_lookup hfr) rfl;obtain⟨mm,hm,hl⟩:=I.loc;have vis:Vis X.env.scope y:=by
    rcases hk with k|k
    ·exact .inr (.inl k)
    ·exact .inr (.inr k)
   obtain⟨u,r,l⟩:=hl i y v h4 h2' vis;refine⟨u,r,?_⟩
   rcases l with ⟨k,_⟩|⟨_,c,hc,hcell⟩
   ·have k:X.env.kindOf y=some .local:=k
    rcases hk with k' | k' <;>rw[k] at k' <;>cases k'
   ·obtain⟨c',hc'⟩:=clhas (y,.free) (mem_lookup hfr) rfl
    have:=clsub y c' hc';rw[hc] at this;cases this;obtain⟨oc,hoc,hod⟩:=hcell;refine .inr ⟨?_,c,hc',oc,old c oc hoc,hod⟩;exact gq (env:=X.env) hfr
 ·obtain⟨v,oc,hoc,hod⟩:=I.cell y c (clsub y c e)
  exact⟨v,oc,old c oc hoc,hod⟩
 ·show (List.replicate ts.length none++cR σ is).length=(ts++fs).length
  rw[Dz,Dz,DS];unfold cR;rw[Di,S.len]
def qB (fsc:Scope)(N:List Str)(scope:Scope)(ts:List Str)(fs:List Str)(is:List Nat):Bool:=
 scope.kind == .function&&scope.names.all (λ y=>!(y.2 == .cell))&&scope.names.all (λ y=>!(y.2 == .local) || scope.names.lookup y.1 == some .local)&&ts.all (λ x=>scope.names.lookup x == some .local)&&decide (ts++fs).Nodup &&
 scope.names.all (λ y=>!(y.2 == .free) || (fsc.names.lookup y.1 == some .cell || fsc.names.lookup y.1 == some .free))&&fs.all (λ y=>scope.names.lookup y == some .free)&&is.length == fs.length&&(fs.zip is).all (λ p=>N[p.2]? == some p.1)
def aF {X:Cx}{fsc:Scope}{N:List Str}{scope:Scope}{ts:List Str}{fs:List Str}{is:List Nat}(h1:X.env.scope=fsc)(h2:X.N=N)(h:qB fsc N scope ts fs is=true):CompNamesT X scope ts fs is:=by
 subst h1 h2;unfold qB at h;simp only[Dl] at h;obtain⟨⟨⟨⟨⟨⟨⟨⟨a1,a2⟩,a3⟩,a4⟩,a5⟩,a6⟩,a7⟩,a8⟩,a9⟩:=h;refine⟨by simpa using a1,λ y hy=>?_,λ y hy hl=>?_,λ t ht=>(by simpa using List.all_eq_true.mp a4 t ht),by simpa using a5,λ y hy hf=>?_,λ y hy=>?_,by simpa using a8,λ j y hj=>?_⟩
 ·have:=List.all_eq_true.mp a2 y hy
  simpa using this
 ·have:=List.all_eq_true.mp a3 y hy
  simpa[hl] using this
 ·have:=List.all_eq_true.mp a6 y hy
  show X.env.scope.names.lookup y.1=some .cell\/X.env.scope.names.lookup y.1=some .free
  simpa[hf] using this
 ·have:=List.all_eq_true.mp a7 y hy
  simpa using this
 ·have hl:is.length=fs.length:=by simpa using a8
  have hjl:j<fs.length:=(List.getElem?_eq_some_iff.mp hj).1;refine⟨is[j]'⋯,by simp,?_⟩;have hm:(y,is[j]'⋯)∈fs.zip is:=by
   have e1:fs[j]=y:=(List.getElem?_eq_some_iff.mp hj).2;have:(fs.zip is)[j]'(by rw[E4];omega)=(y,is[j]'⋯):=by rw[List.getElem_zip,e1]
   rw[<- this];exact D6 _
  have:=List.all_eq_true.mp a9 _ hm;simpa using this
end Sd
namespace Dv
def compGoG (bn:D->Option (List D))(elt:EE)(cond:EE)(free:Env):List D->RL
 |[]=>.ok [] true
 |d::r=>match bn d with
  |some es=>match cond 0#92 with
   |.ok 0#96 _=>match elt 0#92 with
    |.ok x f=>match compGoG bn elt cond free r with
     |.ok xs g=>.ok (x::xs) (f&&g)
     |_=>.bad
    |_=>.bad
   |.ok 1#4 _=>compGoG bn elt cond free r
   |_=>.bad
  |none=>.bad
def eCompG (bn:D->Option (List D))(elt cond:EE)(is:List Nat)(it:EI):EE:=λ ρ=>match it ρ with
 |.ok ds _=>if ds.length<=mx then match compGoG bn elt cond (pick ρ is) ds with
   |.ok xs f=>.ok 1#37 f
   |_=>.bad
  else .bad
 |.exc c=>.exc c
 |.bad=>.bad
def bn1 (d:D):Option (List D):=some [d]
def bnT (m:Nat):D->Option (List D)
 |.tup es=>if es.length=m then some es else none
 |_=>none
def go1 (elt cond:EE)(free:Env):∀ l,compGoG bn1 elt cond free l=aZ elt cond free l
 |[]=>rfl
 |d::r=>by unfold compGoG aZ;simp only[bn1,go1 elt cond free r];all_goals rfl
def goT (m:Nat)(elt cond:EE)(free:Env):∀ l,compGoG (bnT m) elt cond free l=compGoT m elt cond free l
 |[]=>rfl
 |d::r=>by
  unfold compGoG compGoT;cases d with
  |tup es=>
   by_cases q:es.length=m
   ·simp only[bnT,q,if_true,goT m elt cond free r]
    all_goals rfl
   ·simp only[bnT,q,if_false]
  |_=>rfl
def eC1 (elt cond:EE)(is:List Nat)(it:EI):eCompG bn1 elt cond is it=eComp elt cond is it:=by funext ρ;unfold eCompG eComp;simp only[go1];all_goals rfl
def eCT (m:Nat)(elt cond:EE)(is:List Nat)(it:EI):eCompG (bnT m) elt cond is it=eCompT m elt cond is it:=by funext ρ;unfold eCompG eCompT;simp only[goT];all_goals rfl
end Dv
namespace Sd
open PySem PySem.Spec PyProof.Rows L2
open Dv (D R RL EE EL EI RI Sl Out SS)
section
variable {C:Ctx}{elt iter:Expr}{tg:Expr}{bn:D->Option (List D)}{T0:TG}{ts:List Str}{pos:Pos}{ifs:List Expr}{scope:Scope}{fs:List Str}{is:List Nat}{fi:EI}{fe fc:EE}
structure CompAtG (C:Ctx)(ts:List Str)(fs:List Str)(is:List Nat)(scope:Scope)(cl:List (Str×Addr))(L Da:Addr)(s2:Shared)(H1 Hv1:Hp)(fp:List Addr)(tn:Nat->Heap->Prop)(σ:St)(ds:List D)(i:Nat)(os:St)(vs:List V)(xs:List D)(f1:Bool)(Hn Hvn:Hp)(s:Shared):Prop where
 le:i<=ds.length
 ol:os.length=ts.length
 inv:Inv 0#37 [] (os++cR σ is) Hn s
 at_:tn i s.heap
 fpn:∀ b∈fp,Hn b=none
 obj:∃ (its:List Value) (ne:Nat),s.heap.get? Da=some { cls:=.type "list",data:=.seq its.toArray ne }/\Vals vs its
 dn:Hn Da=none
 few:vs.length<=i
 ext:Ext Hv1 H1 Hvn Hn
 rp:RpL C.X.K Hvn xs vs
 fr:f1=true->RpL [] (Hnew H1 Hn) xs vs
def uw {cl:List (Str×Addr)}{L Da:Addr}{s2:Shared}{H1:Hp}{fp:List Addr}{σ:St}{pins:List 0#18}{its:List Value}{ne:Nat}{vs:List V}{Hn:Hp}{s1:Shared}{os:St}{h':Heap}
  (I2:Inv C.X pins σ H1 s2) (f2:∀ b∈fp,jH C.X pins H1 b) (eD:Da=s2.heap.objs.size) (eL:L=s2.heap.objs.size+1)
  (I:Inv 0#37 [] (os++cR σ is) Hn s1) (obj:s1.heap.get? Da=some { cls:=.type "list",data:=.seq its.toArray ne }) (rv:Vals vs its) (dn:Hn Da=none) (few:vs.length<=sizeLine)
  (sb:∀ b,b≠L->h'.get? b=s1.heap.get? b):Inv C.X pins σ (upd Hn Da 1#48) { s1 with heap:=h' }:=by
 have lt:∀ b o,s2.heap.get? b=some o->b≠Da/\b≠L:=λ b o e=>by
  have hlt:=GE e;rw[eD,eL];exact⟨Dy hlt,Dy (D8 hlt)⟩
 have hDL:Da≠L:=by rw[eD,eL];exact Dy (DR _)
 have kp:∀ b o,b≠L->s1.heap.get? b=some o->h'.get? b=some o:=λ b o hb e=>(sb b hb).trans e
 refine I2.call' (s':={ s1 with heap:=h' }) (ch:=fp) I.os ⟨λ b ob e n hb hx=>?_,λ b ob e n hb hx=>?_,λ b ob e n hx=>?_,λ b ob e hx=>?_,λ b us e=>?_,λ b ob u e=>?_,λ b ps e=>?_⟩ ?_ I.bare λ b hb=>⟨(f2 b hb).2.2.2.1,(f2 b hb).2.1,(f2 b hb).2.2.2.2.1,(f2 b hb).2.2.2.2.2⟩
 ·exact kp b ob (lt b ob e).2 (I.base.keep b ob e n hb hx)
 ·obtain⟨sl,h1⟩:=I.base.slot b ob e n hb hx
  exact⟨sl,kp b _ (lt b ob e).2 h1⟩
 ·rw[ag (lt b ob e).1];exact I.base.free b ob e n hx
 ·obtain⟨o',h1⟩:=I.base.there b ob e hx
  exact⟨o',kp b _ (lt b ob e).2 h1⟩
 ·have h1:=I.base.tups b us e
  rw[ag (au h1 dn)];exact h1
 ·have h1:=I.base.frzs b ob u e
  rw[ag (au h1 dn)];exact h1
 ·obtain⟨more,h1⟩:=I.base.tbls b ps e
  exact⟨more,by rw[ag (au h1 dn)];exact h1⟩
 ·exact gZ (yi I.hok I.free kp) dn ⟨few,its,ne,rv,kp Da _ hDL obj⟩
def mr {bn:D->Option (List D)}{elt cond:EE}{free:Dv.Env}{d:D}{r:List D}{xs:List D}{f:Bool}(h:Dv.compGoG bn elt cond free (d::r)=.ok xs f):
  ∃ es,bn d=some es/\((∃ g x fx xs' f',cond 0#92=.ok 0#96 g/\elt 0#92=.ok x fx/\Dv.compGoG bn elt cond free r=.ok xs' f'/\xs=x::xs'/\f=(fx&&f')) \/
  (∃ g,cond 0#92=.ok 1#4 g/\Dv.compGoG bn elt cond free r=.ok xs f)):=by
 unfold Dv.compGoG at h;cases hb:bn d with
 |none=>simp only[hb] at h;cases h
 |some es=>
  refine⟨es,rfl,?_⟩;simp only[hb] at h;cases hc:cond 0#92 with
  |bad=>simp only[hc] at h;cases h
  |exc c=>simp only[hc] at h;cases h
  |ok v g=>
   cases v with
   |bl b=>
    cases b with
    |true=>
     simp only[hc] at h;cases he:elt 0#92 with
     |bad=>simp only[he] at h;cases h
     |exc c=>simp only[he] at h;cases h
     |ok x fx=>
      simp only[he] at h;cases hr:Dv.compGoG bn elt cond free r with
      |bad=>simp only[hr] at h;cases h
      |exc c=>simp only[hr] at h;cases h
      |ok xs' f'=>
       simp only[hr] at h;cases h;exact .inl ⟨g,x,fx,xs',f',rfl,rfl,rfl,rfl,rfl⟩
    |false=>simp only[hc] at h;exact .inr ⟨g,rfl,h⟩
   |_=>simp only[hc] at h;cases h
structure TgR (C:Ctx)(tg:Expr)(ts fs:List Str)(scope:Scope)(bn:D->Option (List D))(T:TG):Prop where
 hg:∀ cl L s₀ H₀ ex,PG (bL C.X (ts++fs) scope cl L s₀ H₀ ex) tg T
 ht:∀ {K:GA} {d:D} {des:List D} {Hv H:Hp} {xv:V} {os fr:St} {Q:St->Hp->Prop},bn d=some des->os.length=ts.length->Same Hv H->Rp K Hv d xv->(∀ ws,ws.length=ts.length->RpL K Hv des ws->Q (ws.map some++fr) H)->T xv (os++fr) H Q
def jJ {pins:List (Addr×Obj)}{s:Shared}{σ:St}{H Hv:Hp}{ρ:Dv.Env}{Q:VK}{use:Option (Value->Sem Unit)}{Q':Value->Shared->Prop}{pos':Pos}(hclm:C.X.calm=true)(S:CompNamesT C.X scope ts fs is)(hG:TgR C tg ts fs scope bn T0)(hi:SI C tg iter fi)(he:∀ cl L s₀ H₀ ex,SE 0#14 elt fe)(hc:∀ cl L s₀ H₀ ex,STs 0#14 ifs fc)
  (hs:∀ v,foldedSetIterable iter C.X.env v=pure v) (I:Inv C.X pins σ H s) (er:EnvR C.X.K Hv ρ σ) (sv:Same Hv H) (ok:Ok C.X.K Hv H (C.W σ) C.cls 1#22 Q)
  (hfin:∀ Da L s5,rA C pins σ Q Da L s5->compPost 0#44 C.X.A C.X.xe use Q' (.ref Da) L (.ok .next) s5):
  wpAny 0#44 C.X.A (comprehension 0#13 scope C.X.env pos' (newList []) false (eval iter C.X.env) use) Q' C.X.xe s:=by
 obtain⟨wi,pi,qi⟩:=hi;obtain⟨cl,hcl,clsub,clhas⟩:=pY (env:=C.X.env) (scope:=scope) λ y hy hf=>I.ok.has y.1 (S.free y hy hf)
 have h0:wi σ H (λ J H1=>∃ Hv1 ds xs fr,Ext Hv H Hv1 H1/\Wlk C.X.K J Hv1 ds/\ds.length<=Dv.mx/\Dv.compGoG bn fe fc (Dv.pick ρ is) ds=.ok xs fr/\Ok C.X.K Hv H (C.W σ) C.cls (.ok 1#37 fr) Q):=by
  refine qi σ H Hv ρ _ er sv ?_
  unfold Dv.eCompG at ok;cases hf:fi ρ with
  |bad=>simp only[hf] at ok;exact ok
  |exc c=>simp only[hf] at ok;exact ok
  |ok ds g=>
   simp only[hf] at ok;by_cases hz:ds.length<=Dv.mx
   ·simp only[hz,if_true] at ok
    cases hgo:Dv.compGoG bn fe fc (Dv.pick ρ is) ds with
    |bad=>simp only[hgo] at ok;exact Zf ok
    |exc c=>simp only[hgo] at ok;exact Zf ok
    |ok xs fr=>
     simp only[hgo] at ok;exact λ J Hv1 H1 x1 wl=>⟨Hv1,ds,xs,fr,x1,wl,hz,hgo,ok⟩
   ·simp only[hz,if_false] at ok
    exact Zf ok
 refine wpAny_comprehension_free (use:=use) rfl hs hcl S.kind S.names (GL (pi pins s σ H _ I h0) (λ v s1 h1=>GL h1 (λ itv s2 h2=>?_) λ _ _ z=>z) λ _ _ z=>z);obtain⟨it,fp,tn,J,H1,rfl,I2,T,st2,f2,Hv1,ds,xs,fr,x1,wl,hz,hgo,okE⟩:=h2;clear ok;have fin:∀ b∈fp,b<s2.heap.objs.size:=λ b hb=>by
  obtain⟨o,e,_⟩:=T.obj 0 _ st2 b hb;exact GE e
 refine HM (wpAny_newFunctionEnv S.cell (by intro y hy;simp at hy) (λ h1 hns hsb=>?_) S.kind);dsimp only at hns hsb ⊢;generalize hH2:s2.heap.push { cls:=.type "list",dict:=none,data:=.seq ([]:List Value).toArray }=G2 at hns hsb ⊢;have hL:G2.objs.size=s2.heap.objs.size+1:=by rw[<- hH2,HB]
 generalize eL:G2.objs.size=L at hns hsb ⊢;rw[eL] at hL;have old:∀ b o,s2.heap.get? b=some o->h1.get? b=some o:=λ b o e=>by
  have hlt:=GE e;exact hsb.extBut b o (by rw[hL];exact Dy (D8 hlt)) (GC _ (hH2▸GC _ e))
 have hacc:h1.get? s2.heap.objs.size=some { cls:=.type "list",data:=.seq ([]:List Value).toArray 0 }:=hsb.extBut _ _ (by rw[hL];exact Dy (DR _)) (GC _ (hH2▸GF _ rfl));generalize eD:s2.heap.objs.size=Da at hacc hL ⊢;have hDfp:Da∉fp:=λ hb=>by
  have:=fin Da hb;rw[eD] at this;exact D0 _ this
 have hDL:Da≠L:=by rw[hL];exact Dy (DR _)
 have hsL:s2.heap.objs.size<=L:=by rw[hL,eD];exact Ez _
 have hsD:s2.heap.objs.size<=Da:=FU eD;obtain⟨te,pe,qe⟩:=he cl L s2 H1 fp;obtain⟨tt,pt,qt⟩:=hc cl L s2 H1 fp;have hDfs:Da∉frs C.X.stack:=λ hb=>by
  obtain⟨_,ob,hob,_⟩:=I2.stack.mem hb;have:=GE hob;rw[eD] at this;exact D0 _ this
 have hcalm:(bL C.X (ts++fs) scope cl L s2 H1 fp).calm=true:=hclm;have start:CompAtG C ts fs is scope cl L Da s2 H1 Hv1 fp tn σ ds 0 (List.replicate ts.length none) [] [] true H1 Hv1 { s2 with heap:=h1,toks:=s2.toks+([]:List 2#18).length }:=
  ⟨D7 _,by simp,sO I2 S clsub clhas f2 fin hsL old hns,T.keep 0 _ _ st2 λ b hb o e=>old b o e,λ b hb=>(f2 b hb).1,⟨[],0,hacc,.nil⟩,I2.hok.fresh hsD,Du _,.refl x1.vh,.nil,λ _=>.nil⟩
 have loop:∀ (T0:Result->Shared->Prop) (s4:Shared),(∀ s',rA C pins σ Q Da L s'->T0 (.ok .next) s')->CompAtG C ts fs is scope cl L Da s2 H1 Hv1 fp tn σ ds 0 (List.replicate ts.length none) [] [] true H1 Hv1 s4 ->
   codeAny 0#44 C.X.A (.compLoop 0#13 0 2#74 (.ref Da) (compEnvC scope cl L C.X.env)) T0 s4:=by
  intro T0 s4 hT hst';refine oX (λ n s=>∃ i os vs xs1 f1 xs2 fr2 Hn Hvn,n=ds.length-i/\CompAtG C ts fs is scope cl L Da s2 H1 Hv1 fp tn σ ds i os vs xs1 f1 Hn Hvn s/\Dv.compGoG bn fe fc (Dv.pick ρ is) (ds.drop i)=.ok xs2 fr2/\xs=xs1++xs2/\fr=(f1&&fr2)) ?_ ds.length ⟨0,List.replicate ts.length none,[],[],true,xs,fr,H1,Hv1,rfl,hst',hgo,rfl,by simp⟩
  rintro n s ⟨i,os,vs,xs1,f1,xs2,fr2,Hn,Hvn,rfl,A,hg2,hxs,hfr⟩
  obtain⟨its,ne,hob,rv⟩:=A.obj;have I1:Inv 0#37 [0#22] (os++cR σ is) Hn s:=A.inv.pins_of λ p hp=>by
   have e:p=(Da,({ cls:=.type "list",data:=.seq its.toArray ne }:Obj)):=by simpa using hp
   subst e;exact⟨hob,A.dn,hDL,hDfs,λ v z=>by cases z⟩
  have hfp:∀ Hx:Hp,(∀ b∈fp,Hx b=none)->∀ b∈fp,jH 0#37 [0#22] Hx b:=λ Hx hx b hb=>by
   refine⟨hx b hb,?_,λ hf=>?_,.inl hb,λ y c e=>(f2 b hb).2.2.2.2.1 y c (clsub y c e),λ p hp=>?_⟩
   ·have:=fin b hb
    exact λ z=>by
     have z':b=L:=z;rw[z'] at this;exact absurd this (Nat.not_lt.mpr hsL)
   ·obtain⟨_,ob,hob',_⟩:=I2.stack.mem hf
    rcases List.mem_cons.mp (I2.stkSub b hf) with e|e
    ·exact(f2 b hb).2.1 e
    ·exact(f2 b hb).2.2.1 e
   ·have e:p=(Da,({ cls:=.type "list",data:=.seq its.toArray ne }:Obj)):=by simpa using (show p∈[]++[(Da,({ cls:=.type "list",data:=.seq its.toArray ne }:Obj))] from hp)
    subst e;exact λ z=>hDfp (by rw[show Da=b from z];exact hb)
  obtain⟨w1,w2⟩:=wl i Hn (A.ext.vv.trans A.ext.vh);by_cases hlt:i<ds.length
  ·have hd:ds[i]?=some ds[i]:=by simp[hlt]
   have e1:ds.drop i=ds[i]::ds.drop (i+1):=Eb hlt;rw[e1] at hg2;generalize ds[i]=d at hd e1 hg2;obtain⟨go,yl⟩:=w1 d hd;refine GL (T.item 0#37 rfl rfl rfl hcalm i _ s _ Hn 1#63 I1 (hfp Hn A.fpn) A.at_ go) (λ r s5 h5=>?_) λ _ _ z=>z
   obtain⟨u,rfl,h5⟩:=h5;refine GL h5 (λ _ s6 h6=>?_) λ _ _ z=>z
   obtain⟨xv,H6,I6,ru,y6,tn6,fr6⟩:=h6;obtain⟨Hv6,x6,rp6⟩:=yl xv H6 y6;obtain⟨Hvm,xm,sm⟩:=uE A.ext x6;have I6p:=I6.pinned (fp:=fp) (hfp H6 fr6) (T.obj _ _ tn6);have dn6:H6 Da=none:=(I6.pin 0#22 (DF _ 0#5)).2.1;obtain⟨des,ed,hgo3⟩:=mr hg2;refine GL (hG.hg cl L s2 H1 fp _ s6 _ H6 xv u (λ σ' H'=>∃ ws,ws.length=ts.length/\RpL C.X.K Hv6 des ws/\σ'=ws.map some++cR σ is/\H'=H6) I6p ru (hG.ht ed A.ol x6.vh rp6 λ ws h1 h2=>⟨ws,h1,h2,rfl,rfl⟩)) (λ _ s7 h7=>?_) λ _ _ z=>z
   obtain⟨σ7,H7,I7,ws,hwl,hws,e7,e7'⟩:=h7;subst e7 e7';have er7:EnvR C.X.K Hvm 1#21 (ws.map some++cR σ is):=tO (er.same ((x1.vv.trans A.ext.vv).trans xm.vv)) ((hws.same sm));have back:∀ {s':Shared} {H':Hp} {σ':St},Inv 0#37 ([0#22]++jb fp s6.heap) σ' H' s'->tn (i+1) s'.heap/\(∀ b∈fp,H' b=none)/\s'.heap.get? Da=some { cls:=.type "list",data:=.seq its.toArray ne }/\H' Da=none:=λ {s' H' σ'} I'=>by
    refine⟨T.keep _ _ _ tn6 λ b hb o e=>(I'.pin (b,o) 2#15).1,λ b hb=>?_,?_,?_⟩
    ·obtain⟨o,e,_⟩:=T.obj _ _ tn6 b hb
     exact(I'.pin (b,o) 2#15).2.1
    ·exact(I'.pin 0#22 (DF _ (DP _ 0#5))).1
    ·exact(I'.pin 0#22 (DF _ (DP _ 0#5))).2.1
   rcases hgo3 with ⟨g,xd,fx,xs',f',hcond,helt,hrest,exs,ef⟩|⟨g,hcond,hrest⟩
   ·-- the item is taken
    refine GL (pt _ s7 _ H7 (λ b H'=>b=true/\∃ Hvq,Ext Hvm H7 Hvq H') I7 (qt _ H7 Hvm 1#21 _ er7 xm.vh ?_)) (λ okb s8 h8=>?_) λ _ _ z=>z
    ·rw[hcond]
     intro v Hv' H' xx rpb _;unfold Rp at rpb;exact⟨true,rpb,rfl,Hv',xx⟩
    obtain⟨H8,I8,rfl,Hv8,x8⟩:=h8;rw[if_pos rfl];refine GL (pe _ s8 _ H8 (λ v H'=>∃ Hv',Ext Hv8 H8 Hv' H'/\Rp C.X.K Hv' xd v/\(fx=true->Rp [] (Hnew H8 H') xd v)) I8 (qe _ H8 Hv8 1#21 _ (er7.same x8.vv) x8.vh ?_)) (λ uv s9 h9=>?_) λ _ _ z=>z
    ·show Ok C.X.K Hv8 H8 _ C.cls (fe 1#21) _
     rw[helt];exact λ v Hv' H' xx rpb nn=>⟨Hv',xx,rpb,nn⟩
    obtain⟨v9,H9,I9,r9,Hv9,x9,rp9,n9⟩:=h9;obtain⟨tn9,fpn9,ob9,dn9⟩:=back I9;have hlen:=rv.length;refine Ih J6 ⟨_,ob9,rfl⟩ JP (JF _ _) (Kb Da its.toArray ne uv (by rw[Ds];have:=A.few;have:=dh hz;omega)) ⟨ob9,?_⟩;refine⟨ds.length-(i+1),⋯,i+1,ws.map some,vs++[v9],xs1++[xd],f1&&fx,xs',f',H9,Hv9,rfl,⟨hlt,by simp[hwl],?_,?_,fpn9,?_,dn9,?_,?_,?_,?_⟩,hrest,by rw[hxs,exs];simp,by rw[hfr,ef,Bool.and_assoc]⟩
    ·have I9':Inv 0#37 [] (ws.map some++cR σ is) H9 s9:=I9.pins_of λ p hp=>absurd hp 0#5
     exact I9'.turned (it:=Da) (λ b ob hb e=>(GK _ _ (Ne.symm hb)).trans e) dn9 hDL (.inr hsD) (λ y c e z=>by
      obtain⟨w',oc,hoc,_⟩:=I2.cell y c (clsub y c e);have:=GE hoc;rw[z] at this;exact absurd this (Nat.not_lt.mpr hsD)) (λ p hp=>absurd (show p∈([]:List 0#18) from hp) 0#5)
    ·exact T.keep _ _ _ tn9 λ b hb ob e=>(GK _ _ (λ z=>hDfp (by rw[z];exact hb))).trans e
    ·have q:=Ki ob9 (λ a=>a.push uv)
     exact⟨its++[uv],_,by simpa using q,rv.append (.cons r9 .nil)⟩
    ·rw[Dz,D5];have:=A.few;omega
    ·exact A.ext.trans (xm.trans (x8.trans x9))
    ·exact(A.rp.same ((xm.vv.trans x8.vv).trans x9.vv)).append (.cons rp9 .nil)
    ·intro z
     rw[Dl] at z;refine((A.fr z.1).same (Hnew.mono 1#14 ((xm.hh.trans x8.hh).trans x9.hh))).append (.cons ((n9 z.2).same (Hnew.mono ((A.ext.hh.trans xm.hh).trans x8.hh) 1#14)) .nil)
   ·-- the item is left out
    refine GL (pt _ s7 _ H7 (λ b H'=>b=false/\∃ Hvq,Ext Hvm H7 Hvq H') I7 (qt _ H7 Hvm 1#21 _ er7 xm.vh ?_)) (λ okb s8 h8=>?_) λ _ _ z=>z
    ·rw[hcond]
     intro v Hv' H' xx rpb _;unfold Rp at rpb;exact⟨false,rpb,rfl,Hv',xx⟩
    obtain⟨H8,I8,rfl,Hv8,x8⟩:=h8;rw[if_neg DB];obtain⟨tn8,fpn8,ob8,dn8⟩:=back I8;refine⟨ds.length-(i+1),⋯,i+1,ws.map some,vs,xs1,f1,xs2,fr2,H8,Hv8,rfl,⟨hlt,by simp[hwl],I8.pins_of λ p hp=>absurd hp 0#5,tn8,fpn8,⟨its,ne,ob8,rv⟩,dn8,ET A.few,A.ext.trans (xm.trans x8),A.rp.same (xm.vv.trans x8.vv),λ z=>(A.fr z).same (Hnew.mono 1#14 (xm.hh.trans x8.hh))⟩,hrest,hxs,hfr⟩
  ·have ei:i=ds.length:=Nat.le_antisymm A.le ⋯
   refine GL (T.done 0#37 rfl rfl rfl hcalm i _ s _ Hn 1#63 I1 (hfp Hn A.fpn) A.at_ (w2 ei)) (λ r s5 h5=>?_) λ _ _ z=>z
   obtain⟨rfl,I5⟩:=h5;refine hT s5 ?_
   obtain⟨m5,hn5,_⟩:=I5.loc;rw[ei,Fs] at hg2;cases hg2;rw[DU] at hxs;rw[Dt] at hfr;subst hxs hfr;have ob5:=(I5.pin 0#22 (DF _ 0#5)).1;refine⟨⟨m5,hn5⟩,λ z=>absurd I2.lt (by rw[<- z];exact Nat.not_lt.mpr hsL),λ y c e z=>?_,D4 I2.sz hsL,λ p hp z=>?_,upd Hn Da 1#48,?_,?_,λ h' sb=>?_⟩
   ·obtain⟨w',oc,hoc,_⟩:=I2.cell y c e
    exact absurd (GE hoc) (by rw[z];exact Nat.not_lt.mpr hsL)
   ·exact absurd (GE (I2.pin p hp).1) (by rw[z];exact Nat.not_lt.mpr hsL)
   ·rw[ag (Ne.symm hDL)];exact A.inv.free
   ·exact Ok.newL okE (x1.trans A.ext) A.rp (λ z=>(A.fr z).same (Hnew.mono x1.hh 1#14)) Da A.dn
   ·exact uw I2 f2 eD.symm (by rw[hL,eD]) (I5.pins_of λ p hp=>absurd hp 0#5) ob5 rv A.dn (by have:=A.few;have:=A.le;have:=dh hz;omega) sb
 refine codeAny_compStart_list (loop _ _ (λ s' h=>hfin Da L s' h) start) ?_
 exact T.self _ 0 _ _ _ start.at_ (loop _ _ (λ s' h=>hfin Da L s' h) start)
def ny (S:CompNamesT C.X scope ts fs is)(hG:TgR C tg ts fs scope bn T0)(hi:SI C tg iter fi)(he:∀ cl L s₀ H₀ ex,SE 0#14 elt fe)(hc:∀ cl L s₀ H₀ ex,STs 0#14 ifs fc)
  (hs:autoParam 0#25 ZE._auto_1) (hclm:autoParam 0#61 ZF._auto_1):SE C 0#13 (Dv.eCompG bn fe fc is fi):=by
 refine⟨λ σ H Q=>∃ Hv ρ,EnvR C.X.K Hv ρ σ/\Same Hv H/\Ok C.X.K Hv H (C.W σ) C.cls 1#22 Q,?_,λ σ H Hv ρ Q e s q=>⟨Hv,ρ,e,s,q⟩⟩;intro pins s σ H Q I ⟨Hv,ρ,er,sv,ok⟩;rw[eval_ListComp];refine jJ (use:=none) hclm S hG hi he hc hs I er sv ok λ Da L s5 h=>?_
 obtain⟨⟨m,hn⟩,_,_,_,_,H',hL,q,iv⟩:=h;exact⟨m,hn,λ h' sb=>⟨.ref Da,H',iv h' λ b hb=>sb.2 b hb,rfl,q⟩⟩
def ez {i:Nat}{y:Str}{py spos:Pos}(S:CompNamesT C.X scope ts fs is)(hG:TgR C tg ts fs scope bn T0)(hi:SI C tg iter fi)(he:∀ cl L s₀ H₀ ex,SE 0#14 elt fe)(hc:∀ cl L s₀ H₀ ex,STs 0#14 ifs fc)
  (hN:C.X.N.Nodup) (hy:C.X.N[i]?=some y) (hl:C.X.env.scope.names.lookup y=some .local) (hsw:swapsWith 0#13 1#66 spos.line C.X.env=pure true) (hs:∀ v,foldedSetIterable iter C.X.env v=pure v) (hclm:C.X.calm=true):
  PS C.X (.Assign [.Name y py] 0#13 spos) (λ E σ H=>∃ Hv ρ,EnvR C.X.K Hv ρ σ/\Same Hv H/\Ok C.X.K Hv H (C.W σ) C.cls 1#22 λ v H'=>E.nx 0#79 H'):=by
 intro pins s σ H E I ⟨Hv,ρ,er,sv,ok⟩;rw[exec_Assign_Name_used _ _ _ _ hsw];refine GB (JI (GB ?_));show wpAny _ _ (do let _ <- comprehension 0#13 scope C.X.env _ (newList []) false (eval iter C.X.env) (some (assign (.Name y py) C.X.env))) _ _ s
 refine GB (GL (jJ (use:=some (assign (.Name y py) C.X.env)) (Q':=λ _ s'=>∃ σ' H',Inv C.X pins σ' H' s'/\E.nx σ' H') hclm S hG hi he hc hs I er sv ok λ Da L s5 h=>?_) (λ _ s' hq=>GD (GD hq)) λ _ _ e=>e);obtain⟨⟨m,hn⟩,h1,h2,h3,h4,H',hL,q,iv⟩:=h;have I5:Inv C.X pins σ H' s5:=iv s5.heap λ b _=>rfl
 show wpAny _ _ (assign (.Name y py) C.X.env (.ref Da)) _ _ s5
 refine wpAny_assign_Name (k7 (v:=.ref Da) I5 hN hy (.inl hl) rfl (λ s6 I6 ⟨a,sb,ha⟩=>?_) (.inr hl));have hLa:L≠a:=by
  rcases ha with rfl|ha
  ·exact h1
  ·exact λ z=>h2 y a ha z.symm
 refine⟨m,hn.sameBut sb hLa,λ h' sb'=>⟨_,H',?_,q⟩⟩;exact I6.turned (t':=s6.toks) (it:=L) (λ b o hb e=>(sb'.2 b hb).trans e) hL h1 (.inr h3) h2 h4
def lU {i:Nat}{y:Str}{py spos:Pos}(S:CompNamesT C.X scope ts fs is)(hG:TgR C tg ts fs scope bn T0)(hi:SI C tg iter fi)(he:∀ cl L s₀ H₀ ex,SE 0#14 elt fe)(hc:∀ cl L s₀ H₀ ex,STs 0#14 ifs fc)
  (hN:C.X.N.Nodup) (hy:C.X.N[i]?=some y) (hl:C.X.env.scope.names.lookup y=some .local) (hsw:autoParam (swapsWith 0#13 1#66 spos.line C.X.env=pure true) ZF._auto_1) (hs:autoParam 0#25 ZE._auto_1) (hclm:autoParam 0#61 ZF._auto_1):
  SSt C (.Assign [.Name y py] 0#13 spos) (Dv.sSet i (Dv.eCompG bn fe fc is fi)):=
 ⟨_,ez S hG hi he hc hN hy hl hsw hs hclm,λ Hv₀ H₀ E σ H st r w=>qz (f:=Dv.eCompG bn fe fc is fi) (t:=λ σ H Q=>∃ Hv ρ,EnvR C.X.K Hv ρ σ/\Same Hv H/\Ok C.X.K Hv H (C.W σ) C.cls 1#22 Q) (λ σ H Hv ρ Q e s q=>⟨Hv,ρ,e,s,q⟩) i r w⟩
def l6 (gs:List Nat){i:Nat}{y:Str}{py spos:Pos}(S:CompNamesT C.X scope ts fs is)(hG:TgR C tg ts fs scope bn T0)(hi:SI C tg iter fi)(he:∀ cl L s₀ H₀ ex,SE 0#14 elt fe)(hc:∀ cl L s₀ H₀ ex,STs 0#14 ifs fc)
  (hN:C.X.N.Nodup) (hy:C.X.N[i]?=some y) (hl:C.X.env.scope.names.lookup y=some .local) (hsw:autoParam (swapsWith 0#13 1#66 spos.line C.X.env=pure true) ZF._auto_1) (hs:autoParam 0#25 ZE._auto_1) (hclm:autoParam 0#61 ZF._auto_1):
  SSt C (.Assign [.Name y py] 0#13 spos) (Dv.sSetG gs i (Dv.eCompG bn fe fc is fi)):=
 ⟨_,ez S hG hi he hc hN hy hl hsw hs hclm,λ Hv₀ H₀ E σ H st r w=>om (f:=Dv.eCompG bn fe fc is fi) (t:=λ σ H Q=>∃ Hv ρ,EnvR C.X.K Hv ρ σ/\Same Hv H/\Ok C.X.K Hv H (C.W σ) C.cls 1#22 Q) (λ σ H Hv ρ Q e s q=>⟨Hv,ρ,e,s,q⟩) gs i r w⟩
end
section
variable {C:Ctx}{elt iter:Expr}{x:Str}{px pos:Pos}{ifs:List Expr}{scope:Scope}{fs:List Str}{is:List Nat}{fi:EI}{fe fc:EE}
def l8 (S:CompNamesT C.X scope [x] fs is):TgR C 0#21 [x] fs scope Dv.bn1 (c5 0):=
  ⟨λ cl L s₀ H₀ ex=>gI (X:=bL C.X ([x]++fs) scope cl L s₀ H₀ ex) (pos:=px) (i:=0) (x:=x) S.nd rfl (.inl (IA (S.tgt x 0#5))) (.inr (IA (S.tgt x 0#5))),
   λ {K d des Hv H xv os fr Q} e l _ r h=>by
    cases e
    match os,l with
    |[o],_=>exact h [xv] rfl (.cons r .nil)⟩
def AH {es:List Expr}{ts:List Str}{kt:Nat}(hcl:C.X.calm=true)(S:CompNamesT C.X scope ts fs is)(na:NamesAre es ts)(hn:∀ env,(assignEach es env).length=es.length)(hst:∀ env,(assignEach es env).findIdx? (·.1)=none):TgR C (.Tuple es kt px) ts fs scope (Dv.bnT ts.length) (BV C.X.K es.length (tgN 0 es.length)):=by
 have hesl:es.length=ts.length:=na.length;refine⟨λ cl L s₀ H₀ ex=>uT (X:=bL C.X (ts++fs) scope cl L s₀ H₀ ex) (pos:=px) (k:=kt) hcl (tZ (X:=bL C.X (ts++fs) scope cl L s₀ H₀ ex) S.nd na 0 (λ j t ht=>⟨by
  show (ts++fs)[0+j]?=some t
  rw[Et,DI (List.getElem?_eq_some_iff.mp ht).1];exact ht,IA (S.tgt t (DW ht))⟩)) (hn _) (hst _),λ {K d des Hv H xv os fr Q} e l sm r h=>?_⟩
 cases d with
 |tup es'=>
  by_cases hdl:es'.length=ts.length
  ·have e':es'=des:=by simpa[Dv.bnT,hdl] using e
   subst e';unfold Rp at r;obtain⟨ta,ws,rfl,hta,hws⟩:=r;have hwl:ws.length=ts.length:=by rw[hws.length,hdl]
   refine⟨ta,ws,rfl,.inl (Rd.same sm hta),by rw[hwl,hesl],?_⟩;rw[hesl];have:=uX ts.length 0 ws [] os fr H Q hwl l rfl (by simpa using h ws hwl hws);simpa using this
  ·simp[Dv.bnT,hdl] at e
 |_=>cases e
def bI (S:CompNamesT C.X scope [x] fs is)(hi:SI C 0#21 iter fi)(he:∀ cl L s₀ H₀ ex,SE 0#27 elt fe)(hc:∀ cl L s₀ H₀ ex,STs 0#27 ifs fc)
  (hs:autoParam 0#25 ZE._auto_1) (hclm:autoParam 0#61 ZF._auto_1):SE C 0#20 (Dv.eComp fe fc is fi):=by
 rw[<- Dv.eC1];exact ny S (l8 S) hi he hc hs hclm
def wC {es:List Expr}{ts:List Str}{kt:Nat}(S:CompNamesT C.X scope ts fs is)(na:NamesAre es ts)(hn:∀ env,(assignEach es env).length=es.length)(hst:∀ env,(assignEach es env).findIdx? (·.1)=none)(hi:SI C (.Tuple es kt px) iter fi)(he:∀ cl L s₀ H₀ ex,SE 0#14 elt fe)(hc:∀ cl L s₀ H₀ ex,STs 0#14 ifs fc)
  (hs:autoParam 0#25 ZE._auto_1) (hclm:autoParam 0#61 ZF._auto_1):SE C (.ListComp elt [⟨.Tuple es kt px,iter,ifs,0⟩] scope pos) (Dv.eCompT ts.length fe fc is fi):=by
 rw[<- Dv.eCT];exact ny S (AH hclm S na hn hst) hi he hc hs hclm
def p7 {i:Nat}{y:Str}{py spos:Pos}(S:CompNamesT C.X scope [x] fs is)(hi:SI C 0#21 iter fi)(he:∀ cl L s₀ H₀ ex,SE 0#27 elt fe)(hc:∀ cl L s₀ H₀ ex,STs 0#27 ifs fc)
  (hN:C.X.N.Nodup) (hy:C.X.N[i]?=some y) (hl:C.X.env.scope.names.lookup y=some .local) (hsw:swapsWith 0#20 1#66 spos.line C.X.env=pure true) (hs:∀ v,foldedSetIterable iter C.X.env v=pure v) (hclm:C.X.calm=true):
  PS C.X (.Assign [.Name y py] 0#20 spos) (λ E σ H=>∃ Hv ρ,EnvR C.X.K Hv ρ σ/\Same Hv H/\Ok C.X.K Hv H (C.W σ) C.cls (Dv.eComp fe fc is fi ρ) λ v H'=>E.nx 0#79 H'):=by
 rw[<- Dv.eC1];exact ez S (l8 S) hi he hc hN hy hl hsw hs hclm
def o7 {i:Nat}{y:Str}{py spos:Pos}(S:CompNamesT C.X scope [x] fs is)(hi:SI C 0#21 iter fi)(he:∀ cl L s₀ H₀ ex,SE 0#27 elt fe)(hc:∀ cl L s₀ H₀ ex,STs 0#27 ifs fc)
  (hN:C.X.N.Nodup) (hy:C.X.N[i]?=some y) (hl:C.X.env.scope.names.lookup y=some .local) (hsw:autoParam (swapsWith 0#20 1#66 spos.line C.X.env=pure true) ZF._auto_1) (hs:autoParam 0#25 ZE._auto_1) (hclm:autoParam 0#61 ZF._auto_1):
  SSt C (.Assign [.Name y py] 0#20 spos) (Dv.sSet i (Dv.eComp fe fc is fi)):=by
 rw[<- Dv.eC1];exact lU S (l8 S) hi he hc hN hy hl hsw hs hclm
def mS (gs:List Nat){i:Nat}{y:Str}{py spos:Pos}(S:CompNamesT C.X scope [x] fs is)(hi:SI C 0#21 iter fi)(he:∀ cl L s₀ H₀ ex,SE 0#27 elt fe)(hc:∀ cl L s₀ H₀ ex,STs 0#27 ifs fc)
  (hN:C.X.N.Nodup) (hy:C.X.N[i]?=some y) (hl:C.X.env.scope.names.lookup y=some .local) (hsw:autoParam (swapsWith 0#20 1#66 spos.line C.X.env=pure true) ZF._auto_1) (hs:autoParam 0#25 ZE._auto_1) (hclm:autoParam 0#61 ZF._auto_1):
  SSt C (.Assign [.Name y py] 0#20 spos) (Dv.sSetG gs i (Dv.eComp fe fc is fi)):=by
 rw[<- Dv.eC1];exact l6 gs S (l8 S) hi he hc hN hy hl hsw hs hclm
end
def RelC.growP {K:GA}{Hv₀ H₀ Hc H H' R:Hp}{O:Nat->Hp}{st:Dv.St}{σ:St}(r0:RelC K Hv₀ H₀ Hc O st σ H)(r:RelC K Hv₀ H₀ Hc O st σ H')(hR:∀ b o,R b=some o->H b=none/\H' b=some o):RelC K Hv₀ H₀ (cc Hc R) O st σ H':=by
 have sm:Same Hc (cc Hc R):=fj;refine⟨r.h0,r.vc.trans sm,λ b o h=>?_,λ b o h n=>?_,r.nf,r.len,λ i d h=>?_,λ i d h=>?_,r.dp,r.jk,λ i b o h=>?_,r.one⟩
 ·rcases bO h with h|⟨_,h⟩
  ·exact r.ch b o h
  ·exact(hR b o h).2
 ·rcases bO h with h|⟨_,h⟩
  ·exact r.new b o h n
  ·exact r0.h0.free (hR b o h).1
 ·obtain⟨v,h1,h2⟩:=r.sh i d h
  exact⟨v,h1,h2.same sm⟩
 ·obtain⟨a,o,h1,h2,h3⟩:=r.ow i d h
  exact⟨a,o,h1,h2,h3.same sm⟩
 ·obtain⟨h1,h2,h3⟩:=r.oh i b o h
  refine⟨h1,?_,h3⟩;cases q:cc Hc R b with
  |none=>rfl
  |some u=>
   rcases bO q with q|⟨_,q⟩
   ·rw[h2] at q;cases q
   ·have:=(hR b u q).1
    rw[(r0.oh i b o h).1] at this;cases this
def bS {N N':Hp}{a:Addr}{us:List V}(ha:N a=some (.lst us))(hN:∀ b o,b≠a->N b=some o->N' b=some o):∀ {ds:List D} {vs:List V},(∀ v∈vs,v∈us)->Dv.itemsOk ds=true->RpL [] N ds vs->RpL [] N' ds vs
 |[],vs,_,_,h=>by unfold RpL at h ⊢;exact h
 |d::r,vs,hv,f,h=>by
  unfold RpL at h;obtain⟨v,ws,rfl,h1,h2⟩:=h;have hw:∀ x∈ws,x∈us:=λ x hx=>hv x 2#44
  cases d with
  |tup es=>
   simp only[Dv.itemsOk,Dl] at f;refine .cons ?_ 1#60
   unfold Rp at h1 ⊢;obtain⟨b,us',rfl,h3,h4⟩:=h1;refine⟨b,us',rfl,?_,h4.flat f.1⟩
   rcases h3 with h3|⟨u,h3⟩
   ·exact .inl (hN b _ 1#35 h3)
   ·exact .inr ⟨u,hN b _ 1#35 h3⟩
  |non=>simp only[Dv.itemsOk,Dl] at f;exact .cons (h1.scal rfl) 1#60
  |bl _=>simp only[Dv.itemsOk,Dl] at f;exact .cons (h1.scal rfl) 1#60
  |int _=>simp only[Dv.itemsOk,Dl] at f;exact .cons (h1.scal rfl) 1#60
  |str _=>simp only[Dv.itemsOk,Dl] at f;exact .cons (h1.scal rfl) 1#60
  |lst es=>
   simp only[Dv.itemsOk,Dl] at f;refine .cons ?_ 1#60
   unfold Rp at h1 ⊢;obtain⟨b,us',rfl,h3,h4⟩:=h1;have h5:Rd N b (.lst us'):=by
    rcases h3 with h3|⟨its,n,e,_⟩
    ·exact h3
    ·simp at e
   have hb:b≠a:=λ z=>by
    subst z
    rcases h5 with h5|⟨u,h5⟩
    ·rw[ha] at h5
     cases h5;exact eM f.1 h4 _ (hv _ (Dh ..)) b rfl
    ·rw[ha] at h5;cases h5
   refine⟨b,us',rfl,.inl ?_,h4.flat f.1⟩
   rcases h5 with h5|⟨u,h5⟩
   ·exact .inl (hN b _ hb h5)
   ·exact .inr ⟨u,hN b _ hb h5⟩
  |exn _=>simp[Dv.itemsOk,Dv.scal] at f
  |raw _=>simp[Dv.itemsOk,Dv.scal] at f
  |ins _ _=>simp[Dv.itemsOk,Dv.scal] at f
  |tab _=>simp[Dv.itemsOk,Dv.scal] at f
  |dct _ _=>simp[Dv.itemsOk,Dv.scal] at f
section
variable {C:Ctx}{a b c e k:Expr}{f g h:EE}{F G:SS}{pos pos':Pos}{E:Ends}
def xR {i:Nat}{x:Str}(he:SE C e f)(hN:C.X.N.Nodup)(hi:C.X.N[i]?=some x)(hx:Loc C.X.env.scope x)(hs:autoParam 0#55 ZF._auto_1)
  (hf:autoParam 0#8 ZB._auto_1):SSt C 1#16 (Dv.sSetF i f):=by
 obtain⟨t,p,q⟩:=he;refine⟨_,bZ hN hi hx p hs hf,λ Hv₀ H₀ E σ H st ⟨Hc,O,r⟩ w=>?_⟩;unfold Dv.sSetF at w;refine q.all r 0#60 1#25 λ d fr v Hv' H' hf x r' rp n=>?_
 ·rw[hf] at w;exact w σ H' ⟨Hc,O,r'⟩
 ·rw[hf] at w;exact w
 ·rw[hf] at w
  cases d with
  |lst ds=>
   by_cases z:(fr&&Dv.itemsOk ds)=true
   ·simp only[z,if_true] at w
    rw[Dl] at z;obtain⟨a,vs,rfl,ha',han,rl⟩:=rR x (n z.1);have ha:Hnew H H' a=some 1#48:=by unfold Hnew;rw[han];exact ha'
    let R:Hp:=λ b=>if b=a then none else Hnew H H' b
    have hR:∀ b o,R b=some o->H b=none/\H' b=some o:=λ b o h=>by
     have h':(if b=a then none else Hnew H H' b)=some o:=h;by_cases hb:b=a
     ·rw[if_pos hb] at h';cases h'
     ·rw[if_neg hb] at h';exact⟨fq h',Hnew.sub b o h'⟩
    have hRa:R a=none:=if_pos rfl;have hRn:∀ b o,b≠a->Hnew H H' b=some o->R b=some o:=λ b o hb h=>by
     show (if b=a then none else Hnew H H' b)=some o
     rw[if_neg hb];exact h
    have r2:=RelC.growP r r' hR;have rl2:=bS ha hRn (λ v hv=>hv) z.2 rl;have hd:∀ b o,R b=some o->Hc b=none:=λ b o h=>r.ch.free (hR b o h).1
    have rl3:RpL C.X.K (cc Hc R) ds vs:=RpL.frag (rl2.same (gu hd));refine w _ H' ⟨_,_,r2.setOw ha' ?_ (r.h0.free han) (λ j _=>?_) ⟨vs,rfl,rl3⟩⟩
    ·unfold cc;rw[r.ch.free han];exact hRa
    ·cases q:O j a with
     |none=>rfl
     |some u=>have:=(r.oh j a u q).1;rw[han] at this;cases this
   ·simp only[z] at w;exact Zf w
  |_=>exact Zf w
def zY {l:List Int}{i:Nat}(h:i<l.length):l.getD i 0∈l:=by
 rw[Dg,Dk h];exact D6 h
def Ah {l:List Int}{a:Int}(h:a∈l):∃ j,j<l.length/\l.getD j 0=a:=by
 obtain⟨j,hj,rfl⟩:=Ei h;exact⟨j,hj,by rw[Dg,Dk hj];rfl⟩
def sN {X:Cx}(hc:X.calm=true):cP X (.builtin "min") (λ xs H Q=>∃ p,∃ ns:List Int,xs=[.ref p]/\SqX X.K H p 1#20/\0<ns.length/\∀ M,M∈ns->(∀ a∈ns,M<=a)->Q (.int M) H):=by
 intro pins s σ H xs us Q I r h;obtain⟨p,ns,rfl,hq,hne,q⟩:=h;obtain⟨u,rfl,rx⟩:=vals1 r;cases rx;obtain⟨its,n,rv,e,z⟩:=Inv.listX I hq;have hi:=intsAre_of rv;obtain⟨xs,ex⟩:=hi.allInts.items;have hns:ns=xs.toList.map (·.1):=by rw[<- hi.numsOf,<- nums_intItems,<- ex]
 have hsz:0<xs.size:=by
  have h3:=hne;rw[hns,Di,GX] at h3;exact h3
 have hl':s.heap.IsList p (intItems xs):=ex▸⟨_,e,rfl,n,rfl⟩;refine min_intList 1#75 hl' hsz λ v h' tk hv hk=>?_
 obtain⟨t,rfl⟩:=intItems_at hv;obtain⟨h1,h2⟩:=argBest_lt (numAt xs) (xs.size-1);refine⟨.int _,H,I.kept hk,⟨t,rfl⟩,q _ ?_ λ a ha=>?_⟩
 ·rw[hns,numAt_eq]
  refine zY ?_
  rw[Di,GX];omega
 ·rw[hns] at ha
  obtain⟨j,hj,rfl⟩:=Ah ha;rw[Di,GX] at hj;rw[<- numAt_eq];exact h2 j ⋯
def lQ:∀ (r:List Int) (a:Int),Dv.minI a r∈a::r/\∀ b∈a::r,Dv.minI a r<=b
 |[],a=>⟨Dh ..,λ b hb=>by simp at hb;subst hb;exact Es _⟩
 |x::r,a=>by
  unfold Dv.minI;by_cases hx:x<a
  ·rw[if_pos hx]
   obtain⟨h1,h2⟩:=lQ r x;refine⟨De _ h1,λ b hb=>?_⟩;have h0:=h2 _ (Dh ..)
   rcases List.mem_cons.mp hb with rfl|hb
   ·omega
   ·exact h2 b hb
  ·rw[if_neg hx]
   obtain⟨h1,h2⟩:=lQ r a;refine⟨?_,λ b hb=>?_⟩
   ·rcases List.mem_cons.mp h1 with h|h
    ·rw[h];exact Dh ..
    ·exact De _ (De _ h)
   ·have h0:=h2 _ (Dh ..)
    rcases List.mem_cons.mp hb with rfl|hb
    ·exact h0
    ·rcases List.mem_cons.mp hb with rfl|hb
     ·omega
     ·exact h2 b (De _ hb)
def zq (hc:C.X.calm=true):C1S C (.builtin "min") Dv.minLD:=by
 refine⟨_,sN hc,λ x d fr H Hv H1 Hv1 W Q e rx n q=>?_⟩;cases d with
 |lst ds=>
  simp only[Dv.minLD] at q;cases hi:Dv.intsOf ds with
  |none=>rw[hi] at q;exact Zf q
  |some ns=>
   rw[hi] at q;cases ns with
   |nil=>exact Zf q
   |cons m ns=>
    unfold Rp at rx;obtain⟨l,vs,rfl,h1,h2⟩:=rx;have e1:=RpL.ints hi h2;subst e1;refine⟨l,m::ns,rfl,h1.same e.vh,by simp,λ M hM hle=>?_⟩;obtain⟨k1,k2⟩:=lQ ns m;have:M=Dv.minI m ns:=Gf (hle _ k1) (k2 _ hM);rw[this];exact Ok.at (d:=.int (Dv.minI m ns)) (fr:=true) q e cm rfl
 |_=>exact Zf q
def yf {p:Pos}(hm:C.X.mg "min"=none)(hg:Gl C.X "min")(ha:SE C a f)(he:autoParam 0#9 ZF._auto_1)(hcl:autoParam 0#61 ZF._auto_1):SE C (.Call (.Name "min" p) [a] [] pos) (Dv.eB1 Dv.minLD f):=
 kB (zq hcl) hg hm 0#6 ha 0#2 0#2 he
end
end Sd
namespace Dv
def dninD:D->D->R
 |.int j,.dct ks ds=>.ok (.bl (!(look ks ds j).isSome)) true
 |_,_=>.bad
def eDnin (k a:EE):EE:=λ ρ=>(k ρ).bind λ x _=>(a ρ).bind λ y _=>dninD x y
end Dv
namespace Sd
open PySem PySem.Spec PyProof.Rows L2
open Dv (D R RL EE EL EI RI Sl Out SS)
section
variable {C:Ctx}{a b c e k:Expr}{f g h:EE}{F G:SS}{pos pos':Pos}{E:Ends}
def uh:OpR C.X (compareOp .NotIn) (λ x y H Q=>∃ a o,y=.ref a/\oQ H a x o/\Q (.bl (!o.isSome)) H):=by
 intro pins s σ H x y v u Q I rx ry h;obtain⟨a,o,rfl,g,q⟩:=h;obtain rfl:u=GH a:=ry;exact yW (nY C) I g rx λ s3 I3=>⟨.bl (!o.isSome),H,I3,rfl,q⟩
def uF:OpS C (compareOp .NotIn) Dv.dninD:=by
 refine⟨_,uh,λ x y d d' H Hv H1 Hv1 W Q e rx ry q=>?_⟩;cases d with
 |int j=>
  cases d' with
  |dct ks ds=>
   unfold Rp at rx;have ry':=ry;unfold Rp at ry';obtain⟨a,vs,rfl,hl,h1,h2⟩:=ry';cases hk:Dv.look ks ds j with
   |none=>
    have q:Ok C.X.K Hv H W C.cls (.ok 0#96 true) Q:=by have:=q;simp only[Dv.dninD,hk] at this;exact this
    refine⟨a,none,rfl,.inl ⟨_,Sum.inl j,Rd.same e.vh h1,rx,(gW hl h2 hk).symm⟩,?_⟩;exact q.at (v:=.bl (!(none:Option V).isSome)) e cE rfl
   |some d0=>
    have q:Ok C.X.K Hv H W C.cls (.ok 1#4 true) Q:=by have:=q;simp only[Dv.dninD,hk] at this;exact this
    obtain⟨v0,e1,e2⟩:=bD h2 hk;refine⟨a,some v0,rfl,.inl ⟨_,Sum.inl j,Rd.same e.vh h1,rx,e1.symm⟩,?_⟩;exact q.at (v:=.bl (!(some v0).isSome)) e cE rfl
  |_=>exact Zf q
 |_=>exact Zf q
def uy (ha:SE C a f)(hb:SE C b g)(hm:autoParam (behindInMarks .NotIn b=false) ZL._auto_1):SC C (.Compare a [.NotIn] [b] pos) (Dv.eDnin f g):=dN uF ha hb hm
end
end Sd
namespace Dv
def lookS:List String->List D->String->Option D
 |k::ks,d::ds,n=>if k=n then some d else lookS ks ds n
 |_,_,_=>none
def fldD (n:String):D->R
 |.ins ns ds=>match lookS ns ds n with
  |some d=>.ok d (scal d)
  |none=>.bad
 |_=>.bad
def eFld (n:String)(a:EE):EE:=λ ρ=>(a ρ).bind λ x _=>fldD n x
def C5:D->Bool->R
 |.dct ks _,_=>.ok (.int ks.length) true
 |_,_=>.bad
def BB (i j:Nat):SS:=λ st=>match st[i]? with
 |some (.dp 0#95)=>match shapeL ds with
  |some m=>if decide (m<2000)&&decide (ds.length<=2000)&&decide (i≠j)&&decide (j<st.length) then .nx ((st.set j .no).set i .no) else .bad
  |none=>.bad
 |_=>.bad
def dinD:D->D->R
 |.int j,.dct ks ds=>.ok (.bl (look ks ds j).isSome) true
 |_,_=>.bad
structure Wy where
 st:D
 pl:List Int
def Wy.d (w:Wy):D:=.tup [w.st,.lst (w.pl.map .int)]
def wyL (ws:List Wy):D:=.lst (ws.map Wy.d)
def wysD (ws:List 2#32):D:=.lst (ws.map wyL)
inductive An where
 |non
 |twi (p:Int)
 |row (k:Nat)
def twiC:List Nat:=[116,119,105,99,101]
def rowC:List Nat:=[114,111,119]
def An.d:An->D
 |.non=>.non
 |.twi p=>.tup [.str twiC,.int p]
 |.row k=>.tup [.str rowC,.int k]
structure Cs where
 laid:List Wy
 ix:Nat
 at_:Nat
structure Ws where
 wys:List 2#32
 wait:List Cs
 rows:List (Int×Nat)
 sto:List (List An)
 gone:Nat
inductive WR where
 |many
 |bad
 |full (w:Ws) (d:D) (fr:Bool)
 |row (w:Ws)
structure Wk where
 fp:List D->R
 fs:EE
 fl:EE
 ft:EE
def rowGo (k:Wk)(l:List Wy)(fd:D):List Wy->List An->List 2#31->Option (List An×List 2#31)
 |[],as,f=>some (as,f)
 |w::r,as,f=>match k.ft [none,none,some fd,none,none,none,some w.d] with
  |.ok 2#62 _=>rowGo k l fd r (as++[.non]) (f++[(l++[w],as.length)])
  |.ok (.lst (.int p::_)) _=>rowGo k l fd r (as++[.twi p]) f
  |_=>none
def w0 (wys:List 2#32)(laid:List Wy):Ws:=⟨wys,[⟨laid,0,0⟩],[],[[.non]],0⟩
def rowW (k:Wk)(w:Ws)(l:List Wy)(fd:D):WR:=
 match k.fl [some (.ins ["ways"] [wysD w.wys]),some (wyL l),some fd] with
 |.ok (.int (.ofNat m)) _=>match w.wys[m]? with
  |some ws=>match rowGo k l fd ws [] [] with
   |some (as,f)=>if decide (l.length<mx)&&decide (ws.length<mx)&&decide (w.rows.length<mx)&&decide (w.wait.length+f.length<=mx) then
     .row { w with rows:=w.rows++[((m:Int),w.sto.length)],sto:=w.sto++[as],wait:=w.wait++f.reverse.map λ p=>⟨p.1,w.sto.length,p.2⟩ }
    else .bad
   |none=>.bad
  |none=>.bad
 |_=>.bad
def stepW (k:Wk)(w:Ws):WR:=
 if w.gone=2000 then .many else
 match w.wait.getLast? with
 |none=>.bad
 |some c=>match k.fp [wyL c.laid] with
  |.ok 0#42 _=>if ks.length=w.wys.length then match k.fs [none,some (.ins ["laid"] [wyL c.laid]),some 0#42] with
    |.ok d fr=>.full { w with gone:=w.gone+1,wait:=w.wait.dropLast } d fr
    |_=>.bad
   else match w.sto[c.ix]? with
    |some as=>if c.at_<as.length then rowW k { w with gone:=w.gone+1,wait:=w.wait.dropLast,sto:=w.sto.set c.ix 0#89 } c.laid 0#42 else .bad
    |none=>.bad
  |_=>.bad
def allGo (k:Wk):Nat->Ws->List D->R
 |0,_,_=>.bad
 |n+1,w,acc=>if w.wait.isEmpty then .ok (.lst acc) true else match stepW k w with
  |.many=>.exc "TooMany"
  |.bad=>.bad
  |.full w' d fr=>match d with
   |.lst es=>if fr&&decide (acc.length<mx) then allGo k n w' (acc++[.lst es]) else .bad
   |_=>.bad
  |.row w'=>allGo k n w' acc
def firstGo (k:Wk):Nat->Ws->WR
 |0,_=>.bad
 |n+1,w=>if w.wait.isEmpty then .row w else match stepW k w with
  |.many=>.many
  |.bad=>.bad
  |.full w' d fr=>match d with
   |.lst es=>.full w' 2#76 fr
   |_=>.bad
  |.row w'=>firstGo k n w'
def deW:D->Option Wy
 |.tup [s,.lst ps]=>match intsOf ps with
  |some ns=>some ⟨s,ns⟩
  |none=>none
 |_=>none
def deWL:List D->Option 2#32
 |[]=>some []
 |d::r=>match deW d,deWL r with
  |some w,some ws=>some (w::ws)
  |_,_=>none
def deL:D->Option 2#32
 |.lst ds=>deWL ds
 |_=>none
def deLL:List D->Option (List 2#32)
 |[]=>some []
 |d::r=>match deL d,deLL r with
  |some w,some ws=>some (w::ws)
  |_,_=>none
def deWs:D->Option (List 2#32)
 |.lst ds=>deLL ds
 |_=>none
inductive PR where
 |ok (wys:List 2#32) (laid:List Wy)
 |exc (c:String)
 |bad
def pwR (fw fl:EE)(ds:List D):PR:=match fw 2#25 with
 |.exc c=>.exc c
 |.bad=>.bad
 |.ok dw _=>match fl 2#25 with
  |.exc c=>.exc c
  |.bad=>.bad
  |.ok dl _=>match deWs dw,deL dl with
   |some wys,some laid=>.ok wys laid
   |_,_=>.bad
def allR (k:Wk)(F:List D->PR)(ds:List D):R:=match F ds with
 |.exc c=>.exc c
 |.bad=>.bad
 |.ok wys laid=>allGo k 2002 (w0 wys laid) []
def eAllF (k:Wk)(F:List D->PR)(a:EL):EE:=λ ρ=>(a ρ).bind λ ds _=>allR k F ds
end Dv
namespace Sd
open PySem PySem.Spec PyProof.Rows L2
open Dv (D R RL EE EL EI RI Sl Out SS Wy An Cs Ws WR Wk)
section
variable {C:Ctx}{a e:Expr}{f:EE}{pos:Pos}
def kP {K:GA}{H:Hp}{n:String}{d:D}:∀ {ns:List String} {ds:List D} {vs:List V},Dv.lookS ns ds n=some d->RpL K H ds vs->∃ u,(n,u)∈ns.zip vs/\Rp K H d u
 |[],_,_,h,_=>by simp[Dv.lookS] at h
 |_::_,[],_,h,_=>by simp[Dv.lookS] at h
 |k::ks,x::xs,vs,h,r=>by
  unfold RpL at r;obtain⟨v,ws,rfl,h1,h2⟩:=r;simp only[Dv.lookS] at h;by_cases q:k=n
  ·rw[if_pos q] at h;cases h;subst q
   exact⟨v,by simp,h1⟩
  ·rw[if_neg q] at h
   obtain⟨u,hu,hr⟩:=kP h h2;exact⟨u,De _ hu,hr⟩
def pJ {n:String}(he:SE C e f)(hb:autoParam (attributeBase e (GG n) C.X.env (eval e C.X.env)=eval e C.X.env) ZF._auto_1):SE C (.Attribute e (GG n) pos) (Dv.eFld n f):=by
 obtain⟨t,p,q⟩:=he;refine⟨_,b0 p hb,λ σ H Hv ρ Q er s w=>?_⟩;refine q.step er 1#7 w λ v d fr Hv1 H1 _ x1 _ rx n1 q1=>?_
 cases d with
 |ins ns ds=>
  simp only[Dv.fldD] at q1;cases hl:Dv.lookS ns ds n with
  |none=>rw[hl] at q1;exact Zf q1
  |some d'=>
   rw[hl] at q1;unfold Rp at rx;obtain⟨a,C0,dx,fs,vs,rfl,h2,h3,h4,h5,h6⟩:=rx;obtain⟨u,hu,ru⟩:=kP hl h6;obtain⟨na,lk⟩:=h5 n u hu;exact⟨a,C0,dx,fs,u,rfl,x1.vh _ _ h2,h3,na,lk,q1 u Hv1 H1 x1 ru λ z=>ru.scal z⟩
 |_=>exact Zf q1
def pO {X:Cx}:cP X (.builtin "len") (λ xs H Q=>∃ a kvs,xs=[V.ref a]/\Rd H a 1#96/\Q (.int kvs.length) H):=by
 intro pins s σ H xs us Q I r h;obtain⟨a,kvs,rfl,ha,q⟩:=h;obtain⟨u,rfl,ru⟩:=vals1 r;cases ru;exact B4 I ha λ t s' I'=>⟨.int kvs.length,H,I',⟨t,rfl⟩,q⟩
end
def wf (wa wl rl:Addr)(g:Int):List (Str×V):=[("ways",.ref wa),("waiting",.ref wl),("rows",.ref rl),("gone",.int g)]
def cf (lb b:Addr)(t:Int):List (Str×V):=[("laid",.ref lb),("answers",.ref b),("at",.int t)]
section
variable {wa wl rl lb b:Addr}{g t:Int}
def md:(wf wa wl rl g).lookup ("ways":Str)=some (V.ref wa):=rfl
def dS:(wf wa wl rl g).lookup ("waiting":Str)=some (V.ref wl):=rfl
def l9:(wf wa wl rl g).lookup ("rows":Str)=some (V.ref rl):=rfl
def qD:(wf wa wl rl g).lookup ("gone":Str)=some (V.int g):=rfl
def zM:(wf wa wl rl g).lookup ("go_on":Str)=none:=rfl
def wV:(wf wa wl rl g).lookup ("write_row":Str)=none:=rfl
def rX:(cf lb b t).lookup ("laid":Str)=some (V.ref lb):=rfl
def pq:(cf lb b t).lookup ("answers":Str)=some (V.ref b):=rfl
def BP:(cf lb b t).lookup ("at":Str)=some (V.int t):=rfl
def BS:aG "gone" (.int g) (aG "rows" (.ref rl) (aG "waiting" (.ref wl) 2#9))=wf wa wl rl g:=rfl
end
structure WkT (K:GA)(CW CC:Addr):Prop where
 clW:Cls K CW
 clC:Cls K CC
 nWays:NoAttr K CW "ways"
 nWaiting:NoAttr K CW "waiting"
 nRows:NoAttr K CW "rows"
 nGone:NoAttr K CW "gone"
 nLaid:NoAttr K CC "laid"
 nAnswers:NoAttr K CC "answers"
 nAt:NoAttr K CC "at"
def yX:Str:="twice"
def yo:Str:="row"
def AnAt (Hs H₀:Hp):An->V->Prop
 |.non,v=>v=.non
 |.twi p,v=>∃ q,v=.ref q/\Hs q=some (.tup [.str yX,.int p])/\H₀ q=none
 |.row k,v=>∃ q,v=.ref q/\Hs q=some (.tup [.str yo,.int k])/\H₀ q=none
def RowAt (Hs H₀:Hp)(an:List Addr)(p:Int×Nat)(v:V):Prop:=∃ r b,v=.ref r/\Hs r=some (.tup [.int p.1,.ref b])/\H₀ r=none/\an[p.2]?=some b
def CsAt (K:GA)(CC:Addr)(Hs:Hp)(an:List Addr)(c:Cs)(v:V):Prop:=∃ x dc lb b,v=.ref x/\Hs x=some (.ins CC dc (cf lb b c.at_))/\Rp K Hs (Dv.wyL c.laid) (.ref lb)/\an[c.ix]?=some b
def CV (Hs H₀ H:Hp)(l:List An)(b:Addr):Prop:=∃ vs,H b=some 1#48/\Paired (AnAt Hs H₀) l vs
structure WkAt (K:GA)(CW CC:Addr)(Hs H H₀:Hp)(a wl rl:Addr)(an:List Addr)(w:Ws):Prop where
 sv:Same Hs H
 oh:Same H₀ H
 nd:(a::wl::rl::an).Nodup
 no:∀ b∈a::wl::rl::an,Hs b=none/\H₀ b=none
 slf:∃ dx wa,H a=some (.ins CW dx (wf wa wl rl w.gone))/\Rp K Hs (Dv.wysD w.wys) (.ref wa)
 wai:∃ vs,H wl=some 1#48/\Paired (CsAt K CC Hs an) w.wait vs
 row:∃ vs,H rl=some 1#48/\Paired (RowAt Hs H₀ an) w.rows vs
 sto:Paired (CV Hs H₀ H) w.sto an
def AnAt.same {Hs Hs' H₀:Hp}(e:Same Hs Hs'){x:An}{v:V}(h:AnAt Hs H₀ x v):AnAt Hs' H₀ x v:=by
 cases x with
 |non=>exact h
 |twi p=>obtain⟨q,h1,h2,h3⟩:=h;exact⟨q,h1,e _ _ h2,h3⟩
 |row p=>obtain⟨q,h1,h2,h3⟩:=h;exact⟨q,h1,e _ _ h2,h3⟩
def RowAt.same {Hs Hs' H₀:Hp}{an an':List Addr}(e:Same Hs Hs')(ea:∀ (i:Nat) b,an[i]?=some b->an'[i]?=some b){x:Int×Nat}{v:V}(h:RowAt Hs H₀ an x v):RowAt Hs' H₀ an' x v:=by
 obtain⟨r,b,h1,h2,h3,h4⟩:=h;exact⟨r,b,h1,e _ _ h2,h3,ea _ _ h4⟩
def CsAt.same {K:GA}{CC:Addr}{Hs Hs':Hp}{an an':List Addr}(e:Same Hs Hs')(ea:∀ (i:Nat) b,an[i]?=some b->an'[i]?=some b){x:Cs}{v:V}(h:CsAt K CC Hs an x v):CsAt K CC Hs' an' x v:=by
 obtain⟨x,dc,lb,b,h1,h2,h3,h4⟩:=h;exact⟨x,dc,lb,b,h1,e _ _ h2,h3.same e,ea _ _ h4⟩
def Paired.memR {α β:Type}{F:α->β->Prop}{l:List α}{r:List β}(h:Paired F l r):∀ b∈r,∃ a∈l,F a b:=by
 induction h with
 |nil=>intro b hb;cases hb
 |cons x _ ih=>
  intro b hb
  rcases List.mem_cons.mp hb with rfl|hb
  ·exact⟨_,Dh,x⟩
  ·obtain⟨a,h1,h2⟩:=ih b hb
   exact⟨a,De _ h1,h2⟩
section
variable {K:GA}{CW CC:Addr}{Hs Hs' H H' H₀:Hp}{a wl rl:Addr}{an:List Addr}{w:Ws}
def Paired.mapM {α β:Type}{F G:α->β->Prop}{l:List α}{r:List β}(h:Paired F l r)(f:∀ a b,b∈r->F a b->G a b):Paired G l r:=by
 induction h with
 |nil=>exact .nil
 |cons x _ ih=>exact .cons (f _ _ Dh x) (ih λ a b hb q=>f a b (De _ hb) q)
def WkAt.grow (x:WkAt K CW CC Hs H H₀ a wl rl an w)(s:Same Hs Hs')(sv:Same Hs' H')(oh:Same H₀ H')(hh:∀ b∈a::wl::rl::an,∀ o,H b=some o->H' b=some o)(no:∀ b∈a::wl::rl::an,Hs' b=none):WkAt K CW CC Hs' H' H₀ a wl rl an w:=by
 refine⟨sv,oh,x.nd,λ b hb=>⟨no b hb,(x.no b hb).2⟩,?_,?_,?_,?_⟩
 ·obtain⟨dx,wa,h1,h2⟩:=x.slf
  exact⟨dx,wa,hh _ 0#5 _ h1,h2.same s⟩
 ·obtain⟨vs,h1,h2⟩:=x.wai
  exact⟨vs,hh _ 0#5 _ h1,Paired.mapM h2 λ _ _ _ q=>q.same s λ _ _ e=>e⟩
 ·obtain⟨vs,h1,h2⟩:=x.row
  exact⟨vs,hh _ 0#5 _ h1,Paired.mapM h2 λ _ _ _ q=>q.same s λ _ _ e=>e⟩
 ·exact Paired.mapM x.sto λ l b hb ⟨vs,h1,h2⟩=>⟨vs,hh _ (by simp[hb]) _ h1,Paired.mapM h2 λ _ _ _ q=>q.same s⟩
def WkAt.has (x:WkAt K CW CC Hs H H₀ a wl rl an w):∀ b∈a::wl::rl::an,∃ o,H b=some o:=by
 intro b hb
 rcases List.mem_cons.mp hb with rfl|hb
 ·obtain⟨_,_,h,_⟩:=x.slf;exact⟨_,h⟩
 rcases List.mem_cons.mp hb with rfl|hb
 ·obtain⟨_,h,_⟩:=x.wai;exact⟨_,h⟩
 rcases List.mem_cons.mp hb with rfl|hb
 ·obtain⟨_,h,_⟩:=x.row;exact⟨_,h⟩
 ·obtain⟨_,_,_,h,_⟩:=Paired.memR x.sto b hb;exact⟨_,h⟩
def WkAt.ext (x:WkAt K CW CC Hs H H₀ a wl rl an w)(e:Ext Hs H Hs' H'):WkAt K CW CC Hs' H' H₀ a wl rl an w:=by
 refine x.grow e.vv e.vh (x.oh.trans e.hh) (λ b _ o q=>e.hh b o q) λ b hb=>?_
 cases q:Hs' b with
 |none=>rfl
 |some o=>
  obtain⟨u,hu⟩:=x.has b hb;rw[e.new b o q (x.no b hb).1] at hu;cases hu
def WkAt.hext (x:WkAt K CW CC Hs H H₀ a wl rl an w)(e:Same H H'):WkAt K CW CC Hs H' H₀ a wl rl an w:=
 x.grow 1#14 (x.sv.trans e) (x.oh.trans e) (λ b _ o q=>e b o q) λ b hb=>(x.no b hb).1
end
structure Stp (Hs H:Hp)(M:List Addr)(Hs' H':Hp)(M':List Addr):Prop where
 ss:Same Hs Hs'
 nw:∀ b o,Hs' b=some o->Hs b=none->H b=none
 kp:∀ b o,H b=some o->b∉M->H' b=some o
 dm:∀ b o,H b=some o->∃ o',H' b=some o'
 fz:∀ b o u,H' b=some 1#39->H b=some 1#39
 mm:∀ b∈M',b∈M\/H b=none
section
variable {Hs H Hs1 H1 Hs2 H2:Hp}{M M1 M2:List Addr}
def Stp.refl:Stp Hs H M Hs H M:=⟨.refl _,λ b o h n=>0#98,λ b o h _=>h,λ b o h=>⟨o,h⟩,λ _ _ _ h=>h,λ b h=>.inl h⟩
def Stp.trans (x:Stp Hs H M Hs1 H1 M1)(y:Stp Hs1 H1 M1 Hs2 H2 M2):Stp Hs H M Hs2 H2 M2:=by
 refine⟨x.ss.trans y.ss,λ b o h n=>?_,λ b o h n=>?_,λ b o h=>?_,λ b o u h=>x.fz b o u (y.fz b o u h),λ b h=>?_⟩
 ·cases q:Hs1 b with
  |some u=>exact x.nw b u q n
  |none=>
   have h1:=y.nw b o h q;cases z:H b with
   |none=>rfl
   |some u=>obtain⟨u',hu⟩:=x.dm b u z;rw[h1] at hu;cases hu
 ·refine y.kp b o (x.kp b o h n) λ z=>?_
  rcases x.mm b z with z|z
  ·exact n z
  ·rw[z] at h;cases h
 ·obtain⟨u,hu⟩:=x.dm b o h
  exact y.dm b u hu
 ·rcases y.mm b h with h|h
  ·exact x.mm b h
  ·refine .inr ?_
   cases z:H b with
   |none=>rfl
   |some u=>obtain⟨u',hu⟩:=x.dm b u z;rw[h] at hu;cases hu
def Stp.write {m:Addr}{o:HO}(hm:m∈M)(ho:∀ a u,o≠.frz a u):Stp Hs H M Hs (upd H m o) M:=by
 refine⟨.refl _,λ b o h n=>0#98,λ b o' h n=>?_,λ b o' h=>?_,λ b o' u h=>?_,λ b h=>.inl h⟩
 ·rw[ag (show b≠m from λ e=>n (by rw[e];exact hm))];exact h
 ·by_cases e:b=m
  ·subst e;exact⟨o,ai⟩
  ·exact⟨o',by rw[ag e];exact h⟩
 ·by_cases e:b=m
  ·subst e;rw[ai] at h;exact absurd (Option.some.inj h) (ho _ _)
  ·rw[ag e] at h;exact h
def Stp.ext (e:Ext Hs H Hs1 H1):Stp Hs H M Hs1 H1 M:=
 ⟨e.vv,e.new,λ b o h _=>e.hh b o h,λ b o h=>⟨o,e.hh b o h⟩,λ b o u h=>(by
  cases q:H b with
  |none=>exact absurd h (e.nf b o u q)
  |some z=>rw[e.hh b z q] at h;exact h),λ b h=>.inl h⟩
def Stp.hext (e:Same H H1)(nf:∀ b o u,H b=none->H1 b≠some 1#39):Stp Hs H M Hs H1 M:=
 ⟨.refl _,λ b o h n=>0#98,λ b o h _=>e b o h,λ b o h=>⟨o,e b o h⟩,λ b o u h=>(by
  cases q:H b with
  |none=>exact absurd h (nf b o u q)
  |some z=>rw[e b z q] at h;exact h),λ b h=>.inl h⟩
def Stp.newM {p:Addr}{o:HO}(hp:H p=none)(ho:∀ a u,o≠.frz a u)(hM:∀ b∈M1,b∈M\/b=p):Stp Hs H M Hs (upd H p o) M1:=by
 refine⟨.refl _,λ b o h n=>0#98,λ b o' h n=>?_,λ b o' h=>?_,λ b o' u h=>?_,λ b h=>?_⟩
 ·rw[ag (au h hp)];exact h
 ·exact⟨o',by rw[ag (au h hp)];exact h⟩
 ·by_cases e:b=p
  ·subst e;rw[ai] at h;exact absurd (Option.some.inj h) (ho _ _)
  ·rw[ag e] at h;exact h
 ·rcases hM b h with h|rfl
  ·exact .inl h
  ·exact .inr hp
end
def aO {H:Hp}{a b:Addr}{o:HO}(h:upd H a o b=none):b≠a/\H b=none:=by
 by_cases e:b=a
 ·subst e;rw[ai] at h;cases h
 ·rw[ag e] at h;exact⟨e,h⟩
def mH (CC:Addr):Sp:=λ vs H Q _=>∃ (x dx l b:Addr) (t:Int),vs=[.ref x,.ref l,.ref b,.int t]/\H x=some (.ins CC dx [])/\Q .non (upd H x (.ins CC dx (cf l b t)))
def vL {CC:Addr}(vs:List V)(H:Hp)(Q:VK)(E:XK)(h:mH CC vs H Q E):vs.length=4:=by
 obtain⟨_,_,_,_,_,rfl,_⟩:=h;rfl
def tCI (K:GA):TS:=cJ (nD K (aS 0) (aS 1) "laid") (cJ (nD K (aS 0) (aS 2) "answers") (nD K (aS 0) (aS 3) "at"))
def yq {K:GA}{CW CC:Addr}{vs:List V}{H:Hp}{Q:VK}{E:XK}(T:WkT K CW CC)(h:mH CC vs H Q E):
  tCI K { nx:=λ _ H'=>Q .non H',rt:=Q } (L2.start ["self","laid","answers","at"] vs) H:=by
 obtain⟨x,dx,l,b,t,rfl,hx,q⟩:=h;refine⟨_,rfl,_,rfl,x,CC,dx,[],rfl,hx,T.clC,T.nLaid,0#2,?_⟩;refine⟨_,rfl,_,rfl,x,CC,dx,_,rfl,ai,T.clC,T.nAnswers,(by show 1<1000;decide),?_⟩;refine⟨_,rfl,_,rfl,x,CC,dx,_,rfl,ai,T.clC,T.nAt,(by show 2<1000;decide),?_⟩;rw[iP,iP];exact q
def pW (K:GA)(CW CC:Addr):Sp:=λ vs H Q _=>∃ (x dx wa lb:Addr) (Hs H₀:Hp) (wys:List 2#32) (laid:List Wy),vs=[.ref x,.ref wa,.ref lb]/\H x=some (.ins CW dx [])/\Same Hs H/\Hs x=none/\Same H₀ H/\H₀ x=none /\
 Rp K Hs (Dv.wysD wys) (.ref wa)/\Rp K Hs (Dv.wyL laid) (.ref lb)/\∀ Hs' H' wl rl an,WkAt K CW CC Hs' H' H₀ x wl rl an 2#39->Stp Hs H [x] Hs' H' (x::wl::rl::an)->Q .non H'
def vG {K:GA}{CW CC:Addr}(vs:List V)(H:Hp)(Q:VK)(E:XK)(h:pW K CW CC vs H Q E):vs.length=3:=by
 obtain⟨_,_,_,_,_,_,_,_,rfl,_⟩:=h;rfl
def tWI (K:GA)(CC:Addr)(E:XK):TS:=cJ (nD K (aS 0) (aS 1) "ways") (cJ (nD K (aS 0) (nG (aQ (rh CC (mH CC) [] E (aQ (aS 2) (aQ (nG (aQ (tC .non) bK)) (aQ 2#64 bK)))) bK)) "waiting") (cJ (nD K (aS 0) (nG bK) "rows") (nD K (aS 0) 2#64 "gone")))
def yk {K:GA}{CW CC:Addr}{vs:List V}{H:Hp}{Q:VK}{E:XK}(T:WkT K CW CC)(h:pW K CW CC vs H Q E):
  tWI K CC E { nx:=λ _ H'=>Q .non H',rt:=Q } (L2.start ["self","ways","laid"] vs) H:=by
 obtain⟨x,dx,wa,lb,Hs,H₀,wys,laid,rfl,hx,sv,hsx,s0,h0x,rw_,rl_,q⟩:=h;refine⟨_,rfl,_,rfl,x,CW,dx,[],rfl,hx,T.clW,T.nWays,0#2,?_⟩;refine⟨_,rfl,(by show 1<=sizeLine;decide),λ p hp=>?_⟩;intro c dc hc hdc hne;refine⟨c,dc,lb,p,0,rfl,ai,rfl,(by show 1<=sizeLine;decide),λ wl hwl=>?_⟩;obtain⟨px,hp⟩:=aO hp;obtain⟨cp,hc⟩:=aO hc;obtain⟨cx,hc⟩:=aO hc;obtain⟨dp,hdc⟩:=aO hdc;obtain⟨dxx,hdc⟩:=aO hdc;obtain⟨wc,hwl⟩:=aO hwl;obtain⟨_,hwl⟩:=aO hwl;obtain⟨wd,hwl⟩:=aO hwl;obtain⟨wp,hwl⟩:=aO hwl;obtain⟨wx,hwl⟩:=aO hwl;have e1:upd (upd (upd (upd (upd H x (.ins CW dx 2#9)) p (.lst [.non])) dc (.own c)) c (.ins CC dc [])) c 1#24=upd (upd (upd (upd H x (.ins CW dx 2#9)) p (.lst [.non])) dc (.own c)) c 1#24:=iP;refine⟨_,rfl,x,CW,dx,aG "ways" (.ref wa) [],rfl,?_,T.clW,T.nWaiting,(by show 1<1000;decide),?_⟩
 ·rw[e1,ag (Ne.symm wx),ag (Ne.symm cx),ag (Ne.symm dxx),ag (Ne.symm px),ai]
 refine⟨1#74,λ rl hrl=>?_⟩;obtain⟨rx,hrl⟩:=aO hrl;obtain⟨rw',hrl⟩:=aO hrl;obtain⟨rc,hrl⟩:=aO hrl;obtain⟨_,hrl⟩:=aO hrl;obtain⟨rd,hrl⟩:=aO hrl;obtain⟨rp,hrl⟩:=aO hrl;obtain⟨_,hrl⟩:=aO hrl;refine⟨_,rfl,x,CW,dx,aG "waiting" (.ref wl) 2#9,rfl,?_,T.clW,T.nRows,(by show 2<1000;decide),?_⟩
 ·rw[ag (Ne.symm rx),ai]
 refine⟨_,rfl,x,CW,dx,_,rfl,ai,T.clW,T.nGone,(by show 3<1000;decide),?_⟩;rw[e1];show Q .non _
 rw[show aG "gone" (V.int 0) (aG "rows" (V.ref rl) (aG "waiting" (V.ref wl) (aG "ways" (V.ref wa) [])))=wf wa wl rl 0 from BS];have oth:∀ b,b≠x->b≠p->b≠dc->b≠c->b≠wl->b≠rl->upd 0#1 x 0#47 b=H b:=by
  intro b h1 h2 h3 h4 h5 h6;rw[ag h1,ag h1,ag h6,ag h1,ag h5,ag h4,ag h3,ag h2,ag h1]
 have aX:upd 0#1 x 0#47 x=some 0#47:=ai;have aP:upd 0#1 x 0#47 p=some (.lst [.non]):=by
  rw[ag px,ag px,ag (Ne.symm rp),ag px,ag (Ne.symm wp),ag (Ne.symm cp),ag (Ne.symm dp),ai]
 have aC:upd 0#1 x 0#47 c=some 1#24:=by
  rw[ag cx,ag cx,ag (Ne.symm rc),ag cx,ag (Ne.symm wc),ai]
 have aW:upd 0#1 x 0#47 wl=some (.lst [.ref c]):=by
  rw[ag wx,ag wx,ag (Ne.symm rw'),ag wx,ai]
 have aR:upd 0#1 x 0#47 rl=some 2#62:=by
  rw[ag rx,ag rx,ai]
 have aD:upd 0#1 x 0#47 dc=some (.own c):=by
  rw[ag dxx,ag dxx,ag (Ne.symm rd),ag dxx,ag (Ne.symm wd),ag hne,ai]
 revert oth aX aP aC aW aR aD;generalize upd 0#1 x 0#47=Hz;intro oth aX aP aC aW aR aD;have hsc:Hs c=none:=sv.free hc;have sC:Same Hs (upd Hs c 1#24):=gw hsc _;have far:∀ b o,H b=some o->b≠x->b≠p/\b≠dc/\b≠c/\b≠wl/\b≠rl:=λ b o e _=>⟨au e hp,au e hdc,au e hc,au e hwl,au e hrl⟩
 have keep:∀ b o,H b=some o->b≠x->Hz b=some o:=λ b o e hb=>by
  obtain⟨h2,h3,h4,h5,h6⟩:=far b o e hb;rw[oth b hb h2 h3 h4 h5 h6];exact e
 have hsv:Same (upd Hs c 1#24) Hz:=λ b o e=>by
  by_cases z:b=c
  ·subst z;rw[ai] at e;cases e;exact aC
  ·rw[ag z] at e
   exact keep b o (sv b o e) λ z=>by subst z;rw[hsx] at e;cases e
 have mem:∀ {P:Addr->Prop},P x->P wl->P rl->P p->∀ b∈[x,wl,rl,p],P b:=by
  intro P h1 h2 h3 h4 b hb;simp only[DT,DY,or_false] at hb
  rcases hb with rfl|rfl|rfl|rfl <;>assumption
 refine q (upd Hs c 1#24) Hz wl rl [p] ⟨hsv,λ b o e=>keep b o (s0 b o e) (λ z=>by subst z;rw[h0x] at e;cases e),?_,?_,⟨dx,wa,aX,rw_.same sC⟩,⟨_,aW,.cons ⟨c,dc,lb,p,rfl,ai,rl_.same sC,rfl⟩ .nil⟩,⟨_,aR,.nil⟩,.cons ⟨_,aP,.cons rfl .nil⟩ .nil⟩
  ⟨sC,λ b o e n=>?_,λ b o e n=>keep b o e (by simpa using n),λ b o e=>?_,λ b o u e=>?_,?_⟩
 ·simp only[FA,DT,DY,or_false,not_or,not_false_eq_true,Gj,and_true]
  exact⟨⟨Ne.symm wx,Ne.symm rx,Ne.symm px⟩,⟨Ne.symm rw',wp⟩,rp⟩
 ·refine mem ?_ ?_ ?_ ?_
  ·exact⟨by rw[ag (Ne.symm cx)];exact hsx,h0x⟩
  ·exact⟨by rw[ag wc];exact sv.free hwl,s0.free hwl⟩
  ·exact⟨by rw[ag rc];exact sv.free hrl,s0.free hrl⟩
  ·exact⟨by rw[ag (Ne.symm cp)];exact sv.free hp,s0.free hp⟩
 ·by_cases z:b=c
  ·subst z;exact hc
  ·rw[ag z,n] at e;cases e
 ·by_cases z:b=x
  ·subst z;exact⟨_,aX⟩
  ·exact⟨o,keep b o e z⟩
 ·by_cases z:b=x
  ·subst z;rw[aX] at e;cases e
  by_cases z2:b=p
  ·subst z2;rw[aP] at e;cases e
  by_cases z3:b=dc
  ·subst z3;rw[aD] at e;cases e
  by_cases z4:b=c
  ·subst z4;rw[aC] at e;cases e
  by_cases z5:b=wl
  ·subst z5;rw[aW] at e;cases e
  by_cases z6:b=rl
  ·subst z6;rw[aR] at e;cases e
  rw[oth b z z2 z3 z4 z5 z6] at e;exact e
 ·exact mem (.inl 0#5) (.inr hwl) (.inr hrl) (.inr hp)
def Paired.gets {α β:Type}{F:α->β->Prop}{l:List α}{r:List β}(h:Paired F l r):∀ {i:Nat} {x:α},l[i]?=some x->∃ y,r[i]?=some y/\F x y:=by
 induction h with
 |nil=>intro i x e;simp at e
 |cons q _ ih=>
  intro i x e;cases i with
  |zero=>simp at e;subst e;exact⟨_,rfl,q⟩
  |succ i=>obtain⟨y,h1,h2⟩:=ih (by simpa using e);exact⟨y,by simpa using h1,h2⟩
def Paired.append {α β:Type}{F:α->β->Prop}{l l':List α}{r r':List β}(h:Paired F l r)(g:Paired F l' r'):Paired F (l++l') (r++r'):=by
 induction h with
 |nil=>exact g
 |cons q _ ih=>exact .cons q ih
def Paired.rev {α β:Type}{F:α->β->Prop}{l:List α}{r:List β}(h:Paired F l r):Paired F l.reverse r.reverse:=by
 induction h with
 |nil=>exact .nil
 |cons q _ ih=>rw[Eg,Eg];exact Paired.append ih (.cons q .nil)
def Paired.dropLast {α β:Type}{F:α->β->Prop}{l:List α}{r:List β}(h:Paired F l r):Paired F l.dropLast r.dropLast:=by
 induction h with
 |nil=>exact .nil
 |cons q t ih=>
  cases t with
  |nil=>exact .nil
  |cons q' t'=>exact .cons q ih
def Paired.set {α β:Type}{F:α->β->Prop}{l:List α}{r:List β}{x:α}{y:β}(q:F x y)(h:Paired F l r):∀ i:Nat,Paired F (l.set i x) (r.set i y):=by
 induction h with
 |nil=>intro i;exact .nil
 |cons z t ih=>
  intro i;cases i with
  |zero=>exact .cons q t
  |succ i=>exact .cons z (ih i)
def Paired.maps {α β γ:Type}{F:α->β->Prop}{G:γ->β->Prop}{l:List α}{r:List β}{f:α->γ}(h:Paired F l r)(q:∀ a b,F a b->G (f a) b):Paired G (l.map f) r:=by
 induction h with
 |nil=>exact .nil
 |cons z _ ih=>exact .cons (q _ _ z) ih
def FdAt (K:GA)(CC:Addr)(Hs:Hp)(ab:Addr)(p:List Wy×Nat)(v:V):Prop:=∃ x dc lb,v=.ref x/\Hs x=some (.ins CC dc (cf lb ab p.2))/\Rp K Hs (Dv.wyL p.1) (.ref lb)
structure LpAt (K:GA)(CW CC:Addr)(Hs H H₀:Hp)(a wl rl:Addr)(an:List Addr)(w:Ws)(ab fb:Addr)(as:List An)(fnd:List (List Wy×Nat)):Prop where
 wk:WkAt K CW CC Hs H H₀ a wl rl an w
 na:Hs ab=none/\H₀ ab=none/\ab∉a::wl::rl::an
 nf:Hs fb=none/\H₀ fb=none/\fb∉a::wl::rl::an/\fb≠ab
 ha:∃ avs,H ab=some (.lst avs)/\Paired (AnAt Hs H₀) as avs
 hf:∃ fvs,H fb=some (.lst fvs)/\Paired (FdAt K CC Hs ab) fnd fvs
section
variable {K:GA}{CW CC:Addr}{Hs Hs' H H' H₀:Hp}{a wl rl ab fb:Addr}{an:List Addr}{w:Ws}{as:List An}{fnd:List (List Wy×Nat)}
def FdAt.same (e:Same Hs Hs'){x:List Wy×Nat}{v:V}(h:FdAt K CC Hs ab x v):FdAt K CC Hs' ab x v:=by
 obtain⟨x,dc,lb,h1,h2,h3⟩:=h;exact⟨x,dc,lb,h1,e _ _ h2,h3.same e⟩
def WkAt.other (x:WkAt K CW CC Hs H H₀ a wl rl an w){b:Addr}{o:HO}(h1:Hs b=none)(h0:H₀ b=none)(h2:b∉a::wl::rl::an):WkAt K CW CC Hs (upd H b o) H₀ a wl rl an w:=
 x.grow 1#14 (λ c u e=>by rw[ag (show c≠b from λ z=>by subst z;rw[h1] at e;cases e)];exact x.sv c u e)
  (λ c u e=>by rw[ag (show c≠b from λ z=>by subst z;rw[h0] at e;cases e)];exact x.oh c u e) (λ c hc u e=>by rw[ag (show c≠b from λ z=>by subst z;exact h2 hc)];exact e) λ c hc=>(x.no c hc).1
def mL (e:Ext Hs H Hs' H'){b:Addr}{o:HO}(h1:Hs b=none)(h2:H b=some o):Hs' b=none:=by
 cases q:Hs' b with
 |none=>rfl
 |some u=>rw[e.new b u q h1] at h2;cases h2
def LpAt.ext (x:LpAt K CW CC Hs H H₀ a wl rl an w ab fb as fnd)(e:Ext Hs H Hs' H'):LpAt K CW CC Hs' H' H₀ a wl rl an w ab fb as fnd:=by
 obtain⟨avs,h1,h2⟩:=x.ha;obtain⟨fvs,h3,h4⟩:=x.hf;exact⟨x.wk.ext e,⟨mL e x.na.1 h1,x.na.2⟩,⟨mL e x.nf.1 h3,x.nf.2⟩,⟨avs,e.hh _ _ h1,Paired.mapM h2 λ _ _ _ q=>q.same e.vv⟩,⟨fvs,e.hh _ _ h3,Paired.mapM h4 λ _ _ _ q=>q.same e.vv⟩⟩
def LpAt.setA (x:LpAt K CW CC Hs H H₀ a wl rl an w ab fb as fnd){as':List An}{avs:List V}(h:Paired (AnAt Hs H₀) as' avs):LpAt K CW CC Hs (upd H ab (.lst avs)) H₀ a wl rl an w ab fb as' fnd:=by
 obtain⟨fvs,h3,h4⟩:=x.hf;exact⟨x.wk.other x.na.1 x.na.2.1 x.na.2.2,x.na,x.nf,⟨avs,ai,h⟩,⟨fvs,by rw[ag x.nf.2.2.2];exact h3,h4⟩⟩
def LpAt.setF (x:LpAt K CW CC Hs H H₀ a wl rl an w ab fb as fnd){fnd':List 2#31}{fvs:List V}(h:Paired (FdAt K CC Hs ab) fnd' fvs):LpAt K CW CC Hs (upd H fb (.lst fvs)) H₀ a wl rl an w ab fb as fnd':=by
 obtain⟨avs,h3,h4⟩:=x.ha;exact⟨x.wk.other x.nf.1 x.nf.2.1 x.nf.2.2.1,x.na,x.nf,⟨avs,by rw[ag (Ne.symm x.nf.2.2.2)];exact h3,h4⟩,⟨fvs,ai,h⟩⟩
end
abbrev vk (K:GA):List V->Hp->VK->Prop:=λ xs H Q=>∃ p ys,xs=[.ref p]/\(SqL K H p ys\/SqT K H p ys)/\Q (.int ys.length) H
abbrev CT (K:GA)(t:TE)(ts:TO):TE:=λ σ H Q=>t σ H λ x H1=>ts σ H1 λ l H2=>∃ b xs,l=some (-1)/\x=.ref b/\SqX K H2 b xs/\∀ p,H2 p=none->Q (.ref p) (upd H2 p (.lst xs.reverse))
abbrev BL (C:Ctx)(i:Nat)(ft:EE):TS:=λ E σ H=>∃ Hv ρ,EnvR C.X.K Hv ρ σ/\Same Hv H/\Ok C.X.K Hv H (C.W σ) C.cls (ft ρ) λ v H'=>E.nx 0#79 H'
def AK (C:Ctx)(CC:Addr)(E:XK)(ft:EE):TS:=cJ (BL C 7 ft)
 (o2 (mF (tOp (rI0 λ i j=>.bl (decide (j<i))) (tCB (vk C.X.K) (aQ (aS 7) bK)) 2#64))
  (iB (tBM C.X.K "list" dU (aS 4) (aQ (tI (aQ (tC (.str yX)) (aQ (tOp (Aw C.X.K) (aS 7) 2#64) bK))) bK)))
  (cJ (iB (tBM C.X.K "list" dU (aS 5) (aQ (rh CC (mH CC) [] E (aQ (tOp (zD C.X.K) (aS 1) (nG (aQ (aS 6) bK))) (aQ (aS 4) (aQ (tCB (vk C.X.K) (aQ (aS 4) bK)) bK)))) bK)))
   (iB (tBM C.X.K "list" dU (aS 4) (aQ (tC .non) bK)))))
def tWR (C:Ctx)(CC:Addr)(E:XK)(tl tn:TE)(ft:EE):TS:=
 cJ (g0 tl (c5 3)) (cJ (g0 (nG bK) (c5 4)) (cJ (g0 (nG bK) (c5 5)) (cJ
  (BW (zP C.X.K (tOp (Aw C.X.K) (gY C.X.K (aS 0) "ways") (aS 3))) (c5 6) (AK C CC E ft))
  (cJ (iB (tBM C.X.K "list" dU (gY C.X.K (aS 0) "rows") (aQ (tI (aQ (aS 3) (aQ (aS 4) bK))) bK)))
   (iB (tBM C.X.K "list" qK (gY C.X.K (aS 0) "waiting") (aQ (CT C.X.K (aS 5) (zB tn)) bK)))))))
def tq (K:GA)(CW CC:Addr)(k:Wk):Sp:=λ vs H Q _=>∃ (a wl rl:Addr) (an:List Addr) (v1 v2:V) (Hs H₀:Hp) (w:Ws) (l:List Wy) (fd:D) (w':Ws),vs=[.ref a,v1,v2]/\WkAt K CW CC Hs H H₀ a wl rl an w/\Rp K Hs (Dv.wyL l) v1/\Rp K Hs fd v2 /\
 Dv.rowW k w l fd=.row w'/\∀ Hs' H' an',WkAt K CW CC Hs' H' H₀ a wl rl an' w'->Stp Hs H (a::wl::rl::an) Hs' H' (a::wl::rl::an')->Q .non H'
def wU {K:GA}{CW CC:Addr}{k:Wk}(vs:List V)(H:Hp)(Q:VK)(E:XK)(h:tq K CW CC k vs H Q E):vs.length=3:=by
 obtain⟨_,_,_,_,_,_,_,_,_,_,_,_,rfl,_⟩:=h;rfl
def oV {K:GA}{H:Hp}{l:List Wy}{v:V}(h:Rp K H (Dv.wyL l) v):∃ b vs,v=.ref b/\SqX K H b vs/\RpL K H (l.map Wy.d) vs:=by
 unfold Dv.wyL Rp at h;exact h
def Ba {K:GA}{H:Hp}{l:List Wy}{b:Addr}{vs:List V}(h:SqX K H b vs)(r:RpL K H (l.map Wy.d) vs):Rp K H (Dv.wyL l) (.ref b):=by
 unfold Dv.wyL Rp;exact⟨b,vs,rfl,h,r⟩
def CO {K:GA}{H:Hp}{d0 d1 d2:D}{v0 v1 v2:V}{r:St}(h0:Rp K H d0 v0)(h1:Rp K H d1 v1)(h2:Rp K H d2 v2):EnvR K H [some d0,some d1,some d2] (some v0::some v1::some v2::r):=by
 intro i d e
 match i with
 |0=>simp at e;subst e;exact⟨v0,rfl,h0⟩
 |1=>simp at e;subst e;exact⟨v1,rfl,h1⟩
 |2=>simp at e;subst e;exact⟨v2,rfl,h2⟩
 |i+3=>simp at e
def uO {K:GA}{CW CC:Addr}{Hs H H₀:Hp}{a wl rl:Addr}{an:List Addr}{w:Ws}(T:WkT K CW CC)(x:WkAt K CW CC Hs H H₀ a wl rl an w):Rp K H (.ins ["ways"] [Dv.wysD w.wys]) (.ref a):=by
 obtain⟨dx,wa,h1,h2⟩:=x.slf;unfold Rp;refine⟨a,CW,dx,_,[.ref wa],rfl,h1,T.clW,rfl,λ n u hn=>?_,.cons (h2.same x.sv) .nil⟩;simp only[Ej,FO,Fc] at hn;cases hn;exact⟨T.nWays,md⟩
def CL {K:GA}{H:Hp}{d2 d6:D}{v2 v6:V}{a0 a1 a3 a4 a5:Option V}{r:St}(h2:Rp K H d2 v2)(h6:Rp K H d6 v6):EnvR K H [none,none,some d2,none,none,none,some d6] (a0::a1::some v2::a3::a4::a5::some v6::r):=by
 intro i d e
 match i with
 |0=>simp at e
 |1=>simp at e
 |2=>simp at e;subst e;exact⟨v2,rfl,h2⟩
 |3=>simp at e
 |4=>simp at e
 |5=>simp at e
 |6=>simp at e;subst e;exact⟨v6,rfl,h6⟩
 |i+7=>simp at e
def iD {A B:Prop}{c:Bool}(h:c=false)(b:B):if c=true then A else B:=by rw[if_neg (by rw[h];decide)];exact b
def eO {A B:Prop}{c:Bool}(h:c=true)(b:A):if c=true then A else B:=by rw[if_pos h];exact b
def fD {n:Nat}(h:n<Dv.mx):n<sizeLine:=by
 unfold Dv.mx at h;rw[GS];omega
def xQ {C:Ctx}{CW CC:Addr}{E:XK}{k:Wk}{Hs Hc H₀:Hp}{a wl rl ab fb:Addr}{an:List Addr}{w:Ws}{as:List An}{fnd:List 2#31}{v1 v2 y:V}{vm:Option V}{vt:Option V}{l:List Wy}{fd:D}{wy:Wy}{r:List Wy}
  {res:List An×List 2#31} {D:Ends} (L:LpAt C.X.K CW CC Hs Hc H₀ a wl rl an w ab fb as fnd) (r1:Rp C.X.K Hs (Dv.wyL l) v1) (r2:Rp C.X.K Hs fd v2) (ry:Rp C.X.K Hs wy.d y) (hgo:Dv.rowGo k l fd (wy::r) as fnd=some res)
  (b1:as.length<Dv.mx) (b2:fnd.length<Dv.mx) (b3:l.length<Dv.mx)
  (next:∀ Hs' Hc' as' fnd' vt',LpAt C.X.K CW CC Hs' Hc' H₀ a wl rl an w ab fb as' fnd'->Stp Hs Hc (fb::ab::a::wl::rl::an) Hs' Hc' (fb::ab::a::wl::rl::an)->Dv.rowGo k l fd r as' fnd'=some res->as'.length=as.length+1->fnd'.length<=fnd.length+1 ->
   D.nx [some (.ref a),some v1,some v2,vm,some (.ref ab),some (.ref fb),some y,vt'] Hc'):
  AK C CC E k.ft D [some (.ref a),some v1,some v2,vm,some (.ref ab),some (.ref fb),some y,vt] Hc:=by
 unfold AK;refine⟨Hs,[none,none,some fd,none,none,none,some wy.d],CL r2 ry,L.wk.sv,?_⟩;simp only[Dv.rowGo] at hgo;have mab:ab∈fb::ab::a::wl::rl::an:=by simp
 have mfb:fb∈fb::ab::a::wl::rl::an:=by simp
 split at hgo
 ·rename_i fr h
  rw[h];intro v Hv' H' x rp nn;unfold Rp at rp;obtain⟨pt,tvs,rfl,hq,hl⟩:=rp;unfold RpL at hl;subst hl;have L1:=L.ext x;have r1':=r1.same x.vv;obtain⟨avs,hA,pA⟩:=L1.ha;obtain⟨fvs,hF,pF⟩:=L1.hf;have la:=pA.length;have lf:=pF.length;obtain⟨lb,lvs,rfl,hlq,hll⟩:=oV r1';have ll:=hll.length;rw[Di] at ll;refine⟨_,rfl,pt,[],rfl,.inl (hq.same x.vh).seq,_,_,rfl,rfl,_,rfl,?_⟩;refine iD 0#5 ?_
  refine⟨_,rfl,.inl ⟨rfl,_,SqL.of hF⟩,?_⟩;refine⟨_,rfl,_,rfl,(by show 1<=sizeLine;decide),λ p1 hp1=>?_⟩;have e1:=Ext.new1 x.vh hp1 (.lst [y]);have L2:=L1.ext e1;refine⟨lb,p1,lvs,[y],rfl,rfl,(hlq.same e1.vv).same e1.vh,SqX.of ai,?_,λ p2 hp2=>?_⟩
  ·have:=fD b3;show lvs.length+1<=sizeLine;omega
  have e2:=Ext.new1 e1.vh hp2 2#29;have L3:=L2.ext e2;refine⟨_,rfl,_,rfl,ab,avs,rfl,.inl (SqL.of (e2.hh _ _ (e1.hh _ _ hA))),?_⟩;intro c dc hc hdc hne;have e3:=Ext.new1 e2.vh hdc (.own c);have hc':upd (upd (upd H' p1 (.lst [y])) p2 2#29) dc (.own c) c=none:=by rw[ag (Ne.symm hne)];exact hc
  have e4:=Ext.new1 e3.vh hc' 1#38;have L5:=(L3.ext e3).ext e4;refine⟨c,dc,p2,ab,avs.length,rfl,ai,rfl,?_⟩;rw[iP];have hF5:=e4.hh _ _ (e3.hh _ _ (e2.hh _ _ (e1.hh _ _ hF)));refine⟨fb,fvs,.ref c,rfl,rfl,hF5,by have:=fD b2;omega,?_⟩;have sK:Same Hv' (upd (upd (upd (upd Hv' p1 (.lst [y])) p2 2#29) dc (.own c)) c 1#38):=e1.vv.trans (e2.vv.trans (e3.vv.trans e4.vv));have pF':Paired (FdAt C.X.K CC (upd (upd (upd (upd Hv' p1 (.lst [y])) p2 2#29) dc (.own c)) c 1#38) ab) (fnd++[(l++[wy],as.length)]) (fvs++[.ref c]):=by
   refine Paired.append (Paired.mapM pF λ _ _ _ q=>q.same sK) (.cons ⟨c,dc,p2,rfl,?_,?_⟩ .nil)
   ·rw[ai,<- la]
   ·refine Ba (SqX.of (e4.vv _ _ (e3.vv _ _ ai))) ?_
    rw[E3];exact(hll.same sK).append (.cons ((ry.same x.vv).same sK) .nil)
  have L6:=L5.setF pF';have hA6:upd (upd (upd (upd (upd H' p1 (.lst [y])) p2 2#29) dc (.own c)) c 1#38) fb (.lst (fvs++[.ref c])) ab=some (.lst avs):=by
   rw[ag (Ne.symm L.nf.2.2.2)];exact e4.hh _ _ (e3.hh _ _ (e2.hh _ _ (e1.hh _ _ hA)))
  refine⟨_,rfl,.inl ⟨rfl,_,SqL.of hA6⟩,ab,avs,.non,rfl,rfl,hA6,by have:=fD b1;omega,?_⟩;have L7:=L6.setA (as':=as++[.non]) (avs:=avs++[.non]) (Paired.append (Paired.mapM pA λ _ _ _ q=>q.same sK) (.cons (show AnAt _ _ An.non V.non from rfl) .nil));exact next _ _ _ _ (some (.ref pt)) L7 ((Stp.ext x).trans ((Stp.ext e1).trans ((Stp.ext e2).trans ((Stp.ext e3).trans ((Stp.ext e4).trans ((Stp.write mfb 0#34).trans (Stp.write mab 0#34))))))) hgo 0#5 0#5
 ·rename_i p dr fr h
  rw[h];intro v Hv' H' x rp nn;unfold Rp at rp;obtain⟨pt,tvs,rfl,hq,hl⟩:=rp;unfold RpL at hl;obtain⟨u,ws,rfl,hu,_⟩:=hl;unfold Rp at hu;subst hu;have L1:=L.ext x;obtain⟨avs,hA,pA⟩:=L1.ha;have la:=pA.length;have sq:=(hq.same x.vh).seq;refine⟨_,rfl,pt,.int p::ws,rfl,.inl sq,_,_,rfl,rfl,_,rfl,?_⟩;refine eO 0#5 ?_
  refine⟨_,rfl,.inl ⟨rfl,_,SqL.of hA⟩,?_⟩;refine⟨_,rfl,pt,.int p::ws,0,.int p,rfl,rfl,sq,lF (j:=0) rfl,1#30,λ q hq2=>?_⟩;have e1:=Ext.new1 x.vh hq2 (.tup [.str yX,.int p]);have L2:=L1.ext e1;refine⟨ab,avs,.ref q,rfl,rfl,e1.hh _ _ hA,by have:=fD b1;omega,?_⟩;have hq0:H₀ q=none:=L1.wk.oh.free hq2;have L3:=L2.setA (as':=as++[.twi p]) (avs:=avs++[.ref q]) (Paired.append (Paired.mapM pA λ _ _ _ q=>q.same e1.vv) (.cons (show AnAt _ _ (An.twi p) (V.ref q) from ⟨q,rfl,ai,hq0⟩) .nil));exact next _ _ _ _ (some (.ref pt)) L3 ((Stp.ext x).trans ((Stp.ext e1).trans (Stp.write mab 0#34))) hgo 0#5 0#5
 ·cases hgo
def Stp.less {Hs H Hs1 H1:Hp}{M M1 M2:List Addr}(x:Stp Hs H M Hs1 H1 M1)(h:∀ b∈M2,b∈M1):Stp Hs H M Hs1 H1 M2:=⟨x.ss,x.nw,x.kp,x.dm,x.fz,λ b hb=>x.mm b (h b hb)⟩
section
variable {K:GA}{CW CC:Addr}{Hs Hs' H H' H₀:Hp}{a wl rl ab fb:Addr}{an:List Addr}{w:Ws}{as:List An}{fnd:List (List Wy×Nat)}
def WkAt.ne (x:WkAt K CW CC Hs H H₀ a wl rl an w):a≠wl/\a≠rl/\wl≠rl/\a∉an/\wl∉an/\rl∉an/\an.Nodup:=by
 have h:=x.nd;simp only[FA,DT,not_or] at h;exact⟨h.1.1,h.1.2.1,h.2.1.1,h.1.2.2,h.2.1.2,h.2.2.1,h.2.2.2⟩
def cD {Hs H:Hp}{m:Addr}{o:HO}(s:Same Hs H)(h:Hs m=none):Same Hs (upd H m o):=λ b u e=>by
 rw[ag (show b≠m from λ z=>by subst z;rw[h] at e;cases e)];exact s b u e
def WkAt.setWait (x:WkAt K CW CC Hs H H₀ a wl rl an w){cs:List Cs}{vs:List V}(h:Paired (CsAt K CC Hs an) cs vs):WkAt K CW CC Hs (upd H wl 1#48) H₀ a wl rl an { w with wait:=cs }:=by
 obtain⟨n1,n2,n3,n4,n5,n6,n7⟩:=x.ne;have nn:=x.no wl 0#5;refine⟨cD x.sv nn.1,cD x.oh nn.2,x.nd,x.no,?_,⟨vs,ai,h⟩,?_,?_⟩
 ·obtain⟨dx,wa,h1,h2⟩:=x.slf
  exact⟨dx,wa,by rw[ag n1];exact h1,h2⟩
 ·obtain⟨rs,h1,h2⟩:=x.row
  exact⟨rs,by rw[ag (Ne.symm n3)];exact h1,h2⟩
 ·exact Paired.mapM x.sto λ l b hb ⟨zs,h1,h2⟩=>⟨zs,by rw[ag (show b≠wl from λ z=>by subst z;exact n5 hb)];exact h1,h2⟩
def WkAt.setGone (x:WkAt K CW CC Hs H H₀ a wl rl an w){dx wa:Addr}{g:Nat}(h:H a=some (.ins CW dx (wf wa wl rl w.gone))):WkAt K CW CC Hs (upd H a (.ins CW dx (wf wa wl rl g))) H₀ a wl rl an { w with gone:=g }:=by
 obtain⟨n1,n2,n3,n4,n5,n6,n7⟩:=x.ne;have nn:=x.no a 0#5;refine⟨cD x.sv nn.1,cD x.oh nn.2,x.nd,x.no,?_,?_,?_,?_⟩
 ·obtain⟨dx',wa',h1,h2⟩:=x.slf
  rw[h] at h1;have e:=Option.some.inj h1;injection e with e1 e2 e3
  unfold wf at e3;injection e3 with e4
  injection e4 with e5 e6
  injection e6 with e7
  subst e7;exact⟨dx,wa,ai,h2⟩
 ·obtain⟨rs,h1,h2⟩:=x.wai
  exact⟨rs,by rw[ag (Ne.symm n1)];exact h1,h2⟩
 ·obtain⟨rs,h1,h2⟩:=x.row
  exact⟨rs,by rw[ag (Ne.symm n2)];exact h1,h2⟩
 ·exact Paired.mapM x.sto λ l b hb ⟨zs,h1,h2⟩=>⟨zs,by rw[ag (show b≠a from λ z=>by subst z;exact n4 hb)];exact h1,h2⟩
def Paired.setAt {α:Type}{F G:α->Addr->Prop}{l:List α}{r:List Addr}{x:α}{i:Nat}{b:Addr}(h:Paired F l r)(nd:r.Nodup)(hb:r[i]?=some b)(q:G x b)(o:∀ y c,c≠b->F y c->G y c):Paired G (l.set i x) r:=by
 induction h generalizing i with
 |nil=>simp at hb
 |cons z t ih=>
  obtain⟨n1,n2⟩:=List.nodup_cons.mp nd;cases i with
  |zero=>
   simp at hb;subst hb;exact .cons q (Paired.mapM t λ y c hc f=>o y c (λ e=>by subst e;exact n1 hc) f)
  |succ i=>
   simp at hb;exact .cons (o _ _ (λ e=>by subst e;exact n1 (DW hb)) z) (ih n2 hb)
def WkAt.setSto (x:WkAt K CW CC Hs H H₀ a wl rl an w){i:Nat}{b:Addr}{as:List An}{vs:List V}(hb:an[i]?=some b)(h:Paired (AnAt Hs H₀) as vs):WkAt K CW CC Hs (upd H b 1#48) H₀ a wl rl an { w with sto:=w.sto.set i as }:=by
 obtain⟨n1,n2,n3,n4,n5,n6,n7⟩:=x.ne;have mb:=DW hb;have nn:=x.no b (by simp[mb]);refine⟨cD x.sv nn.1,cD x.oh nn.2,x.nd,x.no,?_,?_,?_,?_⟩
 ·obtain⟨dx,wa,h1,h2⟩:=x.slf
  exact⟨dx,wa,by rw[ag (show a≠b from λ z=>by subst z;exact n4 mb)];exact h1,h2⟩
 ·obtain⟨rs,h1,h2⟩:=x.wai
  exact⟨rs,by rw[ag (show wl≠b from λ z=>by subst z;exact n5 mb)];exact h1,h2⟩
 ·obtain⟨rs,h1,h2⟩:=x.row
  exact⟨rs,by rw[ag (show rl≠b from λ z=>by subst z;exact n6 mb)];exact h1,h2⟩
 ·exact Paired.setAt x.sto n7 hb ⟨vs,ai,h⟩ λ y c hc ⟨zs,h1,h2⟩=>⟨zs,by rw[ag hc];exact h1,h2⟩
def nK {α:Type}{l:List α}{b:α}:∀ (i:Nat) c,l[i]?=some c->(l++[b])[i]?=some c:=λ i c h=>by
 rw[DI (List.getElem?_eq_some_iff.mp h).1];exact h
def LpAt.done (L:LpAt K CW CC Hs H H₀ a wl rl an w ab fb as fnd){m:Int}{r:Addr}{rvs:List V}(hr:Hs r=some (.tup [.int m,.ref ab]))(h0:H₀ r=none)(hR:H rl=some (.lst rvs)):
  WkAt K CW CC Hs (upd H rl (.lst (rvs++[.ref r]))) H₀ a wl rl (an++[ab]) { w with rows:=w.rows++[(m,w.sto.length)],sto:=w.sto++[as] }:=by
 have x:=L.wk;obtain⟨n1,n2,n3,n4,n5,n6,n7⟩:=x.ne;have nn:=x.no rl 0#5;have na:=L.na.2.2;simp only[DT,not_or] at na;have hl:an[w.sto.length]?=none:=by rw[x.sto.length];simp
 have hab:(an++[ab])[w.sto.length]?=some ab:=by rw[x.sto.length];simp
 refine⟨cD x.sv nn.1,cD x.oh nn.2,?_,λ b hb=>?_,?_,?_,?_,?_⟩
 ·show (a::wl::rl::(an++[ab])).Nodup
  simp only[FA,DT,not_or,FB,DY,or_false,not_false_eq_true,List.nodup_append,Gj,and_true,true_and];refine⟨⟨n1,n2,n4,Ne.symm na.1⟩,⟨n3,n5,Ne.symm na.2.1⟩,⟨n6,Ne.symm na.2.2.1⟩,n7,λ y hy z hz e=>?_⟩;rw[hz] at e;subst e;exact na.2.2.2 hy
 ·have hb':b∈a::wl::rl::an\/b=ab:=by
   simp only[DT,FB,DY,or_false] at hb ⊢
   rcases hb with h|h|h|h|h
   ·exact .inl (.inl h)
   ·exact .inl (.inr (.inl h))
   ·exact .inl (.inr (.inr (.inl h)))
   ·exact .inl (.inr (.inr (.inr h)))
   ·exact .inr h
  rcases hb' with h|rfl
  ·exact x.no b h
  ·exact⟨L.na.1,L.na.2.1⟩
 ·obtain⟨dx,wa,h1,h2⟩:=x.slf
  exact⟨dx,wa,by rw[ag n2];exact h1,h2⟩
 ·obtain⟨vs,h1,h2⟩:=x.wai
  exact⟨vs,by rw[ag n3];exact h1,Paired.mapM h2 λ _ _ _ q=>q.same 1#14 nK⟩
 ·obtain⟨vs,h1,h2⟩:=x.row
  rw[hR] at h1;cases h1;exact⟨_,ai,Paired.append (Paired.mapM h2 λ _ _ _ q=>q.same 1#14 nK) (.cons ⟨r,ab,rfl,hr,h0,hab⟩ .nil)⟩
 ·obtain⟨avs,hA,pA⟩:=L.ha
  refine Paired.append (Paired.mapM x.sto λ l b hb ⟨zs,h1,h2⟩=>⟨zs,by rw[ag (show b≠rl from λ z=>by subst z;exact n6 hb)];exact h1,h2⟩) (.cons ⟨avs,?_,pA⟩ .nil);rw[ag na.2.2.1];exact hA
end
def ya {C:Ctx}{CW CC:Addr}{E E':XK}{tl tn:TE}{k:Wk}{vs:List V}{H:Hp}{Q:VK}(T:WkT C.X.K CW CC)(ql:Tak C tl k.fl)(qn:Tak C tn (Dv.eNeg (Dv.eInt 1)))(h:tq C.X.K CW CC k vs H Q E'):
  tWR C CC E tl tn k.ft { nx:=λ _ H'=>Q .non H',rt:=Q } (L2.start ["self","laid","filled","least","answers","found","way","twice"] vs) H:=by
 obtain⟨a,wl,rl,an,v1,v2,Hs,H₀,w,l,fd,w',rfl,W,r1,r2,hrow,q⟩:=h;unfold Dv.rowW at hrow
 split at hrow
 ·rename_i m fr hfl
  split at hrow
  ·rename_i ws hws
   split at hrow
   ·rename_i as' f' hgo
    split at hrow
    ·rename_i hb
     cases hrow;simp only[Dl,decide_eq_true_eq] at hb;obtain⟨⟨⟨b1,b2⟩,b3⟩,b4⟩:=hb;refine ql _ H H _ _ (CO (uO T W) (r1.same W.sv) (r2.same W.sv)) 1#14 ?_
     rw[hfl];intro v Hv' H1 x rp nn;unfold Rp at rp;subst rp;have W1:=W.hext x.hh;refine⟨1#74,λ ab hab=>?_⟩;refine⟨1#74,λ fb hfb=>?_⟩;obtain⟨nfa,hfb⟩:=aO hfb;have nab:ab∉a::wl::rl::an:=λ z=>by obtain⟨o,ho⟩:=W1.has ab z;rw[hab] at ho;cases ho
     have nfb:fb∉a::wl::rl::an:=λ z=>by obtain⟨o,ho⟩:=W1.has fb z;rw[hfb] at ho;cases ho
     have L0:LpAt C.X.K CW CC Hs (upd (upd H1 ab 2#62) fb 2#62) H₀ a wl rl an w ab fb [] []:=
      ⟨(W1.other (W1.sv.free hab) (W1.oh.free hab) nab).other (W1.sv.free hfb) (W1.oh.free hfb) nfb,⟨W1.sv.free hab,W1.oh.free hab,nab⟩,⟨W1.sv.free hfb,W1.oh.free hfb,nfb,nfa⟩,⟨[],by rw[ag (Ne.symm nfa),ai],.nil⟩,⟨[],ai,.nil⟩⟩
     have S0:Stp Hs H (a::wl::rl::an) Hs (upd (upd H1 ab 2#62) fb 2#62) (fb::ab::a::wl::rl::an):=
      (Stp.hext x.hh x.nf).trans ((Stp.newM (M1:=ab::a::wl::rl::an) hab 0#34 λ b hb=>(List.mem_cons.mp hb).symm).trans
       (Stp.newM (M1:=fb::ab::a::wl::rl::an) (by rw[ag nfa];exact hfb) 0#34 λ b hb=>(List.mem_cons.mp hb).symm))
     obtain⟨dx,wa,hWa,rW⟩:=L0.wk.slf;unfold Dv.wysD Rp at rW;obtain⟨wa',wvs,e,hwq,hwl⟩:=rW;cases e;obtain⟨u,hu,ru⟩:=hwl.get (i:=m) (d:=Dv.wyL ws) (by rw[DD,hws];rfl);obtain⟨wb,yvs,rfl,hbq,hbl⟩:=oV ru;have yl:=hbl.length;rw[Di] at yl;refine⟨_,rfl,a,CW,dx,_,_,rfl,hWa,T.clW,T.nWays,md,_,rfl,wa,wvs,(m:Int),.ref wb,rfl,rfl,(hwq.same L0.wk.sv).seq,lF hu,wb,rfl,⟨_,(hbq.same L0.wk.sv).seq⟩,?_⟩;refine vM (K:=C.X.K) (a:=wb) (xs:=yvs) (λ i σ Hc=>∃ Hs1 as fnd vw vt,σ=[some (.ref a),some v1,some v2,some (.int (m:Int)),some (.ref ab),some (.ref fb),vw,vt]/\LpAt C.X.K CW CC Hs1 Hc H₀ a wl rl an w ab fb as fnd /\
      Stp Hs H (a::wl::rl::an) Hs1 Hc (fb::ab::a::wl::rl::an)/\Dv.rowGo k l fd (ws.drop i) as fnd=some (as',f')/\as.length=i/\fnd.length<=i) ?h0 ?hl ?hs ?hd
     case h0=>exact⟨Hs,[],[],none,none,rfl,L0,S0,by simpa using hgo,rfl,Du _⟩
     case hl=>
      rintro i σ Hc hi ⟨Hs1,as,fnd,vw,vt,rfl,L,S,hg,h1,h2⟩
      exact((hbq.same S.ss).same L.wk.sv).seq
     case hs=>
      rintro i y σ Hc hy ⟨Hs1,as,fnd,vw,vt,rfl,L,S,hg,h1,h2⟩
      have hi:i<yvs.length:=(List.getElem?_eq_some_iff.mp hy).1;have hiw:i<ws.length:=⋯
      have hwy:ws[i]?=some ws[i]:=Dk hiw
      obtain⟨y',hy',ry⟩:=hbl.get (i:=i) (d:=(ws[i]).d) (by rw[DD,hwy];rfl);rw[hy] at hy';cases hy';rw[Eb hiw] at hg;exact xQ L (r1.same S.ss) (r2.same S.ss) (ry.same S.ss) hg ⋯ ⋯ b1 λ Hs' Hc' as2 fnd2 vt' L' S' hg' h1' h2'=>⟨Hs',as2,fnd2,some y,vt',rfl,L',S.trans S',hg',⋯,⋯⟩
     case hd=>
      rintro σ Hc ⟨Hs1,as,fnd,vw,vt,rfl,L,S,hg,h1,h2⟩
      rw[yl,Fs] at hg;simp only[Dv.rowGo,Option.some.injEq,Prod.mk.injEq] at hg;obtain⟨rfl,rfl⟩:=hg;obtain⟨rvs,hR,pR⟩:=L.wk.row;obtain⟨dx2,wa2,hA2,rA2⟩:=L.wk.slf;have lr:=pR.length;refine⟨_,rfl,a,CW,dx2,_,_,rfl,hA2,T.clW,T.nRows,l9,.inl ⟨rfl,_,SqL.of hR⟩,_,rfl,_,rfl,1#30,λ r hr=>?_⟩;have e1:=Ext.new1 L.wk.sv hr (.tup [.int (m:Int),.ref ab]);have L2:=L.ext e1;refine⟨rl,rvs,.ref r,rfl,rfl,e1.hh _ _ hR,by have:=fD b3;omega,?_⟩;have W3:=L2.done (m:=(m:Int)) (r:=r) ai (L.wk.oh.free hr) (e1.hh _ _ hR);have S3:=S.trans ((Stp.ext e1).trans (Stp.write (m:=rl) (o:=.lst (rvs++[.ref r])) 0#5 0#34));obtain⟨fvs,hF,pF⟩:=L2.hf;have lf:=pF.length;have nfr:fb≠rl:=λ z=>L.nf.2.2.1 2#57
      obtain⟨dx3,wa3,hA3,rA3⟩:=W3.slf;obtain⟨cvs,hC3,pC3⟩:=W3.wai;refine⟨_,rfl,a,CW,dx3,_,_,rfl,hA3,T.clW,T.nWaiting,dS,.inl ⟨rfl,_,SqL.of hC3⟩,_,rfl,?_⟩;refine qn _ _ (upd Hs1 r (.tup [.int (m:Int),.ref ab])) [] _ (λ i d z=>by simp at z) W3.sv ?_
      intro v4 Hv4 H4 x4 rp4 nn4;unfold Rp at rp4;subst rp4;refine⟨-1,rfl,fb,fvs,rfl,rfl,SqX.of (x4.hh _ _ (by rw[ag nfr];exact hF)),λ p hp=>?_⟩;have W4:=W3.ext x4;have e5:=Ext.new1 x4.vh hp (.lst fvs.reverse);have W5:=W4.ext e5;have hC5:=e5.hh _ _ (x4.hh _ _ hC3);have lc:=pC3.length;refine⟨wl,p,cvs,fvs.reverse,rfl,rfl,hC5,ai,?_,?_⟩
      ·rw[ED]
       have:=dh b4;show cvs.length+fvs.length<=sizeLine
       simp only at lc;omega
      have sK:Same (upd Hs1 r (.tup [.int (m:Int),.ref ab])) (upd Hv4 p (.lst fvs.reverse)):=x4.vv.trans e5.vv;have hab':(an++[ab])[w.sto.length]?=some ab:=by rw[L.wk.sto.length];simp
      have W6:=W5.setWait (cs:=w.wait++fnd.reverse.map λ p=>⟨p.1,w.sto.length,p.2⟩) (vs:=cvs++fvs.reverse)
       (Paired.append (Paired.mapM pC3 λ _ _ _ z=>z.same sK λ _ _ z=>z) (Paired.maps (Paired.rev pF) λ pp v ⟨x,dc,lb,z1,z2,z3⟩=>⟨x,dc,lb,ab,z1,sK _ _ z2,z3.same sK,hab'⟩))
      have S6:=S3.trans ((Stp.ext x4).trans ((Stp.ext e5).trans (Stp.write (m:=wl) (o:=.lst (cvs++fvs.reverse)) 0#5 0#34)));exact q _ _ _ W6 (S6.less λ b hb=>by
       simp only[DT,FB,DY,or_false] at hb ⊢
       rcases hb with h|h|h|h|h <;>simp[h])
    ·cases hrow
   ·cases hrow
  ·cases hrow
 ·cases hrow
abbrev BO:List V->Hp->VK->Prop:=λ xs H Q=>∃ a kvs,xs=[V.ref a]/\Rd H a 1#96/\Q (.int kvs.length) H
def tGo (C:Ctx)(CW CC Ca:Addr)(E:XK)(k:Wk)(tp ts:TE):TS:=
 cJ (o2 (mF (tOp rEq (gY C.X.K (aS 0) "gone") (tC (.int 2000)))) (λ _ _ H1=>E (.ref Ca) none H1) kO)
 (cJ (qS C.X.K (aS 0) (tC (.int 1)) BG "gone")
 (cJ (g0 (CA C.X.K "list" BC (gY C.X.K (aS 0) "waiting")) (c5 1))
 (cJ (g0 tp (c5 2))
 (cJ (o2 (mF (tOp rEq (tCB BO (aQ (aS 2) bK)) (tCB (vk C.X.K) (aQ (gY C.X.K (aS 0) "ways") bK)))) (l5 ts) kO)
 (cJ (g0 (tI (aQ (tC (.str yo)) (aQ (tCB (vk C.X.K) (aQ (gY C.X.K (aS 0) "rows") bK)) bK))) (Cn (gY C.X.K (aS 1) "answers") (gY C.X.K (aS 1) "at") zV))
 (cJ (iB (mX CW "write_row" (tq C.X.K CW CC k) [] E (aS 0) (aQ (gY C.X.K (aS 1) "laid") (aQ (aS 2) bK))))
 (l5 (tC .non))))))))
def OkW (K:GA)(CW CC:Addr)(cls:String->Value)(Hs H H₀:Hp)(a wl rl:Addr)(an:List Addr)(r:WR)(Q:VK)(E:XK):Prop:=match r with
 |.many=>∀ Hs' H' an',(∃ w',WkAt K CW CC Hs' H' H₀ a wl rl an' w')->Stp Hs H (a::wl::rl::an) Hs' H' (a::wl::rl::an')->E (cls "TooMany") none H'
 |.bad=>False
 |.full w' d fr=>∀ v Hs' H' an',WkAt K CW CC Hs' H' H₀ a wl rl an' w'->Stp Hs H (a::wl::rl::an) Hs' H' (a::wl::rl::an')->Rp K Hs' d v->(fr=true->Rp [] (Hnew H Hs') d v)->Q v H'
 |.row w'=>∀ Hs' H' an',WkAt K CW CC Hs' H' H₀ a wl rl an' w'->Stp Hs H (a::wl::rl::an) Hs' H' (a::wl::rl::an')->Q .non H'
def nZ (K:GA)(CW CC:Addr)(cls:String->Value)(k:Wk):Sp:=λ vs H Q E=>∃ (a wl rl:Addr) (an:List Addr) (Hs H₀:Hp) (w:Ws),vs=[.ref a]/\WkAt K CW CC Hs H H₀ a wl rl an w/\OkW K CW CC cls Hs H H₀ a wl rl an (Dv.stepW k w) Q E
def vD {K:GA}{CW CC:Addr}{cls:String->Value}{k:Wk}(vs:List V)(H:Hp)(Q:VK)(E:XK)(h:nZ K CW CC cls k vs H Q E):vs.length=1:=by
 obtain⟨_,_,_,_,_,_,_,rfl,_⟩:=h;rfl
def lg {K:GA}{CW CC:Addr}{H:Hp}{x dc lb b:Addr}{t:Int}{l:List Wy}(T:WkT K CW CC)(h1:H x=some (.ins CC dc (cf lb b t)))(h2:Rp K H (Dv.wyL l) (.ref lb)):Rp K H (.ins ["laid"] [Dv.wyL l]) (.ref x):=by
 unfold Rp;refine⟨x,CC,dc,_,[.ref lb],rfl,h1,T.clC,rfl,λ n u hn=>?_,.cons h2 .nil⟩;simp only[Ej,FO,Fc] at hn;cases hn;exact⟨T.nLaid,rX⟩
def C4 {K:GA}{H:Hp}{d1:D}{v1:V}{a0:Option V}{r:St}(h1:Rp K H d1 v1):EnvR K H [none,some d1] (a0::some v1::r):=by
 intro i d e
 match i with
 |0=>simp at e
 |1=>simp at e;subst e;exact⟨v1,rfl,h1⟩
 |i+2=>simp at e
def Cc {K:GA}{H:Hp}{d1 d2:D}{v1 v2:V}{a0:Option V}{r:St}(h1:Rp K H d1 v1)(h2:Rp K H d2 v2):EnvR K H [none,some d1,some d2] (a0::some v1::some v2::r):=by
 intro i d e
 match i with
 |0=>simp at e
 |1=>simp at e;subst e;exact⟨v1,rfl,h1⟩
 |2=>simp at e;subst e;exact⟨v2,rfl,h2⟩
 |i+3=>simp at e
def zd {n j:Nat}(h:j<n):ixN n (j:Int)=some j:=by
 unfold ixN;rw[if_pos ⋯,if_pos ⋯];simp
def vY {α:Type}{l:List α}{c:α}(h:l.getLast?=some c):l[l.length-1]?=some c:=by
 rw[List.getLast?_eq_getElem?] at h;exact h
def pT (k:Wk)(w:Ws)(l:List Wy)(fd:D):Dv.rowW k w l fd=.bad\/∃ w',Dv.rowW k w l fd=.row w':=by
 unfold Dv.rowW
 split
 ·split
  ·split
   ·split
    ·exact .inr ⟨_,rfl⟩
    ·exact .inl rfl
   ·exact .inl rfl
  ·exact .inl rfl
 ·exact .inl rfl
def yz {C:Ctx}{CW CC Ca:Addr}{E:XK}{tp ts:TE}{k:Wk}{vs:List V}{H:Hp}{Q:VK}(T:WkT C.X.K CW CC)(hcls:C.cls "TooMany"=.ref Ca)(qp:Tak C tp (Dv.eCall k.fp (Dv.lCons (Dv.eFld "laid" 1#26) Dv.lNil)))(qs:Tak C ts k.fs)
  (h:nZ C.X.K CW CC C.cls k vs H Q E):tGo C CW CC Ca E k tp ts { nx:=λ _ H'=>Q .non H',rt:=Q } (L2.start ["self","case","filled"] vs) H:=by
 obtain⟨a,wl,rl,an,Hs,H₀,w,rfl,W,hst⟩:=h;unfold Dv.stepW at hst;obtain⟨dx,wa,hA,rW⟩:=W.slf;refine⟨_,rfl,a,CW,dx,_,_,rfl,hA,T.clW,T.nGone,qD,rfl,_,rfl,?_⟩;by_cases hg:w.gone=2000
 ·rw[if_pos hg] at hst
  refine eO (by simp[hg]) ?_
  rw[<- hcls];exact hst Hs H an ⟨w,W⟩ .refl
 rw[if_neg hg] at hst;refine iD 0#31 ?_
 refine⟨_,rfl,a,CW,dx,_,_,rfl,hA,T.clW,T.nGone,qD,_,_,rfl,rfl,dx,_,hA,(by show 4<1000;decide),?_⟩;have W1:=W.setGone hA (g:=w.gone+1);have S1:Stp Hs H (a::wl::rl::an) Hs (upd H a (.ins CW dx (wf wa wl rl ((w.gone+1:Nat):Int)))) (a::wl::rl::an):=Stp.write 0#5 0#34;cases hl:w.wait.getLast? with
 |none=>simp only[hl] at hst;exact Zf hst
 |some c=>
  simp only[hl] at hst;obtain⟨cvs,hC,pC⟩:=W1.wai;have hlen:=pC.length;obtain⟨y,hy,cy⟩:=Paired.gets pC (vY hl);obtain⟨cx,dc,lb,b,rfl,hcx,rl1,hb⟩:=cy;simp only at hlen;rw[hlen] at hy;refine⟨_,rfl,a,CW,dx,_,_,rfl,ai,T.clW,T.nWaiting,dS,.inl ⟨rfl,_,SqL.of hC⟩,wl,cvs,.ref cx,rfl,rfl,hC,hy,?_⟩;have W2:=W1.setWait (Paired.dropLast pC);have S2:=S1.trans (Stp.write (Hs:=Hs) (m:=wl) (o:=.lst cvs.dropLast) 0#5 0#34);refine qp _ _ Hs [none,some 1#57] _ (C4 (lg T hcx rl1)) W2.sv ?_
  have hev:Dv.eCall k.fp (Dv.lCons (Dv.eFld "laid" 1#26) Dv.lNil) [none,some 1#57]=k.fp [Dv.wyL c.laid]:=by
   simp[Dv.eCall,Dv.lCons,Dv.eFld,Dv.eVar,Dv.fldD,Dv.lookS,Dv.lNil,Dv.R.bind,Dv.RL.bind,Dv.R.bindL,Dv.RL.bindL]
  rw[hev];cases hfp:k.fp [Dv.wyL c.laid] with
  |bad=>simp only[hfp] at hst;exact Zf hst
  |exc e=>simp only[hfp] at hst;exact Zf hst
  |ok d fr0=>
   cases d with
   |dct ks ds=>
    simp only[hfp] at hst;intro v Hv3 H3 x3 rp3 nn3;have W3:=W2.ext x3;have S3:=S2.trans (Stp.ext x3);have hcx3:=x3.vv _ _ hcx;have rl3:=rl1.same x3.vv;have rp3':=rp3;unfold Rp at rp3';obtain⟨fa,fvs,rfl,hk1,hk2,hk3⟩:=rp3';obtain⟨dx3,wa3,hA3,rW3⟩:=W3.slf;have rW3':=rW3;unfold Dv.wysD Rp at rW3';obtain⟨wa',wvs,e,hwq,hwl⟩:=rW3';cases e;have wl3:=hwl.length;rw[Di] at wl3;have kl:((ks.map (Sum.inl:Int->Key)).zip fvs).length=ks.length:=by
     rw[E4,Di,hk3.length,hk1,Nat.min_self]
    refine⟨_,rfl,fa,_,rfl,Rd.same x3.vh hk2,_,rfl,a,CW,dx3,_,_,rfl,hA3,T.clW,T.nWays,md,wa3,wvs,rfl,.inl (hwq.same W3.sv).seq,rfl,_,rfl,?_⟩;rw[kl,wl3];by_cases hfull:ks.length=w.wys.length
    ·rw[if_pos hfull] at hst
     refine eO (by simp[hfull]) ?_
     refine qs _ _ Hv3 [none,some 1#57,some 0#42] _ (Cc (lg T hcx3 rl3) rp3) W3.sv ?_
     cases hfs:k.fs [none,some 1#57,some 0#42] with
     |bad=>simp only[hfs] at hst;exact Zf hst
     |exc e=>simp only[hfs] at hst;exact Zf hst
     |ok d fr=>
      simp only[hfs] at hst;intro v5 Hv5 H5 x5 rp5 nn5;refine hst v5 Hv5 H5 an (W3.ext x5) (S3.trans (Stp.ext x5)) rp5 λ z=>(nn5 z).same λ b o hbo=>?_
      have hb3:H3 b=none:=by
       cases q:H3 b with
       |none=>rfl
       |some u=>unfold Hnew at hbo;rw[q] at hbo;cases hbo
      have hbH:H b=none:=by
       cases q:H b with
       |none=>rfl
       |some u=>obtain⟨u',hu⟩:=S3.dm b u q;rw[hb3] at hu;cases hu
      unfold Hnew;rw[hbH];show Hv5 b=some o
      rw[x5.all b hb3];exact Hnew.sub b o hbo
    ·rw[if_neg hfull] at hst
     refine iD 0#31 ?_
     cases hs:w.sto[c.ix]? with
     |none=>simp only[hs] at hst;exact Zf hst
     |some as=>
      simp only[hs] at hst;by_cases hat:c.at_<as.length
      ·rw[if_pos hat] at hst
       obtain⟨rvs,hR,pR⟩:=W3.row;have lr:=pR.length;simp only at lr;refine⟨_,rfl,a,CW,dx3,_,_,rfl,hA3,T.clW,T.nRows,l9,rl,rvs,rfl,.inl (SqL.of hR),1#30,λ t ht=>?_⟩;have e4:=Ext.new1 x3.vh ht (.tup [.str yo,.int rvs.length]);have W4:=W3.ext e4;have S4:=S3.trans (Stp.ext e4);have hcx4:=e4.vv _ _ hcx3;obtain⟨b',hb',avs,hB,pA⟩:=Paired.gets W4.sto hs;rw[hb] at hb';cases hb';have la:=pA.length;refine⟨_,rfl,cx,CC,dc,_,_,rfl,W4.sv _ _ hcx4,T.clC,T.nAnswers,pq,_,rfl,cx,CC,dc,_,_,rfl,W4.sv _ _ hcx4,T.clC,T.nAt,BP,b,avs,(c.at_:Int),c.at_,rfl,rfl,hB,zd ⋯,?_⟩;have ht0:H₀ t=none:=W3.oh.free ht;have W5:=W4.setSto (as:=as.set c.at_ (.row w.rows.length)) (vs:=avs.set c.at_ (.ref t)) hb (Paired.set (show AnAt _ _ (An.row w.rows.length) (V.ref t) from ⟨t,rfl,by rw[ai,lr],ht0⟩) pA c.at_);have S5:=S4.trans (Stp.write (m:=b) (o:=.lst (avs.set c.at_ (.ref t))) (by simp[DW hb]) 0#34);obtain⟨dx5,wa5,hA5,rW5⟩:=W5.slf;generalize hrw:Dv.rowW k { w with gone:=w.gone+1,wait:=w.wait.dropLast,sto:=w.sto.set c.ix 0#89 } c.laid 0#42=rr at hst;have hrr:∃ w',rr=.row w':=by
        rcases pT k { w with gone:=w.gone+1,wait:=w.wait.dropLast,sto:=w.sto.set c.ix 0#89 } c.laid 0#42 with z|⟨w',z⟩
        ·rw[hrw] at z;subst z;exact Zf hst
        ·exact⟨w',hrw.symm.trans z⟩
       obtain⟨w',rfl⟩:=hrr;refine⟨_,rfl,a,dx5,_,rfl,hA5,wV,_,rfl,cx,CC,dc,_,_,rfl,W5.sv _ _ hcx4,T.clC,T.nLaid,rX,_,rfl,?_⟩;exact⟨a,wl,rl,an,_,_,_,H₀,_,c.laid,.dct ks ds,w',rfl,W5,rl3.same e4.vv,rp3.same e4.vv,hrw,λ Hs' H' an' W' S'=>hst Hs' H' an' W' (S5.trans S')⟩
      ·rw[if_neg hat] at hst;exact Zf hst
   |_=>simp only[hfp] at hst;exact Zf hst
structure Bs (Hv₀ H₀ Hs H:Hp):Prop where
 vv:Same Hv₀ Hs
 nw:∀ b o,Hs b=some o->Hv₀ b=none->H₀ b=none
 nf:∀ b o u,H₀ b=none->H b≠some 1#39
def Bs.stp {Hv₀ H₀ Hs H Hs' H':Hp}{M M':List Addr}(x:Bs Hv₀ H₀ Hs H)(oh:Same H₀ H)(s:Stp Hs H M Hs' H' M'):Bs Hv₀ H₀ Hs' H':=by
 refine⟨x.vv.trans s.ss,λ b o h n=>?_,λ b o u h z=>x.nf b o u h (s.fz b o u z)⟩;cases q:Hs b with
 |some u=>exact x.nw b u q n
 |none=>exact oh.free (s.nw b o h q)
def Bs.fin {Hv₀ H₀ Hs H:Hp}(x:Bs Hv₀ H₀ Hs H)(oh:Same H₀ H)(sv:Same Hs H):∃ Hv2,Ext Hv₀ H₀ Hv2 H/\Same Hs Hv2/\∀ b,H₀ b=none->Hv2 b=H b:=by
 let Hv2:Hp:=λ b=>match H₀ b with
  |none=>H b
  |some _=>Hs b
 have a1:∀ b,H₀ b=none->Hv2 b=H b:=λ b h=>by show (match H₀ b with|none=>H b|some _=>Hs b)=_;rw[h]
 have a2:∀ b o,H₀ b=some o->Hv2 b=Hs b:=λ b o h=>by show (match H₀ b with|none=>H b|some _=>Hs b)=_;rw[h]
 have a3:Same Hs Hv2:=λ b o h=>by
  cases q:H₀ b with
  |none=>rw[a1 b q];exact sv b o h
  |some u=>rw[a2 b u q];exact h
 refine⟨Hv2,⟨oh,x.vv.trans a3,λ b o h=>?_,λ b o h n=>?_,a1,x.nf⟩,a3,a1⟩
 ·cases q:H₀ b with
  |none=>rw[a1 b q] at h;exact h
  |some u=>rw[a2 b u q] at h;exact sv b o h
 ·cases q:H₀ b with
  |none=>rfl
  |some u=>rw[a2 b u q] at h;rw[x.nw b o h n] at q;cases q
abbrev zN (K:GA):TT:=mF (tOp (rI0 λ i j=>.bl (decide (j<i))) (tCB (vk K) (aQ (gY K (aS 0) "waiting") bK)) 2#64)
def CP (K:GA)(CW CC:Addr)(cls:String->Value)(k:Wk)(E:XK):TS:=
 cJ (g0 (nG bK) (c5 1)) (cJ (pN (zN K)
  (cJ (g0 (mX CW "go_on" (nZ K CW CC cls k) [] E (aS 0) bK) (c5 2)) (o2 (tB (wL (aS 2))) (iB (tBM K "list" dU (aS 1) (aQ (aS 2) bK))) kO)))
  (l5 (aS 1)))
def lz (K:GA)(CW CC:Addr)(cls:String->Value)(k:Wk):Sp:=λ vs H Q E=>∃ (a wl rl:Addr) (an:List Addr) (Hs Hv₀ H₀:Hp) (w:Ws),vs=[.ref a]/\WkAt K CW CC Hs H H₀ a wl rl an w/\Bs Hv₀ H₀ Hs H/\Ok K Hv₀ H₀ E cls (Dv.allGo k 2002 w []) Q
def tm {K:GA}{CW CC:Addr}{cls:String->Value}{k:Wk}(vs:List V)(H:Hp)(Q:VK)(E:XK)(h:lz K CW CC cls k vs H Q E):vs.length=1:=by
 obtain⟨_,_,_,_,_,_,_,_,rfl,_⟩:=h;rfl
def gR {H₀ Hs Hs':Hp}(s:Same Hs Hs'):Same (Hnew H₀ Hs) (Hnew H₀ Hs'):=Hnew.mono 1#14 s
def sR {H₀ H Hs:Hp}(s:Same H₀ H):Same (Hnew H Hs) (Hnew H₀ Hs):=Hnew.mono s 1#14
def vZ {K:GA}{CW CC:Addr}{cls:String->Value}{k:Wk}{E:XK}{vs:List V}{H:Hp}{Q:VK}(T:WkT K CW CC)(h:lz K CW CC cls k vs H Q E):
  CP K CW CC cls k E { nx:=λ _ H'=>Q .non H',rt:=Q } (L2.start ["walk","fillings","found"] vs) H:=by
 obtain⟨a,wl,rl,an,Hs,Hv₀,H₀,w,rfl,W,B,ok⟩:=h;refine⟨1#74,λ fl hfl=>?_⟩;have nfl:fl∉a::wl::rl::an:=λ z=>by obtain⟨o,ho⟩:=W.has fl z;rw[hfl] at ho;cases ho
 refine⟨λ m σ Hc=>∃ Hs1 an1 w1 vf acc fvs,σ=[some (.ref a),some (.ref fl),vf]/\WkAt K CW CC Hs1 Hc H₀ a wl rl an1 w1/\Bs Hv₀ H₀ Hs1 Hc/\(Hs1 fl=none/\H₀ fl=none/\fl∉a::wl::rl::an1)/\Hc fl=some (.lst fvs)/\RpL [] (Hnew H₀ Hs1) acc fvs/\Ok K Hv₀ H₀ E cls (Dv.allGo k m w1 acc) Q,?_,?_⟩
 ·refine⟨2002,Hs,an,w,none,[],[],rfl,W.other (W.sv.free hfl) (W.oh.free hfl) nfl,⟨B.vv,B.nw,λ b o u hb z=>?_⟩,⟨W.sv.free hfl,W.oh.free hfl,nfl⟩,ai,.nil,ok⟩
  by_cases e:b=fl
  ·subst e;rw[ai] at z;cases z
  ·rw[ag e] at z;exact B.nf b o u hb z
 ·rintro m σ Hc ⟨Hs1,an1,w1,vf,acc,fvs,rfl,W1,B1,⟨n1,n2,n3⟩,hF,rF,ok1⟩
  cases m with
  |zero=>exact Zf ok1
  |succ n=>
   obtain⟨dx,wa,hA,rW⟩:=W1.slf;obtain⟨cvs,hC,pC⟩:=W1.wai;have lc:=pC.length;refine⟨_,rfl,a,CW,dx,_,_,rfl,hA,T.clW,T.nWaiting,dS,wl,cvs,rfl,.inl (SqL.of hC),_,_,rfl,rfl,_,rfl,?_⟩;rw[<- lc];have fr:∀ {acc:List D} {vs:List V},RpL [] (Hnew H₀ Hs1) acc vs->RpL K Hs1 acc vs:=λ h=>(RpL.frag h).same Hnew.sub
   unfold Dv.allGo at ok1;cases hw:w1.wait with
   |nil=>
    rw[hw] at ok1;simp only[F7,if_true] at ok1;refine iD 0#5 ?_
    obtain⟨Hv2,x2,s2,a2⟩:=B1.fin W1.oh W1.sv;refine⟨_,rfl,ok1 (.ref fl) Hv2 Hc x2 ?_ λ _=>?_⟩
    ·unfold Rp
     exact⟨fl,fvs,rfl,SqX.of (by rw[a2 fl n2];exact hF),(fr rF).same s2⟩
    ·unfold Rp
     refine⟨fl,fvs,rfl,SqX.of (by unfold Hnew;rw[n2];exact hF),rF.same (gR W1.sv)⟩
   |cons c0 cr=>
    rw[hw] at ok1;simp only[F2,Dx,if_false] at ok1;refine eO 0#5 ?_
    refine⟨λ σ' H'=>∃ Hs1 an1 w1 vf acc fvs,σ'=[some (.ref a),some (.ref fl),vf]/\WkAt K CW CC Hs1 H' H₀ a wl rl an1 w1/\Bs Hv₀ H₀ Hs1 H'/\(Hs1 fl=none/\H₀ fl=none/\fl∉a::wl::rl::an1)/\H' fl=some (.lst fvs)/\RpL [] (Hnew H₀ Hs1) acc fvs/\Ok K Hv₀ H₀ E cls (Dv.allGo k n w1 acc) Q,λ σ' H' h=>⟨n,DR _,h⟩,?_⟩;refine⟨_,rfl,a,dx,_,rfl,hA,zM,a,wl,rl,an1,Hs1,H₀,w1,rfl,W1,?_⟩;have far:∀ {Hs' H':Hp} {an':List Addr},Stp Hs1 Hc (a::wl::rl::an1) Hs' H' (a::wl::rl::an')->(Hs' fl=none/\H₀ fl=none/\fl∉a::wl::rl::an')/\H' fl=some (.lst fvs):=λ {Hs' H' an'} S=>by
     refine⟨⟨?_,n2,λ z=>?_⟩,S.kp fl _ hF n3⟩
     ·cases q:Hs' fl with
      |none=>rfl
      |some o=>rw[S.nw fl o q n1] at hF;cases hF
     ·rcases S.mm fl z with z|z
      ·exact n3 z
      ·rw[z] at hF;cases hF
    cases hs:Dv.stepW k w1 with
    |many=>
     simp only[hs] at ok1
     rintro Hs' H' an' ⟨w',W'⟩ S'
     obtain⟨Hv2,x2,_⟩:=(B1.stp W1.oh S').fin W'.oh W'.sv;exact ok1 Hv2 H' x2
    |bad=>simp only[hs] at ok1;exact Zf ok1
    |row w'=>
     simp only[hs] at ok1;intro Hs' H' an' W' S';obtain⟨f1,f2⟩:=far S';refine⟨_,rfl,_,rfl,?_⟩;refine iD 0#5 ?_
     exact⟨Hs',an',w',_,acc,fvs,rfl,W',B1.stp W1.oh S',f1,f2,rF.same (gR S'.ss),ok1⟩
    |full w' d fr0=>
     simp only[hs] at ok1;cases d with
     |lst es=>
      simp only at ok1;by_cases hb:(fr0&&decide (acc.length<Dv.mx))=true
      ·rw[if_pos hb] at ok1
       rw[Dl,decide_eq_true_eq] at hb;intro v Hs' H' an' W' S' rp nn;obtain⟨f1,f2⟩:=far S';have rp':=rp;unfold Rp at rp';obtain⟨p,pvs,rfl,_,_⟩:=rp';have lf:=rF.length;refine⟨_,rfl,_,rfl,?_⟩;refine eO 0#5 ?_
       refine⟨_,rfl,.inl ⟨rfl,_,SqL.of f2⟩,_,rfl,fl,fvs,.ref p,rfl,rfl,f2,by have:=fD hb.2;omega,?_⟩;refine⟨Hs',an',w',_,acc++[.lst es],fvs++[.ref p],rfl,W'.other f1.1 f1.2.1 f1.2.2,?_,f1,ai,?_,ok1⟩
       ·have B':=B1.stp W1.oh S'
        refine⟨B'.vv,B'.nw,λ b o u hb z=>?_⟩;by_cases e:b=fl
        ·subst e;rw[ai] at z;cases z
        ·rw[ag e] at z;exact B'.nf b o u hb z
       ·exact(rF.same (gR S'.ss)).append (.cons ((nn hb.1).same (sR W1.oh)) .nil)
      ·rw[if_neg hb] at ok1;exact Zf ok1
     |_=>exact Zf ok1
def Al (K:GA)(CW CC:Addr)(cls:String->Value)(k:Wk)(E:XK):TS:=
 cJ (pN (zN K) (cJ (g0 (mX CW "go_on" (nZ K CW CC cls k) [] E (aS 0) bK) (c5 1)) (o2 (tB (wL (aS 1))) (l5 (aS 1)) kO))) (l5 (tC .non))
def gr (K:GA)(CW CC:Addr)(cls:String->Value)(k:Wk):Sp:=λ vs H Q E=>∃ (a wl rl:Addr) (an:List Addr) (Hs H₀:Hp) (w:Ws),vs=[.ref a]/\WkAt K CW CC Hs H H₀ a wl rl an w/\OkW K CW CC cls Hs H H₀ a wl rl an (Dv.firstGo k 2002 w) Q E
def n8 {K:GA}{CW CC:Addr}{cls:String->Value}{k:Wk}(vs:List V)(H:Hp)(Q:VK)(E:XK)(h:gr K CW CC cls k vs H Q E):vs.length=1:=by
 obtain⟨_,_,_,_,_,_,_,rfl,_⟩:=h;rfl
def OkW.later {K:GA}{CW CC:Addr}{cls:String->Value}{Hs H Hs1 H1 H₀:Hp}{a wl rl:Addr}{an an1:List Addr}{r:WR}{Q:VK}{E:XK}(s:Stp Hs H (a::wl::rl::an) Hs1 H1 (a::wl::rl::an1))(h:OkW K CW CC cls Hs H H₀ a wl rl an r Q E):OkW K CW CC cls Hs1 H1 H₀ a wl rl an1 r Q E:=by
 cases r with
 |many=>exact λ Hs' H' an' w S=>h Hs' H' an' w (s.trans S)
 |bad=>exact h
 |full w' d fr=>
  intro v Hs' H' an' w S rp nn;refine h v Hs' H' an' w (s.trans S) rp λ z=>(nn z).same λ b o q=>?_
  unfold Hnew at q ⊢;cases q1:H1 b with
  |some u=>rw[q1] at q;cases q
  |none=>
   rw[q1] at q;cases q2:H b with
   |some u=>obtain⟨u',hu⟩:=s.dm b u q2;rw[q1] at hu;cases hu
   |none=>exact q
 |row w'=>exact λ Hs' H' an' w S=>h Hs' H' an' w (s.trans S)
def qj {K:GA}{CW CC:Addr}{cls:String->Value}{k:Wk}{E:XK}{vs:List V}{H:Hp}{Q:VK}(T:WkT K CW CC)(h:gr K CW CC cls k vs H Q E):
  Al K CW CC cls k E { nx:=λ _ H'=>Q .non H',rt:=Q } (L2.start ["walk","found"] vs) H:=by
 obtain⟨a,wl,rl,an,Hs,H₀,w,rfl,W,ok⟩:=h;refine⟨λ m σ Hc=>∃ Hs1 an1 w1 vf,σ=[some (.ref a),vf]/\WkAt K CW CC Hs1 Hc H₀ a wl rl an1 w1/\OkW K CW CC cls Hs1 Hc H₀ a wl rl an1 (Dv.firstGo k m w1) Q E,⟨2002,Hs,an,w,none,rfl,W,ok⟩,?_⟩
 rintro m σ Hc ⟨Hs1,an1,w1,vf,rfl,W1,ok1⟩
 cases m with
 |zero=>exact Zf ok1
 |succ n=>
  obtain⟨dx,wa,hA,rW⟩:=W1.slf;obtain⟨cvs,hC,pC⟩:=W1.wai;have lc:=pC.length;refine⟨_,rfl,a,CW,dx,_,_,rfl,hA,T.clW,T.nWaiting,dS,wl,cvs,rfl,.inl (SqL.of hC),_,_,rfl,rfl,_,rfl,?_⟩;rw[<- lc];unfold Dv.firstGo at ok1;cases hw:w1.wait with
  |nil=>
   rw[hw] at ok1;simp only[F7,if_true] at ok1;refine iD 0#5 ?_
   exact ok1 Hs1 Hc an1 W1 .refl
  |cons c0 cr=>
   rw[hw] at ok1;simp only[F2,Dx,if_false] at ok1;refine eO 0#5 ?_
   refine⟨λ σ' H'=>∃ Hs1 an1 w1 vf,σ'=[some (.ref a),vf]/\WkAt K CW CC Hs1 H' H₀ a wl rl an1 w1/\OkW K CW CC cls Hs1 H' H₀ a wl rl an1 (Dv.firstGo k n w1) Q E,λ σ' H' h=>⟨n,DR _,h⟩,?_⟩;refine⟨_,rfl,a,dx,_,rfl,hA,zM,a,wl,rl,an1,Hs1,H₀,w1,rfl,W1,?_⟩;cases hs:Dv.stepW k w1 with
   |many=>simp only[hs] at ok1;exact ok1
   |bad=>simp only[hs] at ok1;exact Zf ok1
   |row w'=>
    simp only[hs] at ok1;intro Hs' H' an' W' S';refine⟨_,rfl,_,rfl,?_⟩;refine iD 0#5 ?_
    exact⟨Hs',an',w',_,rfl,W',ok1.later S'⟩
   |full w' d fr0=>
    simp only[hs] at ok1;cases d with
    |lst es=>
     simp only at ok1;intro v Hs' H' an' W' S' rp nn;have rp':=rp;unfold Rp at rp';obtain⟨p,pvs,rfl,_,_⟩:=rp';refine⟨_,rfl,_,rfl,?_⟩;refine eO 0#5 ?_
     exact⟨_,rfl,ok1 (.ref p) Hs' H' an' W' S' rp nn⟩
    |_=>exact Zf ok1
open Dv (D R RL EE EL EI RI Sl Out SS Wy An Cs Ws WR Wk PR)
structure Mf (K:GA)(x qual:Str)(st:Stmt)(ps:List Str)(f:Addr)(fd:FuncData):Prop where
 ex:∃ (oc:Value) (od:Option Addr) (dV kV doc pm:Value) (an:Option Addr) (cdv ct:Value) (osl:Array 0#82),
  fd=GJ x qual (aL st) (aB st) (af st) dV kV doc pm an cdv ct/\K.lookup f=some ⟨oc,od,.func fd,osl⟩/\G4 K cdv qual=true
 bd:Binds K fd ps []
section
variable {P:Program}{w:World}{K:GA}{mg:Str->Option Value}{base:Heap}{CX:CXT}
def rV {x qual:Str}{st:Stmt}{ps:List Str}{f:Addr}{oc:Value}{od an:Option Addr}{osl:Array 0#82}{dV kV doc pm cdv ct:Value}(l:K.lookup f=some ⟨oc,od,.func 0#19,osl⟩)
  (c:G4 K cdv qual=true)
  (h:∀ (kV doc pm:Value) (an:Option Addr) (cdv ct:Value) (us:List Value),us.length=ps.length->bindArgs 0#19 ⟨us,[]⟩=pure 2#2):
  Mf K x qual st ps f 0#19:=⟨⟨oc,od,dV,kV,doc,pm,an,cdv,ct,osl,rfl,l,c⟩,.all (h kV doc pm an cdv ct)⟩
def Mf.okL {x qual:Str}{st:Stmt}{f:Addr}{fd:FuncData}{ps:List Str}{sp:Sp}(N:List Str)(k:Nat)(d:Mf K x qual st ps f fd)(S:FnScope N ps (af st))(len:∀ vs H Q E,sp vs H Q E->vs.length=ps.length)
  (hbody:∀ (cdv:Value) (A:Around) (outer:List GO) (s:Shared) (H:Hp) (vs:List V) (Q:VK) (E:XK) (hr:Room k 0#70),sp vs H Q E ->
   ∃ t,PSs (cF CX P w K mg base N qual (af st) f cdv A outer s H E) (aB st) t/\t { nx:=λ _ H'=>Q .non H',rt:=Q } 2#23 H):FnOk P w K mg base CX (k+1) f fd ps sp:=by
 obtain⟨oc,od,dV,kV,doc,pm,an,cdv,ct,osl,rfl,lk,hcd⟩:=d.ex;exact qC lk hcd S len λ A outer s H vs Q E hr hsp=>hbody cdv A outer s H vs Q E hr hsp
def Df.okL {x:Str}{st:Stmt}{f:Addr}{fd:FuncData}{ps:List Str}{sp:Sp}(N:List Str)(k:Nat)(d:Df K mg x st ps f fd)(S:FnScope N ps (af st))(len:∀ vs H Q E,sp vs H Q E->vs.length=ps.length)
  (hbody:∀ (cdv:Value) (A:Around) (outer:List GO) (s:Shared) (H:Hp) (vs:List V) (Q:VK) (E:XK) (hr:Room k 0#75),sp vs H Q E ->
   ∃ t,PSs (cF CX P w K mg base N x (af st) f cdv A outer s H E) (aB st) t/\t { nx:=λ _ H'=>Q .non H',rt:=Q } 2#23 H):FnOk P w K mg base CX (k+1) f fd ps sp:=by
 obtain⟨oc,od,dV,kV,doc,pm,an,cdv,ct,osl,rfl,lk,hcd⟩:=d.ex;exact qC lk hcd S len λ A outer s H vs Q E hr hsp=>hbody cdv A outer s H vs Q E hr hsp
end
def i7:∀ {ds:List D} {ns:List Int},Dv.intsOf ds=some ns->ds=ns.map .int
 |[],ns,h=>by simp[Dv.intsOf] at h;subst h;rfl
 |d::r,ns,h=>by
  cases d with
  |int i=>
   simp only[Dv.intsOf,DZ] at h;obtain⟨ms,h1,rfl⟩:=h;rw[i7 h1];rfl
  |_=>simp[Dv.intsOf] at h
def Bv {d:D}{w:Wy}(h:Dv.deW d=some w):d=w.d:=by
 unfold Dv.deW at h
 split at h
 ·split at h
  ·rename_i s ps ns hn
   cases h;rw[i7 hn];rfl
  ·cases h
 ·cases h
def sD:∀ {ds:List D} {l:List Wy},Dv.deWL ds=some l->ds=l.map Wy.d
 |[],l,h=>by simp[Dv.deWL] at h;subst h;rfl
 |d::r,l,h=>by
  unfold Dv.deWL at h
  split at h
  ·rename_i w ws h1 h2
   cases h;rw[Bv h1,sD h2];rfl
  ·cases h
def xt {d:D}{l:List Wy}(h:Dv.deL d=some l):d=Dv.wyL l:=by
 unfold Dv.deL at h
 split at h
 ·rw[sD h];rfl
 ·cases h
def qN:∀ {ds:List D} {l:List (List Wy)},Dv.deLL ds=some l->ds=l.map Dv.wyL
 |[],l,h=>by simp[Dv.deLL] at h;subst h;rfl
 |d::r,l,h=>by
  unfold Dv.deLL at h
  split at h
  ·rename_i w ws h1 h2
   cases h;rw[xt h1,qN h2];rfl
  ·cases h
def y7 {d:D}{l:List (List Wy)}(h:Dv.deWs d=some l):d=Dv.wysD l:=by
 unfold Dv.deWs at h
 split at h
 ·rw[qN h];rfl
 ·cases h
def OkP (K:GA)(CW CC:Addr)(cls:String->Value)(Hv H:Hp)(r:PR)(Q:VK)(E:XK):Prop:=match r with
 |.exc c=>∀ Hv' H',Ext Hv H Hv' H'->E (cls c) none H'
 |.bad=>False
 |.ok wys laid=>∀ a wl rl an Hs' H',WkAt K CW CC Hs' H' H a wl rl an 2#39->Bs Hv H Hs' H'->Q (.ref a) H'
def oZ (K:GA)(CW CC:Addr)(cls:String->Value)(F:List D->PR)(n:Nat):Sp:=λ vs H Q E=>∃ (ds:List D) (Hv:Hp),ds.length=n/\Same Hv H/\RpL K Hv ds vs/\OkP K CW CC cls Hv H (F ds) Q E
def u3 {K:GA}{CW CC:Addr}{cls:String->Value}{F:List D->PR}{n:Nat}(vs:List V)(H:Hp)(Q:VK)(E:XK)(h:oZ K CW CC cls F n vs H Q E):vs.length=n:=by
 obtain⟨ds,Hv,h1,_,h3,_⟩:=h;rw[h3.length];exact h1
def mM {K:GA}{Hv:Hp}{ds:List D}{vs:List V}{N:List Str}(r:RpL K Hv ds vs):EnvR K Hv 2#25 2#23:=λ i d h=>by
 rw[DD] at h;cases q:ds[i]? with
 |none=>rw[q] at h;cases h
 |some d'=>
  rw[q] at h;cases h;obtain⟨v,h1,h2⟩:=r.get q;exact⟨v,lu h1,h2⟩
def tE {K:GA}{CW CC:Addr}{Hv H Hv2 H2:Hp}{wa lb:Addr}{wys:List 2#32}{laid:List Wy}{Q:VK}{E:XK}(x2:Ext Hv H Hv2 H2)(r1:Rp K Hv2 (Dv.wysD wys) (.ref wa))(r2:Rp K Hv2 (Dv.wyL laid) (.ref lb))
  (h:∀ a wl rl an Hs' H',WkAt K CW CC Hs' H' H a wl rl an 2#39->Bs Hv H Hs' H'->Q (.ref a) H'):
  ∀ x dx,H2 x=none->H2 dx=none->dx≠x->pW K CW CC (.ref x::([.ref wa,.ref lb]++[])) (upd (upd H2 dx (.own x)) x (.ins CW dx [])) (λ v H3=>v=.non/\Q (.ref x) H3) E:=by
 intro x dx hx hdx hne;have s1:∀ {Ha:Hp},Same Ha H2->Same Ha (upd (upd H2 dx (.own x)) x (.ins CW dx [])):=λ {Ha} s b o e=>by
  rw[ag (au e (s.free hx)),ag (au e (s.free hdx))];exact s b o e
 refine⟨x,dx,wa,lb,Hv2,H,wys,laid,rfl,ai,s1 x2.vh,x2.vh.free hx,s1 x2.hh,x2.hh.free hx,r1,r2,λ Hs' H' wl rl an W S=>⟨rfl,h x wl rl an Hs' H' W ⟨x2.vv.trans S.ss,λ b o q n=>?_,λ b o u q z=>?_⟩⟩⟩
 ·cases q2:Hv2 b with
  |some u=>exact x2.new b u q2 n
  |none=>
   have h3:=S.nw b o q q2;obtain⟨_,h4⟩:=aO h3;obtain⟨_,h5⟩:=aO h4;exact x2.hh.free h5
 ·have z2:=S.fz b o u z
  by_cases e:b=x
  ·subst e;rw[ai] at z2;cases z2
  rw[ag e] at z2;by_cases e2:b=dx
  ·subst e2;rw[ai] at z2;cases z2
  rw[ag e2] at z2;exact x2.nf b o u q z2
def yj {C:Ctx}{CW CC:Addr}{E:XK}{tw tl:TE}{fw fl:EE}{N:List Str}{n:Nat}{vs:List V}{H:Hp}{Q:VK}(hW:∀ σ,C.W σ=E)(qw:Tak C tw fw)(ql:Tak C tl fl)(h:oZ C.X.K CW CC C.cls (Dv.pwR fw fl) n vs H Q E):
  l5 (rh CW (pW C.X.K CW CC) [] E (aQ tw (aQ tl bK))) { nx:=λ _ H'=>Q .non H',rt:=Q } 2#23 H:=by
 obtain⟨ds,Hv,hl,sv,rp,ok⟩:=h;unfold Dv.pwR at ok;refine qw _ H Hv 2#25 _ (mM rp) sv ?_
 rw[hW];cases hf:fw 2#25 with
 |bad=>simp only[hf] at ok;exact ok
 |exc c=>simp only[hf] at ok;exact ok
 |ok dw fr=>
  simp only[hf] at ok;intro v1 Hv1 H1 x1 rp1 nn1;refine ql _ H1 Hv1 2#25 _ (mM (rp.same x1.vv)) x1.vh ?_
  rw[hW];cases hg:fl 2#25 with
  |bad=>simp only[hg] at ok;exact ok
  |exc c=>simp only[hg] at ok;exact λ Hv' H' y=>ok Hv' H' (x1.trans y)
  |ok dl fr2=>
   simp only[hg] at ok;intro v2 Hv2 H2 x2 rp2 nn2
   split at ok
   ·rename_i wys laid h1 h2
    rw[y7 h1] at rp1;rw[xt h2] at rp2;have rp1':=rp1;have rp2':=rp2;unfold Dv.wysD Rp at rp1';obtain⟨wa,_,rfl,_,_⟩:=rp1';obtain⟨lb,_,rfl,_,_⟩:=oV rp2';exact tE (x1.trans x2) (rp1.same x2.vv) rp2 ok
   ·exact Zf ok
def o9 {C:Ctx}{CW CC:Addr}{k:Wk}{F:List D->PR}{e:Expr}{es:List Expr}{fl:EL}{m jA jP:Nat}{fA fP:Addr}{fdA fdP:FuncData}{sA sP:Stmt}{ps:List Str}{xA xP:Str}{pA pP pos posP:Pos}
  (dA:Df C.X.K C.X.mg xA sA ["walk"] fA fdA) (oA:FnOk C.X.prog C.X.w C.X.K C.X.mg C.X.base C.CX jA fA fdA ["walk"] (lz C.X.K CW CC C.cls k)) (dP:Df C.X.K C.X.mg xP sP ps fP fdP) (oP:FnOk C.X.prog C.X.w C.X.K C.X.mg C.X.base C.CX jP fP fdP ps (oZ C.X.K CW CC C.cls F ps.length))
  (hr:Room m C.X.A) (hjA:jA<=m) (hjP:jP<=m) (hgA:Gl C.X xA) (hgP:Gl C.X xP) (ha:SL C (e::es) fl) (hlen:autoParam 1#43 ZF._auto_1) (hdA:autoParam ((xA == ("__debug__":Str))=false) ZC._auto_1) (hdP:autoParam ((xP == ("__debug__":Str))=false) ZC._auto_1)
  (heA:autoParam (starEach [.Call 2#27 (e::es) [] posP] C.X.env=(false,eval (.Call 2#27 (e::es) [] posP) C.X.env)::starEach [] C.X.env) ZF._auto_1) (hplA:autoParam ((backTo pos (starEach [] C.X.env)).any (·.1)=false) ZF._auto_1)
  (heP:autoParam (starEach (e::es) C.X.env=0#36::starEach es C.X.env) ZF._auto_1) (hplP:autoParam ((backTo posP 1#46).any (·.1)=false) ZF._auto_1):
  SE C (.Call (.Name xA pA) [.Call 2#27 (e::es) [] posP] [] pos) (λ ρ=>(fl ρ).bind λ ds _=>match F ds with
   |.exc c=>.exc c
   |.bad=>.bad
   |.ok wys laid=>Dv.allGo k 2002 2#39 []):=by
 obtain⟨t,pa,qa,hl⟩:=ha;refine⟨_,eR (W:=C.W) (oA.mono hjA) hr hgA dA.m dA.kp dA.bd .nil C.pass (aq (eR (W:=C.W) (oP.mono hjP) hr hgP dP.m dP.kp dP.bd .nil C.pass pa hdP heP hplP) ay heA) hdA heA hplA,λ σ H Hv ρ Q er s w=>?_⟩;refine qa.step er 1#7 w λ vs ds fr Hv1 H1 hf x1 _ rp _ w1=>?_
 refine⟨ds,Hv1,by rw[hl ρ ds fr hf];exact hlen,x1.vh,by rw[DU];exact rp,?_⟩;cases hF:F ds with
 |exc c=>simp only[hF] at w1;exact λ Hv' H' y=>w1 Hv' H' (x1.trans y)
 |bad=>simp only[hF] at w1;exact w1
 |ok wys laid=>
  simp only[hF] at w1;intro a wl rl an Hs' H' W B;exact⟨a,wl,rl,an,Hs',Hv1,H1,_,rfl,W,B,Ok.later x1 w1⟩
open PySem PySem.W PyProof.Rows
def ev {α:Type}(c:Nat->Nat->Bool):KasT α->α
 |.ret a=>a
 |.ask i j k=>ev c (k (c i j))
def fg {α β:Type}(c:Nat->Nat->Bool)(f:α->KasT β):∀ t:KasT α,ev c (t.bind f)=ev c (f (ev c t))
 |.ret _=>rfl
 |.ask i j k=>fg c f (k (c i j))
def inn {α:Type}(n:Nat)(c:Nat->Nat->Bool):KasT α->Prop
 |.ret _=>True
 |.ask i j k=>i<n/\j<n/\inn n c (k (c i j))
def dD {α β:Type}{n:Nat}{c:Nat->Nat->Bool}{f:α->KasT β}:∀ {t:KasT α},inn n c t->inn n c (f (ev c t))->inn n c (t.bind f)
 |.ret _,_,h=>h
 |.ask i j k,⟨h1,h2,h3⟩,h=>⟨h1,h2,dD h3 h⟩
def zE {α:Type}{n:Nat}{c:Nat->Nat->Bool}{cmp:Nat->Nat->(Bool->Shared->Prop)->Shared->Prop}{s:Shared}(hc:∀ i j C,i<n->j<n->C (c i j) s->cmp i j C s):∀ {t:KasT α} {Q:α->Shared->Prop},inn n c t->Q (ev c t) s->t.kasWp cmp Q s
 |.ret _,_,_,h=>h
 |.ask i j k,Q,⟨h1,h2,h3⟩,h=>hc i j _ h1 h2 (zE hc h3 h)
section
variable {key:Nat->Int}{n:Nat}
abbrev cK (key:Nat->Int):Nat->Nat->Bool:=λ i j=>decide (key i<key j)
def KA (key:Nat->Int)(p:Array Nat)(k:Nat):Int:=key (p.getD k 0)
def Pm (n:Nat)(p:Array Nat):Prop:=p.size=n/\p.toList.Perm (List.range n)
def Pm.lt {p:Array Nat}(h:Pm n p){k:Nat}(hk:k<n):p.getD k 0<n:=by
 have hs:k<p.size:=by rw[h.1];exact hk
 have e:p.getD k 0=p[k]:=by simp[IB,hs]
 rw[e];have:p[k]∈p.toList:=by simp
 exact List.mem_range.mp (h.2.mem_iff.mp this)
def Pm.of {p q:Array Nat}(h:Pm n p)(e:q.Perm p):Pm n q:=⟨e.size_eq.trans h.1,(Array.perm_iff_toList_perm.mp e).trans h.2⟩
def nk {p q:Array Nat}{i j:Nat}(h:p[i]?=q[j]?):KA key p i=KA key q j:=by
 unfold KA;congr 1;have g:∀ (r:Array Nat) (k:Nat),r.getD k 0=(r[k]?).getD 0:=λ r k=>by
  by_cases hk:k<r.size <;>simp[IB,hk]
 rw[g,g,h]
def o5 {p:Array Nat}{i j:Nat}(hj:j<=p.size)(k:Nat):KA key (kas_rev p i j) k=if i<=k/\k<j then KA key p (i+j-1-k) else KA key p k:=by
 have e:=getElem?_mirror_all (i:=i) hj k;unfold kas_rev
 split
 ·rename_i h;rw[if_pos h] at e;exact nk e
 ·rename_i h;rw[if_neg h] at e;exact nk e
def Pm.rev {p:Array Nat}(h:Pm n p)(i j:Nat):Pm n (kas_rev p i j):=h.of (mirror_perm _ _ _ _)
def Up (key:Nat->Int)(p:Array Nat)(m:Nat):Prop:=∀ i j,i<=j->j<m->KA key p i<=KA key p j
def Dn (key:Nat->Int)(p:Array Nat)(m:Nat):Prop:=∀ i j,i<=j->j<m->KA key p j<=KA key p i
def Up.step {p:Array Nat}{m:Nat}(h:Up key p m)(h1:1<=m)(q:KA key p (m-1)<=KA key p m):Up key p (m+1):=λ i j hij hj=>by
 by_cases e:j=m
 ·subst e
  by_cases e2:i=j
  ·subst e2;exact Es _
  ·exact FW (h i (j-1) ⋯ ⋯) q
 ·exact h i j hij ⋯
def Dn.step {p:Array Nat}{m:Nat}(h:Dn key p m)(h1:1<=m)(q:KA key p m<=KA key p (m-1)):Dn key p (m+1):=λ i j hij hj=>by
 by_cases e:j=m
 ·subst e
  by_cases e2:i=j
  ·subst e2;exact Es _
  ·exact FW q (h i (j-1) ⋯ ⋯)
 ·exact h i j hij ⋯
def pQ {p:Array Nat}(hp:Pm n p):∀ (f m:Nat),1<=m->m+f<=n->Up key p m->inn n (cK key) 1#92/\m<=ev (cK key) 1#92/\ev (cK key) 1#92<=m+f/\Up key p (ev (cK key) 1#92)/\(ev (cK key) 1#92<m+f->KA key p (ev (cK key) 1#92)<KA key p (ev (cK key) 1#92-1))
 |0,m,_,_,hu=>⟨trivial,Du _,Du _,hu,λ h=>absurd h (by simp[kas_asc,ev])⟩
 |f+1,m,h1,hm,hu=>by
  have ha:=hp.lt (k:=m) ⋯;have hb:=hp.lt (k:=m-1) ⋯;unfold kas_asc;simp only[ev,inn];by_cases hc:KA key p m<KA key p (m-1)
  ·have e:cK key 2#53 1#28=true:=decide_eq_true hc
   rw[e];simp only[if_true,ev,inn];exact⟨⟨ha,hb,trivial⟩,Du _,⋯,hu,λ _=>hc⟩
  ·have e:cK key 2#53 1#28=false:=decide_eq_false hc
   rw[e];simp only[Dx,if_false];obtain⟨a1,a2,a3,a4,a5⟩:=pQ hp f (m+1) ⋯ ⋯ (hu.step h1 ⋯);exact⟨⟨ha,hb,a1⟩,⋯,⋯,a4,λ h=>a5 ⋯⟩
def jB {p:Array Nat}{i j:Nat}(hj:j<=p.size)(h:∀ k,i<=k->k<j->KA key p k=KA key p (j-1))(k:Nat):KA key (kas_rev p i j) k=KA key p k:=by
 rw[o5 hj]
 split
 ·rename_i hk;rw[h _ ⋯ ⋯,h k hk.1 hk.2]
 ·rfl
def Dn.congr {p q:Array Nat}{m:Nat}(h:Dn key p m)(e:∀ k,KA key q k=KA key p k):Dn key q m:=λ i j a b=>by rw[e,e];exact h i j a b
def i6:∀ (f:Nat) (p:Array Nat) (m q:Nat),Pm n p->1<=m->m+f<=n->q+1<=m->Dn key p m->(∀ k,m-(q+1)<=k->k<m->KA key p k=KA key p (m-1)) ->
  inn n (cK key) 1#15/\Pm n (ev (cK key) 1#15).1/\m<=(ev (cK key) 1#15).2.1/\(ev (cK key) 1#15).2.1<=m+f/\(ev (cK key) 1#15).2.2+1<=(ev (cK key) 1#15).2.1 /\
  Dn key (ev (cK key) 1#15).1 (ev (cK key) 1#15).2.1/\∀ k,(ev (cK key) 1#15).2.1-((ev (cK key) 1#15).2.2+1)<=k->k<(ev (cK key) 1#15).2.1->KA key (ev (cK key) 1#15).1 k=KA key (ev (cK key) 1#15).1 ((ev (cK key) 1#15).2.1-1)
 |0,p,m,q,hp,h1,hm,hq,hd,he=>⟨trivial,hp,Du _,Du _,hq,hd,he⟩
 |f+1,p,m,q,hp,h1,hm,hq,hd,he=>by
  have ha:=hp.lt (k:=m) ⋯;have hb:=hp.lt (k:=m-1) ⋯;unfold Hi;simp only[ev,inn];by_cases hc:KA key p m<KA key p (m-1)
  ·have e:cK key 2#53 1#28=true:=decide_eq_true hc
   rw[e];simp only[if_true];by_cases h0:q > 0
   ·rw[if_pos h0]
    have ek:∀ k,KA key (kas_rev p (m-(q+1)) m) k=KA key p k:=jB (by rw[hp.1];omega) he;obtain⟨a1,a2,a3,a4,a5⟩:=i6 f (kas_rev p (m-(q+1)) m) (m+1) 0 (hp.rev _ _) ⋯ ⋯ ⋯ ((hd.congr ek).step h1 (by rw[ek,ek];omega)) λ k k1 k2=>by
     rw[show k=m+1-1 by omega]
    exact⟨⟨ha,hb,a1⟩,a2,⋯,⋯,a5⟩
   ·rw[if_neg h0]
    obtain⟨a1,a2,a3,a4,a5⟩:=i6 f p (m+1) 0 hp ⋯ ⋯ ⋯ (hd.step h1 ⋯) λ k k1 k2=>by
     rw[show k=m+1-1 by omega]
    exact⟨⟨ha,hb,a1⟩,a2,⋯,⋯,a5⟩
  ·have e:cK key 2#53 1#28=false:=decide_eq_false hc
   rw[e];simp only[Dx,if_false,ev,inn];by_cases hc2:KA key p (m-1)<KA key p m
   ·have e2:cK key 1#28 2#53=true:=decide_eq_true hc2
    rw[e2];simp only[if_true,ev,inn];exact⟨⟨ha,hb,hb,ha,trivial⟩,hp,Du _,⋯,hq,hd,he⟩
   ·have e2:cK key 1#28 2#53=false:=decide_eq_false hc2
    rw[e2];simp only[Dx,if_false];have eq:KA key p m=KA key p (m-1):=⋯
    obtain⟨a1,a2,a3,a4,a5⟩:=i6 f p (m+1) (q+1) hp ⋯ ⋯ ⋯ (hd.step h1 ⋯) λ k k1 k2=>by
     by_cases z:k=m
     ·subst z;rfl
     ·rw[he k ⋯ ⋯];exact eq.symm
    exact⟨⟨ha,hb,hb,ha,a1⟩,a2,⋯,⋯,a5⟩
def nI {p:Array Nat}{m nr:Nat}(hp:Pm n p)(h1:1<=m)(hm:m<=nr)(hn:nr<=n)(hd:Dn key p m):inn n (cK key) 2#68/\Pm n (ev (cK key) 2#68).2/\1<=(ev (cK key) 2#68).1/\(ev (cK key) 2#68).1<=nr/\Up key (ev (cK key) 2#68).2 (ev (cK key) 2#68).1:=by
 have hr:=hp.rev 0 m;have hu:Up key (kas_rev p 0 m) m:=λ i j hij hj=>by
  rw[o5 (by rw[hp.1];omega),o5 (by rw[hp.1];omega),if_pos ⋯,if_pos ⋯];exact hd _ _ ⋯ ⋯
 obtain⟨a1,a2,a3,a4,_⟩:=pQ hr (nr-m) m h1 ⋯ hu;unfold HS;rw[fg];exact⟨dD a1 trivial,hr,by simp only[ev];omega,by simp only[ev];omega,a4⟩
def iC {p:Array Nat}{m nr:Nat}(hp:Pm n p)(h1:1<=m)(hm:m+1<=nr)(hn:nr<=n)(hd:Dn key p m)(hlt:KA key p m<KA key p (m-1)):
  inn n (cK key) 2#67/\Pm n (ev (cK key) 2#67).2/\1<=(ev (cK key) 2#67).1/\(ev (cK key) 2#67).1<=nr/\Up key (ev (cK key) 2#67).2 (ev (cK key) 2#67).1:=by
 obtain⟨a1,a2,a3,a4,a5,a6,a7⟩:=i6 (key:=key) (nr-(m+1)) p (m+1) 0 hp ⋯ ⋯ ⋯ (hd.step h1 ⋯) λ k k1 k2=>by rw[show k=m+1-1 by omega]
 have k:∀ r:Array Nat×Nat×Nat,Pm n r.1->m+1<=r.2.1->r.2.1<=m+1+(nr-(m+1))->r.2.2+1<=r.2.1->Dn key r.1 r.2.1->(∀ k,r.2.1-(r.2.2+1)<=k->k<r.2.1->KA key r.1 k=KA key r.1 (r.2.1-1)) ->
   ∀ t,t=(if r.2.2 > 0 then HS r.2.1 nr (kas_rev r.1 (r.2.1-(r.2.2+1)) r.2.1) else HS r.2.1 nr r.1)->inn n (cK key) t/\Pm n (ev (cK key) t).2/\1<=(ev (cK key) t).1/\(ev (cK key) t).1<=nr/\Up key (ev (cK key) t).2 (ev (cK key) t).1:=by
  intro r a2 a3 a4 a5 a6 a7 t ht;subst ht;by_cases h0:r.2.2 > 0
  ·rw[if_pos h0]
   have ek:∀ k,KA key (kas_rev r.1 (r.2.1-(r.2.2+1)) r.2.1) k=KA key r.1 k:=jB (by rw[a2.1];omega) a7;exact nI (a2.rev (r.2.1-(r.2.2+1)) r.2.1) ⋯ (show r.2.1<=nr by omega) hn (a6.congr ek)
  ·rw[if_neg h0]
   exact nI a2 ⋯ (show r.2.1<=nr by omega) hn a6
 obtain⟨b1,b2⟩:=k _ a2 a3 a4 a5 a6 a7 _ rfl;unfold Ht;rw[fg];exact⟨dD a1 b1,b2⟩
def vA {p:Array Nat}{nr:Nat}(hp:Pm n p)(h1:1<=nr)(hn:nr<=n):inn n (cK key) (Ir nr p)/\Pm n (ev (cK key) (Ir nr p)).2/\1<=(ev (cK key) (Ir nr p)).1/\(ev (cK key) (Ir nr p)).1<=nr/\Up key (ev (cK key) (Ir nr p)).2 (ev (cK key) (Ir nr p)).1:=by
 obtain⟨a1,a2,a3,a4,a5⟩:=pQ (key:=key) hp (nr-1) 1 (Du _) ⋯ (λ i j hij hj=>by rw[show i=j by omega];exact Es _);have k:∀ m,1<=m->m<=1+(nr-1)->Up key p m->(m<1+(nr-1)->KA key p m<KA key p (m-1))->∀ t:KasT (Nat×Array Nat),t=(if (m == nr)=true then Kv (m,p) else if m > 1 then KasT.ask (p.getD 0 0) 1#28 λ c=>if c=true then Kv (m,p) else Ht m nr (kas_rev p 0 m) else Ht m nr p) ->
   inn n (cK key) t/\Pm n (ev (cK key) t).2/\1<=(ev (cK key) t).1/\(ev (cK key) t).1<=nr/\Up key (ev (cK key) t).2 (ev (cK key) t).1:=by
  intro m m1 m2 mu ml t ht;subst ht;by_cases h0:(m == nr)=true
  ·rw[if_pos h0]
   exact⟨trivial,hp,m1,by simp at h0;simp only[ev];omega,mu⟩
  rw[if_neg h0];have hne:m≠nr:=by simpa using h0
  have hlt:=ml ⋯;by_cases h2:m > 1
  ·rw[if_pos h2]
   simp only[ev,inn];have ha:=hp.lt (k:=0) ⋯;have hb:=hp.lt (k:=m-1) ⋯;by_cases hc:KA key p 0<KA key p (m-1)
   ·have e:cK key (p.getD 0 0) 1#28=true:=decide_eq_true hc
    rw[e];simp only[if_true,ev,inn];exact⟨⟨ha,hb,trivial⟩,hp,m1,⋯,mu⟩
   ·have e:cK key (p.getD 0 0) 1#28=false:=decide_eq_false hc
    rw[e];simp only[Dx,if_false];have fl:∀ k,0<=k->k<m->KA key p k=KA key p (m-1):=λ k _ hk=>by
     have z1:=mu 0 k ⋯ hk;have z2:=mu k (m-1) ⋯ ⋯;omega
    have ek:∀ k,KA key (kas_rev p 0 m) k=KA key p k:=jB (by rw[hp.1];omega) fl;obtain⟨b1,b2⟩:=iC (key:=key) (hp.rev 0 m) m1 (show m+1<=nr by omega) hn (λ i j hij hj=>by rw[ek,ek,fl i ⋯ ⋯,fl j ⋯ hj];exact Es _) (by rw[ek,ek];exact hlt);exact⟨⟨ha,hb,b1⟩,b2⟩
  ·rw[if_neg h2]
   exact iC hp m1 (show m+1<=nr by omega) hn (λ i j hij hj=>by rw[show i=j by omega];exact Es _) hlt
 obtain⟨b1,b2⟩:=k _ a2 a3 a4 a5 _ rfl;unfold Ir;rw[fg];exact⟨dD a1 b1,b2⟩
def jg {p:Array Nat}{k:Nat}(hp:Pm n p)(hk:k<n)(hu:Up key p k):∀ (f l r:Nat),l<=r->r<=k->r-l<=f->(∀ i,i<l->KA key p i<=KA key p k)->(∀ i,r<=i->i<k->KA key p k<KA key p i) ->
  inn n (cK key) (Iu p k f l r)/\ev (cK key) (Iu p k f l r)<=k/\(∀ i,i<ev (cK key) (Iu p k f l r)->KA key p i<=KA key p k)/\∀ i,ev (cK key) (Iu p k f l r)<=i->i<k->KA key p k<KA key p i
 |0,l,r,h1,h2,h3,lo,hi=>⟨trivial,by simp only[Iu,ev];omega,lo,λ i a b=>hi i (by simp only[Iu,ev] at a;omega) b⟩
 |f+1,l,r,h1,h2,h3,lo,hi=>by
  unfold Iu;by_cases hge:l ≥ r
  ·rw[if_pos hge]
   exact⟨trivial,by simp only[ev];omega,lo,λ i a b=>hi i (by simp only[ev] at a;omega) b⟩
  ·rw[if_neg hge]
   simp only[ev,inn];have ha:=hp.lt (k:=k) hk;have hb:=hp.lt (k:=(l+r)/2) ⋯;by_cases hc:KA key p k<KA key p ((l+r)/2)
   ·have e:cK key (p.getD k 0) (p.getD ((l+r)/2) 0)=true:=decide_eq_true hc
    rw[e];simp only[if_true];obtain⟨b1,b2⟩:=jg hp hk hu f l ((l+r)/2) ⋯ ⋯ ⋯ lo λ i a b=>by
     have:=hu ((l+r)/2) i a b;omega
    exact⟨⟨ha,hb,b1⟩,b2⟩
   ·have e:cK key (p.getD k 0) (p.getD ((l+r)/2) 0)=false:=decide_eq_false hc
    rw[e];simp only[Dx,if_false];obtain⟨b1,b2⟩:=jg hp hk hu f ((l+r)/2+1) r ⋯ h2 ⋯ (λ i a=>by
     have:=hu i ((l+r)/2) ⋯ ⋯;omega) hi
    exact⟨⟨ha,hb,b1⟩,b2⟩
def km {p:Array Nat}{k l:Nat}(hk:k<p.size)(hl:l<=k)(i:Nat):KA key 1#84 i=if i=l then KA key p k else if l<i/\i<=k then KA key p (i-1) else KA key p i:=by
 have e:=getElem?_bubble hk (k-l) ⋯ i;rw[show k-(k-l)=l by omega] at e
 split
 ·rename_i h;rw[if_pos h] at e;exact nk e
 ·rename_i h
  rw[if_neg h] at e
  split
  ·rename_i h2;rw[if_pos h2] at e;exact nk e
  ·rename_i h2;rw[if_neg h2] at e;exact nk e
def wO:∀ (f:Nat) (p:Array Nat) (k:Nat),Pm n p->k+f<=n->Up key p k->inn n (cK key) (kas_bin f p k)/\Pm n (ev (cK key) (kas_bin f p k))/\Up key (ev (cK key) (kas_bin f p k)) (k+f)
 |0,p,k,hp,_,hu=>⟨trivial,hp,hu⟩
 |f+1,p,k,hp,hk,hu=>by
  obtain⟨a1,a2,a3,a4⟩:=jg (key:=key) hp (show k<n by omega) hu k 0 k (D7 _) (Du _) ⋯ (λ i h=>absurd h ⋯) (λ i h1 h2=>absurd h1 ⋯);have q:∀ l,l<=k->(∀ i,i<l->KA key p i<=KA key p k)->(∀ i,l<=i->i<k->KA key p k<KA key p i)->inn n (cK key) (kas_bin f 1#84 (k+1))/\Pm n (ev (cK key) (kas_bin f 1#84 (k+1)))/\Up key (ev (cK key) (kas_bin f 1#84 (k+1))) (k+(f+1)):=by
   intro l hl lo hi;have hs:k<p.size:=by rw[hp.1];omega
   have hu':Up key 1#84 (k+1):=λ i j hij hj=>by
    rw[km hs hl,km hs hl];by_cases i1:i=l
    ·rw[if_pos i1]
     by_cases j1:j=l
     ·rw[if_pos j1];exact Es _
     ·rw[if_neg j1,if_pos ⋯]
      have:=hi (j-1) ⋯ ⋯;omega
    ·rw[if_neg i1]
     by_cases i2:l<i/\i<=k
     ·rw[if_pos i2,if_neg (show ¬ j=l by omega),if_pos ⋯]
      exact hu _ _ ⋯ ⋯
     ·rw[if_neg i2]
      by_cases j1:j=l
      ·rw[if_pos j1];exact lo i ⋯
      ·rw[if_neg j1]
       by_cases j2:l<j/\j<=k
       ·rw[if_pos j2];exact hu _ _ ⋯ ⋯
       ·rw[if_neg j2];exact hu _ _ hij ⋯
   obtain⟨b1,b2,b3⟩:=wO f 1#84 (k+1) (hp.of (bubble_perm _ _ _)) ⋯ hu';exact⟨b1,b2,by rw[show k+(f+1)=k+1+f by omega];exact b3⟩
  obtain⟨b1,b2⟩:=q _ a2 a3 a4;unfold kas_bin;rw[fg];exact⟨dD a1 b1,b2⟩
def i5 (h1:1<=n):inn n (cK key) (HV n)/\Pm n (ev (cK key) (HV n))/\Up key (ev (cK key) (HV n)) n:=by
 have h0:Pm n (List.toArray (List.range n)):=⟨by simp,List.Perm.refl _⟩;obtain⟨a1,a2,a3,a4,a5⟩:=vA (key:=key) h0 h1 (Du n);have k:∀ r:Nat×Array Nat,Pm n r.2->1<=r.1->r.1<=n->Up key r.2 r.1->∀ t:KasT (Array Nat),t=(if r.1<n then kas_bin (n-max r.1 1) r.2 (max r.1 1) else Kv r.2)->inn n (cK key) t/\Pm n (ev (cK key) t)/\Up key (ev (cK key) t) n:=by
  intro r b1 b2 b3 b4 t ht;subst ht;by_cases h:r.1<n
  ·rw[if_pos h,show max r.1 1=r.1 by omega]
   obtain⟨c1,c2,c3⟩:=wO (key:=key) (n-r.1) r.2 r.1 b1 ⋯ b4;exact⟨c1,c2,λ i j hij hj=>c3 i j hij ⋯⟩
  ·rw[if_neg h]
   exact⟨trivial,b1,λ i j hij hj=>b4 i j hij ⋯⟩
 obtain⟨b1,b2⟩:=k _ a2 a3 a4 a5 _ rfl;unfold HV;rw[fg];exact⟨dD a1 b1,b2⟩
end
open PySem PySem.W PySem.Calls PyProof.Rows
section
variable {prog:Program}{w:World}{A:Around}{E:Value->Shared->Prop}{s:Shared}
def kM {a:Addr}{vs:List Value}{n:Nat}{κ:SortKind}{key:Nat->Int}{P:PySem.Fin->Shared->Prop}(ho:s.heap.get? a=some (seqObj "list" vs.toArray n))(h64:vs.length<64)
  (hk:2<=vs.length->∀ (h':Heap),(∀ b o,b≠a->s.heap.get? b=some o->h'.get? b=some o)->∀ (E':Value->Shared->Prop) (Q':SortKind->Shared->Prop),Q' κ { s with heap:=h' }->wpAny 0#7 A (keyKind' vs.toArray) Q' E' { s with heap:=h' })
  (hc:2<=vs.length->∀ (h':Heap),(∀ b o,b≠a->s.heap.get? b=some o->h'.get? b=some o)->∀ i j (C:Bool->Shared->Prop),i<vs.length->j<vs.length->C (decide (key i<key j)) { s with heap:=h' }->kas_ask prog w A κ vs i j C { s with heap:=h' })
  (h:∀ out:List Nat,out.Perm (List.range vs.length)->(∀ i j,i<=j->j<vs.length->key 2#55<=key 2#54)->P (.done (.ret .none)) { s with heap:=sortedHeap s.heap a vs (out.map λ i=>vs.getD i GN).toArray }):
  wpAny 0#7 A (Builtin.«list.sort» ⟨[.ref a],[]⟩) P E s:=by
 have hlt:a<s.heap.objs.size:=GE ho;have ln:vs.length<=sizeLine:=by rw[GS];omega
 obtain⟨e1,q1⟩:∃ e1,(s.heap.update a (GZ λ _=>#[])).get? a=some (seqObj "list" #[] e1):=⟨_,get?_update_seq ho (λ _=>#[])⟩;rw[list_sort_plain];refine GB (listItems_at ho rfl (GB (JL ho rfl (GB (Kg q1 rfl (GB (wpAny_newTuple (GB (JM (G9 ?_) (D7 _))) (by show vs.length<=_;exact ln))))) (by rw[Ds];exact ln) (D7 _))));have old:∀ b o,b≠a->s.heap.get? b=some o->(((s.heap.update a (GZ λ _=>#[])).push 0#88).push 0#57).get? b=some o:=λ b o hb q=>
  GC _ (GC _ ((GK _ _ (Ne.symm hb)).trans q))
 have q6:(((s.heap.update a (GZ λ _=>#[])).push 0#88).push 0#57).get? a=some (seqObj "list" #[] e1):=GC _ (GC _ q1);show wpAny 0#7 A _ P E { s with heap:=((s.heap.update a (GZ λ _=>#[])).push 0#88).push 0#57 }
 dsimp only;have sz:vs.toArray.size=vs.length:=Ds ..;by_cases h2:vs.length<2
 ·rw[if_pos (by rw[sz];exact h2),if_pos (by rw[sz];exact h2)]
  refine GB (GD ?_);rw[StateT.run_pure];refine GB (GD ?_);dsimp only;have e:(arrOf (SortSt.mk' general' (vs.toArray.zip vs.toArray) #[] 7 none)).map (·.2)=((List.range vs.length).map λ i=>vs.getD i GN).toArray:=by
   show (vs.toArray.zip vs.toArray).map (·.2)=_
   refine Array.ext 0#5 λ i h1 h3=>?_
   have hi:i<vs.length:=by simpa using h3
   simp[Dg,Dk hi]
  rw[e];have zz:((List.range vs.length).map λ i=>vs.getD i GN).toArray.size<=sizeLine:=by rw[Ds,Di,D1];exact ln
  refine GB (Kg q6 rfl (GB (JL q6 rfl ?_ (hsz2:=ET zz))));simp only[bne_self_eq_false,Dx,if_false];exact GD (h _ (List.Perm.refl _) λ i j hij hj=>by rw[show i=j by omega];exact Es _)
 ·rw[if_neg (by rw[sz];exact h2),if_neg (by rw[sz];exact h2)]
  have h2':2<=vs.length:=⋯
  refine GB (hk h2' _ old _ _ ?_);obtain⟨i1,i2,i3⟩:=i5 (key:=key) (n:=vs.length) ⋯;have run:=kat_run (prog:=prog) (w:=w) (A:=A) (E:=E) (κ:=κ) (ks:=vs) (vs:=vs) (s:={ s with heap:=((s.heap.update a (GZ λ _=>#[])).push 0#88).push 0#57 })
   (Q:=λ st' s'=>s'={ s with heap:=((s.heap.update a (GZ λ _=>#[])).push 0#88).push 0#57 }/\failedOf st'=none/\arrOf st'=(ev (cK key) 2#33).map (kas_item (vs.toArray.zip vs.toArray)))
   (G:=λ p s'=>s'={ s with heap:=((s.heap.update a (GZ λ _=>#[])).push 0#88).push 0#57 }/\p=ev (cK key) 2#33) rfl h2' h64
   (λ p st' s' _ a2 a3 ⟨a4,a5⟩=>⟨a4,a3,by rw[<- a5];exact a2⟩) (zE (c:=cK key) (λ i j C hi hj hC=>hc h2' _ old i j C hi hj hC) i1 ⟨rfl,rfl⟩)
  refine GB (GL run ?_ λ _ _ e=>e)
  rintro ⟨⟨⟩,st'⟩ s' ⟨rfl,hf,har⟩
  dsimp only;rw[kat_snds rfl har];have zz:(((ev (cK key) 2#33).toList.map λ i=>vs.getD i GN).toArray).size<=sizeLine:=by rw[Ds,Di,GX,i2.1];exact ln
  refine GB (Kg q6 rfl (GB (JL q6 rfl ?_ (hsz2:=ET zz))));rw[hf];simp only[bne_self_eq_false,Dx,if_false];refine GD (h _ i2.2 λ i j hij hj=>?_);have g:∀ k,(ev (cK key) 2#33).toList.getD k 0=(ev (cK key) 2#33).getD k 0:=λ k=>by
   by_cases hk:k<(ev (cK key) 2#33).size <;>simp[IB,Dg,hk]
  rw[g,g];exact i3 i j hij hj
def t9 {l:Addr}{vs:List Value}{κ:SortKind}{key:Nat->Int}{Q:Value->Shared->Prop}(hl:s.heap.IsList l vs.toArray)(h64:vs.length<64)
  (hk:2<=vs.length->∀ (h':Heap),0#80->∀ (E':Value->Shared->Prop) (Q':SortKind->Shared->Prop),Q' κ { s with heap:=h' }->wpAny 0#7 A.in1.in1 (keyKind' vs.toArray) Q' E' { s with heap:=h' })
  (hc:2<=vs.length->∀ (h':Heap),0#80->∀ i j (C:Bool->Shared->Prop),i<vs.length->j<vs.length->C (decide (key i<key j)) { s with heap:=h' }->kas_ask prog w A.in1.in1 κ vs i j C { s with heap:=h' })
  (h:∀ out:List Nat,out.Perm (List.range vs.length)->(∀ i j,i<=j->j<vs.length->key 2#55<=key 2#54)->Q (.ref 0#15) { s with heap:=sortedAll s.heap vs (out.map λ i=>vs.getD i GN).toArray }):
  wpAny 0#7 A (call (.builtin "sorted") [.ref l]) Q E s:=by
 have ln:vs.length<=sizeLine:=by rw[GS];omega
 refine IV kind_sorted plain_sorted entry_sorted (args_sorted1 _) ?_
 unfold Builtin.«sorted»;refine GB (m:=checkCount "sorted" 1 1 _) (GD (GB (collect_list hl (GB (JM ?_ (by show vs.length<=_;exact ln))) (by exact ln))));have z1:((s.heap.push 0#57).update s.heap.objs.size 1#88).objs.size=s.heap.objs.size+1:=by rw[Heap.size_update,size_push']
 have z2:(((s.heap.push 0#57).update s.heap.objs.size 1#88).push 0#33).get? 0#15=some 0#33:=by rw[<- z1];exact GF _ rfl
 have old:∀ b o,s.heap.get? b=some o->b≠s.heap.objs.size+1/\(((s.heap.push 0#57).update s.heap.objs.size 1#88).push 0#33).get? b=some o:=λ b o q=>by
  have hb:b<s.heap.objs.size:=GE q;exact⟨Dy (D8 hb),GC _ ((GK _ _ (E7 hb)).trans (GC _ q))⟩
 show wpAny _ _ _ _ _ { s with heap:=((s.heap.push 0#57).update s.heap.objs.size 1#88).push 0#33 }
 rw[z1];refine GB (G9 (HF slot_list_sort ⟨_,z2,rfl⟩ entry_list_sort (kM (s:={ s with heap:=((s.heap.push 0#57).update s.heap.objs.size 1#88).push 0#33 }) z2 h64 (λ h2 h' k E' Q' q=>hk h2 h' (λ b o e=>k b o (old b o e).1 (old b o e).2) E' Q' q)
  (λ h2 h' k i j C hi hj q=>hc h2 h' (λ b o e=>k b o (old b o e).1 (old b o e).2) i j C hi hj q) λ out a1 a2=>⟨_,rfl,GD ⟨_,rfl,h out a1 a2⟩⟩) (args_list_sort _)))
end
end Sd
namespace Dv
def dO:∀ a:List Int,lexLt a a=false
 |[]=>rfl
 |x::a=>by simp[lexLt,dO a]
def mi:∀ {a b:List Int},lexLt a b=false->lexLt b a=false->a=b
 |[],[],_,_=>rfl
 |[],_::_,h,_=>by simp[lexLt] at h
 |_::_,[],_,h=>by simp[lexLt] at h
 |x::a,y::b,h,g=>by
  simp only[lexLt] at h g;by_cases e:x=y
  ·subst e
   simp only[if_true] at h g;rw[mi h g]
  ·rw[if_neg e] at h
   rw[if_neg (Ne.symm e)] at g;simp at h g;omega
def lex_trans:∀ {a b c:List Int},lexLt a b=true->lexLt b c=true->lexLt a c=true
 |[],[],_,h,_=>by simp[lexLt] at h
 |[],_::_,[],_,g=>by simp[lexLt] at g
 |[],_::_,_::_,_,_=>rfl
 |_::_,[],_,h,_=>by simp[lexLt] at h
 |_::_,_::_,[],_,g=>by simp[lexLt] at g
 |x::a,y::b,z::c,h,g=>by
  simp only[lexLt] at h g ⊢;by_cases e1:x=y
  ·subst e1
   simp only[if_true] at h;by_cases e2:x=z
   ·subst e2
    simp only[if_true] at g ⊢;exact lex_trans h g
   ·rw[if_neg e2] at g ⊢;exact g
  ·rw[if_neg e1] at h
   simp at h;by_cases e2:y=z
   ·subst e2
    rw[if_neg e1];simpa using h
   ·rw[if_neg e2] at g
    simp at g;rw[if_neg ⋯];simp;omega
def lexLe (a b:List Int):Prop:=lexLt b a=false
def le_trans {a b c:List Int}(h:lexLe a b)(g:lexLe b c):lexLe a c:=by
 unfold lexLe at *;cases q:lexLt c a with
 |false=>rfl
 |true=>
  by_cases e:lexLt a b=true
  ·rw[lex_trans q e] at g;cases g
  ·have:a=b:=mi (by simpa using e) h
   subst this;rw[q] at g;cases g
def B7 {a b:List Int}(h:lexLt a b=true):lexLe a b:=by
 unfold lexLe;cases q:lexLt b a with
 |false=>rfl
 |true=>have:=lex_trans h q;rw[dO] at this;cases this
def p9 (x:List Int):List 0#48->List 0#48
 |[]=>[x]
 |y::r=>if lexLt y x then y::p9 x r else x::y::r
def lsort:List 0#48->List 0#48
 |[]=>[]
 |x::r=>p9 x (lsort r)
def gT (x:List Int):∀ l,(p9 x l).Perm (x::l)
 |[]=>.refl _
 |y::r=>by
  unfold p9
  split
  ·exact((gT x r).cons y).trans (.swap x y r)
  ·exact .refl _
def lsort_perm:∀ l,(lsort l).Perm l
 |[]=>.refl _
 |x::r=>(gT x _).trans ((lsort_perm r).cons x)
def iH (x:List Int):∀ l,l.Pairwise lexLe->(p9 x l).Pairwise lexLe
 |[],_=>by simp[p9]
 |y::r,h=>by
  unfold p9;have h':=List.pairwise_cons.mp h
  split
  ·rename_i q
   refine List.pairwise_cons.mpr ⟨λ z hz=>?_,iH x r h'.2⟩
   rcases List.mem_cons.mp ((gT x r).mem_iff.mp hz) with rfl|hz
   ·exact B7 q
   ·exact h'.1 z hz
  ·rename_i q
   have q':lexLe x y:=by unfold lexLe;simpa using q
   refine List.pairwise_cons.mpr ⟨λ z hz=>?_,h⟩
   rcases List.mem_cons.mp hz with rfl|hz
   ·exact q'
   ·exact le_trans q' (h'.1 z hz)
def lsort_sorted:∀ l,(lsort l).Pairwise lexLe
 |[]=>.nil
 |x::r=>iH x _ (lsort_sorted r)
def sorted_one:∀ {a b:List (List Int)},a.Perm b->a.Pairwise lexLe->b.Pairwise lexLe->a=b
 |[],b,p,_,_=>by simpa using p.symm.eq_nil
 |x::a,[],p,_,_=>absurd p.eq_nil 0#5
 |x::a,y::b,p,ha,hb=>by
  have h1:=List.pairwise_cons.mp ha;have h2:=List.pairwise_cons.mp hb;have e:x=y:=by
   have hx:x∈y::b:=p.mem_iff.mp Dh;have hy:y∈x::a:=p.mem_iff.mpr Dh
   rcases List.mem_cons.mp hx with e|hx
   ·exact e
   rcases List.mem_cons.mp hy with e|hy
   ·exact e.symm
   exact mi (h2.1 x hx) (h1.1 y hy)
  subst e;rw[sorted_one ((Gi x).mp p) h1.2 h2.2]
def rank (l:List 0#48)(x:List Int):Nat:=l.countP λ z=>lexLt z x
def iI {α:Type}{p q:α->Bool}:∀ {l:List α},(∀ z∈l,p z=true->q z=true)->(∃ z∈l,q z=true/\p z=false)->l.countP p<l.countP q
 |[],_,⟨z,hz,_⟩=>by cases hz
 |a::l,h,⟨z,hz,h1,h2⟩=>by
  have mono:l.countP p<=l.countP q:=FF λ z hz=>h z (De _ hz)
  rw[F8,F8]
  rcases List.mem_cons.mp hz with rfl|hz
  ·rw[h1,h2];simp;omega
  ·have ih:=iI (λ z hz=>h z (De _ hz)) ⟨z,hz,h1,h2⟩
   have:=h a Dh;cases q1:p a with
   |true=>rw[this q1];simp;omega
   |false=>cases q2:q a <;>simp <;>omega
def rank_lt {l:List (List Int)}{x y:List Int}(hx:x∈l):decide ((rank l x:Int)<(rank l y:Int))=lexLt x y:=by
 cases q:lexLt x y with
 |true=>
  refine decide_eq_true ?_
  have:=iI (p:=λ z=>lexLt z x) (q:=λ z=>lexLt z y) (l:=l) (λ z _ h=>lex_trans h q) ⟨x,hx,q,dO x⟩;unfold rank;omega
 |false=>
  refine decide_eq_false ?_
  have:l.countP (λ z=>lexLt z y)<=l.countP (λ z=>lexLt z x):=FF λ z _ h=>by
   have h:lexLt z y=true:=h;cases e:lexLt z x with
   |true=>rfl
   |false=>
    have:lexLe x z:=e;have h2:lexLe y x:=q;have h3:lexLe y z:=le_trans h2 this;unfold lexLe at h3;rw[h] at h3;cases h3
  unfold rank;omega
def sortedLD:D->Bool->R
 |.lst ds,f=>match listsOf ds with
  |some nss=>if nss.length<64 then .ok (.lst ((lsort nss).map λ ns=>.lst 0#67)) f else .bad
  |none=>.bad
 |_,_=>.bad
def tupsOf:List D->Option (List 0#48)
 |[]=>some []
 |.tup ds::r=>match intsOf ds,tupsOf r with
  |some (n::ns),some nss=>some ((n::ns)::nss)
  |_,_=>none
 |_::_=>none
end Dv
namespace Sd
open PySem PySem.Spec PySem.W PySem.Calls PyProof.Rows L2
open Dv (D R RL EE EL EI RI Sl Out SS)
section
variable {prog:Program}{w:World}{A:Around}{E:Value->Shared->Prop}{s:Shared}
def p8 {l b:Addr}{vs ws:List Value}{n n2:Nat}{ns ms:List Int}{Q:Bool->Shared->Prop}(hl:s.heap.get? l=some { cls:=.type "list",data:=.seq vs.toArray n })(hb:s.heap.get? b=some { cls:=.type "list",data:=.seq ws.toArray n2 })
  (hi:IntsAre vs ns) (hj:IntsAre ws ms) (hu:A.units<cLine) (h:Q 2#10 s):wpAny 0#7 A (oneLt' true (.ref l) (.ref b)) Q E s:=by
 rw[oneLt'_eq];simp only[if_true];refine GB (wpAny_cRoomFor hu (GB (wpAny_callSpecialIfBound?_slot ⟨_,hl,rfl⟩ Iz (Ih Iz ⟨_,hl,rfl⟩ Jw (Jp _ _) (rQ l b vs ws n n2 none none #[] #[] ns ms hi hj) ⟨hl,hb,?_⟩))));exact Hy h
def nM {b fin:Bool}{Q:Bool->Shared->Prop}:∀ (i:Nat) {vs ws:List Value} {ns ms:List Int},IntsAre vs ns->IntsAre ws ms->fin=decide (ns.length<ms.length)->Q 2#10 s->KatLex prog w A b fin Q (vs.zip ws) i s
 |i,_,_,_,_,.nil,.nil,hf,h=>by subst hf;exact h
 |i,_,_,_,_,.nil,.cons m t r,hf,h=>by
  have e:fin=true:=by rw[hf];simp
  subst e;exact kat_nil h
 |i,_,_,_,_,.cons n t r,.nil,hf,h=>by
  have e:fin=false:=by rw[hf];simp
  subst e;exact kat_nil h
 |i,_,_,_,_,.cons n t r,.cons m u q,hf,h=>by
  refine kat_cons (wpAny_eqBool_int ?_);by_cases e:n=m
  ·subst e
   rw[beq_self_eq_true];refine kat_yes (nM (i+1) r q (by rw[hf];simp) ?_);simpa[Dv.lexLt] using h
  ·rw[beq_false_of_ne e]
   have h':Q (decide (n<m)) s:=by simpa[Dv.lexLt,e] using h
   refine kat_no ?_
   cases (b&&i == 0) with
   |true=>exact oneLt_int h'
   |false=>exact kat_one _ _ (lt_int h')
end
def ItL (K:Frag)(H:Hp)(v:V)(ns:List Int):Prop:=∃ b,v=.ref b/\SqX K H b 1#20
def ItT (H:Hp)(v:V)(ns:List Int):Prop:=∃ b,v=.ref b/\Rd H b (.tup 1#20)/\ns≠[]
def jT {xs:List V}{us:List Value}(r:Vals xs us){i:Nat}(hi:i<xs.length):∃ u,us[i]?=some u/\RelV xs[i] u:=r.get (Dk hi)
def gX {xs:List V}{us:List Value}(r:Vals xs us):∀ out:List Nat,(∀ i∈out,i<xs.length)->Vals (out.map λ i=>xs.getD i .non) (out.map λ i=>us.getD i GN)
 |[],_=>.nil
 |i::o,h=>by
  have hi:=h i Dh;obtain⟨u,h1,h2⟩:=jT r hi;refine .cons ?_ (gX r o λ j hj=>h j (De _ hj))
  show L2.RelV (xs.getD i V.non) (us.getD i GN)
  rw[Dg,Dk hi,Dg,h1];exact h2
def pL {X:Cx}{pins:List (Addr×Obj)}{σ:L2.St}{H:Hp}{s:Shared}{vs:List V}{its:List Value}{out:List Nat}{Q:VK}(I:L2.Inv X pins σ H s)(rv:Vals vs its)(hp:out.Perm (List.range its.length))(h64:vs.length<64)
  (q:∀ l,H l=none->Q (.ref l) (upd H l (.lst (out.map λ i=>vs.getD i .non)))):EP X pins σ Q (.ref 0#15) { s with heap:=sortedAll s.heap its (out.map λ i=>its.getD i GN).toArray }:=by
 obtain⟨ep,hat⟩:=sortedAll_at s.heap its (out.map λ i=>its.getD i GN).toArray;have hl:=rv.length;have hf:H 0#15=none:=I.hok.fresh (Ez _);refine⟨.ref 0#15,_,I.laid (t':=s.toks) (o:=.lst (out.map λ i=>vs.getD i .non)) (λ b u q=>sortedAll_old q) (Ez _) ?_,rfl,q _ hf⟩;refine⟨?_,out.map λ i=>its.getD i GN,ep,gX rv out λ i hi=>?_,by simpa[seqObj] using hat⟩
 ·have:=hp.length_eq
  rw[D1] at this;rw[Di,GS];omega
 ·have:=List.mem_range.mp (hp.mem_iff.mp hi)
  omega
def mC {α β:Type}{F:α->β->Prop}{l:List α}{r:List β}(h:Paired F l r){i:Nat}(hi:i<l.length)(d:β):F l[i] (r.getD i d):=by
 obtain⟨y,h1,h2⟩:=Paired.gets h (Dk hi);rw[Dg,h1];exact h2
def lV {X:Cx}(hu:X.A.units+64<cLine):cP X (.builtin "sorted") (λ xs H Q=>∃ p vs nss,xs=[.ref p]/\SqX X.K H p vs/\vs.length<64/\Paired (ItL X.K H) vs nss /\
  ∀ out:List Nat,out.Perm (List.range vs.length)->(∀ i j,i<=j->j<vs.length->Dv.lexLe (nss.getD 2#55 []) (nss.getD 2#54 []))->∀ l,H l=none->Q (.ref l) (upd H l (.lst (out.map λ i=>vs.getD i .non)))):=by
 intro pins s σ H xs us Q I r h;obtain⟨p,vs,nss,rfl,hq,h64,hit,q⟩:=h;obtain⟨u,rfl,rx⟩:=vals1 r;cases rx;obtain⟨its,n,rv,e,z⟩:=Inv.listX I hq;have hl:=rv.length;have hn:=hit.length;have item:∀ i,i<its.length->∃ b ws m,its.getD i GN=.ref b/\s.heap.get? b=some { cls:=.type "list",data:=.seq ws.toArray m }/\IntsAre ws 1#64:=λ i hi=>by
  obtain⟨u,h1,h2⟩:=jT rv (i:=i) ⋯;obtain⟨b,hb,hs⟩:=mC hit (i:=i) ⋯ [];rw[hb] at h2;obtain⟨ws,m,rw',ew,_⟩:=Inv.listX I hs;refine⟨b,ws,m,?_,ew,intsAre_of rw'⟩;rw[Dg,h1];exact h2
 refine t9 (κ:=oneType') (key:=λ i=>(Dv.rank nss 1#64:Int)) ⟨_,e,rfl,n,rfl⟩ ⋯ (λ h2 h' k E' Q' hQ=>?_) (λ h2 h' k i j C hi hj hC=>?_) λ out a1 a2=>?_
 ·refine kas_kind (T:=.type "list") h2 (λ v hv=>?_) 0#2 0#2 hQ
  obtain⟨i,hi,rfl⟩:=Ei hv;obtain⟨b,ws,m,e1,e2,_⟩:=item i hi;rw[Dg,Dk hi] at e1;have e1:its[i]=.ref b:=e1;rw[e1];exact(Looks.ld (k _ _ e2)).andThen .now
 ·obtain⟨b,ws,m,e1,e2,e3⟩:=item i hi
  obtain⟨b',ws',m',f1,f2,f3⟩:=item j hj;unfold kas_ask;rw[e1,f1,keyLt'_oneType];have hm:nss.getD i []∈nss:=by
   have hi':i<nss.length:=⋯
   rw[Dg,Dk hi'];exact D6 hi'
  rw[Dv.rank_lt hm] at hC;exact p8 (k _ _ e2) (k _ _ f2) e3 f3 (by show X.A.in1.in1.units<cLine;exact Nat.lt_of_le_of_lt (show X.A.units+1+1<=X.A.units+64 by omega) hu) hC
 ·refine pL I rv a1 h64 λ l hl'=>q out (by rw[hl];exact a1) (λ i j hij hj=>?_) l hl'
  have:=a2 i j hij ⋯;have ho:out.length=its.length:=by rw[a1.length_eq,D1]
  have mem:∀ k,k<its.length->nss.getD (out.getD k 0) []∈nss:=λ k hk=>by
   have h1:out.getD k 0∈out:=by
    rw[Dg,Dk ⋯];exact D6 _
   have h2:=List.mem_range.mp (a1.mem_iff.mp h1);have h3:out.getD k 0<nss.length:=⋯
   rw[Dg,Dk h3];exact D6 h3
  unfold Dv.lexLe;rw[<- Dv.rank_lt (mem j ⋯)];exact decide_eq_false ⋯
def nV:∀ {ds:List D} {nss:List (List Int)},Dv.listsOf ds=some nss->ds=nss.map λ ns=>.lst 0#67
 |[],nss,h=>by simp[Dv.listsOf] at h;subst h;rfl
 |d::r,nss,h=>by
  cases d with
  |lst es=>
   simp only[Dv.listsOf] at h
   split at h
   ·rename_i ns ms h1 h2
    cases h;rw[i7 h1,nV h2];rfl
   ·cases h
  |_=>simp[Dv.listsOf] at h
def qm:∀ {ds:List D} {nss:List (List Int)},Dv.tupsOf ds=some nss->(ds=nss.map λ ns=>.tup 0#67)/\∀ ns∈nss,ns≠[]
 |[],nss,h=>by simp[Dv.tupsOf] at h;subst h;exact⟨rfl,λ ns h=>by cases h⟩
 |d::r,nss,h=>by
  cases d with
  |tup es=>
   simp only[Dv.tupsOf] at h
   split at h
   ·rename_i n ns ms h1 h2
    cases h;obtain⟨g1,g2⟩:=qm h2;refine⟨by rw[i7 h1,g1];rfl,λ x hx=>?_⟩
    rcases List.mem_cons.mp hx with rfl|hx
    ·simp
    ·exact g2 x hx
   ·cases h
  |_=>simp[Dv.tupsOf] at h
def RpL.pick {K:Frag}{H:Hp}{ds:List D}{vs:List V}(r:RpL K H ds vs):∀ out:List Nat,(∀ i∈out,i<ds.length)->RpL K H (out.map λ i=>ds.getD i .non) (out.map λ i=>vs.getD i .non)
 |[],_=>.nil
 |i::o,h=>by
  have hi:=h i Dh;obtain⟨v,h1,h2⟩:=r.get (Dk hi);refine .cons ?_ (RpL.pick r o λ j hj=>h j (De _ hj))
  show Rp K H (ds.getD i .non) (vs.getD i .non)
  rw[Dg,Dk hi,Dg,h1];exact h2
def picked {nss:List (List Int)}{out:List Nat}(hp:out.Perm (List.range nss.length))(hs:∀ i j,i<=j->j<nss.length->Dv.lexLe (nss.getD 2#55 []) (nss.getD 2#54 [])):(out.map λ i=>nss.getD i [])=Dv.lsort nss:=by
 have e:(List.range nss.length).map (λ i=>nss.getD i [])=nss:=by
  refine EZ 0#5 λ i h1 h2=>?_
  simp[Dg,Dk h2]
 refine Dv.sorted_one (((hp.map λ i=>nss.getD i []).trans (by rw[e])).trans (Dv.lsort_perm nss).symm) ?_ (Dv.lsort_sorted nss)
 have ho:out.length=nss.length:=by rw[hp.length_eq,D1]
 rw[Fg];intro i j hi hj hij;rw[Di] at hi hj;have:=hs i j (EB hij) ⋯;rw[Ec,Ec];simpa[Dg,Dk hi,Dk hj] using this
def sW {nss:List (List Int)}{out:List Nat}{f:List Int->D}(hp:out.Perm (List.range nss.length)):(out.map λ i=>(nss.map f).getD i .non)=(out.map λ i=>nss.getD i []).map f:=by
 rw[DV];refine D2 λ i hi=>?_
 have h:i<nss.length:=List.mem_range.mp (hp.mem_iff.mp hi);simp[Dg,Dk h]
def ie:∀ ns:List Int,Dv.intsOf (ns.map .int)=some ns
 |[]=>rfl
 |n::r=>by simp[Dv.intsOf,ie r]
def qR {K:Frag}{H:Hp}:∀ {nss:List (List Int)} {vs:List V},RpL K H (nss.map λ ns=>.lst 0#67) vs->Paired (ItL K H) vs nss
 |[],vs,h=>by rw[Dj] at h;unfold RpL at h;subst h;exact .nil
 |ns::r,vs,h=>by
  rw[C9] at h;unfold RpL at h;obtain⟨v,ws,rfl,g1,g2⟩:=h;unfold Rp at g1;obtain⟨b,bs,rfl,g3,g4⟩:=g1;have eb:=RpL.ints (ie ns) g4;subst eb;exact .cons ⟨b,rfl,g3⟩ (qR g2)
def qq {K:Frag}{H:Hp}:∀ {nss:List (List Int)} {vs:List V},(∀ ns∈nss,ns≠[])->RpL K H (nss.map λ ns=>.tup 0#67) vs->Paired (ItT H) vs nss
 |[],vs,_,h=>by rw[Dj] at h;unfold RpL at h;subst h;exact .nil
 |ns::r,vs,hn,h=>by
  rw[C9] at h;unfold RpL at h;obtain⟨v,ws,rfl,g1,g2⟩:=h;unfold Rp at g1;obtain⟨b,bs,rfl,g3,g4⟩:=g1;have eb:=RpL.ints (ie ns) g4;subst eb;exact .cons ⟨b,rfl,g3,hn _ Dh⟩ (qq (λ x hx=>hn x 2#44) g2)
def ItL.same {K:Frag}{H H':Hp}(e:Same H H'){v:V}{ns:List Int}(h:ItL K H v ns):ItL K H' v ns:=let ⟨b,h1,h2⟩:=h;⟨b,h1,h2.same e⟩
def ItT.same {H H':Hp}(e:Same H H'){v:V}{ns:List Int}(h:ItT H v ns):ItT H' v ns:=let ⟨b,h1,h2,h3⟩:=h;⟨b,h1,Rd.same e h2,h3⟩
section
variable {C:Ctx}{a:Expr}{f:EE}{pos:Pos}
def lA {K:Frag}{Hv H Hv1 H1:Hp}{ds:List D}{x:V}{fr:Bool}(e:Ext Hv H Hv1 H1)(rx:Rp K Hv1 0#95 x)(n:fr=true->Rp [] 2#49 0#95 x):∃ l vs,x=.ref l/\SqX K H1 l vs/\RpL K Hv1 ds vs/\(fr=true->RpL [] 2#49 ds vs):=by
 cases fr with
 |true=>
  have rn:=n rfl;unfold Rp at rn;obtain⟨l,vs,rfl,h1,h2⟩:=rn;refine⟨l,vs,rfl,?_,(RpL.frag h2).same e.news,λ _=>h2⟩
  rcases h1 with h1|⟨its,n,e,_⟩
  ·exact .inl 1#47
  ·simp at e
 |false=>
  unfold Rp at rx;obtain⟨l,vs,rfl,h1,h2⟩:=rx;exact⟨l,vs,rfl,h1.same e.vh,h2,λ z=>by cases z⟩
def ou:C1S C (.builtin "sorted") Dv.sortedLD:=by
 refine⟨_,lV C.un,λ x d fr H Hv H1 Hv1 W Q e rx n q=>?_⟩;cases d with
 |lst ds=>
  simp only[Dv.sortedLD] at q;cases hi:Dv.listsOf ds with
  |none=>rw[hi] at q;exact Zf q
  |some nss=>
   rw[hi] at q;by_cases h64:nss.length<64
   ·simp only[h64,if_true] at q
    have ed:=nV hi;subst ed;obtain⟨l,vs,rfl,h1,h2,h3⟩:=lA e rx n;have hl:=h2.length;rw[Di] at hl;refine⟨l,vs,nss,rfl,h1,⋯,Paired.mapM (qR h2) λ _ _ _ z=>z.same e.vh,λ out hp hs p hpn=>?_⟩;rw[hl] at hp hs;have hin:∀ i∈out,i<(nss.map λ ns=>D.lst 0#67).length:=λ i hi=>by rw[Di];exact List.mem_range.mp (hp.mem_iff.mp hi)
    have fin:∀ {K:Frag} {H:Hp},RpL K H (nss.map λ ns=>D.lst 0#67) vs->RpL K H ((Dv.lsort nss).map λ ns=>D.lst 0#67) (out.map λ i=>vs.getD i .non):=λ {K H} r=>by
     have r2:=RpL.pick r out hin;rw[sW hp,picked hp hs] at r2;exact r2
    exact Ok.newL q e (fin h2) (λ z=>fin (h3 z)) p hpn
   ·simp only[h64,if_false] at q
    exact Zf q
 |_=>exact Zf q
def pB {p:Pos}(hm:C.X.mg "sorted"=none)(hg:Gl C.X "sorted")(ha:SE C a f)(he:autoParam 0#9 ZF._auto_1):SE C (.Call (.Name "sorted" p) [a] [] pos) (Dv.eB1 Dv.sortedLD f):=kB ou hg hm Ie ha 0#2 0#2 he
end
open PySem PySem.Spec PyProof.Rows L2
open Dv (D R RL EE EL EI RI Sl Out SS Wy An Cs Ws WR Wk PR)
section
variable {C:Ctx}{a b c e k:Expr}{f g h:EE}{pos:Pos}
def Bc:OpR C.X (compareOp .In) (λ x y H Q=>∃ a o,y=.ref a/\oQ H a x o/\Q (.bl o.isSome) H):=by
 intro pins s σ H x y v u Q I rx ry h;obtain⟨a,o,rfl,g,q⟩:=h;obtain rfl:u=GH a:=ry;exact C3 (nY C) I g rx λ s3 I3=>⟨.bl o.isSome,H,I3,rfl,q⟩
def AZ:OpS C (compareOp .In) Dv.dinD:=by
 refine⟨_,Bc,λ x y d d' H Hv H1 Hv1 W Q e rx ry q=>?_⟩;cases d with
 |int j=>
  cases d' with
  |dct ks ds=>
   unfold Rp at rx;have ry':=ry;unfold Rp at ry';obtain⟨a,vs,rfl,hl,h1,h2⟩:=ry';cases hk:Dv.look ks ds j with
   |none=>
    have q:Ok C.X.K Hv H W C.cls (.ok 1#4 true) Q:=by have:=q;simp only[Dv.dinD,hk] at this;exact this
    refine⟨a,none,rfl,.inl ⟨_,Sum.inl j,Rd.same e.vh h1,rx,(gW hl h2 hk).symm⟩,?_⟩;exact q.at (v:=.bl (none:Option V).isSome) e cE rfl
   |some d0=>
    have q:Ok C.X.K Hv H W C.cls (.ok 0#96 true) Q:=by have:=q;simp only[Dv.dinD,hk] at this;exact this
    obtain⟨v0,e1,e2⟩:=bD h2 hk;refine⟨a,some v0,rfl,.inl ⟨_,Sum.inl j,Rd.same e.vh h1,rx,e1.symm⟩,?_⟩;exact q.at (v:=.bl (some v0).isSome) e cE rfl
  |_=>exact Zf q
 |_=>exact Zf q
def zX (ha:SE C a f)(hb:SE C b g)(hm:autoParam (behindInMarks .In b=false) ZL._auto_1):SC C (.Compare a [.In] [b] pos) (Dv.eB2 Dv.dinD f g):=dN AZ ha hb hm
def g8 {R:Prop}(h:SE C e f)(k:∀ t,PE C.X e t->Tak C t f->R):R:=let ⟨t,p,q⟩:=h;k t p q
def zr {CW CC:Addr}{k:Wk}{F:List D->PR}{e:Expr}{es:List Expr}{fl:EL}{m jA jP:Nat}{fA fP:Addr}{fdA fdP:FuncData}{sA sP:Stmt}{ps:List Str}{xA xP:Str}{pA pP pos posP:Pos}
  (dA:Df C.X.K C.X.mg xA sA ["walk"] fA fdA) (oA:FnOk C.X.prog C.X.w C.X.K C.X.mg C.X.base C.CX jA fA fdA ["walk"] (lz C.X.K CW CC C.cls k)) (dP:Df C.X.K C.X.mg xP sP ps fP fdP) (oP:FnOk C.X.prog C.X.w C.X.K C.X.mg C.X.base C.CX jP fP fdP ps (oZ C.X.K CW CC C.cls F ps.length))
  (hr:Room m C.X.A) (hjA:jA<=m) (hjP:jP<=m) (hgA:Gl C.X xA) (hgP:Gl C.X xP) (ha:SL C (e::es) fl) (hlen:autoParam 1#43 ZF._auto_1) (hdA:autoParam ((xA == ("__debug__":Str))=false) ZC._auto_1) (hdP:autoParam ((xP == ("__debug__":Str))=false) ZC._auto_1)
  (heA:autoParam (starEach [.Call 2#27 (e::es) [] posP] C.X.env=(false,eval (.Call 2#27 (e::es) [] posP) C.X.env)::starEach [] C.X.env) ZF._auto_1) (hplA:autoParam ((backTo pos (starEach [] C.X.env)).any (·.1)=false) ZF._auto_1)
  (heP:autoParam (starEach (e::es) C.X.env=0#36::starEach es C.X.env) ZF._auto_1) (hplP:autoParam ((backTo posP 1#46).any (·.1)=false) ZF._auto_1):
  SE C (.Call (.Name xA pA) [.Call 2#27 (e::es) [] posP] [] pos) (Dv.eAllF k F fl):=
 o9 dA oA dP oP hr hjA hjP hgA hgP ha hlen hdA hdP heA hplA heP hplP
end
def kj {P:Program}{w:World}{K:GA}{mg:Str->Option Value}{base:Heap}{N:List Str}{qual:Str}{scope:Scope}{f:Addr}{cd:Value}{A:Around}{outer:List GO}{s:Shared}{H:Hp}{E:XK}:
  gN 0#24 0#29 E:=λ pins σ H1 s1 e s' I h=>(cxe_ok (P:=P) (w:=w)).leave K mg base N qual scope f cd A outer s H E pins σ H1 s1 e s' I h
end Sd
namespace Dv
def barC:List Nat:=[98,97,114,114,101,100]
def staC:List Nat:=[115,116,97,114,116,115]
def rowsD (w:Ws):D:=.lst (w.rows.map λ p=>.tup [.int p.1,.lst (((w.sto[p.2]?).getD []).map An.d)])
def sSought (k:Wk)(F:List D->PR)(a:EL)(i j:Nat):SS:=λ st=>if decide (i<st.length)&&decide (j<st.length) then match a (all st) with
 |.bad=>.bad
 |.exc c=>.exc c st
 |.ok ds _=>match F ds with
  |.bad=>.bad
  |.exc c=>.exc c st
  |.ok wys laid=>match firstGo k 2002 (w0 wys laid) with
   |.bad=>.bad
   |.many=>.exc "TooMany" 1#80
   |.full _ d _=>match d with
    |.lst es=>.ret (.tup [.str staC,.lst es]) false
    |_=>.bad
   |.row w=>.ret (.tup [.str barC,rowsD w]) false
 else .bad
end Dv
namespace Sd
open PySem PySem.Spec PyProof.Rows L2
open Dv (D R RL EE EL EI RI Sl Out SS Wy An Cs Ws WR Wk PR)
def AI:Str:="barred"
def Ak:Str:="starts"
def lJ {x:Str}{l:List Nat}(h:x.cps.toList=Dv.clipS l):x=⟨(Dv.clipS l).toArray⟩:=by
 cases x;simp only at h;rw[<- h]
def Bb:yX=⟨(Dv.clipS Dv.twiC).toArray⟩:=lJ (by decide +kernel)
def AJ:yo=⟨(Dv.clipS Dv.rowC).toArray⟩:=lJ (by decide +kernel)
def Ae:AI=⟨(Dv.clipS Dv.barC).toArray⟩:=lJ (by decide +kernel)
def Bd:Ak=⟨(Dv.clipS Dv.staC).toArray⟩:=lJ (by decide +kernel)
section
variable {K:GA}{CW CC:Addr}{Hs H H₀:Hp}{a wl rl:Addr}{an:List Addr}{w:Ws}
def pS {Hv:Hp}{α:Type}{f:α->D}{F:α->V->Prop}(q:∀ x v,F x v->Rp K Hv (f x) v):∀ {l:List α} {vs:List V},Paired F l vs->RpL K Hv (l.map f) vs
 |_,_,.nil=>by unfold RpL;rfl
 |_,_,.cons h t=>by rw[C9];exact .cons (q _ _ h) (pS q t)
def B8 {Hv:Hp}(s:Same Hs Hv){x:An}{v:V}(h:AnAt Hs H₀ x v):Rp K Hv x.d v:=by
 cases x with
 |non=>unfold An.d Rp;exact h
 |twi p=>
  obtain⟨q,h1,h2,_⟩:=h;unfold An.d Rp;exact⟨q,_,h1,.inl (s _ _ h2),.cons (by unfold Rp;rw[Bb]) (.cons 0#83 .nil)⟩
 |row p=>
  obtain⟨q,h1,h2,_⟩:=h;unfold An.d Rp;exact⟨q,_,h1,.inl (s _ _ h2),.cons (by unfold Rp;rw[AJ]) (.cons 0#83 .nil)⟩
def WkAt.rowsRp {Hv:Hp}(W:WkAt K CW CC Hs H H₀ a wl rl an w)(s:Same Hs Hv)(e:∀ b,H₀ b=none->Hv b=H b):Rp K Hv (Dv.rowsD w) (.ref rl):=by
 obtain⟨vs,h1,h2⟩:=W.row;unfold Dv.rowsD Rp;refine⟨rl,vs,rfl,SqX.of (by rw[e rl (W.no rl 0#5).2];exact h1),pS (F:=RowAt Hs H₀ an) (λ p v hp=>?_) h2⟩;obtain⟨r,b,rfl,g2,_,g4⟩:=hp;unfold Rp;refine⟨r,_,rfl,.inl (s _ _ g2),.cons 0#83 (.cons ?_ .nil)⟩;have hb:b∈an:=DW g4;have hl:=W.sto.length;have hi:p.2<w.sto.length:=by rw[hl];exact(List.getElem?_eq_some_iff.mp g4).1
 obtain⟨b',k1,ys,k2,k3⟩:=Paired.gets W.sto (Dk hi);rw[g4] at k1;cases k1;rw[Dk hi];unfold Rp;exact⟨b,ys,rfl,SqX.of (by rw[e b (W.no b (by simp[hb])).2];exact k2),pS (F:=AnAt Hs H₀) (λ x v hx=>B8 s hx) k3⟩
end
section
variable {C:Ctx}{pos:Pos}
def t7 {CW CC:Addr}{k:Wk}{F:List D->PR}{e:Expr}{es:List Expr}{fl:EL}{m jF jP iw is:Nat}{fF fP:Addr}{fdF fdP:FuncData}{sF sP:Stmt}{ps:List Str}{xF xP xw:Str}{pF pP pw posF posP:Pos}{s1 s2 s3 s4:Stmt}
  (T:WkT C.X.K CW CC)
  (dF:Df C.X.K C.X.mg xF sF ["walk"] fF fdF) (oF:FnOk C.X.prog C.X.w C.X.K C.X.mg C.X.base C.CX jF fF fdF ["walk"] (gr C.X.K CW CC C.cls k)) (dP:Df C.X.K C.X.mg xP sP ps fP fdP) (oP:FnOk C.X.prog C.X.w C.X.K C.X.mg C.X.base C.CX jP fP fdP ps (oZ C.X.K CW CC C.cls F ps.length))
  (hr:Room m C.X.A) (hjF:jF<=m) (hjP:jP<=m) (hgF:Gl C.X xF) (hgP:Gl C.X xP) (ha:SL C (e::es) fl)
  (hv:PE C.X (.Name xw pw) (aS iw))
  (h1:∀ t,PE C.X (.Call 2#27 (e::es) [] posP) t->PS C.X s1 (g0 t (c5 iw))) (h2:∀ t,PE C.X (.Call (.Name xF pF) [.Name xw pw] [] posF) t->PS C.X s2 (g0 t (c5 is)))
  (h3:PS C.X s3 (o2 (tB (CM (aS is))) (l5 (tI (aQ (tC (.str AI)) (aQ (gY C.X.K (aS iw) "rows") bK)))) kO))
  (h4:PS C.X s4 (l5 (tI (aQ (tC (.str Ak)) (aQ (aS is) bK)))))
  (hne:iw≠is)
  (hlen:autoParam 1#43 ZF._auto_1) (hdF:autoParam ((xF == ("__debug__":Str))=false) ZC._auto_1) (hdP:autoParam ((xP == ("__debug__":Str))=false) ZC._auto_1)
  (heF:autoParam (starEach [.Name xw pw] C.X.env=(false,eval (.Name xw pw) C.X.env)::starEach [] C.X.env) ZF._auto_1) (hplF:autoParam ((backTo posF (starEach [] C.X.env)).any (·.1)=false) ZF._auto_1)
  (heP:autoParam (starEach (e::es) C.X.env=0#36::starEach es C.X.env) ZF._auto_1) (hplP:autoParam ((backTo posP 1#46).any (·.1)=false) ZF._auto_1):
  SSs C [s1,s2,s3,s4] (Dv.sSought k F fl iw is):=by
 obtain⟨t,pa,qa,hl⟩:=ha;refine⟨_,aE (h1 _ (eR (W:=C.W) (oP.mono hjP) hr hgP dP.m dP.kp dP.bd .nil C.pass pa hdP heP hplP)) (aE (h2 _ (eR (W:=C.W) (oF.mono hjF) hr hgF dF.m dF.kp dF.bd .nil C.pass (aq hv ay heF) hdF heF hplF)) (aE h3 (aU h4))),λ Hv₀ H₀ E σ H st ⟨Hc,O,r⟩ w=>?_⟩;unfold Dv.sSought at w;by_cases hlw:(decide (iw<st.length)&&decide (is<st.length))=true
 case neg=>rw[if_neg hlw] at w;exact Zf w
 rw[if_pos hlw] at w;simp only[Dl,decide_eq_true_eq,r.len] at hlw;obtain⟨lw,ls⟩:=hlw;refine qa σ H 1#81 1#27 _ r.envAll r.allH ?_
 cases hf:fl 1#27 with
 |bad=>rw[hf] at w;exact w
 |exc c=>rw[hf] at w;exact λ Hv' H' x=>w σ H' ⟨Hc,O,r.grow x.hh x.nf⟩
 |ok ds fr=>
  simp only[hf] at w;intro vs Hv1 H1 x1 rp _;refine⟨ds,Hv1,by rw[hl _ ds fr hf];exact hlen,x1.vh,by rw[DU];exact rp,?_⟩;cases hF:F ds with
  |exc c=>simp only[hF] at w;exact λ Hv' H' y=>w σ H' ⟨Hc,O,r.grow (x1.trans y).hh (x1.trans y).nf⟩
  |bad=>simp only[hF] at w;exact w
  |ok wys laid=>
   simp only[hF] at w;intro a wl rl an Hs H2 W B;have g1:(σ.set iw 1#70)[iw]?=some 1#70:=DJ lw
   refine⟨_,g1,a,wl,rl,an,Hs,H1,_,rfl,W,?_⟩;cases hG:Dv.firstGo k 2002 2#39 with
   |bad=>simp only[hG] at w;exact w
   |many=>
    simp only[hG] at w
    rintro Hs' H' an' ⟨w',W'⟩ S'
    obtain⟨Hv2,x2,_⟩:=(B.stp W.oh S').fin W'.oh W'.sv;exact w _ H' ⟨Hc,O,(r.grow (x1.trans x2).hh (x1.trans x2).nf).setNo⟩
   |full w' d fr0=>
    simp only[hG] at w;cases d with
    |lst es0=>
     simp only at w;intro v Hs' H' an' W' S' rp2 _;obtain⟨Hv2,x2,s2,a2⟩:=(B.stp W.oh S').fin W'.oh W'.sv;have rp3:=rp2;unfold Rp at rp3;obtain⟨p,pvs,rfl,_,_⟩:=rp3;have g2:((σ.set iw 1#70).set is (some (V.ref p)))[is]?=some (some (V.ref p)):=DJ (by rw[DE];exact ls)
     refine⟨_,g2,_,rfl,?_⟩;refine iD 0#5 ?_
     refine⟨_,g2,1#30,λ q hq=>?_⟩;have x3:=Ext.new1 x2.vh hq (.tup [.str Ak,.ref p]);obtain⟨Hv3,x4,s4⟩:=r.ret ((x1.trans x2).trans x3);refine w (.ref q) Hv3 _ x4 (Rp.same s4 ?_) (by intro z;cases z);unfold Rp;exact⟨q,_,rfl,.inl ai,.cons (by unfold Rp;rw[Bd]) (.cons ((rp2.same s2).same x3.vv) .nil)⟩
    |_=>exact Zf w
   |row w'=>
    simp only[hG] at w;intro Hs' H' an' W' S';obtain⟨Hv2,x2,s2,a2⟩:=(B.stp W.oh S').fin W'.oh W'.sv;have g2:((σ.set iw 1#70).set is (some V.non))[is]?=some (some V.non):=DJ (by rw[DE];exact ls)
    refine⟨_,g2,_,rfl,?_⟩;refine eO 0#5 ?_
    have g3:((σ.set iw 1#70).set is (some V.non))[iw]?=some 1#70:=by rw[DQ (Ne.symm hne)];exact g1
    obtain⟨dx,wa,hA,_⟩:=W'.slf;refine⟨_,g3,a,CW,dx,_,_,rfl,hA,T.clW,T.nRows,l9,1#30,λ q hq=>?_⟩;have x3:=Ext.new1 x2.vh hq (.tup [.str AI,.ref rl]);obtain⟨Hv3,x4,s4⟩:=r.ret ((x1.trans x2).trans x3);refine w (.ref q) Hv3 _ x4 (Rp.same s4 ?_) (by intro z;cases z);unfold Rp;exact⟨q,_,rfl,.inl ai,.cons (by unfold Rp;rw[Ae]) (.cons ((W'.rowsRp s2 a2).same x3.vv) .nil)⟩
end
open Dv (D R)
structure Fo (P:Program)(w:World)(K:GA)(mg:Str->Option Value)(base:Heap)(n:Str)(st:Stmt)(ps:List Str)(k:Nat)(S:Sp) where
 f:Addr
 fd:FuncData
 d:Df K mg n st ps f fd
 o:FnOk P w K mg base 0#24 k f fd ps S
abbrev Fu (n:Str)(st:Stmt)(ps:List Str)(k:Nat)(F:List D->R)(m:Nat)(P:Program)(w:World)(K:GA)(mg:Str->Option Value)(base:Heap)(ad:String->Option Addr):=Fo P w K mg base n st ps k (spD K (aA ad) F m)
abbrev hD (K:GA)(n:Str)(s:Stmt):Prop:=∃ (f:Addr) (oc:Value) (od:Option Addr) (kV dc pm:Value) (an:Option Addr) (cd ct:Value) (sl:Array 0#82),GM K mainGlobals n=some 2#20 /\
 K.lookup f=some ⟨oc,od,.func (GJ n n (aL s) (aB s) (af s) .none kV dc pm an cd ct),sl⟩/\G4 K cd n=true/\G0 K (.ref f)=true
def dfE {K:GA}{h:Heap}{mg:Str->Option Value}{n:Str}{st:Stmt}{ps:List Str}(X:K.In h)(G:h.Ns mainGlobals mg)(q:hD K n st)
  (b:∀ (kV doc pm:Value) (an:Option Addr) (cdv ct:Value) (us:List Value),us.length=ps.length->bindArgs (GJ n n (aL st) (aB st) (af st) .none kV doc pm an cdv ct) ⟨us,[]⟩=pure 2#2):∃ f fd,Df K mg n st ps f fd:=
 let ⟨f,_,_,_,_,_,_,_,_,_,a,l,c,k⟩:=q
 ⟨f,_,zC (He X G a) l c k b⟩
abbrev hX (K:GA)(c:String)(C:Addr):Prop:=GM K mainGlobals (GG c)=some (some (.ref C))/\G6 K (.ref C) (.type "ValueError")=some true/\XLook K C
def hx_cons {K:GA}{c:String}{C:Addr}{l:List (String×Addr)}(h:hX K c C)(r:∀ p∈l,hX K p.1 p.2):∀ p∈(c,C)::l,hX K p.1 p.2:=bo h r
def sX (K:GA)(c:String)(C:Addr)(l:List 2#30):Prop:=∀ p∈l,G6 K (.ref C) (.ref p.2)=some (Dv.subX c p.1)
def sx_cons {K:GA}{c q:String}{C Q:Addr}{l:List 2#30}(h:G6 K (.ref C) (.ref Q)=some (Dv.subX c q))(r:sX K c C l):sX K c C ((q,Q)::l):=bo h r
def sx_nil {K:GA}{c:String}{C:Addr}:sX K c C []:=fm_nil
def sxx_cons {K:GA}{c:String}{C:Addr}{l l0:List 2#30}(h:sX K c C l0)(r:∀ p∈l,sX K p.1 p.2 l0):∀ p∈(c,C)::l,sX K p.1 p.2 l0:=bo h r
abbrev hXs (K:GA)(l:List 2#30):Prop:=(∀ p∈l,hX K p.1 p.2)/\∀ p∈l,sX K p.1 p.2 l
def CB {K:GA}{h:Heap}{mg:Str->Option Value}(X:K.In h)(G:h.Ns mainGlobals mg){l:List 2#30}(q:hXs K l):XAll K mg (uc l):=
 yL l (λ p hp=>let ⟨a,v,x⟩:=q.1 p hp;⟨⟨He X G a,a,x.ex,x.lk⟩,x,v⟩) λ p hp q' hq=>q.2 p hp q' hq
end Sd
namespace Sts
open PySem PySem.SetTable
def Ris (xs:Array Nat):Prop:=xs.toList.Pairwise (·<·)
def Ris.at {xs:Array Nat}(r:Ris xs){i j:Nat}(hj:j<xs.size)(hij:i<j):xs.getD i 0<xs.getD j 0:=by
 have hi:i<xs.size:=⋯
 have:=List.pairwise_iff_getElem.mp r i j 1#11 (by simpa using hj) hij;simpa[IB,hi,hj] using this
def xi {xs:Array Nat}(r:Ris xs)(j:Nat):∀ (fuel lo hi:Nat),hi<=xs.size->lo<=hi->hi-lo<=fuel->(∀ i,i<lo->xs.getD i 0<j)->(∀ i,hi<=i->i<xs.size->j<=xs.getD i 0) ->
  below.go xs j fuel lo hi<=xs.size/\(∀ i,i<below.go xs j fuel lo hi->xs.getD i 0<j)/\∀ i,below.go xs j fuel lo hi<=i->i<xs.size->j<=xs.getD i 0
 |0,lo,hi,h1,h2,h3,h4,h5=>by
  have:lo=hi:=⋯
  subst this;exact⟨h1,h4,h5⟩
 |fuel+1,lo,hi,h1,h2,h3,h4,h5=>by
  unfold below.go;by_cases hl:lo<hi
  ·rw[if_pos hl]
   have hm:(lo+hi)/2<xs.size:=⋯
   have eg:xs.getD ((lo+hi)/2) j=xs.getD ((lo+hi)/2) 0:=by simp[IB,hm]
   simp only[eg];by_cases hc:xs.getD ((lo+hi)/2) 0<j
   ·rw[if_pos hc]
    refine xi r j fuel _ _ h1 ⋯ ⋯ (λ i hi'=>?_) h5;by_cases e:i=(lo+hi)/2
    ·subst e;exact hc
    ·exact Gr (r.at hm ⋯) hc
   ·rw[if_neg hc]
    refine xi r j fuel _ _ ⋯ ⋯ ⋯ h4 λ i h6 h7=>?_
    by_cases e:i=(lo+hi)/2
    ·subst e;omega
    ·have:=r.at (i:=(lo+hi)/2) h7 ⋯;omega
  ·rw[if_neg hl]
   have:lo=hi:=⋯
   subst this;exact⟨h1,h4,h5⟩
def og {xs:Array Nat}(r:Ris xs)(j:Nat):below xs j<=xs.size/\(∀ i,i<below xs j->xs.getD i 0<j)/\∀ i,below xs j<=i->i<xs.size->j<=xs.getD i 0:=
 xi r j xs.size 0 xs.size (Du _) (D7 _) ⋯ (λ i h=>⋯) λ i h1 h2=>⋯
def Occ (t:SetTable)(j:Nat):Prop:=j∈t.place.toList
def rf (j:Nat):has #[] j=false:=by
 simp[has,below,below.go]
def oS {t:SetTable}(hd:t.dummies=#[]){j:Nat}(h:¬ Occ t j):t.slot j=.empty:=by
 unfold slot;have:¬ (t.place[below t.place j]? == some j)=true:=λ e=>by
  have e:=beq_iff_eq.mp e;exact h (by rw[<- HQ] at e;exact DW e)
 rw[if_neg this,hd,rf];rfl
def gh {α:Type}(xs:Array α)(p:Nat)(x:α):(insertAt xs p x).toList=xs.toList.take p++x::xs.toList.drop p:=by
 unfold insertAt;simp[Array.toList_extract,Ex]
def nh {α:Type}(xs:Array α)(p:Nat)(x:α):(insertAt xs p x).size=xs.size+1:=by
 rw[<- GX,gh];simp;omega
structure TI {α:Type}(t:SetTable)(es:Array (Int×α)):Prop where
 size:t.place.size=es.size
 ris:Ris t.place
 dum:t.dummies=#[]
section
variable {prog:Program}{w:World}{A:Around}{E:Value->Shared->Prop}{s:Shared}{a:Addr}{es:Array (Int×Value)}{ep:Nat}{t:SetTable}{x:Addr}{ks:List Int}
abbrev byT (w:World):Bool:=w.params.followText "set-order"
abbrev tk (prog:Program)(w:World)(ks:List Int):Int:=tupleKeyHash 2#38 ks
abbrev IsK (prog:Program)(w:World)(h:Heap)(ks:List Int)(b:Addr):Prop:=IsTupleKey 2#38 h ks b
def Ent (prog:Program)(w:World)(h:Heap)(e:Int×Value)(ks:List Int):Prop:=∃ b,e=(tk prog w ks,.ref b)/\IsK prog w h ks b
structure SetV (prog:Program)(w:World)(h:Heap)(a:Addr)(es:Array (Int×Value))(ep:Nat)(t:SetTable):Prop where
 obj:h.get? a=some { cls:=.type "set",dict:=none,data:=.set es ep t }
 ti:TI t es
 fit:t.mask=7/\es.size<2
 plain:t.plain=true
 led:t.led=!byT w
def SetV.fits {h:Heap}(S:SetV prog w h a es ep t):t.fits es.size=true:=by
 have:=S.fit;unfold SetTable.fits Kt;rw[S.ti.dum,S.ti.size];simp;omega
def items_int {ks:List Int}:∀ {vs:List Value},ItemsAre 2#38 ks vs->∀ v∈vs,∃ i t,v=.int i t:=λ {vs} h=>by
 induction h with
 |nil=>intro v hv;cases hv
 | @cons k v ks vs h1 _ ih=>
  intro u hu
  rcases List.mem_cons.mp hu with rfl|hu
  ·obtain⟨t,e⟩:=Ik h1
   exact⟨_,t,e⟩
  ·exact ih u hu
def IsK.keep {h h':Heap}{b:Addr}{o:Obj}(hk:IsK prog w h ks b)(ha:h.get? a=some o)(hc:o.cls=.type "set")(e:∀ c u,c≠a->h.get? c=some u->h'.get? c=some u):IsK prog w h' ks b:=by
 obtain⟨o',items,n,ho',hc',hd',hi⟩:=hk;have hne:b≠a:=by
  rintro rfl
  obtain rfl:o'=o:=Option.some.inj (ho'.symm.trans ha);rw[hc] at hc';exact absurd (Jy hc') 0#2
 exact⟨o',items,n,e b o' hne ho',hc',hd',hi⟩
def nB (n:Nat){v:Value}(h:∃ i t,v=.int i t):hashByValue n v=pure true:=by
 obtain⟨i,t,rfl⟩:=h;cases n <;>rfl
def j4 {Q:Bool->Shared->Prop}(hk:IsK prog w s.heap ks x)(h:Q true s):wpAny 0#7 A (hashByValue 8 (.ref x)) Q E s:=by
 have hT:=hk.typeIs;obtain⟨o,items,n,ho,_,hd,hi⟩:=hk;unfold hashByValue;refine GB (Jd hT F.slot_tuple_hash.lookup ?_);dsimp only;refine GB ?_
 unfold seqItems?;refine GB (wpAny_load ho ?_);rw[hd];refine GD ?_
 refine GB ?_
 show wpAny _ _ (forIn items _ _) _ _ s
 rw[<- Array.forIn_toList];refine wpAny_forIn_list _ (λ rest r s'=>r.1=none/\s'=s/\∀ v∈rest,∃ i t,v=Hk i t) _ ?_ ?_ _ _ ⟨rfl,rfl,items_int hi⟩
 ·rintro v rest r s' ⟨hr,rfl,hall⟩
  rw[nB _ (hall v Dh)];refine GB (GD ?_);simp only[D3,Dx,if_false];exact GD ⟨rfl,rfl,λ u hu'=>hall u (De _ hu')⟩
 ·rintro ⟨r1,r2⟩ s' ⟨hr,rfl,_⟩
  simp only at hr;subst hr;exact GD h
def stored {h:Heap}(S:SetV prog w h a es ep t)(es':Array 1#99)(t':SetTable):(h.update a (Km es' t')).get? a=some { cls:=.type "set",dict:=none,data:=.set es' (ep+1) t' }/\∀ c u,c≠a->h.get? c=some u->(h.update a (Km es' t')).get? c=some u:=by
 refine⟨?_,λ c u hc e=>(GK _ _ (Ne.symm hc)).trans e⟩;have:=HP (Km es' t') S.obj (by rw[putSet_of es' t' rfl];rfl);rw[putSet_of es' t' rfl] at this;exact this
def sU {Q:SetFound->Shared->Prop}(S:SetV prog w s.heap a es ep t)(hn:es.size<1)(h:Int)(q2:∀ j,Q (.free j false) s):
  wpAny 0#7 A (setSearch a (.ref x) h true) Q E s:=by
 have hp:t.place=#[]:=IC (by have:=S.ti.size;omega);show wpAny _ _ (setSearchFrom a (.ref x) h true (99999+1) none) _ _ _
 unfold setSearchFrom;refine GB (HA S.obj rfl S.fits ?_);dsimp only;rw[show t.gaveWay=false from by show (t.mask%2 == 0)=false;rw[S.fit.1];rfl];simp only[Dx,if_false];have key:∀ F:Nat->Int,t.probe F h (t.probeStart h)=some (.empty (t.probeStart h).j none):=λ F=>by
  show probe.go t F h (10*turns t.mask) _=_
  rw[show 10*turns t.mask=10*turns t.mask-1+1 from by unfold turns;omega];unfold probe.go;rw[oS S.ti.dum (by unfold Occ;rw[hp];intro z;cases z)];rfl
 rw[show (none:Option Probe).getD (t.probeStart h)=t.probeStart h from rfl,key];dsimp only;exact GD (q2 _)
def cZ {Q:Bool->Shared->Prop}(S:SetV prog w s.heap a es ep t)(hx:IsK prog w s.heap ks x)(hu:A.units<cLine)(hn:es.size<1)
  (h2:∀ h' es' ep' t',SetV prog w h' a es' ep' t'->es'.toList.Perm ((tk prog w ks,.ref x)::es.toList)->(∀ c u,c≠a->s.heap.get? c=some u->h'.get? c=some u)->Q true { s with heap:=h',toks:=s.toks+2#42 }):
  wpAny 0#7 A (setAdd a (.ref x)) Q E s:=by
 have hpl:t.place=#[]:=IC (by have:=S.ti.size;omega);unfold setAdd;refine G9 (GB (wpAny_pyHash_tuple (knd:=intKind prog w) hu hx ?_));unfold setAddHashed;refine G9 ?_
 unfold setAddHashedIn;refine GB (HA (s:={ s with toks:=s.toks+2#42 }) S.obj rfl S.fits ?_);dsimp only;have nb:byScan (.ref x) es=false:=by simp[byScan,Value.scannable]
 rw[nb];simp only[Dx,if_false];refine GB (sU (s:={ s with toks:=s.toks+2#42 }) S hn _ λ j=>?_);dsimp only;refine GB (HA (s:={ s with toks:=s.toks+2#42 }) S.obj rfl S.fits ?_);dsimp only;have hp:(t.put j).1.plain=true:=S.plain;have sz:(insertAt es 1#95 (tk prog w ks,GH x)).size=es.size+1:=nh _ _ _;have ed:(t.put j).1.dummies=#[]:=by
  show (if has t.dummies j then eraseAt t.dummies (below t.dummies j) else t.dummies)=#[]
  rw[S.ti.dum,rf];rfl
 have pz:(t.put j).1.place.size=es.size+1:=by
  show (insertAt t.place 1#95 j).size=_
  rw[nh,S.ti.size]
 have T:TI (t.put j).1 (insertAt es 1#95 (tk prog w ks,GH x)):=⟨by rw[pz,sz],by
  show Ris (insertAt t.place 1#95 j)
  unfold Ris;rw[gh,hpl];simp,ed⟩
 rw[show (t.put j).1.plain=true from hp];simp only[if_true];refine GB (j4 (s:={ s with toks:=s.toks+2#42 }) hx ?_);simp only[if_true];rw[show (t.put j).2=below t.place j from rfl];have pm:(insertAt es 1#95 (tk prog w ks,GH x)).toList.Perm ((tk prog w ks,.ref x)::es.toList):=by
  rw[gh];refine List.perm_middle.trans ?_
  rw[FG]
 refine GB (wpAny_storeSet_of (s:={ s with toks:=s.toks+2#42 }) S.obj rfl ?_ (by rw[sz,GS];omega));obtain⟨g1,g2⟩:=stored S (insertAt es 1#95 (tk prog w ks,GH x)) (t.put j).1;have full:(t.put j).1.tooFull=false:=by
  unfold SetTable.tooFull Kt;rw[ed,pz,show (t.put j).1.mask=7 from S.fit.1];simp;omega
 rw[full];simp only[Gk,DC,Dx,if_false];exact GD (h2 _ _ _ _ ⟨g1,T,⟨S.fit.1,by rw[sz];omega⟩,hp,S.led⟩ pm g2)
end
open PySem PySem.SetTable PyProof.Rows
def fY (val:Nat->List Int):Nat->List 0#48
 |0=>[]
 |i+1=>if (fY val i).any (· == val i) then fY val i else fY val i++[val i]
section
variable {prog:Program}{w:World}{B:List Int->Value->Prop}
def Has (prog:Program)(w:World)(B:List Int->Value->Prop)(h:Heap)(es:Array 1#99)(l:List 0#48):Prop:=∃ p:List 1#99,es.toList.Perm p/\p.length=l.length/\∀ i (h1:i<p.length) (h2:i<l.length),Ent prog w h p[i] l[i]/\B l[i] p[i].2
def Ent.keep {h h':Heap}{a:Addr}{o:Obj}{e:Int×Value}{ks:List Int}(q:Ent prog w h e ks)(ha:h.get? a=some o)(hc:o.cls=.type "set")(k:∀ c u,c≠a->h.get? c=some u->h'.get? c=some u):Ent prog w h' e ks:=
 let ⟨b,e1,hb⟩:=q
 ⟨b,e1,hb.keep ha hc k⟩
def Has.keep {h h':Heap}{a:Addr}{o:Obj}{es:Array 1#99}{l:List 0#48}(H:Has prog w B h es l)(ha:h.get? a=some o)(hc:o.cls=.type "set")(k:∀ c u,c≠a->h.get? c=some u->h'.get? c=some u):Has prog w B h' es l:=
 let ⟨p,p1,p2,p3⟩:=H
 ⟨p,p1,p2,λ i h1 h2=>⟨(p3 i h1 h2).1.keep ha hc k,(p3 i h1 h2).2⟩⟩
def Has.more {h:Heap}{es es':Array (Int×Value)}{l:List 0#48}(H:Has prog w B h es l){ks:List Int}{x:Addr}(hx:IsK prog w h ks x)(hB:B ks (.ref x))(pm:es'.toList.Perm ((tk prog w ks,.ref x)::es.toList)):Has prog w B h es' (l++[ks]):=by
 obtain⟨p,p1,p2,p3⟩:=H;refine⟨p++[(tk prog w ks,.ref x)],pm.trans ((List.Perm.cons _ p1).trans (List.perm_append_singleton _ _).symm),by simp[p2],λ i h1 h2=>?_⟩;by_cases z:i<p.length
 ·rw[Fq z,Fq ⋯]
  exact p3 i z ⋯
 ·have:i=p.length:=by simp at h1;omega
  subst this;rw[Fh (Du _),Fh ⋯];simp only[p2,FX,List.getElem_cons_zero];exact⟨⟨x,rfl,hx⟩,hB⟩
def IsK.keepN {h h':Heap}{I b:Addr}{o:Obj}{ks:List Int}(hk:IsK prog w h ks b)(hI:h.get? I=some o)(hc:o.cls≠.type "tuple")(e:∀ c u,c≠I->h.get? c=some u->h'.get? c=some u):IsK prog w h' ks b:=by
 obtain⟨o',items,n,ho',hc',hd',hi⟩:=hk;have hne:b≠I:=by
  rintro rfl
  obtain rfl:o'=o:=Option.some.inj (ho'.symm.trans hI);exact hc hc'
 exact⟨o',items,n,e b o' hne ho',hc',hd',hi⟩
def SetV.keepN {h h':Heap}{I S:Addr}{o:Obj}{es:Array 1#99}{ep:Nat}{t:SetTable}(V:SetV prog w h S es ep t)(hI:h.get? I=some o)(hc:o.cls≠.type "tuple")(hS:S≠I)(e:∀ c u,c≠I->h.get? c=some u->h'.get? c=some u):SetV prog w h' S es ep t:=
 ⟨e S _ hS V.obj,V.ti,V.fit,V.plain,V.led⟩
def Has.keepN {h h':Heap}{I:Addr}{o:Obj}{es:Array 1#99}{l:List 0#48}(H:Has prog w B h es l)(hI:h.get? I=some o)(hc:o.cls≠.type "tuple")(e:∀ c u,c≠I->h.get? c=some u->h'.get? c=some u):Has prog w B h' es l:=
 let ⟨p,p1,p2,p3⟩:=H
 ⟨p,p1,p2,λ i h1 h2=>let ⟨⟨b,e1,hb⟩,hB⟩:=p3 i h1 h2;⟨⟨b,e1,IsK.keepN hb hI hc e⟩,hB⟩⟩
def SetV.size {h:Heap}{S:Addr}{es:Array (Int×Value)}{ep:Nat}{t:SetTable}{l:List 0#48}(V:SetV prog w h S es ep t)(H:Has prog w B h es l):es.size=l.length:=by
 obtain⟨p,p1,p2,_⟩:=H;rw[<- p2,<- p1.length_eq,GX]
def rD (val:Nat->List Int):∀ i,(fY val i).length<=i
 |0=>Du _
 |i+1=>by
  have:=rD val i;unfold fY
  split
  ·omega
  ·simp;omega
variable {A:Around}{R:Result->Shared->Prop}
def xq (hh:A.handled=none)(hu:A.units+8<cLine){I l S:Addr}(hlI:l≠I)(hSI:S≠I)(hSl:S≠l){items:Array Value}{val:Nat->List Int}(hz:items.size<2):
  ∀ (k i:Nat) (s:Shared),items.size-i=k->i<=items.size->s.heap.IsListIter I l i->s.heap.IsList l items->(∃ es ep t,SetV prog w s.heap S es ep t/\Has prog w B s.heap es (fY val i)) ->
   (∀ j,j<items.size->∃ b,items[j]?=some (.ref b)/\IsK prog w s.heap (val j) b/\B (val j) (.ref b)) ->
   (∀ h' tk,(∀ b o,b≠S->b≠I->s.heap.get? b=some o->h'.get? b=some o)->(∃ es ep t,SetV prog w h' S es ep t/\Has prog w B h' es (fY val items.size))->R (.ok (.ret .none)) { s with heap:=h',toks:=tk }) ->
   codeAny 0#7 A (.builtin "set.update.loop" ⟨[.ref S,.ref I],[]⟩) R s:=by
 intro k
 induction k with
 |zero=>
  intro i s hk hi hit hl hS hv hR;have hin:i=items.size:=⋯
  subst hin;refine G8 IZ (by
   rw[G3 Ij _];show wpAny _ A.in1 (pyNext (.ref I) >>= _) _ _ s
   refine GB (Js (by simpa using hh) hit hl 0#5 λ h' he=>?_);obtain⟨es,ep,t,V,H⟩:=hS;obtain⟨oI,hoI,hcI,_⟩:=hit;have hc:oI.cls≠.type "tuple":=by rw[hcI];intro z;exact absurd (Jy z) 0#2
   exact GD (hR h' s.toks (λ b o _ hb e=>he b o hb e) ⟨es,ep,t,V.keepN hoI hc hSI he,H.keepN hoI hc he⟩))
 |succ k ih=>
  intro i s hk hi hit hl hS hv hR;have hlt:i<items.size:=⋯
  obtain⟨b,eb,hb,hB⟩:=hv i hlt;refine G8 IZ (by
   rw[G3 Ij _];show wpAny _ A.in1 (pyNext (.ref I) >>= _) _ _ s
   refine GB (Ji hit hl (x:=.ref b) eb λ h' hit' hs'=>?_);obtain⟨es,ep,t,V,H⟩:=hS;obtain⟨oI,hoI,hcI,_⟩:=hit;have hc:oI.cls≠.type "tuple":=by rw[hcI];intro z;exact absurd (Jy z) 0#2
   have V':=V.keepN hoI hc hSI hs'.extBut;have H':=H.keepN hoI hc hs'.extBut;have hb':=IsK.keepN hb hoI hc hs'.extBut;have hl':=hl.extBut hs'.extBut hlI;have hsz:=V.size H;have hml:=rD val i;show wpAny _ A.in1 (holding [GH b] (setAdd S (.ref b)) >>= _) _ _ { s with heap:=h' }
   refine GB (G9 (cZ (s:={ s with heap:=h' }) V' hb' (by show A.units+1<cLine;omega) ⋯ λ h2 es' ep' t' V2 pm k2=>?_))
   ·have i0:i=0:=⋯
    have hm:¬ val i∈fY val i:=by rw[i0];intro z;cases z
    have hSc:({ cls:=.type "set",dict:=none,data:=.set es ep t }:Obj).cls=.type "set":=rfl;refine GD ⟨Hw Ij _,ih (i+1) _ ⋯ hlt ?_ ?_ ⟨es',ep',t',V2,?_⟩ (λ j hj=>?_) λ h3 tk k3 hS3=>?_⟩
    ·exact hit'.at λ o e=>k2 I o (Ne.symm hSI) e
    ·exact hl'.at λ o e=>k2 l o (Ne.symm hSl) e
    ·unfold fY
     rw[if_neg (by simpa using hm)];exact Has.keep (H'.more hb' hB pm) V'.obj hSc k2
    ·obtain⟨b2,e2,hb2,hB2⟩:=hv j hj
     exact⟨b2,e2,(IsK.keepN hb2 hoI hc hs'.extBut).keep V'.obj hSc k2,hB2⟩
    ·exact hR h3 tk (λ c o h4 h5 e=>k3 c o h4 h5 (k2 c o h4 (hs'.extBut c o h5 e))) hS3)
end
section
variable {prog:Program}{w:World}{A:Around}{E:Value->Shared->Prop}{s:Shared}{B:List Int->Value->Prop}
abbrev jz (w:World):Obj:={ cls:=.type "set",dict:=none,data:=.set #[] 0 (.fresh 0 0 (!byT w)) }
def zj (a:Value){Q₁:Value->Shared->Prop}(h:Q₁ 1#0 { s with heap:=s.heap.push (jz w) }):
  codeAny 0#7 A (.call (.builtin "set.__new__") ⟨[.type "set",a],[]⟩) (wants Q₁ E) s:=by
 refine codeAny_of_tree (show wpAny _ A.in1 (do checkBuiltinCall "set.__new__" ⟨[.type "set",a],[]⟩;again (.builtin "set.__new__" ⟨[.type "set",a],[]⟩)) _ _ s from ?_);refine GB (Kf (PySem.F.newCall_set_1 a) (GD ⟨Hw F.plain_set_new _,G8 F.entry_set_new (by
  rw[G3 F.plain_set_new _];unfold Builtin.«set.__new__» Ku;have hsub:=sub_set_self;obtain⟨hp,g,d,tk,os⟩:=s;dsimp only;wp_walk;refine HW (GD ?_);dsimp only;simp only[newObj];refine GB (wpAny_alloc (GD (GD h))))⟩))
def xC {h:Heap}{a:Addr}(e:h.get? a=some (jz w)):SetV prog w h a #[] 0 (.fresh 0 0 (!byT w)):=⟨e,⟨rfl,List.Pairwise.nil,rfl⟩,⟨rfl,by decide⟩,rfl,rfl⟩
def xG {h:Heap}:Has prog w B h #[] []:=⟨[],.refl _,rfl,λ i h1=>by simp at h1⟩
set_option maxHeartbeats 3200000 in
def tV {l:Addr}{items:Array Value}{val:Nat->List Int}{Q:Value->Shared->Prop}(hh:A.handled=none)(hu:A.units+64<cLine)(hl:s.heap.IsList l items)(hz:items.size<2)
  (hv:∀ j,j<items.size->∃ b,items[j]?=some (.ref b)/\IsK prog w s.heap (val j) b/\B (val j) (.ref b))
  (h:∀ (h':Heap) (tk:Nat),(∃ es ep t,SetV prog w h' s.heap.objs.size es ep t/\Has prog w B h' es (fY val items.size))->0#80->Q 1#0 { s with heap:=h',toks:=tk }):
  wpAny 0#7 A (call (.type "set") [.ref l]) Q E s:=by
 obtain⟨c,tl,hmro⟩:=F.called_set.mro;have ⟨hmade,hsub,h1,h2,hct⟩:_/\_/\_/\_/\_:=⟨F.called_set.made,F.called_set.sub,F.called_set.notType,F.called_set.canCreate,PySem.F.typeCall_set_1 (.ref l)⟩;refine IU (codeAny_of_tree (show wpAny _ _ (callAny (.type "set") _) _ _ _ from GD ⟨J7 _ 0#6,G8 F.entry_type_call ?_⟩));rw[Around.under_plain (weight_type_call_type "set" [.ref l] []) rfl]
 repeat (any_goals (first|assumption|wp_step))
 refine HD (zj (.ref l) (E:=E) (Q₁:=λ obj s₁=>obj=.ref s.heap.objs.size/\s₁={ s with heap:=s.heap.push (jz w) }) ⟨rfl,rfl⟩) λ r s₁ hr=>?_
 match r,hr with
 |.error e,hr=>exact hr
 |.ok (.ret obj),hr=>
  obtain⟨rfl,rfl⟩:=hr;have hS:(s.heap.push (jz w)).get? s.heap.objs.size=some (jz w):=GF _ rfl;have hT:Shared.TypeIs { s with heap:=s.heap.push (jz w) } 1#0 "set":=⟨_,hS,rfl⟩;have ⟨hli,hbi⟩:_/\_:=⟨F.called_set.init.lookup,F.called_set.init.bind 1#0⟩
  repeat (any_goals (first|assumption|wp_step))
  refine HD (Iy (R:=wants (λ r s₂=>r=.none/\∃ h' tk,s₂={ s with heap:=h',toks:=tk }/\(∃ es ep t,SetV prog w h' s.heap.objs.size es ep t/\Has prog w B h' es (fY val items.size)) /\
   (∀ b o,s.heap.get? b=some o->h'.get? b=some o)) E) F.called_set.init.plain F.entry_set_init (check_set_init_1 hT ?_)) λ r₂ s₂ hr₂=>?_
  ·obtain⟨ol,hol,hcl,nl,hdl⟩:=hl
   obtain⟨ocls,odict,odata,oslots⟩:=ol;simp only at hcl hdl;subst hcl;subst hdl;have hol':(s.heap.push (jz w)).get? l=some { cls:=.type "list",dict:=odict,data:=.seq items nl,slots:=oslots }:=GC _ hol;have ⟨hsls,hslf,hne⟩:_/\_/\(GR "list" == GR "dict")=false:=⟨PySem.F.sub_list_set,PySem.F.sub_list_frozenset,by decide⟩;have hl1:(s.heap.push (jz w)).IsList l items:=⟨_,hol',rfl,nl,rfl⟩;unfold Builtin.«set.__init__» noKeywords Kp;generalize hPI:pyIter=PI
   wp_walk
   subst hPI;have hlS:l<s.heap.objs.size:=GE hol;refine Il hl1 (GB (wpAny_runValue ?_));have zs:(s.heap.push (jz w)).objs.size=s.heap.objs.size+1:=HB ..;have up:∀ b o,s.heap.get? b=some o->((s.heap.push (jz w)).push { cls:=.type "list_iterator",data:=.fields #[.ref l,.int 0 0] }).get? b=some o:=λ b o e=>GC _ (GC _ e)
   refine xq (B:=B) (I:=(s.heap.push (jz w)).objs.size) (l:=l) (val:=val) (by simp[hh]) (by show A.units+1+1+8<cLine;omega) (by rw[zs];exact Dy (D8 hlS)) (by rw[zs];exact Dy (DR _)) (E7 hlS) hz (items.size-0) 0 _ ⋯ (D7 _)
    ⟨_,GF _ rfl,rfl,rfl⟩ (hl1.push _) ⟨#[],0,_,xC (GC _ hS),xG⟩ (λ j hj=>?_) λ h' tk k' hS'=>?_
   ·obtain⟨b,e1,⟨o,its,n,ho,r⟩,hB⟩:=hv j hj
    exact⟨b,e1,⟨o,its,n,up b o ho,r⟩,hB⟩
   ·show wpAny _ _ _ _ _ _
    refine GD ?_
    show wpAny _ _ (ret GN) _ _ _
    refine GD ⟨rfl,h',tk,rfl,hS',λ b o e=>k' b o ?_ ?_ (up b o e)⟩
    ·exact Dy (GE e)
    ·rw[zs];exact Dy (D8 (GE e))
  ·match r₂,hr₂ with
   |.error e,hr₂=>exact hr₂
   |.ok (.ret r),hr₂=>
    obtain⟨rfl,h',tk,rfl,hS',hk'⟩:=hr₂
    repeat (any_goals (first|assumption|wp_step))
    exact h _ _ hS' hk'
   |.ok .next,hr₂=>exact hr₂.elim
   |.ok .brk,hr₂=>exact hr₂.elim
   |.ok .cont,hr₂=>exact hr₂.elim
 |.ok .next,hr=>exact hr.elim
 |.ok .brk,hr=>exact hr.elim
 |.ok .cont,hr=>exact hr.elim
end
open PySem PySem.SetTable PyProof.Rows PySem.W
def uS:entryFor table "set.__iter__"=some Builtin.«frozenset.__iter__»:=entryFor_alias (id':="frozenset.__iter__") 2#46 rfl 0#6 2#46
def m7:Slot "set_iterator" "__iter__" "set_iterator.__iter__":=
 .of (owner:="set_iterator") (n:="__iter__") (by rw[typeLookup_type,Jz];kernel_rfl) 0#6 0#6 0#6 (by first|exact .inl 0#6|exact .inr 0#6) (by rw[JA];kernel_rfl)
def slot_sin:Slot "set_iterator" "__next__" "set_iterator.__next__":=
 .of (owner:="set_iterator") (n:="__next__") (by rw[typeLookup_type,Jz];kernel_rfl) 0#6 0#6 0#6 (by first|exact .inl 0#6|exact .inr 0#6) (by rw[JA];kernel_rfl)
def kU:entryFor table "set_iterator.__next__"=some Builtin.«set_iterator.__next__»:=entryFor_of_tree 2#46
def tu:entryFor table "set_iterator.__iter__"=some Builtin.«dict_keyiterator.__iter__»:=entryFor_alias (id':="dict_keyiterator.__iter__") 2#46 rfl 0#6 2#46
def uU (a:Value):argsOk "set_iterator.__iter__" ⟨[a],[]⟩:=by unfold argsOk;kernel_rfl
def ox (a:Value):argsOk "set_iterator.__next__" ⟨[a],[]⟩:=by unfold argsOk;kernel_rfl
def rE {α:Type}(next:Nat->Nat):∀ (fuel k:Nat) (left:List α) (out:Array α),fuel=left.length->(J9 next fuel k left out).toList.Perm (out.toList++left)
 |0,k,left,out,h=>by
  have:left=[]:=by simpa using h.symm
  subst this;unfold J9;simp
 |fuel+1,k,left,out,h=>by
  have hl:next k%left.length<left.length:=FK _ ⋯
  unfold J9;rw[Dk hl];refine(rE next fuel (k+1) (left.eraseIdx (next k%left.length)) (out.push left[next k%left.length]) (by rw[List.length_eraseIdx_of_lt hl];omega)).trans ?_
  rw[Array.toList_push,El];refine List.Perm.append_left _ ?_
  generalize next k%left.length=i at hl
  rw[List.eraseIdx_eq_take_drop_succ];refine(List.perm_middle (l₁:=left.take i) (a:=left[i]) (l₂:=left.drop (i+1))).symm.trans ?_
  rw[<- Eb hl,FG]
def tz {α:Type}(next:Nat->Nat)(xs:Array α):(pickOrder next xs).toList.Perm xs.toList:=by
 have:=rE next xs.size 0 xs.toList #[] 0#5
 simpa[pickOrder] using this
section
variable {prog:Program}{w:World}{A:Around}{E:Value->Shared->Prop}{s:Shared}{a:Addr}{es:Array (Int×Value)}{ep:Nat}{t:SetTable}
def df (w:World)(a:Addr)(es:Array 1#99)(ep:Nat):Array Value:=if byT w then (pickOrder 2#4 es).map (·.2) else es.map (·.2)
def ord_perm:(df w a es ep).toList.Perm (es.toList.map (·.2)):=by
 unfold df
 split
 ·rw[Kj];exact(tz _ es).map _
 ·rw[Kj]
def da:(df w a es ep).size=es.size:=by
 have:=(ord_perm (w:=w) (a:=a) (es:=es) (ep:=ep)).length_eq;simpa using this
abbrev tU (es:Array 1#99)(ep:Nat)(t:SetTable):Obj:={ cls:=.type "set",dict:=none,data:=.set es ep t }
abbrev itO (slot i n ep:Nat)(a:Addr):Obj:={ cls:=.type "set_iterator",dict:=none,data:=.fields #[.int slot 0,.int i 0,.ref a,.int n 0,.int ep 0],slots:=#[] }
structure Gone (w:World)(es:Array (Int×Value))(t:SetTable):Prop where
 size:t.place.size=es.size
 ris:Ris t.place
 fits:t.fits es.size=true
 plain:t.plain=true
 led:t.led=!byT w
def SetV.gone {h:Heap}(V:SetV prog w h a es ep t):Gone w es t:=⟨V.ti.size,V.ti.ris,V.fits,V.plain,V.led⟩
def StS (w:World)(I a:Addr)(es:Array 1#99)(ep:Nat)(t:SetTable)(i:Nat)(h:Heap):Prop:=∃ slot,h.get? I=some (itO slot i es.size ep a)/\h.get? a=some 2#52/\(byT w=false->below t.place slot=i)
def sJ {i slot:Nat}(G:Gone w es t)(ha:s.heap.get? a=some 2#52)(hs:byT w=false->below t.place slot=i)
  {Q:Option (Value×Nat)->Shared->Prop} (h1:∀ v,(df w a es ep)[i]?=some v->∀ slot',(byT w=false->below t.place slot'=i+1)->Q (some (v,slot')) s) (h2:(df w a es ep)[i]?=none->Q none s):
  wpAny 0#7 A (setNext a slot i ep) Q E s:=by
 unfold setNext;refine GB (HA ha rfl G.fits ?_);dsimp only;refine GB ?_
 unfold setsByText;refine GB (HW (GD ?_));show wpAny _ _ (if byT w=true then _ else _) _ _ _
 by_cases hb:byT w=true
 ·rw[if_pos hb]
  simp only[bne_self_eq_false,Dx,if_false];refine GB ?_
  unfold setWalk;refine GB (HA ha rfl G.fits ?_);dsimp only;refine GB ?_
  unfold setsByText;refine GB (HW (GD ?_));show wpAny _ _ (if byT w=true then _ else _) _ _ _
  rw[if_pos hb];refine GB (HW (GD ?_));refine GD ?_
  have eo:df w a es ep=(pickOrder 2#4 es).map (·.2):=by unfold df;rw[if_pos hb]
  show Q (((pickOrder 2#4 es)[i]?).map λ e=>(e.2,slot)) s
  cases hv:(pickOrder 2#4 es)[i]? with
  |none=>exact h2 (by rw[eo,Ig,hv];rfl)
  |some e=>exact h1 e.2 (by rw[eo,Ig,hv];rfl) slot λ z=>by rw[hb] at z;cases z
 ·have hb':byT w=false:=Bool.eq_false_iff.mpr hb
  rw[if_neg hb];have eo:df w a es ep=es.map (·.2):=by unfold df;rw[if_neg hb]
  have dr:∀ b:Bool,(b=1#55)->b=false:=λ b e=>by rw[e,G.plain];rfl
  show wpAny _ _ (if 1#55=true then _ else _) _ _ _
  rw[G.plain];simp only[D3,Eo,Dx,if_false];refine GB ?_
  show wpAny _ _ (if (!t.led&&!es.isEmpty)=true then _ else _) _ _ _
  rw[G.led,hb'];simp only[Gk,D3,Eo,Dx,if_false];refine GD ?_
  rw[hs hb'];refine GD ?_
  by_cases hi:i<es.size
  ·have hp:i<t.place.size:=by rw[G.size];exact hi
   rw[GY hi,GY hp];dsimp only;refine h1 es[i].2 (by rw[eo,Ig,GY hi];rfl) _ λ _=>?_
   obtain⟨b1,b2,b3⟩:=og G.ris (t.place[i]+1);have e1:t.place.getD i 0=t.place[i]:=by simp[IB,hp]
   rcases F3 (below t.place (t.place[i]+1)) (i+1) with z|z|z
   ·have:=b3 i ⋯ hp
    rw[e1] at this;omega
   ·exact z
   ·have hz:i+1<t.place.size:=⋯
    have:=b2 (i+1) z;have h3:=G.ris.at hz (DR i);rw[e1] at h3;omega
  ·rw[Hr ⋯]
   dsimp only;exact h2 (by rw[eo,Ig,Hr ⋯];rfl)
end
section
variable {prog:Program}{w:World}{A:Around}{E:Value->Shared->Prop}{s:Shared}{a:Addr}{es:Array (Int×Value)}{ep:Nat}{t:SetTable}
def yV {Q:Value->Shared->Prop}(G:Gone w es t)(ha:s.heap.get? a=some 2#52)(h:Q 1#0 { s with heap:=s.heap.push (itO 0 0 es.size ep a) }):wpAny 0#7 A (pyIter (.ref a)) Q E s:=by
 have hT:s.TypeIs (.ref a) "set":=⟨_,ha,rfl⟩;refine wpAny_pyIter_slot hT F.slot_set_iter (HF F.slot_set_iter hT uS ?_ (F.args_set_iter_1 _));unfold Builtin.«frozenset.__iter__» Kx;refine GB (GD ?_);unfold Kw;refine GB (GB (IE ha rfl G.fits (GD ?_)));refine GB (show wpAny _ _ (setState a >>= _) _ _ _ from GB (HA ha rfl G.fits ?_));dsimp only;unfold setsByText;refine GB (GB (HW (GD (GD ?_))));have dz:∀ b:Bool,(!b&&1#55)=false:=λ b=>by rw[G.plain];cases b <;>rfl
 show wpAny _ _ (if (!(byT w)&&1#55)=true then _ else _) _ _ _
 rw[dz];simp only[Dx,if_false];refine GB (GD ?_);refine GB (wpAny_setEpoch_of ha rfl G.fits ?_);unfold newFields;refine GB (HM ?_);exact GD ⟨_,rfl,"set_iterator",_,⟨_,GF _ rfl,rfl⟩,slot_sin.lookup,h⟩
def yU {Q:Option Value->Shared->Prop}{I:Addr}{i slot:Nat}(G:Gone w es t)(hI:s.heap.get? I=some (itO slot i es.size ep a))(ha:s.heap.get? a=some 2#52)(hne:a≠I)(hs:byT w=false->below t.place slot=i)
  (hi:i<es.size) (h1:∀ v h',(df w a es ep)[i]?=some v->StS w I a es ep t (i+1) h'->(∀ b o,b≠I->s.heap.get? b=some o->h'.get? b=some o)->Q (some v) { s with heap:=h' }):
  wpAny 0#7 A 2#28 Q E s:=by
 have hT:s.TypeIs (.ref I) "set_iterator":=⟨_,hI,rfl⟩;unfold pyNext;refine GB (wpAny_attempt (Ja (name:=GG "__next__") hT slot_sin (HF slot_sin hT kU ?_ (ox _))));unfold Builtin.«set_iterator.__next__»;refine GB (GD ?_);refine GB (wpAny_fieldsOf hI rfl ?_);dsimp only;refine GB (IE ha rfl G.fits ?_);simp only[bne_self_eq_false,Dx,if_false];simp only[D9];refine GB (sJ G ha hs (λ v hv slot' hs'=>?_) λ hv=>?_)
 ·dsimp only
  refine GB (Ka hI 0#5 λ h₁ he₁ hs₁=>?_);replace hs₁:H0 I s.heap h₁:=hs₁;replace he₁:h₁.get? I=some (itO slot' i es.size ep a):=he₁;refine GB (Ka he₁ 0#5 λ h₂ he₂ hs₂=>?_);replace hs₂:H0 I h₁ h₂:=hs₂;replace he₂:h₂.get? I=some (itO slot' (i+1) es.size ep a):=by
   have e:((i+1:Nat):Int)=(i:Int)+1:=⋯
   unfold itO;rw[e];simpa[rawInt] using he₂
  have kp:∀ b o,b≠I->s.heap.get? b=some o->h₂.get? b=some o:=λ b o hb e=>hs₂.extBut b o hb (hs₁.extBut b o hb e)
  exact GD ⟨_,rfl,GD (h1 v h₂ hv ⟨slot',he₂,kp a _ hne ha,hs'⟩ kp)⟩
 ·rw[GY (by rw[da];exact hi)] at hv
  cases hv
def AB {Q:Option Value->Shared->Prop}{I:Addr}{slot:Nat}(hh:A.handled=none)(G:Gone w es t)(hI:s.heap.get? I=some (itO slot es.size es.size ep a))(ha:s.heap.get? a=some 2#52)(hs:byT w=false->below t.place slot=es.size)
  (h1:∀ h',(∀ b o,b≠I->s.heap.get? b=some o->h'.get? b=some o)->Q none { s with heap:=h' }):
  wpAny 0#7 A 2#28 Q E s:=by
 have hT:s.TypeIs (.ref I) "set_iterator":=⟨_,hI,rfl⟩;unfold pyNext;refine GB (wpAny_attempt (Ja (name:=GG "__next__") hT slot_sin (HF slot_sin hT kU ?_ (ox _))));unfold Builtin.«set_iterator.__next__»;refine GB (GD ?_);refine GB (wpAny_fieldsOf hI rfl ?_);dsimp only;refine GB (IE ha rfl G.fits ?_);simp only[bne_self_eq_false,Dx,if_false];simp only[D9];refine GB (sJ G ha hs (λ v hv slot' hs'=>?_) λ hv=>?_)
 ·rw[Hr (by rw[da];omega)] at hv
  cases hv
 ·dsimp only
  refine GB (wpAny_setField hI rfl 0#5 ?_);refine GB ?_
  simp only[newExc,newTuple];refine GB (HM ?_ (by size_fits));refine GB (m:=firstArgMember _ _) (Kf (a:=GN) (by first|rfl|(simp only[firstArgMember];rfl)) ?_);refine HM ?_ (by size_fits)
  simp only[raiseNew];refine GB (wpAny_handled ?_);rw[show A.in1.handled=none from hh];refine GB (GD (wpAny_throw ?_));refine GB (wpAny_isInstance (T:="StopIteration") (b:=true) ⟨_,GF _ rfl,rfl⟩ isSubtype_stop ?_);exact GD (h1 _ (((Heap.SameBut.update ..).extBut.push _).push _))
def ua (hh:A.handled=none)(G:Gone w es t)(I:Addr)(hne:a≠I):Walks prog w A I [I,a] [I] es.size (λ i v=>(df w a es ep)[i]?=some v) (StS w I a es ep t) where
 sub:=λ b hb=>by simp at hb;simp[hb]
 frame:=λ i h h' ⟨slot,h1,h2,h3⟩ hk=>⟨slot,hk I 0#5 _ h1,hk a 0#5 _ h2,h3⟩
 item:=λ i s Q E hi ⟨slot,h1,h2,h3⟩ hQ=>yU G h1 h2 hne h3 hi λ v h' hv hst hk=>hQ v h' s.toks hv hst λ b o hb e=>hk b o (λ z=>hb 2#57) e
 done:=λ s Q E ⟨slot,h1,h2,h3⟩ hQ=>AB hh G h1 h2 h3 λ h' hk=>hQ h' s.toks λ b o hb e=>hk b o (λ z=>hb 2#57) e
 self:=λ i s Q E ⟨slot,h1,h2,h3⟩ hQ=>by
  have hT:s.TypeIs (.ref I) "set_iterator":=⟨_,h1,rfl⟩;exact wpAny_pyIter_slot hT m7 (HF m7 hT tu (show wpAny _ _ (ret (.ref I)) _ _ s from GD ⟨_,rfl,"set_iterator",_,hT,slot_sin.lookup,hQ⟩) (uU _))
def vg (hT:s.TypeIs (.ref a) "set"){Q:Bool->Shared->Prop}(h:Q false s):wpAny 0#7 A (IK (.ref a)) Q E s:=by
 unfold IK;refine GB (Jd hT F.slot_set_len.lookup ?_);generalize hid:("set.__len__":String)=id0
 wp_delta
 rw[show splitId id0=some ("set","__len__") from by subst hid;decide +kernel];subst hid;refine GB (wpAny_isInstance (T:="set") (b:=true) hT (by rw[JA];kernel_rfl) ?_);refine wpAny_ite_split (λ hab=>absurd hab 0#2) (λ _=>?_);refine wpAny_ite_split (λ _=>?_) (λ hab=>absurd 0#6 hab);exact GB (wpAny_typeOf hT (GD h))
def zc (G:Gone w es t):KdlSrc prog w "set" a a es.size (λ i v=>(df w a es ep)[i]?=some v) (λ h=>h.get? a=some 2#52) where
 type:=λ s h=>⟨_,h,rfl⟩
 there:=λ h hok=>⟨GE hok,GE hok⟩
 keep:=λ h h' hok hk=>hk a 0#76 _ hok
 notList:=by decide
 notTuple:=by decide
 hint:=λ A E s Q hok h=>vg ⟨_,hok,rfl⟩ h
 iter:=λ A s hh hok=>⟨itO 0 0 es.size ep a,StS w s.heap.objs.size a es ep t,λ E Q h=>yV G hok h,ua hh G _ (Dy (GE hok)),0,GF _ rfl,GC _ hok,λ _=>by
  obtain⟨b1,b2,b3⟩:=og G.ris 0
  rcases Nat.eq_zero_or_pos (below t.place 0) with z|z
  ·exact z
  ·have:=b2 0 z;omega⟩
end
end Sts
namespace Dv
def tupleD:D->Bool->R
 |.lst ds,f=>.ok (.tup ds) (f || flatL ds)
 |_,_=>.bad
def onceStepL (σ:List 0#48)(k:List Int):List 0#48:=if σ.any (· == k) then σ else σ++[k]
def onceL (nss:List 0#48):List 0#48:=nss.foldl onceStepL []
def sortSet1D:D->Bool->R
 |.lst ds,f=>match tupsOf ds with
  |some nss=>if nss.length<2 then .ok (.lst ((lsort (onceL nss)).map λ ns=>.tup 0#67)) f else .bad
  |none=>.bad
 |_,_=>.bad
end Dv
namespace Sd
open PySem PySem.Spec PySem.W PySem.Calls PyProof.Rows L2 Sts
open Dv (D R RL EE EL EI RI Sl Out SS)
def fM {prog:Program}{w:World}:∀ {ws:List Value} {ns:List Int},IntsAre ws ns->ItemsAre 2#38 ns ws
 |_,_,.nil=>.nil
 |_,_,.cons n t r=>.cons (intKind_is _ _ _ _) (fM r)
def kH (nss:List (List Int)):∀ i,i<=nss.length->fY (λ j=>nss.getD j []) i=(nss.take i).foldl Dv.onceStepL []
 |0,_=>by simp[fY]
 |i+1,h=>by
  have hi:i<nss.length:=⋯
  unfold fY;rw[kH nss i ⋯,EW hi,Fi];have e:nss.getD i []=nss[i]:=by simp[Dg,Dk hi]
  simp only[e,DA,DH];rfl
section
variable {prog:Program}{w:World}{A:Around}{E:Value->Shared->Prop}{s:Shared}
def pD {T:String}{r d:Addr}{n:Nat}{P:Nat->Value->Prop}{OK:Heap->Prop}{Q:Value->Shared->Prop}{key:Nat->List Int}(Kd:KdlSrc prog w T r d n P OK)(hh:A.handled=none)(hok:OK s.heap)(h64:n<64)
  (hP:∀ i v,i<n->P i v->∃ b,v=.ref b/\IsK prog w s.heap (key i) b/\key i≠[])
  (h:∀ (h':Heap) (tk:Nat) (vs:List Value) (out:List Nat),vs.length=n->(∀ j v,vs[j]?=some v->P j v)->0#80->out.Perm (List.range n)->(∀ i j,i<=j->j<n->Dv.lexLe (key 2#55) (key 2#54)) ->
   Q (.ref h'.objs.size) { s with heap:=sortedHeap (h'.push 0#33) h'.objs.size vs (out.map λ i=>vs.getD i GN).toArray,toks:=tk }):
  wpAny 0#7 A (call (.builtin "sorted") [.ref r]) Q E s:=by
 have ln:n<=sizeLine:=by rw[GS];omega
 refine IV kind_sorted plain_sorted entry_sorted (args_sorted1 _) ?_
 unfold Builtin.«sorted»;refine GB (m:=checkCount "sorted" 1 1 _) (GD (GB (kdu_collect (A:=A.in1) Kd hh hok ln λ h' tk acc hk hacc=>?_)));have hl:acc.toList.length=n:=by rw[GX];exact hacc.1
 have hP':∀ j v,acc.toList[j]?=some v->P j v:=λ j v e=>hacc.2 j v (by rw[<- HQ];exact e)
 refine GB (JM ?_ (by rw[hl];exact ln));generalize acc.toList=vs at hl hP';have z2:(h'.push 0#33).get? h'.objs.size=some 0#33:=GF _ rfl;have item:∀ i,i<vs.length->∃ b,vs.getD i GN=.ref b/\IsK prog w s.heap (key i) b/\key i≠[]:=λ i hi=>by
  obtain⟨b,e1,e2⟩:=hP i vs[i] ⋯ (hP' i _ (Dk hi));exact⟨b,by rw[Dg,Dk hi];exact e1,e2⟩
 have old:∀ b o,s.heap.get? b=some o->b≠h'.objs.size/\(h'.push 0#33).get? b=some o:=λ b o q=>
  ⟨Dy (GE (hk b o q)),GC _ (hk b o q)⟩
 let keys:=(List.range n).map key
 have hkey:∀ i,i<n->keys.getD i []=key i:=λ i hi=>by simp[keys,Dg,EF hi]
 have hmem:∀ i,i<n->key i∈keys:=λ i hi=>List.mem_map.mpr ⟨i,List.mem_range.mpr hi,rfl⟩
 show wpAny _ _ _ _ _ { s with heap:=h'.push 0#33,toks:=tk }
 refine GB (G9 (HF slot_list_sort ⟨_,z2,rfl⟩ entry_list_sort (kM (s:={ s with heap:=h'.push 0#33,toks:=tk }) (κ:=tuples' true) (key:=λ i=>(Dv.rank keys (key i):Int)) z2 ⋯
  (λ h2 h3 k E' Q' q=>?_) (λ h2 h3 k i j C hi hj q=>?_) λ out a1 a2=>⟨_,rfl,GD ⟨_,rfl,h h' tk vs out hl hP' hk (by rw[<- hl];exact a1) λ i j hij hj=>?_⟩⟩) (args_list_sort _)))
 ·have tups:∀ (l:List Value),(∀ v∈l,v∈vs)->∃ fs,KatTups h3 l fs/\fs.length=l.length/\∀ f∈fs,∃ a t,f=Hk a t:=by
   intro l
   induction l with
   |nil=>exact λ _=>⟨[],.nil,rfl,λ f hf=>by cases hf⟩
   |cons v l ih=>
    intro hl;obtain⟨fs,g1,g2,g3⟩:=ih λ v hv=>hl v (De _ hv)
    obtain⟨i,hi,hv⟩:=Ei (hl v Dh);obtain⟨b,e1,⟨o,its,m,e2,e3,e4,e5⟩,e6⟩:=item i hi;rw[Dg,Dk hi] at e1;have e1:v=.ref b:=by rw[<- hv];exact e1
    subst e1;generalize key i=ns at e5 e6;have e7:o.data=.seq its.toList.toArray m:=by rw[e4]
    generalize its.toList=ws at e5 e7;cases e5 with
    |nil=>exact absurd rfl e6
    | @cons kk vv ks' vs' hq r=>
     obtain⟨t,et⟩:=Ik hq;subst et;refine⟨Hk kk t::fs,.cons (k _ _ (old b o e2).1 (old b o e2).2) e3 e7 0#5 g1,by simp[g2],λ f hf=>?_⟩
     rcases List.mem_cons.mp hf with rfl|hf
     ·exact⟨kk,t,rfl⟩
     ·exact g3 f hf
  obtain⟨fs,g1,g2,g3⟩:=tups vs λ v hv=>hv
  refine kat_kind (T:=.type "int") g1 ⋯ (λ v hv=>?_) 0#2 (show Q' (tuples' (GR "int" != GR "tuple")) _ from q);obtain⟨a,t,rfl⟩:=g3 v hv;exact .now
 ·obtain⟨b,e1,⟨o,its,m,e2,e3,e4,e5⟩,e6⟩:=item i hi
  obtain⟨b',f1,⟨o',its',m',f2,f3,f4,f5⟩,f6⟩:=item j hj;unfold kas_ask;rw[e1,f1];have ii:∀ {ns:List Int} {ws:List Value},ItemsAre 2#38 ns ws->IntsAre ws ns:=λ {ns ws} q=>by
   induction q with
   |nil=>exact .nil
   |cons hq _ ih=>obtain⟨t,et⟩:=Ik hq;subst et;exact .cons _ _ ih
  rw[Dv.rank_lt (hmem i ⋯)] at q;refine kat_lt (k _ _ (old b o e2).1 (old b o e2).2) (by rw[e4]) (k _ _ (old b' o' f2).1 (old b' o' f2).2) (by rw[f4]) (nM 0 (ii e5) (ii f5) ?_ q);have l1:(key i).length=its.size:=by have:=e5.length;simpa using this
  have l2:(key j).length=its'.size:=by have:=f5.length;simpa using this
  rw[l1,l2]
 ·have:=a2 i j hij ⋯
  have ho:out.length=vs.length:=by rw[a1.length_eq,D1]
  have rg:∀ k,k<n->out.getD k 0<n:=λ k hk=>by
   have h1:out.getD k 0∈out:=by
    rw[Dg,Dk ⋯];exact D6 _
   have:=List.mem_range.mp (a1.mem_iff.mp h1);omega
  unfold Dv.lexLe;rw[<- Dv.rank_lt (hmem _ (rg j hj))];exact decide_eq_false ⋯
end
def wR (nss:List (List Int)):(Dv.onceL nss).length<=nss.length:=by
 have:∀ (l σ:List 0#48),(l.foldl Dv.onceStepL σ).length<=σ.length+l.length:=by
  intro l
  induction l with
  |nil=>intro σ;simp
  |cons k r ih=>
   intro σ;rw[DA];refine D4 (ih _) ?_
   unfold Dv.onceStepL
   split <;>simp <;>omega
 have:=this nss [];rw[Dp,Et] at this;exact this
section
variable {C:Ctx}{a:Expr}{f:EE}{pos:Pos}
def ni {X:Cx}{t:TE}{p p2 pos2:Pos}(hcl:X.calm=true)(hu:X.A.units+64<cLine)(hm:X.mg "sorted"=none)(hg:Gl X "sorted")(hm2:X.mg "set"=none)(hg2:Gl X "set")(ha:PE X a t)
  (he:starEach [.Call 1#78 [a] [] pos2] X.env=[(false,eval (.Call 1#78 [a] [] pos2) X.env)]) (he2:starEach [a] X.env=[1#1]):
  PE X (.Call (.Name "sorted" p) [.Call 1#78 [a] [] pos2] [] pos) (λ σ H Q=>t σ H λ x H1=>∃ q vs nss,x=.ref q/\SqX X.K H1 q vs/\vs.length<2/\Paired (ItT H1) vs nss /\
   ∀ out:List Nat,(∀ i∈out,i<vs.length)->(out.map λ i=>nss.getD i [])=Dv.lsort (Dv.onceL nss)->∀ l,H1 l=none->Q (.ref l) (upd H1 l (.lst (out.map λ i=>vs.getD i .non)))):=by
 intro pins s σ H Q I h;refine G1 (cY I hg hm Ie ?_ 0#2 0#2);refine Iw ?_ he rfl
 rw[he];show wpAny _ _ (spliced ((false,eval (.Call 1#78 [a] [] pos2) X.env)::backTo pos [])) _ _ s
 refine HH (G1 (cY I hg2 hm2 PyProof.Rows.boot_set ?_ 0#2 0#2));refine GT ?_ he2 rfl
 rw[he2];show wpAny _ _ (spliced (1#1::backTo pos2 [])) _ _ s
 refine HH (thn 0#51 λ u s1 ⟨x,H1,I1,r1,q,vs,nss,e1,hq,h64,hit,go⟩=>?_);subst e1;cases r1;refine HL ?_
 obtain⟨its,n,rv,e,z⟩:=Inv.listX I1 hq;have hl:=rv.length;have hn:=hit.length;have item:∀ i,i<its.length->∃ b,its[i]?=some (.ref b)/\IsK X.prog X.w s1.heap 1#64 b/\nss.getD i []≠[]:=λ i hi=>by
  obtain⟨u,h1,h2⟩:=jT rv (i:=i) ⋯;obtain⟨b,hb,hs,hne⟩:=mC hit (i:=i) ⋯ [];rw[hb] at h2;obtain⟨_,ws,rw',o,ew,hc,m,hd⟩:=hs.ok I1.hok;have h2:u=.ref b:=h2;subst h2;exact⟨b,h1,⟨o,ws.toArray,m,ew,hc,hd,by simpa using fM (intsAre_of rw')⟩,hne⟩
 have hz:its.toArray.size=its.length:=Ds ..;refine tV (prog:=X.prog) (w:=X.w) (B:=λ ks v=>∃ j,j<its.length/\its[j]?=some v/\nss.getD j []=ks) (items:=its.toArray) (val:=λ j=>nss.getD j []) (I1.ok.hd hcl) ⋯ ⟨_,e,rfl,n,rfl⟩ (by rw[hz];omega)
  (λ j hj=>?_) λ h' tk hS hk=>?_
 ·rw[hz] at hj
  obtain⟨b,e1,e2,_⟩:=item j hj;exact⟨b,by simpa using e1,e2,j,hj,e1,rfl⟩
 obtain⟨es,ep,tb,V,pl,p1,p2',p3⟩:=hS;rw[hz] at p2' p3;have em:fY (λ j=>nss.getD j []) its.length=Dv.onceL nss:=by
  rw[kH nss its.length ⋯,Ex ⋯];rfl
 rw[em] at p2' p3;refine HL ?_
 have po:(df X.w s1.heap.objs.size es ep).toList.Perm (pl.map (·.2)):=ord_perm.trans (p1.map _);have oz:(df X.w s1.heap.objs.size es ep).size=(Dv.onceL nss).length:=by
  have:=po.length_eq;rw[GX,Di,p2'] at this;exact this
 have esz:es.size=(Dv.onceL nss).length:=by rw[<- oz,da]
 have ol:=wR nss;have inx:∀ i,∃ j,i<es.size->∀ v,(df X.w s1.heap.objs.size es ep)[i]?=some v->j<its.length/\its[j]?=some v:=λ i=>by
  by_cases hi:i<es.size
  ·have hi':i<(df X.w s1.heap.objs.size es ep).size:=by rw[da];exact hi
   have hm:(df X.w s1.heap.objs.size es ep)[i]∈pl.map (·.2):=po.mem_iff.mp 0#5;obtain⟨m,hm',em'⟩:=Ei hm;rw[Di] at hm';obtain⟨_,j,j1,j2,_⟩:=p3 m hm' ⋯;refine⟨j,λ _ v hv=>⟨j1,?_⟩⟩;rw[GY hi'] at hv;rw[j2,<- Option.some.inj hv,<- em',Ec]
  ·exact⟨0,λ z=>absurd z hi⟩
 let jx:=λ i=>Classical.choose (inx i)
 have hjx:∀ i,i<es.size->∀ v,(df X.w s1.heap.objs.size es ep)[i]?=some v->jx i<its.length/\its[jx i]?=some v:=λ i=>Classical.choose_spec (inx i)
 have kp:∀ {ks b},IsK X.prog X.w s1.heap ks b->IsK X.prog X.w h' ks b:=λ {ks b} ⟨o,its,n,ho,r⟩=>⟨o,its,n,hk b o ho,r⟩
 have hat:∀ i,i<es.size->∃ v,(df X.w s1.heap.objs.size es ep)[i]?=some v:=λ i hi=>⟨_,GY (by rw[da];exact hi)⟩
 have keyOf:∀ i,i<es.size->∀ v,(df X.w s1.heap.objs.size es ep)[i]?=some v->∃ b,v=.ref b/\IsK X.prog X.w h' (nss.getD (jx i) []) b/\nss.getD (jx i) []≠[]:=λ i hi v hv=>by
  obtain⟨j1,j2⟩:=hjx i hi v hv;obtain⟨b,e1,e2,e3⟩:=item _ j1;rw[j2] at e1;exact⟨b,Option.some.inj e1,kp e2,e3⟩
 have pk:((List.range es.size).map λ i=>nss.getD (jx i) []).Perm (Dv.onceL nss):=by
  let g:Value->List Int:=λ v=>Classical.epsilon λ ks=>∃ b,v=.ref b/\IsK X.prog X.w h' ks b
  have gk:∀ {b ks},IsK X.prog X.w h' ks b->g (.ref b)=ks:=λ {b ks} hb=>by
   have ex:∃ ks,∃ b',GH b=.ref b'/\IsK X.prog X.w h' ks b':=⟨ks,b,rfl,hb⟩;obtain⟨b',e1,e2⟩:=Classical.epsilon_spec ex;injection e1 with e1
   subst e1;exact e2.inj hb
  have e1:(List.range es.size).map (λ i=>nss.getD (jx i) [])=(df X.w s1.heap.objs.size es ep).toList.map g:=by
   refine EZ (by simp[da]) λ i h1 h2=>?_
   rw[Di,D1] at h1;obtain⟨v,hv⟩:=hat i h1;obtain⟨b,rfl,hb,_⟩:=keyOf i h1 v hv;have hi':i<(df X.w s1.heap.objs.size es ep).size:=by rw[da];exact h1
   rw[GY hi'] at hv;simp only[Ec,FP,Array.getElem_toList];rw[Option.some.inj hv,gk hb]
  have e2:(pl.map (·.2)).map g=Dv.onceL nss:=by
   refine EZ (by simp[p2']) λ i h1 h2=>?_
   rw[Di,Di] at h1;obtain⟨⟨b,e3,hb⟩,_⟩:=p3 i h1 h2;simp only[Ec,e3];exact gk hb
  rw[e1,<- e2];exact po.map g
 have I2:L2.Inv X pins σ H1 { s1 with heap:=h',toks:=tk }:=I1.kept hk;refine pD (s:={ s1 with heap:=h',toks:=tk }) (key:=λ i=>nss.getD (jx i) []) (zc (prog:=X.prog) V.gone) (I2.ok.hd hcl) V.obj ⋯ (λ i v hi hv=>keyOf i hi v hv) λ h2 tk2 vs2 out hvl hvP hk2 hp hs=>?_
 have rg:∀ i∈out,i<es.size:=λ i hi=>List.mem_range.mp (hp.mem_iff.mp hi)
 have ho:out.length=es.size:=by rw[hp.length_eq,D1]
 have vat:∀ i,i<es.size->vs2.getD i GN=its.getD (jx i) GN:=λ i hi=>by
  have hi':i<vs2.length:=⋯
  obtain⟨j1,j2⟩:=hjx i hi vs2[i] (hvP i _ (Dk hi'));rw[Dg,Dk hi',Dg,j2]
 have jr:∀ i∈out.map jx,i<vs.length:=λ i hi=>by
  obtain⟨m,hm,rfl⟩:=List.mem_map.mp hi;obtain⟨v,hv⟩:=hat m (rg m hm);have:=(hjx m (rg m hm) v hv).1;omega
 have fin:((out.map jx).map λ i=>nss.getD i [])=Dv.lsort (Dv.onceL nss):=by
  rw[DV];refine Dv.sorted_one (((hp.map λ i=>nss.getD (jx i) []).trans pk).trans (Dv.lsort_perm _).symm) ?_ (Dv.lsort_sorted _)
  rw[Fg];intro i j hi hj hij;rw[Di] at hi hj;have:=hs i j (EB hij) ⋯;rw[Ec,Ec];simpa[Dg,Dk hi,Dk hj] using this
 have eo:(out.map λ i=>vs2.getD i GN)=(out.map jx).map λ i=>its.getD i GN:=by
  rw[DV];exact D2 λ i hi=>vat i (rg i hi)
 have z3:(h2.push (seqObj "list" vs2.toArray 0)).get? h2.objs.size=some (seqObj "list" vs2.toArray 0):=GF _ rfl;obtain⟨ep3,hat3⟩:=sortedHeap_at (out:=(out.map λ i=>vs2.getD i GN).toArray) z3;have old:∀ b o,s1.heap.get? b=some o->(sortedHeap (h2.push (seqObj "list" vs2.toArray 0)) h2.objs.size vs2 (out.map λ i=>vs2.getD i GN).toArray).get? b=some o:=λ b o q=>by
  have q2:=hk2 b o (hk b o q);have hlt:=GE q2;rw[sortedHeap_old (Dy hlt) (by rw[size_push'];exact D8 hlt)];exact GC _ q2
 have hsz:s1.heap.objs.size<=h2.objs.size:=EB (GE (hk2 _ _ V.obj));have hf:H1 h2.objs.size=none:=I1.hok.fresh hsz;refine⟨.ref h2.objs.size,_,I1.laid (t':=tk2) (o:=.lst ((out.map jx).map λ i=>vs.getD i .non)) old hsz ?_,rfl,go (out.map jx) jr fin _ hf⟩;rw[eo] at hat3 ⊢;refine⟨?_,(out.map jx).map λ i=>its.getD i GN,ep3,gX rv (out.map jx) jr,by simpa[seqObj] using hat3⟩;rw[Di,Di,GS];omega
def nR {p p2 pos2:Pos}(hm:C.X.mg "sorted"=none)(hg:Gl C.X "sorted")(hm2:C.X.mg "set"=none)(hg2:Gl C.X "set")(ha:SE C a f)
  (he:autoParam (starEach [.Call 1#78 [a] [] pos2] C.X.env=[(false,eval (.Call 1#78 [a] [] pos2) C.X.env)]) ZF._auto_1) (he2:autoParam 0#9 ZF._auto_1) (hcl:autoParam 0#61 ZF._auto_1):
  SE C (.Call (.Name "sorted" p) [.Call 1#78 [a] [] pos2] [] pos) (Dv.eB1 Dv.sortSet1D f):=by
 obtain⟨t,pa,qa⟩:=ha;refine⟨_,ni hcl C.un hm hg hm2 hg2 pa he he2,λ σ H Hv ρ Q e s w=>?_⟩;refine qa.step e 1#7 w λ v d fr Hv1 H1 _ x1 _ rx n1 q=>?_
 cases d with
 |lst ds=>
  simp only[Dv.sortSet1D] at q;cases hi:Dv.tupsOf ds with
  |none=>rw[hi] at q;exact Zf q
  |some nss=>
   rw[hi] at q;by_cases h64:nss.length<2
   ·simp only[h64,if_true] at q
    obtain⟨ed,hne⟩:=qm hi;subst ed;obtain⟨l,vs,rfl,h1,h2,h3⟩:=lA x1 rx n1;have hl:=h2.length;rw[Di] at hl;refine⟨l,vs,nss,rfl,h1,⋯,Paired.mapM (qq hne h2) λ _ _ _ z=>z.same x1.vh,λ out hin hp p hpn=>?_⟩;have hin':∀ i∈out,i<(nss.map λ ns=>D.tup 0#67).length:=λ i hi=>by rw[Di,<- hl];exact hin i hi
    have fin:∀ {K:Frag} {H:Hp},RpL K H (nss.map λ ns=>D.tup 0#67) vs->RpL K H ((Dv.lsort (Dv.onceL nss)).map λ ns=>D.tup 0#67) (out.map λ i=>vs.getD i .non):=λ {K H} r=>by
     have r2:=RpL.pick r out hin';have e3:(out.map λ i=>(nss.map λ ns=>D.tup 0#67).getD i .non)=(out.map λ i=>nss.getD i []).map λ ns=>D.tup 0#67:=by
      rw[DV];refine D2 λ i hi=>?_
      have h:i<nss.length:=by have:=hin i hi;omega
      simp[Dg,Dk h]
     rw[e3,hp] at r2;exact r2
    exact Ok.newL q x1 (fin h2) (λ z=>fin (h3 z)) p hpn
   ·simp only[h64,if_false] at q
    exact Zf q
 |_=>exact Zf q
end
open PySem PySem.Spec PyProof.Rows L2
section
variable {C:Ctx}{a:Expr}{f:EE}{pos:Pos}
def xp:C1S C (.type "tuple") Dv.tupleD:=by
 refine⟨_,j9,λ x d fr H Hv H1 Hv1 W Q e rx n q=>?_⟩;cases d with
 |lst ds=>
  cases fr with
  |true=>
   have rn:=n rfl;unfold Rp at rn;obtain⟨l,vs,rfl,h1,h2⟩:=rn;have h1':SqX C.X.K H1 l vs:=by
    rcases h1 with h1|⟨its,n,e,_⟩
    ·exact .inl 1#47
    ·simp at e
   exact⟨l,vs,rfl,.inl ⟨h1'.seq,λ p hp=>Ok.newT q e ((RpL.frag h2).same e.news) (λ _=>h2) p hp⟩⟩
  |false=>
   unfold Rp at rx;obtain⟨l,vs,rfl,h1,h2⟩:=rx;exact⟨l,vs,rfl,.inl ⟨(h1.same e.vh).seq,λ p hp=>Ok.newT q e h2 (λ z=>h2.flat 1#82) p hp⟩⟩
 |_=>exact Zf q
def tK {p:Pos}(hm:C.X.mg "tuple"=none)(hg:Gl C.X "tuple")(ha:SE C a f)(he:autoParam 0#9 ZF._auto_1):SE C (.Call (.Name "tuple" p) [a] [] pos) (Dv.eB1 Dv.tupleD f):=zF xp hg hm (by first|exact PyProof.Rows.boot_tuple|rfl|kernel_rfl) ha 0#2 0#2 he
end
end Sd
namespace Cw
open Dv (eAllF eAnd eB1 eB2 eBl eCall eCm eComp eCompT eDict0 eDix eDnin eFld eInt eIx eLst eNeg eNot eOp eOr eSlice eStr eTup eVar iDown iEnum iRange iRange2 iSeq lCons lNil sApp sAppF sAppG sAug sAugIx sCons sDMove sDPut sExpr sFor sForR sForT sIf sKill sNil sPut sRaise sRet sRetO sRetT sSet sSetD sSetF sSetG sSought sTryAs sWhile)
open Dv (D R)
def b_Q05:Dv.SS:=
 (sIf (eOr (eCm .lt (eVar 0) (eInt 1)) (eCm .gt (eVar 0) (eInt 60))) (sRaise "NoWheel") sNil)
def F_Q05:List D->R:=Dv.fn 1 b_Q05
def b_Q04_l1:Dv.SS:=
 (sCons (sIf (eOr (eCm .le (eVar 3) (eVar 2)) (eCm .ge (eVar 3) (eVar 1))) (sRaise "NoBeat") sNil) (sSetG [3] 2 (eVar 3)))
def b_Q04_t2:Dv.SS:=
 (sFor [0] 3 (iSeq (eVar 0)) b_Q04_l1)
def b_Q04_t1:Dv.SS:=
 (sCons (sSet 2 1#65) b_Q04_t2)
def b_Q04:Dv.SS:=
 (sCons (sIf (eCm .eq 1#9 (eInt 0)) (sRaise "NoBeat") sNil) b_Q04_t1)
def F_Q04:List D->R:=Dv.fn 4 b_Q04
def b_Q03_t1:Dv.SS:=
 (sExpr (eCall F_Q04 (lCons (eVar 1) 0#17)))
def b_Q03:Dv.SS:=
 (sCons (sExpr (eCall F_Q05 0#17)) b_Q03_t1)
def F_Q03:List D->R:=Dv.fn 2 b_Q03
def b_Q0G_t3:Dv.SS:=
 (sRet (eOp .mod (eOp .mul (eVar 2) (eVar 2)) (eInt 2147483629)))
def b_Q0G_t2:Dv.SS:=
 (sCons (sIf (eCm .gt 1#9 (eInt 0)) (sSet 2 (eOp .mod (eOp .add (eOp .mul (eIx (eVar 0) (eOp .mod (eVar 1) 1#9)) (eInt 48271)) (eOp .mul (eVar 1) (eInt 7919))) (eInt 2147483647))) sNil) b_Q0G_t3)
def b_Q0G_t1:Dv.SS:=
 (sCons (sSet 2 (eOp .add (eOp .mul (eInt 7919) (eVar 1)) (eInt 5))) b_Q0G_t2)
def b_Q0G:Dv.SS:=
 (sCons (sIf (eCm .lt (eVar 1) 1#9) (sRet (eIx (eVar 0) (eVar 1))) sNil) b_Q0G_t1)
def F_Q0G:List D->R:=Dv.fn 3 b_Q0G
def c_Q0Q_1:Dv.EE:=(eComp (eOp .mod (eVar 0) (eVar 1)) 0#72 [0] (iSeq (eVar 1)))
def b_Q0Q_t3:Dv.SS:=
 (sRetO 2)
def b_Q0Q_t2:Dv.SS:=
 (sCons (sExpr (eCall F_Q03 (lCons (eVar 0) (lCons (eVar 2) lNil)))) b_Q0Q_t3)
def b_Q0Q_t1:Dv.SS:=
 (sCons (sSet 2 (eB1 Dv.sortedD c_Q0Q_1)) b_Q0Q_t2)
def b_Q0Q:Dv.SS:=
 (sCons (sExpr (eCall F_Q05 0#17)) b_Q0Q_t1)
def F_Q0Q:List D->R:=Dv.fn 3 b_Q0Q
def c_Q12_1:Dv.EE:=(eComp (eOp .add (eVar 0) (eVar 1)) 0#72 [2] (iSeq (eVar 1)))
def b_Q12_t1:Dv.SS:=
 (sRet (eCall F_Q0Q (lCons (eVar 0) (lCons c_Q12_1 lNil))))
def b_Q12:Dv.SS:=
 (sCons 1#90 b_Q12_t1)
def F_Q12:List D->R:=Dv.fn 3 b_Q12
def c_Q0A_1:Dv.EE:=(eComp (eCall F_Q12 (lCons (eVar 1) (lCons (eVar 2) 0#17))) 0#72 [0,1] (iRange (eVar 0)))
def b_Q0A_t1:Dv.SS:=
 (sRet (eB1 Dv.minD c_Q0A_1))
def b_Q0A:Dv.SS:=
 (sCons 1#90 b_Q0A_t1)
def F_Q0A:List D->R:=Dv.fn 2 b_Q0A
def b_Q02_l1:Dv.SS:=
 (sPut 1 (eVar 2) (eInt 1))
def b_Q02_t3:Dv.SS:=
 (sRetO 1)
def b_Q02_t2:Dv.SS:=
 (sCons (sFor [0] 2 (iSeq (eVar 0)) b_Q02_l1) b_Q02_t3)
def b_Q02_t1:Dv.SS:=
 (sCons (sSet 1 (eOp .mul (eLst 0#68) (eOp .add (eIx (eVar 0) 1#65) (eInt 1)))) b_Q02_t2)
def b_Q02:Dv.SS:=
 (sCons (sIf (eCm .eq 1#9 (eInt 0)) (sRet 2#48) sNil) b_Q02_t1)
def F_Q02:List D->R:=Dv.fn 3 b_Q02
def b_Q14_l1:Dv.SS:=
 (sAug 1 .sub (eInt 1))
def b_Q14_t2:Dv.SS:=
 (sRet (eSlice (eVar 0) none (some (eVar 1))))
def b_Q14_t1:Dv.SS:=
 (sCons (sWhile 100000 (eAnd (eCm .gt (eVar 1) (eInt 0)) (eCm .eq (eIx (eVar 0) (eOp .sub (eVar 1) (eInt 1))) (eInt 0))) b_Q14_l1) b_Q14_t2)
def b_Q14:Dv.SS:=
 (sCons (sSet 1 1#9) b_Q14_t1)
def F_Q14:List D->R:=Dv.fn 2 b_Q14
def b_Q11_l1:Dv.SS:=
 (sAugIx 3 .sub (eOp .add (eVar 5) (eVar 6)) (eOp .mul (eIx (eVar 4) (eVar 5)) (eVar 7)))
def b_Q11_l2:Dv.SS:=
 (sCons (sPut 4 (eVar 5) (eIx (eVar 3) (eOp .add (eVar 5) (eVar 2)))) (sForT [1] (Dv.tupTo [6,7]) (iEnum (eVar 1)) b_Q11_l1))
def b_Q11_t5:Dv.SS:=
 (sRetT 4 (eCall F_Q14 (lCons (eSlice (eVar 3) none (some (eVar 2))) lNil)))
def b_Q11_t4:Dv.SS:=
 (sCons (sForR 5 (iDown (eOp .sub (eB1 Dv.lenD (eVar 4)) (eInt 1)) 1#65) b_Q11_l2) b_Q11_t5)
def b_Q11_t3:Dv.SS:=
 (sCons (sSet 4 (eOp .mul (eLst 0#68) (eOp .sub 1#9 (eVar 2)))) b_Q11_t4)
def b_Q11_t2:Dv.SS:=
 (sCons (sSet 3 (eB1 Dv.listD (eVar 0))) b_Q11_t3)
def b_Q11_t1:Dv.SS:=
 (sCons (sSet 2 (eOp .sub (eB1 Dv.lenD (eVar 1)) (eInt 1))) b_Q11_t2)
def b_Q11:Dv.SS:=
 (sCons (sIf (eOr (eCm .eq (eB1 Dv.lenD (eVar 1)) (eInt 0)) (eCm .ne (eIx (eVar 1) 1#65) (eInt 1))) (sRaise "NoPart") sNil) b_Q11_t1)
def F_Q11:List D->R:=Dv.fn 8 b_Q11
def c_Q07_1:Dv.EE:=(eComp (eVar 0) (eCm .eq (eOp .mod (eVar 1) (eVar 0)) (eInt 0)) [0] (iRange2 (eInt 1) (eOp .add (eVar 0) (eInt 1))))
def b_Q07_t1:Dv.SS:=
 (sRet c_Q07_1)
def b_Q07:Dv.SS:=
 (sCons (sIf (eOr (eCm .lt (eVar 0) (eInt 1)) (eCm .gt (eVar 0) (eInt 60))) (sRaise "NoPart") sNil) b_Q07_t1)
def F_Q07:List D->R:=Dv.fn 1 b_Q07
def b_Q0V_l1:Dv.SS:=
 (sSet 3 (eIx (eCall F_Q11 (lCons (eVar 3) (lCons (eDix (eVar 1) (eVar 4)) lNil))) (eInt 0)))
def b_Q0V_l2:Dv.SS:=
 (sCons (sSet 3 (eOp .add (eOp .add (eLst (lCons 1#65 lNil)) (eOp .mul (eLst 0#68) (eOp .sub (eVar 2) (eInt 1)))) (eLst (lCons (eInt 1) lNil)))) (sCons (sFor [2] 4 (iSeq (eSlice (eCall F_Q07 (lCons (eVar 2) lNil)) none (some 1#65))) b_Q0V_l1) (sDMove 1 3 (eVar 2))))
def b_Q0V_t2:Dv.SS:=
 (sRetO 1)
def b_Q0V_t1:Dv.SS:=
 (sCons (sFor [0] 2 (iSeq (eCall F_Q07 0#17)) b_Q0V_l2) b_Q0V_t2)
def b_Q0V:Dv.SS:=
 (sCons (sSetD 1 eDict0) b_Q0V_t1)
def F_Q0V:List D->R:=Dv.fn 5 b_Q0V
def b_Q0P:Dv.SS:=
 (sRet (eCm .eq (eIx (eCall F_Q11 (lCons (eCall F_Q02 0#17) (lCons (eVar 1) lNil))) (eInt 1)) 2#48))
def F_Q0P:List D->R:=Dv.fn 2 b_Q0P
def c_Q0U_1:Dv.EE:=(eComp (eVar 0) (eCall F_Q0P (lCons (eVar 1) (lCons (eDix (eVar 2) (eVar 0)) lNil))) [1,2] (iSeq 0#56))
def b_Q0U_t2:Dv.SS:=
 (sRet c_Q0U_1)
def b_Q0U_t1:Dv.SS:=
 (sCons (sSetD 2 (eCall F_Q0V 0#17)) b_Q0U_t2)
def b_Q0U:Dv.SS:=
 (sCons 1#90 b_Q0U_t1)
def F_Q0U:List D->R:=Dv.fn 3 b_Q0U
def b_Q0Y:Dv.SS:=
 (sRet (eIx (eCall F_Q07 0#17) (eInt 1)))
def F_Q0Y:List D->R:=Dv.fn 1 b_Q0Y
def c_Q0C_1:Dv.EE:=(eComp (eCm .eq (eOp .mod (eVar 0) (eVar 1)) (eInt 0)) 0#72 [1] (iSeq 0#56))
def b_Q0C_t1:Dv.SS:=
 (sRet (eB1 Dv.allD c_Q0C_1))
def b_Q0C:Dv.SS:=
 (sCons (sSet 1 (eCall F_Q0Y 0#17)) b_Q0C_t1)
def F_Q0C:List D->R:=Dv.fn 2 b_Q0C
def c_Q0Z_1:Dv.EE:=(eComp (eVar 0) (eCall F_Q0C 0#17) [] (iSeq 0#56))
def b_Q0Z_t1:Dv.SS:=
 (sRet c_Q0Z_1)
def b_Q0Z:Dv.SS:=
 (sCons (sExpr (eCall F_Q05 0#17)) b_Q0Z_t1)
def F_Q0Z:List D->R:=Dv.fn 1 b_Q0Z
def c_Q0X_1:Dv.EE:=(eComp (eVar 0) (eCm .isin (eVar 0) (eVar 1)) [2] (iSeq (eCall F_Q0Z 0#17)))
def b_Q0X_t1:Dv.SS:=
 (sRet c_Q0X_1)
def b_Q0X:Dv.SS:=
 (sCons (sSet 2 (eCall F_Q0U 0#11)) b_Q0X_t1)
def F_Q0X:List D->R:=Dv.fn 3 b_Q0X
def b_Q08_l1:Dv.SS:=
 (sAug 2 .mul (eCall F_Q0Y (lCons (eVar 3) lNil)))
def b_Q08_t2:Dv.SS:=
 (sRet (eCm .eq (eVar 2) (eB1 Dv.lenD (eVar 1))))
def b_Q08_t1:Dv.SS:=
 (sCons (sFor [0,1] 3 (iSeq (eCall F_Q0X 0#11)) b_Q08_l1) b_Q08_t2)
def b_Q08:Dv.SS:=
 (sCons (sSet 2 (eInt 1)) b_Q08_t1)
def F_Q08:List D->R:=Dv.fn 4 b_Q08
def b_Q0W_l1:Dv.SS:=
 (sDPut [] 1 (eVar 4) 0#72)
def b_Q0W_l2:Dv.SS:=
 (sFor [3] 4 (iSeq (eVar 3)) b_Q0W_l1)
def b_Q0W_t2:Dv.SS:=
 (sRetO 1)
def b_Q0W_t1:Dv.SS:=
 (sCons (sForT [0] (Dv.tupTo [2,3]) (iSeq (eVar 0)) b_Q0W_l2) b_Q0W_t2)
def b_Q0W:Dv.SS:=
 (sCons (sSet 1 eDict0) b_Q0W_t1)
def F_Q0W:List D->R:=Dv.fn 5 b_Q0W
def c_Q13_1:Dv.EE:=(eComp (eCall F_Q12 (lCons (eVar 1) (lCons (eVar 2) 0#17))) 0#72 [0,1] (iRange (eVar 0)))
def c_Q13_2:Dv.EE:=(eComp (eOp .mod (eOp .sub (eVar 2) (eVar 0)) (eVar 1)) 0#72 [0,4] (iSeq (eVar 1)))
def c_Q13_3:Dv.EE:=(eComp (eTup (lCons (eVar 0) (lCons (eIx (eVar 1) (eVar 0)) lNil))) 0#72 [2] (iSeq (eVar 5)))
def b_Q13_l1:Dv.SS:=
 (sCons (sSet 5 c_Q13_2) (sAppG [2,5] 3 c_Q13_3))
def b_Q13_t3:Dv.SS:=
 (sRetO 3)
def b_Q13_t2:Dv.SS:=
 (sCons (sFor [] 4 (iRange (eVar 0)) b_Q13_l1) b_Q13_t3)
def b_Q13_t1:Dv.SS:=
 (sCons (sSet 3 2#48) b_Q13_t2)
def b_Q13:Dv.SS:=
 (sCons (sSetG [0,1] 2 c_Q13_1) b_Q13_t1)
def F_Q13:List D->R:=Dv.fn 6 b_Q13
def b_Q06_t1:Dv.SS:=
 (sRet (eCm .eq (eOp .mod (eVar 0) (eB1 Dv.lenD (eVar 1))) (eInt 0)))
def b_Q06:Dv.SS:=
 (sCons 1#90 b_Q06_t1)
def F_Q06:List D->R:=Dv.fn 2 b_Q06
def dI:Dv.EE:=(eComp (eVar 0) (eDnin (eVar 0) (eVar 1)) [2] (iRange (eB1 Dv.lenD (eFld "ways" (eVar 0)))))
def gf:Dv.EE:=(eComp (eVar 0) (eB2 Dv.dinD (eVar 0) (eVar 1)) [2] (iSeq (eIx (eVar 6) (eInt 1))))
def e9:Dv.EE:=(eCompT 2 (eVar 0) 0#72 [] (iSeq (eFld "laid" (eVar 1))))
def kW:Dv.Wk:=⟨F_Q0W,(eB1 Dv.sortedD e9),(eB1 Dv.minLD dI),gf⟩
def nS:Dv.EE:=(eCall F_Q13 0#11)
def mY:Dv.EE:=(eLst (lCons (eTup (lCons (eInt 0) (lCons (eVar 1) lNil))) lNil))
def b_Q00_t1:Dv.SS:=
 (sRet (eB1 Dv.sortedLD (eAllF kW 2#60 0#11)))
def b_Q00:Dv.SS:=
 (sCons (sIf (eNot (eCall F_Q06 0#11)) (sRet 2#48) sNil) b_Q00_t1)
def F_Q00:List D->R:=Dv.fn 2 b_Q00
def b_Q10_t2:Dv.SS:=
 (sSought kW 2#60 0#11 2 3)
def b_Q10_t1:Dv.SS:=
 (sCons (sIf (eNot (eCall F_Q08 0#11)) (sRet (eTup (lCons (eStr [98,97,114,114,101,100]) (lCons (eStr [112,97,114,116,115]) lNil)))) sNil) b_Q10_t2)
def b_Q10:Dv.SS:=
 (sCons (sIf (eNot (eCall F_Q06 0#11)) (sRet (eTup (lCons (eStr [98,97,114,114,101,100]) (lCons (eStr [99,111,117,110,116]) lNil)))) sNil) b_Q10_t1)
def F_Q10:List D->R:=Dv.fn 4 b_Q10
def b_Q0K_t3:Dv.SS:=
 (sRet (eOp .add (eVar 1) (eLst (lCons (eB1 (Dv.isXD ["WheelError","NoWheel","NoBeat","NoPart","NoRule","NoWindow","NoPair","NoText","NoName","NoNumber","NoDeed","TooMany"] ["ValueError"]) (eVar 0)) lNil))))
def b_Q0K_t2:Dv.SS:=
 (sCons (sApp 1 (eB1 (Dv.isXD ["WheelError","NoWheel","NoBeat","NoPart","NoRule","NoWindow","NoPair","NoText","NoName","NoNumber","NoDeed","TooMany"] ["NoName","NoNumber","NoDeed","NoRule"]) (eVar 0))) b_Q0K_t3)
def b_Q0K_t1:Dv.SS:=
 (sCons (sApp 1 (eB1 (Dv.isXD ["WheelError","NoWheel","NoBeat","NoPart","NoRule","NoWindow","NoPair","NoText","NoName","NoNumber","NoDeed","TooMany"] ["NoPart","NoWindow","NoPair","NoText"]) (eVar 0))) b_Q0K_t2)
def b_Q0K:Dv.SS:=
 (sCons (sSet 1 (eLst (lCons (eB1 (Dv.isXD ["WheelError","NoWheel","NoBeat","NoPart","NoRule","NoWindow","NoPair","NoText","NoName","NoNumber","NoDeed","TooMany"] ["TooMany"]) (eVar 0)) (lCons (eB1 (Dv.isXD ["WheelError","NoWheel","NoBeat","NoPart","NoRule","NoWindow","NoPair","NoText","NoName","NoNumber","NoDeed","TooMany"] ["NoWheel"]) (eVar 0)) (lCons (eB1 (Dv.isXD ["WheelError","NoWheel","NoBeat","NoPart","NoRule","NoWindow","NoPair","NoText","NoName","NoNumber","NoDeed","TooMany"] ["NoBeat"]) (eVar 0)) lNil))))) b_Q0K_t1)
def F_Q0K:List D->R:=Dv.fn 2 b_Q0K
def c_Q0S_1:Dv.EE:=(eComp (eB1 Dv.tupleD (eCall F_Q0A (lCons (eVar 1) 0#17))) 0#72 [0] (iSeq (eCall F_Q00 0#11)))
def c_Q0S_2:Dv.EE:=(eComp (eB1 Dv.listD (eVar 0)) 0#72 [] (iSeq (eB1 Dv.sortSet1D (eVar 2))))
def b_Q0S_t1:Dv.SS:=
 (sRet c_Q0S_2)
def b_Q0S:Dv.SS:=
 (sCons (sSetG [0,1] 2 c_Q0S_1) b_Q0S_t1)
def F_Q0S:List D->R:=Dv.fn 3 b_Q0S
def b_Q0F_t2:Dv.SS:=
 (sRet (eCall F_Q10 0#41))
def b_Q0F_t1:Dv.SS:=
 (sCons (sIf (eCm .eq (eVar 0) (eInt 1)) (sRet (eCall F_Q0S 0#41)) sNil) b_Q0F_t2)
def b_Q0F:Dv.SS:=
 (sCons (sIf (eCm .eq (eVar 0) (eInt 0)) (sRet (eCall F_Q00 0#41)) sNil) b_Q0F_t1)
def F_Q0F:List D->R:=Dv.fn 3 b_Q0F
def b_Q0O_t2:Dv.SS:=
 (sRetO 3)
def b_Q0O_t1:Dv.SS:=
 (sCons (sTryAs ["WheelError","NoWheel","NoBeat","NoPart","NoRule","NoWindow","NoPair","NoText","NoName","NoNumber","NoDeed","TooMany"] 4 "WheelError" (sExpr (eCall F_Q0F (lCons (eVar 0) 0#41))) (sSet 3 (eCall F_Q0K (lCons (eVar 4) lNil)))) b_Q0O_t2)
def b_Q0O:Dv.SS:=
 (sCons (sSet 3 2#48) b_Q0O_t1)
def F_Q0O:List D->R:=Dv.fn 5 b_Q0O
def b_Q0M_l1:Dv.SS:=
 (sCons (sIf (eCm .ne (eCall F_Q0O (lCons (eVar 5) (lCons (eVar 3) (lCons (eIx (eLst (lCons (eLst 0#68) (lCons (eVar 4) lNil))) (eOp .mod (eOp .fdiv (eVar 2) (eInt 64)) (eInt 2))) lNil)))) (eLst (lCons 1#51 (lCons 0#72 (lCons 1#51 (lCons 1#51 (lCons 1#51 (lCons 0#72 lNil)))))))) (sRet 1#51) sNil) (sIf (eCm .ne (eCall F_Q0O (lCons (eVar 5) (lCons (eVar 1) (lCons (eVar 4) lNil)))) (eLst (lCons 1#51 (lCons 1#51 (lCons 0#72 (lCons 1#51 (lCons 1#51 (lCons 0#72 lNil)))))))) (sRet 1#51) sNil))
def b_Q0M_t4:Dv.SS:=
 (sRet 0#72)
def b_Q0M_t3:Dv.SS:=
 (sCons (sFor [] 5 (iRange (eInt 3)) b_Q0M_l1) b_Q0M_t4)
def b_Q0M_t2:Dv.SS:=
 (sCons (sSetG [1,2] 4 (eIx (eLst (lCons 2#48 (lCons (eLst (lCons (eInt 0) (lCons (eVar 1) lNil))) (lCons (eLst (lCons (eOp .fdiv (eVar 1) (eInt 2)) (lCons (eOp .sub (eOp .fdiv (eVar 1) (eInt 2)) (eInt 1)) lNil))) (lCons (eLst (lCons 1#65 0#68)) (lCons (eLst (lCons (eInt 0) 0#68)) (lCons (eLst (lCons (eOp .add (eVar 1) (eVar 2)) lNil)) lNil))))))) (eOp .mod (eOp .fdiv (eVar 2) (eInt 4)) (eInt 6)))) b_Q0M_t3)
def b_Q0M_t1:Dv.SS:=
 (sCons (sSet 3 (eIx (eLst (lCons (eInt 0) (lCons (eInt 61) (lCons (eOp .add (eInt 61) (eVar 2)) (lCons (eOp .sub 1#65 (eVar 2)) lNil))))) (eOp .mod (eVar 2) (eInt 4)))) b_Q0M_t2)
def b_Q0M:Dv.SS:=
 (sCons (sSet 2 (eOp .mod (eOp .mul (eCall F_Q0G (lCons (eVar 0) (lCons (eInt 1) lNil))) (eInt 48271)) (eInt 2147483647))) b_Q0M_t1)
def F_Q0M:List D->R:=Dv.fn 6 b_Q0M
def c_Q0I_1:Dv.EE:=(eComp (eVar 0) (eB1 Dv.isBoolD (eVar 0)) [] (iSeq (eOp .add (eOp .add (eIx (eVar 5) (eInt 0)) (eIx (eVar 6) (eInt 0))) (eIx (eVar 7) (eInt 1)))))
def b_Q0I_l1:Dv.SS:=
 (sCons (sSetD 5 (eCall F_Q00 0#41)) (sCons (sSetF 6 (eCall F_Q0S 0#41)) (sCons (sSetG [1,2] 7 (eCall F_Q10 0#41)) (sCons (sIf (eOr (eCm .ne (eVar 5) (eLst (lCons (eVar 3) lNil))) (eOr (eCm .ne (eVar 6) (eLst (lCons (eVar 3) lNil))) (eCm .ne (eVar 7) (eTup (lCons (eStr [115,116,97,114,116,115]) (lCons (eVar 3) lNil)))))) (sRet 1#51) sNil) (sCons (sIf (eCm .ne c_Q0I_1 2#48) (sRet 1#51) sNil) (sCons (sKill 5 0 (eInt 0)) (sCons (sAppF 6 (eLst 0#68)) (sIf (eNot (eCall F_Q0M 0#11)) (sRet 1#51) sNil))))))))
def b_Q0I_t4:Dv.SS:=
 (sRet (eCm .eq (eVar 2) (eLst (lCons (eOp .mod (eOp .fdiv (eCall F_Q0G (lCons (eVar 0) 0#68)) (eInt 60)) (eVar 1)) lNil))))
def b_Q0I_t3:Dv.SS:=
 (sCons (sFor [] 4 (iRange (eInt 2)) b_Q0I_l1) b_Q0I_t4)
def b_Q0I_t2:Dv.SS:=
 (sCons (sSet 3 (eB1 Dv.listRangeD (eVar 1))) b_Q0I_t3)
def b_Q0I_t1:Dv.SS:=
 (sCons (sSet 2 (eLst (lCons (eOp .mod (eOp .fdiv (eCall F_Q0G (lCons (eVar 0) 0#68)) (eInt 60)) (eVar 1)) lNil))) b_Q0I_t2)
def b_Q0I:Dv.SS:=
 (sCons (sSet 1 (eOp .add (eInt 1) (eOp .mod (eCall F_Q0G (lCons (eVar 0) 0#68)) (eInt 60)))) b_Q0I_t1)
def F_Q0I:List D->R:=Dv.fn 8 b_Q0I
end Cw
namespace Lk45
open PySem PySem.Spec PyProof.Rows L2 Sd Cw
open Dv (D R RL EE EL EI RI Sl Out SS)
def top (i:Nat):Stmt:=PySem.Challenge.pw_canonwheel_k45_cases_refused.main.body.getD i (.Pass ⟨0,0,0,0⟩)
section
variable {P:Program}{w:World}{K:GA}{mg:Str->Option Value}{base:Heap}{ad:String->Option Addr}
abbrev s_Q05:Stmt:=top 15
def sc_check_wheel:FnScope ["length"] ["length"] (af s_Q05):=by constructor<;>first|rfl|decide +kernel
def ok_Q05 {f:Addr}{fd:FuncData}(d:Df K mg "check_wheel" s_Q05 ["length"] f fd)(xa:XAll K mg ad){C_9:Addr}(h_NoWheel:ad "NoWheel"=some C_9){t_LONGEST:Tok}(n_LONGEST:mg "LONGEST"=some (.int 60 t_LONGEST)):
  FnOk P w K mg base 0#24 1 f fd ["length"] (spD K (aA ad) F_Q05 1):=by
 have nd:=sc_check_wheel.nd;refine Df.is cxe_ok ["length"] 0 b_Q05 d sc_check_wheel rfl rfl rfl λ cdv A outer s H E hr=>?_
 exact(av (cg (tY (ky (wD (aa 0) ao) (ia _ (rB (aa 0) (wM rfl n_LONGEST))))) (eY (xa.cl _ _ h_NoWheel).1 (c7 h_NoWheel) rfl) bx))
abbrev cB:=Fu "check_wheel" s_Q05 ["length"] 1 F_Q05 1
abbrev s_Q04:Stmt:=top 16
def sc_check_rising:FnScope ["numbers","end","before","number"] ["numbers","end"] (af s_Q04):=by constructor<;>first|rfl|decide +kernel
def ok_Q04 {f:Addr}{fd:FuncData}(d:Df K mg "check_rising" s_Q04 ["numbers","end"] f fd)(xa:XAll K mg ad){C_1:Addr}(h_NoBeat:ad "NoBeat"=some C_1)(z_len:mg "len"=none):
  FnOk P w K mg base 0#24 1 f fd ["numbers","end"] (spD K (aA ad) F_Q04 2):=by
 have nd:=sc_check_rising.nd;refine Df.is cxe_ok ["numbers","end","before","number"] 0 b_Q04 d sc_check_rising rfl rfl rfl λ cdv A outer s H E hr=>?_
 exact(ak (cg (jK 1#18 ao) (eY (xa.cl _ _ h_NoBeat).1 (c7 h_NoBeat) rfl) bx) (ak (aY (i:=2) (di ao) nd rfl 0#10) (av (dM [0] (i:=3) (aV (aa 0)) (ak (cg (tY (ky (Cv (aa 3) (aa 2)) (ia _ (Cu (aa 3) (aa 1))))) (eY (xa.cl _ _ h_NoBeat).1 (c7 h_NoBeat) rfl) bx) (av (i4 [3] (i:=2) (aa 3) nd rfl 0#10))) nd rfl 0#10))))
abbrev eV:=Fu "check_rising" s_Q04 ["numbers","end"] 1 F_Q04 2
abbrev s_Q03:Stmt:=top 17
def sc_check_beat:FnScope ["length","beat"] ["length","beat"] (af s_Q03):=by constructor<;>first|rfl|decide +kernel
def ok_Q03 {f:Addr}{fd:FuncData}(d:Df K mg "check_beat" s_Q03 ["length","beat"] f fd)(q_check_wheel:cB P w K mg base ad)(q_check_rising:eV P w K mg base ad):
  FnOk P w K mg base 0#24 2 f fd ["length","beat"] (spD K (aA ad) F_Q03 2):=by
 have nd:=sc_check_beat.nd;refine Df.is cxe_ok ["length","beat"] 1 b_Q03 d sc_check_beat rfl rfl rfl λ cdv A outer s H E hr=>?_
 exact(ak (cC (aH q_check_wheel.d q_check_wheel.o hr 0#2 rfl 1#6)) (av (cC (aH q_check_rising.d q_check_rising.o hr 0#2 rfl (ae (aa 1) 1#6)))))
abbrev bH:=Fu "check_beat" s_Q03 ["length","beat"] 2 F_Q03 2
abbrev s_Q0Q:Stmt:=top 18
def sc_made_beat:FnScope ["length","numbers","beat"] ["length","numbers"] (af s_Q0Q):=by constructor<;>first|rfl|decide +kernel
def ok_Q0Q {f:Addr}{fd:FuncData}(d:Df K mg "made_beat" s_Q0Q ["length","numbers"] f fd)(q_check_wheel:cB P w K mg base ad)(q_check_beat:bH P w K mg base ad)(z_sorted:mg "sorted"=none):
  FnOk P w K mg base 0#24 3 f fd ["length","numbers"] (spD K (aA ad) F_Q0Q 2):=by
 have nd:=sc_made_beat.nd;refine Df.is cxe_ok ["length","numbers","beat"] 2 b_Q0Q d sc_made_beat rfl rfl rfl λ cdv A outer s H E hr=>?_
 exact(ak (cC (aH q_check_wheel.d q_check_wheel.o hr 0#2 rfl 1#6)) (ak (aY (i:=2) (kx z_sorted rfl (bI (fs:=["length"]) (is:=[0]) (fe:=(Dv.eOp .mod 0#59 1#26)) (fc:=1#56) (aF (fsc:=af s_Q0Q) (N:=["length","numbers","beat"]) rfl rfl 0#6) (aV (aa 1)) (λ cl L s₀ H₀ ex=>(bT (aa 0) (aa 1))) 0#43)) nd rfl 0#10) (ak (cC (aH q_check_beat.d q_check_beat.o hr 0#2 rfl (ae (aa 0) (ae (aa 2) aj)))) (av (fo 2)))))
abbrev iG:=Fu "made_beat" s_Q0Q ["length","numbers"] 3 F_Q0Q 2
abbrev s_Q02:Stmt:=top 20
def sc_beat_sum:FnScope ["beat","numbers","place"] ["beat"] (af s_Q02):=by constructor<;>first|rfl|decide +kernel
def ok_Q02 {f:Addr}{fd:FuncData}(d:Df K mg "beat_sum" s_Q02 ["beat"] f fd)(z_len:mg "len"=none):
  FnOk P w K mg base 0#24 1 f fd ["beat"] (spD K (aA ad) F_Q02 1):=by
 have nd:=sc_beat_sum.nd;refine Df.is cxe_ok ["beat","numbers","place"] 0 b_Q02 d sc_beat_sum rfl rfl rfl λ cdv A outer s H E hr=>?_
 exact(ak (cg (jK 1#18 ao) (av (aN (aK aj))) bx) (ak (aY (i:=1) (dX 2#22 (bJ (cj (aa 0) (di ao)) ao)) nd rfl 0#10) (ak (dM [0] (i:=2) (aV (aa 0)) (av (wz (i:=1) ao (aa 2))) nd rfl 0#10) (av (fo 1)))))
abbrev jn:=Fu "beat_sum" s_Q02 ["beat"] 1 F_Q02 1
abbrev s_Q14:Stmt:=top 21
def sc_without_last_noughts:FnScope ["numbers","size"] ["numbers"] (af s_Q14):=by constructor<;>first|rfl|decide +kernel
def ok_Q14 {f:Addr}{fd:FuncData}(d:Df K mg "without_last_noughts" s_Q14 ["numbers"] f fd)(z_len:mg "len"=none):
  FnOk P w K mg base 0#24 1 f fd ["numbers"] (spD K (aA ad) F_Q14 1):=by
 have nd:=sc_without_last_noughts.nd;refine Df.is cxe_ok ["numbers","size"] 0 b_Q14 d sc_without_last_noughts rfl rfl rfl λ cdv A outer s H E hr=>?_
 exact(ak (aY (i:=1) 1#18 nd rfl 0#10) (ak (xM 100000 (tY (AD (rB (aa 1) ao) (ia _ (jK (cj (aa 0) (eB (aa 1) ao)) ao)))) (av (uG (i:=1) ao nd rfl 0#10))) (av (aN (dv (aa 0) fu (fk (aa 1)))))))
abbrev b8:=Fu "without_last_noughts" s_Q14 ["numbers"] 1 F_Q14 1
abbrev s_Q11:Stmt:=top 22
def sc_sum_divided:FnScope ["one","other","last","rest","share","low","high","number"] ["one","other"] (af s_Q11):=by constructor<;>first|rfl|decide +kernel
def ok_Q11 {f:Addr}{fd:FuncData}(d:Df K mg "sum_divided" s_Q11 ["one","other"] f fd)(q_without_last_noughts:b8 P w K mg base ad)(xa:XAll K mg ad){C_6:Addr}(h_NoPart:ad "NoPart"=some C_6)(z_len:mg "len"=none)(z_list:mg "list"=none)(z_range:mg "range"=none)(z_enumerate:mg "enumerate"=none):
  FnOk P w K mg base 0#24 2 f fd ["one","other"] (spD K (aA ad) F_Q11 2):=by
 have nd:=sc_sum_divided.nd;refine Df.is cxe_ok ["one","other","last","rest","share","low","high","number"] 1 b_Q11 d sc_sum_divided rfl rfl rfl λ cdv A outer s H E hr=>?_
 exact(ak (cg (tY (ky (jK (cn z_len rfl (aa 1)) ao) (ia _ (jy (cj (aa 1) (di ao)) ao)))) (eY (xa.cl _ _ h_NoPart).1 (c7 h_NoPart) rfl) bx) (ak (aY (i:=2) (eB (cn z_len rfl (aa 1)) ao) nd rfl 0#10) (ak (aY (i:=3) (rO z_list rfl (aa 0)) nd rfl 0#10) (ak (aY (i:=4) (dX 2#22 (eB 1#18 (aa 2))) nd rfl 0#10) (ak (yG (i:=5) (yr rfl z_range (eB (cn z_len rfl (aa 4)) ao) (di ao) (di ao)) (ak (wz (i:=4) (cj (aa 3) (bJ (aa 5) (aa 2))) (aa 5)) (av (mq [1] (yN rfl z_enumerate (aa 1)) (xf (xs:=[6,7]) (iX (i:=6) (iX (i:=7) wZ nd rfl 0#10) nd rfl 0#10) rfl) (av (uH (i:=3) (dX (cj (aa 4) (aa 5)) (aa 7)) (bJ (aa 5) (aa 6))))))) nd rfl 0#10) (av (yQ (i:=4) (aH q_without_last_noughts.d q_without_last_noughts.o hr 0#2 rfl (ae (dv (aa 3) fu (fk (aa 2))) aj)))))))))
abbrev dk:=Fu "sum_divided" s_Q11 ["one","other"] 2 F_Q11 2
abbrev s_Q07:Stmt:=top 25
def sc_divisors:FnScope ["number"] ["number"] (af s_Q07):=by constructor<;>first|rfl|decide +kernel
def ok_Q07 {f:Addr}{fd:FuncData}(d:Df K mg "divisors" s_Q07 ["number"] f fd)(xa:XAll K mg ad){C_6:Addr}(h_NoPart:ad "NoPart"=some C_6)(z_range:mg "range"=none){t_LAST_PART:Tok}(n_LAST_PART:mg "LAST_PART"=some (.int 60 t_LAST_PART)):
  FnOk P w K mg base 0#24 1 f fd ["number"] (spD K (aA ad) F_Q07 1):=by
 have nd:=sc_divisors.nd;refine Df.is cxe_ok ["number"] 0 b_Q07 d sc_divisors rfl rfl rfl λ cdv A outer s H E hr=>?_
 exact(ak (cg (tY (ky (wD (aa 0) ao) (ia _ (rB (aa 0) (wM rfl n_LAST_PART))))) (eY (xa.cl _ _ h_NoPart).1 (c7 h_NoPart) rfl) bx) (av (aN (bI (fs:=["number"]) (is:=[0]) (fe:=0#59) (fc:=(Dv.eCm .eq (Dv.eOp .mod 1#26 0#59) (Dv.eInt 0))) (aF (fsc:=af s_Q07) (N:=["number"]) rfl rfl 0#6) (uA rfl z_range ao (bJ (aa 0) ao)) 0#50 (λ cl L s₀ H₀ ex=>(gc (jK (bT (aa 1) (aa 0)) ao)))))))
abbrev ck:=Fu "divisors" s_Q07 ["number"] 1 F_Q07 1
abbrev s_Q0V:Stmt:=top 26
def sc_parts_of_divisors:FnScope ["number","found","divisor","left","ahead"] ["number"] (af s_Q0V):=by constructor<;>first|rfl|decide +kernel
def ok_Q0V {f:Addr}{fd:FuncData}(d:Df K mg "parts_of_divisors" s_Q0V ["number"] f fd)(q_divisors:ck P w K mg base ad)(q_sum_divided:dk P w K mg base ad):
  FnOk P w K mg base 0#24 3 f fd ["number"] (spD K (aA ad) F_Q0V 1):=by
 have nd:=sc_parts_of_divisors.nd;refine Df.is cxe_ok ["number","found","divisor","left","ahead"] 2 b_Q0V d sc_parts_of_divisors rfl rfl rfl λ cdv A outer s H E hr=>?_
 exact(ak (lD (i:=1) ng nd rfl 0#10) (ak (dM [0] (i:=2) (aV 0#40) (ak (aY (i:=3) (bJ (bJ (aK (ae (di ao) aj)) (dX 2#22 (eB (aa 2) ao))) 2#22) nd rfl 0#10) (ak (dM [2] (i:=4) (aV (dv (aH q_divisors.d q_divisors.o hr 0#2 rfl (ae (aa 2) aj)) fu (fk (di ao)))) (av (aY (i:=3) (cj (aH q_sum_divided.d q_sum_divided.o hr 0#2 rfl (ae (aa 3) (ae (wY (aa 1) (aa 4)) aj))) ao) nd rfl 0#10)) nd rfl 0#10) (av (wF (i:=1) (y:=3) (aa 2))))) nd rfl 0#10) (av (fo 1))))
abbrev cO:=Fu "parts_of_divisors" s_Q0V ["number"] 3 F_Q0V 1
abbrev s_Q0P:Stmt:=top 27
def sc_leaves_nought:FnScope ["beat","divisor"] ["beat","divisor"] (af s_Q0P):=by constructor<;>first|rfl|decide +kernel
def ok_Q0P {f:Addr}{fd:FuncData}(d:Df K mg "leaves_nought" s_Q0P ["beat","divisor"] f fd)(q_sum_divided:dk P w K mg base ad)(q_beat_sum:jn P w K mg base ad):
  FnOk P w K mg base 0#24 3 f fd ["beat","divisor"] (spD K (aA ad) F_Q0P 2):=by
 have nd:=sc_leaves_nought.nd;refine Df.is cxe_ok ["beat","divisor"] 2 b_Q0P d sc_leaves_nought rfl rfl rfl λ cdv A outer s H E hr=>?_
 exact(av (aN (nJ (cj (aH q_sum_divided.d q_sum_divided.o hr 0#2 rfl (ae (aH q_beat_sum.d q_beat_sum.o hr 0#2 rfl 1#6) (ae (aa 1) aj))) ao) (aK aj))))
abbrev ee:=Fu "leaves_nought" s_Q0P ["beat","divisor"] 3 F_Q0P 2
abbrev s_Q0U:Stmt:=top 28
def sc_parts_had:FnScope ["length","beat","found"] ["length","beat"] (af s_Q0U):=by constructor<;>first|rfl|decide +kernel
def ok_Q0U {f:Addr}{fd:FuncData}(d:Df K mg "parts_had" s_Q0U ["length","beat"] f fd)(q_check_beat:bH P w K mg base ad)(q_parts_of_divisors:cO P w K mg base ad)(q_divisors:ck P w K mg base ad)(q_leaves_nought:ee P w K mg base ad):
  FnOk P w K mg base 0#24 4 f fd ["length","beat"] (spD K (aA ad) F_Q0U 2):=by
 have nd:=sc_parts_had.nd;refine Df.is cxe_ok ["length","beat","found"] 3 b_Q0U d sc_parts_had rfl rfl rfl λ cdv A outer s H E hr=>?_
 exact(ak 0#69 (ak (lD (i:=2) (aH q_parts_of_divisors.d q_parts_of_divisors.o hr 0#2 rfl 1#6) nd rfl 2#59) (av (aN (bI (fs:=["beat","found"]) (is:=[1,2]) (fe:=0#59) (fc:=(Dv.eCall F_Q0P (Dv.lCons 1#26 (Dv.lCons (Dv.eDix (Dv.eVar 2) 0#59) Dv.lNil)))) (aF (fsc:=af s_Q0U) (N:=["length","beat","found"]) rfl rfl 0#6) (aV (dv 0#40 (fk ao) fu)) 0#50 (λ cl L s₀ H₀ ex=>(gc (gi (aH q_leaves_nought.d q_leaves_nought.o hr 0#2 rfl (ae (aa 1) (ae (wY (aa 2) (aa 0)) aj)))))))))))
abbrev iE:=Fu "parts_had" s_Q0U ["length","beat"] 4 F_Q0U 2
abbrev s_Q0Y:Stmt:=top 30
def sc_prime_of:FnScope ["number"] ["number"] (af s_Q0Y):=by constructor<;>first|rfl|decide +kernel
def ok_Q0Y {f:Addr}{fd:FuncData}(d:Df K mg "prime_of" s_Q0Y ["number"] f fd)(q_divisors:ck P w K mg base ad):
  FnOk P w K mg base 0#24 2 f fd ["number"] (spD K (aA ad) F_Q0Y 1):=by
 have nd:=sc_prime_of.nd;refine Df.is cxe_ok ["number"] 1 b_Q0Y d sc_prime_of rfl rfl rfl λ cdv A outer s H E hr=>?_
 exact(av (aN (cj 0#40 ao)))
abbrev fX:=Fu "prime_of" s_Q0Y ["number"] 2 F_Q0Y 1
abbrev s_Q0C:Stmt:=top 31
def sc_has_one_prime:FnScope ["number","prime"] ["number"] (af s_Q0C):=by constructor<;>first|rfl|decide +kernel
def ok_Q0C {f:Addr}{fd:FuncData}(d:Df K mg "has_one_prime" s_Q0C ["number"] f fd)(q_prime_of:fX P w K mg base ad)(q_divisors:ck P w K mg base ad)(z_all:mg "all"=none):
  FnOk P w K mg base 0#24 3 f fd ["number"] (spD K (aA ad) F_Q0C 1):=by
 have nd:=sc_has_one_prime.nd;refine Df.is cxe_ok ["number","prime"] 2 b_Q0C d sc_has_one_prime rfl rfl rfl λ cdv A outer s H E hr=>?_
 exact(ak (aY (i:=1) (aH q_prime_of.d q_prime_of.o hr 0#2 rfl 1#6) nd rfl 2#59) (av (aN (Bm z_all rfl (bI (fs:=["prime"]) (is:=[1]) (fe:=(Dv.eCm .eq (Dv.eOp .mod 0#59 1#26) (Dv.eInt 0))) (fc:=1#56) (aF (fsc:=af s_Q0C) (N:=["number","prime"]) rfl rfl 0#6) (aV (dv 0#40 (fk ao) fu)) (λ cl L s₀ H₀ ex=>(nJ (bT (aa 0) (aa 1)) ao)) 0#43)))))
abbrev en:=Fu "has_one_prime" s_Q0C ["number"] 3 F_Q0C 1
abbrev s_Q0Z:Stmt:=top 32
def sc_prime_powers:FnScope ["length"] ["length"] (af s_Q0Z):=by constructor<;>first|rfl|decide +kernel
def ok_Q0Z {f:Addr}{fd:FuncData}(d:Df K mg "prime_powers" s_Q0Z ["length"] f fd)(q_check_wheel:cB P w K mg base ad)(q_divisors:ck P w K mg base ad)(q_has_one_prime:en P w K mg base ad):
  FnOk P w K mg base 0#24 4 f fd ["length"] (spD K (aA ad) F_Q0Z 1):=by
 have nd:=sc_prime_powers.nd;refine Df.is cxe_ok ["length"] 3 b_Q0Z d sc_prime_powers rfl rfl rfl λ cdv A outer s H E hr=>?_
 exact(ak (cC (aH q_check_wheel.d q_check_wheel.o hr 0#2 rfl 1#6)) (av (aN (bI (fs:=[]) (is:=[]) (fe:=0#59) (fc:=(Dv.eCall F_Q0C 2#14)) (aF (fsc:=af s_Q0Z) (N:=["length"]) rfl rfl 0#6) (aV (dv 0#40 (fk ao) fu)) 0#50 (λ cl L s₀ H₀ ex=>(gc (gi (aH q_has_one_prime.d q_has_one_prime.o hr 0#2 rfl 1#6))))))))
abbrev eF:=Fu "prime_powers" s_Q0Z ["length"] 4 F_Q0Z 1
abbrev s_Q0X:Stmt:=top 34
def sc_powers_had:FnScope ["length","beat","had"] ["length","beat"] (af s_Q0X):=by constructor<;>first|rfl|decide +kernel
def ok_Q0X {f:Addr}{fd:FuncData}(d:Df K mg "powers_had" s_Q0X ["length","beat"] f fd)(q_parts_had:iE P w K mg base ad)(q_prime_powers:eF P w K mg base ad):
  FnOk P w K mg base 0#24 5 f fd ["length","beat"] (spD K (aA ad) F_Q0X 2):=by
 have nd:=sc_powers_had.nd;refine Df.is cxe_ok ["length","beat","had"] 4 b_Q0X d sc_powers_had rfl rfl rfl λ cdv A outer s H E hr=>?_
 exact(ak (aY (i:=2) (aH q_parts_had.d q_parts_had.o hr 0#2 rfl 0#23) nd rfl 2#59) (av (aN (bI (fs:=["had"]) (is:=[2]) (fe:=0#59) (fc:=(Dv.eCm .isin 0#59 1#26)) (aF (fsc:=af s_Q0X) (N:=["length","beat","had"]) rfl rfl 0#6) (aV (aH q_prime_powers.d q_prime_powers.o hr 0#2 rfl 1#6)) 0#50 (λ cl L s₀ H₀ ex=>(gc (CD (aa 0) (aa 1))))))))
abbrev gJ:=Fu "powers_had" s_Q0X ["length","beat"] 5 F_Q0X 2
abbrev s_Q08:Stmt:=top 35
def sc_first_rule:FnScope ["length","beat","product","power"] ["length","beat"] (af s_Q08):=by constructor<;>first|rfl|decide +kernel
def ok_Q08 {f:Addr}{fd:FuncData}(d:Df K mg "first_rule" s_Q08 ["length","beat"] f fd)(q_powers_had:gJ P w K mg base ad)(q_prime_of:fX P w K mg base ad)(z_len:mg "len"=none):
  FnOk P w K mg base 0#24 6 f fd ["length","beat"] (spD K (aA ad) F_Q08 2):=by
 have nd:=sc_first_rule.nd;refine Df.is cxe_ok ["length","beat","product","power"] 5 b_Q08 d sc_first_rule rfl rfl rfl λ cdv A outer s H E hr=>?_
 exact(ak (aY (i:=2) ao nd rfl 0#10) (ak (dM [0,1] (i:=3) (aV (aH q_powers_had.d q_powers_had.o hr 0#2 rfl 0#23)) (av (uk (i:=2) (aH q_prime_of.d q_prime_of.o hr 0#2 rfl (ae (aa 3) aj)) nd rfl 0#10)) nd rfl 0#10) (av (aN (nJ (aa 2) (cn z_len rfl (aa 1)))))))
abbrev gE:=Fu "first_rule" s_Q08 ["length","beat"] 6 F_Q08 2
abbrev s_Q12:Stmt:=top 37
def sc_turned:FnScope ["length","beat","by"] ["length","beat","by"] (af s_Q12):=by constructor<;>first|rfl|decide +kernel
def ok_Q12 {f:Addr}{fd:FuncData}(d:Df K mg "turned" s_Q12 ["length","beat","by"] f fd)(q_check_beat:bH P w K mg base ad)(q_made_beat:iG P w K mg base ad):
  FnOk P w K mg base 0#24 4 f fd ["length","beat","by"] (spD K (aA ad) F_Q12 3):=by
 have nd:=sc_turned.nd;refine Df.is cxe_ok ["length","beat","by"] 3 b_Q12 d sc_turned rfl rfl rfl λ cdv A outer s H E hr=>?_
 exact(ak 0#69 (av (aN (aH q_made_beat.d q_made_beat.o hr 0#2 rfl (ae (aa 0) (ae (bI (fs:=["by"]) (is:=[2]) (fe:=(Dv.eOp .add 0#59 1#26)) (fc:=1#56) (aF (fsc:=af s_Q12) (N:=["length","beat","by"]) rfl rfl 0#6) (aV (aa 1)) (λ cl L s₀ H₀ ex=>(bJ (aa 0) (aa 1))) 0#43) aj))))))
abbrev jL:=Fu "turned" s_Q12 ["length","beat","by"] 4 F_Q12 3
abbrev s_Q0A:Stmt:=top 38
def sc_first_turn:FnScope ["length","beat"] ["length","beat"] (af s_Q0A):=by constructor<;>first|rfl|decide +kernel
def ok_Q0A {f:Addr}{fd:FuncData}(d:Df K mg "first_turn" s_Q0A ["length","beat"] f fd)(q_check_beat:bH P w K mg base ad)(q_turned:jL P w K mg base ad)(z_min:mg "min"=none)(z_range:mg "range"=none):
  FnOk P w K mg base 0#24 5 f fd ["length","beat"] (spD K (aA ad) F_Q0A 2):=by
 have nd:=sc_first_turn.nd;refine Df.is cxe_ok ["length","beat"] 4 b_Q0A d sc_first_turn rfl rfl rfl λ cdv A outer s H E hr=>?_
 exact(ak 0#69 (av (aN (zu hr.units z_min rfl (bI (fs:=["length","beat"]) (is:=[0,1]) (fe:=(Dv.eCall F_Q12 (Dv.lCons 1#26 (Dv.lCons (Dv.eVar 2) 2#14)))) (fc:=1#56) (aF (fsc:=af s_Q0A) (N:=["length","beat"]) rfl rfl 0#6) (dy rfl z_range (aa 0)) (λ cl L s₀ H₀ ex=>(aH q_turned.d q_turned.o hr 0#2 rfl (ae (aa 1) (ae (aa 2) 1#6)))) 0#43)))))
abbrev gK:=Fu "first_turn" s_Q0A ["length","beat"] 5 F_Q0A 2
abbrev s_Q0W:Stmt:=top 43
def sc_places_filled:FnScope ["laid","filled","start","places","place"] ["laid"] (af s_Q0W):=by constructor<;>first|rfl|decide +kernel
def ok_Q0W {f:Addr}{fd:FuncData}(d:Df K mg "places_filled" s_Q0W ["laid"] f fd):
  FnOk P w K mg base 0#24 1 f fd ["laid"] (spD K (aA ad) F_Q0W 1):=by
 have nd:=sc_places_filled.nd;refine Df.is cxe_ok ["laid","filled","start","places","place"] 0 b_Q0W d sc_places_filled rfl rfl rfl λ cdv A outer s H E hr=>?_
 exact(ak (aY (i:=1) ng nd rfl 0#10) (ak (mq [0] (aV (aa 0)) (xf (xs:=[2,3]) (iX (i:=2) (iX (i:=3) wZ nd rfl 0#10) nd rfl 0#10) rfl) (av (dM [3] (i:=4) (aV (aa 3)) (av (xY [] (i:=1) bY (aa 4))) nd rfl 0#10))) (av (fo 1))))
abbrev d9:=Fu "places_filled" s_Q0W ["laid"] 1 F_Q0W 1
abbrev s_Q13:Stmt:=top 44
def sc_ways_of:FnScope ["length","beat","falls","ways","place","starts"] ["length","beat"] (af s_Q13):=by constructor<;>first|rfl|decide +kernel
def ok_Q13 {f:Addr}{fd:FuncData}(d:Df K mg "ways_of" s_Q13 ["length","beat"] f fd)(q_turned:jL P w K mg base ad)(z_range:mg "range"=none):
  FnOk P w K mg base 0#24 5 f fd ["length","beat"] (spD K (aA ad) F_Q13 2):=by
 have nd:=sc_ways_of.nd;refine Df.is cxe_ok ["length","beat","falls","ways","place","starts"] 4 b_Q13 d sc_ways_of rfl rfl rfl λ cdv A outer s H E hr=>?_
 exact(ak (i4 [0,1] (i:=2) (bI (fs:=["length","beat"]) (is:=[0,1]) (fe:=(Dv.eCall F_Q12 (Dv.lCons 1#26 (Dv.lCons (Dv.eVar 2) 2#14)))) (fc:=1#56) (aF (fsc:=af s_Q13) (N:=["length","beat","falls","ways","place","starts"]) rfl rfl 0#6) (dy rfl z_range (aa 0)) (λ cl L s₀ H₀ ex=>(aH q_turned.d q_turned.o hr 0#2 rfl (ae (aa 1) (ae (aa 2) 1#6)))) 0#43) nd rfl 2#59) (ak (aY (i:=3) (aK aj) nd rfl 0#10) (ak (dM [] (i:=4) (dy rfl z_range (aa 0)) (ak (o7 (i:=5) (fs:=["length","place"]) (is:=[0,4]) (fe:=(Dv.eOp .mod (Dv.eOp .sub (Dv.eVar 2) 0#59) 1#26)) (fc:=1#56) (aF (fsc:=af s_Q13) (N:=["length","beat","falls","ways","place","starts"]) rfl rfl 0#6) (aV (aa 1)) (λ cl L s₀ H₀ ex=>(bT (eB (aa 2) (aa 0)) (aa 1))) 0#43 nd rfl rfl) (av (ze [2,5] (i:=3) (bI (fs:=["falls"]) (is:=[2]) (fe:=(Dv.eTup (Dv.lCons 0#59 (Dv.lCons (Dv.eIx 1#26 0#59) Dv.lNil)))) (fc:=1#56) (aF (fsc:=af s_Q13) (N:=["length","beat","falls","ways","place","starts"]) rfl rfl 0#6) (aV (aa 5)) (λ cl L s₀ H₀ ex=>(i8 (ae (aa 0) (ae (cj (aa 1) (aa 0)) aj)))) 0#43)))) nd rfl 2#59) (av (fo 3)))))
abbrev kZ:=Fu "ways_of" s_Q13 ["length","beat"] 5 F_Q13 2
abbrev s_Q06:Stmt:=top 48
def sc_count_divides:FnScope ["length","beat"] ["length","beat"] (af s_Q06):=by constructor<;>first|rfl|decide +kernel
def ok_Q06 {f:Addr}{fd:FuncData}(d:Df K mg "count_divides" s_Q06 ["length","beat"] f fd)(q_check_beat:bH P w K mg base ad)(z_len:mg "len"=none):
  FnOk P w K mg base 0#24 3 f fd ["length","beat"] (spD K (aA ad) F_Q06 2):=by
 have nd:=sc_count_divides.nd;refine Df.is cxe_ok ["length","beat"] 2 b_Q06 d sc_count_divides rfl rfl rfl λ cdv A outer s H E hr=>?_
 exact(ak 0#69 (av (aN (nJ (bT (aa 0) (cn z_len rfl (aa 1))) ao))))
abbrev cH:=Fu "count_divides" s_Q06 ["length","beat"] 3 F_Q06 2
abbrev s_Q0G:Stmt:=top 54
def sc_law_cell:FnScope ["_law_script","_law_k","_law_number"] ["_law_script","_law_k"] (af s_Q0G):=by constructor<;>first|rfl|decide +kernel
def ok_Q0G {f:Addr}{fd:FuncData}(d:Df K mg "_law_cell" s_Q0G ["_law_script","_law_k"] f fd)(z_len:mg "len"=none):
  FnOk P w K mg base 0#24 1 f fd ["_law_script","_law_k"] (spD K (aA ad) F_Q0G 2):=by
 have nd:=sc_law_cell.nd;refine Df.is cxe_ok ["_law_script","_law_k","_law_number"] 0 b_Q0G d sc_law_cell rfl rfl rfl λ cdv A outer s H E hr=>?_
 exact(ak (cg (wD (aa 1) 1#18) (av (aN (cj (aa 0) (aa 1)))) bx) (ak (aY (i:=2) (bJ (dX ao (aa 1)) ao) nd rfl 0#10) (ak (cg (rB 1#18 ao) (av (aY (i:=2) (bT (bJ (dX (cj (aa 0) (bT (aa 1) 1#18)) ao) (dX (aa 1) ao)) ao) nd rfl 0#10)) bx) (av (aN (bT (dX (aa 2) (aa 2)) ao))))))
abbrev gd:=Fu "_law_cell" s_Q0G ["_law_script","_law_k"] 1 F_Q0G 2
abbrev s_Q0J:Stmt:=top 56
def sc_law_kinds:FnScope ["_law_error","_law_found"] ["_law_error"] (af s_Q0J):=by constructor<;>first|rfl|decide +kernel
def ok_Q0J {f:Addr}{fd:FuncData}(d:Df K mg "_law_kinds" s_Q0J ["_law_error"] f fd)(xa:XAll K mg ad){C_1:Addr}(h_NoBeat:ad "NoBeat"=some C_1){C_9:Addr}(h_NoWheel:ad "NoWheel"=some C_9){C_11:Addr}(h_TooMany:ad "TooMany"=some C_11){C_6:Addr}(h_NoPart:ad "NoPart"=some C_6){C_10:Addr}(h_NoWindow:ad "NoWindow"=some C_10){C_5:Addr}(h_NoPair:ad "NoPair"=some C_5){C_8:Addr}(h_NoText:ad "NoText"=some C_8){C_3:Addr}(h_NoName:ad "NoName"=some C_3){C_4:Addr}(h_NoNumber:ad "NoNumber"=some C_4){C_2:Addr}(h_NoDeed:ad "NoDeed"=some C_2){C_7:Addr}(h_NoRule:ad "NoRule"=some C_7)(hkn:∀ c∈(["WheelError","NoWheel","NoBeat","NoPart","NoRule","NoWindow","NoPair","NoText","NoName","NoNumber","NoDeed","TooMany"]:List String),∃ Ca,ad c=some Ca)(z_isinstance:mg "isinstance"=none)(z_ValueError:mg "ValueError"=none):
  FnOk P w K mg base 0#24 1 f fd ["_law_error"] (spD K (aA ad) F_Q0K 1):=by
 have nd:=sc_law_kinds.nd;refine Df.is cxe_ok ["_law_error","_law_found"] 0 b_Q0K d sc_law_kinds rfl rfl rfl λ cdv A outer s H E hr=>?_
 exact(ak (aY (i:=1) (aK (ae (hU xa hkn h_TooMany z_isinstance rfl rfl (aa 0)) (ae (hU xa hkn h_NoWheel z_isinstance rfl rfl (aa 0)) (ae (hU xa hkn h_NoBeat z_isinstance rfl rfl (aa 0)) aj)))) nd rfl 0#10) (ak (mj (i:=1) (iW xa hkn z_isinstance rfl (aa 0) (bg xa h_NoPart rfl (bg xa h_NoWindow rfl (bg xa h_NoPair rfl (bg xa h_NoText rfl mn)))))) (ak (mj (i:=1) (iW xa hkn z_isinstance rfl (aa 0) (bg xa h_NoName rfl (bg xa h_NoNumber rfl (bg xa h_NoDeed rfl (bg xa h_NoRule rfl mn)))))) (av (aN (bJ (aa 1) (aK (ae (vp xa hkn z_isinstance z_ValueError rfl rfl (aa 0)) aj))))))))
abbrev il:=Fu "_law_kinds" s_Q0J ["_law_error"] 1 F_Q0K 1
def yh {f:Addr}{fd:FuncData}(d:Df K mg "_law_kinds" s_Q0J ["_law_error"] f fd)(xa:XAll K mg ad){C_1:Addr}(h_NoBeat:ad "NoBeat"=some C_1){C_9:Addr}(h_NoWheel:ad "NoWheel"=some C_9){C_11:Addr}(h_TooMany:ad "TooMany"=some C_11){C_6:Addr}(h_NoPart:ad "NoPart"=some C_6){C_10:Addr}(h_NoWindow:ad "NoWindow"=some C_10){C_5:Addr}(h_NoPair:ad "NoPair"=some C_5){C_8:Addr}(h_NoText:ad "NoText"=some C_8){C_3:Addr}(h_NoName:ad "NoName"=some C_3){C_4:Addr}(h_NoNumber:ad "NoNumber"=some C_4){C_2:Addr}(h_NoDeed:ad "NoDeed"=some C_2){C_7:Addr}(h_NoRule:ad "NoRule"=some C_7)(hkn:∀ c∈(["WheelError","NoWheel","NoBeat","NoPart","NoRule","NoWindow","NoPair","NoText","NoName","NoNumber","NoDeed","TooMany"]:List String),∃ Ca,ad c=some Ca)(z_isinstance:mg "isinstance"=none)(z_ValueError:mg "ValueError"=none):
  FnOkH P w K mg base 1 f fd ["_law_error"] (spD K (aA ad) F_Q0K 1):=by
 have nd:=sc_law_kinds.nd;refine Df.isH 0#45 ["_law_error","_law_found"] 0 b_Q0K d sc_law_kinds rfl rfl rfl λ cdv A outer s H hr=>?_
 exact(ak (aY (i:=1) (aK (ae (hU xa hkn h_TooMany z_isinstance rfl rfl (aa 0)) (ae (hU xa hkn h_NoWheel z_isinstance rfl rfl (aa 0)) (ae (hU xa hkn h_NoBeat z_isinstance rfl rfl (aa 0)) aj)))) nd rfl 0#10) (ak (mj (i:=1) (iW xa hkn z_isinstance rfl (aa 0) (bg xa h_NoPart rfl (bg xa h_NoWindow rfl (bg xa h_NoPair rfl (bg xa h_NoText rfl mn)))))) (ak (mj (i:=1) (iW xa hkn z_isinstance rfl (aa 0) (bg xa h_NoName rfl (bg xa h_NoNumber rfl (bg xa h_NoDeed rfl (bg xa h_NoRule rfl mn)))))) (av (aN (bJ (aa 1) (aK (ae (vp xa hkn z_isinstance z_ValueError rfl rfl (aa 0)) aj))))))))
abbrev bh:Stmt:=L2.inClass (top 41) 0
abbrev bB:Stmt:=L2.inClass (top 42) 0
abbrev s_Q0B:Stmt:=L2.inClass (top 42) 1
abbrev s_Q15:Stmt:=L2.inClass (top 42) 2
def lX:FnScope ["self","laid","answers","at"] ["self","laid","answers","at"] (af bh):=by constructor<;>first|rfl|decide +kernel
def lS:FnScope ["self","ways","laid"] ["self","ways","laid"] (af bB):=by constructor<;>first|rfl|decide +kernel
def sc_go_on:FnScope ["self","case","filled"] ["self"] (af s_Q0B):=by constructor<;>first|rfl|decide +kernel
def sc_write_row:FnScope ["self","laid","filled","least","answers","found","way","twice"] ["self","laid","filled"] 2#72:=by constructor<;>first|rfl|decide +kernel
def l3 {CW CC f:Addr}{fd:FuncData}(d:Mf K "__init__" "Case.__init__" bh ["self","laid","answers","at"] f fd)(T:WkT K CW CC):FnOk P w K mg base 0#24 1 f fd ["self","laid","answers","at"] (mH CC):=
 d.okL ["self","laid","answers","at"] 0 lX vL λ cdv A outer s H vs Q E hr h=>⟨_,aE (fZ (pv 0) (pv 1) rfl) (aE (fZ (pv 0) (pv 2) rfl) (aU (fZ (pv 0) (pv 3) rfl))),yq T h⟩
def lI {CW CC f:Addr}{fd:FuncData}(d:Mf K "__init__" "Walk.__init__" bB ["self","ways","laid"] f fd)(T:WkT K CW CC){fC:Addr}{fdC:FuncData}(dC:Mf K "__init__" "Case.__init__" bh ["self","laid","answers","at"] fC fdC)(oC:FnOk P w K mg base 0#24 1 fC fdC ["self","laid","answers","at"] (mH CC))(MC:Mk K CC fC)(aC:mg "Case"=some (.ref CC)):FnOk P w K mg base 0#24 3 f fd ["self","ways","laid"] (pW K CW CC):=
 d.okL ["self","ways","laid"] 2 lS vG λ cdv A outer s H vs Q E hr h=>⟨_,aE (fZ (pv 0) (pv 1) rfl) (aE (fZ (pv 0) (eT (aq (lY MC oC hr rfl aC dC.bd .nil kj (aq (pv 2) (aq (eT (aq mw ay)) (aq dY ay)))) ay)) rfl) (aE (fZ (pv 0) (eT ay) rfl) (aU (fZ (pv 0) dY rfl)))),yk T h⟩
def ok_Q15 {CW CC f:Addr}{fd:FuncData}(d:Mf K "write_row" "Walk.write_row" s_Q15 ["self","laid","filled"] f fd)(T:WkT K CW CC){fC:Addr}{fdC:FuncData}(dC:Mf K "__init__" "Case.__init__" bh ["self","laid","answers","at"] fC fdC)(oC:FnOk P w K mg base 0#24 1 fC fdC ["self","laid","answers","at"] (mH CC))(MC:Mk K CC fC)(aC:mg "Case"=some (.ref CC))(z_min:mg "min"=none)(z_range:mg "range"=none)(z_len:mg "len"=none):FnOk P w K mg base 0#24 3 f fd ["self","laid","filled"] (tq K CW CC kW):=by
 have nd:=sc_write_row.nd;refine d.okL ["self","laid","filled","least","answers","found","way","twice"] 2 sc_write_row wU λ cdv A outer s H vs Q E hr h=>?_
 exact g8 (C:=cX 0#45 (aA 2#51) K mg base ["self","laid","filled","least","answers","found","way","twice"] "Walk.write_row" 2#72 f cdv A outer s H E hr) (yf z_min rfl (bI (fs:=["filled"]) (is:=[2]) (fe:=0#59) (fc:=(Dv.eDnin 0#59 1#26)) (aF (fsc:=af s_Q15) (N:=["self","laid","filled","least","answers","found","way","twice"]) rfl rfl 0#6) (dy rfl z_range (cn z_len rfl (pJ (aa 0)))) 0#50 (λ cl L s₀ H₀ ex=>(gc (uy (aa 0) (aa 1)))))) λ tl pl ql=>g8 (C:=cX 0#45 (aA 2#51) K mg base ["self","laid","filled","least","answers","found","way","twice"] "Walk.write_row" 2#72 f cdv A outer s H E hr) (di ao) λ tn pn qn=>⟨_,aE (bZ (i:=3) nd rfl 0#10 pl) (aE (bZ (i:=4) nd rfl 0#10 (eT ay)) (aE (bZ (i:=5) nd rfl 0#10 (eT ay)) (aE (pI Io rfl (qO (sE ix_list 2#47 (pv 3) 2#1)) (gI (i:=6) nd rfl 0#10) (aE (p7 (C:=cX 0#45 (aA 2#51) K mg base ["self","laid","filled","least","answers","found","way","twice"] "Walk.write_row" 2#72 f cdv A outer s H E hr) (i:=7) (fs:=["filled"]) (is:=[2]) (fe:=0#59) (fc:=(Dv.eB2 Dv.dinD 0#59 1#26)) (aF (fsc:=af s_Q15) (N:=["self","laid","filled","least","answers","found","way","twice"]) rfl rfl 0#6) (aV (cj (aa 6) ao)) 0#50 (λ cl L s₀ H₀ ex=>(gc (zX (aa 0) (aa 1)))) nd rfl rfl rfl (λ _=>rfl) rfl) (aU (ju (e8 qJ (bu bj rfl z_len Hm (aq (pv 7) ay)) dY 1#91) (aU (bQ (fK GP GU GV bF (pv 4) (aq (eQ (aq gP (aq (sE ix_list (pv 7) dY 2#1) ay))) ay)))) (aE (bQ (fK GP GU GV bF (pv 5) (aq (lY MC oC hr rfl aC dC.bd .nil kj (aq (zA qM (pv 1) (eT (aq (pv 6) ay))) (aq (pv 4) (aq (bu bj rfl z_len Hm (aq (pv 4) ay)) ay)))) ay))) (aU (bQ (fK GP GU GV bF (pv 4) (aq mw ay))))))))) (aE (bQ (fK GP GU GV bF 2#47 (aq (eQ (aq (pv 3) (aq (pv 4) ay))) ay))) (aU (bQ (fK GP PySem.F.slot_list_extend PySem.F.type_list_extend uo 2#47 (aq (AF (pv 5) (sG pn)) ay)))))))),ya (C:=cX 0#45 (aA 2#51) K mg base ["self","laid","filled","least","answers","found","way","twice"] "Walk.write_row" 2#72 f cdv A outer s H E hr) (k:=kW) T ql qn h⟩
def ok_Q0B {CW CC f:Addr}{fd:FuncData}(d:Mf K "go_on" "Walk.go_on" s_Q0B ["self"] f fd)(T:WkT K CW CC){fR:Addr}{fdR:FuncData}(dR:Mf K "write_row" "Walk.write_row" s_Q15 ["self","laid","filled"] fR fdR)(oR:FnOk P w K mg base 0#24 3 fR fdR ["self","laid","filled"] (tq K CW CC kW))(mR:Meth K CW "write_row" fR)(q_places_filled:d9 P w K mg base ad)(xa:XAll K mg ad){C_11:Addr}(h_TooMany:ad "TooMany"=some C_11)(z_sorted:mg "sorted"=none)(z_len:mg "len"=none){t_MOST_CASES:Tok}(n_MOST_CASES:mg "MOST_CASES"=some (.int 2000 t_MOST_CASES)):FnOk P w K mg base 0#24 4 f fd ["self"] (nZ K CW CC (aA ad) kW):=by
 have nd:=sc_go_on.nd;refine d.okL ["self","case","filled"] 3 sc_go_on vD λ cdv A outer s H vs Q E hr h=>?_
 exact g8 (C:=cX 0#45 (aA ad) K mg base ["self","case","filled"] "Walk.go_on" (af s_Q0B) f cdv A outer s H E hr) (aH q_places_filled.d q_places_filled.o hr 0#2 rfl (ae (pJ (aa 1)) aj)) λ tp pp qp=>g8 (C:=cX 0#45 (aA ad) K mg base ["self","case","filled"] "Walk.go_on" (af s_Q0B) f cdv A outer s H E hr) (kx z_sorted rfl (wC (ts:=["start","places"]) (fs:=[]) (is:=[]) (fe:=0#59) (fc:=1#56) (aF (fsc:=af s_Q0B) (N:=["self","case","filled"]) rfl rfl 0#6) (.cons (.cons .nil)) (λ _=>rfl) (λ _=>rfl) (aV (pJ (aa 1))) 0#50 0#43)) λ ts pz qs=>⟨_,aE (ju (e8 zS 2#47 (gL (v:=.int 2000) rfl n_MOST_CASES ⟨_,rfl⟩) 1#91) (aU (mP (xa.cl _ _ h_TooMany).1 rfl 0#2 hr.hd)) fB) (aE (ub (pv 0) dY AX) (aE (bZ (i:=1) nd rfl 0#10 (Az GP PySem.F.slot_list_pop PySem.F.type_list_pop Bx 2#47)) (aE (bZ (i:=2) nd rfl 0#10 pp) (aE (ju (e8 zS (bu pO rfl z_len Hm (aq (pv 2) ay)) 0#93 1#91) (aU (cU pz)) fB) (aE (xE (eQ (aq gP (aq 0#93 ay))) (u4 (b0 (pv 1) rfl) (b0 (pv 1) rfl) set_list)) (aE (bQ (yg (pv 0) T.clW mR oR (hr.mono 0#2) dR.bd .nil kj (aq (b0 (pv 1) rfl) (aq (pv 2) ay)))) (aU (cU mw)))))))),yz (C:=cX 0#45 (aA ad) K mg base ["self","case","filled"] "Walk.go_on" (af s_Q0B) f cdv A outer s H E hr) (k:=kW) T (c7 h_TooMany) qp qs h⟩
abbrev s_Q09:Stmt:=top 45
def sc_first_that_fills:FnScope ["walk","found"] ["walk"] (af s_Q09):=by constructor<;>first|rfl|decide +kernel
def ok_Q09 {CW CC f:Addr}{fd:FuncData}(d:Df K mg "first_that_fills" s_Q09 ["walk"] f fd)(T:WkT K CW CC){fG:Addr}{fdG:FuncData}(dG:Mf K "go_on" "Walk.go_on" s_Q0B ["self"] fG fdG)(oG:FnOk P w K mg base 0#24 4 fG fdG ["self"] (nZ K CW CC (aA ad) kW))(mG:Meth K CW "go_on" fG)(z_len:mg "len"=none):FnOk P w K mg base 0#24 5 f fd ["walk"] (gr K CW CC (aA ad) kW):=by
 have nd:=sc_first_that_fills.nd;exact d.okL ["walk","found"] 4 sc_first_that_fills n8 λ cdv A outer s H vs Q E hr h=>⟨_,aE (jR Io (e8 qJ 0#93 dY 1#91) (aE (bZ (i:=1) nd rfl 0#10 (mQ (pv 0) T.clW mG oG (hr.mono 0#2) dG.bd .nil kj)) (aU (ju (pU (sf (pv 1))) (aU (cU (pv 1))) fB)))) (aU (cU mw)),qj T h⟩
abbrev de (P:Program)(w:World)(K:GA)(mg:Str->Option Value)(base:Heap)(ad:String->Option Addr)(CW CC:Addr):=Fo P w K mg base "first_that_fills" s_Q09 ["walk"] 5 (gr K CW CC (aA ad) kW)
abbrev s_Q01:Stmt:=top 46
def sc_all_that_fill:FnScope ["walk","fillings","found"] ["walk"] (af s_Q01):=by constructor<;>first|rfl|decide +kernel
def ok_Q01 {CW CC f:Addr}{fd:FuncData}(d:Df K mg "all_that_fill" s_Q01 ["walk"] f fd)(T:WkT K CW CC){fG:Addr}{fdG:FuncData}(dG:Mf K "go_on" "Walk.go_on" s_Q0B ["self"] fG fdG)(oG:FnOk P w K mg base 0#24 4 fG fdG ["self"] (nZ K CW CC (aA ad) kW))(mG:Meth K CW "go_on" fG)(z_len:mg "len"=none):FnOk P w K mg base 0#24 5 f fd ["walk"] (lz K CW CC (aA ad) kW):=by
 have nd:=sc_all_that_fill.nd;exact d.okL ["walk","fillings","found"] 4 sc_all_that_fill tm λ cdv A outer s H vs Q E hr h=>⟨_,aE (bZ (i:=1) nd rfl 0#10 (eT ay)) (aE (jR Io (e8 qJ 0#93 dY 1#91) (aE (bZ (i:=2) nd rfl 0#10 (mQ (pv 0) T.clW mG oG (hr.mono 0#2) dG.bd .nil kj)) (aU (ju (pU (sf (pv 2))) (aU (bQ (fK GP GU GV bF (pv 1) (aq (pv 2) ay)))) fB)))) (aU (cU (pv 1)))),vZ T h⟩
abbrev d5 (P:Program)(w:World)(K:GA)(mg:Str->Option Value)(base:Heap)(ad:String->Option Addr)(CW CC:Addr):=Fo P w K mg base "all_that_fill" s_Q01 ["walk"] 5 (lz K CW CC (aA ad) kW)
abbrev s_Q0T:Stmt:=top 47
def sc_partner_walk:FnScope ["length","beat"] ["length","beat"] (af s_Q0T):=by constructor<;>first|rfl|decide +kernel
def ok_Q0T {CW CC f:Addr}{fd:FuncData}(d:Df K mg "partner_walk" s_Q0T ["length","beat"] f fd){fW:Addr}{fdW:FuncData}(dW:Mf K "__init__" "Walk.__init__" bB ["self","ways","laid"] fW fdW)(oW:FnOk P w K mg base 0#24 3 fW fdW ["self","ways","laid"] (pW K CW CC))(MW:Mk K CW fW)(aW:mg "Walk"=some (.ref CW))(q_ways_of:kZ P w K mg base ad):FnOk P w K mg base 0#24 6 f fd ["length","beat"] (oZ K CW CC (aA ad) 2#60 2):=by
 have nd:=sc_partner_walk.nd;refine d.okL ["length","beat"] 5 sc_partner_walk u3 λ cdv A outer s H vs Q E hr h=>?_
 exact g8 (C:=cX 0#45 (aA ad) K mg base ["length","beat"] "partner_walk" (af s_Q0T) f cdv A outer s H E hr) (aH q_ways_of.d q_ways_of.o hr 0#2 rfl 0#23) λ tw pw qw=>g8 (C:=cX 0#45 (aA ad) K mg base ["length","beat"] "partner_walk" (af s_Q0T) f cdv A outer s H E hr) (aK (ae (i8 (ae ao (ae (aa 1) aj))) aj)) λ tl pl ql=>⟨_,aU (cU (lY MW oW (hr.mono 0#2) rfl aW dW.bd .nil kj (aq pw (aq pl ay)))),yj (C:=cX 0#45 (aA ad) K mg base ["length","beat"] "partner_walk" (af s_Q0T) f cdv A outer s H E hr) (λ _=>rfl) qw ql h⟩
abbrev cW (P:Program)(w:World)(K:GA)(mg:Str->Option Value)(base:Heap)(ad:String->Option Addr)(CW CC:Addr):=Fo P w K mg base "partner_walk" s_Q0T ["length","beat"] 6 (oZ K CW CC (aA ad) 2#60 2)
abbrev s_Q10:Stmt:=top 49
def sc_sought_partner:FnScope ["length","beat","walk","starts"] ["length","beat"] (af s_Q10):=by constructor<;>first|rfl|decide +kernel
def ok_Q10 {f:Addr}{fd:FuncData}(d:Df K mg "sought_partner" s_Q10 ["length","beat"] f fd){CW CC:Addr}(T:WkT K CW CC)(q_count_divides:cH P w K mg base ad)(q_first_rule:gE P w K mg base ad)(q_partner_walk:cW P w K mg base ad CW CC)(q_first_that_fills:de P w K mg base ad CW CC):
  FnOk P w K mg base 0#24 7 f fd ["length","beat"] (spD K (aA ad) F_Q10 2):=by
 have nd:=sc_sought_partner.nd;refine Df.is cxe_ok ["length","beat","walk","starts"] 6 b_Q10 d sc_sought_partner rfl rfl rfl λ cdv A outer s H E hr=>?_
 exact(ak (cg (lG (gi (aH q_count_divides.d q_count_divides.o hr 0#2 rfl 0#23))) (av (aN (i8 (ae jE (ae jE aj))))) bx) (ak (cg (lG (gi (aH q_first_rule.d q_first_rule.o hr 0#2 rfl 0#23))) (av (aN (i8 (ae jE (ae jE aj))))) bx) (t7 (iw:=2) (is:=3) T q_first_that_fills.d q_first_that_fills.o q_partner_walk.d q_partner_walk.o hr 0#2 0#2 rfl rfl 0#23 (pv 2) (λ _ p=>bZ (i:=2) nd rfl 0#10 p) (λ _ p=>bZ (i:=3) nd rfl 0#10 p) (ju (pU (AR (pv 3))) (aU (cU (eQ (aq gP (aq (b0 (pv 2) rfl) ay))))) fB) (cU (eQ (aq gP (aq (pv 3) ay)))) 0#2)))
abbrev cq:=Fu "sought_partner" s_Q10 ["length","beat"] 7 F_Q10 2
abbrev s_Q00:Stmt:=top 51
def sc_all_partners:FnScope ["length","beat"] ["length","beat"] (af s_Q00):=by constructor<;>first|rfl|decide +kernel
def ok_Q00 {f:Addr}{fd:FuncData}(d:Df K mg "all_partners" s_Q00 ["length","beat"] f fd){CW CC:Addr}(q_count_divides:cH P w K mg base ad)(q_all_that_fill:d5 P w K mg base ad CW CC)(q_partner_walk:cW P w K mg base ad CW CC)(z_sorted:mg "sorted"=none):
  FnOk P w K mg base 0#24 7 f fd ["length","beat"] (spD K (aA ad) F_Q00 2):=by
 have nd:=sc_all_partners.nd;refine Df.is cxe_ok ["length","beat"] 6 b_Q00 d sc_all_partners rfl rfl rfl λ cdv A outer s H E hr=>?_
 exact(ak (cg (lG (gi (aH q_count_divides.d q_count_divides.o hr 0#2 rfl 0#23))) (av (aN (aK aj))) bx) (av (aN (pB z_sorted rfl (zr q_all_that_fill.d q_all_that_fill.o q_partner_walk.d q_partner_walk.o hr 0#2 0#2 rfl rfl 0#23)))))
abbrev b9:=Fu "all_partners" s_Q00 ["length","beat"] 7 F_Q00 2
abbrev s_Q0R:Stmt:=top 52
def sc_partner_kinds:FnScope ["length","beat","kinds"] ["length","beat"] (af s_Q0R):=by constructor<;>first|rfl|decide +kernel
def ok_Q0R {f:Addr}{fd:FuncData}(d:Df K mg "partner_kinds" s_Q0R ["length","beat"] f fd)(q_all_partners:b9 P w K mg base ad)(q_first_turn:gK P w K mg base ad)(z_tuple:mg "tuple"=none)(z_sorted:mg "sorted"=none)(z_set:mg "set"=none)(z_list:mg "list"=none):
  FnOk P w K mg base 0#24 8 f fd ["length","beat"] (spD K (aA ad) F_Q0S 2):=by
 have nd:=sc_partner_kinds.nd;refine Df.is cxe_ok ["length","beat","kinds"] 7 b_Q0S d sc_partner_kinds rfl rfl rfl λ cdv A outer s H E hr=>?_
 exact(ak (mS [0,1] (i:=2) (fs:=["length"]) (is:=[0]) (fe:=(Dv.eB1 Dv.tupleD (Dv.eCall F_Q0A (Dv.lCons 1#26 2#14)))) (fc:=1#56) (aF (fsc:=af s_Q0R) (N:=["length","beat","kinds"]) rfl rfl 0#6) (aV (aH q_all_partners.d q_all_partners.o hr 0#2 rfl 0#23)) (λ cl L s₀ H₀ ex=>(tK z_tuple rfl (aH q_first_turn.d q_first_turn.o hr 0#2 rfl (ae (aa 1) 1#6)))) 0#43 nd rfl rfl) (av (aN (bI (fs:=[]) (is:=[]) (fe:=(Dv.eB1 Dv.listD 0#59)) (fc:=1#56) (aF (fsc:=af s_Q0R) (N:=["length","beat","kinds"]) rfl rfl 0#6) (aV (nR z_sorted rfl z_set rfl (aa 2))) (λ cl L s₀ H₀ ex=>(rO z_list rfl (aa 0))) 0#43))))
abbrev cL:=Fu "partner_kinds" s_Q0R ["length","beat"] 8 F_Q0S 2
abbrev s_Q0E:Stmt:=top 55
def sc_law_asked:FnScope ["_law_way","_law_length","_law_beat"] ["_law_way","_law_length","_law_beat"] (af s_Q0E):=by constructor<;>first|rfl|decide +kernel
def ok_Q0E {f:Addr}{fd:FuncData}(d:Df K mg "_law_asked" s_Q0E ["_law_way","_law_length","_law_beat"] f fd)(q_all_partners:b9 P w K mg base ad)(q_partner_kinds:cL P w K mg base ad)(q_sought_partner:cq P w K mg base ad):
  FnOk P w K mg base 0#24 9 f fd ["_law_way","_law_length","_law_beat"] (spD K (aA ad) F_Q0F 3):=by
 have nd:=sc_law_asked.nd;refine Df.is cxe_ok ["_law_way","_law_length","_law_beat"] 8 b_Q0F d sc_law_asked rfl rfl rfl λ cdv A outer s H E hr=>?_
 exact(ak (cg (jK (aa 0) ao) (av (aN (aH q_all_partners.d q_all_partners.o hr 0#2 rfl 0#81))) bx) (ak (cg (jK (aa 0) ao) (av (aN (aH q_partner_kinds.d q_partner_kinds.o hr 0#2 rfl 0#81))) bx) (av (aN (aH q_sought_partner.d q_sought_partner.o hr 0#2 rfl 0#81)))))
abbrev ig:=Fu "_law_asked" s_Q0E ["_law_way","_law_length","_law_beat"] 9 F_Q0F 3
abbrev s_Q0N:Stmt:=top 57
def sc_law_said:FnScope ["_law_way","_law_length","_law_beat","_law_found","_law_error"] ["_law_way","_law_length","_law_beat"] (af s_Q0N):=by constructor<;>first|rfl|decide +kernel
def ok_Q0N {f:Addr}{fd:FuncData}(d:Df K mg "_law_said" s_Q0N ["_law_way","_law_length","_law_beat"] f fd)(q_law_asked:ig P w K mg base ad)(q_law_kinds:il P w K mg base ad)(oH_Q0J:FnOkH P w K mg base 1 q_law_kinds.f q_law_kinds.fd ["_law_error"] (spD K (aA ad) F_Q0K 1))(xa:XAll K mg ad){C_13:Addr}(h_WheelError:ad "WheelError"=some C_13)(hkn:∀ c∈(["WheelError","NoWheel","NoBeat","NoPart","NoRule","NoWindow","NoPair","NoText","NoName","NoNumber","NoDeed","TooMany"]:List String),∃ Ca,ad c=some Ca):
  FnOk P w K mg base 0#24 10 f fd ["_law_way","_law_length","_law_beat"] (spD K (aA ad) F_Q0O 3):=by
 have nd:=sc_law_said.nd;refine Df.is cxe_ok ["_law_way","_law_length","_law_beat","_law_found","_law_error"] 9 b_Q0O d sc_law_said rfl rfl rfl λ cdv A outer s H E hr=>?_
 exact(ak (aY (i:=3) (aK aj) nd rfl 0#10) (ak (wX xa (kn2 hkn) h_WheelError (i:=4) nd rfl rfl (λ pins xe W own pass=>(av (cC (aH q_law_asked.d q_law_asked.o hr 0#2 rfl (ae (aa 0) 0#81))))) (λ pins e=>(av (aY (i:=3) (Bo q_law_kinds.d oH_Q0J (Ci hr) 0#2 rfl rfl (ae (aa 4) aj)) nd rfl 0#10)))) (av (fo 3))))
abbrev jj:=Fu "_law_said" s_Q0N ["_law_way","_law_length","_law_beat"] 10 F_Q0O 3
abbrev s_Q0L:Stmt:=top 58
def sc_law_refused:FnScope ["_law_script","_law_length","_law_number","_law_wheel","_law_odd","_law_way"] ["_law_script","_law_length"] (af s_Q0L):=by constructor<;>first|rfl|decide +kernel
def ok_Q0L {f:Addr}{fd:FuncData}(d:Df K mg "_law_refused" s_Q0L ["_law_script","_law_length"] f fd)(q_law_cell:gd P w K mg base ad)(q_law_said:jj P w K mg base ad)(z_range:mg "range"=none):
  FnOk P w K mg base 0#24 11 f fd ["_law_script","_law_length"] (spD K (aA ad) F_Q0M 2):=by
 have nd:=sc_law_refused.nd;refine Df.is cxe_ok ["_law_script","_law_length","_law_number","_law_wheel","_law_odd","_law_way"] 10 b_Q0M d sc_law_refused rfl rfl rfl λ cdv A outer s H E hr=>?_
 exact(ak (aY (i:=2) (bT (dX 0#52 ao) ao) nd rfl 0#10) (ak (aY (i:=3) (cj (aK (ae ao (ae ao (ae (bJ ao (aa 2)) (ae (eB (di ao) (aa 2)) aj))))) (bT (aa 2) ao)) nd rfl 0#10) (ak (i4 [1,2] (i:=4) (cj (aK (ae (aK aj) (ae (aK (ae ao (ae (aa 1) aj))) (ae (aK (ae (eZ (aa 1) ao) (ae (eB (eZ (aa 1) ao) ao) aj))) (ae (aK (ae (di ao) (ae ao aj))) (ae (aK (ae ao (ae ao aj))) (ae (aK (ae (bJ (aa 1) (aa 2)) aj)) aj))))))) (bT (eZ (aa 2) ao) ao)) nd rfl 0#10) (ak (dM [] (i:=5) (dy rfl z_range ao) (ak (cg (jy (aH q_law_said.d q_law_said.o hr 0#2 rfl (ae (aa 5) (ae (aa 3) (ae (cj (aK (ae 2#22 (ae (aa 4) aj))) (bT (eZ (aa 2) ao) ao)) aj)))) (aK (ae bY (ae bY (ae bY (ae bY (ae bY (ae bY aj)))))))) 2#58 bx) (av (cg (jy (aH q_law_said.d q_law_said.o hr 0#2 rfl (ae (aa 5) (ae (aa 1) (ae (aa 4) aj)))) (aK (ae bY (ae bY (ae bY (ae bY (ae bY (ae bY aj)))))))) 2#58 bx))) nd rfl 0#10) 2#58))))
abbrev fQ:=Fu "_law_refused" s_Q0L ["_law_script","_law_length"] 11 F_Q0M 2
abbrev s_Q0D:Stmt:=top 59
def sc_law:FnScope ["_law_script","_law_length","_law_beat","_law_starts","_law_k","_law_found","_law_kinds_here","_law_told"] ["_law_script"] (af s_Q0D):=by constructor<;>first|rfl|decide +kernel
def ok_Q0D {f:Addr}{fd:FuncData}(d:Df K mg "law" s_Q0D ["_law_script"] f fd)(q_law_cell:gd P w K mg base ad)(q_all_partners:b9 P w K mg base ad)(q_partner_kinds:cL P w K mg base ad)(q_sought_partner:cq P w K mg base ad)(q_law_refused:fQ P w K mg base ad)(z_list:mg "list"=none)(z_range:mg "range"=none)(z_isinstance:mg "isinstance"=none)(z_bool:mg "bool"=none):
  FnOk P w K mg base 0#24 12 f fd ["_law_script"] (spD K (aA ad) F_Q0I 1):=by
 have nd:=sc_law.nd;refine Df.is cxe_ok ["_law_script","_law_length","_law_beat","_law_starts","_law_k","_law_found","_law_kinds_here","_law_told"] 11 b_Q0I d sc_law rfl rfl rfl λ cdv A outer s H E hr=>?_
 exact(ak (aY (i:=1) (bJ ao (bT 0#52 ao)) nd rfl 0#10) (ak (aY (i:=2) (aK (ae (bT (eZ 0#52 ao) (aa 1)) aj)) nd rfl 0#10) (ak (aY (i:=3) (mo z_list rfl z_range rfl (aa 1)) nd rfl 0#10) (ak (dM [] (i:=4) (dy rfl z_range ao) (ak (lD (i:=5) (aH q_all_partners.d q_all_partners.o hr 0#2 rfl 0#81) nd rfl 0#10) (ak (xR (i:=6) (aH q_partner_kinds.d q_partner_kinds.o hr 0#2 rfl 0#81) nd rfl 0#10) (ak (i4 [1,2] (i:=7) (aH q_sought_partner.d q_sought_partner.o hr 0#2 rfl 0#81) nd rfl 0#10) (ak (cg (tY (ky (jy (aa 5) (aK (ae (aa 3) aj))) (ky (jy (aa 6) (aK (ae (aa 3) aj))) (ia _ (jy (aa 7) (i8 (ae jE (ae (aa 3) aj)))))))) 2#58 bx) (ak (cg (jy (bI (fs:=[]) (is:=[]) (fe:=0#59) (fc:=(Dv.eB1 Dv.isBoolD 0#59)) (aF (fsc:=af s_Q0D) (N:=["_law_script","_law_length","_law_beat","_law_starts","_law_k","_law_found","_law_kinds_here","_law_told"]) rfl rfl 0#6) (aV (bJ (bJ (cj (aa 5) ao) (cj (aa 6) ao)) (cj (aa 7) ao))) 0#50 (λ cl L s₀ H₀ ex=>(gc (gi (uI z_isinstance z_bool rfl rfl (aa 0)))))) (aK aj)) 2#58 bx) (ak (yH (i:=5) (k:=0) ao) (ak (xU (i:=6) 2#22) (av (cg (lG (gi (aH q_law_refused.d q_law_refused.o hr 0#2 rfl 0#23))) 2#58 bx))))))))) nd rfl 0#10) (av (aN (nJ (aa 2) (aK (ae (bT (eZ 0#52 ao) (aa 1)) aj)))))))))
end
def kD {P:List Value->Prop}(h:P []):∀ us:List Value,us.length=0->P us:=λ us hl=>(DM hl)▸h
def bN {P:List Value->Prop}{k:Nat}(h:∀ a (us:List Value),us.length=k->P (a::us)):∀ us:List Value,us.length=k+1->P us:=by
 intro us hl;cases us with
 |nil=>exact absurd hl (Nat.succ_ne_zero k).symm
 |cons a r=>exact h a r (Nat.succ.inj hl)
def dg {P:List Value->Prop}(h:∀ a0,P [a0]):∀ us:List Value,us.length=1->P us:=bN (P:=P) λ a0=>kD (P:=λ us=>P (a0:: us)) (h a0)
def cG {P:List Value->Prop}(h:∀ a0 a1,P [a0,a1]):∀ us:List Value,us.length=2->P us:=bN (P:=P) λ a0=>bN (P:=λ us=>P (a0:: us)) λ a1=>kD (P:=λ us=>P (a0::a1:: us)) (h a0 a1)
def se {P:List Value->Prop}(h:∀ a0 a1 a2,P [a0,a1,a2]):∀ us:List Value,us.length=3->P us:=bN (P:=P) λ a0=>bN (P:=λ us=>P (a0:: us)) λ a1=>bN (P:=λ us=>P (a0::a1:: us)) λ a2=>kD (P:=λ us=>P (a0::a1::a2:: us)) (h a0 a1 a2)
def Ct {P:List Value->Prop}(h:∀ a0 a1 a2 a3,P [a0,a1,a2,a3]):∀ us:List Value,us.length=4->P us:=bN (P:=P) λ a0=>bN (P:=λ us=>P (a0:: us)) λ a1=>bN (P:=λ us=>P (a0::a1:: us)) λ a2=>bN (P:=λ us=>P (a0::a1::a2:: us)) λ a3=>kD (P:=λ us=>P (a0::a1::a2::a3:: us)) (h a0 a1 a2 a3)
def C6 {P:List Value->Prop}(h:∀ a0 a1 a2 a3 a4,P [a0,a1,a2,a3,a4]):∀ us:List Value,us.length=5->P us:=bN (P:=P) λ a0=>bN (P:=λ us=>P (a0:: us)) λ a1=>bN (P:=λ us=>P (a0::a1:: us)) λ a2=>bN (P:=λ us=>P (a0::a1::a2:: us)) λ a3=>bN (P:=λ us=>P (a0::a1::a2::a3:: us)) λ a4=>kD (P:=λ us=>P (a0::a1::a2::a3::a4:: us)) (h a0 a1 a2 a3 a4)
def C7 {P:List Value->Prop}(h:∀ a0 a1 a2 a3 a4 a5,P [a0,a1,a2,a3,a4,a5]):∀ us:List Value,us.length=6->P us:=bN (P:=P) λ a0=>bN (P:=λ us=>P (a0:: us)) λ a1=>bN (P:=λ us=>P (a0::a1:: us)) λ a2=>bN (P:=λ us=>P (a0::a1::a2:: us)) λ a3=>bN (P:=λ us=>P (a0::a1::a2::a3:: us)) λ a4=>bN (P:=λ us=>P (a0::a1::a2::a3::a4:: us)) λ a5=>kD (P:=λ us=>P (a0::a1::a2::a3::a4::a5:: us)) (h a0 a1 a2 a3 a4 a5)
abbrev adA (a0 a1 a2 a3 a4 a5 a6 a7 a8 a9 a10 a11:Addr):=uc [("WheelError",a0),("NoWheel",a1),("NoBeat",a2),("NoPart",a3),("NoRule",a4),("NoWindow",a5),("NoPair",a6),("NoText",a7),("NoName",a8),("NoNumber",a9),("NoDeed",a10),("TooMany",a11)]
abbrev hA (K:GA)(n:Str)(f:Addr):Prop:=GM K mainGlobals n=some 2#20
abbrev hL (K:GA)(n:Str)(s:Stmt)(f:Addr)(oc:Value)(od:Option Addr)(kV dc pm:Value)(an:Option Addr)(cd ct:Value)(sl:Array 0#82):Prop:=K.lookup f=some ⟨oc,od,.func (GJ n n (aL s) (aB s) (af s) .none kV dc pm an cd ct),sl⟩
abbrev hC (K:GA)(c:Value)(n:Str):Prop:=G4 K c n=true
abbrev hK (K:GA)(f:Addr):Prop:=G0 K (.ref f)=true
abbrev hS (K:GA)(a b:Addr)(v:Bool):Prop:=G6 K (.ref a) (.ref b)=some v
def all_mk {l:PySem.W.OpenLaw}{w:World}{K:GA}{h:Heap}{mg:Str->Option Value}{fa:Addr}(X:K.In h)(G:h.Ns mainGlobals mg)(hfa:mg "law"=some 2#45)
    {T_turned f_Q12 f_Q0D C_12 C_0 f_Case_init f_Walk_init f_Q15 f_Q0B C_13 C_9 C_1 C_6 C_7 C_10 C_5 C_8 C_3 C_4 C_2 C_11:Addr}{toc_turned oc_Q12 kV_Q12 dc_Q12 pm_Q12 cd_Q12 ct_Q12 oc_Q0D kV_Q0D dc_Q0D pm_Q0D cd_Q0D ct_Q0D oc_Case_init kV_Case_init dc_Case_init pm_Case_init cd_Case_init ct_Case_init oc_Walk_init kV_Walk_init dc_Walk_init pm_Walk_init cd_Walk_init ct_Walk_init oc_Q15 kV_Q15 dc_Q15 pm_Q15 cd_Q15 ct_Q15 oc_Q0B kV_Q0B dc_Q0B pm_Q0B cd_Q0B ct_Q0B:Value}{tod_turned od_Q12 an_Q12 od_Q0D an_Q0D od_Case_init an_Case_init od_Walk_init an_Walk_init od_Q15 an_Q15 od_Q0B an_Q0B:Option Addr}{tn_turned:Nat}{tsl_turned sl_Q12 sl_Q0D sl_Case_init sl_Walk_init sl_Q15 sl_Q0B:Array 0#82}{tt0_turned t_LONGEST t_LAST_PART t_MOST_CASES:Tok}
    (D_check_wheel:hD K "check_wheel" s_Q05) (D_check_rising:hD K "check_rising" s_Q04) (D_check_beat:hD K "check_beat" s_Q03) (D_made_beat:hD K "made_beat" s_Q0Q) (D_beat_sum:hD K "beat_sum" s_Q02) (D_without_last_noughts:hD K "without_last_noughts" s_Q14) (D_sum_divided:hD K "sum_divided" s_Q11) (D_divisors:hD K "divisors" s_Q07) (D_parts_of_divisors:hD K "parts_of_divisors" s_Q0V) (D_leaves_nought:hD K "leaves_nought" s_Q0P) (D_parts_had:hD K "parts_had" s_Q0U) (D_prime_of:hD K "prime_of" s_Q0Y) (D_has_one_prime:hD K "has_one_prime" s_Q0C) (D_prime_powers:hD K "prime_powers" s_Q0Z) (D_powers_had:hD K "powers_had" s_Q0X) (D_first_rule:hD K "first_rule" s_Q08) (a_Q12:hA K "turned" f_Q12) (l_Q12:K.lookup f_Q12=some ⟨oc_Q12,od_Q12,.func (GJ "turned" "turned" (aL s_Q12) (aB s_Q12) (af s_Q12) (.ref T_turned) kV_Q12 dc_Q12 pm_Q12 an_Q12 cd_Q12 ct_Q12),sl_Q12⟩) (c_Q12:hC K cd_Q12 "turned") (k_Q12:hK K f_Q12)
    (t_turned:K.lookup T_turned=some ⟨toc_turned,tod_turned,.seq #[.int 1 tt0_turned] tn_turned,tsl_turned⟩) (D_first_turn:hD K "first_turn" s_Q0A) (D_places_filled:hD K "places_filled" s_Q0W) (D_ways_of:hD K "ways_of" s_Q13) (D_count_divides:hD K "count_divides" s_Q06) (D_law_cell:hD K "_law_cell" s_Q0G) (D_law_kinds:hD K "_law_kinds" s_Q0J) (D_first_that_fills:hD K "first_that_fills" s_Q09) (D_all_that_fill:hD K "all_that_fill" s_Q01) (D_partner_walk:hD K "partner_walk" s_Q0T) (D_sought_partner:hD K "sought_partner" s_Q10) (D_all_partners:hD K "all_partners" s_Q00) (D_partner_kinds:hD K "partner_kinds" s_Q0R) (D_law_asked:hD K "_law_asked" s_Q0E) (D_law_said:hD K "_law_said" s_Q0N) (D_law_refused:hD K "_law_refused" s_Q0L) (a_Q0D:hA K "law" f_Q0D) (l_Q0D:hL K "law" s_Q0D f_Q0D oc_Q0D od_Q0D kV_Q0D dc_Q0D pm_Q0D an_Q0D cd_Q0D ct_Q0D sl_Q0D) (c_Q0D:hC K cd_Q0D "law") (k_Q0D:hK K f_Q0D)
    (z_len:GM K mainGlobals "len"=some none) (z_sorted:GM K mainGlobals "sorted"=some none) (z_list:GM K mainGlobals "list"=some none) (z_range:GM K mainGlobals "range"=some none) (z_enumerate:GM K mainGlobals "enumerate"=some none) (z_all:GM K mainGlobals "all"=some none) (z_min:GM K mainGlobals "min"=some none) (z_isinstance:GM K mainGlobals "isinstance"=some none) (z_ValueError:GM K mainGlobals "ValueError"=some none) (z_tuple:GM K mainGlobals "tuple"=some none) (z_set:GM K mainGlobals "set"=some none) (z_bool:GM K mainGlobals "bool"=some none) (n_LONGEST:GM K mainGlobals "LONGEST"=some (some (.int 60 t_LONGEST))) (n_LAST_PART:GM K mainGlobals "LAST_PART"=some (some (.int 60 t_LAST_PART))) (n_MOST_CASES:GM K mainGlobals "MOST_CASES"=some (some (.int 2000 t_MOST_CASES)))
   (a_Walk:hA K "Walk" C_12) (pg_Walk:HC K C_12 Kq=true) (hd_Walk:HK K C_12=true) (po_Walk:Im K C_12=true) (sa_Walk:GI K 2#19 "__setattr__"=some 1#17) (mk_Walk:Iv K C_12=true) (kc_Walk:G0 K 2#19=true) (na_Walk_ways:GI K 2#19 "ways"=some none) (na_Walk_waiting:GI K 2#19 "waiting"=some none) (na_Walk_rows:GI K 2#19 "rows"=some none) (na_Walk_gone:GI K 2#19 "gone"=some none)
   (a_Case:hA K "Case" C_0) (pg_Case:HC K C_0 Kq=true) (hd_Case:HK K C_0=true) (po_Case:Im K C_0=true) (sa_Case:GI K 2#75 "__setattr__"=some 1#17) (mk_Case:Iv K C_0=true) (kc_Case:G0 K 2#75=true) (na_Case_laid:GI K 2#75 "laid"=some none) (na_Case_answers:GI K 2#75 "answers"=some none) (na_Case_at:GI K 2#75 "at"=some none)
   (a_Case_init:GI K 2#75 "__init__"=some (some (.ref f_Case_init))) (i_Case_init:HN K (.ref f_Case_init)=true) (l_Case_init:K.lookup f_Case_init=some ⟨oc_Case_init,od_Case_init,.func (GJ "__init__" "Case.__init__" (aL bh) (aB bh) (af bh) .none kV_Case_init dc_Case_init pm_Case_init an_Case_init cd_Case_init ct_Case_init),sl_Case_init⟩) (c_Case_init:hC K cd_Case_init "Case.__init__") (k_Case_init:hK K f_Case_init)
   (a_Walk_init:GI K 2#19 "__init__"=some (some (.ref f_Walk_init))) (i_Walk_init:HN K (.ref f_Walk_init)=true) (l_Walk_init:K.lookup f_Walk_init=some ⟨oc_Walk_init,od_Walk_init,.func (GJ "__init__" "Walk.__init__" (aL bB) (aB bB) (af bB) .none kV_Walk_init dc_Walk_init pm_Walk_init an_Walk_init cd_Walk_init ct_Walk_init),sl_Walk_init⟩) (c_Walk_init:hC K cd_Walk_init "Walk.__init__") (k_Walk_init:hK K f_Walk_init)
   (a_Q15:GI K 2#19 "write_row"=some (some (.ref f_Q15))) (i_write_row:HN K (.ref f_Q15)=true) (l_Q15:K.lookup f_Q15=some ⟨oc_Q15,od_Q15,.func (GJ "write_row" "Walk.write_row" (aL s_Q15) (aB s_Q15) 2#72 .none kV_Q15 dc_Q15 pm_Q15 an_Q15 cd_Q15 ct_Q15),sl_Q15⟩) (c_Q15:hC K cd_Q15 "Walk.write_row") (k_Q15:hK K f_Q15)
   (a_Q0B:GI K 2#19 "go_on"=some (some (.ref f_Q0B))) (i_go_on:HN K (.ref f_Q0B)=true) (l_Q0B:K.lookup f_Q0B=some ⟨oc_Q0B,od_Q0B,.func (GJ "go_on" "Walk.go_on" (aL s_Q0B) (aB s_Q0B) (af s_Q0B) .none kV_Q0B dc_Q0B pm_Q0B an_Q0B cd_Q0B ct_Q0B),sl_Q0B⟩) (c_Q0B:hC K cd_Q0B "Walk.go_on") (k_Q0B:hK K f_Q0B)
   (xk:hXs K [("WheelError",C_13),("NoWheel",C_9),("NoBeat",C_1),("NoPart",C_6),("NoRule",C_7),("NoWindow",C_10),("NoPair",C_5),("NoText",C_8),("NoName",C_3),("NoNumber",C_4),("NoDeed",C_2),("TooMany",C_11)]):∃ (fd:FuncData) (cls:String->Value),(∀ (s:Shared) (v:Value),BindsTo s fd ⟨[v],[]⟩ [("_law_script",v)])/\∀ base:Heap,K.In base->base.Ns mainGlobals mg->FnOk l.prog w K mg base 2#61 12 fa fd ["_law_script"] (spD K cls F_Q0I 1):=by
  have e:=hfa.symm.trans (He X G a_Q0D);cases e;have T:WkT K C_12 C_0:=⟨⟨pg_Walk,hd_Walk,po_Walk,sa_Walk⟩,⟨pg_Case,hd_Case,po_Case,sa_Case⟩,na_Walk_ways,na_Walk_waiting,na_Walk_rows,na_Walk_gone,na_Case_laid,na_Case_answers,na_Case_at⟩;have d_Case_init:=rV (st:=bh) (ps:=["self","laid","answers","at"]) l_Case_init c_Case_init λ _ _ _ _ _ _=>Ct λ _ _ _ _=>rfl
  have d_Walk_init:=rV (st:=bB) (ps:=["self","ways","laid"]) l_Walk_init c_Walk_init λ _ _ _ _ _ _=>se λ _ _ _=>rfl
  have d_Q15:=rV (st:=s_Q15) (ps:=["self","laid","filled"]) l_Q15 c_Q15 λ _ _ _ _ _ _=>se λ _ _ _=>rfl
  have d_Q0B:=rV (st:=s_Q0B) (ps:=["self"]) l_Q0B c_Q0B λ _ _ _ _ _ _=>dg λ _=>rfl
  have M_Case:Mk K C_0 f_Case_init:=⟨mk_Case,a_Case_init,i_Case_init,kc_Case⟩;have M_Walk:Mk K C_12 f_Walk_init:=⟨mk_Walk,a_Walk_init,i_Walk_init,kc_Walk⟩;have m_write_row:Meth K C_12 "write_row" f_Q15:=⟨a_Q15,i_write_row,k_Q15⟩;have m_go_on:Meth K C_12 "go_on" f_Q0B:=⟨a_Q0B,i_go_on,k_Q0B⟩;obtain⟨f_Q05,fd_check_wheel,d_Q05⟩:=dfE (st:=s_Q05) (ps:=["length"]) X G D_check_wheel λ _ _ _ _ _ _=>dg λ _=>rfl
  obtain⟨f_Q04,fd_check_rising,d_Q04⟩:=dfE (st:=s_Q04) (ps:=["numbers","end"]) X G D_check_rising λ _ _ _ _ _ _=>cG λ _ _=>rfl
  obtain⟨f_Q03,fd_check_beat,d_Q03⟩:=dfE (st:=s_Q03) (ps:=["length","beat"]) X G D_check_beat λ _ _ _ _ _ _=>cG λ _ _=>rfl
  obtain⟨f_Q0Q,fd_made_beat,d_Q0Q⟩:=dfE (st:=s_Q0Q) (ps:=["length","numbers"]) X G D_made_beat λ _ _ _ _ _ _=>cG λ _ _=>rfl
  obtain⟨f_Q02,fd_beat_sum,d_Q02⟩:=dfE (st:=s_Q02) (ps:=["beat"]) X G D_beat_sum λ _ _ _ _ _ _=>dg λ _=>rfl
  obtain⟨f_Q14,fd_without_last_noughts,d_Q14⟩:=dfE (st:=s_Q14) (ps:=["numbers"]) X G D_without_last_noughts λ _ _ _ _ _ _=>dg λ _=>rfl
  obtain⟨f_Q11,fd_sum_divided,d_Q11⟩:=dfE (st:=s_Q11) (ps:=["one","other"]) X G D_sum_divided λ _ _ _ _ _ _=>cG λ _ _=>rfl
  obtain⟨f_Q07,fd_divisors,d_Q07⟩:=dfE (st:=s_Q07) (ps:=["number"]) X G D_divisors λ _ _ _ _ _ _=>dg λ _=>rfl
  obtain⟨f_Q0V,fd_parts_of_divisors,d_Q0V⟩:=dfE (st:=s_Q0V) (ps:=["number"]) X G D_parts_of_divisors λ _ _ _ _ _ _=>dg λ _=>rfl
  obtain⟨f_Q0P,fd_leaves_nought,d_Q0P⟩:=dfE (st:=s_Q0P) (ps:=["beat","divisor"]) X G D_leaves_nought λ _ _ _ _ _ _=>cG λ _ _=>rfl
  obtain⟨f_Q0U,fd_parts_had,d_Q0U⟩:=dfE (st:=s_Q0U) (ps:=["length","beat"]) X G D_parts_had λ _ _ _ _ _ _=>cG λ _ _=>rfl
  obtain⟨f_Q0Y,fd_prime_of,d_Q0Y⟩:=dfE (st:=s_Q0Y) (ps:=["number"]) X G D_prime_of λ _ _ _ _ _ _=>dg λ _=>rfl
  obtain⟨f_Q0C,fd_has_one_prime,d_Q0C⟩:=dfE (st:=s_Q0C) (ps:=["number"]) X G D_has_one_prime λ _ _ _ _ _ _=>dg λ _=>rfl
  obtain⟨f_Q0Z,fd_prime_powers,d_Q0Z⟩:=dfE (st:=s_Q0Z) (ps:=["length"]) X G D_prime_powers λ _ _ _ _ _ _=>dg λ _=>rfl
  obtain⟨f_Q0X,fd_powers_had,d_Q0X⟩:=dfE (st:=s_Q0X) (ps:=["length","beat"]) X G D_powers_had λ _ _ _ _ _ _=>cG λ _ _=>rfl
  obtain⟨f_Q08,fd_first_rule,d_Q08⟩:=dfE (st:=s_Q08) (ps:=["length","beat"]) X G D_first_rule λ _ _ _ _ _ _=>cG λ _ _=>rfl
  have d_Q12:=A2 (st:=s_Q12) (ps:=["length","beat","by"]) (He X G a_Q12) l_Q12 c_Q12 k_Q12 λ s us Y hl=>by
    rw[DU] at hl ⊢
    match us,hl with
    |[_,_,_],_=>exact JS rfl (Y _ _ t_turned) rfl rfl rfl
  have bD_turned:Binds K (GJ "turned" "turned" (aL s_Q12) (aB s_Q12) (af s_Q12) (.ref T_turned) kV_Q12 dc_Q12 pm_Q12 an_Q12 cd_Q12 ct_Q12) ["length","beat","by"] [.int 1 tt0_turned]:=λ s us Y hl=>by
    have hl:=Nat.succ.inj ((Dz (as:=us)).symm.trans hl)
    match us,hl with
    |[_,_],_=>exact JS rfl (Y _ _ t_turned) rfl rfl rfl
  obtain⟨f_Q0A,fd_first_turn,d_Q0A⟩:=dfE (st:=s_Q0A) (ps:=["length","beat"]) X G D_first_turn λ _ _ _ _ _ _=>cG λ _ _=>rfl
  obtain⟨f_Q0W,fd_places_filled,d_Q0W⟩:=dfE (st:=s_Q0W) (ps:=["laid"]) X G D_places_filled λ _ _ _ _ _ _=>dg λ _=>rfl
  obtain⟨f_Q13,fd_ways_of,d_Q13⟩:=dfE (st:=s_Q13) (ps:=["length","beat"]) X G D_ways_of λ _ _ _ _ _ _=>cG λ _ _=>rfl
  obtain⟨f_Q06,fd_count_divides,d_Q06⟩:=dfE (st:=s_Q06) (ps:=["length","beat"]) X G D_count_divides λ _ _ _ _ _ _=>cG λ _ _=>rfl
  obtain⟨f_Q0G,fd_law_cell,d_Q0G⟩:=dfE (st:=s_Q0G) (ps:=["_law_script","_law_k"]) X G D_law_cell λ _ _ _ _ _ _=>cG λ _ _=>rfl
  obtain⟨f_Q0J,fd_law_kinds,d_Q0J⟩:=dfE (st:=s_Q0J) (ps:=["_law_error"]) X G D_law_kinds λ _ _ _ _ _ _=>dg λ _=>rfl
  obtain⟨f_Q09,fd_first_that_fills,d_Q09⟩:=dfE (st:=s_Q09) (ps:=["walk"]) X G D_first_that_fills λ _ _ _ _ _ _=>dg λ _=>rfl
  obtain⟨f_Q01,fd_all_that_fill,d_Q01⟩:=dfE (st:=s_Q01) (ps:=["walk"]) X G D_all_that_fill λ _ _ _ _ _ _=>dg λ _=>rfl
  obtain⟨f_Q0T,fd_partner_walk,d_Q0T⟩:=dfE (st:=s_Q0T) (ps:=["length","beat"]) X G D_partner_walk λ _ _ _ _ _ _=>cG λ _ _=>rfl
  obtain⟨f_Q10,fd_sought_partner,d_Q10⟩:=dfE (st:=s_Q10) (ps:=["length","beat"]) X G D_sought_partner λ _ _ _ _ _ _=>cG λ _ _=>rfl
  obtain⟨f_Q00,fd_all_partners,d_Q00⟩:=dfE (st:=s_Q00) (ps:=["length","beat"]) X G D_all_partners λ _ _ _ _ _ _=>cG λ _ _=>rfl
  obtain⟨f_Q0R,fd_partner_kinds,d_Q0R⟩:=dfE (st:=s_Q0R) (ps:=["length","beat"]) X G D_partner_kinds λ _ _ _ _ _ _=>cG λ _ _=>rfl
  obtain⟨f_Q0E,fd_law_asked,d_Q0E⟩:=dfE (st:=s_Q0E) (ps:=["_law_way","_law_length","_law_beat"]) X G D_law_asked λ _ _ _ _ _ _=>se λ _ _ _=>rfl
  obtain⟨f_Q0N,fd_law_said,d_Q0N⟩:=dfE (st:=s_Q0N) (ps:=["_law_way","_law_length","_law_beat"]) X G D_law_said λ _ _ _ _ _ _=>se λ _ _ _=>rfl
  obtain⟨f_Q0L,fd_law_refused,d_Q0L⟩:=dfE (st:=s_Q0L) (ps:=["_law_script","_law_length"]) X G D_law_refused λ _ _ _ _ _ _=>cG λ _ _=>rfl
  have d_Q0D:=zC (st:=s_Q0D) (ps:=["_law_script"]) (He X G a_Q0D) l_Q0D c_Q0D k_Q0D λ _ _ _ _ _ _=>dg λ _=>rfl
  have z_len:=GW X G z_len;have z_sorted:=GW X G z_sorted;have z_list:=GW X G z_list;have z_range:=GW X G z_range;have z_enumerate:=GW X G z_enumerate;have z_all:=GW X G z_all;have z_min:=GW X G z_min;have z_isinstance:=GW X G z_isinstance;have z_ValueError:=GW X G z_ValueError;have z_tuple:=GW X G z_tuple;have z_set:=GW X G z_set;have z_bool:=GW X G z_bool;have n_LONGEST:=He X G n_LONGEST;have n_LAST_PART:=He X G n_LAST_PART;have n_MOST_CASES:=He X G n_MOST_CASES;have xa:XAll K mg 0#0:=CB X G xk;have h_WheelError:0#0 "WheelError"=some C_13:=rfl;have h_NoWheel:0#0 "NoWheel"=some C_9:=rfl;have h_NoBeat:0#0 "NoBeat"=some C_1:=rfl;have h_NoPart:0#0 "NoPart"=some C_6:=rfl;have h_NoRule:0#0 "NoRule"=some C_7:=rfl;have h_NoWindow:0#0 "NoWindow"=some C_10:=rfl;have h_NoPair:0#0 "NoPair"=some C_5:=rfl;have h_NoText:0#0 "NoText"=some C_8:=rfl;have h_NoName:0#0 "NoName"=some C_3:=rfl;have h_NoNumber:0#0 "NoNumber"=some C_4:=rfl;have h_NoDeed:0#0 "NoDeed"=some C_2:=rfl;have h_TooMany:0#0 "TooMany"=some C_11:=rfl;have hkn:∀ c∈(["WheelError","NoWheel","NoBeat","NoPart","NoRule","NoWindow","NoPair","NoText","NoName","NoNumber","NoDeed","TooMany"]:List String),∃ Ca,0#0 c=some Ca:=bo ⟨C_13,rfl⟩ (bo ⟨C_9,rfl⟩ (bo ⟨C_1,rfl⟩ (bo ⟨C_6,rfl⟩ (bo ⟨C_7,rfl⟩ (bo ⟨C_10,rfl⟩ (bo ⟨C_5,rfl⟩ (bo ⟨C_8,rfl⟩ (bo ⟨C_3,rfl⟩ (bo ⟨C_4,rfl⟩ (bo ⟨C_2,rfl⟩ (bo ⟨C_11,rfl⟩ (fm_nil))))))))))));refine⟨GJ "law" "law" (aL s_Q0D) (aB s_Q0D) (af s_Q0D) .none kV_Q0D dc_Q0D pm_Q0D an_Q0D cd_Q0D ct_Q0D,aA 0#0,λ s v=>.of_eq rfl,λ base _ _=>?_⟩;have q_check_wheel:cB l.prog w K mg base 0#0:=⟨_,_,d_Q05,ok_Q05 d_Q05  xa h_NoWheel  n_LONGEST⟩;have q_check_rising:eV l.prog w K mg base 0#0:=⟨_,_,d_Q04,ok_Q04 d_Q04  xa h_NoBeat z_len ⟩;have q_check_beat:bH l.prog w K mg base 0#0:=⟨_,_,d_Q03,ok_Q03 d_Q03 q_check_wheel q_check_rising  ⟩;have q_made_beat:iG l.prog w K mg base 0#0:=⟨_,_,d_Q0Q,ok_Q0Q d_Q0Q q_check_wheel q_check_beat z_sorted ⟩;have q_beat_sum:jn l.prog w K mg base 0#0:=⟨_,_,d_Q02,ok_Q02 d_Q02  z_len ⟩;have q_without_last_noughts:b8 l.prog w K mg base 0#0:=⟨_,_,d_Q14,ok_Q14 d_Q14  z_len ⟩;have q_sum_divided:dk l.prog w K mg base 0#0:=⟨_,_,d_Q11,ok_Q11 d_Q11 q_without_last_noughts xa h_NoPart z_len z_list z_range z_enumerate ⟩;have q_divisors:ck l.prog w K mg base 0#0:=⟨_,_,d_Q07,ok_Q07 d_Q07  xa h_NoPart z_range n_LAST_PART⟩;have q_parts_of_divisors:cO l.prog w K mg base 0#0:=⟨_,_,d_Q0V,ok_Q0V d_Q0V q_divisors q_sum_divided  ⟩;have q_leaves_nought:ee l.prog w K mg base 0#0:=⟨_,_,d_Q0P,ok_Q0P d_Q0P q_sum_divided q_beat_sum  ⟩;have q_parts_had:iE l.prog w K mg base 0#0:=⟨_,_,d_Q0U,ok_Q0U d_Q0U q_check_beat q_parts_of_divisors q_divisors q_leaves_nought  ⟩;have q_prime_of:fX l.prog w K mg base 0#0:=⟨_,_,d_Q0Y,ok_Q0Y d_Q0Y q_divisors  ⟩;have q_has_one_prime:en l.prog w K mg base 0#0:=⟨_,_,d_Q0C,ok_Q0C d_Q0C q_prime_of q_divisors z_all ⟩;have q_prime_powers:eF l.prog w K mg base 0#0:=⟨_,_,d_Q0Z,ok_Q0Z d_Q0Z q_check_wheel q_divisors q_has_one_prime  ⟩;have q_powers_had:gJ l.prog w K mg base 0#0:=⟨_,_,d_Q0X,ok_Q0X d_Q0X q_parts_had q_prime_powers  ⟩;have q_first_rule:gE l.prog w K mg base 0#0:=⟨_,_,d_Q08,ok_Q08 d_Q08 q_powers_had q_prime_of z_len ⟩;have q_turned:jL l.prog w K mg base 0#0:=⟨_,_,d_Q12,ok_Q12 d_Q12 q_check_beat q_made_beat  ⟩;have q_first_turn:gK l.prog w K mg base 0#0:=⟨_,_,d_Q0A,ok_Q0A d_Q0A q_check_beat q_turned z_min z_range ⟩;have q_places_filled:d9 l.prog w K mg base 0#0:=⟨_,_,d_Q0W,ok_Q0W d_Q0W   ⟩;have q_ways_of:kZ l.prog w K mg base 0#0:=⟨_,_,d_Q13,ok_Q13 d_Q13 q_turned z_range ⟩;have q_count_divides:cH l.prog w K mg base 0#0:=⟨_,_,d_Q06,ok_Q06 d_Q06 q_check_beat z_len ⟩;have q_law_cell:gd l.prog w K mg base 0#0:=⟨_,_,d_Q0G,ok_Q0G d_Q0G  z_len ⟩;have q_law_kinds:il l.prog w K mg base 0#0:=⟨_,_,d_Q0J,ok_Q0J d_Q0J  xa h_NoBeat h_NoWheel h_TooMany h_NoPart h_NoWindow h_NoPair h_NoText h_NoName h_NoNumber h_NoDeed h_NoRule hkn z_isinstance z_ValueError ⟩;have oH_Q0J:FnOkH l.prog w K mg base 1 q_law_kinds.f q_law_kinds.fd ["_law_error"] (spD K (aA 0#0) F_Q0K 1):=yh q_law_kinds.d  xa h_NoBeat h_NoWheel h_TooMany h_NoPart h_NoWindow h_NoPair h_NoText h_NoName h_NoNumber h_NoDeed h_NoRule hkn z_isinstance z_ValueError;have o_Case_init:FnOk l.prog w K mg base 2#61 1 f_Case_init _ ["self","laid","answers","at"] (mH C_0):=l3 d_Case_init T;have o_Walk_init:FnOk l.prog w K mg base 2#61 3 f_Walk_init _ ["self","ways","laid"] (pW K C_12 C_0):=lI d_Walk_init T d_Case_init o_Case_init M_Case (He X G a_Case);have o_Q15:FnOk l.prog w K mg base 2#61 3 f_Q15 _ ["self","laid","filled"] (tq K C_12 C_0 kW):=ok_Q15 d_Q15 T d_Case_init o_Case_init M_Case (He X G a_Case)  z_min z_range z_len;have o_Q0B:FnOk l.prog w K mg base 2#61 4 f_Q0B _ ["self"] (nZ K C_12 C_0 (aA 0#0) kW):=ok_Q0B d_Q0B T d_Q15 o_Q15 m_write_row q_places_filled xa h_TooMany z_sorted z_len n_MOST_CASES;have q_first_that_fills:de l.prog w K mg base 0#0 C_12 C_0:=⟨_,_,d_Q09,ok_Q09 d_Q09 T d_Q0B o_Q0B m_go_on  z_len ⟩;have q_all_that_fill:d5 l.prog w K mg base 0#0 C_12 C_0:=⟨_,_,d_Q01,ok_Q01 d_Q01 T d_Q0B o_Q0B m_go_on  z_len ⟩;have q_partner_walk:cW l.prog w K mg base 0#0 C_12 C_0:=⟨_,_,d_Q0T,ok_Q0T d_Q0T d_Walk_init o_Walk_init M_Walk (He X G a_Walk) q_ways_of  ⟩;have q_sought_partner:cq l.prog w K mg base 0#0:=⟨_,_,d_Q10,ok_Q10 d_Q10 T q_count_divides q_first_rule q_partner_walk q_first_that_fills  ⟩;have q_all_partners:b9 l.prog w K mg base 0#0:=⟨_,_,d_Q00,ok_Q00 d_Q00 q_count_divides q_all_that_fill q_partner_walk z_sorted ⟩;have q_partner_kinds:cL l.prog w K mg base 0#0:=⟨_,_,d_Q0R,ok_Q0R d_Q0R q_all_partners q_first_turn z_tuple z_sorted z_set z_list ⟩;have q_law_asked:ig l.prog w K mg base 0#0:=⟨_,_,d_Q0E,ok_Q0E d_Q0E q_all_partners q_partner_kinds q_sought_partner  ⟩;have q_law_said:jj l.prog w K mg base 0#0:=⟨_,_,d_Q0N,ok_Q0N d_Q0N q_law_asked q_law_kinds oH_Q0J xa h_WheelError hkn  ⟩;have q_law_refused:fQ l.prog w K mg base 0#0:=⟨_,_,d_Q0L,ok_Q0L d_Q0L q_law_cell q_law_said z_range ⟩;exact ok_Q0D d_Q0D q_law_cell q_all_partners q_partner_kinds q_sought_partner q_law_refused z_list z_range z_isinstance z_bool
end Lk45
namespace Bt
open Dv (ins isort)
def c8 (i:Int):∀ l:List Int,(ins i l).Perm (i::l)
 |[]=>.refl _
 |j::r=>by
  unfold ins
  split
  ·exact .refl _
  ·exact((c8 i r).cons j).trans (.swap _ _ _)
def aI:∀ l:List Int,(isort l).Perm l
 |[]=>.refl _
 |i::r=>(c8 i _).trans ((aI r).cons i)
def cV (i:Int):∀ l:List Int,l.Pairwise (·<=·)->(ins i l).Pairwise (·<=·)
 |[],_=>by unfold ins;simp
 |j::r,h=>by
  unfold ins;obtain⟨h1,h2⟩:=List.pairwise_cons.mp h
  split
  ·rename_i hij
   refine List.pairwise_cons.mpr ⟨λ a ha=>?_,h⟩
   rcases List.mem_cons.mp ha with rfl|ha
   ·exact hij
   ·have:=h1 a ha;omega
  ·rename_i hij
   refine List.pairwise_cons.mpr ⟨λ a ha=>?_,cV i r h2⟩
   rcases List.mem_cons.mp ((c8 i r).mem_iff.mp ha) with rfl|ha
   ·omega
   ·exact h1 a ha
def bb:∀ l:List Int,(isort l).Pairwise (·<=·)
 |[]=>.nil
 |i::r=>cV i _ (bb r)
def bV:∀ {a b:List Int},a.Perm b->a.Pairwise (·<=·)->b.Pairwise (·<=·)->a=b
 |[],b,p,_,_=>(List.Perm.nil_eq p)
 |x::a,[],p,_,_=>(nomatch p.length_eq)
 |x::a,y::b,p,ha,hb=>by
  obtain⟨a1,a2⟩:=List.pairwise_cons.mp ha;obtain⟨b1,b2⟩:=List.pairwise_cons.mp hb;have hx:x∈y::b:=p.mem_iff.mp (Dh ..);have hy:y∈x::a:=p.mem_iff.mpr (Dh ..);have e:x=y:=by
   rcases List.mem_cons.mp hx with e|hx
   ·exact e
   ·rcases List.mem_cons.mp hy with e|hy
    ·exact e.symm
    ·have:=a1 y hy;have:=b1 x hx;omega
  subst e;rw[bV (List.Perm.cons_inv p) a2 b2]
def du (l:List Int):(isort l).length=l.length:=(aI l).length_eq
def fT {a b:List Int}(h:a.Perm b):isort a=isort b:=bV ((aI a).trans (h.trans (aI b).symm)) (bb a) (bb b)
def jG {l:List Int}(h:l.Pairwise (·<=·)):isort l=l:=bV (aI l) (bb l) h
structure Beat (n:Int)(xs:List Int):Prop where
 ne:xs≠[]
 up:xs.Pairwise (·<·)
 rg:∀ x∈xs,0<=x/\x<n
def Beat.nd {n:Int}{xs:List Int}(h:Beat n xs):xs.Nodup:=h.up.imp λ {a b} h e=>⋯
def pZ:∀ {xs:List Int} {lo hi:Int},xs.Pairwise (·<·)->(∀ x∈xs,lo<=x/\x<hi)->(xs.length:Int)<=max 0 (hi-lo)
 |[],lo,hi,_,_=>by simp;omega
 |x::r,lo,hi,h,g=>by
  obtain⟨h1,h2⟩:=List.pairwise_cons.mp h;have gx:=g x (Dh ..);have:=pZ (lo:=x+1) (hi:=hi) h2 λ y hy=>⟨h1 y hy,(g y 1#13).2⟩
  rw[Dd];omega
def Beat.len {n:Int}{xs:List Int}(h:Beat n xs):(xs.length:Int)<=n:=by
 have:=pZ h.up h.rg;obtain⟨x,hx⟩:=Fj xs h.ne;have:=h.rg x hx;omega
def Beat.pos {n:Int}{xs:List Int}(h:Beat n xs):1<=n:=by
 obtain⟨x,hx⟩:=Fj xs h.ne;have:=h.rg x hx;omega
def Beat.len1 {n:Int}{xs:List Int}(h:Beat n xs):1<=xs.length:=by
 cases xs with
 |nil=>exact absurd rfl h.ne
 |cons a r=>simp
def zT {l:List Int}(h1:l.Pairwise (·<=·))(h2:l.Nodup):l.Pairwise (·<·):=by
 induction l with
 |nil=>exact .nil
 |cons a r ih=>
  obtain⟨a1,a2⟩:=List.pairwise_cons.mp h1;obtain⟨b1,b2⟩:=List.nodup_cons.mp h2;refine List.pairwise_cons.mpr ⟨λ x hx=>?_,ih a2 b2⟩;have:=a1 x hx;have:a≠x:=λ e=>b1 (e▸hx)
  omega
def tT {n:Int}{xs:List Int}(ne:xs≠[])(nd:xs.Nodup)(rg:∀ x∈xs,0<=x/\x<n):Beat n (isort xs) where
 ne:=λ e=>ne (by have:=du xs;rw[e] at this;exact DM this.symm)
 up:=zT (bb xs) ((aI xs).nodup_iff.mpr nd)
 rg:=λ x hx=>rg x ((aI xs).mem_iff.mp hx)
def Beat.sorted {n:Int}{xs:List Int}(h:Beat n xs):isort xs=xs:=jG (h.up.imp λ {a b} h=>FY h)
def gS {f:Int->Int}:∀ {xs:List Int},xs.Nodup->(∀ x∈xs,∀ y∈xs,f x=f y->x=y)->(xs.map f).Nodup
 |[],_,_=>by simp
 |x::r,h,g=>by
  obtain⟨h1,h2⟩:=List.nodup_cons.mp h;refine List.nodup_cons.mpr ⟨λ m=>?_,gS h2 λ a ha b hb=>g a (De _ ha) b (De _ hb)⟩;obtain⟨y,hy,e⟩:=List.mem_map.mp m;exact h1 (g y 1#13 x (Dh ..) e▸hy)
def tH {n k d:Int}(hn:0<n)(e:d=n*k)(h1:-n<d)(h2:d<n):d=0:=by
 rcases Int.lt_trichotomy k 0 with h|h|h
 ·have:n*k<=n*(-1):=E5 ⋯ ⋯
  omega
 ·subst h;omega
 ·have:n*1<=n*k:=E5 ⋯ ⋯
  omega
def mod_eq_iff {n a b:Int}:a%n=b%n ↔ ∃ k,a-b=n*k:=by
 constructor
 ·intro h
  have:=Int.emod_emod_of_dvd a (Int.dvd_refl n);have h1:(a-b)%n=0:=(EG).mp h;exact EO h1
 ·rintro ⟨k,h⟩
  exact(EG).mpr (ER ⟨k,h⟩)
def gG {n x y b:Int}(hn:0<n)(hx:0<=x/\x<n)(hy:0<=y/\y<n)(h:(x+b)%n=(y+b)%n):x=y:=by
 obtain⟨k,e⟩:=mod_eq_iff.mp h;have:=tH (d:=x-y) (k:=k) hn ⋯ ⋯ ⋯;omega
def cb {n a:Int}(hn:0<n):0<=a%n/\a%n<n:=⟨Gg _ ⋯,FQ _ hn⟩
def ko {n b:Int}{xs:List Int}(h:Beat n xs):Beat n (isort (xs.map λ x=>(x+b)%n)):=by
 have hp:=h.pos;refine tT (by simpa using h.ne) (gS h.nd λ x hx y hy e=>gG ⋯ (h.rg x hx) (h.rg y hy) e) λ x hx=>?_
 obtain⟨y,_,rfl⟩:=List.mem_map.mp hx;exact cb ⋯
def hits (n:Int)(beat starts:List Int):List Int:=starts.flatMap λ s=>beat.map λ b=>(b+s)%n
def bump (c:List Int)(p:Int):List Int:=c.set p.toNat (c.getD p.toNat 0+1)
def tally (n:Nat)(ps:List Int):List Int:=ps.foldl bump (List.replicate n 0)
def oJ (c:List Int)(p:Int):(bump c p).length=c.length:=by unfold bump;rw[DE]
def eN:∀ (ps:List Int) (c:List Int),(ps.foldl bump c).length=c.length
 |[],c=>rfl
 |p::r,c=>by rw[DA,eN,oJ]
def lh (n:Nat)(ps:List Int):(tally n ps).length=n:=by unfold tally;rw[eN,DS]
def eE:∀ (ps:List Int) (c:List Int) (i:Nat),i<c.length->(∀ p∈ps,0<=p)->(ps.foldl bump c)[i]?.getD 0=c[i]?.getD 0+(ps.count (i:Int):Nat)
 |[],c,i,_,_=>by simp
 |p::r,c,i,h,g=>by
  rw[DA,eE r (bump c p) i (by rw[oJ];exact h) λ q hq=>g q (De _ hq)];have gp:=g p (Dh ..);unfold bump;rw[List.getElem?_set];by_cases e:p.toNat=i
  ·have e2:p=(i:Int):=⋯
   subst e2;simp[h,Dg];omega
  ·have e2:¬ p=(i:Int):=⋯
   have e3:¬ (i:Int)=p:=⋯
   simp[e,e2,List.count_cons]
def oO (n:Nat){ps:List Int}(g:∀ p∈ps,0<=p):tally n ps=(List.range n).map λ (i:Nat)=>((ps.count (i:Int):Nat):Int):=by
 apply Ff;intro i;by_cases h:i<n
 ·have h1:=eE ps (List.replicate n 0) i 2#17 g
  have hl:i<(tally n ps).length:=by rw[lh];exact h
  have h2:(tally n ps)[i]?=some ((tally n ps)[i]?.getD 0):=by rw[Dk hl];rfl
  rw[h2];show some ((ps.foldl bump (List.replicate n 0))[i]?.getD 0)=_
  rw[h1];simp[h]
 ·rw[DO (by rw[lh];omega),DO 0#31]
def gA {n:Int}(hn:0<n){beat starts:List Int}:∀ p∈hits n beat starts,0<=p/\p<n:=λ p hp=>by
 unfold hits at hp;obtain⟨s,_,h⟩:=List.mem_flatMap.mp hp;obtain⟨b,_,rfl⟩:=List.mem_map.mp h;exact cb hn
structure Fill (n:Int)(a b:List Int):Prop where
 one:Beat n a
 oth:Beat n b
 len:((a.length*b.length:Nat):Int)=n
 inj:∀ x∈a,∀ y∈a,∀ s∈b,∀ t∈b,(x+s)%n=(y+t)%n->x=y/\s=t
def vq {a b:List Int}(p:a.Perm b){x:Int}(h:x∈a):x∈b:=p.mem_iff.mp h
def f9 {n:Int}{a:List Int}(ha:a.Nodup):∀ {b:List Int},b.Nodup->(∀ x∈a,∀ y∈a,∀ s∈b,∀ t∈b,(x+s)%n=(y+t)%n->x=y/\s=t)->(hits n a b).Nodup
 |[],_,_=>by simp[hits]
 |s::r,hb,inj=>by
  obtain⟨h1,h2⟩:=List.nodup_cons.mp hb;have e:hits n a (s::r)=(a.map λ b=>(b+s)%n)++hits n a r:=by simp[hits]
  rw[e];refine List.nodup_append.mpr ⟨gS ha λ x hx y hy q=>(inj x hx y hy s (Dh ..) s (Dh ..) q).1,f9 ha h2 λ x hx y hy u hu v hv=>inj x hx y hy u (De _ hu) v (De _ hv),λ p hp q hq z=>?_⟩;subst z;obtain⟨x,hx,rfl⟩:=List.mem_map.mp hp;unfold hits at hq;obtain⟨t,ht,hq⟩:=List.mem_flatMap.mp hq;obtain⟨y,hy,e2⟩:=List.mem_map.mp hq;have:=(inj x hx y hy s (Dh ..) t (De _ ht) e2.symm).2;exact h1 (this▸ht)
def eS (n:Int)(a:List Int):∀ b:List Int,(hits n a b).length=a.length*b.length
 |[]=>by simp[hits]
 |s::r=>by
  have e:hits n a (s::r)=(a.map λ b=>(b+s)%n)++hits n a r:=by simp[hits]
  rw[e,Dz,Di,eS n a r,Dd,Nat.mul_succ,FV]
def xc:∀ {xs:List Int} {lo:Int},xs.Pairwise (·<·)->(∀ x∈xs,lo<=x/\x<lo+xs.length)->xs=(List.range xs.length).map λ (i:Nat)=>lo+(i:Int)
 |[],_,_,_=>rfl
 |x::r,lo,h,g=>by
  obtain⟨h1,h2⟩:=List.pairwise_cons.mp h;have gx:=g x (Dh ..);have l:=pZ (lo:=x+1) (hi:=lo+((x::r).length:Int)) h2 λ y hy=>⟨h1 y hy,(g y 1#13).2⟩
  rw[Dd] at l gx;have ex:x=lo:=by
   rw[FC] at l gx;omega
  subst ex;rw[Dd,FD,C9,DV];have:=xc (xs:=r) (lo:=x+1) h2 λ y hy=>by
   have g1:=g y 1#13;have g2:=h1 y hy;rw[Dd,FC] at g1;omega
  conv=>lhs;rw[this]
  simp only[Ft,FZ,List.cons.injEq,true_and];apply D2;intro i _;simp only[JN,F9];omega
def oj {n:Nat}{ps:List Int}(nd:ps.Nodup)(rg:∀ p∈ps,0<=p/\p<n)(hl:ps.length=n):ps.Perm ((List.range n).map λ (i:Nat)=>(i:Int)):=by
 have h1:=zT (bb ps) ((aI ps).nodup_iff.mpr nd);have h2:=xc (lo:=0) h1 λ x hx=>by
  have:=rg x (vq (aI ps) hx);rw[du,hl];omega
 rw[du,hl] at h2;have h3:=(aI ps).symm;rw[h2] at h3;simpa using h3
def Fill.perm {n:Int}{a b:List Int}(h:Fill n a b):(hits n a b).Perm ((List.range n.toNat).map λ (i:Nat)=>(i:Int)):=by
 have hp:=h.one.pos;refine oj (f9 h.one.nd h.oth.nd h.inj) (λ p hq=>?_) ?_
 ·have:=gA (n:=n) ⋯ p hq;omega
 ·have:=eS n a b;have:=h.len;omega
def count_range (n i:Nat)(h:i<n):((List.range n).map λ (i:Nat)=>(i:Int)).count (i:Int)=1:=by
 have nd:((List.range n).map λ (i:Nat)=>(i:Int)).Nodup:=List.pairwise_map.mpr (List.pairwise_lt_range.imp λ {a b} h=>⋯);have h1:=(List.nodup_iff_count.mp nd) (i:Int);have h2:=List.count_pos_iff.mpr (List.mem_map.mpr ⟨i,List.mem_range.mpr h,rfl⟩:(i:Int)∈(List.range n).map λ (i:Nat)=>(i:Int));omega
def zf {n:Int}{a b:List Int}(ha:Beat n a)(hb:Beat n b)(h:tally n.toNat (hits n a b)=List.replicate n.toNat 1):Fill n a b:=by
 have hp:=ha.pos;rw[oO _ λ p hq=>(gA ⋯ p hq).1] at h;have cnt:∀ p:Int,0<=p->p<n->(hits n a b).count p=1:=λ p h0 h1=>by
  have e:=congrArg (λ l=>l[p.toNat]?) h;have hi:p.toNat<n.toNat:=⋯
  simp[hi] at e;have e2:((p.toNat:Nat):Int)=p:=⋯
  have e3:max p 0=p:=⋯
  first
   | (rw[e2] at e;omega)
   | (rw[e3] at e;omega)
 have nd:(hits n a b).Nodup:=by
  rw[List.nodup_iff_count];intro p;by_cases hm:p∈hits n a b
  ·have:=gA (n:=n) ⋯ p hm
   rw[cnt p this.1 this.2];omega
  ·rw[Ey hm];omega
 have pm:(hits n a b).Perm ((List.range n.toNat).map λ (i:Nat)=>(i:Int)):=by
  refine(List.perm_iff_count).mpr λ p=>?_
  by_cases hr:0<=p/\p<n
  ·rw[cnt p hr.1 hr.2]
   have:=count_range n.toNat p.toNat ⋯;rw[show ((p.toNat:Nat):Int)=p by omega] at this;exact this.symm
  ·rw[Ey λ hm=>hr (gA ⋯ p hm),Ey]
   intro hm;obtain⟨i,hi,rfl⟩:=List.mem_map.mp hm;have:=List.mem_range.mp hi;omega
 refine⟨ha,hb,?_,?_⟩
 ·have:=pm.length_eq
  rw[eS,Di,D1] at this;omega
 ·-- two ways to one place would count twice
  have aux:∀ {b:List Int},(hits n a b).Nodup->b.Nodup->∀ x∈a,∀ y∈a,∀ s∈b,∀ t∈b,(x+s)%n=(y+t)%n->x=y/\s=t:=by
   intro b
   induction b with
   |nil=>intro _ _ x _ y _ s hs;simp at hs
   |cons u r ih=>
    intro nd nb x hx y hy s hs t ht e;have eh:hits n a (u::r)=(a.map λ b=>(b+u)%n)++hits n a r:=by simp[hits]
    rw[eh] at nd;obtain⟨n1,n2,n3⟩:=List.nodup_append.mp nd;have inr:∀ z∈a,∀ v∈r,(z+v)%n∈hits n a r:=λ z hz v hv=>List.mem_flatMap.mpr ⟨v,hv,List.mem_map.mpr ⟨z,hz,rfl⟩⟩
    rcases List.mem_cons.mp hs with e1|hs'
    ·rcases List.mem_cons.mp ht with e2|ht'
     ·subst e1 e2
      exact⟨gG ⋯ (ha.rg x hx) (ha.rg y hy) e,rfl⟩
     ·subst e1
      exact absurd e (n3 _ (List.mem_map.mpr ⟨x,hx,rfl⟩) _ (inr y hy t ht'))
    ·rcases List.mem_cons.mp ht with e2|ht'
     ·subst e2
      exact absurd e.symm (n3 _ (List.mem_map.mpr ⟨y,hy,rfl⟩) _ (inr x hx s hs'))
     ·exact ih n2 (List.nodup_cons.mp nb).2 x hx y hy s hs' t ht' e
  exact aux nd hb.nd
end Bt
namespace Wm
open Bt
open Dv (isort)
section
variable {n:Int}{A:List Int}
def Tf (n:Int)(A:List Int)(s:Int):List Int:=isort (A.map λ x=>(x+s)%n)
def mem_T {p s:Int}:p∈Tf n A s ↔ ∃ x∈A,(x+s)%n=p:=by
 unfold Tf;rw[(aI _).mem_iff,E8]
def Bh (h:Beat n A):Tf n A 0=A:=by
 unfold Tf;have e:A.map (λ x=>(x+0)%n)=A:=by
  have:A.map (λ x=>(x+0)%n)=A.map id:=D2 λ x hx=>by
   have:=h.rg x hx;rw[FZ];exact EU this.1 this.2
  rw[this,List.map_id]
 rw[e];exact h.sorted
def uM {ks:List Int}{j p:Int}:p∈Dv.putKs ks j ↔ p∈ks\/p=j:=by
 unfold Dv.putKs
 split
 ·rename_i h
  constructor
  ·exact .inl
  ·rintro (h' | rfl)
   ·exact h'
   ·exact h
 ·simp
def uY {ks:List Int}{j:Int}(h:ks.Nodup):(Dv.putKs ks j).Nodup:=by
 unfold Dv.putKs
 split
 ·exact h
 ·rename_i q
  exact List.nodup_append.mpr ⟨h,by simp,λ a ha b hb e=>by simp at hb;subst hb;subst e;exact q ha⟩
def n0:∀ (ps ks:List Int) {p:Int},p∈ps.foldl Dv.putKs ks ↔ p∈ks\/p∈ps
 |[],ks,p=>by simp
 |q::r,ks,p=>by
  rw[DA,n0 r,uM,DT]
  constructor
  ·rintro ((h|h)|h)
   ·exact .inl h
   ·exact .inr (.inl h)
   ·exact .inr (.inr h)
  ·rintro (h|h|h)
   ·exact .inl (.inl h)
   ·exact .inl (.inr h)
   ·exact .inr h
def qV:∀ (ps ks:List Int),ks.Nodup->(ps.foldl Dv.putKs ks).Nodup
 |[],ks,h=>h
 |q::r,ks,h=>qV r _ (uY h)
def kz (n:Int)(A S:List Int):List Int:=(S.flatMap (Tf n A)).foldl Dv.putKs []
def mem_kz {S:List Int}{p:Int}:p∈kz n A S ↔ ∃ s∈S,∃ x∈A,(x+s)%n=p:=by
 unfold kz;rw[n0,Ga]
 constructor
 ·rintro (h|⟨s,hs,h⟩)
  ·simp at h
  ·exact⟨s,hs,mem_T.mp h⟩
 ·rintro ⟨s,hs,h⟩
  exact .inr ⟨s,hs,mem_T.mpr h⟩
def iJ (S:List Int):(kz n A S).Nodup:=qV _ _ .nil
def jq (hn:0<n){S:List Int}:∀ p∈kz n A S,0<=p/\p<n:=λ p hp=>by
 obtain⟨s,_,x,_,rfl⟩:=mem_kz.mp hp;exact cb hn
structure Good (n:Int)(A S:List Int):Prop where
 rg:∀ s∈S,0<=s/\s<n
 nd:S.Nodup
 inj:∀ x∈A,∀ y∈A,∀ s∈S,∀ t∈S,(x+s)%n=(y+t)%n->x=y/\s=t
def Good.less {S S':List Int}(h:Good n A S)(nd:S'.Nodup)(sub:∀ s∈S',s∈S):Good n A S':=
 ⟨λ s hs=>h.rg s (sub s hs),nd,λ x hx y hy s hs t ht=>h.inj x hx y hy s (sub s hs) t (sub t ht)⟩
def Good.len {S:List Int}(h:Good n A S)(hA:A.Nodup):(kz n A S).length=A.length*S.length:=by
 have p:(kz n A S).Perm (hits n A S):=(Ek (iJ S) (f9 hA h.nd h.inj)).mpr λ q=>by
  rw[mem_kz];unfold hits;rw[Ga]
  constructor
  ·rintro ⟨s,hs,x,hx,e⟩
   exact⟨s,hs,List.mem_map.mpr ⟨x,hx,e⟩⟩
  ·rintro ⟨s,hs,e⟩
   obtain⟨x,hx,e⟩:=List.mem_map.mp e;exact⟨s,hs,x,hx,e⟩
 rw[p.length_eq,eS]
def fre (n:Int)(ks:List Int):List Int:=((List.range n.toNat).map λ (i:Nat)=>(i:Int)).filter λ p=>!decide (p∈ks)
def mem_fre {ks:List Int}{p:Int}:p∈fre n ks ↔ (0<=p/\p<n)/\p∉ks:=by
 unfold fre;rw[EJ,E8]
 constructor
 ·rintro ⟨⟨i,hi,rfl⟩,h⟩
  have:=List.mem_range.mp hi;exact⟨⋯,by simpa using h⟩
 ·rintro ⟨h,q⟩
  exact⟨⟨p.toNat,List.mem_range.mpr ⋯,⋯⟩,by simpa using q⟩
def Am (ks:List Int):(fre n ks).Pairwise (·<·):=by
 unfold fre;refine List.Pairwise.filter _ (List.pairwise_map.mpr ?_);exact List.pairwise_lt_range.imp λ h=>⋯
def gv (hn:0<n){ks:List Int}(nd:ks.Nodup)(rg:∀ p∈ks,0<=p/\p<n):fre n ks=[] ↔ (ks.length:Int)=n:=by
 constructor
 ·intro h
  have p:ks.Perm ((List.range n.toNat).map λ (i:Nat)=>(i:Int)):=by
   refine(Ek nd ?_).mpr λ q=>⟨λ hq=>?_,λ hq=>?_⟩
   ·exact(List.pairwise_map.mpr (List.pairwise_lt_range.imp λ h=>⋯)).imp λ {a b} (h:a<b)=>⋯
   ·have:=rg q hq
    exact List.mem_map.mpr ⟨q.toNat,List.mem_range.mpr ⋯,⋯⟩
   ·obtain⟨i,hi,rfl⟩:=List.mem_map.mp hq
    have hi:=List.mem_range.mp hi;by_cases z:(i:Int)∈ks
    ·exact z
    ·have:(i:Int)∈fre n ks:=mem_fre.mpr ⟨⋯,z⟩
     rw[h] at this;cases this
  have:=p.length_eq;rw[Di,D1] at this;omega
 ·intro h
  have p:=oj (n:=n.toNat) nd (λ p hp=>by have:=rg p hp;omega) ⋯;cases q:fre n ks with
  |nil=>rfl
  |cons m r=>
   have hm:m∈fre n ks:=by rw[q];exact Dh ..
   obtain⟨h1,h2⟩:=mem_fre.mp hm;exact absurd (p.mem_iff.mpr (List.mem_map.mpr ⟨m.toNat,List.mem_range.mpr ⋯,⋯⟩)) h2
def kids (n:Int)(A S:List Int)(m:Int):List Int:=(A.map λ x=>(m-x)%n).filter λ s=>(Tf n A s).all λ p=>!decide (p∈kz n A S)
def mem_kids {S:List Int}{m s:Int}:s∈kids n A S m ↔ (∃ x∈A,(m-x)%n=s)/\∀ x∈A,(x+s)%n∉kz n A S:=by
 unfold kids;rw[EJ,E8,Er];refine and_congr Iff.rfl ⟨λ h x hx=>?_,λ h p hp=>?_⟩
 ·simpa using h _ (mem_T.mpr ⟨x,hx,rfl⟩)
 ·obtain⟨x,hx,rfl⟩:=mem_T.mp hp
  simpa using h x hx
def vd {x m:Int}(hm:0<=m/\m<n):(x+(m-x)%n)%n=m:=by
 have:(x+(m-x)%n)%n=m%n:=mod_eq_iff.mpr ⟨-((m-x)/n),by
  have:=FH (m-x) n;rw[Gx];omega⟩
 rw[this];exact EU hm.1 hm.2
def gH (S:List Int)(m:Int):(kids n A S m).length<=A.length:=by
 unfold kids;exact D4 (Ed _ _) (by rw[Di];exact Du _)
def Good.kid (h:Beat n A){S:List Int}{m s:Int}(g:Good n A S)(hm:m∈fre n 1#71)(hs:s∈kids n A S m):Good n A (S++[s])/\∃ x∈A,(x+s)%n=m:=by
 have hp:=h.pos;obtain⟨hm1,hm2⟩:=mem_fre.mp hm;obtain⟨⟨x,hx,rfl⟩,hfr⟩:=mem_kids.mp hs;have hsr:0<=(m-x)%n/\(m-x)%n<n:=cb ⋯;have hxm:(x+(m-x)%n)%n=m:=vd hm1;have hnot:(m-x)%n∉S:=λ z=>hm2 (mem_kz.mpr ⟨_,z,x,hx,hxm⟩)
 refine⟨⟨λ t ht=>?_,List.nodup_append.mpr ⟨g.nd,by simp,λ a ha b hb e=>?_⟩,λ y hy z hz t ht u hu e=>?_⟩,x,hx,hxm⟩
 ·rcases List.mem_append.mp ht with ht|ht
  ·exact g.rg t ht
  ·simp at ht;subst ht;exact hsr
 ·simp at hb;subst hb;subst e;exact hnot ha
 ·rcases List.mem_append.mp ht with ht|ht <;>rcases List.mem_append.mp hu with hu|hu
  ·exact g.inj y hy z hz t ht u hu e
  ·simp at hu;subst hu
   exact absurd (mem_kz.mpr ⟨t,ht,y,hy,e⟩) (hfr z hz)
  ·simp at ht;subst ht
   exact absurd (mem_kz.mpr ⟨u,hu,z,hz,e.symm⟩) (hfr y hy)
  ·simp at ht hu;subst ht;subst hu
   exact⟨gG ⋯ (h.rg y hy) (h.rg z hz) e,rfl⟩
def dfs (n:Int)(A:List Int):Nat->List Int->List 0#48
 |0,_=>[]
 |d+1,S=>match fre n 1#71 with
  |[]=>[isort S]
  |m::_=>(kids n A S m).flatMap λ s=>dfs n A d (S++[s])
def cas (n:Int)(A:List Int):Nat->List Int->Nat
 |0,_=>0
 |d+1,S=>match fre n 1#71 with
  |[]=>1
  |m::_=>1+((kids n A S m).map λ s=>cas n A d (S++[s])).sum
def ug {B:List Int}(f:Fill n A B):Good n A B:=⟨f.oth.rg,f.oth.nd,f.inj⟩
def fI {S B:List Int}(nd:S.Nodup)(sub:∀ s∈S,s∈B):S.length<=B.length:=nd.length_le_of_subset sub
def r6 {B:List Int}(f:Fill n A B):∀ (d:Nat) (S:List Int),S.Nodup->(∀ s∈S,s∈B)->S≠[]->B.length-S.length<d->B∈dfs n A d S
 |0,S,_,_,_,hd=>⋯
 |d+1,S,nd,sub,ne,hd=>by
  have h:=f.one;have hp:=h.pos;have g:Good n A S:=(ug f).less nd sub;unfold dfs;cases hf:fre n 1#71 with
  |nil=>
   have hl:=(gv ⋯ (iJ S) (jq ⋯)).mp hf;rw[g.len h.nd] at hl;have hlB:=f.len;have e1:A.length*S.length=A.length*B.length:=⋯
   have e2:S.length=B.length:=Nat.eq_of_mul_eq_mul_left h.len1 e1;have p:S.Perm B:=(Ek nd f.oth.nd).mpr λ x=>⟨sub x,λ hx=>by
    by_cases z:x∈S
    ·exact z
    ·have:=fI (S:=x::S) (B:=B) (List.nodup_cons.mpr ⟨z,nd⟩) (λ s hs=>by
      rcases List.mem_cons.mp hs with rfl|hs
      ·exact hx
      ·exact sub s hs)
     rw[Dd] at this;omega⟩
   simp only[Fc];rw[fT p,f.oth.sorted]
  |cons m r=>
   have hm:m∈fre n 1#71:=by rw[hf];exact Dh ..
   obtain⟨hm1,hm2⟩:=mem_fre.mp hm;have hcov:m∈hits n A B:=f.perm.mem_iff.mpr (List.mem_map.mpr ⟨m.toNat,List.mem_range.mpr ⋯,⋯⟩);unfold hits at hcov;obtain⟨b,hb,hcov⟩:=List.mem_flatMap.mp hcov;obtain⟨x,hx,hxm⟩:=List.mem_map.mp hcov;have hbr:=f.oth.rg b hb;have hbS:b∉S:=λ z=>hm2 (mem_kz.mpr ⟨b,z,x,hx,hxm⟩)
   have hbk:(m-x)%n=b:=by
    have:(m-x)%n=b%n:=by
     rw[<- hxm];refine mod_eq_iff.mpr ⟨-((x+b)/n),?_⟩;have:=FH (x+b) n;rw[Gx];omega
    rw[this];exact EU hbr.1 hbr.2
   have hk:b∈kids n A S m:=mem_kids.mpr ⟨⟨x,hx,hbk⟩,λ y hy z=>by
    obtain⟨t,ht,w,hw,e⟩:=mem_kz.mp z;exact hbS ((f.inj y hy w hw b hb t (sub t ht) e.symm).2▸ht)⟩
   refine List.mem_flatMap.mpr ⟨b,hk,?_⟩;have nd':(S++[b]).Nodup:=List.nodup_append.mpr ⟨nd,by simp,λ a ha c hc e=>by simp at hc;subst hc;subst e;exact hbS ha⟩;have sub':∀ s∈S++[b],s∈B:=λ s hs=>by
    rcases List.mem_append.mp hs with hs|hs
    ·exact sub s hs
    ·simp at hs;subst hs;exact hb
   have:=fI nd' sub';rw[Dz,D5] at this;exact r6 f d (S++[b]) nd' sub' 0#5 (by rw[Dz,D5];omega)
def bnd (a:Nat):Nat->Nat
 |0=>1
 |r+1=>1+a*bnd a r
def je {f:Int->Nat}{b:Nat}:∀ (l:List Int),(∀ s∈l,f s<=b)->(l.map f).sum<=l.length*b
 |[],_=>by simp
 |s::r,h=>by
  have:=je r λ t ht=>h t (De _ ht)
  have:=h s (Dh ..);rw[C9,FL,Dd,Ea];omega
def vS (h:Beat n A):∀ (d:Nat) (S:List Int),cas n A d S<=bnd A.length (d-1)
 |0,S=>by simp[cas,bnd]
 |d+1,S=>by
  unfold cas
  split
  ·show 1<=bnd A.length d
   cases d <;>simp[bnd]
  ·rename_i m r _
   cases d with
   |zero=>
    have:=je (f:=λ s=>cas n A 0 (S++[s])) (b:=0) (kids n A S m) λ s _=>Du _
    show 1+_<=1
    omega
   |succ d=>
    have:=je (f:=λ s=>cas n A (d+1) (S++[s])) (b:=bnd A.length d) (kids n A S m) λ s _=>vS h (d+1) (S++[s])
    have h2:=E1 (bnd A.length d) (gH (n:=n) (A:=A) S m);show 1+_<=1+A.length*bnd A.length d
    omega
def sr (h:Beat n A):∀ (d:Nat) (S:List Int),(dfs n A d S).length<=A.length ^ (d-1)
 |0,S=>by simp[dfs]
 |d+1,S=>by
  unfold dfs
  split
  ·show 1<=A.length ^ d
   exact Nat.one_le_pow _ _ h.len1
  ·rename_i m r _
   cases d with
   |zero=>
    rw[FM];have:=je (f:=λ s=>(dfs n A 0 (S++[s])).length) (b:=0) (kids n A S m) λ s _=>Du _
    simp only[Et,FX,Nat.pow_zero];omega
   |succ d=>
    rw[FM];have:=je (f:=λ s=>(dfs n A (d+1) (S++[s])).length) (b:=A.length ^ d) (kids n A S m) λ s _=>sr h (d+1) (S++[s])
    have h2:=E1 (A.length ^ d) (gH (n:=n) (A:=A) S m);show _<=A.length ^ (d+1)
    rw[Gs,EN];omega
end
end Wm
namespace Cw
open Dv (Out R RL cmD aZ eAllF eB1 eB2 eBl eCall eCm eComp eCompT eDict0 eDnin eFld eInt eIx eLst eNeg eNot eOp eOr eTup eVar forGo iRange iSeq keepD lCons lNil opD rngOk sAppG sCons sDPut sExpr sFor sForT sIf sNil sRet sRetO sSet sSetG)
open Dv (D R RL EE EL EI RI Sl Out SS St)
open Bt
abbrev L (xs:List Int):D:=.lst 1#8
def eJ:∀ xs:List Int,Dv.intsOf (xs.map .int)=some xs
 |[]=>rfl
 |x::r=>by simp[Dv.intsOf,eJ r]
def bp:∀ xs:List Int,Dv.flatL (xs.map .int)=true
 |[]=>rfl
 |x::r=>by simp[Dv.flatL,Dv.scal,bp r]
def BR (i:Int):∀ xs:List Int,Dv.inD i (xs.map .int)=some (decide (i∈xs))
 |[]=>by simp[Dv.inD]
 |x::r=>by
  rw[C9];unfold Dv.inD;rw[BR i r];by_cases h:x=i
  ·subst h;simp
  ·have h2:¬ i=x:=λ e=>h e.symm
   simp[h,h2]
def zH:∀ a b:List Int,Dv.eqDL (a.map .int) (b.map .int)=some (decide (a=b))
 |[],[]=>rfl
 |[],_::_=>rfl
 |_::_,[]=>rfl
 |x::a,y::b=>by
  show (match (some (decide (x=y)):Option Bool),Dv.eqDL (a.map .int) (b.map .int) with|some p,some q=>some (p&&q)|_,_=>none)=_
  rw[zH a b];show some (decide (x=y)&&decide (a=b))=_
  by_cases h:x=y <;>by_cases h2:a=b <;>simp[h,h2]
def zW (a b:List Int):Dv.eqD (L a) (L b)=some (decide (a=b)):=zH a b
def eq_int (a b:Int):Dv.eqD (.int a) (.int b)=some (decide (a=b)):=rfl
def zU:∀ xs:List Int,Dv.depthL (xs.map .int)=0
 |[]=>by simp[Dv.depthL]
 |x::r=>by rw[C9];unfold Dv.depthL;rw[zU r];simp[Dv.depthD]
def lP (xs:List Int):Dv.depthD (L xs)=1:=by unfold Dv.depthD;rw[zU]
def iT (i:Int):Dv.depthD (.int i)=0:=by unfold Dv.depthD;rfl
def As {s:List Int}{k:Int}(h:0<=k)(h2:k<s.length):Dv.at? (s.map .int) k=some (.int (s.getD k.toNat 0)):=by
 unfold Dv.at?;rw[if_pos h];have:k.toNat<s.length:=⋯
 simp[DD,Dg,Dk this]
def wo (a b:List Int):cmD .eq (L a) (L b)=.ok (.bl (decide (a=b))) true:=by
 simp only[Dv.cmD_eq,Dv.cmD_ne,Dv.cmD_lt,Dv.cmD_le,Dv.cmD_gt,Dv.cmD_ge,Dv.cmD_in,Dv.cmD_ni,Dv.cmD_it,Dv.cmD_nt,lP,lP,zW,Dv.optB,EK];rfl
def cM (a b:Int):cmD .eq (.int a) (.int b)=.ok (.bl (decide (a=b))) true:=by
 simp only[Dv.cmD_eq,Dv.cmD_ne,Dv.cmD_lt,Dv.cmD_le,Dv.cmD_gt,Dv.cmD_ge,Dv.cmD_in,Dv.cmD_ni,Dv.cmD_it,Dv.cmD_nt,iT,iT,eq_int,Dv.optB,EK];rfl
def Bp (a b:Int):cmD .ne (.int a) (.int b)=.ok (.bl (!decide (a=b))) true:=by
 simp only[Dv.cmD_eq,Dv.cmD_ne,Dv.cmD_lt,Dv.cmD_le,Dv.cmD_gt,Dv.cmD_ge,Dv.cmD_in,Dv.cmD_ni,Dv.cmD_it,Dv.cmD_nt,iT,iT,eq_int,Dv.optB,EK];rfl
def AM (a:List Int):cmD .eq (L a) (.lst [])=.ok (.bl (decide (a=[]))) true:=wo a []
def CF (i:Int)(b:List Int):cmD .isin (.int i) (L b)=.ok (.bl (decide (i∈b))) true:=by
 simp only[Dv.cmD_eq,Dv.cmD_ne,Dv.cmD_lt,Dv.cmD_le,Dv.cmD_gt,Dv.cmD_ge,Dv.cmD_in,Dv.cmD_ni,Dv.cmD_it,Dv.cmD_nt,BR,Dv.optB,EK]
def iq (a b:Int):cmD .lt (.int a) (.int b)=.ok (.bl (decide (a<b))) true:=rfl
def rM (a b:Int):cmD .le (.int a) (.int b)=.ok (.bl (decide (a<=b))) true:=rfl
def iy (a b:Int):cmD .gt (.int a) (.int b)=.ok (.bl (decide (b<a))) true:=rfl
def w8 (a b:Int):cmD .ge (.int a) (.int b)=.ok (.bl (decide (b<=a))) true:=rfl
def iQ {i j:Int}(h:-(2 ^ 64)<i)(h2:i<2 ^ 64):Dv.mulOk i j=true:=by
 have:Dv.bits i<=64:=by
  unfold Dv.bits
  split
  ·omega
  ·have h3:i.natAbs<2 ^ 64:=⋯
   have:=(Gb ⋯).mpr h3;omega
 simp[Dv.mulOk,this]
def gB {i j:Int}(h:-(2 ^ 64)<j)(h2:j<2 ^ 64):Dv.mulOk i j=true:=by
 have:Dv.bits j<=64:=by
  unfold Dv.bits
  split
  ·omega
  ·have h3:j.natAbs<2 ^ 64:=⋯
   have:=(Gb ⋯).mpr h3;omega
 simp[Dv.mulOk,this]
def dZ {i j:Int}(h:Dv.mulOk i j=true):opD .mul (.int i) (.int j)=.ok (.int (i*j)) true:=by
 simp[Dv.opD_ai,Dv.opD_al,Dv.opD_su,Dv.opD_mi,Dv.opD_ml,Dv.opD_mo,Dv.opD_fd,Dv.opD_po,Dv.opD_ba,Dv.opD_sh,h]
def bz {i j:Int}(h:0<j):opD .mod (.int i) (.int j)=.ok (.int (i%j)) true:=by
 simp[Dv.opD_ai,Dv.opD_al,Dv.opD_su,Dv.opD_mi,Dv.opD_ml,Dv.opD_mo,Dv.opD_fd,Dv.opD_po,Dv.opD_ba,Dv.opD_sh,h]
def we {j:Int}(h:0<j)(h2:j<2 ^ 200):Dv.divOk j=true:=by
 have h3:j.natAbs<2 ^ 200:=⋯
 have:=(Gb ⋯).mpr h3;simp only[Dv.divOk,Dl,decide_eq_true_eq];omega
def gC {i j:Int}(h:0<j)(h2:j<2 ^ 200):opD .fdiv (.int i) (.int j)=.ok (.int (i/j)) true:=by
 simp[Dv.opD_ai,Dv.opD_al,Dv.opD_su,Dv.opD_mi,Dv.opD_ml,Dv.opD_mo,Dv.opD_fd,Dv.opD_po,Dv.opD_ba,Dv.opD_sh,we h h2]
def cZ (i j:Int):opD .add (.int i) (.int j)=.ok (.int (i+j)) true:=rfl
def eC (i j:Int):opD .sub (.int i) (.int j)=.ok (.int (i-j)) true:=rfl
def wJ {a b:List Int}(h:a.length+b.length<=100000):opD .add (L a) (L b)=.ok (L (a++b)) true:=by
 simp[Dv.opD_ai,Dv.opD_al,Dv.opD_su,Dv.opD_mi,Dv.opD_ml,Dv.opD_mo,Dv.opD_fd,Dv.opD_po,Dv.opD_ba,Dv.opD_sh,Dv.mx,h,bp]
def rY {x n:Int}(h:-100000<=n)(h2:n<=100000):opD .mul (.lst [.int x]) (.int n)=.ok (L (List.replicate n.toNat x)) true:=by
 have h3:n.toNat<=100000:=⋯
 have e:(List.replicate n.toNat [D.int x]).flatten=(List.replicate n.toNat x).map D.int:=by
  generalize n.toNat=k
  induction k with
  |zero=>rfl
  |succ k ih=>rw[DL,Ef,ih,DL,C9];rfl
 simp[Dv.opD_ai,Dv.opD_al,Dv.opD_su,Dv.opD_mi,Dv.opD_ml,Dv.opD_mo,Dv.opD_fd,Dv.opD_po,Dv.opD_ba,Dv.opD_sh,Dv.mx,h,h2,h3,e,Dv.flatL,Dv.scal,L]
def xH {x n:Int}(h:0<=n)(h2:n<=100000):opD .mul (.lst [.int x]) (.int n)=.ok (L (List.replicate n.toNat x)) true:=rY ⋯ h2
def i5 {xs:List Int}(h:xs.length<64)(f:Bool):Dv.sortedD (L xs) f=.ok (L (Dv.isort xs)) true:=by
 unfold Dv.sortedD;simp only[eJ];rw[if_pos h]
def bq:Sl.get .no=none:=rfl
def my (d:D):Sl.get (.dp d)=some d:=rfl
def hZ (d:D):Sl.shared (.dp d)=none:=rfl
def ax (d:D):Sl.get (.sh d)=some d:=rfl
def cI (d:D):Sl.get (.ow d)=some d:=rfl
def be (d:D):Sl.give (.sh d)=.sh d:=rfl
def zg (d:D):Sl.give (.ow d)=.sh d:=rfl
def bw:Sl.shared .no=none:=rfl
def aM (d:D):Sl.shared (.sh d)=some d:=rfl
def bE (d:D):Sl.shared (.ow d)=none:=rfl
def ah (i:Int):Dv.scal (.int i)=true:=rfl
def ar (i:List D):Dv.scal (.lst i)=false:=rfl
def u2 (i:List D):Dv.scal (.tup i)=false:=rfl
def bP (i:Int)(f:Bool):keepD (.int i) f=some (.sh (.int i)):=rfl
def keep_nil:keepD (.lst []) true=some (.ow (.lst [])):=rfl
def eK (xs:List Int):keepD (L xs) true=some (.ow (L xs)):=by simp[keepD,bp]
def o6 {elt cond:EE}{free:Dv.Env}{c:Int->Bool}{g:Int->Int}:∀ {xs:List Int},(∀ x∈xs,cond (some (.int x)::free)=.ok (.bl (c x)) true)->(∀ x∈xs,c x=true->elt (some (.int x)::free)=.ok (.int (g x)) true) ->
  aZ elt cond free 1#8=.ok (((xs.filter c).map g).map .int) true
 |[],_,_=>rfl
 |x::r,h,k=>by
  rw[C9];unfold aZ;rw[h x (Dh ..),o6 (c:=c) (g:=g) (λ y hy=>h y 1#13) λ y hy=>k y 1#13];cases e:c x with
  |true=>rw[k x (Dh ..) e];simp[e]
  |false=>simp[e]
def vH {elt:EE}{free:Dv.Env}{g:Int->Int}{xs:List Int}(k:∀ x∈xs,elt (some (.int x)::free)=.ok (.int (g x)) true):
  aZ elt 0#72 free 1#8=.ok ((xs.map g).map .int) true:=by
 rw[o6 (c:=λ _=>true) (g:=g) 2#1 λ x hx _=>k x hx,List.filter_eq_self.mpr 2#1]
def gM {elt:EE}{is:List Nat}{it:EI}{ρ:Dv.Env}{g:Int->Int}{xs:List Int}{f:Bool}(hi:it ρ=.ok 1#8 f)(hl:xs.length<=100000)(k:∀ x∈xs,elt (some (.int x)::Dv.pick ρ is)=.ok (.int (g x)) true):
  eComp elt 0#72 is it ρ=.ok (L (xs.map g)) true:=by
 unfold eComp;rw[hi];simp only[Di,Dv.mx,hl,if_true,vH k]
def dB {elt cond:EE}{is:List Nat}{it:EI}{ρ:Dv.Env}{c:Int->Bool}{g:Int->Int}{xs:List Int}{f:Bool}(hi:it ρ=.ok 1#8 f)(hl:xs.length<=100000)(h:∀ x∈xs,cond (some (.int x)::Dv.pick ρ is)=.ok (.bl (c x)) true)
  (k:∀ x∈xs,c x=true->elt (some (.int x)::Dv.pick ρ is)=.ok (.int (g x)) true):eComp elt cond is it ρ=.ok (L ((xs.filter c).map g)) true:=by
 unfold eComp;rw[hi];simp only[Di,Dv.mx,hl,if_true,o6 h k]
def upto (n:Nat):List Int:=(List.range n).map λ (i:Nat)=>(i:Int)
def g7 (lo:Int):∀ n:Nat,Dv.rangeL lo n=((List.range n).map λ (i:Nat)=>lo+(i:Int)).map D.int
 |0=>rfl
 |n+1=>by
  unfold Dv.rangeL;rw[g7 (lo+1) n,FD,C9,C9,DV,DV,DV];simp only[Ft,FZ,List.cons.injEq,true_and];apply D2;intro i _;simp only[JN,F9];congr 1;omega
def c9 (n:Nat):Dv.rangeL 0 n=(upto n).map .int:=by rw[g7];simp[upto]
def upto_len (n:Nat):(upto n).length=n:=by simp[upto]
def mem_upto {n:Nat}{x:Int}:x∈upto n ↔ 0<=x/\x<n:=by
 unfold upto;rw[E8]
 constructor
 ·rintro ⟨i,hi,rfl⟩;have:=List.mem_range.mp hi;omega
 ·intro h;exact⟨x.toNat,List.mem_range.mpr ⋯,⋯⟩
def br {x:Nat}{body:SS}{d:D}{r:List D}{st st':St}(h:body (st.set x (.sh d))=.nx st'):forGo x body (d::r) st=forGo x body r st':=by
 conv=>lhs;unfold forGo
 rw[h]
def kY {x:Nat}{body:SS}{d:D}{r:List D}{st st':St}{c:String}(h:body (st.set x (.sh d))=.exc c st'):forGo x body (d::r) st=.exc c st':=by
 conv=>lhs;unfold forGo
 rw[h]
def kr {tgt:D->St->Option St}{body:SS}{d:D}{r:List D}{st st1 st':St}(h0:tgt d st=some st1)(h:body st1=.nx st'):Dv.forGoT tgt body (d::r) st=Dv.forGoT tgt body r st':=by
 conv=>lhs;unfold Dv.forGoT
 rw[h0];simp only[h]
def eG {n:Int}(h:1<=n)(h2:n<=60):F_Q05 [.int n]=.ok .non true:=by
 simp only[F_Q05,b_Q05,Dv.fn,sNil,sIf,eOr,eCm,eVar,eInt,Dv.all,R.bind,RL.bind,Out.bind,ax,ah,C9,Dj,Dd,Dp,List.replicate,Dm,Do,C8,Nat.reduceAdd,Nat.reduceSub,iq,iy,decide_eq_false (show ¬ n<1 by omega),decide_eq_false (show ¬ 60<n by omega)]
def eu (b n:Int):List Int->Bool
 |[]=>true
 |x::r=>decide (b<x)&&decide (x<n)&&eu x n r
def jQ:∀ {xs:List Int} {b n:Int},eu b n xs=true ↔ xs.Pairwise (·<·)/\∀ x∈xs,b<x/\x<n
 |[],b,n=>by simp[eu]
 |x::r,b,n=>by
  unfold eu;rw[Dl,Dl,decide_eq_true_eq,decide_eq_true_eq,jQ,FR]
  constructor
  ·rintro ⟨⟨h1,h2⟩,h3,h4⟩
   refine⟨⟨λ y hy=>(h4 y hy).1,h3⟩,λ y hy=>?_⟩
   rcases List.mem_cons.mp hy with rfl|hy
   ·exact⟨h1,h2⟩
   ·have:=h4 y hy;omega
  ·rintro ⟨⟨h1,h2⟩,h3⟩
   have:=h3 x (Dh ..);exact⟨this,h2,λ y hy=>⟨h1 y hy,(h3 y 1#13).2⟩⟩
def beat_iff {n:Int}{xs:List Int}:Beat n xs ↔ xs≠[]/\eu (-1) n xs=true:=by
 rw[jQ]
 constructor
 ·intro h;exact⟨h.ne,h.up,λ x hx=>by have:=h.rg x hx;omega⟩
 ·rintro ⟨h1,h2,h3⟩;exact⟨h1,h2,λ x hx=>by have:=h3 x hx;omega⟩
def ej (n:Int)(A:D):∀ (xs:List Int) (b:Int) (z:Sl),eu b n xs=true->∃ st',forGo 3 b_Q04_l1 1#8 [.sh A,.sh (.int n),.sh (.int b),z]=.nx st'
 |[],b,z,_=>⟨_,rfl⟩
 |x::r,b,z,hu=>by
  unfold eu at hu;rw[Dl,Dl,decide_eq_true_eq,decide_eq_true_eq] at hu;obtain⟨⟨h1,h2⟩,h3⟩:=hu;obtain⟨st',h⟩:=ej n A r x (.sh (.int x)) h3;refine⟨st',?_⟩;rw[C9,br (st':=[.sh A,.sh (.int n),.sh (.int x),.sh (.int x)]),h];simp only[b_Q04_l1,sCons,sNil,sSetG,Dv.give,Dv.open_,be,aM,sIf,eOr,eCm,eVar,Dv.all,R.bind,RL.bind,Out.bind,ax,ah,C9,Dj,C8,Dc,Dr,Dq,DA,DH,Dw,rM,w8,decide_eq_false (show ¬ x<=b by omega),decide_eq_false (show ¬ n<=x by omega)]
def iN {n:Int}{xs:List Int}(h1:xs≠[])(h:eu (-1) n xs=true):F_Q04 [L xs,.int n]=.ok .non true:=by
 obtain⟨st',e⟩:=ej n (L xs) xs (-1) .no h;have h1:¬ ((xs.length:Int)=0):=by
  have:=List.length_pos_iff.mpr h1;omega
 simp only[F_Q04,b_Q04,b_Q04_t2,b_Q04_t1,Dv.fn,sCons,sNil,sSet,bP,Dv.give,Dv.open_,be,bw,aM,sIf,sFor,iSeq,eB1,Dv.lenD,eNeg,eCm,eVar,eInt,Dv.all,R.bind,RL.bind,Out.bind,bq,ax,ar,C9,Dj,Dd,Dp,List.replicate,Dm,Do,C8,Dr,Dq,DA,DH,Dw,Nat.reduceAdd,Nat.reduceSub,cM,Di,decide_eq_false h1,e]
def bM {n:Int}{xs:List Int}(hn:n<=60)(h:Beat n xs):F_Q03 [.int n,L xs]=.ok .non true:=by
 have e:=iN h.ne (beat_iff.mp h).2;simp only[F_Q03,b_Q03,b_Q03_t1,Dv.fn,sCons,sExpr,eVar,lNil,lCons,eCall,Dv.all,R.bind,RL.bind,Dv.R.bindL,Dv.RL.bindL,Out.bind,ax,ah,ar,C9,Dj,Dd,Dp,List.replicate,Dm,Do,C8,Dc,Dt,Nat.reduceAdd,Nat.reduceSub,eG h.pos hn,e]
def cell (s:List Int)(k:Int):Int:=
 if k<s.length then s.getD k.toNat 0 else
 if 0<s.length then
  (s.getD (k%s.length).toNat 0*48271+k*7919)%2147483647*((s.getD (k%s.length).toNat 0*48271+k*7919)%2147483647)%2147483629
 else (7919*k+5)*(7919*k+5)%2147483629
def qU {s:List Int}{k:Int}(h:0<=k)(h2:k<=1000000):F_Q0G [L s,.int k]=.ok (.int (cell s k)) true:=by
 by_cases hk:k<(s.length:Int)
 ·simp only[F_Q0G,b_Q0G,b_Q0G_t3,b_Q0G_t2,b_Q0G_t1,Dv.fn,sCons,sIf,sRet,eB1,Dv.lenD,eIx,Dv.ixD,eCm,eVar,Dv.all,R.bind,RL.bind,Out.bind,bq,ax,ah,ar,C9,Dj,Dd,Dp,List.replicate,Dm,Do,C8,Dc,DN,Nat.reduceAdd,Nat.reduceSub,iq,Di,As h hk,decide_eq_true hk,cell,if_pos hk]
 ·by_cases hs:0<s.length
  ·have hs':(0:Int)<(s.length:Int):=⋯
   have hm:=cb (n:=(s.length:Int)) (a:=k) hs';have hz:=cb (n:=2147483647) (a:=s.getD (k%(s.length:Int)).toNat 0*48271+k*7919) ⋯;simp only[F_Q0G,b_Q0G,b_Q0G_t3,b_Q0G_t2,b_Q0G_t1,Dv.fn,sCons,sNil,sSet,bP,sIf,sRet,eB1,Dv.lenD,eIx,Dv.ixD,eCm,eOp,eVar,eInt,Dv.all,R.bind,RL.bind,Out.bind,bq,ax,ah,ar,C9,Dj,Dd,Dp,List.replicate,Dm,Do,C8,Dc,Dr,Dq,DN,Nat.reduceAdd,Nat.reduceSub,cZ,iq,iy,Di,decide_eq_false hk,cell,if_neg hk,if_pos hs,decide_eq_true hs',bz hs',As hm.1 hm.2,dZ (gB (j:=48271) 0#2 0#2),dZ (gB (j:=7919) 0#2 0#2),dZ (iQ (i:=7919) 0#2 0#2),bz (j:=2147483647) 0#2,bz (j:=2147483629) 0#2];simp only[dZ (iQ (i:=(s.getD (k%(s.length:Int)).toNat 0*48271+k*7919)%2147483647) ⋯ ⋯),bz (j:=2147483629) 0#2]
  ·have hs':¬ (0:Int)<(s.length:Int):=⋯
   simp only[F_Q0G,b_Q0G,b_Q0G_t3,b_Q0G_t2,b_Q0G_t1,Dv.fn,sCons,sNil,sSet,bP,sIf,sRet,eB1,Dv.lenD,eCm,eOp,eVar,eInt,Dv.all,R.bind,RL.bind,Out.bind,bq,ax,ah,ar,C9,Dj,Dd,Dp,List.replicate,Dm,Do,C8,Dc,Dr,Dq,Nat.reduceAdd,Nat.reduceSub,cZ,iq,iy,Di,decide_eq_false hk,cell,if_neg hk,if_neg hs,decide_eq_false hs',dZ (iQ (i:=7919) 0#2 0#2),dZ (iQ (i:=7919*k+5) ⋯ ⋯),bz (j:=2147483629) 0#2]
def Sm (s:List Int):Prop:=∀ x∈s,Dv.bits x<=1048576
def sI (n:Nat):(upto n).Pairwise (·<·):=by
 unfold upto;exact List.pairwise_map.mpr (List.pairwise_lt_range.imp λ {a b} h=>⋯)
def js {n:Int}(h:0<=n)(h2:n<=1000):rngOk n=true:=by
 simp only[rngOk,Dl,decide_eq_true_eq];omega
def wj {a r:SS}{st st1:St}(h:a st=.nx st1):sCons a r st=r st1:=by
 unfold sCons;rw[h]
def Hs (s:Sl)(a:List Int):Prop:=s=.sh (L a)\/s=.ow (L a)
def Hs.get {s:Sl}{a:List Int}(h:Hs s a):s.get=some (L a):=by rcases h with h|h <;>(subst h;rfl)
def Hs.give {s:Sl}{a:List Int}(h:Hs s a):s.give=.sh (L a):=by rcases h with h|h <;>(subst h;rfl)
def lB {n:Int}{xs:List Int}(hn:1<=n)(hn2:n<=60)(hl:xs.length<64)(hb:Beat n (Dv.isort (xs.map (·%n)))):F_Q0Q [.int n,L xs]=.ok (L (Dv.isort (xs.map (·%n)))) true:=by
 have hc:c_Q0Q_1 [some (.int n),some (L xs),none]=.ok (L (xs.map (·%n))) true:=by
  unfold c_Q0Q_1;exact gM (f:=false) rfl ⋯ λ x hx=>by simp only[eOp,eVar,Dv.pick,R.bind,RL.bind,Out.bind,ah,C9,Dj,C8,Dc,Dw,bz (show (0:Int)<n by omega)]
 simp only[F_Q0Q,b_Q0Q,b_Q0Q_t3,b_Q0Q_t2,b_Q0Q_t1,Dv.fn,sCons,sSet,eK,sRetO,sExpr,eB1,eVar,lNil,lCons,eCall,Dv.all,R.bind,RL.bind,Dv.R.bindL,Dv.RL.bindL,Out.bind,bq,ax,cI,ah,ar,C9,Dj,Dd,Dp,List.replicate,Dm,Do,C8,Dc,Dr,Dq,Dt,DC,Nat.reduceAdd,Nat.reduceSub,bp,eG hn hn2,hc,i5 (xs:=xs.map (·%n)) 1#67,bM hn2 hb]
def ir {n c:Int}{xs:List Int}(hn:n<=60)(h:Beat n xs):F_Q12 [.int n,L xs,.int c]=.ok (L (Dv.isort (xs.map λ x=>(x+c)%n))) true:=by
 have hl:=h.len;have hc:c_Q12_1 [some (.int n),some (L xs),some (.int c)]=.ok (L (xs.map (·+c))) true:=by
  unfold c_Q12_1;exact gM (f:=false) rfl ⋯ λ x hx=>by simp only[eOp,eVar,Dv.pick,R.bind,RL.bind,Out.bind,ah,C9,Dj,C8,Dc,Dw,cZ]
 have e:(xs.map (·+c)).map (·%n)=xs.map λ x=>(x+c)%n:=by rw[DV];rfl
 have hm:=lB (n:=n) (xs:=xs.map (·+c)) h.pos hn 0#31 (by rw[e];exact ko h);rw[e] at hm;simp only[F_Q12,b_Q12,b_Q12_t1,Dv.fn,sCons,sRet,sExpr,eVar,lNil,lCons,eCall,Dv.all,R.bind,RL.bind,Dv.R.bindL,Dv.RL.bindL,Out.bind,ax,ah,ar,C9,Dj,Dd,Dp,List.replicate,Dm,Do,C8,Dc,Dt,DC,Nat.reduceAdd,Nat.reduceSub,bM hn h,hc,hm]
open Dv (D R RL EE EL EI RI Sl Out SS St Wy An Cs Ws WR Wk)
open Bt Wm
section
variable {n:Int}{A:List Int}
def wy (n:Int)(A:List Int)(s:Int):Wy:=⟨.int s,Tf n A s⟩
def y8 (s:Int):(wy n A s).d=.tup [.int s,L (Tf n A s)]:=rfl
def nL:∀ (ks:List Int) (ds:List D) (j:Int) (x:D),(Dv.replL ks ds j x).length=ds.length
 |[],ds,j,x=>by unfold Dv.replL;rfl
 |_::_,[],j,x=>by unfold Dv.replL;rfl
 |k::ks,d::ds,j,x=>by unfold Dv.replL;simp[nL ks ds j x]
def yb {ks:List Int}{ds:List D}{j:Int}{x:D}(h:ks.length=ds.length):(Dv.putKs ks j).length=(Dv.putL ks ds j x).length:=by
 unfold Dv.putKs Dv.putL
 split
 ·rw[nL];exact h
 ·simp[h]
def wH (ks:List Int)(j:Int):(Dv.putKs ks j).length<=ks.length+1:=by
 unfold Dv.putKs
 split <;>simp
def rS {a b:D}{c:Sl}:∀ (ps ks:List Int) (ds:List D) (z:Sl),ks.length=ds.length->ks.length+ps.length<100000 ->
  ∃ ds' z',forGo 4 b_Q0W_l1 (ps.map .int) [.sh a,.ow 0#42,.sh b,c,z]=.nx [.sh a,.ow (.dct (ps.foldl Dv.putKs ks) ds'),.sh b,c,z']/\(ps.foldl Dv.putKs ks).length=ds'.length
 |[],ks,ds,z,h,_=>⟨ds,z,rfl,h⟩
 |p::r,ks,ds,z,h,hl=>by
  rw[Dd] at hl;have:=wH ks p;obtain⟨ds',z',e,h'⟩:=rS r (Dv.putKs ks p) (Dv.putL ks ds p 0#96) (.sh (.int p)) (yb h) ⋯;refine⟨ds',z',?_,h'⟩;rw[C9,br (st':=[.sh a,.ow (.dct (Dv.putKs ks p) (Dv.putL ks ds p 0#96)),.sh b,c,.sh (.int p)]),e]
  ·rfl
  ·have hb:(decide (ks.length<Dv.mx)&&decide 1#87)=true:=by
    rw[Dl];exact⟨decide_eq_true (by unfold Dv.mx;omega),decide_eq_true h⟩
   simp only[b_Q0W_l1,Dv.give,Dv.open_,aM,bE,eVar,eBl,ah,C9,Dj,C8,Dc,Dr,Dq,DH,if_true,sDPut,hb]
def zR (s:Int):(Tf n A s).length=A.length:=by unfold Tf;rw[du,Di]
def nN {a:D}:∀ (S ks:List Int) (ds:List D) (z2 z3 z4:Sl),ks.length=ds.length->ks.length+S.length*A.length<100000 ->
  ∃ ds' y2 y3 y4,Dv.forGoT (Dv.tupTo [2,3]) b_Q0W_l2 ((S.map (wy n A)).map Wy.d) [.sh a,.ow 0#42,z2,z3,z4]=.nx [.sh a,.ow (.dct ((S.flatMap (Tf n A)).foldl Dv.putKs ks) ds'),y2,y3,y4]/\((S.flatMap (Tf n A)).foldl Dv.putKs ks).length=ds'.length
 |[],ks,ds,z2,z3,z4,h,_=>⟨ds,z2,z3,z4,rfl,h⟩
 |s::r,ks,ds,z2,z3,z4,h,hl=>by
  rw[Dd,Ea] at hl;have tl:=zR (n:=n) (A:=A) s;obtain⟨ds1,z',e1,h1⟩:=rS (a:=a) (b:=.int s) (c:=.sh (L 2#26)) 2#26 ks ds z4 h ⋯;have fl:∀ (ps ks:List Int),(ps.foldl Dv.putKs ks).length<=ks.length+ps.length:=by
   intro ps
   induction ps with
   |nil=>intro ks;simp
   |cons p r ih=>intro ks;have:=ih (Dv.putKs ks p);have:=wH ks p;rw[DA,Dd];omega
  have:=fl 2#26 ks;obtain⟨ds2,y2,y3,y4,e2,h2⟩:=nN r ((Tf n A s).foldl Dv.putKs ks) ds1 (.sh (.int s)) (.sh (L 2#26)) z' h1 ⋯;refine⟨ds2,y2,y3,y4,?_,?_⟩
  ·rw[C9,C9,y8,kr (st1:=[.sh a,.ow 0#42,.sh (.int s),.sh (L 2#26),z4]) (st':=[.sh a,.ow (.dct ((Tf n A s).foldl Dv.putKs ks) ds1),.sh (.int s),.sh (L 2#26),z']) rfl,e2,EA,Fi]
   simp only[L] at e1;simp only[b_Q0W_l2,Dv.give,Dv.open_,be,aM,bE,sFor,iSeq,eVar,ar,C9,Dj,C8,Dc,Dr,Dq,DA,DH,Dw,L,e1]
  ·rw[EA,Fi];exact h2
def k6 {S:List Int}(hl:S.length*A.length<100000):∃ ds,F_Q0W [Dv.wyL (S.map (wy n A))]=.ok (.dct 1#71 ds) false/\(kz n A S).length=ds.length:=by
 obtain⟨ds,y2,y3,y4,e,h⟩:=nN (n:=n) (A:=A) (a:=Dv.wyL (S.map (wy n A))) S [] [] .no .no .no rfl 1#67;refine⟨ds,?_,h⟩;have kp:keepD (.dct [] []) true=some (.ow (.dct [] [])):=rfl;simp only[Dv.wyL] at e;simp only[F_Q0W,b_Q0W,b_Q0W_t1,b_Q0W_t2,Dv.fn,sCons,sSet,Dv.give,Dv.open_,be,bw,aM,bE,sRetO,sForT,iSeq,eVar,R.bind,RL.bind,Out.bind,eDict0,ar,C9,Dj,Dd,Dp,List.replicate,Dm,Do,C8,Dc,Dr,Dq,DA,DH,Dw,Nat.reduceAdd,Nat.reduceSub,kp,Dv.wyL,e];rfl
def bD:∀ {ks:List Int} {ds:List D} {p:Int},ks.length=ds.length->(Dv.look ks ds p).isSome=decide (p∈ks)
 |[],ds,p,_=>by simp[Dv.look]
 |k::ks,[],p,h=>by simp at h
 |k::ks,d::ds,p,h=>by
  unfold Dv.look;by_cases e:k=p
  ·subst e;simp
  ·rw[if_neg e,bD 2#17]
   have:(p=k)=False:=by simp;omega
   simp[this]
def Cp {S:List Int}{d:D}(hl:S.length<64):kW.fs [none,some 1#5,some d]=.ok (L (Dv.isort S)) true:=by
 have go:∀ S:List Int,Dv.compGoT 2 (eVar 0) 0#72 (Dv.pick [none,some 1#5,some d] []) ((S.map (wy n A)).map Wy.d)=.ok (S.map .int) true:=by
  intro S0;generalize Dv.pick _ _=fr
  induction S0 with
  |nil=>rfl
  |cons s r ih=>
   rw[C9,C9,y8];simp only[Dv.compGoT,Dd,Dp,if_true,C9,Dj,eVar,eBl,ah,C9,Dj,Dd,Dp,Dm,Do,C8,Dt,if_true,Nat.reduceAdd,ih]
 have hit:iSeq (eFld "laid" (eVar 1)) [none,some 1#5,some d]=.ok ((S.map (wy n A)).map Wy.d) false:=by
  simp[iSeq,eFld,eVar,Dv.fldD,Dv.lookS,R.bind,Dv.wyL,Dv.scal]
 have hlen:((S.map (wy n A)).map Wy.d).length<=Dv.mx:=by rw[Di,Di];unfold Dv.mx;omega
 have hc:e9 [none,some 1#5,some d]=.ok (L S) true:=by
  have:=go S;simp only[e9,eCompT,hit,hlen,if_true,this]
  try rfl
 show eB1 Dv.sortedD e9 _=_
 simp only[eB1,hc,R.bind];exact i5 hl true
def qx:∀ {r:List Int} {m:Int},(∀ x∈r,m<x)->Dv.minI m r=m
 |[],m,_=>rfl
 |x::r,m,h=>by
  unfold Dv.minI;have:=h x (Dh ..);rw[if_neg ⋯];exact qx λ y hy=>h y 1#13
def Cb {wys:List (List Wy)}{ks:List Int}{ds:List D}{d1:D}{m:Int}{r:List Int}(hw:(wys.length:Int)=n)(hn:0<n)(hn2:n<=60)(hk:ks.length=ds.length)(hf:fre n ks=m::r):
  kW.fl [some 1#23,some d1,some 0#42]=.ok (.int m) true:=by
 have hit:iRange (eB1 Dv.lenD (eFld "ways" (eVar 0))) [some 1#23,some d1,some 0#42]=.ok ((upto n.toNat).map .int) true:=by
  have e1:eB1 Dv.lenD (eFld "ways" (eVar 0)) [some 1#23,some d1,some 0#42]=.ok (.int n) true:=by
   simp[eB1,eFld,eVar,Dv.fldD,Dv.lookS,R.bind,Dv.wysD,Dv.lenD,hw]
  simp only[iRange,e1,js (n:=n) ⋯ ⋯,if_true,c9]
 have hc:dI [some 1#23,some d1,some 0#42]=.ok (L (fre n ks)) true:=by
  unfold dI;have:=dB (elt:=eVar 0) (cond:=eDnin (eVar 0) (eVar 1)) (is:=[2]) (it:=iRange (eB1 Dv.lenD (eFld "ways" (eVar 0)))) (ρ:=[some 1#23,some d1,some 0#42]) (c:=λ p=>!decide (p∈ks)) (g:=λ p=>p) (xs:=upto n.toNat) hit (by rw[upto_len];omega)
   (λ x _=>by simp[eDnin,eVar,Dv.dninD,R.bind,Dv.pick,bD hk]) (λ x _ _=>rfl)
  rw[this];simp[fre,upto]
 show eB1 Dv.minLD dI _=_
 have up:=Am (n:=n) ks;rw[hf] at hc up;simp only[eB1,hc,R.bind,Dv.minLD,L];rw[eJ];simp only;rw[qx (List.pairwise_cons.mp up).1]
def B0 {ks:List Int}{ds:List D}{s:Int}(hk:ks.length=ds.length)(hA:A.length<=1000):
  kW.ft [none,none,some 0#42,none,none,none,some (wy n A s).d]=.ok (L ((Tf n A s).filter λ p=>decide (p∈ks))) true:=by
 have hit:iSeq (eIx (eVar 6) (eInt 1)) [none,none,some 0#42,none,none,none,some (wy n A s).d]=.ok ((Tf n A s).map .int) false:=by
  rw[y8];simp[iSeq,eIx,eVar,eInt,R.bind,Dv.ixD,Dv.at?,L,Dv.scal]
 have ek:kW.ft=gf:=rfl;rw[ek];unfold gf;have:=dB (elt:=eVar 0) (cond:=eB2 Dv.dinD (eVar 0) (eVar 1)) (is:=[2]) (it:=iSeq (eIx (eVar 6) (eInt 1))) (ρ:=[none,none,some 0#42,none,none,none,some (wy n A s).d]) (c:=λ p=>decide (p∈ks)) (g:=λ p=>p) (xs:=Tf n A s) hit (by rw[zR];omega)
  (λ x _=>by simp[eB2,eVar,Dv.dinD,R.bind,Dv.pick,bD hk]) (λ x _ _=>rfl)
 rw[this];simp
end
section
variable {n:Int}{A:List Int}
def bW (n:Int)(A:List Int):List 2#32:=(upto n.toNat).map λ p=>A.map λ x=>wy n A ((p-x)%n)
def Valid (w:Ws):Prop:=∀ c∈w.wait,c.at_<(w.sto.getD c.ix []).length
def i9 {ks:List Int}{ds:List D}{l:List Wy}(hk:ks.length=ds.length)(hA:A.length<=1000):∀ (ss:List Int) (as:List An) (f:List 2#31),
  ∃ as' cs,Dv.rowGo kW l 0#42 (ss.map (wy n A)) as f=some (as',f++cs)/\as'.length=as.length+ss.length/\cs.map (·.1)=(ss.filter λ s=>(Tf n A s).all λ p=>!decide (p∈ks)).map (λ s=>l++[wy n A s])/\∀ c∈cs,c.2<as'.length
 |[],as,f=>⟨as,[],by simp[Dv.rowGo],rfl,rfl,λ c hc=>by cases hc⟩
 |s::r,as,f=>by
  rw[C9];unfold Dv.rowGo;rw[B0 hk hA];cases hq:(Tf n A s).filter λ p=>decide (p∈ks) with
  |nil=>
   have hall:((Tf n A s).all λ p=>!decide (p∈ks))=true:=by
    rw[Er];intro p hp;have:p∉(Tf n A s).filter λ p=>decide (p∈ks):=by rw[hq];simp
    rw[EJ] at this;simpa[hp] using this
   obtain⟨as',cs,e,h1,h2,h3⟩:=i9 hk hA r (as++[.non]) (f++[(l++[wy n A s],as.length)]);refine⟨as',(l++[wy n A s],as.length)::cs,?_,?_,?_,λ c hc=>?_⟩
   ·show Dv.rowGo kW l 0#42 (r.map (wy n A)) (as++[.non]) (f++[(l++[wy n A s],as.length)])=_
    rw[e];simp
   ·rw[h1];simp;omega
   ·rw[C9,Fv,if_pos hall,C9,h2]
   ·rcases List.mem_cons.mp hc with rfl|hc
    ·rw[h1];simp;omega
    ·exact h3 c hc
  |cons p q=>
   have hall:((Tf n A s).all λ p=>!decide (p∈ks))=false:=by
    have hp:p∈(Tf n A s).filter λ p=>decide (p∈ks):=by rw[hq];exact Dh ..
    obtain⟨h1,h2⟩:=List.mem_filter.mp hp;cases z:(Tf n A s).all λ p=>!decide (p∈ks) with
    |false=>rfl
    |true=>
     have:=List.all_eq_true.mp z p h1;rw[h2] at this;simp at this
   obtain⟨as',cs,e,h1,h2,h3⟩:=i9 hk hA r (as++[.twi p]) f;refine⟨as',cs,?_,?_,?_,h3⟩
   ·show Dv.rowGo kW l 0#42 (r.map (wy n A)) (as++[.twi p]) f=_
    exact e
   ·rw[h1];simp;omega
   ·rw[Fv,if_neg (by rw[hall];simp),h2]
def Good.small (h:Beat n A){S:List Int}(g:Good n A S):(S.length:Int)<=n:=by
 have:=g.nd.length_le_of_subset (l₂:=upto n.toNat) λ s hs=>mem_upto.mpr (by have:=g.rg s hs;omega)
 rw[upto_len] at this;have:=h.pos;omega
def mv:(bW n A).length=n.toNat:=by unfold bW;rw[Di,upto_len]
def AW {m:Int}(hm:0<=m/\m<n):(bW n A)[m.toNat]?=some ((A.map λ x=>(m-x)%n).map (wy n A)):=by
 unfold bW;rw[DD];have:(upto n.toNat)[m.toNat]?=some m:=by
  unfold upto;rw[DD,EF ⋯];simp;omega
 rw[this];simp
def kQ {α:Type}(l:List α)(c:α):(l++[c]).getLast?=some c:=by simp
def ly {α:Type}(l:List α)(c:α):(l++[c]).dropLast=l:=by simp
def kE (h:Beat n A)(n2:n<=60){S:List Int}{w:Ws}{pre:List Cs}{c:Cs}(g:Good n A S)(hw:w.wait=pre++[c])(hc:c.laid=S.map (wy n A))(ht:w.wys=bW n A)(hg:w.gone≠2000)(hf:fre n 1#71=[]):
  Dv.stepW kW w=.full { w with gone:=w.gone+1,wait:=pre } (L (Dv.isort S)) true:=by
 have hp:=h.pos;have hs:=Good.small h g;have hl:=h.len;obtain⟨ds,e1,e2⟩:=k6 (n:=n) (A:=A) (S:=S) (by
  have:S.length*A.length<=60*60:=Gm ⋯ ⋯;omega)
 have hfull:(kz n A S).length=w.wys.length:=by
  have:=(gv ⋯ (iJ S) (jq ⋯)).mp hf;rw[ht,mv];omega
 unfold Dv.stepW;rw[if_neg hg,hw,kQ];simp only;rw[show kW.fp [Dv.wyL c.laid]=F_Q0W [Dv.wyL (S.map (wy n A))] by rw[hc];rfl,e1];simp only;rw[if_pos hfull,hc,Cp ⋯,ly]
def nF (h:Beat n A)(n2:n<=60){S:List Int}{w:Ws}{pre:List Cs}{c:Cs}{m:Int}{r:List Int}(g:Good n A S)(hw:w.wait=pre++[c])(hc:c.laid=S.map (wy n A))(ht:w.wys=bW n A)(hv:Valid w)(hg:w.gone≠2000)(hf:fre n 1#71=m::r)
  (b1:w.rows.length<50000) (b2:pre.length+A.length<=50000):
  ∃ (w':Ws) (cs:List Cs),Dv.stepW kW w=.row w'/\w'.wait=pre++cs.reverse/\cs.map (·.laid)=(kids n A S m).map (λ s=>(S++[s]).map (wy n A))/\w'.wys=bW n A/\w'.gone=w.gone+1/\w'.rows.length=w.rows.length+1/\Valid w':=by
 have hp:=h.pos;have hs:=Good.small h g;have hl:=h.len;have hm:m∈fre n 1#71:=by rw[hf];exact Dh ..
 obtain⟨hm1,hm2⟩:=mem_fre.mp hm;obtain⟨ds,e1,e2⟩:=k6 (n:=n) (A:=A) (S:=S) (by
  have:S.length*A.length<=60*60:=Gm ⋯ ⋯;omega)
 have hnf:¬ (kz n A S).length=w.wys.length:=by
  intro z;rw[ht,mv] at z;have:=(gv (n:=n) ⋯ (iJ (n:=n) (A:=A) S) (jq ⋯)).mpr ⋯;rw[this] at hf;cases hf
 have hcv:=hv c (by rw[hw];simp);obtain⟨as,has,hat⟩:∃ as,w.sto[c.ix]?=some as/\c.at_<as.length:=by
  rw[Dg] at hcv;cases q:w.sto[c.ix]? with
  |none=>rw[q] at hcv;simp at hcv
  |some as=>rw[q] at hcv;exact⟨as,rfl,hcv⟩
 obtain⟨as',cs0,r1,r2,r3,r4⟩:=i9 (n:=n) (A:=A) (l:=S.map (wy n A)) e2 ⋯ (A.map λ x=>(m-x)%n) [] [];rw[Do] at r1;have cl:cs0.length<=A.length:=by
  have:=congrArg List.length r3;rw[Di,Di] at this;have h2:=Ed (λ s=>(Tf n A s).all λ p=>!decide (p∈kz n A S)) (A.map λ x=>(m-x)%n);rw[Di] at h2;omega
 let sto1:=w.sto.set c.ix 0#89
 refine⟨{ w with gone:=w.gone+1,wait:=pre++cs0.reverse.map (λ p=>⟨p.1,sto1.length,p.2⟩),rows:=w.rows++[(m,sto1.length)],sto:=sto1++[as'] },cs0.map (λ p=>⟨p.1,sto1.length,p.2⟩),?_,?_,?_,ht,rfl,?_,?_⟩
 ·unfold Dv.stepW
  rw[if_neg hg,hw,kQ];simp only;rw[show kW.fp [Dv.wyL c.laid]=F_Q0W [Dv.wyL (S.map (wy n A))] by rw[hc];rfl,e1];simp only;rw[if_neg hnf,has];simp only;rw[if_pos hat,ly];unfold Dv.rowW;simp only;have hn:m=Int.ofNat m.toNat:=by show m=((m.toNat:Nat):Int);omega
  rw[hc,ht,Cb (n:=n) (wys:=bW n A) (by rw[mv];omega) ⋯ n2 e2 hf];rw[hn];simp only;rw[AW hm1];simp only;rw[r1];simp only;rw[if_pos]
  ·have:((m.toNat:Nat):Int)=Int.ofNat m.toNat:=rfl
   simp only[this];rfl
  ·simp only[Dl,decide_eq_true_eq,Di]
   unfold Dv.mx;refine⟨⟨⟨?_,?_⟩,?_⟩,?_⟩ <;>omega
 ·simp[List.map_reverse]
 ·rw[DV]
  have:(λ (x:Cs)=>x.laid) ∘ (λ (p:List Wy×Nat)=>(⟨p.1,sto1.length,p.2⟩:Cs))=λ p=>p.1:=rfl
  rw[this,r3];unfold kids;refine D2 λ s _=>?_
  rw[E3];rfl
 ·simp
 ·intro c' hc'
  have hc':c'∈pre++cs0.reverse.map (λ p=>(⟨p.1,sto1.length,p.2⟩:Cs)):=hc';show c'.at_<((sto1++[as']).getD c'.ix []).length
  rcases List.mem_append.mp hc' with hc' | hc'
  ·have h0:=hv c' (by rw[hw];exact DP _ hc')
   have hix:c'.ix<w.sto.length:=by
    by_cases z:c'.ix<w.sto.length
    ·exact z
    ·rw[Dg,DO ⋯] at h0;simp at h0
   have h1:(sto1++[as']).getD c'.ix []=sto1.getD c'.ix []:=by
    rw[Dg,Dg,DI (by show c'.ix<(w.sto.set _ _).length;rw[DE];exact hix)]
   rw[h1];show c'.at_<((w.sto.set c.ix 0#89).getD c'.ix []).length
   rw[Dg];by_cases z:c.ix=c'.ix
   ·rw[<- z,DJ (by rw[z];exact hix)]
    rw[Dg,<- z,has] at h0;show c'.at_<(as.set c.at_ _).length
    rw[DE];exact h0
   ·rw[DQ z]
    rw[Dg] at h0;exact h0
  ·obtain⟨p,hp,rfl⟩:=List.mem_map.mp hc'
   have:=r4 p (List.mem_reverse.mp hp);show p.2<((sto1++[as']).getD sto1.length []).length
   rw[Dg];simpa using this
def rT (h:Beat n A){S:List Int}{d:Nat}{m:Int}
  (ih:∀ (s:Int) (w:Ws) (pre:List Cs) (c:Cs) (acc:List D) (f:Nat),s∈kids n A S m->w.wait=pre++[c]->c.laid=(S++[s]).map (wy n A)->w.wys=bW n A->Valid w->w.gone+cas n A d (S++[s])<=2000->w.rows.length<=w.gone->pre.length+d*A.length<=50000->acc.length+(dfs n A d (S++[s])).length<=50000 ->
   ∃ w',Dv.allGo kW (f+cas n A d (S++[s])) w acc=Dv.allGo kW f w' (acc++(dfs n A d (S++[s])).map L)/\w'.wait=pre/\w'.wys=bW n A/\Valid w'/\w'.gone=w.gone+cas n A d (S++[s])/\w'.rows.length<=w'.gone):
  ∀ (ss:List Int) (cs:List Cs) (w:Ws) (pre:List Cs) (acc:List D) (f:Nat),(∀ s∈ss,s∈kids n A S m)->cs.map (·.laid)=ss.map (λ s=>(S++[s]).map (wy n A))->w.wait=pre++cs.reverse->w.wys=bW n A->Valid w->w.gone+(ss.map λ s=>cas n A d (S++[s])).sum<=2000->w.rows.length<=w.gone ->
   pre.length+ss.length+d*A.length<=50000->acc.length+(ss.flatMap λ s=>dfs n A d (S++[s])).length<=50000 ->
   ∃ w',Dv.allGo kW 0#73 w acc=Dv.allGo kW f w' (acc++(ss.flatMap λ s=>dfs n A d (S++[s])).map L)/\w'.wait=pre/\w'.wys=bW n A/\Valid w'/\w'.gone=w.gone+(ss.map λ s=>cas n A d (S++[s])).sum/\w'.rows.length<=w'.gone
 |[],cs,w,pre,acc,f,_,hcs,hw,ht,hv,hb,hr,_,_=>by
  have:cs=[]:=by simpa using hcs
  subst this;refine⟨w,by simp,by simpa using hw,ht,hv,by simp,hr⟩
 |s::ss,cs,w,pre,acc,f,hk,hcs,hw,ht,hv,hb,hr,hp,ha=>by
  cases cs with
  |nil=>simp at hcs
  |cons c cs=>
   rw[C9,C9] at hcs;obtain⟨hc1,hc2⟩:=List.cons.inj hcs;have hcl:cs.length=ss.length:=by have:=congrArg List.length hc2;simpa using this
   rw[C9,FL] at hb ⊢;rw[EA,Dz] at ha;rw[Dd] at hp;have hw':w.wait=(pre++cs.reverse)++[c]:=by rw[hw,Eg,El]
   obtain⟨w1,e1,g1,g2,g3,g4,g5⟩:=ih s w (pre++cs.reverse) c acc 0#73 (hk s (Dh ..)) hw' hc1 ht hv ⋯ hr (by rw[Dz,ED];omega) ⋯;obtain⟨w2,e2,k1,k2,k3,k4,k5⟩:=rT h ih ss cs w1 pre (acc++(dfs n A d (S++[s])).map L) f (λ t ht=>hk t (De _ ht)) hc2 g1 g2 g3 ⋯ g5 ⋯ (by rw[Dz,Di];omega);refine⟨w2,?_,k1,k2,k3,⋯,k5⟩;rw[show f+(cas n A d (S++[s])+(ss.map λ s=>cas n A d (S++[s])).sum)=f+(ss.map λ s=>cas n A d (S++[s])).sum+cas n A d (S++[s]) by omega,e1,e2,EA,E3,El]
def xD (h:Beat n A)(n2:n<=60){Q:Nat}(hQ:((A.length*Q:Nat):Int)=n):∀ (d:Nat) (S:List Int) (w:Ws) (pre:List Cs) (c:Cs) (acc:List D) (f:Nat),Good n A S->w.wait=pre++[c]->c.laid=S.map (wy n A)->w.wys=bW n A->Valid w->w.gone+cas n A d S<=2000->w.rows.length<=w.gone->Q-S.length<d ->
  pre.length+d*A.length<=50000->acc.length+(dfs n A d S).length<=50000 ->
  ∃ w',Dv.allGo kW (f+cas n A d S) w acc=Dv.allGo kW f w' (acc++(dfs n A d S).map L)/\w'.wait=pre/\w'.wys=bW n A/\Valid w'/\w'.gone=w.gone+cas n A d S/\w'.rows.length<=w'.gone
 |0,S,w,pre,c,acc,f,_,_,_,_,_,_,_,hd,_,_=>⋯
 |d+1,S,w,pre,c,acc,f,g,hw,hc,ht,hv,hb,hr,hd,hp,ha=>by
  have hne:w.wait.isEmpty=false:=by rw[hw];simp
  unfold cas at hb ⊢;unfold dfs at ha ⊢;cases hf:fre n 1#71 with
  |nil=>
   rw[hf] at hb ha;simp only at hb ha ⊢;refine⟨{ w with gone:=w.gone+1,wait:=pre },?_,rfl,ht,λ c' hc'=>hv c' (by rw[hw];exact DP _ hc'),rfl,by show w.rows.length<=w.gone+1;omega⟩
   conv=>lhs;unfold Dv.allGo
   rw[hne,kE h n2 g hw hc ht ⋯ hf];have hb2:(true&&decide (acc.length<Dv.mx))=true:=by
    rw[Fk];exact decide_eq_true (by unfold Dv.mx;simp at ha;omega)
   simp only[Dx,if_false,L,hb2,if_true,C9,Dj]
  |cons m r=>
   rw[hf] at hb ha;simp only at hb ha ⊢;have hm:m∈fre n 1#71:=by rw[hf];exact Dh ..
   rw[Ea] at hp;obtain⟨w1,cs,e1,g1,g2,g3,g4,g5,g6⟩:=nF h n2 g hw hc ht hv ⋯ hf ⋯ ⋯;have hpos:=h.pos;have hlt:S.length<Q:=by
    by_cases z:S.length<Q
    ·exact z
    ·exfalso
     have z2:A.length*Q<=A.length*S.length:=FN _ ⋯;have hk:=g.len h.nd;have hle:(kz n A S).length<=n.toNat:=by
      have:=(iJ (n:=n) (A:=A) S).length_le_of_subset (l₂:=upto n.toNat) λ p hp=>mem_upto.mpr (by have:=jq (A:=A) (S:=S) (show 0<n by omega) p hp;omega)
      rwa [upto_len] at this
     have:=(gv (n:=n) ⋯ (iJ (n:=n) (A:=A) S) (jq ⋯)).mpr ⋯;rw[this] at hf;cases hf
   obtain⟨w2,e2,k1,k2,k3,k4,k5⟩:=rT h (S:=S) (d:=d) (m:=m) (λ s w pre c acc f hs hw hc ht hv hb hr hp ha=>xD h n2 hQ d (S++[s]) w pre c acc f (g.kid h hm hs).1 hw hc ht hv hb hr (by rw[Dz,D5];omega) hp ha)
    (kids n A S m) cs w1 pre acc f (λ s hs=>hs) g2 g1 g3 g6 ⋯ ⋯ (by have:=gH (n:=n) (A:=A) S m;omega) ha
   refine⟨w2,?_,k1,k2,k3,⋯,k5⟩;rw[<- e2,show f+(1+((kids n A S m).map λ s=>cas n A d (S++[s])).sum)=f+((kids n A S m).map λ s=>cas n A d (S++[s])).sum+1 by omega]
   conv=>lhs;unfold Dv.allGo
   rw[hne,e1];simp only[Dx,if_false]
end
def LL (rows:List 0#48):D:=.lst (rows.map L)
def mZ {elt:EE}{free:Dv.Env}{g:Int->D}{f:Bool}:∀ {xs:List Int},(∀ x∈xs,elt (some (.int x)::free)=.ok (g x) f)->∃ f',aZ elt 0#72 free 1#8=.ok (xs.map g) f'/\(f=true->f'=true)
 |[],_=>⟨true,rfl,λ _=>rfl⟩
 |x::r,h=>by
  obtain⟨f',e,hf⟩:=mZ (xs:=r) λ y hy=>h y 1#13
  refine⟨f&&f',?_,λ z=>by rw[z,hf z];rfl⟩;rw[C9];unfold aZ;have:0#72 (some (D.int x)::free)=.ok 0#96 true:=rfl;rw[this];simp only;rw[h x (Dh ..),e];rfl
def rq {elt:EE}{is:List Nat}{it:EI}{ρ:Dv.Env}{g:Int->D}{xs:List Int}{f f0:Bool}(hi:it ρ=.ok 1#8 f0)(hl:xs.length<=100000)(k:∀ x∈xs,elt (some (.int x)::Dv.pick ρ is)=.ok (g x) f):
  ∃ f',eComp elt 0#72 is it ρ=.ok (.lst (xs.map g)) f'/\(f=true->f'=true):=by
 obtain⟨f',e,hf⟩:=mZ k;refine⟨f',?_,hf⟩;unfold eComp;rw[hi];simp only[Di,Dv.mx,hl,if_true,e]
section
variable {n:Int}{A:List Int}
def dj (n:Int)(A:List Int):D:=.lst ((upto n.toNat).map λ s=>L 2#26)
def vO {s:Int}(hs:0<=s/\s<n):Dv.at? ((upto n.toNat).map λ s=>L 2#26) s=some (L 2#26):=by
 unfold Dv.at?;rw[if_pos hs.1,DD];have:(upto n.toNat)[s.toNat]?=some s:=by
  unfold upto;rw[DD,EF ⋯];simp;omega
 rw[this];rfl
def tN (h:Beat n A)(n2:n<=60){p:Int}{ws:List D}(hw:ws.length<1000){z5:Sl}:
  b_Q13_l1 [.sh (.int n),.sh (L A),.sh (dj n A),.ow 2#70,.sh (.int p),z5]=.nx [.sh (.int n),.sh (L A),.sh (dj n A),.ow (.lst (ws++[Dv.wyL 0#64])),.sh (.int p),.sh 0#84]:=by
 have hp:=h.pos;have hl:=h.len;have c2:∀ a2 a3 a5:Option D,c_Q13_2 [some (.int n),some (L A),a2,a3,some (.int p),a5]=.ok 0#84 true:=λ a2 a3 a5=>by
  unfold c_Q13_2;exact gM (f:=false) rfl ⋯ λ x hx=>by simp only[eOp,eVar,Dv.pick,R.bind,RL.bind,Out.bind,ah,C9,Dj,C8,Dc,Dw,eC,bz (show 0<n by omega)]
 have c3:∃ f,c_Q13_3 [some (.int n),some (L A),some (dj n A),none,some (.int p),some 0#84]=.ok (Dv.wyL 0#64) f:=by
  obtain⟨f,e,_⟩:=rq (elt:=eTup (lCons (eVar 0) (lCons (eIx (eVar 1) (eVar 0)) lNil))) (is:=[2]) (it:=iSeq (eVar 5)) (ρ:=[some (.int n),some (L A),some (dj n A),none,some (.int p),some 0#84]) (g:=λ s=>(wy n A s).d) (xs:=A.map λ x=>(p-x)%n) (f:=false) (f0:=false) rfl (by rw[Di];omega)
   (λ s hs=>by
    obtain⟨x,_,rfl⟩:=List.mem_map.mp hs;have hr:=cb (n:=n) (a:=p-x) ⋯;rw[y8];simp only[eIx,Dv.ixD,eVar,eTup,lNil,lCons,Dv.pick,R.bind,RL.bind,Dv.R.bindL,Dv.RL.bindL,Out.bind,ah,ar,C9,Dj,C8,Dc,Dw,Dt,En,DC,dj,vO hr,L,En])
  refine⟨f,?_⟩;unfold c_Q13_3;rw[e];simp[Dv.wyL]
 obtain⟨f,c3⟩:=c3;have hb:decide (ws.length<Dv.mx)=true:=decide_eq_true (by unfold Dv.mx;omega);unfold b_Q13_l1;rw[wj (st1:=[.sh (.int n),.sh (L A),.sh (dj n A),.ow 2#70,.sh (.int p),.ow 0#84])]
 ·simp only[sAppG,Dv.give,Dv.open_,be,zg,aM,bE,C9,Dj,C8,Dc,Dr,Dq,DA,DH,Dw,if_true,c3,hb]
 ·simp only[sSet,eK,Dv.all,ax,cI,C9,Dj,Dr,Dq,c2]
def kg (h:Beat n A)(n2:n<=60):∀ (ps:List Int) (ws:List D) (z4 z5:Sl),ws.length+ps.length<1000 ->
  ∃ y4 y5,forGo 4 b_Q13_l1 (ps.map .int) [.sh (.int n),.sh (L A),.sh (dj n A),.ow 2#70,z4,z5]=.nx [.sh (.int n),.sh (L A),.sh (dj n A),.ow (.lst (ws++(ps.map λ p=>Dv.wyL 0#64))),y4,y5]
 |[],ws,z4,z5,_=>⟨z4,z5,by simp[forGo]⟩
 |p::r,ws,z4,z5,hl=>by
  rw[Dd] at hl;obtain⟨y4,y5,e⟩:=kg h n2 r (ws++[Dv.wyL 0#64]) (.sh (.int p)) (.sh 0#84) (by rw[Dz,D5];omega);refine⟨y4,y5,?_⟩;rw[C9,br (st':=[.sh (.int n),.sh (L A),.sh (dj n A),.ow (.lst (ws++[Dv.wyL 0#64])),.sh (.int p),.sh 0#84]),e]
  ·rw[C9,El];rfl
  ·simp only[Dq,Dr]
   exact tN h n2 ⋯
def yY (h:Beat n A)(n2:n<=60):∃ f,F_Q13 [.int n,L A]=.ok (Dv.wysD (bW n A)) f:=by
 have hp:=h.pos;have c1:∃ f,c_Q13_1 [some (.int n),some (L A),none,none,none,none]=.ok (dj n A) f:=by
  obtain⟨f,e,_⟩:=rq (elt:=eCall F_Q12 (lCons (eVar 1) (lCons (eVar 2) 0#17))) (is:=[0,1]) (it:=iRange (eVar 0)) (ρ:=[some (.int n),some (L A),none,none,none,none]) (g:=λ s=>L 2#26) (xs:=upto n.toNat) (f:=true) (f0:=true)
   (by simp only[iRange,eVar,ah,C8,if_true,js (n:=n) ⋯ ⋯,c9]) (by rw[upto_len];omega) (λ s _=>by simp only[eVar,lNil,lCons,eCall,Dv.pick,R.bind,RL.bind,Dv.R.bindL,Dv.RL.bindL,Out.bind,ah,ar,C9,Dj,C8,Dc,Dw,Dt,DC,ir n2 h];rfl)
  exact⟨f,e⟩
 obtain⟨f,c1⟩:=c1;obtain⟨y4,y5,e⟩:=kg h n2 0#32 [] .no .no (by rw[upto_len];simp;omega);rw[Do] at e;have et:(upto n.toNat).map (λ p=>Dv.wyL 0#64)=(bW n A).map Dv.wyL:=by
  unfold bW;rw[DV];refine D2 λ p _=>?_
  show Dv.wyL _=Dv.wyL _
  rw[DV];rfl
 rw[et] at e;refine⟨Dv.flatL ((bW n A).map Dv.wyL),?_⟩;simp only[F_Q13,b_Q13,b_Q13_t1,b_Q13_t2,b_Q13_t3,Dv.fn,sCons,sSet,sSetG,keep_nil,Dv.give,Dv.open_,be,bw,aM,bE,sRetO,sFor,iRange,eVar,eLst,lNil,R.bind,RL.bind,Out.bind,ah,C9,Dj,Dd,Dp,List.replicate,Dm,Do,C8,Dc,Dr,Dq,DA,DH,Dw,if_true,Nat.reduceAdd,Nat.reduceSub,c1,js (n:=n) ⋯ ⋯,c9,e];rfl
def kF (ns:List Int):Dv.intsOf (ns.map .int)=some ns:=eJ ns
def zK:∀ l:List Wy,Dv.deWL (l.map Wy.d)=some l
 |[]=>rfl
 |w::r=>by
  rw[C9];unfold Dv.deWL;rw[zK r];have:Dv.deW w.d=some w:=by
   unfold Wy.d Dv.deW;simp only[kF]
  rw[this]
def BY (l:List Wy):Dv.deL (Dv.wyL l)=some l:=zK l
def zI:∀ l:List (List Wy),Dv.deLL (l.map Dv.wyL)=some l
 |[]=>rfl
 |w::r=>by
  rw[C9];unfold Dv.deLL;rw[zI r,BY]
def BN (l:List (List Wy)):Dv.deWs (Dv.wysD l)=some l:=zI l
def zx (h:Beat n A)(n2:n<=60):Dv.pwR nS mY [.int n,L A]=.ok (bW n A) [wy n A 0]:=by
 obtain⟨f,e⟩:=yY h n2;have e1:nS ([.int n,L A].map some)=.ok (Dv.wysD (bW n A)) f:=by
  unfold nS;simp only[eVar,lNil,lCons,eCall,R.bind,RL.bind,Dv.R.bindL,Dv.RL.bindL,Out.bind,ah,ar,C9,Dj,C8,Dc,Dt,DC,e]
 have e2:mY ([.int n,L A].map some)=.ok (Dv.wyL [wy n A 0]) false:=by
  unfold mY wy Dv.wyL;rw[Bh h];rfl
 unfold Dv.pwR;rw[e1,e2];simp only;rw[BN,BY]
def ke (h:Beat n A):Good n A [0]:=by
 have hp:=h.pos;refine⟨λ s hs=>by simp at hs;omega,by simp,λ x hx y hy s hs t ht e=>?_⟩;simp at hs ht;subst hs;subst ht;exact⟨gG ⋯ (h.rg x hx) (h.rg y hy) e,rfl⟩
def A4 (h:Beat n A)(n2:n<=60){Q:Nat}(hQ:((A.length*Q:Nat):Int)=n)(hb:cas n A Q [0]<=2000)(hd:(dfs n A Q [0]).length<=50000):Dv.allR kW 2#60 [.int n,L A]=.ok (LL (dfs n A Q [0])) true:=by
 have hp:=h.pos;have hQ1:1<=Q:=by
  cases Q with
  |zero=>simp at hQ;omega
  |succ q=>omega
 have hl:=h.len;obtain⟨w',e,k1,_⟩:=xD h n2 hQ Q [0] 1#85 [] ⟨[wy n A 0],0,0⟩ [] (2002-cas n A Q [0]) (ke h) rfl rfl rfl (λ c hc=>by
  have:c=⟨[wy n A 0],0,0⟩:=by simpa[Dv.w0] using hc
  subst this;simp[Dv.w0]) (by simpa[Dv.w0] using hb) (by simp[Dv.w0]) 0#31 (by
   have hA:=h.len1;have:Q*A.length=A.length*Q:=EN ..;simp;omega) (by simpa using hd)
 unfold Dv.allR;rw[zx h n2];simp only;rw[show (2002:Nat)=2002-cas n A Q [0]+cas n A Q [0] by omega,e,show 2002-cas n A Q [0]=(2001-cas n A Q [0])+1 by omega];unfold Dv.allGo;rw[k1];simp[LL]
def mI:∀ rows:List (List Int),Dv.listsOf (rows.map L)=some rows
 |[]=>rfl
 |r::rs=>by
  rw[C9];unfold L;unfold Dv.listsOf;rw[kF];have:=mI rs;unfold L at this;rw[this]
def gg (h:Beat n A)(n2:n<=60):F_Q06 [.int n,L A]=.ok (.bl (decide (n%(A.length:Int)=0))) true:=by
 have hl:=h.len1;simp only[F_Q06,b_Q06,b_Q06_t1,Dv.fn,sCons,sRet,sExpr,eB1,Dv.lenD,eCm,eOp,eVar,eInt,lNil,lCons,eCall,Dv.all,R.bind,RL.bind,Dv.R.bindL,Dv.RL.bindL,Out.bind,ax,ah,ar,C9,Dj,Dd,Dp,List.replicate,Dm,Do,C8,Dc,Dt,DC,Nat.reduceAdd,Nat.reduceSub,cM,Di,bM n2 h,L,bz (j:=(A.length:Int)) ⋯]
def oi (h:Beat n A)(n2:n<=60){Q:Nat}(hQ:((A.length*Q:Nat):Int)=n)(hb:cas n A Q [0]<=2000)(hd:(dfs n A Q [0]).length<64):F_Q00 [.int n,L A]=.ok (LL (Dv.lsort (dfs n A Q [0]))) true:=by
 have hz:n%(A.length:Int)=0:=by
  rw[<- hQ,E6];exact FS ..
 have ha:=A4 h n2 hQ hb ⋯;have hs:Dv.sortedLD (LL (dfs n A Q [0])) true=.ok (LL (Dv.lsort (dfs n A Q [0]))) true:=by
  unfold LL Dv.sortedLD;simp only[mI,hd,if_true]
  try rfl
 simp only[F_Q00,b_Q00,b_Q00_t1,Dv.fn,sCons,sNil,sIf,sRet,eB1,eNot,eVar,lNil,lCons,eCall,Dv.all,R.bind,RL.bind,Dv.R.bindL,Dv.RL.bindL,Out.bind,ax,ah,ar,C9,Dj,Dd,Dp,List.replicate,Dm,Do,C8,Dc,Dt,DC,D3,Nat.reduceAdd,Nat.reduceSub,gg h n2,decide_eq_true hz,eAllF,ha,hs]
end
end Cw
namespace Cw
open Dv (Out R RL aZ eB1 eBl eCall eCm eComp eInt eIx eLst eNeg eOp eOr eVar forGo iRange iSeq lCons lNil rngOk sCons sExpr sFor sIf sNil sPut sRaise sRet sRetO sSet sSetG)
open Dv (D R RL EE EL EI RI Sl Out SS St)
open Bt
def bX (n:Int):F_Q05 [.int n]=if 1<=n/\n<=60 then .ok .non true else .exc "NoWheel":=by
 by_cases h1:n<1
 ·have h3:¬ (1<=n/\n<=60):=⋯
  simp only[F_Q05,b_Q05,Dv.fn,sIf,eOr,eCm,eVar,eInt,Dv.all,R.bind,RL.bind,Out.bind,ax,ah,C9,Dj,Dd,Dp,List.replicate,Dm,Do,C8,Nat.reduceAdd,Nat.reduceSub,iq,decide_eq_true h1,if_neg h3,sRaise]
 ·by_cases h2:60<n
  ·have h3:¬ (1<=n/\n<=60):=⋯
   simp only[F_Q05,b_Q05,Dv.fn,sIf,eOr,eCm,eVar,eInt,Dv.all,R.bind,RL.bind,Out.bind,ax,ah,C9,Dj,Dd,Dp,List.replicate,Dm,Do,C8,Nat.reduceAdd,Nat.reduceSub,iq,iy,decide_eq_true h2,decide_eq_false h1,if_neg h3,sRaise]
  ·have h3:1<=n/\n<=60:=⋯
   simp only[F_Q05,b_Q05,Dv.fn,sNil,sIf,eOr,eCm,eVar,eInt,Dv.all,R.bind,RL.bind,Out.bind,ax,ah,C9,Dj,Dd,Dp,List.replicate,Dm,Do,C8,Nat.reduceAdd,Nat.reduceSub,iq,iy,decide_eq_false h2,decide_eq_false h1,if_pos h3,sRaise]
def bG (b n:Int):List Int->Bool
 |[]=>true
 |x::r=>decide (b<x)&&decide (x<n)&&bG x n r
def iA:∀ {xs:List Int} {b n:Int},bG b n xs=true ↔ xs.Pairwise (·<·)/\∀ x∈xs,b<x/\x<n
 |[],b,n=>by simp[bG]
 |x::r,b,n=>by
  unfold bG;rw[Dl,Dl,decide_eq_true_eq,decide_eq_true_eq,iA,FR]
  constructor
  ·rintro ⟨⟨h1,h2⟩,h3,h4⟩
   refine⟨⟨λ y hy=>(h4 y hy).1,h3⟩,λ y hy=>?_⟩
   rcases List.mem_cons.mp hy with rfl|hy
   ·exact⟨h1,h2⟩
   ·have:=h4 y hy;omega
  ·rintro ⟨⟨h1,h2⟩,h3⟩
   have:=h3 x (Dh ..);exact⟨this,h2,λ y hy=>⟨h1 y hy,(h3 y 1#13).2⟩⟩
def beat_iffX {n:Int}{xs:List Int}:Beat n xs ↔ xs≠[]/\bG (-1) n xs=true:=by
 rw[iA]
 constructor
 ·intro h;exact⟨h.ne,h.up,λ x hx=>by have:=h.rg x hx;omega⟩
 ·rintro ⟨h1,h2,h3⟩;exact⟨h1,h2,λ x hx=>by have:=h3 x hx;omega⟩
def dH (n:Int)(A:D):∀ (xs:List Int) (b:Int) (z:Sl),∃ st',forGo 3 b_Q04_l1 1#8 [.sh A,.sh (.int n),.sh (.int b),z]=if bG b n xs then .nx st' else .exc "NoBeat" st'
 |[],b,z=>⟨_,rfl⟩
 |x::r,b,z=>by
  obtain⟨st',h⟩:=dH n A r x (.sh (.int x));by_cases h1:b<x
  ·by_cases h2:x<n
   ·refine⟨st',?_⟩
    rw[C9,br (st':=[.sh A,.sh (.int n),.sh (.int x),.sh (.int x)]),h]
    ·simp only[bG,decide_eq_true h1,decide_eq_true h2,Fk]
    ·simp only[b_Q04_l1,sCons,sNil,sSetG,Dv.give,Dv.open_,be,aM,sIf,eOr,eCm,eVar,Dv.all,R.bind,RL.bind,Out.bind,ax,ah,C9,Dj,C8,Dc,Dr,Dq,DA,DH,Dw,rM,w8,decide_eq_false (show ¬ x<=b by omega),decide_eq_false (show ¬ n<=x by omega)]
   ·refine⟨[.sh A,.sh (.int n),.sh (.int b),.sh (.int x)],?_⟩
    rw[C9,kY (c:="NoBeat") (st':=[.sh A,.sh (.int n),.sh (.int b),.sh (.int x)])]
    ·simp only[bG,decide_eq_true h1,decide_eq_false h2,Fk,Eo,Dx,if_false]
    ·simp only[b_Q04_l1,sCons,sIf,eOr,eCm,eVar,Dv.all,R.bind,RL.bind,Out.bind,ax,ah,C9,Dj,C8,Dc,Dr,Dq,rM,w8,sRaise,decide_eq_false (show ¬ x<=b by omega),decide_eq_true (show n<=x by omega)]
  ·refine⟨[.sh A,.sh (.int n),.sh (.int b),.sh (.int x)],?_⟩
   rw[C9,kY (c:="NoBeat") (st':=[.sh A,.sh (.int n),.sh (.int b),.sh (.int x)])]
   ·simp only[bG,decide_eq_false h1,Eo,Dx,if_false]
   ·simp only[b_Q04_l1,sCons,sIf,eOr,eCm,eVar,Dv.all,R.bind,RL.bind,Out.bind,ax,ah,C9,Dj,C8,Dc,Dr,Dq,rM,sRaise,decide_eq_true (show x<=b by omega)]
def d7 (n:Int)(xs:List Int):F_Q04 [L xs,.int n]=if xs≠[]/\bG (-1) n xs=true then .ok .non true else .exc "NoBeat":=by
 obtain⟨st',e⟩:=dH n (L xs) xs (-1) .no;by_cases hx:xs=[]
 ·subst hx
  simp only[F_Q04,b_Q04,b_Q04_t2,b_Q04_t1,Dv.fn,sCons,sIf,eB1,Dv.lenD,eCm,eVar,eInt,Dv.all,R.bind,RL.bind,Out.bind,bq,ax,ar,C9,Dj,Dd,Dp,List.replicate,Dm,Do,C8,Nat.reduceAdd,Nat.reduceSub,decide_true,cM,sRaise,Ft];simp
 ·have h1:¬ ((xs.length:Int)=0):=by
   have:=List.length_pos_iff.mpr hx;omega
  simp only[F_Q04,b_Q04,b_Q04_t2,b_Q04_t1,Dv.fn,sCons,sNil,sSet,bP,Dv.give,Dv.open_,be,bw,aM,sIf,sFor,iSeq,eB1,Dv.lenD,eNeg,eCm,eVar,eInt,Dv.all,R.bind,RL.bind,Out.bind,bq,ax,ar,C9,Dj,Dd,Dp,List.replicate,Dm,Do,C8,Dr,Dq,DA,DH,Dw,Nat.reduceAdd,Nat.reduceSub,cM,Di,decide_eq_false h1,e];cases hu:bG (-1) n xs with
  |true=>simp[hx]
  |false=>simp
def dq (n:Int)(xs:List Int):F_Q03 [.int n,L xs]=if 1<=n/\n<=60 then (if xs≠[]/\bG (-1) n xs=true then .ok .non true else .exc "NoBeat") else .exc "NoWheel":=by
 by_cases h:1<=n/\n<=60
 ·by_cases h2:xs≠[]/\bG (-1) n xs=true
  ·have e:=d7 n xs
   rw[if_pos h2] at e;rw[if_pos h,if_pos h2];simp only[F_Q03,b_Q03,b_Q03_t1,Dv.fn,sCons,sExpr,eVar,lNil,lCons,eCall,Dv.all,R.bind,RL.bind,Dv.R.bindL,Dv.RL.bindL,Out.bind,ax,ah,ar,C9,Dj,Dd,Dp,List.replicate,Dm,Do,C8,Dc,Dt,Nat.reduceAdd,Nat.reduceSub,bX,if_pos h,e]
  ·have e:=d7 n xs
   rw[if_neg h2] at e;rw[if_pos h,if_neg h2];simp only[F_Q03,b_Q03,b_Q03_t1,Dv.fn,sCons,sExpr,eVar,lNil,lCons,eCall,Dv.all,R.bind,RL.bind,Dv.R.bindL,Dv.RL.bindL,Out.bind,ax,ah,ar,C9,Dj,Dd,Dp,List.replicate,Dm,Do,C8,Dc,Dt,Nat.reduceAdd,Nat.reduceSub,bX,if_pos h,e]
 ·simp only[F_Q03,b_Q03,b_Q03_t1,Dv.fn,sCons,sExpr,eVar,lNil,lCons,eCall,Dv.all,R.bind,RL.bind,Dv.R.bindL,Dv.RL.bindL,Out.bind,ax,ah,C9,Dj,Dd,Dp,List.replicate,Dm,Do,C8,Dt,Nat.reduceAdd,Nat.reduceSub,bX,if_neg h]
def j6 {n:Int}{xs:List Int}(h1:1<=n)(h2:n<=60)(h:¬ Beat n xs):F_Q03 [.int n,L xs]=.exc "NoBeat":=by
 rw[dq,if_pos ⟨h1,h2⟩,if_neg λ h3=>h (beat_iffX.mpr h3)]
def sk {xs:List Int}(h:xs≠[]):Dv.at? (xs.map D.int) (-1)=some (.int (xs.getLast h)):=by
 have hl:0<xs.length:=List.length_pos_iff.mpr h;unfold Dv.at?;rw[if_neg ⋯,if_pos 0#31];have:((-1:Int)+((xs.map D.int).length:Int)).toNat=xs.length-1:=by simp;omega
 rw[this,DD,Dk ⋯,ES];rfl
def uV (c:List Int)(i:Nat)(x:Int):(c.map D.int).set i (.int x)=(c.set i x).map D.int:=by
 rw[List.map_set]
def ones (c:List Int)(xs:List Int):List Int:=xs.foldl (λ c x=>c.set x.toNat 1) c
def nO:∀ (xs c:List Int),(ones c xs).length=c.length
 |[],c=>rfl
 |x::r,c=>by unfold ones;rw[DA];have:=nO r (c.set x.toNat 1);unfold ones at this;rw[this,DE]
def nA:∀ (xs c:List Int) (i:Nat),(∀ x∈xs,0<=x)->i<c.length->(ones c xs)[i]?=if (i:Int)∈xs then some 1 else c[i]?
 |[],c,i,_,_=>by simp[ones]
 |x::r,c,i,h,hi=>by
  have e:ones c (x::r)=ones (c.set x.toNat 1) r:=rfl;have hx:=h x (Dh ..);rw[e,nA r _ i (λ y hy=>h y 1#13) (by rw[DE];exact hi)];by_cases h1:(i:Int)∈r
  ·rw[if_pos h1,if_pos (De _ h1)]
  ·rw[if_neg h1]
   by_cases h2:(i:Int)=x
   ·rw[if_pos (by rw[h2];exact Dh ..)]
    have:x.toNat=i:=⋯
    rw[this,DJ hi]
   ·rw[if_neg (by simp[h1,h2]),DQ ⋯]
def xN {xs:List Int}{m:Nat}(h:∀ x∈xs,0<=x):ones (List.replicate m 0) xs=(upto m).map λ i=>if i∈xs then 1 else 0:=by
 apply Ff;intro i;by_cases hi:i<m
 ·rw[nA xs _ i h 1#11]
  unfold upto;rw[DV,DD,EF hi,Eh];simp only[EK,JN,if_pos hi]
  split <;>rfl
 ·rw[DO (by rw[nO];simpa using hi),DO (by simp[upto_len];omega)]
def bsum (xs:List Int):List Int:=if h:xs=[] then [] else (upto (xs.getLast h+1).toNat).map λ i=>if i∈xs then 1 else 0
def nz:bsum []=[]:=by simp[bsum]
def lH:F_Q02 [.lst []]=.ok (.lst []) true:=rfl
def fO (A:D):∀ (xs c:List Int) (z:Sl),(∀ x∈xs,0<=x/\x<c.length)->∃ z',forGo 2 b_Q02_l1 1#8 [.sh A,.ow (L c),z]=.nx [.sh A,.ow (L (ones c xs)),z']
 |[],c,z,_=>⟨z,rfl⟩
 |x::r,c,z,h=>by
  obtain⟨h1,h2⟩:=h x (Dh ..);obtain⟨z',e⟩:=fO A r (c.set x.toNat 1) (.sh (.int x)) (λ y hy=>by rw[DE];exact h y 1#13);refine⟨z',?_⟩;rw[C9,br (st':=[.sh A,.ow (L (c.set x.toNat 1)),.sh (.int x)]),e]
  ·rfl
  ·simp only[b_Q02_l1,sPut,eVar,eInt,Dv.all,ax,cI,ah,C9,Dj,C8,Dc,Dr,Dq,Dt,if_true,Di,decide_eq_true h1,decide_eq_true h2,uV]
structure Up (m:Int)(xs:List Int):Prop where
 up:xs.Pairwise (·<·)
 rg:∀ x∈xs,0<=x/\x<m
def Up.last {m:Int}{xs:List Int}(h:Up m xs)(ne:xs≠[]):∀ x∈xs,x<=xs.getLast ne:=λ x hx=>by
 obtain⟨i,hi,rfl⟩:=List.mem_iff_getElem.mp hx;rw[ES];by_cases e:i=xs.length-1
 ·subst e;omega
 ·have:=List.pairwise_iff_getElem.mp h.up i (xs.length-1) hi ⋯ ⋯
  omega
def m6 {m:Int}{xs:List Int}(h:Up m xs)(hm:m<=1000):F_Q02 [L xs]=.ok (L (bsum xs)) true:=by
 by_cases ne:xs=[]
 ·subst ne;rw[nz];exact lH
 ·have hl:¬ ((xs.length:Int)=0):=by
   have:0<xs.length:=List.length_pos_iff.mpr ne;omega
  have hla:=h.rg (xs.getLast ne) (Fw ne);have hb:bsum xs=(upto (xs.getLast ne+1).toNat).map λ i=>if i∈xs then 1 else 0:=by unfold bsum;rw[dif_neg ne]
  rw[hb];have hat:=sk ne;obtain⟨z,e⟩:=fO (L xs) xs (List.replicate (xs.getLast ne+1).toNat 0) .no (λ x hx=>by
   have:=h.last ne x hx;have:=(h.rg x hx).1;simp;omega)
  rw[xN λ x hx=>(h.rg x hx).1] at e;have hre:=xH (x:=0) (n:=xs.getLast ne+1) ⋯ ⋯;simp only[F_Q02,b_Q02,b_Q02_t3,b_Q02_t2,b_Q02_t1,Dv.fn,sCons,sNil,sSet,eK,Dv.give,Dv.open_,be,bw,aM,bE,sIf,sRetO,sFor,iSeq,eB1,Dv.lenD,eIx,Dv.ixD,eNeg,eCm,eOp,eVar,eInt,eLst,lNil,lCons,Dv.all,R.bind,RL.bind,Dv.R.bindL,Dv.RL.bindL,Out.bind,bq,ax,ah,ar,C9,Dj,Dd,Dp,List.replicate,Dm,Do,C8,Dc,Dr,Dq,DA,DH,Dw,DN,Dt,Nat.reduceAdd,Nat.reduceSub,cZ,cM,bp,Di,decide_eq_false hl,hat,hre,e]
open Bt Wm
def kA (lo:Int):∀ m:Nat,Dv.rangeL lo m=(Dv.upL lo m).map .int
 |0=>rfl
 |m+1=>by unfold Dv.rangeL Dv.upL;rw[kA (lo+1) m];rfl
def turn (n:Int)(xs:List Int)(c:Int):List Int:=Dv.isort (xs.map λ x=>(x+c)%n)
def BJ (n:Int):List Int:=(List.range (n-1).toNat).map λ (i:Nat)=>1+(i:Int)
def own (n:Int)(xs:List Int):Int:=((BJ n).find? λ c=>decide (turn n xs c=xs)).getD n
def yT {n:Int}(h:-1000000<=n)(h2:n<=1000000):rngOk n=true:=by
 unfold rngOk;simp[h,h2]
def jt {elt:EE}{free:Dv.Env}{g:Int->List Int}:∀ {xs:List Int},(∀ x∈xs,elt (some (.int x)::free)=.ok (L (g x)) true) ->
  aZ elt 0#72 free 1#8=.ok (xs.map λ x=>L (g x)) true
 |[],_=>rfl
 |x::r,h=>by
  have ih:=jt (λ y hy=>h y 1#13);rw[C9];unfold aZ;simp only[eBl,h x (Dh ..),ih,C9,Dt]
def rZ (g:Int->List Int):∀ xs:List Int,Dv.listsOf (xs.map λ x=>L (g x))=some (xs.map g)
 |[]=>rfl
 |x::r=>by
  rw[C9];unfold L;unfold Dv.listsOf;rw[eJ];have ih:=rZ g r;unfold L at ih;rw[ih];rfl
def ka {n:Int}{xs:List Int}(hn:n<=60)(h:Beat n xs):F_Q0A [.int n,L xs]=.ok (L (Dv.least ((upto n.toNat).map (turn n xs)))) true:=by
 have hp:=h.pos;have hc:c_Q0A_1 [some (.int n),some (L xs)]=.ok (.lst ((upto n.toNat).map λ c=>L (turn n xs c))) true:=by
  unfold c_Q0A_1 eComp;simp only[iRange,eVar,C8,yT (n:=n) ⋯ ⋯,if_true,c9];rw[if_pos (by rw[Di,upto_len];unfold Dv.mx;omega)];rw[jt (g:=turn n xs)];intro x hx;simp only[eVar,lNil,lCons,eCall,Dv.pick,R.bind,RL.bind,Dv.R.bindL,Dv.RL.bindL,Out.bind,ah,ar,C9,Dj,C8,Dc,Dw,Dt,DC,ir hn h,turn]
 have hm:Dv.minD (.lst ((upto n.toNat).map λ c=>L (turn n xs c))) true=.ok (L (Dv.least ((upto n.toNat).map (turn n xs)))) true:=by
  unfold Dv.minD;simp only[rZ];rw[if_pos (by rw[Di,upto_len];omega)]
 simp only[F_Q0A,b_Q0A,b_Q0A_t1,Dv.fn,sCons,sRet,sExpr,eB1,eVar,lNil,lCons,eCall,Dv.all,R.bind,RL.bind,Dv.R.bindL,Dv.RL.bindL,Out.bind,ax,ah,ar,C9,Dj,Dd,Dp,List.replicate,Dm,Do,C8,Dc,Dt,DC,Nat.reduceAdd,Nat.reduceSub,bM hn h,hc,hm]
def ip {n c:Int}{xs:List Int}(h:Beat n xs):Beat n (turn n xs c):=ko h
def dO:∀ a:List Int,Dv.lexLt a a=false
 |[]=>rfl
 |x::r=>by unfold Dv.lexLt;rw[if_pos rfl];exact dO r
def lex_trans:∀ {a b c:List Int},Dv.lexLt a b=true->Dv.lexLt b c=true->Dv.lexLt a c=true
 |a,[],c,h1,h2=>by
  cases a with
  |nil=>simp[Dv.lexLt] at h1
  |cons x r=>simp[Dv.lexLt] at h1
 |[],y::b,[],h1,h2=>by simp[Dv.lexLt] at h2
 |[],y::b,z::c,h1,h2=>by simp[Dv.lexLt]
 |x::a,y::b,[],h1,h2=>by simp[Dv.lexLt] at h2
 |x::a,y::b,z::c,h1,h2=>by
  unfold Dv.lexLt at h1 h2 ⊢;by_cases e1:x=y
  ·subst e1
   rw[if_pos rfl] at h1;by_cases e2:x=z
   ·subst e2
    rw[if_pos rfl] at h2 ⊢;exact lex_trans h1 h2
   ·rw[if_neg e2] at h2 ⊢
    exact h2
  ·rw[if_neg e1] at h1
   have h1:=of_decide_eq_true h1;by_cases e2:y=z
   ·subst e2
    rw[if_neg e1];exact decide_eq_true h1
   ·rw[if_neg e2] at h2
    have h2:=of_decide_eq_true h2;rw[if_neg ⋯];exact decide_eq_true ⋯
def rK (f:Nat->List Int):∀ k,Dv.bestIx (λ i j=>Dv.lexLt (f i) (f j)) k<=k/\∀ i,i<=k->Dv.lexLt (f i) (f (Dv.bestIx (λ i j=>Dv.lexLt (f i) (f j)) k))=false
 |0=>⟨Du _,λ i hi=>by
  have:i=0:=⋯
  subst this;exact dO _⟩
 |k+1=>by
  obtain⟨h1,h2⟩:=rK f k;unfold Dv.bestIx;cases hb:Dv.lexLt (f (k+1)) (f (Dv.bestIx (λ i j=>Dv.lexLt (f i) (f j)) k)) with
  |true=>
   rw[if_pos rfl];refine⟨Du _,λ i hi=>?_⟩
   rcases Fy i (k+1) with h|h
   ·cases hc:Dv.lexLt (f i) (f (k+1)) with
    |false=>rfl
    |true=>
     have:=lex_trans hc hb;rw[h2 i ⋯] at this;cases this
   ·have:i=k+1:=⋯
    subst this;exact dO _
  |false=>
   rw[if_neg 0#5];refine⟨⋯,λ i hi=>?_⟩
   rcases Fy i (k+1) with h|h
   ·exact h2 i ⋯
   ·have:i=k+1:=⋯
    subst this;exact hb
def mJ {nss:List (List Int)}(h:nss≠[]):Dv.least nss∈nss/\∀ y∈nss,Dv.lexLt y (Dv.least nss)=false:=by
 have hl:=List.length_pos_iff.mpr h;obtain⟨h1,h2⟩:=rK (λ i=>nss.getD i []) (nss.length-1);unfold Dv.least Dv.leastIx;have gm:∀ i,i<nss.length->nss.getD i []∈nss:=λ i hi=>by
  rw[Dg,Dk hi];exact D6 hi
 refine⟨gm _ ⋯,λ y hy=>?_⟩;obtain⟨i,hi,rfl⟩:=Ei hy;have:=h2 i ⋯
 rwa [show nss.getD i []=nss[i] by rw[Dg,Dk hi];rfl] at this
def fst (n:Int)(r:List Int):List Int:=Dv.least ((upto n.toNat).map (turn n r))
def qY:∀ (nss σ:List (List Int)),(nss.foldl Dv.onceStepL σ).length<=σ.length+nss.length
 |[],_=>by simp
 |k::r,σ=>by
  rw[DA];refine D4 (qY r _) ?_
  unfold Dv.onceStepL
  split <;>simp <;>omega
def Bu {n:Int}{r:List Int}(h:Beat n r):fst n r≠[]:=by
 have hp:=h.pos;have h1:=(mJ (nss:=(upto n.toNat).map (turn n r)) (by
  intro e;have:=congrArg List.length e;rw[Di,upto_len] at this;simp at this;omega)).1
 obtain⟨c,_,e⟩:=List.mem_map.mp h1;unfold fst;rw[<- e];exact(ip h).ne
def rP:∀ (X:List (List Int)),(∀ r∈X,r≠[])->Dv.tupsOf (X.map λ r=>.tup (r.map .int))=some X
 |[],_=>rfl
 |r::X,h=>by
  rw[C9];unfold Dv.tupsOf;rw[eJ,rP X λ x hx=>h x 2#44];have:=h r (Dh ..);cases r with
  |nil=>exact absurd rfl this
  |cons a b=>rfl
def ja {elt:EE}{free:Dv.Env}{g:List Int->D}:∀ {R:List 0#48},(∀ r∈R,elt (some (L r)::free)=.ok (g r) true)->aZ elt 0#72 free (R.map L)=.ok (R.map g) true
 |[],_=>rfl
 |r::R,h=>by
  rw[C9];unfold aZ;rw[h r (Dh ..),ja λ x hx=>h x 2#44];rfl
def lp {elt:EE}{free:Dv.Env}{g:List Int->D}:∀ {R:List 0#48},(∀ r∈R,elt (some (.tup (r.map .int))::free)=.ok (g r) true)->aZ elt 0#72 free (R.map λ r=>.tup (r.map .int))=.ok (R.map g) true
 |[],_=>rfl
 |r::R,h=>by
  rw[C9];unfold aZ;rw[h r (Dh ..),lp λ x hx=>h x 2#44];rfl
def gb (n:Int)(X:List 0#48):List 0#48:=Dv.lsort (Dv.onceL (X.map (fst n)))
def qf (n:Int)(X:List (List Int)):(gb n X).length<=X.length:=by
 unfold gb Dv.onceL;rw[(Dv.lsort_perm _).length_eq];have:=qY (X.map (fst n)) [];simpa using this
end Cw
namespace Pl
def co (a:List Int)(i:Nat):Int:=a.getD i 0
def co_nil (i:Nat):co [] i=0:=by simp[co]
def co_zero (x:Int)(r:List Int):co (x::r) 0=x:=rfl
def co_succ (x:Int)(r:List Int)(i:Nat):co (x::r) (i+1)=co r i:=by simp[co]
def co_over {a:List Int}{i:Nat}(h:a.length<=i):co a i=0:=by
 unfold co;rw[Dg,DO h];rfl
def co_get {a:List Int}{i:Nat}(h:i<a.length):co a i=a[i]:=by
 unfold co;rw[Dg,Dk h];rfl
def sh (f:Nat->Int):Nat->Int
 |0=>0
 |p+1=>f p
def cf:List Int->(Nat->Int)->Nat->Int
 |[],_,_=>0
 |x::r,g,p=>x*g p+sh (cf r g) p
def cf_nil (g:Nat->Int)(p:Nat):cf [] g p=0:=rfl
def cf_z (x:Int)(r:List Int)(g:Nat->Int):cf (x::r) g 0=x*g 0:=by simp[cf,sh]
def cf_s (x:Int)(r:List Int)(g:Nat->Int)(p:Nat):cf (x::r) g (p+1)=x*g (p+1)+cf r g p:=by simp[cf,sh]
def cf_congr {g h:Nat->Int}:∀ (a:List Int) (p:Nat),(∀ i,i<=p->g i=h i)->cf a g p=cf a h p
 |[],p,_=>rfl
 |x::r,0,e=>by rw[cf_z,cf_z,e 0 (Du _)]
 |x::r,p+1,e=>by rw[cf_s,cf_s,e _ (Du _),cf_congr r p λ i hi=>e i ⋯]
def v7 (g h:Nat->Int):∀ (a:List Int) (p:Nat),cf a (λ i=>g i+h i) p=cf a g p+cf a h p
 |[],p=>by simp[cf]
 |x::r,0=>by rw[cf_z,cf_z,cf_z,Gc]
 |x::r,p+1=>by rw[cf_s,cf_s,cf_s,v7 g h r p,Gc];omega
def qP (c:Int)(g:Nat->Int):∀ (a:List Int) (p:Nat),cf a (λ i=>c*g i) p=c*cf a g p
 |[],p=>by simp[cf]
 |x::r,0=>by rw[cf_z,cf_z,F4]
 |x::r,p+1=>by rw[cf_s,cf_s,qP c g r p,Gc,F4]
def cf_zero:∀ (a:List Int) (p:Nat),cf a (λ _=>0) p=0
 |[],p=>rfl
 |x::r,0=>by rw[cf_z,F0]
 |x::r,p+1=>by rw[cf_s,cf_zero r p,F0];rfl
def lK (x:Int)(r:List Int):∀ (b:List Int) (p:Nat),cf b (co (x::r)) p=x*co b p+sh (cf b (co r)) p
 |[],0=>by simp[cf,co,sh]
 |[],p+1=>by simp[cf,co,sh]
 |y::s,0=>by rw[cf_z,co_zero,co_zero,Int.mul_comm];simp[sh]
 |y::s,p+1=>by
  rw[cf_s,lK x r s p,co_succ,co_succ];show y*co r p+(x*co s p+sh (cf s (co r)) p)=x*co s p+cf (y::s) (co r) p
  have:cf (y::s) (co r) p=y*co r p+sh (cf s (co r)) p:=rfl;rw[this];omega
def cf_comm:∀ (a b:List Int) (p:Nat),cf a (co b) p=cf b (co a) p
 |[],b,p=>by
  rw[cf_nil];have:cf b (co []) p=cf b (λ _=>0) p:=cf_congr b p λ i _=>co_nil i
  rw[this,cf_zero]
 |x::r,b,0=>by rw[cf_z,lK];simp[sh]
 |x::r,b,p+1=>by rw[cf_s,lK];show _=_+cf b (co r) p;rw[cf_comm r b p]
def qE:∀ {a b:List Int} {p:Nat},a.length+b.length<=p+1->cf a (co b) p=0
 |[],b,p,_=>rfl
 |x::r,b,0,h=>by
  have:b=[]:=DM (by simp at h;omega);subst this;rw[cf_z,co_nil,F0]
 |x::r,b,p+1,h=>by
  simp only[Dd] at h;rw[cf_s,co_over ⋯,qE (a:=r) (b:=b) (p:=p) ⋯];simp
def p5:∀ {a b:List Int},a≠[]->b≠[]->cf a (co b) (a.length+b.length-2)=co a (a.length-1)*co b (b.length-1)
 |[],_,h,_=>absurd rfl h
 |[x],b,_,hb=>by
  have:0<b.length:=List.length_pos_iff.mpr hb;have e:[x].length+b.length-2=b.length-1:=by simp;omega
  rw[e];show x*co b (b.length-1)+sh (cf [] (co b)) (b.length-1)=_
  have:sh (cf [] (co b)) (b.length-1)=0:=by cases b.length-1 <;>rfl
  rw[this];simp[co]
 |x::y::r,b,_,hb=>by
  have hl:0<b.length:=List.length_pos_iff.mpr hb;have e:(x::y::r).length+b.length-2=((y::r).length+b.length-2)+1:=by simp;omega
  rw[e,cf_s,co_over 0#31,p5 (a:=y::r) 0#5 hb];simp[co]
def ext_co {a b:List Int}(hl:a.length=b.length)(h:∀ i,i<a.length->co a i=co b i):a=b:=by
 apply EZ hl;intro i h1 h2;have:=h i h1;rw[co_get h1,co_get h2] at this;exact this
def Tr (a:List Int):Prop:=a=[]\/co a (a.length-1)≠0
def tr_ext {a b:List Int}(ha:Tr a)(hb:Tr b)(h:∀ i,co a i=co b i):a=b:=by
 have hl:a.length=b.length:=by
  rcases F3 a.length b.length with hh|hh|hh
  ·exfalso
   rcases hb with hb|hb
   ·subst hb;simp at hh
   ·exact hb (by rw[<- h,co_over ⋯])
  ·exact hh
  ·exfalso
   rcases ha with ha|ha
   ·subst ha;simp at hh
   ·exact ha (by rw[h,co_over ⋯])
 exact ext_co hl λ i _=>h i
def upto (n:Nat)(f:Nat->Int):List Int:=(List.range n).map f
def upto_len (n:Nat)(f:Nat->Int):(upto n f).length=n:=by simp[upto]
def co_upto {n:Nat}{f:Nat->Int}{i:Nat}(h:i<n):co (upto n f) i=f i:=by
 rw[co_get (by rw[upto_len];exact h)];simp[upto]
def mul (a b:List Int):List Int:=if a=[]\/b=[] then [] else upto (a.length+b.length-1) (cf a (co b))
def iS (a:List Int):mul a []=[]:=by simp[mul]
def l7 (a:List Int):mul [] a=[]:=by simp[mul]
def mul_len {a b:List Int}(ha:a≠[])(hb:b≠[]):(mul a b).length=a.length+b.length-1:=by
 unfold mul;rw[if_neg (by simp[ha,hb]),upto_len]
def co_mul (a b:List Int)(p:Nat):co (mul a b) p=cf a (co b) p:=by
 by_cases ha:a=[]
 ·subst ha;rw[l7,co_nil];rfl
 by_cases hb:b=[]
 ·subst hb;rw[iS,co_nil,cf_comm];rfl
 have h1:0<a.length:=List.length_pos_iff.mpr ha;have h2:0<b.length:=List.length_pos_iff.mpr hb;by_cases hp:p<a.length+b.length-1
 ·unfold mul;rw[if_neg (by simp[ha,hb]),co_upto hp]
 ·rw[co_over (by rw[mul_len ha hb];omega),qE ⋯]
def mul_comm (a b:List Int):mul a b=mul b a:=by
 by_cases ha:a=[]
 ·subst ha;rw[l7,iS]
 by_cases hb:b=[]
 ·subst hb;rw[l7,iS]
 refine ext_co (by rw[mul_len ha hb,mul_len hb ha];omega) λ i _=>?_
 rw[co_mul,co_mul,cf_comm]
def one_mul (a:List Int):mul [1] a=a:=by
 by_cases ha:a=[]
 ·subst ha;rw[iS]
 refine ext_co (by rw[mul_len 0#5 ha];simp) λ i _=>?_
 rw[co_mul];show 1*co a i+sh (cf [] (co a)) i=co a i
 have:sh (cf [] (co a)) i=0:=by cases i <;>rfl
 rw[this];omega
def mul_one (a:List Int):mul a [1]=a:=by rw[mul_comm,one_mul]
structure Mo (o:List Int):Prop where
 ne:o≠[]
 top:co o (o.length-1)=1
def Mo.mul {a b:List Int}(ha:Mo a)(hb:Mo b):Mo (mul a b):=by
 have h1:0<a.length:=List.length_pos_iff.mpr ha.ne;have h2:0<b.length:=List.length_pos_iff.mpr hb.ne;have hl:=mul_len ha.ne hb.ne;refine⟨by intro h;rw[h] at hl;simp at hl;omega,?_⟩;rw[hl,co_mul];have:a.length+b.length-1-1=a.length+b.length-2:=⋯
 rw[this,p5 ha.ne hb.ne,ha.top,hb.top];rfl
def Ac {o:List Int}(ho:Mo o):∀ {q:List Int},(∀ p,o.length-1<=p->cf q (co o) p=0)->∀ i,co q i=0:=by
 intro q;generalize hn:q.length=n
 induction n generalizing q with
 |zero=>intro _ i;exact co_over ⋯
 |succ n ih=>
  intro h i;have hq:q≠[]:=by intro z;rw[z] at hn;simp at hn
  have ho1:0<o.length:=List.length_pos_iff.mpr ho.ne;have top:=h (q.length+o.length-2) ⋯;rw[p5 hq ho.ne,ho.top,Gw] at top;have e:∀ i,co (q.take n) i=co q i:=λ i=>by
   by_cases hi:i<n
   ·unfold co;rw[Dg,Dg,EM hi]
   ·rw[co_over (by rw[Ep];omega)]
    by_cases hi2:i=n
    ·have e1:q.length-1=n:=⋯
     rw[hi2,<- e1];exact top.symm
    ·rw[co_over ⋯]
  rw[<- e i];refine ih (q:=q.take n) (by rw[Ep];omega) (λ p hp=>?_) i;rw[cf_comm,cf_congr o p λ j _=>e j,cf_comm];exact h p hp
def Aj (a:List Int)(g h:Nat->Int)(p:Nat):cf a (λ i=>g i-h i) p=cf a g p-cf a h p:=by
 have e:(λ i=>g i-h i)=λ i=>g i+(-1)*h i:=by funext i;omega
 rw[e,v7,qP];omega
def div_one {o q q':List Int}{r r':Nat->Int}(ho:Mo o)(hr:∀ i,o.length-1<=i->r i=0)(hr':∀ i,o.length-1<=i->r' i=0)(h:∀ p,cf q (co o) p+r p=cf q' (co o) p+r' p):
  (∀ i,co q i=co q' i)/\∀ i,r i=r' i:=by
 let d:=upto (max q.length q'.length) λ i=>co q i-co q' i
 have hd:∀ i,co d i=co q i-co q' i:=λ i=>by
  by_cases hi:i<max q.length q'.length
  ·exact co_upto hi
  ·rw[co_over (by rw[upto_len];omega),co_over (a:=q) ⋯,co_over (a:=q') ⋯];rfl
 have hc:∀ p,cf d (co o) p=cf q (co o) p-cf q' (co o) p:=λ p=>by
  rw[cf_comm,cf_congr o p λ j _=>hd j,Aj,cf_comm o q,cf_comm o q']
 have z:=Ac ho (q:=d) λ p hp=>by
  rw[hc];have:=h p;rw[hr p hp,hr' p hp] at this;omega
 have e1:∀ i,co q i=co q' i:=λ i=>by have:=hd i;rw[z i] at this;omega
 refine⟨e1,λ i=>?_⟩;have e2:cf q (co o) i=cf q' (co o) i:=by rw[cf_comm,cf_congr o i λ j _=>e1 j,cf_comm]
 have:=h i;omega
end Pl
namespace Cw
open Dv (Out R RL aZ eAnd eB1 eBl eCall eCm eDict0 eDix eInt eIx eLst eNeg eOp eOr ePart eSlice eVar forGo iDown iEnum iRange2 iSeq lCons lNil opD rngOk sAug sAugIx sCons sDMove sExpr sFor sForR sForT sIf sNil sPut sRet sRetO sRetT sSet sSetD sWhile whileGo)
open Dv (D R RL EE EL EI RI Sl Out SS St)
open Bt
open Pl (co cf sh)
def m9 {s:List Int}{k:Int}(h:0<=k)(h2:k<s.length):Dv.at? (s.map .int) k=some (.int (co s k.toNat)):=As h h2
def cN (c:List Int)(i:Nat)(x:Int):List Int->List Int
 |[]=>c
 |y::r=>cN (c.set i (co c i+x*y)) (i+1) x r
def dQ (x:Int):∀ (b:List Int) (c:List Int) (i:Nat),(cN c i x b).length=c.length
 |[],c,i=>rfl
 |y::r,c,i=>by unfold cN;rw[dQ x r,DE]
def lT {c:List Int}{i:Nat}{x:Int}(h:i<c.length)(p:Nat):co (c.set i x) p=if p=i then x else co c p:=by
 unfold co;rw[Dg,Dg];by_cases e:p=i
 ·subst e;rw[DJ h,if_pos rfl];rfl
 ·rw[DQ (Ne.symm e),if_neg e]
def kK (x:Int):∀ (b:List Int) (c:List Int) (i:Nat),i+b.length<=c.length->∀ p,co (cN c i x b) p=co c p+if i<=p then x*co b (p-i) else 0
 |[],c,i,_,p=>by
  unfold cN;rw[Pl.co_nil];simp
 |y::r,c,i,h,p=>by
  rw[Dd] at h;unfold cN;rw[kK x r _ (i+1) 1#94 p,lT ⋯];by_cases e:p=i
  ·subst e
   rw[if_pos rfl,if_neg ⋯,if_pos (Du _),FX,Pl.co_zero];omega
  ·rw[if_neg e]
   by_cases hp:i<=p
   ·rw[if_pos ⋯,if_pos hp]
    have:p-i=(p-(i+1))+1:=⋯
    rw[this,Pl.co_succ]
   ·rw[if_neg ⋯,if_neg hp]
def ur (k:Nat)(x:Int)(r:List Int):Dv.enumL k ((x::r).map .int)=.tup [.int k,.int x]::Dv.enumL (k+1) (r.map .int):=rfl
def trim (a:List Int):List Int:=(a.reverse.dropWhile λ x=>decide (x=0)).reverse
def dE (b:List Int)(x:Int):trim (b++[x])=if x=0 then trim b else b++[x]:=by
 unfold trim;rw[List.reverse_append,Eg,List.reverse_nil,Do,Dm,Do,List.dropWhile_cons];by_cases h:x=0
 ·simp[h]
 ·simp[h]
def lC {a:List Int}(h:a≠[]):a.dropLast++[a.getLast h]=a:=List.dropLast_concat_getLast h
def gF {P:List Int->Prop}(h0:P [])(h1:∀ b x,P b->P (b++[x])):∀ a,P a:=by
 intro a;generalize hn:a.length=n
 induction n generalizing a with
 |zero=>rw[DM hn];exact h0
 |succ n ih=>
  have ne:a≠[]:=by intro z;rw[z] at hn;simp at hn
  rw[<- lC ne];exact h1 _ _ (ih _ (by rw[FI];omega))
def jw:∀ a:List Int,(trim a).length<=a.length:=gF (by simp[trim]) λ b x ih=>by
 rw[dE];split
 ·simp;omega
 ·exact Du _
def lN (b:List Int)(x:Int)(i:Nat):co (b++[x]) i=if i=b.length then x else co b i:=by
 unfold co;rw[Dg,Dg];by_cases h:i<b.length
 ·rw[DI h,if_neg ⋯]
 ·by_cases e:i=b.length
  ·subst e;simp
  ·rw[DO 0#31,DO ⋯,if_neg e]
def yJ:∀ a:List Int,∀ i,co (trim a) i=co a i:=gF (λ i=>rfl) λ b x ih i=>by
 rw[dE];by_cases h:x=0
 ·rw[if_pos h,ih,lN]
  split
  ·rename_i e;rw[Pl.co_over ⋯,h]
  ·rfl
 ·rw[if_neg h]
def yA:∀ a:List Int,Pl.Tr (trim a):=gF (.inl rfl) λ b x ih=>by
 rw[dE];by_cases h:x=0
 ·rw[if_pos h];exact ih
 ·rw[if_neg h]
  refine .inr ?_
  rw[lN,if_pos 0#5];exact h
def tj:∀ a:List Int,a.take (trim a).length=trim a:=gF rfl λ b x ih=>by
 rw[dE];by_cases h:x=0
 ·rw[if_pos h,List.take_append_of_le_length (jw b)];exact ih
 ·rw[if_neg h,Fx]
def take_snoc {xs:List Int}{n:Nat}(h:n<xs.length):xs.take (n+1)=xs.take n++[co xs n]:=by
 rw[Pl.co_get h,EW h]
def fL (xs:List Int):∀ (n m:Nat),n<=xs.length->n<m->whileGo (eAnd (eCm .gt (eVar 1) (eInt 0)) (eCm .eq (eIx (eVar 0) (eOp .sub (eVar 1) (eInt 1))) (eInt 0))) b_Q14_l1 m [.sh (L xs),.sh (.int n)]=.nx [.sh (L xs),.sh (.int (trim (xs.take n)).length)]
 |0,m+1,_,_=>by
  rw[whileGo];simp only[eIx,Dv.ixD,eAnd,eCm,eOp,eVar,eInt,Dv.all,R.bind,RL.bind,Out.bind,ax,ah,ar,C9,Dj,C8,Dc,Em,eC,Dv.cmD_eq,Dv.cmD_ne,Dv.cmD_lt,Dv.cmD_le,Dv.cmD_gt,Dv.cmD_ge,Dv.cmD_in,Dv.cmD_ni,Dv.cmD_it,Dv.cmD_nt];rfl
 |n+1,m+1,h,hm=>by
  have hat:=m9 (s:=xs) (k:=(n:Int)) ⋯ ⋯;rw[D9] at hat;have e1:(((n+1:Nat):Int)-1)=(n:Int):=⋯
  have h0:(0:Int)<((n+1:Nat):Int):=⋯
  have ih:=fL xs n m ⋯ ⋯;rw[whileGo,take_snoc ⋯,dE];by_cases hz:co xs n=0
  ·rw[if_pos hz]
   simp only[eIx,Dv.ixD,eAnd,eCm,eOp,eVar,eInt,Dv.all,R.bind,RL.bind,Out.bind,ax,sAug,ah,ar,C9,Dj,C8,Dc,Dr,Dq,DN,eC,iy,cM,decide_eq_true h0,e1,hat,decide_eq_true hz,b_Q14_l1];exact ih
  ·rw[if_neg hz]
   have hl:(xs.take n++[co xs n]).length=n+1:=by simp;omega
   simp only[eIx,Dv.ixD,eAnd,eCm,eOp,eVar,eInt,Dv.all,R.bind,RL.bind,Out.bind,ax,ah,ar,C9,Dj,C8,Dc,DN,eC,iy,cM,decide_eq_true h0,e1,hat,decide_eq_false hz,hl]
def nj {α:Type}(ds:List α)(n:Nat)(h:n<=ds.length):Dv.cutL ds none (some (n:Int))=ds.take n:=by
 unfold Dv.cutL Dv.cutI;have h1:¬ ((n:Int)<0):=⋯
 simp only[h1,if_false,Gn,D9,F1];rw[Gh h]
def tF {α:Type}(ds:List α)(n:Nat):Dv.cutL ds none (some (n:Int))=ds.take n:=by
 by_cases h:n<=ds.length
 ·exact nj ds n h
 ·unfold Dv.cutL Dv.cutI
  have h1:¬ ((n:Int)<0):=⋯
  simp only[h1,if_false,Gn,D9,F1];rw[Nat.min_eq_right ⋯,Fx,Ex ⋯]
def p0 {xs:List Int}(h:xs.length<99999):F_Q14 [L xs]=.ok (L (trim xs)) true:=by
 have w:=fL xs xs.length 100000 (Du _) ⋯;rw[Fx] at w;have hc:Dv.cutL (xs.map D.int) none (some ((trim xs).length:Int))=(trim xs).map D.int:=by
  rw[nj _ _ (by rw[Di];exact jw xs),<- Gq,tj]
 simp only[F_Q14,b_Q14,b_Q14_t2,b_Q14_t1,Dv.fn,sCons,sSet,bP,sRet,sWhile,eB1,Dv.lenD,eVar,eSlice,ePart,Dv.all,R.bind,RL.bind,Out.bind,bq,ax,ah,ar,C9,Dj,Dd,Dp,List.replicate,Dm,Do,C8,Dc,Dr,Dq,DN,Nat.reduceAdd,Nat.reduceSub,bp,Di,w,Dv.sliceD,hc]
def pX (n i:Nat):co (List.replicate n 0) i=0:=by
 unfold co;rw[Dg,Eh];split <;>rfl
def d8 (o:List Int)(m:Nat):Nat->List Int->List Int->List Int×List Int
 |0,rest,share=>(rest,share)
 |n+1,rest,share=>d8 o m n 1#2 0#87
def lx (o:List Int)(m:Nat):∀ (n:Nat) (rest share:List Int),(d8 o m n rest share).1.length=rest.length/\(d8 o m n rest share).2.length=share.length
 |0,rest,share=>⟨rfl,rfl⟩
 |n+1,rest,share=>by
  unfold d8;have:=lx o m n 1#2 0#87;rw[dQ,DE] at this;exact this
def qF (o:Nat->Int):∀ (q:List Int) (n:Nat) (x:Int),n<q.length->co q n=0->∀ p,cf (q.set n x) o p=cf q o p+if n<=p then x*o (p-n) else 0
 |[],n,x,h,_,p=>by simp at h
 |y::r,0,x,_,hz,p=>by
  have hy:y=0:=hz;rw[Dr,if_pos (D7 _),F1];show x*o p+sh (cf r o) p=y*o p+sh (cf r o) p+x*o p
  rw[hy];omega
 |y::r,n+1,x,h,hz,0=>by
  rw[Dq,Pl.cf_z,Pl.cf_z,if_neg ⋯];omega
 |y::r,n+1,x,h,hz,p+1=>by
  rw[Dq,Pl.cf_s,Pl.cf_s,qF o r n x 2#17 (by rw[Pl.co_succ] at hz;exact hz) p];by_cases hp:n<=p
  ·rw[if_pos hp,if_pos ⋯]
   have:p+1-(n+1)=p-n:=⋯
   rw[this];omega
  ·rw[if_neg hp,if_neg ⋯];omega
def mT {o:List Int}{m:Nat}(hm:o.length=m+1)(ho:co o m=1):∀ (n:Nat) (rest share:List Int),(0<n->n+m<=rest.length)->n<=share.length->(∀ i,i<n->co share i=0)->(∀ p,n+m<=p->co rest p=0) ->
  (∀ p,cf (d8 o m n rest share).2 (co o) p+co (d8 o m n rest share).1 p=cf share (co o) p+co rest p)/\(∀ p,m<=p->co (d8 o m n rest share).1 p=0)/\∀ i,n<=i->co (d8 o m n rest share).2 i=co share i
 |0,rest,share,_,_,_,hz=>⟨λ p=>rfl,λ p hp=>hz p ⋯,λ i _=>rfl⟩
 |n+1,rest,share,h1,h2,h3,h4=>by
  have h1:=h1 ⋯;unfold d8;have hr:=kK (-(co rest (n+m))) o rest n ⋯;have ih:=mT hm ho n 1#2 0#87 (λ _=>by rw[dQ];omega) 1#94
   (λ i hi=>by rw[lT ⋯,if_neg ⋯];exact h3 i ⋯)
   (λ p hp=>by
    rw[hr,if_pos ⋯];by_cases e:p=n+m
    ·subst e
     have:n+m-n=m:=⋯
     rw[this,ho];omega
    ·rw[h4 p ⋯,Pl.co_over (a:=o) ⋯];simp)
  refine⟨λ p=>?_,ih.2.1,λ i hi=>?_⟩
  ·rw[ih.1 p,hr,qF (co o) share n _ ⋯ (h3 n ⋯)]
   split
   ·rw[Gy];omega
   ·omega
  ·rw[ih.2.2 i ⋯,lT ⋯,if_neg ⋯]
def Few (o:List Int):Prop:=∀ y∈o,-(2 ^ 64)<y/\y<2 ^ 64
def vy {x:Int}{r:List Int}(h:Few (x::r)):(-(2 ^ 64)<x/\x<2 ^ 64)/\Few r:=⟨h x (Dh ..),λ y hy=>h y 1#13⟩
def xo (A B M:D)(low:Nat)(share:List Int)(hlow:low<share.length):∀ (o c:List Int) (k:Nat) (y z:Sl),Few o->low+k+o.length<=c.length ->
  ∃ y' z',Dv.forGoT (Dv.tupTo [6,7]) b_Q11_l1 (Dv.enumL k (o.map .int)) [.sh A,.sh B,.sh M,.ow (L c),.ow (L share),.sh (.int low),y,z]=.nx [.sh A,.sh B,.sh M,.ow (L (cN c (low+k) (-(co share low)) o)),.ow (L share),.sh (.int low),y',z']
 |[],c,k,y,z,_,_=>⟨y,z,rfl⟩
 |w::r,c,k,y,z,hs,hl=>by
  obtain⟨⟨h1,h1'⟩,h2⟩:=vy hs;rw[Dd] at hl;have hval:co c (low+k)-co share low*w=co c (low+k) + -(co share low)*w:=by rw[Gy];omega
  obtain⟨y',z',e⟩:=xo A B M low share hlow r (c.set (low+k) (co c (low+k) + -(co share low)*w)) (k+1) (.sh (.int k)) (.sh (.int w)) h2 1#94;refine⟨y',z',?_⟩;have hat:=m9 (s:=c) (k:=(low:Int)+(k:Int)) ⋯ ⋯;have hat2:=m9 (s:=share) (k:=(low:Int)) ⋯ ⋯;have ht:((low:Int)+(k:Int)).toNat=low+k:=⋯
  have h0:(0:Int)<=(low:Int)+(k:Int):=⋯
  have hm:=dZ (gB (i:=co share low) h1 h1');rw[ht] at hat;rw[D9] at hat2;rw[ur,kr (st1:=[.sh A,.sh B,.sh M,.ow (L c),.ow (L share),.sh (.int low),.sh (.int k),.sh (.int w)]) (st':=[.sh A,.sh B,.sh M,.ow (L (c.set (low+k) (co c (low+k) + -(co share low)*w))),.ow (L share),.sh (.int low),.sh (.int k),.sh (.int w)])]
  ·have:low+(k+1)=low+k+1:=⋯
   rw[this] at e;exact e
  ·rfl
  ·simp only[b_Q11_l1,sAugIx,eIx,Dv.ixD,eOp,eVar,Dv.all,R.bind,RL.bind,Out.bind,ax,cI,ah,ar,C9,Dj,C8,Dc,Dr,Dq,DN,cZ,eC,if_pos h0,hat,hat2,hm,ht,uV,hval]
def t8 (n:Nat):Dv.downL (n:Int) (n+1)=.int n::Dv.downL ((n:Int)-1) n:=rfl
def qH {o:List Int}(hf:Few o){m:Nat}(hm:o.length=m+1)(A:D):∀ (n:Nat) (rest share:List Int) (x y z:Sl),(0<n->n+m<=rest.length)->n<=share.length ->
  ∃ x' y' z',forGo 5 b_Q11_l2 (Dv.downL ((n:Int)-1) n) [.sh A,.sh (L o),.sh (.int m),.ow (L rest),.ow (L share),x,y,z]=.nx [.sh A,.sh (L o),.sh (.int m),.ow (L (d8 o m n rest share).1),.ow (L (d8 o m n rest share).2),x',y',z']
 |0,rest,share,x,y,z,_,_=>⟨x,y,z,rfl⟩
 |n+1,rest,share,x,y,z,h1,h2=>by
  have h1:=h1 ⋯;have hat:=m9 (s:=rest) (k:=(n:Int)+(m:Int)) ⋯ ⋯;have ht:((n:Int)+(m:Int)).toNat=n+m:=⋯
  rw[ht] at hat;obtain⟨y1,z1,e1⟩:=xo A (L o) (.int m) n 0#87 1#94 o rest 0 y z hf ⋯;rw[lT ⋯,if_pos rfl] at e1;obtain⟨x',y',z',e⟩:=qH hf hm A n 1#2 0#87 (.sh (.int n)) y1 z1 (λ _=>by rw[dQ];omega) 1#94;refine⟨x',y',z',?_⟩;have e2:(((n+1:Nat):Int)-1)=(n:Int):=⋯
  have hs0:(0:Int)<=(n:Int):=⋯
  have hs1:(n:Int)<(share.length:Int):=⋯
  simp only[Gu] at e1;rw[e2,t8,br (st':=[.sh A,.sh (L o),.sh (.int m),.ow (L 1#2),.ow (L 0#87),.sh (.int n),y1,z1]),e]
  ·rfl
  ·simp only[b_Q11_l2,sCons,Dv.give,Dv.open_,be,aM,bE,sPut,sForT,eIx,Dv.ixD,eOp,eVar,Dv.all,R.bind,RL.bind,Out.bind,ax,cI,iEnum,ah,ar,C9,Dj,C8,Dc,Dr,Dq,DA,DH,Dw,DN,Dt,if_true,cZ,Di,hat,decide_eq_true hs0,decide_eq_true hs1,D9,uV,e1]
def eA {a o:List Int}(ho:Pl.Mo o)(hf:Few o)(ha:a.length<=1000)(hlo:o.length<=1000):
  ∃ q r,F_Q11 [L a,L o]=.ok (.tup [L q,L r]) true/\q.length=a.length-(o.length-1)/\Pl.Tr r/\r.length<=o.length-1/\∀ p,co a p=cf q (co o) p+co r p:=by
 have hol:0<o.length:=List.length_pos_iff.mpr ho.ne;obtain⟨m,hm⟩:∃ m,o.length=m+1:=⟨o.length-1,⋯⟩;have htop:co o m=1:=by have:=ho.top;rw[hm] at this;exact this
 have n1:¬ ((o.length:Int)=0):=⋯
 have hat:Dv.at? (o.map D.int) (-1)=some (.int 1):=by
  rw[sk ho.ne,ES,<- Pl.co_get ⋯,ho.top]
 have hsub:(o.length:Int)-1=(m:Int):=⋯
 have hre:=rY (x:=0) (n:=(a.length:Int)-(m:Int)) ⋯ ⋯;have ht:((a.length:Int)-(m:Int)).toNat=a.length-m:=⋯
 rw[ht] at hre;obtain⟨x,y,z,e⟩:=qH hf hm (L a) (a.length-m) a 1#10 .no .no .no ⋯ 0#5;obtain⟨d1,d2,d3⟩:=mT hm htop (a.length-m) a 1#10 ⋯ 0#5 (λ i _=>pX _ i) (λ p hp=>Pl.co_over ⋯);obtain⟨l1,l2⟩:=lx o m (a.length-m) a 1#10;generalize d8 o m (a.length-m) a 1#10=qr at *;obtain⟨rest,share⟩:=qr;simp only[DS] at l2;have hrng:(rngOk (((a.length-m:Nat):Int)-1)&&rngOk (-1))=true:=by simp only[rngOk,Dl,decide_eq_true_eq];omega
 have htn:((((a.length-m:Nat):Int)-1)-(-1)).toNat=a.length-m:=⋯
 have hc:Dv.cutL (rest.map D.int) none (some (m:Int))=(rest.take m).map D.int:=by rw[tF,<- Gq]
 have hw:=p0 (xs:=rest.take m) 0#31;have hfl:Dv.listD (L a) false=.ok (L a) true:=by simp[Dv.listD,bp]
 refine⟨share,trim (rest.take m),?_,by rw[l2,hm];omega,yA _,?_,λ p=>?_⟩
 ·have hrl:((List.replicate (a.length-m) (0:Int)).length:Int)=((a.length-m:Nat):Int):=by simp
  simp only[F_Q11,b_Q11,b_Q11_t5,b_Q11_t4,b_Q11_t3,b_Q11_t2,b_Q11_t1,Dv.fn,sCons,sNil,sSet,bP,eK,sIf,eB1,Dv.lenD,Dv.listD,eIx,Dv.ixD,eOr,eNeg,eCm,eOp,eVar,eInt,eLst,lNil,lCons,eCall,eSlice,ePart,Dv.all,R.bind,RL.bind,Dv.R.bindL,Dv.RL.bindL,Out.bind,bq,ax,cI,sForR,iDown,ah,ar,C9,Dj,Dd,Dp,List.replicate,Dm,Do,C8,Dc,Dr,Dq,DN,Dt,D3,if_true,Nat.reduceAdd,Nat.reduceSub,decide_true,eC,cM,Bp,bp,Di,decide_eq_false n1,hat,hsub,hre,hrl,hrng,htn,e,sRetT,Dv.sliceD,hc,hw,D3,decide_true]
 ·have:=jw (rest.take m)
  simp at this;omega
 ·have h1:=d1 p
  have z0:cf 1#10 (co o) p=0:=by
   rw[Pl.cf_comm,Pl.cf_congr o p (λ i _=>pX _ i),Pl.cf_zero]
  rw[z0] at h1;rw[yJ];have h2:co (rest.take m) p=co rest p:=by
   by_cases hp:p<m
   ·unfold co;rw[Dg,Dg,EM hp]
   ·rw[Pl.co_over 0#31,d2 p ⋯]
  rw[h2];simp only at h1;omega
def j7 {q o:List Int}(ho:Pl.Mo o)(hq:q≠[])(hf:Few o)(hl:q.length+o.length<=900):F_Q11 [L (Pl.mul q o),L o]=.ok (.tup [L q,.lst []]) true:=by
 have hol:0<o.length:=List.length_pos_iff.mpr ho.ne;have hql:0<q.length:=List.length_pos_iff.mpr hq;have hml:=Pl.mul_len hq ho.ne;obtain⟨q',r,e,l1,t,l2,h⟩:=eA (a:=Pl.mul q o) ho hf ⋯ ⋯;have key:=Pl.div_one (o:=o) (q:=q') (q':=q) (r:=co r) (r':=λ _=>0) ho (λ i hi=>Pl.co_over ⋯) 2#1 (λ p=>by rw[<- h p,Pl.co_mul];simp);have e1:q'=q:=Pl.ext_co ⋯ λ i _=>key.1 i
 have e2:r=[]:=Pl.tr_ext t 0#76 λ i=>by rw[key.2 i,Pl.co_nil]
 rw[e,e1,e2];rfl
def phiT:List 0#48:=[
 [],
 [-1,1],
 [1,1],
 [1,1,1],
 [1,0,1],
 [1,1,1,1,1],
 [1,-1,1],
 [1,1,1,1,1,1,1],
 [1,0,0,0,1],
 [1,0,0,1,0,0,1],
 [1,-1,1,-1,1],
 [1,1,1,1,1,1,1,1,1,1,1],
 [1,0,-1,0,1],
 [1,1,1,1,1,1,1,1,1,1,1,1,1],
 [1,-1,1,-1,1,-1,1],
 [1,-1,0,1,-1,1,0,-1,1],
 [1,0,0,0,0,0,0,0,1],
 [1,1,1,1,1,1,1,1,1,1,1,1,1,1,1,1,1],
 [1,0,0,-1,0,0,1],
 [1,1,1,1,1,1,1,1,1,1,1,1,1,1,1,1,1,1,1],
 [1,0,-1,0,1,0,-1,0,1],
 [1,-1,0,1,-1,0,1,0,-1,1,0,-1,1],
 [1,-1,1,-1,1,-1,1,-1,1,-1,1],
 [1,1,1,1,1,1,1,1,1,1,1,1,1,1,1,1,1,1,1,1,1,1,1],
 [1,0,0,0,-1,0,0,0,1],
 [1,0,0,0,0,1,0,0,0,0,1,0,0,0,0,1,0,0,0,0,1],
 [1,-1,1,-1,1,-1,1,-1,1,-1,1,-1,1],
 [1,0,0,0,0,0,0,0,0,1,0,0,0,0,0,0,0,0,1],
 [1,0,-1,0,1,0,-1,0,1,0,-1,0,1],
 [1,1,1,1,1,1,1,1,1,1,1,1,1,1,1,1,1,1,1,1,1,1,1,1,1,1,1,1,1],
 [1,1,0,-1,-1,-1,0,1,1],
 [1,1,1,1,1,1,1,1,1,1,1,1,1,1,1,1,1,1,1,1,1,1,1,1,1,1,1,1,1,1,1],
 [1,0,0,0,0,0,0,0,0,0,0,0,0,0,0,0,1],
 [1,-1,0,1,-1,0,1,-1,0,1,-1,1,0,-1,1,0,-1,1,0,-1,1],
 [1,-1,1,-1,1,-1,1,-1,1,-1,1,-1,1,-1,1,-1,1],
 [1,-1,0,0,0,1,-1,1,-1,0,1,-1,1,-1,1,0,-1,1,-1,1,0,0,0,-1,1],
 [1,0,0,0,0,0,-1,0,0,0,0,0,1],
 [1,1,1,1,1,1,1,1,1,1,1,1,1,1,1,1,1,1,1,1,1,1,1,1,1,1,1,1,1,1,1,1,1,1,1,1,1],
 [1,-1,1,-1,1,-1,1,-1,1,-1,1,-1,1,-1,1,-1,1,-1,1],
 [1,-1,0,1,-1,0,1,-1,0,1,-1,0,1,0,-1,1,0,-1,1,0,-1,1,0,-1,1],
 [1,0,0,0,-1,0,0,0,1,0,0,0,-1,0,0,0,1],
 [1,1,1,1,1,1,1,1,1,1,1,1,1,1,1,1,1,1,1,1,1,1,1,1,1,1,1,1,1,1,1,1,1,1,1,1,1,1,1,1,1],
 [1,1,0,-1,-1,0,1,0,-1,-1,0,1,1],
 [1,1,1,1,1,1,1,1,1,1,1,1,1,1,1,1,1,1,1,1,1,1,1,1,1,1,1,1,1,1,1,1,1,1,1,1,1,1,1,1,1,1,1],
 [1,0,-1,0,1,0,-1,0,1,0,-1,0,1,0,-1,0,1,0,-1,0,1],
 [1,0,0,-1,0,0,0,0,0,1,0,0,-1,0,0,1,0,0,0,0,0,-1,0,0,1],
 [1,-1,1,-1,1,-1,1,-1,1,-1,1,-1,1,-1,1,-1,1,-1,1,-1,1,-1,1],
 [1,1,1,1,1,1,1,1,1,1,1,1,1,1,1,1,1,1,1,1,1,1,1,1,1,1,1,1,1,1,1,1,1,1,1,1,1,1,1,1,1,1,1,1,1,1,1],
 [1,0,0,0,0,0,0,0,-1,0,0,0,0,0,0,0,1],
 [1,0,0,0,0,0,0,1,0,0,0,0,0,0,1,0,0,0,0,0,0,1,0,0,0,0,0,0,1,0,0,0,0,0,0,1,0,0,0,0,0,0,1],
 [1,0,0,0,0,-1,0,0,0,0,1,0,0,0,0,-1,0,0,0,0,1],
 [1,-1,0,1,-1,0,1,-1,0,1,-1,0,1,-1,0,1,-1,1,0,-1,1,0,-1,1,0,-1,1,0,-1,1,0,-1,1],
 [1,0,-1,0,1,0,-1,0,1,0,-1,0,1,0,-1,0,1,0,-1,0,1,0,-1,0,1],
 [1,1,1,1,1,1,1,1,1,1,1,1,1,1,1,1,1,1,1,1,1,1,1,1,1,1,1,1,1,1,1,1,1,1,1,1,1,1,1,1,1,1,1,1,1,1,1,1,1,1,1,1,1],
 [1,0,0,0,0,0,0,0,0,-1,0,0,0,0,0,0,0,0,1],
 [1,-1,0,0,0,1,-1,0,0,0,1,0,-1,0,0,1,0,-1,0,0,1,0,0,-1,0,1,0,0,-1,0,1,0,0,0,-1,1,0,0,0,-1,1],
 [1,0,0,0,-1,0,0,0,1,0,0,0,-1,0,0,0,1,0,0,0,-1,0,0,0,1],
 [1,-1,0,1,-1,0,1,-1,0,1,-1,0,1,-1,0,1,-1,0,1,0,-1,1,0,-1,1,0,-1,1,0,-1,1,0,-1,1,0,-1,1],
 [1,-1,1,-1,1,-1,1,-1,1,-1,1,-1,1,-1,1,-1,1,-1,1,-1,1,-1,1,-1,1,-1,1,-1,1],
 [1,1,1,1,1,1,1,1,1,1,1,1,1,1,1,1,1,1,1,1,1,1,1,1,1,1,1,1,1,1,1,1,1,1,1,1,1,1,1,1,1,1,1,1,1,1,1,1,1,1,1,1,1,1,1,1,1,1,1],
 [1,0,1,0,0,0,-1,0,-1,0,-1,0,0,0,1,0,1]]
def phi (n:Int):List Int:=phiT.getD n.toNat []
def fH:List Int->List Int->List Int
 |[],b=>b
 |a,[]=>a
 |x::a,y::b=>(x+y)::fH a b
def mB:∀ (a b:List Int) (i:Nat),co (fH a b) i=co a i+co b i
 |[],b,i=>by unfold fH;rw[Pl.co_nil];omega
 |x::a,[],i=>by unfold fH;rw[Pl.co_nil];omega
 |x::a,y::b,0=>rfl
 |x::a,y::b,i+1=>by unfold fH;rw[Pl.co_succ,Pl.co_succ,Pl.co_succ,mB a b i]
def jY:∀ (a b:List Int),(fH a b).length=max a.length b.length
 |[],b=>by unfold fH;simp
 |x::a,[]=>by unfold fH;simp
 |x::a,y::b=>by unfold fH;rw[Dd,jY a b,Dd,Dd];omega
def fmul:List Int->List Int->List Int
 |[],_=>[]
 |x::r,b=>fH (b.map (x*·)) (0::fmul r b)
def pj (x:Int):∀ (b:List Int) (i:Nat),co (b.map (x*·)) i=x*co b i
 |[],i=>by simp[co]
 |y::b,0=>rfl
 |y::b,i+1=>by rw[C9,Pl.co_succ,Pl.co_succ,pj x b i]
def lW:∀ (a b:List Int) (p:Nat),co (fmul a b) p=cf a (co b) p
 |[],b,p=>by unfold fmul;rw[Pl.co_nil];rfl
 |x::r,b,0=>by unfold fmul;rw[mB,pj,Pl.cf_z];show _+0=_;omega
 |x::r,b,p+1=>by unfold fmul;rw[mB,pj,Pl.cf_s,Pl.co_succ,lW r b p]
def nH:∀ (a b:List Int),a≠[]->b≠[]->(fmul a b).length=a.length+b.length-1
 |[],b,h,_=>absurd rfl h
 |[x],b,_,hb=>by
  have:0<b.length:=List.length_pos_iff.mpr hb;unfold fmul fmul;rw[jY];simp;omega
 |x::y::r,b,_,hb=>by
  have:0<b.length:=List.length_pos_iff.mpr hb;unfold fmul;rw[jY,Dd,nH (y::r) b 0#5 hb];simp;omega
def zb {a b:List Int}(ha:a≠[])(hb:b≠[]):Pl.mul a b=fmul a b:=Pl.ext_co (by rw[Pl.mul_len ha hb,nH a b ha hb]) λ i _=>by rw[Pl.co_mul,lW]
def cQ (f:Int->List Int):List Int->List Int
 |[]=>[1]
 |d::r=>Pl.mul (f d) (cQ f r)
def fprod (f:Int->List Int):List Int->List Int
 |[]=>[1]
 |d::r=>fmul (f d) (fprod f r)
def jc {f:Int->List Int}:∀ {ds:List Int},(∀ d∈ds,Pl.Mo (f d))->Pl.Mo (cQ f ds)
 |[],_=>⟨by simp[cQ],rfl⟩
 |d::r,h=>(h d (Dh ..)).mul (jc λ x hx=>h x 2#44)
def oN {f:Int->List Int}:∀ {ds:List Int},(∀ d∈ds,Pl.Mo (f d))->cQ f ds=fprod f ds
 |[],_=>rfl
 |d::r,h=>by
  have hr:∀ x∈r,Pl.Mo (f x):=λ x hx=>h x 2#44
  unfold cQ fprod;rw[<- oN hr,zb (h d (Dh ..)).ne (jc hr).ne]
def f7 (n:Int):List Int:=(List.range n.toNat).map λ (i:Nat)=>1+(i:Int)
def divs (n:Int):List Int:=(f7 n).filter λ d=>decide (n%d=0)
def xn1 (n:Int):List Int:=[-1]++List.replicate (n-1).toNat 0++[1]
def vC:((List.range 61).all λ k=>decide (k=0) || (fprod phi (divs k) == xn1 k))=true:=by decide +kernel
def vQ:((List.range 61).all λ k=>decide (k=0) || ((phi k).all (λ x=>decide (-2<x)&&decide (x<3))&&decide ((phi k).length<=61)&&decide (phi k≠[])&&decide (co (phi k) ((phi k).length-1)=1)))=true:=by decide +kernel
def xl {P:Nat->Bool}(h:(List.range 61).all P=true){n:Int}(h1:1<=n)(h2:n<=60):P n.toNat=true:=List.all_eq_true.mp h _ 0#94
def vn {n:Int}(h1:1<=n):((n.toNat:Nat):Int)=n:=⋯
def g9 {n:Int}(h1:1<=n)(h2:n<=60):Pl.Mo (phi n)/\Few (phi n)/\(phi n).length<=61/\∀ x∈phi n,-2<x/\x<3:=by
 have:=xl vQ h1 h2;rw[vn h1] at this;have hz:¬ n.toNat=0:=⋯
 simp only[EH,Dl,decide_eq_true_eq,Er,hz,false_or] at this;obtain⟨⟨⟨a1,a2⟩,a3⟩,a4⟩:=this;exact⟨⟨a3,a4⟩,λ y hy=>by have:=a1 y hy;omega,a2,a1⟩
def mem_divs {n d:Int}:d∈divs n ↔ 1<=d/\d<=n/\n%d=0:=by
 unfold divs f7;rw[EJ,E8]
 constructor
 ·rintro ⟨⟨i,hi,rfl⟩,h⟩
  have:=List.mem_range.mp hi;simp at h;exact⟨⋯,⋯,h⟩
 ·rintro ⟨h1,h2,h3⟩
  exact⟨⟨(d-1).toNat,List.mem_range.mpr ⋯,⋯⟩,by simp[h3]⟩
def yF {n:Int}(h2:n<=60):∀ d∈divs n,Pl.Mo (phi d):=λ d hd=>(g9 (mem_divs.mp hd).1 (by have:=mem_divs.mp hd;omega)).1
def o3 {n:Int}(h1:1<=n)(h2:n<=60):cQ phi (divs n)=xn1 n:=by
 have:=xl vC h1 h2;rw[vn h1] at this;have hz:¬ n.toNat=0:=⋯
 simp only[EH,decide_eq_true_eq,hz,false_or,beq_iff_eq] at this;rw[oN (yF h2),this]
def yC (n:Int):(f7 n).Pairwise (·<·):=by
 unfold f7;exact List.pairwise_map.mpr (List.pairwise_lt_range.imp λ {a b} h=>⋯)
def iU (n:Int):(divs n).Pairwise (·<·):=(yC n).filter _
def sY {n:Int}(h1:1<=n):∃ l,divs n=l++[n]/\∀ d∈l,1<=d/\d<n/\n%d=0:=by
 have hn:n∈divs n:=mem_divs.mpr ⟨h1,Es _,Int.emod_self⟩;have ne:divs n≠[]:=List.ne_nil_of_mem hn;have hl:(divs n).getLast ne=n:=by
  have up:Up (n+1) (divs n):=⟨iU n,λ x hx=>by have:=mem_divs.mp hx;omega⟩;have a:=up.last ne n hn;have b:=(mem_divs.mp (Fw ne)).2.1;omega
 refine⟨(divs n).dropLast,?_,λ d hd=>?_⟩
 ·conv=>lhs;rw[<- lC ne,hl]
 ·have hd':=List.dropLast_subset _ hd
  have hm:=mem_divs.mp hd';refine⟨hm.1,?_,hm.2.2⟩;have pw:=iU n;rw[<- lC ne,hl] at pw;exact(List.pairwise_append.mp pw).2.2 d hd n 0#5
def Ag (n:Int)(h:1<=n):Dv.rangeL 1 (n+1-1).toNat=(f7 n).map .int:=by
 rw[g7];unfold f7;have:(n+1-1).toNat=n.toNat:=⋯
 rw[this]
def bU {n:Int}(h1:1<=n)(h2:n<=60):F_Q07 [.int n]=.ok (L (divs n)) true:=by
 have hc:c_Q07_1 [some (.int n)]=.ok (L (divs n)) true:=by
  have hr:(rngOk 1&&rngOk (n+1))=true:=by simp only[rngOk,Dl,decide_eq_true_eq];omega
  have:=dB (elt:=eVar 0) (cond:=eCm .eq (eOp .mod (eVar 1) (eVar 0)) (eInt 0)) (is:=[0]) (it:=iRange2 (eInt 1) (eOp .add (eVar 0) (eInt 1))) (ρ:=[some (.int n)]) (c:=λ d=>decide (n%d=0)) (g:=λ d=>d) (xs:=f7 n) (f:=true)
   (by simp only[iRange2,eOp,eVar,eInt,R.bind,RL.bind,Out.bind,ah,C8,if_true,cZ,hr,Ag n h1]) (by unfold f7;simp;omega) (λ d hd=>by
    have:0<d:=by unfold f7 at hd;obtain⟨i,_,rfl⟩:=List.mem_map.mp hd;omega
    simp only[eCm,eOp,eVar,eInt,Dv.pick,R.bind,RL.bind,Out.bind,ah,C9,Dj,C8,Dc,Dw,cM,bz this]) (λ d hd _=>by simp only[eVar,Dv.pick,ah,C9,Dj,C8,Dw])
  simp only[Fz] at this;exact this
 have n1:¬ n<1:=⋯
 have n2:¬ 60<n:=⋯
 simp only[F_Q07,b_Q07,b_Q07_t1,Dv.fn,sCons,sNil,sIf,sRet,eOr,eCm,eVar,eInt,Dv.all,R.bind,RL.bind,Out.bind,ax,ah,C9,Dj,Dd,Dp,List.replicate,Dm,Do,C8,Nat.reduceAdd,Nat.reduceSub,iq,iy,decide_eq_false n1,decide_eq_false n2,hc]
def jM {f:Int->D}{j:Int}:∀ {ks:List Int},j∈ks->Dv.look ks (ks.map f) j=some (f j)
 |[],h=>by simp at h
 |k::ks,h=>by
  rw[C9];unfold Dv.look;by_cases e:k=j
  ·rw[if_pos e,e]
  ·rw[if_neg e]
   exact jM ((List.mem_cons.mp h).resolve_left (λ z=>e z.symm))
def nC:∀ ks:List Int,Dv.lstsFlat (ks.map λ d=>L (phi d))=true
 |[]=>rfl
 |k::ks=>by rw[C9];unfold Dv.lstsFlat;rw[bp,nC ks];rfl
def oy {n:D}{ks:List Int}{d:Int}(hd:1<=d/\d<=60):∀ (l:List Int) (z:Sl),(∀ a∈l,a∈ks/\1<=a/\a<=60)->l.length<=60->(cQ phi (l++[d])).length<=200 ->
  ∃ z',forGo 4 b_Q0V_l1 (l.map .int) [.sh n,.dp 1#40,.sh (.int d),.ow (L 1#93),z]=.nx [.sh n,.dp 1#40,.sh (.int d),.ow (L (phi d)),z']
 |[],z,_,_,_=>⟨z,by simp only[Do,cQ,Pl.mul_one];rfl⟩
 |a::l,z,h,hl,hp=>by
  obtain⟨h1,h2,h3⟩:=h a (Dh ..);rw[Dd] at hl;have hm:∀ x∈l++[d],Pl.Mo (phi x):=λ x hx=>by
   rcases List.mem_append.mp hx with hx|hx
   ·have:=h x 2#44;exact(g9 this.2.1 this.2.2).1
   ·simp at hx;subst hx;exact(g9 hd.1 hd.2).1
  have po:=g9 h2 h3;have pm:=jc hm;have e:cQ phi (a::l++[d])=Pl.mul 1#93 (phi a):=by
   rw[Dm];show Pl.mul (phi a) 1#93=_
   exact Pl.mul_comm _ _
  have hlen:(cQ phi (l++[d])).length<=200:=by
   rw[e,Pl.mul_len pm.ne po.1.ne] at hp;have:0<(phi a).length:=List.length_pos_iff.mpr po.1.ne;omega
  obtain⟨z',ih⟩:=oy hd l (.sh (.int a)) (λ x hx=>h x 2#44) ⋯ hlen;refine⟨z',?_⟩;have ex:=j7 po.1 pm.ne po.2.1 (by have:=po.2.2.1;omega);have a0:Dv.at? [L 1#93,.lst []] 0=some (L 1#93):=rfl;rw[C9,br (st':=[.sh n,.dp 1#40,.sh (.int d),.ow (L 1#93),.sh (.int a)]),ih];rw[e];simp only[b_Q0V_l1,sSet,eK,eIx,Dv.ixD,eVar,eInt,lNil,lCons,eCall,Dv.all,R.bind,RL.bind,Dv.R.bindL,Dv.RL.bindL,Out.bind,ax,cI,my,ah,ar,C9,Dj,C8,Dc,Dr,Dq,Dt,En,Eo,eDix,jM h1,ex,a0]
def lq {n:D}:∀ (l ks:List Int) (x y z:Sl),(∀ d∈l,(1<=d/\d<=60)/\d∉ks/\∀ a,1<=a->a<d->d%a=0->a∈ks\/a∈l)->l.Pairwise (·<·)->ks.length+l.length<=1000 ->
  ∃ x' y' z',forGo 2 b_Q0V_l2 (l.map .int) [.sh n,.dp 1#40,x,y,z]=.nx [.sh n,.dp (.dct (ks++l) ((ks++l).map λ d=>L (phi d))),x',y',z']
 |[],ks,x,y,z,_,_,_=>⟨x,y,z,by rw[DU];rfl⟩
 |d::l,ks,x,y,z,h,hp,hl=>by
  rw[Dd] at hl;obtain⟨hd,hk,ha⟩:=h d (Dh ..);obtain⟨l0,e0,h0⟩:=sY hd.1;have hin:∀ a∈l0,a∈ks/\1<=a/\a<=60:=λ a ha'=>by
   have:=h0 a ha';refine⟨?_,this.1,⋯⟩
   rcases ha a this.1 this.2.1 this.2.2 with q|q
   ·exact q
   ·rcases List.mem_cons.mp q with q|q
    ·omega
    ·have:=(List.pairwise_cons.mp hp).1 a q;omega
  have hpp:=o3 hd.1 hd.2;rw[e0] at hpp;have hdl:(divs d).length<=60:=by
   have:(divs d).length<=(f7 d).length:=Ed _ _;unfold f7 at this;simp at this;omega
  have hxl:(xn1 d).length<=200:=by unfold xn1;simp;omega
  obtain⟨z1,e1⟩:=oy (n:=n) hd l0 z hin (by rw[e0] at hdl;simp at hdl;omega) (by rw[hpp];exact hxl);rw[hpp] at e1;obtain⟨x',y',z',ih⟩:=lq (n:=n) l (ks++[d]) (.sh (.int d)) .no z1 (λ b hb=>by
   obtain⟨q1,q2,q3⟩:=h b (De _ hb);refine⟨q1,λ hb2=>?_,λ a a1 a2 a3=>?_⟩
   ·rcases List.mem_append.mp hb2 with hb2|hb2
    ·exact q2 hb2
    ·simp at hb2;have:=(List.pairwise_cons.mp hp).1 b hb;omega
   ·rcases q3 a a1 a2 a3 with q|q
    ·exact .inl (DP _ q)
    ·rcases List.mem_cons.mp q with q|q
     ·exact .inl (by rw[q];simp)
     ·exact .inr q) (List.pairwise_cons.mp hp).2 0#31
  refine⟨x',y',z',?_⟩;have hdo:=bU hd.1 hd.2;have hcut:Dv.cutL ((divs d).map D.int) none (some (-1))=l0.map D.int:=by
   rw[e0];unfold Dv.cutL Dv.cutI;simp;have:(-1+((l0.length:Int)+1)).toNat=l0.length:=⋯
   rw[this];exact List.take_left' 0#5
  have hre:=xH (x:=0) (n:=d-1) ⋯ ⋯;have hadd1:opD .add (.lst [.int (-1)]) (L (List.replicate (d-1).toNat 0))=.ok (L (-1::List.replicate (d-1).toNat 0)) true:=by
   have hle:([D.int (-1)].length+((List.replicate (d-1).toNat (0:Int)).map D.int).length<=Dv.mx):=by simp[Dv.mx];omega
   simp only[Dv.opD_ai,Dv.opD_al,Dv.opD_su,Dv.opD_mi,Dv.opD_ml,Dv.opD_mo,Dv.opD_fd,Dv.opD_po,Dv.opD_ba,Dv.opD_sh,L,if_pos hle,bp];rfl
  have hadd2:opD .add (L (-1::List.replicate (d-1).toNat 0)) (.lst [.int 1])=.ok (L (xn1 d)) true:=by
   have hle:(((-1::List.replicate (d-1).toNat (0:Int)).map D.int).length+[D.int 1].length<=Dv.mx):=by simp[Dv.mx];omega
   simp only[Dv.opD_ai,Dv.opD_al,Dv.opD_su,Dv.opD_mi,Dv.opD_ml,Dv.opD_mo,Dv.opD_fd,Dv.opD_po,Dv.opD_ba,Dv.opD_sh,L,if_pos hle,bp,xn1];simp[Dv.flatL,Dv.scal]
  have hpk:Dv.putKs ks d=ks++[d]:=by unfold Dv.putKs;rw[if_neg hk]
  have hpl:Dv.putL ks (ks.map λ d=>L (phi d)) d (L (phi d))=(ks++[d]).map λ d=>L (phi d):=by unfold Dv.putL;rw[if_neg hk];simp
  have h100:ks.length<Dv.mx:=by unfold Dv.mx;omega
  have h13:decide ((1:Nat)≠3)=true:=by decide
  rw[C9,br (st':=[.sh n,.dp (.dct (ks++[d]) ((ks++[d]).map λ d=>L (phi d))),.sh (.int d),.no,z1]),ih]
  ·simp
  ·simp only[b_Q0V_l2,sCons,sSet,eK,Dv.give,Dv.open_,be,aM,bE,sFor,iSeq,eNeg,eOp,eVar,eInt,eLst,lNil,lCons,eCall,eSlice,ePart,Dv.all,R.bind,RL.bind,Dv.R.bindL,Dv.RL.bindL,Out.bind,ax,cI,my,hZ,ah,C9,Dj,C8,Dc,Dr,Dq,DA,DH,Dw,DN,Dt,if_true,decide_true,eC,bp,Di,hre,hadd1,hadd2,hdo,Dv.sliceD,hcut,e1,sDMove,nC,decide_eq_true h100,h13,hpk,hpl]
def wA {n:Int}(h1:1<=n)(h2:n<=60):F_Q0V [.int n]=.ok (.dct (divs n) ((divs n).map λ d=>L (phi d))) true:=by
 have hdl:(divs n).length<=60:=by
  have:(divs n).length<=(f7 n).length:=Ed _ _;unfold f7 at this;simp at this;omega
 obtain⟨x,y,z,e⟩:=lq (n:=.int n) (divs n) [] .no .no .no (λ d hd=>by
  have:=mem_divs.mp hd;refine⟨⟨this.1,⋯⟩,by simp,λ a a1 a2 a3=>.inr (mem_divs.mpr ⟨a1,⋯,?_⟩)⟩;exact ER (Int.dvd_trans (EO a3) (EO this.2.2))) (iU n) 0#31
 simp only[Do,Dj] at e;simp only[F_Q0V,b_Q0V,b_Q0V_t2,b_Q0V_t1,Dv.fn,sCons,Dv.give,Dv.open_,be,bw,aM,sRetO,sFor,iSeq,eVar,lNil,lCons,eCall,R.bind,RL.bind,Dv.R.bindL,Dv.RL.bindL,Out.bind,hZ,sSetD,eDict0,ah,C9,Dj,Dd,Dp,List.replicate,Dm,Do,C8,Dc,Dr,Dq,DA,DH,Dw,Dt,Nat.reduceAdd,Nat.reduceSub,bU h1 h2,e]
def qA (g:Nat->Int):∀ (a b:List Int) (p:Nat),cf (fH a b) g p=cf a g p+cf b g p
 |[],b,p=>by unfold fH;rw[Pl.cf_nil];omega
 |x::a,[],p=>by unfold fH;rw[Pl.cf_nil];omega
 |x::a,y::b,0=>by unfold fH;rw[Pl.cf_z,Pl.cf_z,Pl.cf_z,Gz]
 |x::a,y::b,p+1=>by unfold fH;rw[Pl.cf_s,Pl.cf_s,Pl.cf_s,qA g a b p,Gz];omega
def nW (g:Nat->Int):∀ (n:Nat) (l:List Int) (p:Nat),cf (List.replicate n 0++l) g p=if n<=p then cf l g (p-n) else 0
 |0,l,p=>by simp
 |n+1,l,0=>by rw[DL,Dm,Pl.cf_z,if_neg ⋯];simp
 |n+1,l,p+1=>by
  rw[DL,Dm,Pl.cf_s,nW g n l p];by_cases h:n<=p
  ·rw[if_pos h,if_pos ⋯]
   have:p+1-(n+1)=p-n:=⋯
   rw[this];simp
  ·rw[if_neg h,if_neg ⋯];simp
def Dvd (o:List Int)(f:Nat->Int):Prop:=∃ q:List Int,∀ i,f i=cf q (co o) i
def mD {a o q r:List Int}(ho:Pl.Mo o)(hr:r.length<=o.length-1)(h:∀ p,co a p=cf q (co o) p+co r p):Dvd o (co a) ↔ ∀ i,co r i=0:=by
 constructor
 ·rintro ⟨q',h'⟩
  exact(Pl.div_one (o:=o) (q:=q) (q':=q') (r:=co r) (r':=λ _=>0) ho (λ i hi=>Pl.co_over ⋯) 2#1 (λ p=>by rw[<- h p,h' p];simp)).2
 ·intro hz
  exact⟨q,λ i=>by rw[h i,hz i];simp⟩
open Classical in
def hasB (xs:List Int)(d:Int):Bool:=decide (Dvd (phi d) (co (bsum xs)))
open Classical in
def ot {xs:List Int}{d:Int}:hasB xs d=true ↔ Dvd (phi d) (co (bsum xs)):=by unfold hasB;exact decide_eq_true_iff
def xg {m:Int}{xs:List Int}(h:Up m xs)(hm:m<=200):(bsum xs).length<=200:=by
 unfold bsum
 split
 ·simp
 ·rename_i ne
  have:=h.rg (xs.getLast ne) (Fw ne);rw[Di,upto_len];omega
def uQ {m d:Int}{xs:List Int}(h:Up m xs)(hm:m<=200)(d1:1<=d)(d2:d<=60):F_Q0P [L xs,L (phi d)]=.ok (.bl (hasB xs d)) true:=by
 obtain⟨po,pf,pl,_⟩:=g9 d1 d2;have hbl:=xg h hm;obtain⟨q,r,e,l1,tr,l2,hr⟩:=eA (a:=bsum xs) po pf ⋯ ⋯;have bs:=m6 h ⋯;have a1:∀ x y:D,Dv.at? [x,y] 1=some y:=λ _ _=>rfl
 have hbool:decide (r=[])=hasB xs d:=by
  have:=mD (a:=bsum xs) po l2 hr;rw[<- ot] at this;rw[Ee,decide_eq_true_eq,this]
  constructor
  ·intro z i;rw[z,Pl.co_nil]
  ·intro z;exact Pl.tr_ext tr 0#76 λ i=>by rw[z i,Pl.co_nil]
 have q0:=AM r;rw[hbool] at q0;simp only[F_Q0P,b_Q0P,Dv.fn,sRet,eIx,Dv.ixD,eCm,eVar,eInt,eLst,lNil,lCons,eCall,Dv.all,R.bind,RL.bind,Dv.R.bindL,Dv.RL.bindL,Out.bind,ax,ar,C9,Dj,Dd,Dp,List.replicate,Dm,Do,C8,Dc,Dt,En,DC,Nat.reduceAdd,Nat.reduceSub,bs,e,a1,q0]
def ui {n:Int}(h:1<=n):∃ l,divs n=1::l/\∀ d∈l,1<d/\d<=n/\n%d=0:=by
 have h1:(1:Int)∈divs n:=mem_divs.mpr ⟨⋯,h,Int.emod_one n⟩;have up:=iU n;cases hd:divs n with
 |nil=>rw[hd] at h1;simp at h1
 |cons x l=>
  rw[hd] at h1 up;have hx:=mem_divs.mp (show x∈divs n by rw[hd];exact Dh ..);have e:x=1:=by
   rcases List.mem_cons.mp h1 with h1|h1
   ·exact h1.symm
   ·have:=(List.pairwise_cons.mp up).1 1 h1;omega
  subst e;refine⟨l,rfl,λ d hdl=>?_⟩;have h2:=(List.pairwise_cons.mp up).1 d hdl;have h3:=mem_divs.mp (show d∈divs n by rw[hd];exact De _ hdl);exact⟨h2,h3.2.1,h3.2.2⟩
def bA (n:Int):List Int:=(divs n).drop 1
def gO {n d:Int}(h:1<=n):d∈bA n ↔ 1<d/\d<=n/\n%d=0:=by
 obtain⟨l,e,hl⟩:=ui h;unfold bA;rw[e]
 constructor
 ·exact λ hd=>hl d hd
 ·rintro ⟨h1,h2,h3⟩
  have:=mem_divs.mpr ⟨show 1<=d by omega,h2,h3⟩;rw[e] at this
  rcases List.mem_cons.mp this with h4|h4
  ·omega
  ·exact h4
def tS (ds:List D):Dv.cutL ds (some 1) none=ds.drop 1:=by
 unfold Dv.cutL Dv.cutI;have h1:¬ ((1:Int)<0):=⋯
 have t1:(1:Int).toNat=1:=rfl;simp only[h1,if_false,t1];by_cases h:1<=ds.length
 ·rw[Gh h,Ex 0#5]
 ·have:ds=[]:=DM ⋯
  subst this;rfl
def oU (n:Int):Dv.cutL ((divs n).map D.int) (some 1) none=(bA n).map D.int:=by rw[tS,<- List.map_drop];rfl
def fE {n:Int}(h2:n<=60):(bA n).length<=60:=by
 have:(divs n).length<=(f7 n).length:=Ed _ _;unfold f7 at this;simp at this;unfold bA;simp;omega
def qG {n:Int}{xs:List Int}(h:Beat n xs):Up n xs:=⟨h.up,h.rg⟩
def Br {n:Int}{xs:List Int}(n2:n<=60)(h:Beat n xs):F_Q0U [.int n,L xs]=.ok 1#32 true:=by
 have n1:=h.pos;have hc:c_Q0U_1 [some (.int n),some (L xs),some (.dct (divs n) ((divs n).map λ d=>L (phi d)))]=.ok 1#32 true:=by
  have:=dB (elt:=eVar 0) (cond:=eCall F_Q0P (lCons (eVar 1) (lCons (eDix (eVar 2) (eVar 0)) lNil))) (is:=[1,2]) (it:=iSeq 0#56) (ρ:=[some (.int n),some (L xs),some (.dct (divs n) ((divs n).map λ d=>L (phi d)))]) (c:=λ d=>hasB xs d) (g:=λ d=>d) (xs:=bA n) (f:=true)
   (by simp only[iSeq,eVar,eInt,lNil,lCons,eCall,eSlice,ePart,R.bind,RL.bind,Dv.R.bindL,Dv.RL.bindL,Out.bind,ah,C8,DN,Dt,bp,bU n1 n2,Dv.sliceD,oU]) (by have:=fE n2;omega) (λ d hd=>by
    have hd':=(gO n1).mp hd;have hk:d∈divs n:=mem_divs.mpr ⟨⋯,hd'.2.1,hd'.2.2⟩;simp only[eVar,lNil,lCons,eCall,Dv.pick,R.bind,RL.bind,Dv.R.bindL,Dv.RL.bindL,Out.bind,ah,ar,C9,Dj,C8,Dc,Dw,Dt,En,Eo,eDix,jM hk,uQ (qG h) (show n<=200 by omega) (show 1<=d by omega) (show d<=60 by omega)]) (λ d hd _=>by simp only[eVar,Dv.pick,ah,C9,Dj,C8,Dc,Dw])
  simp only[Fz] at this;exact this
 simp only[F_Q0U,b_Q0U,b_Q0U_t2,b_Q0U_t1,Dv.fn,sCons,sRet,sExpr,eVar,lNil,lCons,eCall,Dv.all,R.bind,RL.bind,Dv.R.bindL,Dv.RL.bindL,Out.bind,bq,ax,my,sSetD,ah,ar,C9,Dj,Dd,Dp,List.replicate,Dm,Do,C8,Dc,Dr,Dq,Dt,DC,Nat.reduceAdd,Nat.reduceSub,bM n2 h,wA n1 n2,hc]
def jD {elt:EE}{free:Dv.Env}{g:Int->D}:∀ {xs:List Int},(∀ x∈xs,elt (some (.int x)::free)=.ok (g x) true)->aZ elt 0#72 free 1#8=.ok (xs.map g) true
 |[],_=>rfl
 |x::r,h=>by
  rw[C9];unfold aZ;simp only[eBl,h x (Dh ..),jD λ y hy=>h y 1#13,C9,Fp]
def row (a b:List Int)(d:Int):D:=.tup [.int d,.bl (hasB a d),.bl (hasB b d)]
def zl {n d:Int}{xs:List Int}(hd:d∈bA n):decide (d∈(bA n).filter λ d=>hasB xs d)=hasB xs d:=by
 rw[Ee,decide_eq_true_eq,EJ];exact⟨λ h=>h.2,λ h=>⟨hd,h⟩⟩
end Cw
namespace Bt
open Dv (ins isort)
def T (A:List Int)(g:Int->Int):Int->Int:=λ s=>(A.map λ a=>g (s-a)).sum
def w5 (a:Int)(A:List Int)(g:Int->Int)(s:Int):T (a::A) g s=g (s-a)+T A g s:=by unfold T;simp
def zL (g:Int->Int)(s:Int):T [] g s=0:=by simp[T]
def cnt (n:Int)(B:List Int)(s:Int):Int:=(B.map λ b=>if (s-b)%n=0 then (1:Int) else 0).sum
end Bt
namespace Cw
open Dv (Out R RL cmD aZ eB1 eBl eCall eCm eComp eInt eIx eLst eNeg eNot eOp eOr ePart eSlice eStr eTup eVar forGo iRange iSeq keepD lCons lNil opD sAppF sAug sCons sExpr sFor sIf sKill sNil sRet sRetO sSet sSetD sSetF sSetG sSought sTryAs)
open Bt (T w5 zL hits Fill aI Beat)
open Pl (co cf)
def sl {α:Type}(l:List α)(f:α->Int):Int:=(l.map f).sum
def aj {α:Type}(f:α->Int):sl [] f=0:=rfl
def ae {α:Type}(x:α)(l:List α)(f:α->Int):sl (x::l) f=f x+sl l f:=by unfold sl;simp
open Dv (D R RL EE EL EI RI Sl Out SS St)
open Bt
open Pl (co cf sh)
def mono (i:Nat):Nat->Int:=λ j=>if j=i then 1 else 0
def cA {o:List Int}{f g:Nat->Int}(h:Dvd o f)(e:∀ i,f i=g i):Dvd o g:=by
 obtain⟨q,hq⟩:=h;exact⟨q,λ i=>by rw[<- e,hq]⟩
def dvd_zero (o:List Int):Dvd o (λ _=>0):=⟨[],λ i=>rfl⟩
def dvd_add {o:List Int}{f g:Nat->Int}(h1:Dvd o f)(h2:Dvd o g):Dvd o (λ i=>f i+g i):=by
 obtain⟨a,ha⟩:=h1;obtain⟨b,hb⟩:=h2;exact⟨fH a b,λ i=>by rw[qA,<- ha,<- hb]⟩
def A5 {o:List Int}{f:Nat->Int}(h:Dvd o f):Dvd o (sh f):=by
 obtain⟨q,hq⟩:=h;refine⟨0::q,λ i=>?_⟩;cases i with
 |zero=>rw[Pl.cf_z];simp[sh]
 |succ i=>rw[Pl.cf_s,<- hq];simp[sh]
def oK {o:List Int}{q:Nat}(h:Dvd o (λ j=>mono q j-mono 0 j)):∀ i:Nat,Dvd o (λ j=>mono (i+q) j-mono i j)
 |0=>cA h λ j=>by rw[Et]
 |i+1=>cA (A5 (oK h i)) λ j=>by
  cases j with
  |zero=>simp[sh,mono];omega
  |succ j=>
   have e:i+1+q=i+q+1:=⋯
   simp only[sh,mono,e,Nat.add_right_cancel_iff]
def ye {o:List Int}{q:Nat}(hq:0<q)(h:Dvd o (λ j=>mono q j-mono 0 j)):∀ i:Nat,Dvd o (λ j=>mono i j-mono (i%q) j):=by
 intro i
 induction i using Nat.strongRecOn with
 |ind i ih=>
  by_cases hi:i<q
  ·rw[EC hi];exact cA (dvd_zero o) λ j=>⋯
  ·have h1:=ih (i-q) ⋯
   have h2:=oK h (i-q);have e1:i-q+q=i:=⋯
   have e2:(i-q)%q=i%q:=by rw[<- FT ⋯]
   rw[e1] at h2;rw[e2] at h1;exact cA (dvd_add h2 h1) λ j=>⋯
def fs:List Int->Nat->Int
 |[],_=>0
 |x::r,j=>mono x.toNat j+fs r j
def nE {o:List Int}{q:Nat}(hq:0<q)(h:Dvd o (λ j=>mono q j-mono 0 j)):∀ xs:List Int,(∀ x∈xs,0<=x)->Dvd o (λ j=>fs xs j-fs (xs.map (·%(q:Int))) j)
 |[],_=>cA (dvd_zero o) λ j=>by simp[fs]
 |x::r,hx=>by
  have h1:=ye hq h x.toNat;have h2:=nE hq h r λ y hy=>hx y 1#13
  have h0:=hx x (Dh ..);have e:(x%(q:Int)).toNat=x.toNat%q:=by
   have:=Int.toNat_emod h0 (by omega:(0:Int)<=(q:Int));rw[this,D9]
  exact cA (dvd_add h1 h2) λ j=>by
   simp only[C9,fs,e];omega
def cnt (xs:List Int)(q r:Int):Int:=((xs.filter λ x=>decide (x%q=r)).length:Nat)
def cnt_cons (x:Int)(xs:List Int)(q r:Int):cnt (x::xs) q r=(if x%q=r then 1 else 0)+cnt xs q r:=by
 unfold cnt;rw[Fv];by_cases h:x%q=r
 ·rw[if_pos (by simp[h]),if_pos h,Dd];omega
 ·rw[if_neg (by simp[h]),if_neg h];omega
def xh {q:Int}(hq:0<q):∀ (xs:List Int) (j:Nat),fs (xs.map (·%q)) j=cnt xs q j
 |[],j=>rfl
 |x::r,j=>by
  have h0:=Gg x (by omega:q≠0);rw[C9,cnt_cons,<- xh hq r j];show mono (x%q).toNat j+_=_
  unfold mono;by_cases h:x%q=j
  ·rw[if_pos ⋯,if_pos h]
  ·rw[if_neg ⋯,if_neg h]
def vW {xs:List Int}{q r:Int}(hq:0<q)(h:q<=r):cnt xs q r=0:=by
 unfold cnt;have:xs.filter (λ x=>decide (x%q=r))=[]:=by
  rw[List.filter_eq_nil_iff];intro x _;have:=FQ x hq;simp;omega
 rw[this];rfl
def comb (m:Nat):Nat->List Int
 |0=>[]
 |1=>[1]
 |p+2=>1::1#19
def oa {m:Nat}(hm:0<m):∀ p,(comb m (p+1)).length=p*m+1
 |0=>by simp[comb]
 |p+1=>by
  unfold comb;rw[Dd,Dz,DS,oa hm p,Ea];omega
def sH {m:Nat}(hm:0<m){gl:List Int}(hl:gl.length=m):∀ (p j:Nat),cf 2#8 (co gl) j=if j<(p+1)*m then co gl (j%m) else 0
 |0,j=>by
  show 1*co gl j+sh (cf [] (co gl)) j=_
  have:sh (cf [] (co gl)) j=0:=by cases j <;>rfl
  rw[this,Et,Nat.one_mul];by_cases h:j<m
  ·rw[if_pos h,EC h];omega
  ·rw[if_neg h,Pl.co_over ⋯];rfl
 |p+1,j=>by
  have hc:comb m (p+1+1)=1::1#19:=rfl;rw[hc];have hs:sh (cf 1#19 (co gl)) j=if m<=j then cf 2#8 (co gl) (j-m) else 0:=by
   cases j with
   |zero=>rw[if_neg ⋯];rfl
   |succ j=>
    show cf _ _ j=_
    rw[nW];by_cases h:m-1<=j
    ·rw[if_pos h,if_pos ⋯]
     have:j-(m-1)=j+1-m:=⋯
     rw[this]
    ·rw[if_neg h,if_neg ⋯]
  show 1*co gl j+sh (cf 1#19 (co gl)) j=_
  rw[hs];by_cases h:m<=j
  ·rw[if_pos h,sH hm hl p (j-m),Pl.co_over ⋯,<- FT h]
   have e:(p+1+1)*m=(p+1)*m+m:=by rw[Ea]
   by_cases h2:j-m<(p+1)*m
   ·rw[if_pos h2,if_pos ⋯];omega
   ·rw[if_neg h2,if_neg ⋯];omega
  ·rw[if_neg h,EC ⋯,if_pos (by rw[Ea];omega)];omega
def iZ:∀ {xs:List Int} {j:Nat},(∀ x∈xs,0<=x)->(j:Int)∉xs->fs xs j=0
 |[],j,_,_=>rfl
 |x::r,j,h0,hj=>by
  have:=h0 x (Dh ..);have hx:¬ j=x.toNat:=λ e=>hj (List.mem_cons.mpr (.inl ⋯))
  show mono x.toNat j+fs r j=0
  rw[iZ (λ y hy=>h0 y 1#13) λ hm=>hj (De _ hm)];unfold mono;rw[if_neg hx];rfl
def vJ:∀ {xs:List Int} {j:Nat},(∀ x∈xs,0<=x)->xs.Pairwise (·<·)->(j:Int)∈xs->fs xs j=1
 |[],j,_,_,hm=>nomatch hm
 |x::r,j,h0,hu,hm=>by
  obtain⟨hu1,hu2⟩:=List.pairwise_cons.mp hu;have hr:∀ y∈r,0<=y:=λ y hy=>h0 y 1#13
  have h1:=h0 x (Dh ..);show mono x.toNat j+fs r j=1
  unfold mono
  rcases List.mem_cons.mp hm with e|hmr
  ·rw[if_pos ⋯,iZ hr λ hm=>by have:=hu1 _ hm;omega];rfl
  ·have:=hu1 _ hmr
   rw[if_neg ⋯,vJ hr hu2 hmr];rfl
def yR {m:Int}{xs:List Int}(h:Up m xs)(j:Nat):co (bsum xs) j=fs xs j:=by
 have h0:∀ x∈xs,0<=x:=λ x hx=>(h.rg x hx).1
 by_cases ne:xs=[]
 ·subst ne;rw[nz,Pl.co_nil];rfl
 have hb:bsum xs=(upto (xs.getLast ne+1).toNat).map λ i=>if i∈xs then 1 else 0:=by unfold bsum;rw[dif_neg ne]
 have hl:(bsum xs).length=(xs.getLast ne+1).toNat:=by rw[hb];simp[upto]
 by_cases hj:j<(bsum xs).length
 ·rw[Pl.co_get hj]
  have e:(bsum xs)[j]=if (j:Int)∈xs then 1 else 0:=by
   simp only[hb,upto,Ec,FP]
  rw[e];by_cases hm:(j:Int)∈xs
  ·rw[if_pos hm,vJ h0 h.up hm]
  ·rw[if_neg hm,iZ h0 hm]
 ·rw[Pl.co_over ⋯,iZ h0 λ hm=>?_]
  have:=h.last ne _ hm;omega
def Ev (xs:List Int)(p m:Nat):Prop:=∀ r k:Nat,r<m->k<p->cnt xs ((p*m:Nat):Int) ((r+k*m:Nat):Int)=cnt xs ((p*m:Nat):Int) (r:Int)
def yw {m p:Nat}(hm:0<m){M:Int}{xs:List Int}(h:Up M xs)(ho:Pl.Mo 2#8)(hq:Dvd 2#8 (co (xn1 (((p+1)*m:Nat):Int)))):Dvd 2#8 (co (bsum xs)) ↔ Ev xs (p+1) m:=by
 generalize hqq:(p+1)*m=q at *;have q0:0<q:=by rw[<- hqq,Ea];omega
 have qe:q=p*m+m:=by rw[<- hqq,Ea]
 have hx:∀ j,co (xn1 (q:Int)) j=mono q j-mono 0 j:=by
  intro j;have e:xn1 (q:Int)=-1::(List.replicate (q-1) 0++[1]):=by
   unfold xn1;have:((q:Int)-1).toNat=q-1:=⋯
   rw[this];rfl
  rw[e];cases j with
  |zero=>rw[Pl.co_zero];simp[mono];omega
  |succ j=>
   rw[Pl.co_succ,lN,pX,DS];unfold mono;by_cases hj:j=q-1
   ·rw[if_pos hj,if_pos ⋯,if_neg ⋯];rfl
   ·rw[if_neg hj,if_neg ⋯,if_neg ⋯];rfl
 have hf:=nE q0 (cA hq hx) xs λ x hx=>(h.rg x hx).1
 let G:Nat->Int:=λ j=>cnt xs (q:Int) j
 let R:List Int:=Pl.upto (p*m) λ s=>G s-G (p*m+s%m)
 let gl:List Int:=Pl.upto m λ r=>G (p*m+r)
 have hgl:gl.length=m:=Pl.upto_len _ _;have hRl:R.length=p*m:=Pl.upto_len _ _;have h2:Dvd 2#8 (λ j=>G j-co R j):=by
  refine⟨gl,λ j=>?_⟩;show G j-co R j=_
  rw[Pl.cf_comm,sH hm hgl,hqq];by_cases hj:j<q
  ·rw[if_pos hj]
   have hjm:j%m<m:=FK _ hm;have e1:co gl (j%m)=G (p*m+j%m):=Pl.co_upto hjm;rw[e1];by_cases hj2:j<p*m
   ·have e2:co R j=G j-G (p*m+j%m):=Pl.co_upto hj2
    rw[e2];omega
   ·rw[Pl.co_over ⋯]
    have e3:p*m+j%m=j:=by
     have:j=(j-p*m)+p*m:=⋯
     have h4:j%m=(j-p*m)%m:=by conv=>lhs;rw[this,Fd]
     rw[h4,EC ⋯];omega
    rw[e3];omega
  ·rw[if_neg hj,Pl.co_over ⋯]
   show cnt xs (q:Int) j-0=0
   rw[vW ⋯ ⋯];rfl
 obtain⟨Q,hQ⟩:=dvd_add hf h2;have key:∀ j,co (bsum xs) j=cf Q (co 2#8) j+co R j:=λ j=>by
  rw[<- hQ j,yR h];have:=xh (q:=(q:Int)) ⋯ xs j;show _=(fs xs j-fs (xs.map (·%(q:Int))) j)+(cnt xs (q:Int) j-co R j)+co R j
  omega
 rw[mD ho (by rw[hRl,oa hm];omega) key];unfold Ev;rw[hqq]
 constructor
 ·intro hz
  have hall:∀ r k:Nat,r<m->k<p+1->cnt xs (q:Int) ((r+k*m:Nat):Int)=G (p*m+r):=by
   intro r k hr hk;by_cases hkp:k=p
   ·subst hkp
    show G (r+k*m)=_
    rw[FV]
   ·have hlt:r+k*m<p*m:=by
     have:(k+1)*m<=p*m:=E1 m ⋯;rw[Ea] at this;omega
    have e2:co R (r+k*m)=G (r+k*m)-G (p*m+(r+k*m)%m):=Pl.co_upto hlt;rw[hz,Fd,EC hr] at e2;show G (r+k*m)=_
    omega
  intro r k hr hk;rw[hall r k hr hk];have:=hall r 0 hr ⋯;rw[Nat.zero_mul,Gu] at this;rw[this]
 ·intro he i
  by_cases hi:i<p*m
  ·have e2:co R i=G i-G (p*m+i%m):=Pl.co_upto hi
   have hmm:i%m<m:=FK _ hm;have hdm:i/m<p+1:=by
    have:i/m<p:=(Nat.div_lt_iff_lt_mul hm).mpr hi;omega
   have a1:=he (i%m) (i/m) hmm hdm;have a2:=he (i%m) p hmm ⋯;have e3:i%m+i/m*m=i:=by rw[EN];exact Nat.mod_add_div i m
   have e4:i%m+p*m=p*m+i%m:=⋯
   rw[e3] at a1;rw[e4] at a2;rw[e2];show cnt xs (q:Int) i-cnt xs (q:Int) ((p*m+i%m:Nat):Int)=0
   omega
  ·exact Pl.co_over ⋯
def fN (p:Nat):Bool:=decide (2<=p)&&(List.range p).all λ j=>decide (j<2) || decide (p%j≠0)
def u0:((List.range 61).all λ p=>(List.range 6).all λ a=>!fN p || !decide (p ^ (a+1)<=60) || (comb (p ^ a) p == phi ((p ^ (a+1):Nat):Int)&&fmul (xn1 ((p ^ a:Nat):Int)) (phi ((p ^ (a+1):Nat):Int)) == xn1 ((p ^ (a+1):Nat):Int)))=true:=by decide +kernel
def Ax {p a:Nat}(hp:fN p=true)(hq:p ^ (a+1)<=60){M:Int}{xs:List Int}(h:Up M xs):hasB xs ((p ^ (a+1):Nat):Int)=true ↔ Ev xs p (p ^ a):=by
 have hp2:2<=p:=by unfold fN at hp;simp at hp;exact hp.1
 have p60:p<=60:=by
  have h1:p ^ 1<=p ^ (a+1):=FJ ⋯ ⋯;rw[Nat.pow_one] at h1;omega
 have a6:a<6:=by
  by_cases ha:a<6
  ·exact ha
  ·exfalso
   have h1:2 ^ (a+1)<=p ^ (a+1):=Nat.pow_le_pow_left hp2 _;have h2:2 ^ 7<=2 ^ (a+1):=FJ ⋯ ⋯;omega
 have ht:=List.all_eq_true.mp (List.all_eq_true.mp u0 p 0#94) a (List.mem_range.mpr a6);rw[hp,decide_eq_true hq] at ht;simp only[D3,Em,Dl,beq_iff_eq] at ht;obtain⟨t1,t2⟩:=ht;have q1:1<=p ^ (a+1):=Gd ⋯;have m1:0<p ^ a:=Gd ⋯;have ph:=g9 (n:=((p ^ (a+1):Nat):Int)) ⋯ ⋯;rw[ot];obtain⟨p',rfl⟩:∃ p',p=p'+1:=⟨p-1,⋯⟩;have hpm:(p'+1) ^ (a+1)=(p'+1)*(p'+1) ^ a:=by rw[Gs,EN]
 rw[<- t1];rw[<- t1] at ph t2;refine yw m1 h ph.1 ?_
 rw[<- hpm,<- t2];exact⟨_,λ i=>lW _ _ i⟩
def us (d:Nat):List Nat:=(List.range d).filter λ k=>Nat.gcd k d == 1
structure Fu (n:Int)(a b:List Int):Prop where
 nd:b.Nodup
 rg:∀ x∈b,0<=x/\x<n
 fl:Fill n a (Dv.isort b)
def eqB (xs:List Int)(p m:Nat)(r:Int):Bool:=(upto p).all λ k=>decide (cnt xs ((p*m:Nat):Int) (r+k*(m:Int))=cnt xs ((p*m:Nat):Int) r)
def Bw {xs:List Int}{p m:Nat}:((upto m).all (eqB xs p m))=true ↔ Ev xs p m:=by
 unfold Ev eqB;simp only[Er,decide_eq_true_eq]
 constructor
 ·intro h r k hr hk
  have:=h (r:Int) (mem_upto.mpr ⋯) (k:Int) (mem_upto.mpr ⋯);rw[<- this];congr 1
 ·intro h r hr k hk
  have hr:=mem_upto.mp hr;have hk:=mem_upto.mp hk;have:=h r.toNat k.toNat ⋯ ⋯;have e1:((r.toNat:Nat):Int)=r:=⋯
  have e2:((k.toNat:Nat):Int)=k:=⋯
  rw[e1] at this;rw[<- this];congr 1;rw[FC,E6,e1,e2]
structure Pp (p a:Nat):Prop where
 nd:fN p=true
 le:p ^ (a+1)<=60
def Pp.two {p a:Nat}(h:Pp p a):2<=p:=by have:=h.nd;unfold fN at this;simp at this;exact this.1
def Pp.pos {p a:Nat}(h:Pp p a)(b:Nat):0<p ^ b:=Gd (by have:=h.two;omega)
def lpf (d:Nat):Nat:=((List.range 61).find? λ p=>decide (2<=p)&&decide (d%p=0)).getD 0
def kb (d:Nat):Bool:=decide (2<=d)&&(List.range 6).any λ a=>decide (lpf d ^ (a+1)=d)
def kG:List Nat->Nat
 |[]=>1
 |x::r=>x*kG r
def sV:((List.range 61).all λ d=>decide (d<2) || (fN (lpf d)&&(decide (d%lpf d=0)&&(List.range (lpf d)).all λ j=>decide (j<2) || decide (d%j≠0))))=true:=by decide +kernel
def Ai {d:Nat}(h2:2<=d)(h:d<=60):fN (lpf d)=true/\d%lpf d=0/\∀ j,2<=j->j<lpf d->d%j≠0:=by
 have:=List.all_eq_true.mp sV d 0#94;rw[decide_eq_false ⋯,Em,Dl,Dl,decide_eq_true_eq] at this;refine⟨this.1,this.2.1,λ j j2 jl=>?_⟩;have h3:=List.all_eq_true.mp this.2.2 j (List.mem_range.mpr jl);rw[decide_eq_false ⋯,Em,decide_eq_true_eq] at h3;exact h3
def tJ {p:Nat}(h:fN p=true):2<=p:=by unfold fN at h;simp at h;exact h.1
def had (n:Int)(xs:List Int):List Int:=(bA n).filter λ d=>hasB xs d
def ppI (n:Int):List Int:=(bA n).filter λ d=>kb d.toNat
def tM:((List.range 61).all λ k=>decide (k<2) || (decide (co (divs (k:Int)) 1=(lpf k:Int))&&(decide (1<(divs (k:Int)).length)&&(((bA (k:Int)).all λ x=>decide (x%(lpf k:Int)=0)) == kb k))))=true:=by decide +kernel
def so {d:Int}(h2:2<=d)(h:d<=60):co (divs d) 1=(lpf d.toNat:Int)/\1<(divs d).length/\((bA d).all λ x=>decide 2#12)=kb d.toNat:=by
 have:=List.all_eq_true.mp tM d.toNat 0#94;have e:((d.toNat:Nat):Int)=d:=⋯
 rw[decide_eq_false ⋯,Em,e,Dl,Dl,decide_eq_true_eq,decide_eq_true_eq,beq_iff_eq] at this;exact this
def xb {d:Int}(h2:2<=d)(h:d<=60):2<=(lpf d.toNat:Int)/\(lpf d.toNat:Int)<=d/\d%(lpf d.toNat:Int)=0:=by
 obtain⟨h1,h3,_⟩:=Ai (d:=d.toNat) ⋯ ⋯;have h4:=tJ h1;have h5:=Nat.le_of_dvd ⋯ (FE h3);refine⟨⋯,⋯,?_⟩;have e:((d.toNat:Nat):Int)=d:=⋯
 have h6:((lpf d.toNat:Nat):Int) ∣ ((d.toNat:Nat):Int):=Int.natCast_dvd_natCast.mpr (FE h3);rw[e] at h6;exact ER h6
def iF {d:Int}(h2:2<=d)(h:d<=60):F_Q0Y [.int d]=.ok (.int (lpf d.toNat)) true:=by
 obtain⟨t1,t2,_⟩:=so h2 h;have hat:=m9 (s:=divs d) (k:=1) ⋯ ⋯;have e1:(1:Int).toNat=1:=rfl;rw[e1,t1] at hat;simp only[F_Q0Y,b_Q0Y,Dv.fn,sRet,eIx,Dv.ixD,eVar,eInt,lNil,lCons,eCall,Dv.all,R.bind,RL.bind,Dv.R.bindL,Dv.RL.bindL,Out.bind,ax,ah,C9,Dj,Dd,Dp,List.replicate,Dm,Do,C8,DN,Dt,Nat.reduceAdd,Nat.reduceSub,bU (show 1<=d by omega) h,hat]
def qk (f:Int->Bool):∀ xs:List Int,Dv.blsOf (xs.map λ x=>D.bl (f x))=some (xs.map f)
 |[]=>rfl
 |x::r=>by rw[C9,C9];show (Dv.blsOf (r.map _)).map (f x::·)=_;rw[qk f r];rfl
def l4 {d:Int}(h2:2<=d)(h:d<=60):F_Q0C [.int d]=.ok (.bl (kb d.toNat)) true:=by
 obtain⟨_,_,t3⟩:=so h2 h;have hp:=xb h2 h;have hc:c_Q0C_1 [some (.int d),some (.int (lpf d.toNat))]=.ok (.lst ((bA d).map λ x=>D.bl (decide 2#12))) true:=by
  unfold c_Q0C_1 eComp;have hl:=fE h;have hle:(bA d).length<=Dv.mx:=by unfold Dv.mx;omega
  have hg:=jD (elt:=(eCm .eq (eOp .mod (eVar 0) (eVar 1)) (eInt 0))) (free:=[some (.int (lpf d.toNat))]) (g:=λ x=>D.bl (decide 2#12)) (xs:=bA d) (λ x hx=>by
   simp only[eCm,eOp,eVar,eInt,R.bind,RL.bind,Out.bind,ah,C8,Dc,cM,bz (show (0:Int)<(lpf d.toNat:Int) by omega)])
  simp only[iSeq,eVar,eInt,lNil,lCons,eCall,Dv.pick,eSlice,ePart,R.bind,RL.bind,Dv.R.bindL,Dv.RL.bindL,Out.bind,ah,C9,Dj,C8,Dc,Dw,DN,Dt,bp,Di,bU (show 1<=d by omega) h,Dv.sliceD,oU,if_pos hle,hg]
 have hall:∀ f,Dv.allD (.lst ((bA d).map λ x=>D.bl (decide 2#12))) f=.ok (.bl (kb d.toNat)) true:=λ f=>by
  unfold Dv.allD;simp only[qk,List.all_map];rw[<- t3];rfl
 simp only[F_Q0C,b_Q0C,b_Q0C_t1,Dv.fn,sCons,sSet,bP,sRet,eB1,eVar,lNil,lCons,eCall,Dv.all,R.bind,RL.bind,Dv.R.bindL,Dv.RL.bindL,Out.bind,bq,ax,ah,C9,Dj,Dd,Dp,List.replicate,Dm,Do,C8,Dr,Dq,Dt,Nat.reduceAdd,Nat.reduceSub,iF h2 h,hc,hall]
def iO {n:Int}(h1:1<=n)(h:n<=60):F_Q0Z [.int n]=.ok (L (ppI n)) true:=by
 have hc:c_Q0Z_1 [some (.int n)]=.ok (L (ppI n)) true:=by
  have:=dB (elt:=eVar 0) (cond:=(eCall F_Q0C 0#17)) (is:=[]) (it:=(iSeq 0#56)) (ρ:=[some (.int n)]) (c:=λ d=>kb d.toNat) (g:=λ d=>d) (xs:=bA n) (f:=true)
   (by simp only[iSeq,eVar,eInt,lNil,lCons,eCall,eSlice,ePart,R.bind,RL.bind,Dv.R.bindL,Dv.RL.bindL,Out.bind,ah,C8,DN,Dt,bp,bU h1 h,Dv.sliceD,oU]) (by have:=fE h;omega) (λ d hd=>by
    have hd:=(gO h1).mp hd;simp only[eVar,lNil,lCons,eCall,Dv.pick,R.bind,RL.bind,Dv.R.bindL,Dv.RL.bindL,Out.bind,ah,Dj,C8,Dt,l4 (show 2<=d by omega) (show d<=60 by omega)]) (λ d hd _=>by simp only[eVar,Dv.pick,ah,Dj,C8])
  simp only[Fz] at this;exact this
 have hw:F_Q05 [.int n]=.ok .non true:=by rw[bX,if_pos ⟨h1,h⟩]
 simp only[F_Q0Z,b_Q0Z,b_Q0Z_t1,Dv.fn,sCons,sRet,sExpr,eVar,lNil,lCons,eCall,Dv.all,R.bind,RL.bind,Dv.R.bindL,Dv.RL.bindL,Out.bind,ax,ah,C9,Dj,Dd,Dp,List.replicate,Dm,Do,C8,Dt,Nat.reduceAdd,Nat.reduceSub,hw,hc]
def j8 {n:Int}{xs:List Int}(n2:n<=60)(h:Beat n xs):F_Q0X [.int n,L xs]=.ok (L ((ppI n).filter λ d=>hasB xs d)) true:=by
 have n1:=h.pos;have hc:c_Q0X_1 [some (.int n),some (L xs),some 1#32]=.ok (L ((ppI n).filter λ d=>hasB xs d)) true:=by
  have:=dB (elt:=eVar 0) (cond:=(eCm .isin (eVar 0) (eVar 1))) (is:=[2]) (it:=(iSeq (eCall F_Q0Z 0#17))) (ρ:=[some (.int n),some (L xs),some 1#32]) (c:=λ d=>hasB xs d) (g:=λ d=>d) (xs:=ppI n) (f:=true)
   (by simp only[iSeq,eVar,lNil,lCons,eCall,R.bind,RL.bind,Dv.R.bindL,Dv.RL.bindL,Out.bind,ah,C8,Dt,iO n1 n2]) (by have:=Ed (λ d:Int=>kb d.toNat) (bA n);have:=fE n2;unfold ppI;omega) (λ d hd=>by
    have hd1:d∈bA n:=(List.mem_filter.mp hd).1;simp only[eCm,eVar,Dv.pick,R.bind,RL.bind,Out.bind,ah,ar,C9,Dj,C8,Dc,Dw,CF,zl hd1]) (λ d hd _=>by simp only[eVar,Dv.pick,ah,C9,Dj,C8,Dc,Dw])
  simp only[Fz] at this;exact this
 simp only[F_Q0X,b_Q0X,b_Q0X_t1,Dv.fn,sCons,sSet,eK,sRet,eVar,lNil,lCons,eCall,Dv.all,R.bind,RL.bind,Dv.R.bindL,Dv.RL.bindL,Out.bind,bq,ax,cI,ah,ar,C9,Dj,Dd,Dp,List.replicate,Dm,Do,C8,Dc,Dr,Dq,Dt,DC,Nat.reduceAdd,Nat.reduceSub,Br n2 h,hc]
def jm {n:Int}{A:D}:∀ (ds:List Int) (x:Int) (z:Sl),(∀ d∈ds,2<=d/\d<=60) ->
  ∃ z',forGo 3 b_Q08_l1 (ds.map .int) [.sh (.int n),.sh A,.sh (.int x),z]=.nx [.sh (.int n),.sh A,.sh (.int (x*((kG (ds.map λ d=>lpf d.toNat):Nat):Int))),z']
 |[],x,z,_=>⟨z,by simp[kG,forGo]⟩
 |d::r,x,z,h=>by
  obtain⟨d1,d2⟩:=h d (Dh ..);have lr:=xb d1 d2;obtain⟨z',e⟩:=jm (n:=n) (A:=A) r (x*lpf d.toNat) (.sh (.int d)) (λ y hy=>h y 1#13);refine⟨z',?_⟩;rw[C9,br (st':=[.sh (.int n),.sh A,.sh (.int (x*lpf d.toNat)),.sh (.int d)]),e]
  ·rw[C9,kG,E6,Int.mul_assoc]
  ·simp only[b_Q08_l1,eVar,lNil,lCons,eCall,Dv.all,R.bind,RL.bind,Dv.R.bindL,Dv.RL.bindL,Out.bind,ax,sAug,ah,C9,Dj,C8,Dc,Dr,Dq,Dt,iF d1 d2,dZ (gB (i:=x) (j:=(lpf d.toNat:Int)) ⋯ ⋯)]
open Bt (T w5 zL hits Fill aI Beat tally oO gA zf eS)
def frB (n:Int)(A:List Int):Bool:=decide (((kG (((ppI n).filter λ d=>hasB A d).map λ d=>lpf d.toNat):Nat):Int)=(A.length:Int))
def j3 {n d:Int}(n1:1<=n)(h:d∈ppI n):2<=d/\d<=n/\n%d=0/\kb d.toNat=true:=by
 have h1:=(gO n1).mp (List.mem_filter.mp h).1;have h2:=(List.mem_filter.mp h).2;exact⟨⋯,⋯,h1.2.2,h2⟩
def fS {n:Int}{A:List Int}(n2:n<=60)(h:Beat n A):F_Q08 [.int n,L A]=.ok (.bl (frB n A)) true:=by
 have n1:=h.pos;obtain⟨z,e⟩:=jm (n:=n) (A:=L A) ((ppI n).filter λ d=>hasB A d) 1 .no (λ d hd=>by
  have h1:=j3 n1 (List.mem_filter.mp hd).1;omega)
 rw[Int.one_mul] at e;have hq:decide (((kG (((ppI n).filter λ d=>hasB A d).map λ d=>lpf d.toNat):Nat):Int)=(A.length:Int))=frB n A:=rfl;simp only[F_Q08,b_Q08,b_Q08_t2,b_Q08_t1,Dv.fn,sCons,sSet,bP,Dv.give,Dv.open_,be,bw,aM,sRet,sFor,iSeq,eB1,Dv.lenD,eCm,eVar,eInt,lNil,lCons,eCall,Dv.all,R.bind,RL.bind,Dv.R.bindL,Dv.RL.bindL,Out.bind,ax,ah,ar,C9,Dj,Dd,Dp,List.replicate,Dm,Do,C8,Dc,Dr,Dq,DA,DH,Dw,Dt,DC,Nat.reduceAdd,Nat.reduceSub,cM,Di,j8 n2 h,e,hq]
open Dv (D R RL EE EL EI RI Sl Out SS St Wy An Cs Ws WR Wk)
open Bt Wm
section
variable {n:Int}{A:List Int}
def rm (h:Beat n A){S:List Int}{d:Nat}{m:Int}
  (ih:∀ (s:Int) (w:Ws) (pre:List Cs) (c:Cs) (f:Nat),s∈kids n A S m->w.wait=pre++[c]->c.laid=(S++[s]).map (wy n A)->w.wys=bW n A->Valid w->w.gone+cas n A d (S++[s])<=2000->w.rows.length<=w.gone->pre.length+d*A.length<=50000 ->
   (dfs n A d (S++[s])=[]/\∃ w',Dv.firstGo kW (f+cas n A d (S++[s])) w=Dv.firstGo kW f w'/\w'.wait=pre/\w'.wys=bW n A/\Valid w'/\w'.gone=w.gone+cas n A d (S++[s])/\w'.rows.length<=w'.gone) \/
   ∃ B RR w',dfs n A d (S++[s])=B::RR/\Dv.firstGo kW (f+cas n A d (S++[s])) w=.full w' (L B) true):
  ∀ (ss:List Int) (cs:List Cs) (w:Ws) (pre:List Cs) (f:Nat),(∀ s∈ss,s∈kids n A S m)->cs.map (·.laid)=ss.map (λ s=>(S++[s]).map (wy n A))->w.wait=pre++cs.reverse->w.wys=bW n A->Valid w->w.gone+(ss.map λ s=>cas n A d (S++[s])).sum<=2000->w.rows.length<=w.gone ->
   pre.length+ss.length+d*A.length<=50000 ->
   ((ss.flatMap λ s=>dfs n A d (S++[s]))=[]/\∃ w',Dv.firstGo kW 0#73 w=Dv.firstGo kW f w'/\w'.wait=pre/\w'.wys=bW n A/\Valid w'/\w'.gone=w.gone+(ss.map λ s=>cas n A d (S++[s])).sum/\w'.rows.length<=w'.gone) \/
   ∃ B RR w',(ss.flatMap λ s=>dfs n A d (S++[s]))=B::RR/\Dv.firstGo kW 0#73 w=.full w' (L B) true
 |[],cs,w,pre,f,_,hcs,hw,ht,hv,hb,hr,_=>by
  have:cs=[]:=by simpa using hcs
  subst this;exact .inl ⟨rfl,w,by simp,by simpa using hw,ht,hv,by simp,hr⟩
 |s::ss,cs,w,pre,f,hk,hcs,hw,ht,hv,hb,hr,hp=>by
  cases cs with
  |nil=>simp at hcs
  |cons c cs=>
   rw[C9,C9] at hcs;obtain⟨hc1,hc2⟩:=List.cons.inj hcs;have hcl:cs.length=ss.length:=by have:=congrArg List.length hc2;simpa using this
   rw[C9,FL] at hb ⊢;rw[EA];rw[Dd] at hp;have hw':w.wait=(pre++cs.reverse)++[c]:=by rw[hw,Eg,El]
   have ef:f+(cas n A d (S++[s])+(ss.map λ s=>cas n A d (S++[s])).sum)=f+(ss.map λ s=>cas n A d (S++[s])).sum+cas n A d (S++[s]):=⋯
   rcases ih s w (pre++cs.reverse) c 0#73 (hk s (Dh ..)) hw' hc1 ht hv ⋯ hr (by rw[Dz,ED];omega) with ⟨e0,w1,e1,g1,g2,g3,g4,g5⟩|⟨B,RR,w1,e0,e1⟩
   ·rw[e0,Do]
    rcases rm h ih ss cs w1 pre f (λ t ht=>hk t (De _ ht)) hc2 g1 g2 g3 ⋯ g5 ⋯ with ⟨k0,w2,e2,k1,k2,k3,k4,k5⟩|⟨B,RR,w2,k0,e2⟩
    ·exact .inl ⟨k0,w2,by rw[ef,e1,e2],k1,k2,k3,⋯,k5⟩
    ·exact .inr ⟨B,RR,w2,k0,by rw[ef,e1,e2]⟩
   ·exact .inr ⟨B,RR++(ss.flatMap λ s=>dfs n A d (S++[s])),w1,by rw[e0];rfl,by rw[ef,e1]⟩
def vo (h:Beat n A)(n2:n<=60){Q:Nat}(hQ:((A.length*Q:Nat):Int)=n):∀ (d:Nat) (S:List Int) (w:Ws) (pre:List Cs) (c:Cs) (f:Nat),Good n A S->w.wait=pre++[c]->c.laid=S.map (wy n A)->w.wys=bW n A->Valid w->w.gone+cas n A d S<=2000->w.rows.length<=w.gone->Q-S.length<d ->
  pre.length+d*A.length<=50000 ->
  (dfs n A d S=[]/\∃ w',Dv.firstGo kW (f+cas n A d S) w=Dv.firstGo kW f w'/\w'.wait=pre/\w'.wys=bW n A/\Valid w'/\w'.gone=w.gone+cas n A d S/\w'.rows.length<=w'.gone) \/
  ∃ B RR w',dfs n A d S=B::RR/\Dv.firstGo kW (f+cas n A d S) w=.full w' (L B) true
 |0,S,w,pre,c,f,_,_,_,_,_,_,_,hd,_=>⋯
 |d+1,S,w,pre,c,f,g,hw,hc,ht,hv,hb,hr,hd,hp=>by
  have hne:w.wait.isEmpty=false:=by rw[hw];simp
  unfold cas at hb ⊢;unfold dfs;cases hf:fre n 1#71 with
  |nil=>
   rw[hf] at hb;simp only at hb ⊢;refine .inr ⟨Dv.isort S,[],{ w with gone:=w.gone+1,wait:=pre },rfl,?_⟩
   conv=>lhs;unfold Dv.firstGo
   rw[hne,kE h n2 g hw hc ht ⋯ hf];simp only[Dx,if_false,L]
  |cons m r=>
   rw[hf] at hb;simp only at hb ⊢;have hm:m∈fre n 1#71:=by rw[hf];exact Dh ..
   rw[Ea] at hp;obtain⟨w1,cs,e1,g1,g2,g3,g4,g5,g6⟩:=nF h n2 g hw hc ht hv ⋯ hf ⋯ ⋯;have hpos:=h.pos;have hlt:S.length<Q:=by
    by_cases z:S.length<Q
    ·exact z
    ·exfalso
     have z2:A.length*Q<=A.length*S.length:=FN _ ⋯;have hk:=g.len h.nd;have hle:(kz n A S).length<=n.toNat:=by
      have:=(iJ (n:=n) (A:=A) S).length_le_of_subset (l₂:=upto n.toNat) λ p hp=>mem_upto.mpr (by have:=jq (A:=A) (S:=S) (show 0<n by omega) p hp;omega)
      rwa [upto_len] at this
     have:=(gv (n:=n) ⋯ (iJ (n:=n) (A:=A) S) (jq ⋯)).mpr ⋯;rw[this] at hf;cases hf
   have efo:Dv.firstGo kW (f+(1+((kids n A S m).map λ s=>cas n A d (S++[s])).sum)) w=Dv.firstGo kW (f+((kids n A S m).map λ s=>cas n A d (S++[s])).sum) w1:=by
    rw[show f+(1+((kids n A S m).map λ s=>cas n A d (S++[s])).sum)=f+((kids n A S m).map λ s=>cas n A d (S++[s])).sum+1 by omega]
    conv=>lhs;unfold Dv.firstGo
    rw[hne,e1];simp only[Dx,if_false]
   rw[efo]
   rcases rm h (S:=S) (d:=d) (m:=m) (λ s w pre c f hs hw hc ht hv hb hr hp=>vo h n2 hQ d (S++[s]) w pre c f (g.kid h hm hs).1 hw hc ht hv hb hr (by rw[Dz,D5];omega) hp)
    (kids n A S m) cs w1 pre f (λ s hs=>hs) g2 g1 g3 g6 ⋯ ⋯ (by have:=gH (n:=n) (A:=A) S m;omega) with ⟨k0,w2,e2,k1,k2,k3,k4,k5⟩|k
   ·exact .inl ⟨k0,w2,e2,k1,k2,k3,⋯,k5⟩
   ·exact .inr k
def u9 (h:Beat n A)(n2:n<=60){Q:Nat}(hQ:((A.length*Q:Nat):Int)=n)(hb:cas n A Q [0]<=2000):
  (dfs n A Q [0]=[]/\∃ w,Dv.firstGo kW 2002 1#85=.row w)\/∃ B RR w,dfs n A Q [0]=B::RR/\Dv.firstGo kW 2002 1#85=.full w (L B) true:=by
 have hp:=h.pos;have hQ1:1<=Q:=by
  cases Q with
  |zero=>simp at hQ;omega
  |succ q=>omega
 have hl:=h.len;have key:=vo h n2 hQ Q [0] 1#85 [] ⟨[wy n A 0],0,0⟩ (2002-cas n A Q [0]) (ke h) rfl rfl rfl (λ c hc=>by
  have:c=⟨[wy n A 0],0,0⟩:=by simpa[Dv.w0] using hc
  subst this;simp[Dv.w0]) (by simpa[Dv.w0] using hb) (by simp[Dv.w0]) 0#31 (by
   have hA:=h.len1;have:Q*A.length=A.length*Q:=EN ..;simp;omega)
 rw[show 2002-cas n A Q [0]+cas n A Q [0]=2002 by omega] at key
 rcases key with ⟨e0,w',e,k1,_⟩|k
 ·refine .inl ⟨e0,w',?_⟩
  rw[e,show 2002-cas n A Q [0]=(2001-cas n A Q [0])+1 by omega];unfold Dv.firstGo;rw[k1];simp
 ·exact .inr k
def sT (h:Beat n A)(n2:n<=60){Q:Nat}(hQ:((A.length*Q:Nat):Int)=n)(hb:cas n A Q [0]<=2000)(hf:frB n A=true):
  (dfs n A Q [0]=[]/\∃ w f,F_Q10 [.int n,L A]=.ok (.tup [.str Dv.barC,Dv.rowsD w]) f)\/∃ B RR f,dfs n A Q [0]=B::RR/\F_Q10 [.int n,L A]=.ok (.tup [.str Dv.staC,L B]) f:=by
 have hz:n%(A.length:Int)=0:=by
  rw[<- hQ,E6];exact FS ..
 have pw:=zx h n2
 rcases u9 h n2 hQ hb with ⟨e0,w,e⟩|⟨B,RR,w,e0,e⟩
 ·refine .inl ⟨e0,w,false,?_⟩
  simp only[F_Q10,b_Q10,b_Q10_t1,b_Q10_t2,Dv.fn,sCons,sNil,sIf,eNot,eVar,lNil,lCons,eCall,Dv.all,R.bind,RL.bind,Dv.R.bindL,Dv.RL.bindL,Out.bind,bq,ax,ah,ar,C9,Dj,Dd,Dp,List.replicate,Dm,Do,C8,Dc,Dt,DC,D3,if_true,Nat.reduceAdd,Nat.reduceSub,decide_true,gg h n2,decide_eq_true hz,fS n2 h,hf,sSought,pw,e,decide_true,Nat.reduceLT]
 ·refine .inr ⟨B,RR,false,e0,?_⟩
  simp only[F_Q10,b_Q10,b_Q10_t1,b_Q10_t2,Dv.fn,sCons,sNil,sIf,eNot,eVar,lNil,lCons,eCall,Dv.all,R.bind,RL.bind,Dv.R.bindL,Dv.RL.bindL,Out.bind,bq,ax,ah,ar,C9,Dj,Dd,Dp,List.replicate,Dm,Do,C8,Dc,Dt,DC,D3,if_true,Nat.reduceAdd,Nat.reduceSub,decide_true,gg h n2,decide_eq_true hz,fS n2 h,hf,sSought,pw,e,decide_true,Nat.reduceLT,L]
end
open Dv (D R)
def evq (A:List Int)(q:Nat):Bool:=(upto (q/lpf q)).all (eqB A (lpf q) (q/lpf q))
def Af:((List.range 61).all λ q=>!kb q || (fN (lpf q)&&(List.range 6).any λ a=>decide (lpf q ^ (a+1)=q)&&decide (q/lpf q=lpf q ^ a)))=true:=by decide +kernel
def Ay {n:Int}{A:List Int}(n2:n<=60)(h:Beat n A){d:Int}(hd:d∈ppI n):hasB A d=evq A d.toNat:=by
 obtain⟨h1,h2,_,h3⟩:=j3 h.pos hd;have t:=List.all_eq_true.mp Af d.toNat 0#94;rw[h3,D3,Em,Dl] at t;obtain⟨a,ha,e⟩:=List.any_eq_true.mp t.2;rw[Dl,decide_eq_true_eq,decide_eq_true_eq] at e;have k:=Ax (a:=a) t.1 (by rw[e.1];omega) (qG h);rw[e.1] at k;have ed:((d.toNat:Nat):Int)=d:=⋯
 rw[ed] at k;unfold evq;rw[e.2,Ee,k,Bw]
section
variable {n:Int}{xs:List Int}{c:String}
def rk (h:F_Q03 [.int n,L xs]=.exc c):F_Q06 [.int n,L xs]=.exc c:=by
 simp only[F_Q06,b_Q06,b_Q06_t1,Dv.fn,sCons,sExpr,eVar,lNil,lCons,eCall,Dv.all,R.bind,RL.bind,Dv.R.bindL,Dv.RL.bindL,Out.bind,ax,ah,ar,C9,Dj,Dd,Dp,List.replicate,Dm,Do,C8,Dc,Dt,DC,Nat.reduceAdd,Nat.reduceSub,h]
def rj (h:F_Q03 [.int n,L xs]=.exc c):F_Q00 [.int n,L xs]=.exc c:=by
 simp only[F_Q00,b_Q00,b_Q00_t1,Dv.fn,sCons,sIf,eNot,eVar,lNil,lCons,eCall,Dv.all,R.bind,RL.bind,Dv.R.bindL,Dv.RL.bindL,Out.bind,ax,ah,ar,C9,Dj,Dd,Dp,List.replicate,Dm,Do,C8,Dc,Dt,DC,Nat.reduceAdd,Nat.reduceSub,rk h]
def tQ (h:F_Q03 [.int n,L xs]=.exc c):F_Q0S [.int n,L xs]=.exc c:=by
 simp only[F_Q0S,b_Q0S,b_Q0S_t1,c_Q0S_1,eComp,Dv.fn,sCons,sSetG,Dv.give,Dv.open_,be,bw,aM,iSeq,eVar,lNil,lCons,eCall,R.bind,RL.bind,Dv.R.bindL,Dv.RL.bindL,Out.bind,ah,ar,C9,Dj,Dd,Dp,List.replicate,Dm,Do,C8,Dc,Dr,Dq,DA,DH,Dw,Dt,DC,Nat.reduceAdd,Nat.reduceSub,rj h]
def pK (h:F_Q03 [.int n,L xs]=.exc c):F_Q10 [.int n,L xs]=.exc c:=by
 simp only[F_Q10,b_Q10,b_Q10_t1,b_Q10_t2,Dv.fn,sCons,sIf,eNot,eVar,lNil,lCons,eCall,Dv.all,R.bind,RL.bind,Dv.R.bindL,Dv.RL.bindL,Out.bind,bq,ax,ah,ar,C9,Dj,Dd,Dp,List.replicate,Dm,Do,C8,Dc,Dt,DC,Nat.reduceAdd,Nat.reduceSub,rk h]
def ki {k:Int}(hk:k=0\/k=1\/k=2)(h:F_Q03 [.int n,L xs]=.exc c):F_Q0F [.int k,.int n,L xs]=.exc c:=by
 rcases hk with rfl|rfl|rfl <;>simp only[F_Q0F,b_Q0F,b_Q0F_t1,b_Q0F_t2,Dv.fn,sCons,sNil,sIf,sRet,eCm,eVar,eInt,lNil,lCons,eCall,Dv.all,R.bind,RL.bind,Dv.R.bindL,Dv.RL.bindL,Out.bind,ax,ah,ar,C9,Dj,Dd,Dp,List.replicate,Dm,Do,C8,Dc,Dt,DC,Nat.reduceAdd,Nat.reduceSub,decide_true,decide_false,cM,Int.reduceEq,rj h,tQ h,pK h]
end
def uf:F_Q0K [.exn "NoWheel"]=.ok (.lst [.bl false,.bl true,.bl false,.bl false,.bl false,.bl true]) true:=by rfl
def tX:F_Q0K [.exn "NoBeat"]=.ok (.lst [.bl false,.bl false,.bl true,.bl false,.bl false,.bl true]) true:=by rfl
def va {way n b:D}{c:String}{ds:List D}(h:F_Q0F [way,n,b]=.exc c)(hk:F_Q0K [.exn c]=.ok 0#95 true)(hf:Dv.flatL ds=true)
  (hc:(["WheelError","NoWheel","NoBeat","NoPart","NoRule","NoWindow","NoPair","NoText","NoName","NoNumber","NoDeed","TooMany"].contains c&&Dv.subX c "WheelError")=true):F_Q0O [way,n,b]=.ok 0#95 true:=by
 have kp:keepD 0#95 true=some 2#11:=by simp[keepD,hf]
 simp only[F_Q0O,b_Q0O,b_Q0O_t1,b_Q0O_t2,Dv.fn,sCons,sSet,keep_nil,sRetO,sExpr,eVar,eLst,lNil,lCons,eCall,Dv.all,R.bind,RL.bind,Dv.R.bindL,Dv.RL.bindL,Out.bind,bq,ax,cI,C9,Dj,Dd,Dp,List.replicate,Dm,Do,C8,Dc,Dr,Dq,Dt,if_true,Nat.reduceAdd,Nat.reduceSub,h,sTryAs,hc,hk,kp,Dv.unb,hf]
def mO {k n:Int}{xs:List Int}(hk:k=0\/k=1\/k=2)(h:F_Q03 [.int n,L xs]=.exc "NoWheel"):F_Q0O [.int k,.int n,L xs]=.ok (.lst [.bl false,.bl true,.bl false,.bl false,.bl false,.bl true]) true:=va (ki hk h) uf rfl 0#2
def vE {k n:Int}{xs:List Int}(hk:k=0\/k=1\/k=2)(h:F_Q03 [.int n,L xs]=.exc "NoBeat"):F_Q0O [.int k,.int n,L xs]=.ok (.lst [.bl false,.bl false,.bl true,.bl false,.bl false,.bl true]) true:=va (ki hk h) tX rfl 0#2
def xK:cmD .ne (.lst [.bl false,.bl true,.bl false,.bl false,.bl false,.bl true]) (.lst [.bl false,.bl true,.bl false,.bl false,.bl false,.bl true])=.ok 1#4 true:=rfl
def ve:cmD .ne (.lst [.bl false,.bl false,.bl true,.bl false,.bl false,.bl true]) (.lst [.bl false,.bl false,.bl true,.bl false,.bl false,.bl true])=.ok 1#4 true:=rfl
def vU {n w v:Int}{zs:List Int}{S:Sl}(n1:1<=n)(n2:n<=60)(hz:¬ Beat n zs)(hw:¬ (1<=w/\w<=60)):∀ (ks:List Int) (z:Sl),(∀ k∈ks,k=0\/k=1\/k=2) ->
  ∃ z',forGo 5 b_Q0M_l1 (ks.map .int) [S,.sh (.int n),.sh (.int v),.sh (.int w),.sh (L zs),z]=.nx [S,.sh (.int n),.sh (.int v),.sh (.int w),.sh (L zs),z']
 |[],z,_=>⟨z,rfl⟩
 |k::r,z,hk=>by
  obtain⟨z',e⟩:=vU (S:=S) (v:=v) n1 n2 hz hw r (.sh (.int k)) λ x hx=>hk x 2#44
  refine⟨z',?_⟩;have kk:=hk k (Dh ..);have w1:=mO (xs:=[0]) kk (show F_Q03 [.int w,L [0]]=.exc "NoWheel" by rw[dq,if_neg hw]);have w2:=mO (xs:=zs) kk (show F_Q03 [.int w,L zs]=.exc "NoWheel" by rw[dq,if_neg hw]);have b2:=vE kk (j6 n1 n2 hz);have e0:L [0]=.lst [.int 0]:=rfl;rw[e0] at w1;rw[C9,br (st':=[S,.sh (.int n),.sh (.int v),.sh (.int w),.sh (L zs),.sh (.int k)]),e];have hm:=cb (n:=2) (a:=v/64) ⋯
  rcases (show v/64%2=0\/v/64%2=1 by omega) with e|e
  ·have a0:Dv.at? [.lst [.int 0],L zs] 0=some (.lst [.int 0]):=rfl
   simp only[b_Q0M_l1,sCons,sNil,sIf,eIx,Dv.ixD,eCm,eOp,eVar,eInt,eBl,eLst,lNil,lCons,eCall,Dv.all,R.bind,RL.bind,Dv.R.bindL,Dv.RL.bindL,Out.bind,ax,ah,ar,C9,Dj,C8,Dc,Dr,Dq,Dt,En,DC,gC (j:=64) 0#2 0#2,bz (j:=2) 0#2,e,a0,w1,b2,xK,ve]
  ·have a0:Dv.at? [.lst [.int 0],L zs] 1=some (L zs):=rfl
   simp only[b_Q0M_l1,sCons,sNil,sIf,eIx,Dv.ixD,eCm,eOp,eVar,eInt,eBl,eLst,lNil,lCons,eCall,Dv.all,R.bind,RL.bind,Dv.R.bindL,Dv.RL.bindL,Out.bind,ax,ah,ar,C9,Dj,C8,Dc,Dr,Dq,Dt,En,DC,gC (j:=64) 0#2 0#2,bz (j:=2) 0#2,e,a0,w2,b2,xK,ve]
def uR {s:List Int}(n:Int)(n1:1<=n)(n2:n<=60):F_Q0M [L s,.int n]=.ok 0#96 true:=by
 have c1:=qU (s:=s) (k:=1) ⋯ ⋯;have hv:=cb (n:=2147483647) (a:=cell s 1*48271) ⋯;have hmul:opD .mul (.int (cell s 1)) (.int 48271)=.ok (.int (cell s 1*48271)) true:=dZ (gB 0#2 0#2);generalize hV:cell s 1*48271%2147483647=v at *;have hm4:=cb (n:=4) (a:=v) ⋯;have hm6:=cb (n:=6) (a:=v/4) ⋯;obtain⟨w,aw,hw⟩:∃ w,Dv.at? [.int 0,.int 61,.int (61+v),.int (-1-v)] (v%4)=some (.int w)/\¬ (1<=w/\w<=60):=by
  rcases (show v%4=0\/v%4=1\/v%4=2\/v%4=3 by omega) with e|e|e|e <;>rw[e]
  ·exact⟨0,rfl,⋯⟩
  ·exact⟨61,rfl,⋯⟩
  ·exact⟨61+v,rfl,⋯⟩
  ·exact⟨-1-v,rfl,⋯⟩
 obtain⟨zs,az,hz⟩:∃ zs,Dv.at? [.lst [],.lst [.int 0,.int n],.lst [.int (n/2),.int (n/2-1)],.lst [.int (-1),.int 0],.lst [.int 0,.int 0],.lst [.int (n+v)]] (v/4%6)=some (L zs)/\¬ Beat n zs:=by
  rcases (show v/4%6=0\/v/4%6=1\/v/4%6=2\/v/4%6=3\/v/4%6=4\/v/4%6=5 by omega) with e|e|e|e|e|e <;>rw[e]
  ·exact⟨[],rfl,λ z=>z.ne rfl⟩
  ·exact⟨[0,n],rfl,λ z=>by have:=z.rg n 0#5;omega⟩
  ·exact⟨[n/2,n/2-1],rfl,λ z=>by have:=(List.pairwise_cons.mp z.up).1 (n/2-1) 0#5;omega⟩
  ·exact⟨[-1,0],rfl,λ z=>by have:=z.rg (-1) 0#5;omega⟩
  ·exact⟨[0,0],rfl,λ z=>by have:=(List.pairwise_cons.mp z.up).1 0 0#5;omega⟩
  ·exact⟨[n+v],rfl,λ z=>by have:=z.rg (n+v) 0#5;omega⟩
 obtain⟨z',el⟩:=vU (S:=.sh (L s)) (v:=v) n1 n2 hz hw [0,1,2] .no 0#5;have er:Dv.rangeL 0 (Int.toNat 3)=[(0:Int),1,2].map .int:=rfl;simp only[C9,Dj] at el er;simp only[F_Q0M,b_Q0M,b_Q0M_t1,b_Q0M_t2,b_Q0M_t3,b_Q0M_t4,Dv.fn,sCons,sSet,sSetG,bP,Dv.give,Dv.open_,be,bw,aM,sRet,sFor,iRange,eIx,Dv.ixD,eNeg,eOp,eVar,eInt,eBl,eLst,lNil,lCons,eCall,Dv.all,R.bind,RL.bind,Dv.R.bindL,Dv.RL.bindL,Out.bind,bq,ax,ah,ar,C9,Dj,Dd,Dp,List.replicate,Dm,Do,C8,Dc,Dr,Dq,DA,DH,Dw,DN,Dt,En,if_true,Nat.reduceAdd,Nat.reduceSub,cZ,eC,c1,hmul,bz (j:=2147483647) 0#2,hV,bz (j:=4) 0#2,bz (j:=6) 0#2,gC (j:=4) 0#2 0#2,gC (j:=2) 0#2 0#2,aw,az,js (n:=3) ⋯ ⋯,er,el]
def tP {n:Int}{A:List Int}{X:List (List Int)}(n2:n<=60)(e:F_Q00 [.int n,L A]=.ok (LL X) true)(hX:∀ r∈X,Beat n r)(hl:X.length<2):F_Q0S [.int n,L A]=.ok (LL (gb n X)) true:=by
 have e1:c_Q0S_1 [some (.int n),some (L A),none]=.ok (.lst (X.map λ r=>.tup 2#0)) true:=by
  unfold c_Q0S_1 eComp;have:iSeq (eCall F_Q00 0#11) [some (.int n),some (L A),none]=.ok (X.map L) true:=by
   simp only[iSeq,eVar,lNil,lCons,eCall,R.bind,RL.bind,Dv.R.bindL,Dv.RL.bindL,Out.bind,ah,ar,C8,Dc,Dt,DC,e,LL]
  rw[this];simp only;rw[if_pos (by rw[Di];unfold Dv.mx;omega)];rw[ja (g:=λ r=>.tup 2#0) λ r hr=>?_];simp only[eB1,eVar,lNil,lCons,eCall,Dv.pick,R.bind,RL.bind,Dv.R.bindL,Dv.RL.bindL,Out.bind,ah,ar,C9,Dj,C8,Dc,Dw,DN,Dt,DC,bp,ka n2 (hX r hr),Dv.tupleD];rfl
 have e2:c_Q0S_2 [some (.int n),some (L A),some (.lst (X.map λ r=>.tup 2#0))]=.ok (LL (gb n X)) true:=by
  unfold c_Q0S_2 eComp;have ht:Dv.tupsOf (X.map λ r=>.tup 2#0)=some (X.map (fst n)):=by
   have:=rP (X.map (fst n)) (λ r hr=>by obtain⟨x,hx,rfl⟩:=List.mem_map.mp hr;exact Bu (hX x hx));rw[DV] at this;exact this
  have:iSeq (eB1 Dv.sortSet1D (eVar 2)) [some (.int n),some (L A),some (.lst (X.map λ r=>.tup 2#0))]=.ok ((gb n X).map λ r=>.tup (r.map .int)) false:=by
   simp only[iSeq,eB1,eVar,R.bind,RL.bind,Out.bind,ar,C8,Dc,Di,Dv.sortSet1D,ht];rw[if_pos hl];rfl
  rw[this];simp only;rw[if_pos (by have:=qf n X;rw[Di];unfold Dv.mx;omega)];rw[lp (g:=L) λ r hr=>?_]
  ·rfl
  ·simp only[eB1,Dv.listD,eVar,Dv.pick,R.bind,RL.bind,Out.bind,u2,Dj,C8,DN,bp,Dv.listD]
   all_goals rfl
 simp only[F_Q0S,b_Q0S,b_Q0S_t1,Dv.fn,sCons,sSetG,Dv.give,Dv.open_,be,bw,aM,sRet,Dv.all,R.bind,RL.bind,Out.bind,ax,C9,Dj,Dd,Dp,List.replicate,Dm,Do,C8,Dc,Dr,Dq,DA,DH,Dw,Nat.reduceAdd,Nat.reduceSub,e1,e2]
def nv {n b:Int}(h:Beat n [b]):Fill n [b] (upto n.toNat):=by
 have hp:=h.pos;refine⟨h,⟨?_,sI _,λ x hx=>?_⟩,?_,λ x hx y hy s hs t ht e=>?_⟩
 ·intro e;have:=congrArg List.length e;rw[upto_len] at this;simp at this;omega
 ·have:=mem_upto.mp hx;omega
 ·rw[upto_len];simp;omega
 ·have hx:=List.mem_singleton.mp hx
  have hy:=List.mem_singleton.mp hy;rw[hx,hy] at e ⊢;have h1:=mem_upto.mp hs;have h2:=mem_upto.mp ht;refine⟨rfl,?_⟩;rw[Gv b s,Gv b t] at e;exact gG (b:=b) ⋯ ⋯ ⋯ e
def qT:∀ k,bnd 1 k=k+1
 |0=>rfl
 |k+1=>by unfold bnd;rw[qT k];omega
def iY {n b:Int}(h:Beat n [b]):dfs n [b] n.toNat [0]=[upto n.toNat]:=by
 have hp:=h.pos;have f:=nv h;have h1:=r6 f n.toNat [0] 0#5 (λ s hs=>by simp at hs;subst hs;exact mem_upto.mpr ⋯) 0#5 (by rw[upto_len];simp;omega);have h2:=sr h n.toNat [0];simp only[Dd,Dp,Et,Nat.one_pow] at h2
 match hd:dfs n [b] n.toNat [0] with
 |[]=>rw[hd] at h1;cases h1
 |[x]=>rw[hd] at h1;rw[List.mem_singleton.mp h1]
 |x::y::r=>rw[hd] at h2;simp at h2
def uK {n c:Int}(hn:0<n):turn n (upto n.toNat) c=upto n.toNat:=by
 have hb:Beat n 0#32:=⟨by intro e;have:=congrArg List.length e;rw[upto_len] at this;simp at this;omega,sI _,λ x hx=>by have:=mem_upto.mp hx;omega⟩;have h1:=ip (c:=c) hb;have hl:(turn n 0#32 c).length=n.toNat:=by unfold turn;rw[du,Di,upto_len]
 have pm:(turn n 0#32 c).Perm 0#32:=(Ek h1.nd hb.nd).mpr λ x=>⟨λ hx=>by have:=h1.rg x hx;exact mem_upto.mpr ⋯,λ hx=>by
  have hx:=mem_upto.mp hx;unfold turn;refine(aI _).mem_iff.mpr (List.mem_map.mpr ⟨(x-c)%n,mem_upto.mpr ?_,?_⟩)
  ·have:=cb (n:=n) (a:=x-c) ⋯;omega
  ·rw[Int.emod_add_emod,Int.sub_add_cancel,EU ⋯ ⋯]⟩
 have e1:=fT pm;rw[jG (h1.up.imp λ h=>FY h),jG (hb.up.imp λ h=>FY h)] at e1;exact e1
def wB {n:Int}(hn:0<n):fst n (upto n.toNat)=upto n.toNat:=by
 have h1:=(mJ (nss:=(upto n.toNat).map (turn n 0#32)) (by
  intro e;have:=congrArg List.length e;rw[Di,upto_len] at this;simp at this;omega)).1
 obtain⟨c,_,e⟩:=List.mem_map.mp h1;unfold fst;rw[<- e,uK hn]
def zZ:((List.range 61).all λ q=>!kb q || (List.range 60).all λ (b:Nat)=>!evq [(b:Int)] q)=true:=by decide +kernel
def AS {n b:Int}(n2:n<=60)(h:Beat n [b]):frB n [b]=true:=by
 have hb:=h.rg b 0#5;unfold frB;have:(ppI n).filter (λ d=>hasB [b] d)=[]:=by
  refine List.filter_eq_nil_iff.mpr λ d hd=>?_
  obtain⟨h1,h2,_,h3⟩:=j3 h.pos hd;rw[Ay n2 h hd];have t:=List.all_eq_true.mp zZ d.toNat 0#94;rw[h3,D3,Em] at t;have t:=List.all_eq_true.mp t b.toNat 0#94;have eb:((b.toNat:Nat):Int)=b:=⋯
  rw[eb] at t;simpa using t
 rw[this];rfl
def xW {n b:Int}(n2:n<=60)(h:Beat n [b]):F_Q00 [.int n,L [b]]=.ok 1#12 true/\F_Q0S [.int n,L [b]]=.ok 1#12 true/\∃ f,F_Q10 [.int n,L [b]]=.ok 1#31 f:=by
 have hp:=h.pos;have hQ:(((([b]:List Int).length)*n.toNat:Nat):Int)=n:=by simp;omega
 have hc:=vS h n.toNat [0];simp only[Dd,Dp,Et,qT] at hc;have hb:cas n [b] n.toNat [0]<=2000:=⋯
 have e1:=oi h n2 hQ hb (by rw[iY h];simp);rw[iY h] at e1;have e2:Dv.lsort [upto n.toNat]=[upto n.toNat]:=rfl;rw[e2] at e1;have e3:=tP n2 e1 (λ r hr=>by rw[List.mem_singleton.mp hr];exact(nv h).oth) 0#5;have e4:gb n [upto n.toNat]=[upto n.toNat]:=by
  unfold gb;rw[C9,Dj,wB ⋯];rfl
 rw[e4] at e3;have hf:frB n [b]=true:=AS n2 h;refine⟨e1,e3,?_⟩
 rcases sT h n2 hQ hb hf with ⟨e0,_⟩|⟨B,RR,f,e0,e⟩
 ·rw[iY h] at e0;cases e0
 ·rw[iY h] at e0
  obtain⟨rfl,_⟩:=List.cons.inj e0;exact⟨f,e⟩
def nQ:∀ (xs:List Int) (free:Dv.Env),aZ (eVar 0) (eB1 Dv.isBoolD (eVar 0)) free 1#8=.ok [] true
 |[],_=>rfl
 |x::r,free=>by
  rw[C9];unfold aZ;have:eB1 Dv.isBoolD (eVar 0) (some (.int x)::free)=.ok 1#4 true:=rfl;rw[this];exact nQ r free
def Ap (X:List Int):cmD .ne (LL [X]) (.lst [L X])=.ok 1#4 true:=by
 unfold LL;have h1:Dv.depthD (.lst [L X])<=9:=by unfold Dv.depthD;unfold Dv.depthL;rw[lP];unfold Dv.depthL;omega
 have h2:=zW X X;simp only[C9,Dj,Dv.cmD_eq,Dv.cmD_ne,Dv.cmD_lt,Dv.cmD_le,Dv.cmD_gt,Dv.cmD_ge,Dv.cmD_in,Dv.cmD_ni,Dv.cmD_it,Dv.cmD_nt,decide_eq_true h1,Fp,if_true];unfold Dv.eqD;unfold Dv.eqDL;rw[h2];simp[Dv.eqDL,Dv.optB]
def AY (X:List Int):cmD .ne (.tup [.str Dv.staC,L X]) (.tup [.str [115,116,97,114,116,115],L X])=.ok 1#4 true:=by
 have h1:∀ x:List Nat,Dv.depthD (.tup [.str x,L X])<=9:=λ x=>by unfold Dv.depthD;unfold Dv.depthL;unfold Dv.depthL;rw[lP];unfold Dv.depthL Dv.depthD;omega
 have h2:=zW X X;simp only[Dv.cmD_eq,Dv.cmD_ne,Dv.cmD_lt,Dv.cmD_le,Dv.cmD_gt,Dv.cmD_ge,Dv.cmD_in,Dv.cmD_ni,Dv.cmD_it,Dv.cmD_nt,decide_eq_true (h1 _),Fp,if_true];unfold Dv.eqD;unfold Dv.eqDL;unfold Dv.eqDL;rw[h2];simp[Dv.eqDL,Dv.optB,Dv.eqD,Dv.staC]
def jv {s:List Int}{n b:Int}(n2:n<=60)(h:Beat n [b])(z2 z4 z5 z6 z7:Sl)(hz:z2=.ow (L [b])\/z2=.sh (L [b])):∃ z5' z6' z7',b_Q0I_l1 [.sh (L s),.sh (.int n),z2,.ow (L 0#32),z4,z5,z6,z7]=.nx [.sh (L s),.sh (.int n),.sh (L [b]),.ow (L 0#32),z4,z5',z6',z7']:=by
 have hp:=h.pos;obtain⟨e1,e2,f3,e3⟩:=xW n2 h;have er:=uR (s:=s) n ⋯ n2;have q1:=Ap 0#32;have q2:=AY 0#32;have hul:(upto n.toNat).length=n.toNat:=upto_len ..;have g1:z2.get=some (L [b]):=by rcases hz with rfl|rfl <;>rfl
 have g2:z2.give=.sh (L [b]):=by rcases hz with rfl|rfl <;>rfl
 have io:Dv.itemsOk [L 0#32]=true:=by unfold L Dv.itemsOk;rw[bp];rfl
 have c1:=wJ (a:=upto n.toNat) (b:=upto n.toNat) ⋯;have c2:=wJ (a:=upto n.toNat++upto n.toNat) (b:=upto n.toNat) 0#31;have hcp:∀ a0 a1 a2 a3 a4,c_Q0I_1 [a0,a1,a2,a3,a4,some 1#12,some 1#12,some 1#31]=.ok 2#62 true:=by
  intro a0 a1 a2 a3 a4;unfold c_Q0I_1 eComp;have i0:∀ g,Dv.ixD 1#12 (.int 0) g=.ok (L 0#32) (g || Dv.scal (L 0#32)):=λ g=>rfl
  have i1:∀ g,Dv.ixD 1#31 (.int 1) g=.ok (L 0#32) (g || Dv.scal (L 0#32)):=λ g=>rfl
  have:iSeq (eOp .add (eOp .add (eIx (eVar 5) (eInt 0)) (eIx (eVar 6) (eInt 0))) (eIx (eVar 7) (eInt 1))) [a0,a1,a2,a3,a4,some 1#12,some 1#12,some 1#31]=.ok ((upto n.toNat++upto n.toNat++upto n.toNat).map .int) true:=by
   simp only[iSeq,eOp,eIx,eVar,eInt,R.bind,C8,Dc,i0,i1,c1,c2,L]
  rw[this];simp only;rw[if_pos (by simp[hul];unfold Dv.mx;omega),nQ]
 have hne:cmD .ne 2#62 2#62=.ok 1#4 true:=rfl;have hk:Dv.junk (.dp 1#12)=some (1,n.toNat):=by
  unfold Dv.junk LL;simp only[C9,Dj,Dv.shapeD,L,Dv.shapeL];rw[bp];simp[hul]
 have hd1:decide (n.toNat<Dv.mx)=true:=decide_eq_true (by unfold Dv.mx;omega);have eLL:LL [upto n.toNat]=.lst [L 0#32]:=rfl;have hx1:decide (1<Dv.mx)=true:=by decide
 simp only[eLL] at hcp;rw[eLL] at e1 e2 q1 hk;refine⟨.jk 1 (n.toNat+1),.ow (.lst [L 0#32,.lst [.int 0]]),.sh 1#31,?_⟩;simp only[b_Q0I_l1,sCons,sSetD,Dv.all,C9,Dj,ax,cI,g1,eCall,lCons,lNil,eVar,R.bind,Dv.R.bindL,RL.bind,Dv.RL.bindL,C8,Dc,e1,Dr,Dq,Out.bind,sSetF,my,e2,Fk,sSetG,Dv.give,DA,DH,Dw,be,g2,Dv.open_,aM,bE,hZ,e3,sIf,eOr,eCm,eLst,eTup,eStr,q2,hcp,hne,sNil,sKill,hk,eInt,ah,decide_true,Nat.reduceLT,hd1,if_true,sAppF,eNot,er,D3,Dt,Fp,io,q1,hx1,Dd,Dp,Et,Dm,Do,Dv.flatL]
def law45_ok {s:List Int}(hs:Sm s):F_Q0I [L s]=.ok 0#96 true:=by
 have c0:=qU (s:=s) (k:=0) ⋯ ⋯;have hm:=cb (n:=60) (a:=cell s 0) ⋯;generalize hn:1+cell s 0%60=n at *;have n1:1<=n:=⋯
 have n2:n<=60:=⋯
 have hb:=cb (n:=n) (a:=cell s 0/60) ⋯;generalize hbb:cell s 0/60%n=b at *;have h:Beat n [b]:=⟨by simp,by simp,λ y hy=>by rw[List.mem_singleton.mp hy];exact hb⟩;have ra:∀ f,Dv.listRangeD (.int n) f=.ok (L 0#32) true:=by
  intro f;have e:Dv.upL 0 n.toNat=upto n.toNat:=by
   have:=kA 0 n.toNat;rw[c9] at this;have inj:∀ {a b:List Int},a.map D.int=b.map D.int->a=b:=λ {a b} h=>by
    have h1:=eJ a;rw[h,eJ b] at h1;exact(Option.some.inj h1).symm
   exact(inj this).symm
  show (if (decide (0<=n)&&decide (n<=100000))=true then R.ok (.lst ((Dv.upL 0 n.toNat).map .int)) true else .bad)=_
  rw[e,if_pos 0#31]
 obtain⟨a5,a6,a7,b1⟩:=jv (s:=s) n2 h (.ow (L [b])) (.sh (.int 0)) .no .no .no 0#76;obtain⟨b5,b6,b7,b2⟩:=jv (s:=s) n2 h (.sh (L [b])) (.sh (.int 1)) a5 a6 a7 (.inr rfl);have el:forGo 4 b_Q0I_l1 [.int 0,.int 1] [.sh (L s),.sh (.int n),.ow (L [b]),.ow (L 0#32),.no,.no,.no,.no]=.nx [.sh (L s),.sh (.int n),.sh (L [b]),.ow (L 0#32),.sh (.int 1),b5,b6,b7]:=by
  rw[br (st':=_) b1,br (st':=_) b2];rfl
 have er:Dv.rangeL 0 (Int.toNat 2)=[.int 0,.int 1]:=rfl;have e1:L [b]=.lst [.int b]:=rfl;have ek:keepD (.lst [.int b]) true=some (.ow (.lst [.int b])):=rfl;have eq:cmD .eq (.lst [.int b]) (.lst [.int b])=.ok 0#96 true:=by
  have:=wo [b] [b];rw[decide_eq_true rfl] at this;exact this
 rw[e1] at el;simp only[F_Q0I,b_Q0I,b_Q0I_t1,b_Q0I_t2,b_Q0I_t3,b_Q0I_t4,Dv.fn,sCons,sSet,bP,eK,Dv.give,sRet,sFor,iRange,eB1,eCm,eOp,eVar,eInt,eLst,lNil,lCons,eCall,Dv.all,R.bind,RL.bind,Dv.R.bindL,Dv.RL.bindL,Out.bind,bq,ax,cI,ah,ar,C9,Dj,Dd,Dp,List.replicate,Dm,Do,C8,Dc,Dr,Dq,DH,Dt,if_true,Nat.reduceAdd,Nat.reduceSub,cZ,c0,bz (j:=60) 0#2,hn,gC (j:=60) 0#2 0#2,bz (j:=n) ⋯,hbb,ek,ra,js (n:=2) ⋯ ⋯,er,el,eq]
end Cw
noncomputable def PySem.W.Fast.tw14019710151724895888:PySem.Program:=PySem.Challenge.pw_canonwheel_k45_cases_refused
theorem PySem.W.Fast.te14019710151724895888:PySem.Challenge.pw_canonwheel_k45_cases_refused=PySem.W.Fast.tw14019710151724895888:=rfl
namespace PySem.W.Fast
def tw17592119192427753911:=()
def tw4987590031249082371:=()
def tw17004476158465547075:=()
def tw5314896816159452773:=()
def tw15225167203246348972:=()
def tw2972880982458817214:=()
def tw18255622697869961943:=()
def tw7089585146214537664:=()
def tw381331245407096783:=()
def tw6664407676985194547:=()
def tw4673073615487697865:=()
def tw48800307049735656:=()
def tw7104998750022449080:=()
def tw13225981925353733783:=()
def tw11593996470380444569:=()
def tw15924308259343079558:=()
def tw16401329409093987301:=()
def tw18324235557892228501:=()
def tw8289755415645691069:=()
def tw14603487464536098578:=()
def tw1570878542985968189:=()
def tw1302799989585955111:=()
def tw15036304763730254545:=()
def tw10224713138341465156:=()
def tw14707942813693393021:=()
def tw17507579225470072864:=()
def tw14693699532363090736:=()
def tw5268493614445238206:=()
def tw5647493968289464091:=()
def tw5453723614384827435:=()
def tw6907496426897217550:=()
def tw2029739666681698896:=()
def tw11087782675345520759:=()
def tw8943024378043280739:=()
def tw10399047451117670229:=()
def tw16111304081575062755:=()
def tw4342923640914507054:=()
def tw16342769639393281518:=()
def tw11150328779182850752:=()
def tw5997264463669574511:=()
def tw626826017985554275:=()
def tw4757438942025598015:=()
def tw15023359582774870174:=()
def tw6259126762857094411:=()
def tw9586626974361000957:=()
def tw4392103189263258586:=()
def tw9775525780674803363:=()
def tw1101322966327240284:=()
def tw18293289317286902100:=()
def tw18030382290994436892:=()
def tw13589880104709796993:=()
def tw11808390018465647075:=()
def tw16122632203284998527:=()
def tw14490179630279466394:=()
def tw5045423571771456737:=()
def tw16457806358713261009:=()
def tw16115332214978313035:=()
def tw1579294991362159312:=()
def tw5800451987631225909:=()
def tw16340109437513820762:=()
def tw14303449327247896952:=()
def tw947382960659309062:=()
def tw1769544544223462408:=()
def tw13859362940307022103:=()
def tw15458912002275097548:=()
def tw15719669840845070811:=()
def tw7249105844503197722:=()
def tw574511668155147135:=()
def tw4539627322847053532:=()
def tw6784672558385978653:=()
def tw5419560529228581543:=()
def tw15781288410175544564:=()
def tw16252844682485082035:=()
def tw9041999640688454225:=()
def tw6891468438687342550:=()
def tw14531215497745432553:=()
def tw5789263679294640542:=()
def tw8596729782172246053:=()
def tw3805814905255264658:=()
def tw6464929813135242693:=()
def tw17655688798088111983:=()
def tw14358280975524103337:=()
def tw11031746574971266035:=()
def tw16237768359884203936:=()
def tw5899133771592058806:=()
def tw9801158199626624102:=()
def tw9241659997125796856:=()
def tw8751559898935151529:=()
def tw2534818420809586464:=()
def tw5241637871995666830:=()
def tw12236498952314016238:=()
def tw6122398637625211105:=()
def tw2519279086179031759:=()
def tw16208054124221259654:=()
def tw6862108525688091935:=()
def tw10243123127116421332:=()
def tw10039648743987269224:=()
def tw14991518993388127278:=()
def tw5842753015633453911:=()
def tw5729540337537136225:=()
def tw9556638923024548449:=()
def tw14645727334638397958:=()
def tw10110864881458302793:=()
def tw4702242032376219297:=()
def tw14340096046901416418:=()
def tw887685750231552372:=()
def tw8128979970444063081:=()
def tw17888957211562623498:=()
def tw9601108963621821390:=()
def tw1313202799088785091:=()
def tw3594131864963440982:=()
def tw3835929528120857766:=()
def tw16204350608500786116:=()
def tw9239267724983943389:=()
def tw11760221162379925009:=()
def tw8542567987172188694:=()
def tw15236887113710617183:=()
def tw5428064586279628950:=()
def tw15663747481942269039:=()
def tw10405910852959452080:=()
def tw16272169154436243110:=()
def tw11642677571120066309:=()
def tw16404479819067711197:=()
def tw3245188811217423635:=()
def tw951032993563196159:=()
def tw16554279840121287468:=()
def tw6978469824176042027:=()
def tw674229870553951248:=()
def tw6654510315441092604:=()
def tw17572249491605602676:=()
def tw15276234483513978713:=()
def tw10007017646400299270:=()
def tw8917220891765573915:=()
def tw9279083639768119385:=()
def tw16468539945548934832:=()
def tw10549176987102647351:=()
def tw1575886288390926966:=()
def tw254587127459341920:=()
def tw13703883645659142871:=()
def tw15807604802795572217:=()
def tw16559353440863766688:=()
def tw17451410078028535319:=()
def tw9923258567316892243:=()
def tw5416604662325874217:=()
def tw18077448688749979668:=()
def tw891060163969329766:=()
def tw15372973236690632721:=()
def tw15856400230633468878:=()
def tw15273616635399531060:=()
def tw7846805395831223712:=()
def tw11628427755281389477:=()
def tw5837387407174111446:=()
def tw16388251741607620226:=()
def tw4033452639859038834:=()
def tw10377246854074034270:=()
def tw11851813147964274576:=()
def tw15545084016331686606:=()
def tw4845462486131766042:=()
def tw1487651089307318026:=()
def tw12768228964323583984:=()
def tw12277291642238856051:=()
def tw9966532156250707159:=()
def tw14197835320093758206:=()
def tw9351362045895415054:=()
def tw2298758996630427326:=()
def tw9474856365858147491:=()
def tw14080624554045152301:=()
def tw5023985919264951486:=()
def tw6204590964041742471:=()
def tw4596020958712386761:=()
def tw16441753237233721946:=()
def tw13502898898752265415:=()
def tw7959704594972484421:=()
def tw5351588201417824495:=()
def tw17560542167692386609:=()
def tw10616478297257480891:=()
def tw12464487763816700932:=()
def tw11289605071475308583:=()
def tw12417910729149854658:=()
def tw9723376369398814271:=()
def tw3393498958401775016:=()
def tw12633962698018768859:=()
def tw9258531234046262076:=()
def tw8229801448724056886:=()
def tw10350601165999482901:=()
def tw14070481699174486604:=()
def tw7250222542303742861:=()
def tw11453647349951297710:=()
def tw14827412118361752221:=()
def tw13554380285070191688:=()
def tw8503116787168219233:=()
def tw5203546170702889374:=()
def tw17237436093215514151:=()
def tw2712588906573610195:=()
def tw13838303191785871264:=()
def tw12260512491050713733:=()
def tw6985382884549591171:=()
def tw8635051892686413925:=()
def tw513600572882137102:=()
def tw1813731984026551164:=()
end PySem.W.Fast
open PySem PySem.W PyProof.Rows
set_option maxRecDepth 100000 in
set_option maxHeartbeats 0 in
theorem PySem.Challenge.cw_canonwheel_k45_cases_refused_holds : PySem.Challenge.rw_canonwheel_k45_cases_refused.Holds := by
 w_on; o_law; k_head; (case hw => w_witness2)
 k_fill
 refine Sd.walkD (l := PySem.Challenge.rw_canonwheel_k45_cases_refused) (k := 12) (x := "_law_script") (CX := fun w => Sd.CXe PySem.Challenge.rw_canonwheel_k45_cases_refused.prog w) (Fl := Cw.F_Q0I) rfl rfl ⟨rfl,by decide,by decide⟩ (fun w h Y => PySem.W.kIn_of Y) (fun w => Sd.cxe_ok) ?F ?S
 case F =>
  intro w mg fa h KX G hmg
  refine' Lk45.all_mk KX G hmg ?Y0 ?Y1 ?Y2 ?Y3 ?Y4 ?Y5 ?Y6 ?Y7 ?Y8 ?Y9 ?Y10 ?Y11 ?Y12 ?Y13 ?Y14 ?Y15 ?Y16 ?Y17 ?Y18 ?Y19 ?Y20 ?Y21 ?Y22 ?Y23 ?Y24 ?Y25 ?Y26 ?Y27 ?Y28 ?Y29 ?Y30 ?Y31 ?Y32 ?Y33 ?Y34 ?Y35 ?Y36 ?Y37 ?Y38 ?Y39 ?Y40 ?Y41 ?Y42 ?Y43 ?Y44 ?Y45 ?Y46 ?Y47 ?Y48 ?Y49 ?Y50 ?Y51 ?Y52 ?Y53 ?Y54 ?Y55 ?Y56 ?Y57 ?Y58 ?Y59 ?Y60 ?Y61 ?Y62 ?Y63 ?Y64 ?Y65 ?Y66 ?Y67 ?Y68 ?Y69 ?Y70 ?Y71 ?Y72 ?Y73 ?Y74 ?Y75 ?Y76 ?Y77 ?Y78 ?Y79 ?Y80 ?Y81 ?Y82 ?Y83 ?Y84 ?Y85 ?Y86 ?Y87 ?Y88 ?Y89 ?Y90 ?Y91 ?Y92 ?Y93 ?Y94 ?Y95 ?Y96
  (case Y0|Y1|Y2|Y3|Y4|Y5|Y6|Y7|Y8|Y9|Y10|Y11|Y12|Y13|Y14|Y15|Y21|Y22|Y23|Y24|Y25|Y26|Y27|Y28|Y29|Y30|Y31|Y32|Y33|Y34|Y35=>exact ⟨_,_,_,_,_,_,_,_,_,_,by k_is,by k_is,by k_is,by k_is⟩)
  (case Y16|Y17|Y18|Y19|Y20|Y36|Y37|Y38|Y39|Y40|Y41|Y42|Y43|Y44|Y45|Y46|Y47|Y48|Y49|Y50|Y51|Y52|Y53|Y54|Y55|Y56|Y57|Y58|Y59|Y60|Y61|Y62|Y63|Y64|Y65|Y66|Y67|Y68|Y69|Y70|Y71|Y72|Y73|Y74|Y75|Y76|Y77|Y78|Y79|Y80|Y81|Y82|Y83|Y84|Y85|Y86|Y87|Y88|Y89|Y90|Y91|Y92|Y93|Y94|Y95=>show _ = _; k_is)
  (case Y96=>(constructor; (refine' Sd.hx_cons ?_ (Sd.hx_cons ?_ (Sd.hx_cons ?_ (Sd.hx_cons ?_ (Sd.hx_cons ?_ (Sd.hx_cons ?_ (Sd.hx_cons ?_ (Sd.hx_cons ?_ (Sd.hx_cons ?_ (Sd.hx_cons ?_ (Sd.hx_cons ?_ (Sd.hx_cons ?_ (Sd.fm_nil)))))))))))) <;> first | exact ⟨by k_is,by kit_is,by k_exc,⟨_,_,_,_,_,_,_,_,_,_,_,_,_,_,_,_,by k_is⟩,by k_is,by k_is,by k_is⟩ | skip); repeat' first | apply Sd.sxx_cons | apply Sd.sx_cons | exact Sd.fm_nil | exact Sd.sx_nil | kit_is))
 case S => exact fun ns _ hb => Cw.law45_ok hb
