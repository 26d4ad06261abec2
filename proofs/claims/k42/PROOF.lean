import PyProof.Rows.All
import Wide.All
import OpenK.AllK
import Wide.FinOn
import Lean
import PyProof.EqAt
import PyProof.EqKinds
import PyProof.TupleCall
import KE.BitLaws
import KE.KRevIter
import PyProof.P3In
import PySem.Challenge.RW_canonwheel_k42_whole_sought
set_option Elab.async false
set_option linter.all false
set_option maxRecDepth 100000
set_option maxHeartbeats 4000000
set_option compiler.extract_closed false
set_option genSizeOf false
set_option genSizeOfSpec false
set_option bootstrap.genMatcherCode false
noncomputable section
local macro_rules|`(⋯)=>`(by omega)
theorem Zf {C:Prop}(h:False):C:=h.elim
open List renaming getElem?_cons_zero → CM, map_cons → CN, getElem?_cons_succ → CO, map_nil → CP, length_cons → CQ, mem_cons_self → CS, set_cons_zero → CT, set_cons_succ → CU, mem_cons_of_mem → CV, length_map → CY, cons_append → CZ, nil_append → C1, length_nil → C4, getD_eq_getElem?_getD → C6, foldl_cons → C7, foldl_nil → C8, length_append → C9, getElem?_map → Dc, size_toArray → Dd, getElem?_eq_getElem → Dg, length_set → Dk, mem_append_right → Dl, getElem?_eq_none → Dm, getElem?_set_self → Dp, getElem?_append_left → Dq, length_singleton → Ds, not_mem_nil → Dt, replicate_succ → Du, mem_cons → Dw, lookup_cons → Dy, eq_nil_of_length_eq_zero → DA, getElem?_set_ne → DB, mem_append_left → DC, length_replicate → DD, mem_singleton → DE, getElem?_append_right → DF, mem_of_getElem? → DI, flatten_cons → DL, flatMap_cons → DM, perm_ext_iff_of_nodup → DN, all_eq_true → DP, length_filter_le → DQ, append_nil → DT, getElem?_replicate → DX, map_map → DY, getElem?_range → D0, take_of_length_le → D2, filter_cons → D3, zip_cons_cons → D5, map_append → D6, mem_filter → D7, drop_eq_getElem_cons → D8, reverse_cons → D9, foldl_append → Ea, map_congr_left → Ec, any_cons → Ee, find?_cons → Ef, count_eq_zero_of_not_mem → Eh, append_assoc → Ek, ext_getElem? → El, drop_zero → En, mem_map → Eo, length_take → Ep, exists_mem_of_ne_nil → Es, mem_append → Eu, getElem?_take_of_lt → Ew, getLast_eq_getElem → Ey, getElem_mem → EB, mem_flatMap → EC, getLast_mem → EF, length_zip → EK, map_id' → ES, filterMap_cons → ET, length_reverse → EU, getElem_of_mem → EV, all_cons → E1, drop_length → E4, take_length → E6, map_set → E9, of_mem_zip → Fc, nodup_cons → Fd, range_succ_eq_map → Ff, length_dropLast → Fq, mem_of_mem_drop → Fs, length_flatMap → Ft, map_take → Fw, drop_succ_cons → Fx, zip_nil_right → Fy, ne_nil_of_mem → FA, length_range → FJ, perm_cons → FU, nodup_nil → FV, sum_cons → FX, map_drop → FY
open Bool renaming and_true → C2, and_eq_true → C3, and_false → Di, false_ne_true → Dj, or_true → Dn, not_true → Dx, false_eq_true → DH, false_or → DO, eq_iff_iff → DS, or_eq_true → DU, not_false → D4, or_false → Ei, beq_eq_decide_eq → EA, false_and → EW, true_and → Fv
open Option renaming getD_some → C5, map_some → DW, map_eq_some_iff → Eg, isSome_map → E2, getD_none → FM
open Nat renaming ne_of_lt → De, le_refl → Dh, lt_of_lt_of_le → Do, le_trans → DJ, succ_mul → DK, eq_of_mul_eq_mul_left → DR, lt_irrefl → DZ, lt_succ_self → D1, le_add_right → Eb, mod_eq_of_lt → Er, zero_le → Ez, mul_le_mul_right → EG, pow_le_pow_right → EH, min_le_left → EJ, mul_comm → EM, zero_add → EN, mul_le_mul → EY, add_mul_mod_self_right → E0, lt_succ_of_lt → E3, le_of_lt → E7, ne_of_gt → E8, sub_zero → Fb, le_mul_of_pos_left → Fg, dvd_of_mod_eq_zero → Fh, le_succ → Fi, log2_lt → Fk, mod_eq_sub_mod → FC, add_sub_cancel → FD, le_of_eq → FE, add_comm → FF, pow_succ → FH, min_eq_left → FS, mod_lt → FT, testBit_or → FW, sub_self → FZ, add_zero → F0, pow_pos → F4
open Int renaming toNat_natCast → DG, mul_le_mul_of_nonneg_left → DV, dvd_of_emod_eq_zero → Ed, natCast_mul → Ej, emod_eq_of_lt → Em, emod_eq_emod_iff_emod_sub_eq_zero → Et, emod_eq_zero_of_dvd → Ex, emod_add_mul_ediv → ED, mul_comm → EO, add_comm → ER, mul_lt_mul_of_pos_right → EX, fdiv_eq_ediv_of_nonneg → EZ, natCast_succ → E5, natCast_add → Fe, mul_add → Fj, mul_nonneg → Fp, emod_lt_of_pos → Fz, mul_emod_right → FB, add_zero → FG, mul_zero → FI, mul_left_comm → FK, mul_one → FL, add_mul → FN, natCast_zero → FO, mul_neg → FP, le_antisymm → FQ, emod_nonneg → FR, le_refl → F1, one_mul → F2, neg_mul → F3
open PySem.W renaming Frag → F5, findIn → F7, fnOf → Ga, nsIn → Gb, mg_none_of → Gf, kitOne → Gj, mg_of → Gk, keepIn → Gn, emptyDict → Gs, codeIn → Gy, instObj → GA, excIn → GB, kia_one → GF, plainGet → GJ, hasDictIn → GQ, isFn → GR, hideAll_get → GS, plainOver → GX, makesIn → G3, plainGet_of → G7, lookIn → G8, nsOkIn → G9, callWith_K → Hg, methodObj → Hi, hideAll → Ht, takerIn → Hu, cellsFrom_some → HC, methodCall_KW → HJ, of_hideAll → Ii, tail_of_in → Ir, handedIn → Iw, tailIn → IB
open PySem.Heap renaming lt_size → F6, get?_push_of_some → F8, get?_push_size → Gd, get?_update_other → GP, SameBut → G0, size_push → HI
open PySem renaming wpAny_bind → F9, wpAny_pure → Gc, wpAny_mono → Ge, Env → Gg, sizeLine_eq → GC, wpAny_passesOwn → GE, wpAny_holding → GG, wpAny_truthy_bool → GH, boot_len → GI, mem_of_lookup → GM, wpAny_Call_Name_kw → GT, tupleKind_room_in1 → GV, call_meets → GW, wpAny_standAt → GY, wpAny_execs_nil → G1, codeAny_mono → G4, lookup_relabel_local → G6, wpAny_pyIter_list → Hj, wpAny_getItem_list_slice → Ho, wpAny_pyNext_list_item → Hy, wpAny_pyNext_range_end → HA, wpAny_pyIter_rangeiter → HB, seqIndex_of → HD, wpAny_isTrue_Compare1 → HG, wpAny_pyNext_list_end → HH, wpAny_loadName_local → HN, evalPart_none → HV, wpAny_loadName_cell → HY, Within → Ih, wpAny_pyIter_range → Ik, seqIndex_neg → Ip, list_append → Iv
open PySem.Value renaming ref → Gh, int → He, none → HL, bool → HM, str → Ic, type → Iz, isStrOf → ID
open PySem.F renaming plainAttrs_list → Gi, slot_list_append → Gv, type_list_append → Gw, slot_list_index → Hr, args_list_append_2 → HR, entry_list_append → HZ, slot_list_append → Iq
open False renaming elim → Gm
open PyProof.Rows renaming callWith_type1 → Gp, assignInOrder_cons → Hf, subscriptTail_builtinR → HE, Subscript_ → HP, Constant_none → HU
open PySem.Str renaming ofString → Gq, empty → IC
open PySem.PyData renaming canLay0 → Gr, eqv → Gu, depth → Gz, eqvAll → GZ, depthAll → G5, canLayAll0 → Hk
open PySem.NameKind renaming free → Gx, cell → HW
open True renaming intro → GD
open PySem.Builtin.List renaming listTooLong → GK
open Array renaming length_toList → GL, append_assoc → Ij
open PySem.Builtin.Range renaming rangeSize → GN, small → Ia
open ForInStep renaming yield → GO
open PySem.W.WData renaming int → GU, weightAll → Hw, weight → Iu, list → IA
open Sum.inl renaming inj → Hb
open PySem.Calls renaming Name_function_global → Hh, callWith_builtin → HF, evalArgs_plain → HQ
open PySem.PassesOwn renaming leaving → Hl
open PySem.Obj renaming mapSeq → Hm
open PyProof renaming noPylong_of_log2 → Hq
open PySem.SeqAt renaming compareEq_reads → HK
open PySem.Paired renaming length → HS, snoc → IF
open Function renaming comp → HX
open PySem.Builtin.Int renaming intBits → H0
open PySem.BindsTo renaming of_defaults → Ib
open PySem.SeqAt.EqAt renaming int_str → Ie, str_int → Ig
open PySem.Around renaming under → Il
open PySem.Code renaming isFrame → Im
open PySem.Heap.IsSliceOf renaming new → Io
open PySem.IsL renaming update → Iy
open PySem.IsRange renaming new → IE
theorem ZB (h:True:=by first|exact .inl rfl|exact .inr rfl|assumption):True:=h
theorem ZC (h:True:=by decide):True:=h
theorem ZD (h:True:=by first|exact nobehind _ (by decide) (by decide)|rfl):True:=h
theorem ZE (h:True:=by intro _;rfl):True:=h
theorem ZF (h:True:=by rfl):True:=h
theorem ZG (h:True:=by intros;rfl):True:=h
theorem ZH (h:True:=by first|exact Or.inl rfl|exact Or.inr (Or.inl rfl)|exact Or.inr (Or.inr rfl)):True:=h
theorem ZI (h:True:=by intro _ _ z;cases z):True:=h
theorem ZJ (h:True:=by decide +kernel):True:=h
theorem ZK (h:True:=by intro _ _;rfl):True:=h
theorem ZL (h:True:=by with_unfolding_all rfl):True:=h
namespace L2
open PySem PySem.Spec PyProof.Rows
abbrev Key:=Sum Int Str
def kM:Key->Value->Bool
 | .inl k,v=>Value.isInt k v
 | .inr x,v=>ID x v
def Cr (w:World):Key->Int
 | .inl k=>hashInt k
 | .inr x=>hashStr w x
theorem bx:∀ {k:Key} {v:Value},kM k v=true->(∃ i t,k=Sum.inl i/\v=He i t)\/(∃ x t,k=Sum.inr x/\v=Ic x t)
 | .inl i,v,h=>by
  obtain⟨t,e⟩:=Value.isInt_shape (k:=i) (v:=v) h;exact .inl ⟨i,t,rfl,e⟩
 | .inr x,v,h=>by
  obtain⟨t,e⟩:=Value.isStrOf_shape (x:=x) (v:=v) h;exact .inr ⟨x,t,rfl,e⟩
theorem rA (i:Int)(t:Tok):kM (.inl i) (.int i t)=true:=by simp[kM,Value.isInt]
theorem rq (x:Str)(t:Tok):kM (.inr x) (.str x t)=true:=by simp[kM,ID]
theorem A9 (a b:Int):decide ((Sum.inl a:Key)=Sum.inl b)=(a == b):=by
 by_cases e:a=b
 ·subst e;simp
 ·have h:¬ (Sum.inl a:Key)=Sum.inl b:=λ q=>e (Hb q)
  rw[decide_eq_false h];exact(beq_eq_false_iff_ne.mpr e).symm
theorem A6 (a b:Str):decide ((Sum.inr a:Key)=Sum.inr b)=decide (a=b):=by
 by_cases e:a=b
 ·subst e;simp
 ·have h:¬ (Sum.inr a:Key)=Sum.inr b:=λ q=>e (Sum.inr.inj q)
  rw[decide_eq_false h,decide_eq_false e]
theorem zz (a:Int)(b:Str):decide ((Sum.inl a:Key)=Sum.inr b)=false:=decide_eq_false (λ q=>nomatch q)
theorem Ah (a:Str)(b:Int):decide ((Sum.inr a:Key)=Sum.inl b)=false:=decide_eq_false (λ q=>nomatch q)
def bS (prog:Program)(w:World):PySem.KeyKind prog w Key where
 is:=kM
 hash:=Cr w
 inj:=λ v a b ha hb=>by
  rcases bx ha with ⟨i,t,rfl,rfl⟩|⟨x,t,rfl,rfl⟩
  ·rcases bx hb with ⟨j,u,rfl,e⟩|⟨y,u,rfl,e⟩
   ·injection e with e1 _;rw[e1]
   ·exact nomatch e
  ·rcases bx hb with ⟨j,u,rfl,e⟩|⟨y,u,rfl,e⟩
   ·exact nomatch e
   ·injection e with e1 _;rw[e1]
 byValue:=λ k v h=>by
  rcases bx h with ⟨i,t,rfl,rfl⟩|⟨x,t,rfl,rfl⟩ <;>rfl
 pyHash:=λ hv h=>by
  rcases bx hv with ⟨i,t,rfl,rfl⟩|⟨x,t,rfl,rfl⟩
  ·exact wpAny_pyHash_int h
  ·exact wpAny_pyHash_str h
 eqBool:=λ hu hv h=>by
  rcases bx hu with ⟨i,t,rfl,rfl⟩|⟨x,t,rfl,rfl⟩
  ·rcases bx hv with ⟨j,u,rfl,rfl⟩|⟨y,u,rfl,rfl⟩
   ·rw[A9] at h;exact wpAny_eqBool_int h
   ·rw[zz] at h;exact Ie i t y u _ _ _ _ h
  ·rcases bx hv with ⟨j,u,rfl,rfl⟩|⟨y,u,rfl,rfl⟩
   ·rw[Ah] at h;exact Ig x t j u _ _ _ _ h
   ·rw[A6] at h;exact wpAny_eqBool_str h
 «strs»:=λ k x t v h=>by
  rcases bx h with ⟨i,u,rfl,e⟩|⟨y,u,rfl,e⟩
  ·exact nomatch e
  ·injection e with e1 _
   subst e1;cases v <;>rfl
theorem ml (prog:Program)(w:World)(i:Int)(t:Tok):(bS prog w).is (.inl i) (.int i t)=true:=rA i t
theorem mH (prog:Program)(w:World)(x:Str)(t:Tok):(bS prog w).is (.inr x) (.str x t)=true:=rq x t
inductive V where
 | non|bl (b:Bool)|int (i:Int)|str (x:Str)|byt (b:Array UInt8)|flt (b:UInt64)|ref (a:Addr)|ty (n:String)
 deriving DecidableEq
def RelV:V->Value->Prop
 | .non,u=>u=HL
 | .bl b,u=>u=HM b
 | .int i,u=>∃ t,u=He i t
 | .str x,u=>∃ t,u=Ic x t
 | .byt b,u=>∃ t,u=Value.bytes b t
 | .flt b,u=>∃ t,u=Value.float b t
 | .ref a,u=>u=Gh a
 | .ty n,u=>u=Iz n
abbrev Vals:List V->List Value->Prop:=Paired RelV
theorem Vals.length {xs:List V}{us:List Value}(r:Vals xs us):xs.length=us.length:=HS r
theorem Vals.get:∀ {xs:List V} {us:List Value} {i:Nat} {x:V},Vals xs us->xs[i]?=some x->∃ u,us[i]?=some u/\RelV x u
 | _,_,_,_,.nil,e=>by simp at e
 | _,_,0,_,.cons r _,e=>by simp at e;subst e;exact⟨_,rfl,r⟩
 | _,_,i+1,x,.cons _ t,e=>by
  obtain⟨u,h1,h2⟩:=Vals.get (i:=i) (x:=x) t (by simpa using e);exact⟨u,by simpa using h1,h2⟩
theorem Vals.set {x:V}{u:Value}(r:RelV x u):∀ {xs:List V} {us:List Value} (i:Nat),Vals xs us->Vals (xs.set i x) (us.set i u)
 | _,_,_,.nil=>.nil
 | _,_,0,.cons _ t=>.cons r t
 | _,_,i+1,.cons q t=>.cons q (Vals.set r i t)
theorem Vals.append {xs ys:List V}{us ws:List Value}(q:Vals xs us)(s:Vals ys ws):Vals (xs++ys) (us++ws):=by
 induction q with
 | nil=>exact s
 | cons r t ih=>exact .cons r ih
theorem Vals.take:∀ {xs:List V} {us:List Value} (n:Nat),Vals xs us->Vals (xs.take n) (us.take n)
 | _,_,0,_=>.nil
 | _,_,_+1,.nil=>.nil
 | _,_,n+1,.cons r t=>.cons r (Vals.take n t)
theorem Vals.drop:∀ {xs:List V} {us:List Value} (n:Nat),Vals xs us->Vals (xs.drop n) (us.drop n)
 | _,_,0,r=>r
 | _,_,_+1,.nil=>.nil
 | _,_,n+1,.cons _ t=>Vals.drop n t
def RelO:Option V->Option Value->Prop
 | some v,some u=>RelV v u
 | none,none=>True
 | _,_=>False
def KV {κ:Type}:List (κ×V)->List (κ×Value)->Prop:=Paired λ (p:κ×V) (q:κ×Value)=>p.1=q.1/\RelV p.2 q.2
def kV:Key->V
 | .inl i=>.int i
 | .inr x=>.str x
inductive HO where
  | lst (xs:List V)
  | tup (xs:List V)
  | dK (kvs:List (Key×V))|dT (kvs:List (List Key×V))
  | set (S:Int->Bool) (n:Nat)
  | ins (C dx:Addr) (fs:List (Str×V))
  | own (x:Addr)
  | xd (fs:List (Str×V))
  | met (f x:Addr)
  | rng (lo hi:Int)
  | frz (o:Obj) (u:HO)
  | tbl (ps:Array Value)
  | ext (φ:Heap->Prop)
abbrev Hp:=Addr->Option HO
def upd (H:Hp)(a:Addr)(o:HO):Hp:=λ b=>if b=a then some o else H b
theorem aq {H:Hp}{a:Addr}{o:HO}:upd H a o a=some o:=by unfold upd;rw[if_pos rfl]
theorem ah {H:Hp}{a b:Addr}{o:HO}(h:b≠a):upd H a o b=H b:=by unfold upd;rw[if_neg h]
theorem iQ {H:Hp}{a:Addr}{o u:HO}:upd (upd H a o) a u=upd H a u:=by
 funext b;unfold upd;split <;>rfl
theorem Ci {H:Hp}{a b:Addr}{o u:HO}(h:H a=some o)(h':H b=some u)(d:o≠u):a≠b:=by
 intro e;subst e;rw[h] at h';exact d (Option.some.inj h')
theorem ax {H:Hp}{a b:Addr}{o:HO}(h:H a=some o)(h':H b=none):a≠b:=by
 intro e;subst e;rw[h] at h';cases h'
section
variable (P:Program)(w:World)
def ObjOk (H:Hp)(h:Heap)(a:Addr):HO->Prop
 | .lst xs=>xs.length<=sizeLine/\∃ (its:List Value) (n:Nat),Vals xs its/\h.get? a=some { cls:=.type "list",data:=.seq its.toArray n }
 | .tup xs=>xs.length<=sizeLine/\∃ its:List Value,Vals xs its/\IsTup h a its.toArray
 | .dK kvs=>kvs.length<=sizeLine/\(a == sysModules)=false/\∃ vs,KV kvs vs/\h.DictOf (bS P w) a vs
 | .dT kvs=>kvs.length<=sizeLine/\(a == sysModules)=false/\∃ xs:List (List Key×Addr×Value),
   Paired (λ (p:List Key×V) (q:List Key×Addr×Value)=>p.1=q.1/\H q.2.1=some (.tup (p.1.map kV))/\RelV p.2 q.2.2) kvs xs /\
   ∃ o es ep,h.get? a=some o/\o.ExactDict/\o.data=.dict es ep/\es.toList=xs.map (entryOfKey (tupleKind (bS P w)))/\(xs.map (·.1)).Nodup
 | .set S n=>h.SetOf (intKind P w) a S n
 | .ins C dx fs=>H dx=some (.own a)/\fs.length<=1000/\dx≠a/\h.get? a=some (GA C dx) /\
   ∃ mA,h.Ns1 dx mA/\(∀ f,RelO (fs.lookup f) (mA f))/\Ih mA (fs.map (·.1))
 | .own _=>∃ o,h.get? a=some o
 | .xd fs=>∃ mA,h.Ns1 a mA/\∀ f,RelO (fs.lookup f) (mA f)
 | .rng lo hi=>∃ t u v,h.get? a=some { cls:=.type "range",data:=.fields #[.int lo t,.int hi u,.int 1 v] }
 | .frz o u=>h.get? a=some o/\ObjOk H h a u
 | .tbl ps=>h.get? a=some { cls:=.none,data:=.fields ps }
 | .met f x=>h.get? a=some (Hi (.ref f) (.ref x))
 | .ext φ=>φ h/\(∃ o,h.get? a=some o)/\∀ h1 h2:Heap,φ h1->(∀ o,h1.get? a=some o->h2.get? a=some o)->φ h2
def HOk (H:Hp)(h:Heap):Prop:=∀ a o,H a=some o->ObjOk P w H h a o
end
section
variable {P:Program}{w:World}{H H':Hp}{h h':Heap}{a:Addr}{o:HO}
theorem ObjOk.lt (x:ObjOk P w H h a o):a<h.objs.size:=by
 cases o with
 | lst xs=>obtain⟨_,_,_,_,e⟩:=x;exact F6 e
 | tup xs=>obtain⟨_,_,_,p⟩:=x;exact p.lt
 | dK kvs=>obtain⟨_,_,_,_,o,_,_,e,_⟩:=x;exact F6 e
 | dT kvs=>obtain⟨_,_,_,_,o,_,_,e,_⟩:=x;exact F6 e
 | set S n=>obtain⟨o,_,_,_,e,_⟩:=x;exact F6 e
 | ins C dx fs=>obtain⟨_,_,_,e,_⟩:=x;exact F6 e
 | own y=>obtain⟨_,e⟩:=x;exact F6 e
 | xd fs=>obtain⟨_,⟨_,_,_,e,_⟩,_⟩:=x;exact F6 e
 | rng lo hi=>obtain⟨_,_,_,e⟩:=x;exact F6 e
 | frz ob u=>obtain⟨e,_⟩:=x;exact F6 e
 | tbl ps=>exact F6 (show h.get? a=some _ from x)
 | met f y=>exact F6 (show h.get? a=some _ from x)
 | ext φ=>obtain⟨_,⟨_,e⟩,_⟩:=x;exact F6 e
theorem Paired.mapP {α β:Type}{F G:α->β->Prop}{l₁:List α}{l₂:List β}(q:Paired F l₁ l₂)(f:∀ a b,F a b->G a b):Paired G l₁ l₂:=by
 induction q with
 | nil=>exact .nil
 | cons r t ih=>exact .cons (f _ _ r) ih
theorem ObjOk.stay (x:ObjOk P w H h a o)(k:∀ b u,(b=a\/H b=some (.own a))->h.get? b=some u->h'.get? b=some u)
  (ho:∀ b,H b=some (.own a)->H' b=some (.own a)) (ht:∀ b xs,H b=some (.tup xs)->H' b=some (.tup xs)):ObjOk P w H' h' a o:=by
 induction o with
 | lst xs=>obtain⟨z,its,n,r,e⟩:=x;exact⟨z,its,n,r,k _ _ (.inl rfl) e⟩
 | tup xs=>obtain⟨z,its,r,ob,e,c⟩:=x;exact⟨z,its,r,ob,k _ _ (.inl rfl) e,c⟩
 | dK kvs=>obtain⟨z,y,vs,r,ob,es,ep,e,c⟩:=x;exact⟨z,y,vs,r,ob,es,ep,k _ _ (.inl rfl) e,c⟩
 | dT kvs=>
  obtain⟨z,y,xs,r,ob,es,ep,e,c⟩:=x;exact⟨z,y,xs,Paired.mapP r λ p q z=>⟨z.1,ht _ _ z.2.1,z.2.2⟩,ob,es,ep,k _ _ (.inl rfl) e,c⟩
 | set S n=>obtain⟨ob,es,ep,t,e,c⟩:=x;exact⟨ob,es,ep,t,k _ _ (.inl rfl) e,c⟩
 | ins C dx fs=>
  obtain⟨d,z,ne,e,mA,⟨od,es,ep,e2,c⟩,r⟩:=x;exact⟨ho _ d,z,ne,k _ _ (.inl rfl) e,mA,⟨od,es,ep,k _ _ (.inr d) e2,c⟩,r⟩
 | own y=>obtain⟨ob,e⟩:=x;exact⟨ob,k _ _ (.inl rfl) e⟩
 | xd fs=>obtain⟨mA,⟨od,es,ep,e,c⟩,r⟩:=x;exact⟨mA,⟨od,es,ep,k _ _ (.inl rfl) e,c⟩,r⟩
 | rng lo hi=>obtain⟨t,u,v,e⟩:=x;exact⟨t,u,v,k _ _ (.inl rfl) e⟩
 | frz ob u ih=>obtain⟨e,q⟩:=x;exact⟨k _ _ (.inl rfl) e,ih q⟩
 | tbl ps=>
  have e:h.get? a=some { cls:=.none,data:=.fields ps }:=x;show h'.get? a=some { cls:=.none,data:=.fields ps }
  exact k a _ (.inl rfl) e
 | met f y=>
  have e:h.get? a=some (Hi (.ref f) (.ref y)):=x;show h'.get? a=some (Hi (.ref f) (.ref y))
  exact k a _ (.inl rfl) e
 | ext φ=>obtain⟨p,⟨o,e⟩,st⟩:=x;exact⟨st _ _ p λ o q=>k _ _ (.inl rfl) q,⟨o,k _ _ (.inl rfl) e⟩,st⟩
theorem HOk.lt (x:HOk P w H h)(e:H a=some o):a<h.objs.size:=(x a o e).lt
theorem HOk.fresh (x:HOk P w H h)(e:h.objs.size<=a):H a=none:=by
 cases q:H a with
 | none=>rfl
 | some u=>exact absurd (Do (x.lt q) e) (DZ _)
theorem HOk.kept (x:HOk P w H h)(k:∀ b u,h.get? b=some u->h'.get? b=some u):HOk P w H h':=λ a o e=>
 (x a o e).stay (λ b u _ q=>k b u q) (λ _ q=>q) λ _ _ q=>q
theorem HOk.laid (x:HOk P w H h)(k:∀ b u,h.get? b=some u->h'.get? b=some u)(hp:h.objs.size<=a)(new:ObjOk P w (upd H a o) h' a o):HOk P w (upd H a o) h':=λ b u e=>by
 have hn:=x.fresh hp;by_cases hb:b=a
 ·subst hb;rw[aq] at e;cases e;exact new
 ·rw[ah hb] at e
  exact(x b u e).stay (λ c v _ q=>k c v q) (λ c q=>by rw[ah (ax q hn)];exact q) λ c xs q=>by rw[ah (ax q hn)];exact q
end
def Rd (H:Hp)(a:Addr)(u:HO):Prop:=H a=some u\/∃ o,H a=some (.frz o u)
theorem Rd.ok {P:Program}{w:World}{H:Hp}{h:Heap}{a:Addr}{u:HO}(r:Rd H a u)(x:HOk P w H h):ObjOk P w H h a u:=by
 rcases r with r|⟨o,r⟩
 ·exact x a u r
 ·obtain⟨_,q⟩:=x a _ r
  exact q
def Mut:Option HO->Prop
 | some (.lst _)=>True
 | some (.dK _)=>True
 | some (.dT _)=>True
 | some (.set _ _)=>True
 | some (.ins _ _ _)=>True
 | some (.ext _)=>True
 | _=>False
section
variable {P:Program}{w:World}{H:Hp}{h h':Heap}{x e:Addr}{o':HO}
theorem HOk.write (ok:HOk P w H h)(mu:Mut (H x))(he:e=x\/H e=some (.own x))(k:∀ b u,b≠e->h.get? b=some u->h'.get? b=some u)(heo:∃ u,h'.get? e=some u)
  (new:ObjOk P w (upd H x o') h' x o'):HOk P w (upd H x o') h':=λ b u q=>by
 have nown:∀ c y,H c=some (.own y)->c≠x:=λ c y r z=>by subst z;rw[r] at mu;exact mu
 have ntup:∀ c xs,H c=some (.tup xs)->c≠x:=λ c xs r z=>by subst z;rw[r] at mu;exact mu
 by_cases hb:b=x
 ·subst hb;rw[aq] at q;cases q;exact new
 ·rw[ah hb] at q
  by_cases hbe:b=e
  ·have q':H b=some (.own x):=by
    rcases he with z|z
    ·exact absurd (hbe.trans z) hb
    ·rw[hbe];exact z
   rw[q] at q';cases q';obtain⟨v,hv⟩:=heo;exact⟨v,by rw[hbe];exact hv⟩
  ·refine(ok b u q).stay (λ c v hc r=>k c v ?_ r) (λ c r=>by rw[ah (nown c b r)];exact r) λ c xs r=>by rw[ah (ntup c xs r)];exact r
   rcases hc with rfl|hc
   ·exact hbe
   ·rintro rfl
    rcases he with z|z
    ·exact nown c b hc z
    ·rw[hc] at z;cases z;exact hb rfl
end
structure Un (fs ex:List Addr)(H H':Hp)(h h':Heap):Prop where
 keep:∀ b o,h.get? b=some o->H b=none->b∉fs->b∉ex->h'.get? b=some o
 slot:∀ b o,h.get? b=some o->H b=none->b∈fs->b∉ex->∃ sl,h'.get? b=some { o with slots:=sl }
 free:∀ b o,h.get? b=some o->H b=none->b∉ex->H' b=none
 there:∀ b o,h.get? b=some o->b∉ex->∃ o',h'.get? b=some o'
 tups:∀ b xs,H b=some (.tup xs)->H' b=some (.tup xs)
 frzs:∀ b o u,H b=some (.frz o u)->H' b=some (.frz o u)
 tbls:∀ b ps,H b=some (.tbl ps)->∃ more,H' b=some (.tbl (ps++more))
section
variable {fs fs' ex ex':List Addr}{H H1 H2:Hp}{h h1 h2 h':Heap}{a x e:Addr}{o:HO}
theorem Un.any (u:Un fs ex H H1 h h1){b:Addr}{ob:Obj}(q:h.get? b=some ob)(n:H b=none)(hx:b∉ex):∃ sl,h1.get? b=some { ob with slots:=sl }:=by
 by_cases hb:b∈fs
 ·exact u.slot b ob q n hb hx
 ·exact⟨ob.slots,u.keep b ob q n hb hx⟩
theorem Un.kept (k:∀ b u,h.get? b=some u->h'.get? b=some u):Un fs ex H H h h':=
 ⟨λ b ob q _ _ _=>k b ob q,λ b ob q _ _ _=>⟨ob.slots,k b ob q⟩,λ _ _ _ n _=>n,λ b ob q _=>⟨ob,k b ob q⟩,λ _ _ q=>q,λ _ _ _ q=>q,λ _ ps q=>⟨#[],by rw[q];simp⟩⟩
theorem Un.refl:Un fs ex H H h h:=Un.kept λ _ _ q=>q
theorem Un.laid (k:∀ b u,h.get? b=some u->h'.get? b=some u)(hp:h.objs.size<=a)(hn:H a=none):Un fs ex H (upd H a o) h h' where
 keep:=λ b u q _ _ _=>k b u q
 slot:=λ b u q _ _ _=>⟨u.slots,k b u q⟩
 free:=λ b u q n _=>by rw[ah (De (Do (F6 q) hp))];exact n
 there:=λ b u q _=>⟨u,k b u q⟩
 tups:=λ b xs q=>by rw[ah (ax q hn)];exact q
 frzs:=λ b u xs q=>by rw[ah (ax q hn)];exact q
 tbls:=λ b ps q=>⟨#[],by rw[ah (ax q hn),q];simp⟩
theorem Un.write (mu:Mut (H x))(he:e=x\/H e=some (.own x))(k:∀ b u,b≠e->h.get? b=some u->h'.get? b=some u)(heo:∃ u,h'.get? e=some u):Un fs ex H (upd H x o) h h':=by
 have hx:∀ b,H b=none->b≠x:=λ b n z=>by subst z;rw[n] at mu;exact mu
 have hb:∀ b,H b=none->b≠e:=λ b n z=>by
  subst z
  rcases he with r|r
  ·exact hx b n r
  ·rw[n] at r;cases r
 have hm:∀ b u,H b=some u->¬ Mut (some u)->b≠x:=λ b u q nm z=>by subst z;rw[q] at mu;exact nm mu
 refine⟨λ b u q n _ _=>k b u (hb b n) q,λ b u q n _ _=>⟨u.slots,k b u (hb b n) q⟩,λ b u q n _=>by rw[ah (hx b n)];exact n,λ b u q _=>?_,
  λ b xs q=>by rw[ah (hm b _ q λ z=>z)];exact q,λ b u xs q=>by rw[ah (hm b _ q λ z=>z)];exact q,λ b ps q=>⟨#[],by rw[ah (hm b _ q λ z=>z),q];simp⟩⟩
 by_cases hbe:b=e
 ·subst hbe;exact heo
 ·exact⟨u,k b u hbe q⟩
end
def trk (h:Heap)(H:Hp):List Addr:=(List.range h.objs.size).filter λ a=>(H a).isSome
def k6 (h:Heap)(H:Hp):Heap:=Ht h (trk h H)
theorem tQ (h:Heap)(H:Hp):(k6 h H).objs.size=h.objs.size:=PySem.W.hideAll_size _ _
theorem uP {h:Heap}{H:Hp}{b:Addr}{o:Obj}(e:h.get? b=some o)(n:H b=none):(k6 h H).get? b=some o:=
 GS _ e λ hm=>by
  have q:(H b).isSome=true:=(List.mem_filter.mp hm).2;rw[n] at q;simp at q
theorem xB {h:Heap}{H:Hp}{b:Addr}{o:Obj}(e:(k6 h H).get? b=some o):h.get? b=some o/\H b=none:=by
 have e':h.get? b=some o:=Ii (trk h H) e;refine⟨e',?_⟩;cases q:H b with
 | none=>rfl
 | some x=>
  have hm:b∈trk h H:=List.mem_filter.mpr ⟨List.mem_range.mpr (F6 e'),by simp[q]⟩;have z:(k6 h H).get? b=none:=PySem.W.hideAll_none (trk h H) hm;rw[z] at e;cases e
def xl (g h:Heap)(L:Addr):List (Addr×Obj):=(List.range h.objs.size).filterMap λ a=>if a=L\/(g.get? a).isSome=true then none else (h.get? a).map λ o=>(a,o)
def rest (g h:Heap)(L d:Addr):List (Addr×Obj):=(xl g h L).filter λ p=>decide (p.1≠d)
structure Mod (K:F5)(mg:Str->Option Value)(base:Heap):Prop where
 kin:K.In base
 glob:base.Ns mainGlobals mg
 blt:∃ mb,base.Ns builtinsNs mb/\∀ x:Str,x≠"__name__"->mb x=bootBuiltins x
 nolimit:base.NoLimit
/-- the context: a def's body (or a comprehension's block) running. base: fixed through the whole law;s₀,H₀: the entry;outer: the frames whose slots others may change (a def's callers);stack: all frames that run;
   ex: iterators that were made ahead of the entry and are walked here (a comprehension's);fn: the names whose cells were made at the entry (a def: all;a comprehension's block: its own);calm: not within an except suite;pn: pins that every state bears;xe: what is wanted of an exception that leaves the code -/
structure Cx where
 prog:Program
 w:World
 K:F5
 mg:Str->Option Value
 base:Heap
 A:Around
 N:List Str
 s₀:Shared
 H₀:Hp
 env:Env
 outer:List Env
 stack:List Env
 ex:List Addr
 fn:Str->Bool
 calm:Bool
 pn:List (Addr×Obj)
 xe:Value->Shared->Prop
def frs (l:List Env):List Addr:=l.filterMap (·.frame)
abbrev Cx.fs (X:Cx):List Addr:=frs X.outer
def Vis (sc:Scope)(x:Str):Prop:=sc.names.lookup x=some .local\/sc.names.lookup x=some .cell\/sc.names.lookup x=some .free
def Loc (sc:Scope)(x:Str):Prop:=sc.names.lookup x=some .local\/sc.names.lookup x=some .cell
def Look (env:Env)(h:Heap)(m:Str->Option Value)(x:Str)(u:Value):Prop:=
 (env.kindOf x=some .local/\m x=some u)\/((env.kindOf x=some .cell\/env.kindOf x=some .free)/\∃ c,env.cells.lookup x=some c/\h.IsCell c (some u))
structure Cx.Ok (X:Cx):Prop where
 mod:Mod X.K X.mg X.base
 kind:X.env.scope.kind=.function
 glob:X.env.globals=mainGlobals
 blt:X.env.builtins=builtinsNs
 above:X.s₀.heap.objs.size<=X.env.locals
 inj:∀ x y c,X.env.cells.lookup x=some c->X.env.cells.lookup y=some c->x=y
 has:∀ x,(X.env.kindOf x=some .cell\/X.env.kindOf x=some .free)->∃ c,X.env.cells.lookup x=some c
 cab:∀ x c,X.fn x=true->X.env.cells.lookup x=some c->X.s₀.heap.objs.size<=c
 hd:X.calm=true->X.A.handled=none
 frames:X.A.frames=some X.stack
 stk:X.stack=X.outer\/(X.stack=X.env::X.outer/\X.env.frame=some X.env.locals)
 exf:∀ b∈X.ex,b≠X.env.locals/\∀ x c,X.env.cells.lookup x=some c->c≠b
 bs:∀ b o,X.base.get? b=some o->X.s₀.heap.get? b=some o/\X.H₀ b=none
 bsz:X.base.objs.size<=X.s₀.heap.objs.size
 noex:∀ b o,X.base.get? b=some o->b∉X.ex
 exfs:∀ b∈X.ex,b∉X.fs
 funs:X.s₀.heap.FunFrames X.base X.outer
 frf:∀ b∈X.fs,X.H₀ b=none
structure Inv (X:Cx)(pins:List (Addr×Obj))(σ:List (Option V))(H:Hp)(s:Shared):Prop where
 ok:X.Ok
 os:s.os=X.s₀.os
 bare:AllBare s.gens
 base:Un X.fs X.ex X.H₀ H X.s₀.heap s.heap
 loc:∃ m,s.heap.Ns X.env.locals m/\∀ (i:Nat) (x:Str) (v:V),X.N[i]?=some x->σ[i]?=some (some v)->Vis X.env.scope x->∃ u,RelV v u/\Look X.env s.heap m x u
 cell:∀ x c,X.env.cells.lookup x=some c->∃ v,s.heap.IsCell c v
 free:H X.env.locals=none
 freeC:∀ x c,X.env.cells.lookup x=some c->H c=none
 pin:∀ p∈X.pn++pins,s.heap.get? p.1=some p.2/\H p.1=none/\p.1≠X.env.locals/\p.1∉X.fs/\∀ v,p.2.data≠.cell v
 hok:HOk X.prog X.w H s.heap
 len:σ.length=X.N.length
section
variable {X:Cx}{pins:List (Addr×Obj)}{σ:List (Option V)}{H H':Hp}{s:Shared}{h':Heap}
theorem Cx.Ok.nofr (ok:X.Ok){b:Addr}{o:Obj}(e:X.base.get? b=some o):b∉X.fs:=λ hb=>by
 have:=(ok.funs.mem hb).1;rw[e] at this;cases this
theorem Inv.bs (I:Inv X pins σ H s):∀ b o,X.base.get? b=some o->s.heap.get? b=some o/\H b=none:=λ b o e=>
 ⟨I.base.keep b o (I.ok.bs b o e).1 (I.ok.bs b o e).2 (I.ok.nofr e) (I.ok.noex b o e),I.base.free b o (I.ok.bs b o e).1 (I.ok.bs b o e).2 (I.ok.noex b o e)⟩
theorem Inv.bk (I:Inv X pins σ H s):∀ b o,X.base.get? b=some o->s.heap.get? b=some o:=λ b o e=>(I.bs b o e).1
theorem Inv.mod (I:Inv X pins σ H s):Mod X.K X.mg X.base:=I.ok.mod
theorem Inv.kIn (I:Inv X pins σ H s):X.K.In s.heap:=I.ok.mod.kin.keeps I.bk
theorem Inv.lt (I:Inv X pins σ H s):X.env.locals<s.heap.objs.size:=let ⟨_,hn,_⟩:=I.loc;hn.lt
theorem Inv.sz (I:Inv X pins σ H s):X.s₀.heap.objs.size<=s.heap.objs.size:=DJ I.ok.above (E7 I.lt)
theorem Inv.nofs (I:Inv X pins σ H s){a:Addr}(h:s.heap.objs.size<=a):a∉X.fs:=λ hb=>by
 obtain⟨_,o,ho,_⟩:=I.ok.funs.mem hb;exact absurd (Do (F6 ho) (DJ I.sz h)) (DZ _)
theorem Inv.cne (I:Inv X pins σ H s):∀ x c,X.env.cells.lookup x=some c->c≠X.env.locals:=λ x c e z=>by
 obtain⟨v,o,ho,hd⟩:=I.cell x c e;obtain⟨m,⟨o',es,ep,ho',hd',_⟩,_⟩:=I.loc;rw[z,ho'] at ho;cases ho;rw[hd'] at hd;cases hd
theorem Inv.funs (I:Inv X pins σ H s):s.heap.FunFrames X.base X.outer:=by
 have all:∀ (l:List Env),(∀ b∈frs l,b∈X.fs)->X.s₀.heap.FunFrames X.base l->s.heap.FunFrames X.base l:=by
  intro l
  induction l with
  | nil=>intro _ _;trivial
  | cons env r ih=>
   intro hs hl;obtain⟨hk,⟨L,o,hf,hn,ho,hd⟩,hr⟩:=hl;have hL:L∈X.fs:=hs L (by unfold frs;rw[ET,hf];exact CS);obtain⟨sl,e⟩:=I.base.slot L o ho (I.ok.frf L hL) hL λ z=>I.ok.exfs L z hL
   exact⟨hk,⟨L,_,hf,hn,e,hd⟩,ih (λ b hb=>hs b (by unfold frs;rw[ET,hf];exact CV _ hb)) hr⟩
 exact all X.outer (λ _ hb=>hb) I.ok.funs
theorem Inv.stack (I:Inv X pins σ H s):s.heap.FunFrames X.base X.stack:=by
 rcases I.ok.stk with e|⟨e,hf⟩
 ·rw[e];exact I.funs
 ·rw[e]
  obtain⟨m,hn,_⟩:=I.loc;refine .cons (by rw[I.ok.kind];decide) hf hn ?_ I.funs
  exact Heap.get?_none_of_le (DJ I.ok.bsz I.ok.above)
theorem Inv.stkSub (I:Inv X pins σ H s):∀ b∈frs X.stack,b∈X.env.locals::X.fs:=λ b hb=>by
 rcases I.ok.stk with e|⟨e,hf⟩
 ·rw[e] at hb;exact CV _ hb
 ·rw[e] at hb
  unfold frs at hb;rw[ET,hf] at hb;exact hb
theorem Inv.stkFree (I:Inv X pins σ H s):∀ b∈frs X.stack,H b=none:=λ b hb=>by
 rcases List.mem_cons.mp (I.stkSub b hb) with e|hb
 ·rw[e];exact I.free
 ·obtain⟨_,o,ho,_⟩:=I.ok.funs.mem hb
  exact I.base.free b o ho (I.ok.frf b hb) λ z=>I.ok.exfs b z hb
theorem Inv.step {g':Array GenState}{t':Nat}{d':Drawn}{ch:List Addr}(I:Inv X pins σ H s)
  (hch:∀ b∈ch,(b∈X.ex\/X.s₀.heap.objs.size<=b)/\b≠X.env.locals/\(∀ x c,X.env.cells.lookup x=some c->c≠b)/\∀ p∈X.pn++pins,p.1≠b)
  (keep:∀ b o,b≠X.env.locals->b∉X.fs->b∉ch->s.heap.get? b=some o->H b=none->h'.get? b=some o)
  (slot:∀ b o,b≠X.env.locals->b∈X.fs->b∉ch->s.heap.get? b=some o->H b=none->∃ sl,h'.get? b=some { o with slots:=sl }) (free:∀ b o,b∉ch->s.heap.get? b=some o->H b=none->H' b=none)
  (there:∀ b o,b∉ch->s.heap.get? b=some o->∃ o',h'.get? b=some o')
  (tups:∀ b xs,H b=some (.tup xs)->H' b=some (.tup xs)) (frzs:∀ b o u,H b=some (.frz o u)->H' b=some (.frz o u)) (tbls:∀ b ps,H b=some (.tbl ps)->∃ more,H' b=some (.tbl (ps++more)))
  (ns:∀ m,s.heap.Ns X.env.locals m->h'.Ns X.env.locals m) (hok:HOk X.prog X.w H' h') (hg:AllBare g'):
  Inv X pins σ H' { s with heap:=h',gens:=g',drawn:=d',toks:=t' }:=by
 have neL:∀ b o,X.s₀.heap.get? b=some o->b≠X.env.locals:=λ b o e=>De (Do (F6 e) I.ok.above)
 have neC:∀ b o,X.s₀.heap.get? b=some o->b∉X.ex->b∉ch:=λ b o e hx hb=>by
  rcases (hch b hb).1 with z|z
  ·exact hx z
  ·exact absurd (Do (F6 e) z) (DZ _)
 have cellK:∀ x c,X.env.cells.lookup x=some c->∀ v,s.heap.IsCell c v->h'.IsCell c v:=λ x c e v ⟨o,ho,hd⟩=>by
  have nch:c∉ch:=λ z=>(hch c z).2.2.1 x c e rfl
  by_cases hc:c∈X.fs
  ·obtain⟨sl,q⟩:=slot c o (I.cne x c e) hc nch ho (I.freeC x c e)
   exact⟨_,q,hd⟩
  ·exact⟨o,keep c o (I.cne x c e) hc nch ho (I.freeC x c e),hd⟩
 refine⟨I.ok,I.os,hg,⟨λ b o e n hb hx=>?_,λ b o e n hb hx=>?_,λ b o e n hx=>?_,λ b o e hx=>?_,λ b xs e=>tups b xs (I.base.tups b xs e),λ b o xs e=>frzs b o xs (I.base.frzs b o xs e),λ b ps e=>?_⟩,?_,λ x c e=>?_,?_,λ x c e=>?_,λ p hp=>?_,hok,I.len⟩
 ·exact keep b o (neL b o e) hb (neC b o e hx) (I.base.keep b o e n hb hx) (I.base.free b o e n hx)
 ·obtain⟨sl,e1⟩:=I.base.slot b o e n hb hx
  obtain⟨sl',e2⟩:=slot b _ (neL b o e) hb (neC b o e hx) e1 (I.base.free b o e n hx);exact⟨sl',e2⟩
 ·obtain⟨o',e1⟩:=I.base.there b o e hx
  exact free b o' (neC b o e hx) e1 (I.base.free b o e n hx)
 ·obtain⟨o',e1⟩:=I.base.there b o e hx
  exact there b o' (neC b o e hx) e1
 ·obtain⟨m1,e1⟩:=I.base.tbls b ps e
  obtain⟨m2,e2⟩:=tbls b _ e1;exact⟨m1++m2,by rw[e2,Ij]⟩
 ·obtain⟨m,hn,hl⟩:=I.loc
  refine⟨m,ns m hn,λ i x v e1 e2 e3=>?_⟩;obtain⟨u,r,l⟩:=hl i x v e1 e2 e3;refine⟨u,r,?_⟩
  rcases l with l|⟨k,c,e,z⟩
  ·exact .inl l
  ·exact .inr ⟨k,c,e,cellK x c e _ z⟩
 ·obtain⟨v,z⟩:=I.cell x c e
  exact⟨v,cellK x c e v z⟩
 ·obtain⟨m,⟨o,_,_,ho,_⟩,_⟩:=I.loc
  exact free _ o (λ z=>(hch _ z).2.1 rfl) ho I.free
 ·obtain⟨v,o,ho,hd⟩:=I.cell x c e
  exact free c o (λ z=>(hch c z).2.2.1 x c e rfl) ho (I.freeC x c e)
 ·obtain⟨e,n,ne,nf,d⟩:=I.pin p hp
  have nch:p.1∉ch:=λ z=>(hch p.1 z).2.2.2 p hp rfl
  exact⟨keep p.1 p.2 ne nf nch e n,free p.1 p.2 nch e n,ne,nf,d⟩
theorem Inv.un {t':Nat}(I:Inv X pins σ H s)(u:Un X.fs [] H H' s.heap h')(hok:HOk X.prog X.w H' h'):Inv X pins σ H' { s with heap:=h',toks:=t' }:=by
 obtain⟨m,⟨o,es,ep,ho,r⟩,_⟩:=id I.loc;obtain⟨sl,hL⟩:=u.any ho I.free (by simp);exact I.step (g':=s.gens) (d':=s.drawn) (ch:=[]) (λ _ z=>nomatch z) (λ b o _ hb _ e n=>u.keep b o e n hb (by simp)) (λ b o _ hb _ e n=>u.slot b o e n hb (by simp)) (λ b o _ e n=>u.free b o e n (by simp)) (λ b o _ e=>u.there b o e (by simp)) u.tups u.frzs u.tbls (λ m' hm=>by
  obtain⟨o',es',ep',ho',r'⟩:=hm;rw[ho] at ho';cases ho';exact⟨_,es',ep',hL,r'⟩) hok I.bare
theorem Inv.call {g':Array GenState}{t':Nat}{d':Drawn}{ch:List Addr}(I:Inv X pins σ H s)(u:Un (frs X.stack) ch H H' s.heap h')(hok:HOk X.prog X.w H' h')(hg:AllBare g')
  (hch:∀ b∈ch,(b∈X.ex\/X.s₀.heap.objs.size<=b)/\b≠X.env.locals/\(∀ x c,X.env.cells.lookup x=some c->c≠b)/\∀ p∈X.pn++pins,p.1≠b):
  Inv X pins σ H' { s with heap:=h',gens:=g',drawn:=d',toks:=t' }:=by
 obtain⟨m,⟨o,es,ep,ho,r⟩,_⟩:=id I.loc;obtain⟨sl,hL⟩:=u.any ho I.free λ z=>(hch _ z).2.1 rfl
 exact I.step (ch:=ch) hch (λ b o hL hb hc e n=>u.keep b o e n (λ z=>(List.mem_cons.mp (I.stkSub b z)).elim hL hb) hc) (λ b o _ _ hc e n=>u.any e n hc) (λ b o hc e n=>u.free b o e n hc) (λ b o hc e=>u.there b o e hc) u.tups u.frzs u.tbls (λ m' hm=>by
  obtain⟨o',es',ep',ho',r'⟩:=hm;rw[ho] at ho';cases ho';exact⟨_,es',ep',hL,r'⟩) hok hg
theorem Inv.turned {t':Nat}{it:Addr}(I:Inv X pins σ H s)(k:∀ b o,b≠it->s.heap.get? b=some o->h'.get? b=some o)(hn:H it=none)(hL:it≠X.env.locals)
  (h1:it∈X.ex\/X.s₀.heap.objs.size<=it) (h2:∀ x c,X.env.cells.lookup x=some c->c≠it) (h3:∀ p∈X.pn++pins,p.1≠it):Inv X pins σ H { s with heap:=h',toks:=t' }:=by
 have nit:∀ b u,H b=some u->b≠it:=λ b u e z=>by rw[z,hn] at e;cases e
 refine I.step (g':=s.gens) (d':=s.drawn) (ch:=[it]) (λ b hb=>?_) (λ b o _ _ hc e _=>k b o (λ z=>hc (by simp[z])) e) (λ b o _ _ hc e _=>⟨o.slots,k b o (λ z=>hc (by simp[z])) e⟩) (λ _ _ _ _ n=>n)
  (λ b o hc e=>⟨o,k b o (λ z=>hc (by simp[z])) e⟩) (λ _ _ e=>e) (λ _ _ _ e=>e) (λ b ps e=>⟨#[],by rw[e];simp⟩) (λ m hm=>?_) (λ b u e=>?_) I.bare
 ·have e:b=it:=by simpa using hb
  subst e;exact⟨h1,hL,h2,h3⟩
 ·obtain⟨o,es,ep,ho,r⟩:=hm
  exact⟨o,es,ep,k _ o (Ne.symm hL) ho,r⟩
 ·refine(I.hok b u e).stay (λ c v hc q=>k c v ?_ q) (λ _ q=>q) λ _ _ q=>q
  rcases hc with z|z
  ·rw[z];exact nit b u e
  ·exact nit c _ z
theorem Inv.tok (I:Inv X pins σ H s)(t:Nat):Inv X pins σ H { s with toks:=t }:=I.un (h':=s.heap) (t':=t) Un.refl I.hok
theorem Inv.kept {t':Nat}(I:Inv X pins σ H s)(k:∀ b u,s.heap.get? b=some u->h'.get? b=some u):Inv X pins σ H { s with heap:=h',toks:=t' }:=I.un (Un.kept k) (I.hok.kept k)
theorem Inv.laid {a:Addr}{o:HO}{t':Nat}(I:Inv X pins σ H s)(k:∀ b u,s.heap.get? b=some u->h'.get? b=some u)(hp:s.heap.objs.size<=a)(new:ObjOk X.prog X.w (upd H a o) h' a o):
  Inv X pins σ (upd H a o) { s with heap:=h',toks:=t' }:=I.un (Un.laid k hp (I.hok.fresh hp)) (I.hok.laid k hp new)
theorem Inv.write {x e:Addr}{o:HO}{t':Nat}(I:Inv X pins σ H s)(mu:Mut (H x))(he:e=x\/H e=some (.own x))(k:∀ b u,b≠e->s.heap.get? b=some u->h'.get? b=some u)(heo:∃ u,h'.get? e=some u)
  (new:ObjOk X.prog X.w (upd H x o) h' x o):Inv X pins σ (upd H x o) { s with heap:=h',toks:=t' }:=I.un (Un.write mu he k heo) (I.hok.write mu he k heo new)
theorem Inv.pins_of {pins':List (Addr×Obj)}(I:Inv X pins σ H s)(h:∀ p∈pins',s.heap.get? p.1=some p.2/\H p.1=none/\p.1≠X.env.locals/\p.1∉X.fs/\∀ v,p.2.data≠.cell v):Inv X pins' σ H s:=
 ⟨I.ok,I.os,I.bare,I.base,I.loc,I.cell,I.free,I.freeC,λ p hp=>(List.mem_append.mp hp).elim (λ z=>I.pin p (DC _ z)) (h p),I.hok,I.len⟩
theorem nO {N:List Str}(hN:N.Nodup){i j:Nat}{x:Str}(a:N[i]?=some x)(b:N[j]?=some x):i=j:=by
 obtain⟨h1,e1⟩:=List.getElem?_eq_some_iff.mp a;obtain⟨h2,e2⟩:=List.getElem?_eq_some_iff.mp b;exact(List.getElem_inj hN).mp (e1.trans e2.symm)
theorem kB {M:Model}{A:Around}{E:Value->Shared->Prop}{i:Nat}{x:Str}{v:V}{u:Value}{Q:Unit->Shared->Prop}(I:Inv X pins σ H s)(hN:X.N.Nodup)(hi:X.N[i]?=some x)(hx:Loc X.env.scope x)(r:RelV v u)
  (h:∀ s',Inv X pins (σ.set i (some v)) H s'->(∃ a,G0 a s.heap s'.heap/\(a=X.env.locals\/X.env.cells.lookup x=some a))->Q () s') (hf:autoParam (X.fn x=true\/X.env.scope.names.lookup x=some .local) ZB._auto_1):wpAny M A (storeName X.env x u) Q E s:=by
 obtain⟨m,hn,hl⟩:=id I.loc;have hcls:(X.env.scope.kind == .class || (X.env.scope.kind == .module&&X.env.locals != X.env.globals))=false:=by rw[I.ok.kind];rfl
 have hiσ:i<σ.length:=by rw[I.len];exact(List.getElem?_eq_some_iff.mp hi).1
 have cne:=I.cne;have tracked:∀ {a:Addr} {h':Heap},(∃ o,s.heap.get? a=some o/\H a=none)->G0 a s.heap h'->HOk X.prog X.w H h':=λ {a h'} ha hs b ob e=>by
  obtain⟨_,_,hfree⟩:=ha;refine(I.hok b ob e).stay (λ c w' hc q=>(hs.2 c ?_).trans q) (λ _ q=>q) λ _ _ q=>q
  rintro rfl
  rcases hc with rfl|hc
  ·rw[hfree] at e;cases e
  ·rw[hfree] at hc;cases hc
 rcases hx with hk|hk
 ·refine wpAny_storeName_local hk hn (λ h' hn' hs=>?_) hcls
  obtain⟨oL,_,_,hoL,_⟩:=id hn;refine h _ ⟨I.ok,I.os,I.bare,⟨λ b o e n hb hx=>?_,λ b o e n hb hx=>?_,I.base.free,λ b o e hx=>?_,I.base.tups,I.base.frzs,I.base.tbls⟩,⟨_,hn',λ j y v' e1 e2 e3=>?_⟩,λ y c e=>?_,I.free,I.freeC,λ p hp=>?_,tracked ⟨oL,hoL,I.free⟩ hs,by simpa using I.len⟩ ⟨_,hs,.inl rfl⟩
  ·exact(hs.2 b (De (Do (F6 e) I.ok.above))).trans (I.base.keep b o e n hb hx)
  ·obtain⟨sl,e1⟩:=I.base.slot b o e n hb hx
   exact⟨sl,(hs.2 b (De (Do (F6 e) I.ok.above))).trans e1⟩
  ·obtain⟨o',e1⟩:=I.base.there b o e hx
   exact⟨o',(hs.2 b (De (Do (F6 e) I.ok.above))).trans e1⟩
  ·by_cases hj:j=i
   ·subst hj
    rw[hi] at e1;cases e1;rw[Dp hiσ] at e2;cases e2;exact⟨u,r,.inl ⟨hk,by simp⟩⟩
   ·rw[DB (Ne.symm hj)] at e2
    obtain⟨u',r',q⟩:=hl j y v' e1 e2 e3;refine⟨u',r',?_⟩
    rcases q with ⟨k,e⟩|⟨k,c,e,z⟩
    ·refine .inl ⟨k,?_⟩
     have:y≠x:=λ e=>hj (nO hN e1 (e▸hi))
     simp[this,e]
    ·exact .inr ⟨k,c,e,z.sameBut hs (cne y c e)⟩
  ·obtain⟨w',z⟩:=I.cell y c e
   exact⟨w',z.sameBut hs (cne y c e)⟩
  ·obtain⟨e,n,ne,nf,d⟩:=I.pin p hp
   exact⟨(hs.2 p.1 ne).trans e,n,ne,nf,d⟩
 ·have hfn:X.fn x=true:=by
   rcases hf with z|z
   ·exact z
   ·rw[z] at hk;cases hk
  obtain⟨c,hc⟩:=I.ok.has x (.inl hk);obtain⟨w',z⟩:=I.cell x c hc;refine wpAny_storeName_cell I.ok.kind hk hc z (λ h' hc' hs=>?_);obtain⟨oc,hoc,hocd⟩:=id z;refine h { s with heap:=h' } ⟨I.ok,I.os,I.bare,⟨λ b o e n hb hx=>?_,λ b o e n hb hx=>?_,I.base.free,λ b o e hx=>?_,I.base.tups,I.base.frzs,I.base.tbls⟩,⟨m,hn.sameBut hs (Ne.symm (cne x c hc)),λ j y v' e1 e2 e3=>?_⟩,λ y c' e=>?_,I.free,I.freeC,λ p hp=>?_,tracked ⟨oc,hoc,I.freeC x c hc⟩ hs,by simpa using I.len⟩ ⟨c,hs,.inr hc⟩
  ·exact(hs.2 b (De (Do (F6 e) (I.ok.cab x c hfn hc)))).trans (I.base.keep b o e n hb hx)
  ·obtain⟨sl,e1⟩:=I.base.slot b o e n hb hx
   exact⟨sl,(hs.2 b (De (Do (F6 e) (I.ok.cab x c hfn hc)))).trans e1⟩
  ·obtain⟨o',e1⟩:=I.base.there b o e hx
   exact⟨o',(hs.2 b (De (Do (F6 e) (I.ok.cab x c hfn hc)))).trans e1⟩
  ·by_cases hj:j=i
   ·subst hj
    rw[hi] at e1;cases e1;rw[Dp hiσ] at e2;cases e2;exact⟨u,r,.inr ⟨.inl hk,c,hc,hc'⟩⟩
   ·rw[DB (Ne.symm hj)] at e2
    obtain⟨u',r',q⟩:=hl j y v' e1 e2 e3;refine⟨u',r',?_⟩
    rcases q with q|⟨k,c',e,z'⟩
    ·exact .inl q
    ·refine .inr ⟨k,c',e,z'.sameBut hs ?_⟩
     rintro rfl
     exact hj (nO hN e1 (I.ok.inj _ _ _ e hc▸hi))
  ·by_cases hcc:c'=c
   ·subst hcc;exact⟨_,hc'⟩
   ·obtain⟨w2,z2⟩:=I.cell y c' e
    exact⟨w2,z2.sameBut hs hcc⟩
  ·obtain⟨e,n,ne,nf,d⟩:=I.pin p hp
   refine⟨(hs.2 p.1 ?_).trans e,n,ne,nf,d⟩;intro q;rw[q,hoc] at e;have q':oc=p.2:=Option.some.inj e;exact d w' (by rw[<- q'];exact hocd)
theorem eY {M:Model}{A:Around}{E:Value->Shared->Prop}{i:Nat}{x:Str}{v:V}{u:Value}{Q:Unit->Shared->Prop}(I:Inv X pins σ H s)(hN:X.N.Nodup)(hi:X.N[i]?=some x)(hx:Loc X.env.scope x)(r:RelV v u)
  (h:∀ s',Inv X pins (σ.set i (some v)) H s'->Q () s') (hf:autoParam (X.fn x=true\/X.env.scope.names.lookup x=some .local) ZB._auto_1):wpAny M A (storeName X.env x u) Q E s:=
 kB I hN hi hx r (λ s' I' _=>h s' I') hf
theorem Inv.call' {s':Shared}{ch:List Addr}(I:Inv X pins σ H s)(ho:s'.os=s.os)(u:Un (frs X.stack) ch H H' s.heap s'.heap)(hok:HOk X.prog X.w H' s'.heap)(hg:AllBare s'.gens)
  (hch:∀ b∈ch,(b∈X.ex\/X.s₀.heap.objs.size<=b)/\b≠X.env.locals/\(∀ x c,X.env.cells.lookup x=some c->c≠b)/\∀ p∈X.pn++pins,p.1≠b):Inv X pins σ H' s':=by
 obtain⟨h',g',d',t',o'⟩:=s';have e:o'=s.os:=ho;subst e;exact I.call (g':=g') (t':=t') (d':=d') u hok hg hch
end
abbrev XK:=Value->Option Addr->Hp->Prop
abbrev St:=List (Option V)
abbrev VK:=V->Hp->Prop
abbrev TE:=St->Hp->VK->Prop
abbrev TT:=St->Hp->(Bool->Hp->Prop)->Prop
abbrev TA:=St->Hp->(List V->Hp->Prop)->Prop
structure Ends where
 nx:St->Hp->Prop
 rt:VK
 bk:St->Hp->Prop:=λ _ _=>False
 ct:St->Hp->Prop:=λ _ _=>False
abbrev TS:=Ends->St->Hp->Prop
def EP (X:Cx)(pins:List (Addr×Obj))(σ:St)(Q:VK)(u:Value)(s':Shared):Prop:=∃ v H',Inv X pins σ H' s'/\RelV v u/\Q v H'
def TP (X:Cx)(pins:List (Addr×Obj))(σ:St)(Q:Bool->Hp->Prop)(b:Bool)(s':Shared):Prop:=∃ H',Inv X pins σ H' s'/\Q b H'
def AP (X:Cx)(pins:List (Addr×Obj))(σ:St)(Q:List V->Hp->Prop)(us:List Value)(s':Shared):Prop:=∃ vs H',Inv X pins σ H' s'/\Vals vs us/\Q vs H'
def SP (X:Cx)(pins:List (Addr×Obj))(D:Ends)(f:Flow)(s':Shared):Prop:=
 match f with
 | .next=>∃ σ' H',Inv X pins σ' H' s'/\D.nx σ' H'
 | .brk=>∃ σ' H',Inv X pins σ' H' s'/\D.bk σ' H'
 | .cont=>∃ σ' H',Inv X pins σ' H' s'/\D.ct σ' H'
 | .ret u=>∃ v σ' H',Inv X pins σ' H' s'/\RelV v u/\D.rt v H'
def PE (X:Cx)(e:Expr)(t:TE):Prop:=
 ∀ (pins:List (Addr×Obj)) (s:Shared) (σ:St) (H:Hp) (Q:VK),Inv X pins σ H s->t σ H Q->wpAny (model X.prog X.w) X.A (eval e X.env) (EP X pins σ Q) X.xe s
def PT (X:Cx)(e:Expr)(t:TT):Prop:=
 ∀ (pins:List (Addr×Obj)) (s:Shared) (σ:St) (H:Hp) (Q:Bool->Hp->Prop),Inv X pins σ H s->t σ H Q->wpAny (model X.prog X.w) X.A (isTrue e X.env (eval e X.env)) (TP X pins σ Q) X.xe s
def PW (X:Cx)(e:Expr)(t:TT):Prop:=
 ∀ (whole:Sem Value) (pins:List (Addr×Obj)) (s:Shared) (σ:St) (H:Hp) (Q:Bool->Hp->Prop),Inv X pins σ H s->t σ H Q->wpAny (model X.prog X.w) X.A (isTrue e X.env whole) (TP X pins σ Q) X.xe s
theorem PW.pt {X:Cx}{e:Expr}{t:TT}(h:PW X e t):PT X e t:=h _
def PA (X:Cx)(es:List Expr)(t:TA):Prop:=
 ∀ (pos:Pos) (pins:List (Addr×Obj)) (s:Shared) (σ:St) (H:Hp) (Q:List V->Hp->Prop),Inv X pins σ H s->t σ H Q->wpAny (model X.prog X.w) X.A (spliced (backTo pos (starEach es X.env))) (AP X pins σ Q) X.xe s
def PS (X:Cx)(st:Stmt)(t:TS):Prop:=
 ∀ (pins:List (Addr×Obj)) (s:Shared) (σ:St) (H:Hp) (D:Ends),Inv X pins σ H s->t D σ H->wpAny (model X.prog X.w) X.A (exec st X.env) (SP X pins D) X.xe s
def PSs (X:Cx)(st:List Stmt)(t:TS):Prop:=
 ∀ (pins:List (Addr×Obj)) (s:Shared) (σ:St) (H:Hp) (D:Ends),Inv X pins σ H s->t D σ H->wpAny (model X.prog X.w) X.A (execs st X.env) (SP X pins D) X.xe s
theorem thn {α:Type}{t:Sem α}{Q Q':α->Shared->Prop}{M:Model}{A:Around}{E:Value->Shared->Prop}{s:Shared}(h:wpAny M A t Q E s)(hQ:∀ a s,Q a s->Q' a s):wpAny M A t Q' E s:=Ge h hQ λ _ _ x=>x
section
variable {X:Cx}
def bo (i:Nat):TE:=λ σ H Q=>∃ v,σ[i]?=some (some v)/\Q v H
def tC (v:V):TE:=λ _ H Q=>Q v H
theorem dt {i:Nat}{x:Str}{pos:Pos}(hN:X.N[i]?=some x)(hv:Vis X.env.scope x)(hd:autoParam ((x == ("__debug__":Str))=false) ZC._auto_1)(hcd:autoParam ((x == ("__classdict__":Str))=false) ZC._auto_1):PE X (.Name x pos) (bo i):=by
 intro pins s σ H Q I h;obtain⟨v,e,h⟩:=h;obtain⟨m,hn,hl⟩:=I.loc;obtain⟨u,r,l⟩:=hl i x v hN e hv;have fin:EP X pins σ Q u s:=⟨v,H,I,r,h⟩
 rcases l with ⟨hk,hm⟩|⟨hk,c,hc,hcell⟩
 ·exact wpAny_Name (HN I.ok.kind hk hn hm fin) hd
 ·rcases hk with hk|hk
  ·exact wpAny_Name (HY I.ok.kind hk hc hcell fin) hd
  ·exact wpAny_Name (wpAny_loadName_free I.ok.kind hk hc hcell fin hcd) hd
theorem fZ {i j pos}:PE X (.Constant (.int i) j pos) (tC (.int i)):=λ _ _ _ H _ I h=>wpAny_Constant_int ⟨.int i,H,I.tok _,⟨_,rfl⟩,h⟩
theorem BO {b j pos}:PE X (.Constant (.bool b) j pos) (tC (.bl b)):=λ _ _ _ H _ I h=>Constant_bool ⟨.bl b,H,I,rfl,h⟩
theorem lU {j pos}:PE X (.Constant .none j pos) (tC .non):=λ _ _ _ H _ I h=>HU ⟨.non,H,I,rfl,h⟩
theorem gL {x j pos}:PE X (.Constant (.str x) j pos) (tC (.str x)):=λ _ _ _ H _ I h=>Calls.Constant_str ⟨.str x,H,I.tok _,⟨_,rfl⟩,h⟩
def Gl (X:Cx)(x:Str):Prop:=X.env.kindOf x=some .globalImplicit
theorem lE {E:Value->Shared->Prop}{pins:List (Addr×Obj)}{s:Shared}{σ:St}{H:Hp}{x:Str}{u:Value}{pos:Pos}{Q:Value->Shared->Prop}(I:Inv X pins σ H s)(hg:Gl X x)(hm:X.mg x=some u)(h:Q u s)
  (hd:autoParam ((x == ("__debug__":Str))=false) ZC._auto_1):wpAny (model X.prog X.w) X.A (eval (.Name x pos) X.env) Q E s:=
 Hh I.ok.kind hg (Calls.loadGlobal_global (by rw[I.ok.glob];exact I.mod.glob.keeps I.bk) hm h) hd
theorem eP {E:Value->Shared->Prop}{pins:List (Addr×Obj)}{s:Shared}{σ:St}{H:Hp}{x:Str}{u:Value}{pos:Pos}{Q:Value->Shared->Prop}(I:Inv X pins σ H s)(hg:Gl X x)(hm:X.mg x=none)(hv:bootBuiltins x=some u)(h:Q u s)
  (hn:autoParam (x≠"__name__") ZC._auto_1) (hd:autoParam ((x == ("__debug__":Str))=false) ZC._auto_1):wpAny (model X.prog X.w) X.A (eval (.Name x pos) X.env) Q E s:=by
 obtain⟨mb,h1,h2⟩:=I.mod.blt;exact Hh I.ok.kind hg (Calls.loadGlobal_builtin (by rw[I.ok.glob];exact I.mod.glob.keeps I.bk) hm (by rw[I.ok.blt];exact h1.keeps I.bk) ((h2 x hn).trans hv) h) hd
theorem lx {x:Str}{v:V}{u:Value}{pos:Pos}(hg:Gl X x)(hm:X.mg x=some u)(r:RelV v u)(hd:autoParam ((x == ("__debug__":Str))=false) ZC._auto_1):PE X (.Name x pos) (tC v):=
 λ _ _ _ H _ I h=>lE I hg hm ⟨v,H,I,r,h⟩ hd
theorem xy {x:Str}{v:V}{u:Value}{pos:Pos}(hg:Gl X x)(hm:X.mg x=none)(hv:bootBuiltins x=some u)(r:RelV v u)(hn:autoParam (x≠"__name__") ZC._auto_1)(hd:autoParam ((x == ("__debug__":Str))=false) ZC._auto_1):PE X (.Name x pos) (tC v):=
 λ _ _ _ H _ I h=>eP I hg hm hv ⟨v,H,I,r,h⟩ hn hd
variable {a b:Expr}{ta tb:TE}{pos:Pos}
def PC (X:Cx)(op:CmpOp)(a b:Expr)(t:TE):Prop:=
 ∀ (pins:List (Addr×Obj)) (s:Shared) (σ:St) (H:Hp) (Q:VK),Inv X pins σ H s->t σ H Q ->
  wpAny (model X.prog X.w) X.A (eval a X.env) (λ v s₁=>wpAny (model X.prog X.w) X.A (eval b X.env) (λ u s₂=>wpAny (model X.prog X.w) X.A (compareOp op v u) (EP X pins σ Q) X.xe s₂) X.xe s₁) X.xe s
theorem nobehind (b:Expr){op:CmpOp}(h:op≠.In)(h2:op≠.NotIn):behindInMarks op b=false:=by
 have e1:(op == CmpOp.In)=false:=by cases op <;>first|rfl|exact absurd rfl h
 have e2:(op == CmpOp.NotIn)=false:=by cases op <;>first|rfl|exact absurd rfl h2
 cases b <;>simp[behindInMarks,e1,e2]
def BD (ta:TE):TE:=λ σ H Q=>ta σ H λ x H1=>Q (.bl (decide (x=.non))) H1
def za (ta:TE):TE:=λ σ H Q=>ta σ H λ x H1=>Q (.bl (!decide (x=.non))) H1
theorem RelV.none_iff {x:V}{v:Value}(r:RelV x v):(v == HL)=decide (x=.non):=by
 cases x with
 | non=>cases r;rfl
 | bl _=>cases r;rfl
 | int _=>obtain⟨t,rfl⟩:=r;rfl
 | str _=>obtain⟨t,rfl⟩:=r;rfl
 | byt _=>obtain⟨t,rfl⟩:=r;rfl
 | flt _=>obtain⟨t,rfl⟩:=r;rfl
 | ref _=>cases r;rfl
 | ty _=>cases r;rfl
theorem zR {j pos'}(ha:PE X a ta):PC X .Is a (.Constant .none j pos') (BD ta):=by
 intro pins s σ H Q I h;refine thn (ha pins s σ H _ I h) λ v s1 ⟨x,H1,I1,r1,q1⟩=>?_
 exact HU (is_none_gen ⟨.bl _,H1,I1,by rw[r1.none_iff];rfl,q1⟩)
theorem wZ {j pos'}(ha:PE X a ta):PC X .IsNot a (.Constant .none j pos') (za ta):=by
 intro pins s σ H Q I h;refine thn (ha pins s σ H _ I h) λ v s1 ⟨x,H1,I1,r1,q1⟩=>?_
 exact HU (isnot_none_gen ⟨.bl _,H1,I1,by rw[r1.none_iff];rfl,q1⟩)
def tB (t:TE):TT:=λ σ H Q=>t σ H λ x H1=>∃ c,x=.bl c/\Q c H1
theorem wz {op:CmpOp}{t:TE}(h:PC X op a b t)(h1:autoParam (behindInMarks op b=false) ZD._auto_1):PT X (.Compare a [op] [b] pos) (tB t):=by
 intro pins s σ H Q I hw;refine HG (thn (h pins s σ H _ I hw) λ v s1 h1=>thn h1 λ u s2 h2=>thn h2 λ c s3 ⟨x,H1,I1,r1,q1⟩=>?_) h1;obtain⟨d,rfl,q⟩:=q1;cases r1;exact GH ⟨H1,I1,q⟩
theorem AF {e:Expr}{t:TE}(h:PE X e t)(he:autoParam (∀ whole,isTrue e X.env whole=(do let v <- whole;standAt e.pos;holding [v] (truthy v))) ZE._auto_1):PT X e (tB t):=by
 intro pins s σ H Q I hw;refine isTrue_plain (thn (h pins s σ H _ I hw) λ v s1 ⟨x,H1,I1,r1,q1⟩=>?_) (he _);obtain⟨d,rfl,q⟩:=q1;cases r1;exact GH ⟨H1,I1,q⟩
variable {tA tB':TT}{rest:List Expr}
def Cu (t u:TT):TT:=λ σ H Q=>t σ H λ c H1=>if c=true then u σ H1 Q else Q false H1
def tOr (t u:TT):TT:=λ σ H Q=>t σ H λ c H1=>if c=true then Q true H1 else u σ H1 Q
def Cz (t:TT):TT:=λ σ H Q=>t σ H λ c H1=>Q (!c) H1
theorem xj (ha:PT X a tA):PW X (.BoolOp .And [a] pos) tA:=by
 intro wh pins s σ H Q I h;refine isTrue_and (thn (ha pins s σ H Q I h) λ c s1 e=>?_);cases c with
 | true=>exact isTrue_and_nil e
 | false=>exact e
theorem Az (ha:PT X a tA):PW X (.BoolOp .Or [a] pos) tA:=by
 intro wh pins s σ H Q I h;refine isTrue_or (thn (ha pins s σ H Q I h) λ c s1 e=>?_);cases c with
 | false=>exact isTrue_or_nil e
 | true=>exact e
theorem AJ (ha:PT X a tA)(hb:PW X (.BoolOp .And (b::rest) pos) tB'):PW X (.BoolOp .And (a::b::rest) pos) (Cu tA tB'):=by
 intro wh pins s σ H Q I h;refine isTrue_and (thn (ha pins s σ H _ I h) λ c s1 ⟨H1,I1,q1⟩=>?_);cases c with
 | true=>exact hb wh pins s1 σ H1 Q I1 q1
 | false=>exact⟨H1,I1,q1⟩
theorem B0 (ha:PT X a tA)(hb:PW X (.BoolOp .Or (b::rest) pos) tB'):PW X (.BoolOp .Or (a::b::rest) pos) (tOr tA tB'):=by
 intro wh pins s σ H Q I h;refine isTrue_or (thn (ha pins s σ H _ I h) λ c s1 ⟨H1,I1,q1⟩=>?_);cases c with
 | true=>exact⟨H1,I1,q1⟩
 | false=>exact hb wh pins s1 σ H1 Q I1 q1
theorem AW (ha:PT X a tA):PT X (.UnaryOp .Not a pos) (Cz tA):=by
 intro pins s σ H Q I h;exact isTrue_not (ha pins s σ H (λ c H1=>Q (!c) H1) I h)
def Bp (ta tb:TE):TE:=λ σ H Q=>ta σ H λ x H1=>∃ c,x=.bl c/\if c=true then tb σ H1 Q else Q (.bl false) H1
def B2 (ta:TE):TE:=λ σ H Q=>ta σ H λ x H1=>∃ c,x=.bl c/\Q (.bl (!c)) H1
theorem A4 {op}{t:TE}(h:PE X a t):PE X (.BoolOp op [a] pos) t:=λ pins s σ H Q I hw=>BoolOp_one (h pins s σ H Q I hw)
theorem AQ (ha:PE X a ta)(hb:PE X (.BoolOp .And (b::rest) pos) tb):PE X (.BoolOp .And (a::b::rest) pos) (Bp ta tb):=by
 intro pins s σ H Q I h;refine BoolOp_and (thn (ha pins s σ H _ I h) λ v s1 ⟨x,H1,I1,r1,q1⟩=>?_);obtain⟨c,rfl,q1⟩:=q1;cases r1;refine GH ?_
 cases c with
 | true=>exact hb pins s1 σ H1 Q I1 q1
 | false=>exact⟨.bl false,H1,I1,rfl,q1⟩
theorem Ai (ha:PE X a ta):PE X (.UnaryOp .Not a pos) (B2 ta):=by
 intro pins s σ H Q I h;refine UnaryOp_ (thn (ha pins s σ H _ I h) λ v s1 ⟨x,H1,I1,r1,q1⟩=>?_);obtain⟨c,rfl,q1⟩:=q1;cases r1;exact not_of (GH ⟨.bl (!c),H1,I1,rfl,q1⟩)
end
def SqL (K:F5)(H:Hp)(a:Addr)(xs:List V):Prop:=
 Rd H a (.lst xs) \/
  ∃ (o:Obj) (its:Array Value) (n:Nat),K.lookup a=some o/\o.cls=.type "list"/\o.dict=none/\o.data=.seq its n/\its.size<=sizeLine/\Vals xs its.toList
def SqT (K:F5)(H:Hp)(a:Addr)(xs:List V):Prop:=
 Rd H a (.tup xs) \/
  ∃ (o:Obj) (its:Array Value) (n:Nat),K.lookup a=some o/\o.cls=.type "tuple"/\o.data=.seq its n/\its.size<=sizeLine/\Vals xs its.toList
def CF:Value->Option V
 | .none=>some .non
 | .bool b=>some (.bl b)
 | .int i _=>some (.int i)
 | .str x _=>some (.str x)
 | .bytes b _=>some (.byt b)
 | .float b _=>some (.flt b)
 | .ref a=>some (.ref a)
 | .type n=>some (.ty n)
 | _=>none
theorem RelV.abs {x:V}{u:Value}(r:RelV x u):CF u=some x:=by
 cases x with
 | non=>cases r;rfl
 | bl _=>cases r;rfl
 | int _=>obtain⟨t,rfl⟩:=r;rfl
 | str _=>obtain⟨t,rfl⟩:=r;rfl
 | byt _=>obtain⟨t,rfl⟩:=r;rfl
 | flt _=>obtain⟨t,rfl⟩:=r;rfl
 | ref _=>cases r;rfl
 | ty _=>cases r;rfl
theorem RelV.inj {x y:V}{u:Value}(r:RelV x u)(q:RelV y u):x=y:=Option.some.inj (r.abs.symm.trans q.abs)
theorem Vals.inj {xs ys:List V}{us:List Value}(q:Vals xs us)(p:Vals ys us):xs=ys:=by
 induction q generalizing ys with
 | nil=>cases p;rfl
 | cons r t ih=>
  cases p with
  | cons r' t'=>rw[r.inj r',ih t']
section
variable {X:Cx}{pins:List (Addr×Obj)}{σ:St}{H:Hp}{s:Shared}{a:Addr}{xs ys:List V}
theorem SqL.of {K:F5}(h:H a=some (.lst xs)):SqL K H a xs:=.inl (.inl h)
theorem Inv.list (I:Inv X pins σ H s)(h:SqL X.K H a xs):∃ its:List Value,Vals xs its/\PlainL s.heap a its.toArray/\xs.length<=sizeLine:=by
 rcases h with h|⟨o,its,n,hk,hc,hd,hs,hz,r⟩
 ·obtain⟨z,its,n,r,e⟩:=h.ok I.hok
  exact⟨its,r,⟨_,n,e,rfl,rfl,rfl⟩,z⟩
 ·refine⟨its.toList,r,⟨o,n,I.kIn a o hk,hc,hd,by simpa using hs⟩,?_⟩
  have e:=r.length;simp only[GL] at e;omega
theorem Inv.tuple (I:Inv X pins σ H s)(h:SqT X.K H a xs):∃ its:List Value,Vals xs its/\IsTup s.heap a its.toArray/\xs.length<=sizeLine:=by
 rcases h with h|⟨o,its,n,hk,hc,hs,hz,r⟩
 ·obtain⟨z,its,r,p⟩:=h.ok I.hok
  exact⟨its,r,p,z⟩
 ·refine⟨its.toList,r,⟨o,I.kIn a o hk,hc,n,by simpa using hs⟩,?_⟩
  have e:=r.length;simp only[GL] at e;omega
theorem Inv.list_inj (I:Inv X pins σ H s)(h:SqL X.K H a xs)(h':SqL X.K H a ys):xs=ys:=by
 obtain⟨its,r,⟨o,n,e,_,_,d⟩,_⟩:=I.list h;obtain⟨its',r',⟨o',n',e',_,_,d'⟩,_⟩:=I.list h';rw[e] at e';cases e';rw[d] at d';injection d' with d1 _
 have:its=its':=by simpa using congrArg Array.toList d1
 subst this;exact r.inj r'
end
abbrev Cx.wish (X:Cx)(E:Value->Shared->Prop):Cx:={ X with xe:=E }
abbrev Cx.nox (X:Cx):Cx:=X.wish λ _ _=>False
theorem Cx.Ok.wish {X:Cx}(ok:X.Ok)(E:Value->Shared->Prop):(X.wish E).Ok:=
 ⟨ok.mod,ok.kind,ok.glob,ok.blt,ok.above,ok.inj,ok.has,ok.cab,ok.hd,ok.frames,ok.stk,ok.exf,ok.bs,ok.bsz,ok.noex,ok.exfs,ok.funs,ok.frf⟩
theorem Cx.Ok.unwish {X:Cx}{E:Value->Shared->Prop}(ok:(X.wish E).Ok):X.Ok:=
 ⟨ok.mod,ok.kind,ok.glob,ok.blt,ok.above,ok.inj,ok.has,ok.cab,ok.hd,ok.frames,ok.stk,ok.exf,ok.bs,ok.bsz,ok.noex,ok.exfs,ok.funs,ok.frf⟩
section
variable {X:Cx}{pins:List (Addr×Obj)}{σ:St}{H:Hp}{s:Shared}{E:Value->Shared->Prop}
theorem Inv.wish (I:Inv X pins σ H s)(E:Value->Shared->Prop):Inv (X.wish E) pins σ H s:=⟨I.ok.wish E,I.os,I.bare,I.base,I.loc,I.cell,I.free,I.freeC,I.pin,I.hok,I.len⟩
theorem Inv.unwish (I:Inv (X.wish E) pins σ H s):Inv X pins σ H s:=⟨I.ok.unwish,I.os,I.bare,I.base,I.loc,I.cell,I.free,I.freeC,I.pin,I.hok,I.len⟩
theorem SP.unwish {D:Ends}{f:Flow}{s':Shared}(h:SP (X.wish E) pins D f s'):SP X pins D f s':=by
 cases f with
 | next=>obtain⟨σ',H',I,q⟩:=h;exact⟨σ',H',I.unwish,q⟩
 | brk=>obtain⟨σ',H',I,q⟩:=h;exact⟨σ',H',I.unwish,q⟩
 | cont=>obtain⟨σ',H',I,q⟩:=h;exact⟨σ',H',I.unwish,q⟩
 | ret u=>obtain⟨v,σ',H',I,r,q⟩:=h;exact⟨v,σ',H',I.unwish,r,q⟩
theorem PE.nox {e:Expr}{t:TE}(h:PE X.nox e t):PE X e t:=λ pins s σ H Q I hw=>
 Ge (h pins s σ H Q (I.wish _) hw) (λ _ _ ⟨v,H',I',r,q⟩=>⟨v,H',I'.unwish,r,q⟩) λ _ _ z=>Gm z
theorem PT.nox {e:Expr}{t:TT}(h:PT X.nox e t):PT X e t:=λ pins s σ H Q I hw=>
 Ge (h pins s σ H Q (I.wish _) hw) (λ _ _ ⟨H',I',q⟩=>⟨H',I'.unwish,q⟩) λ _ _ z=>Gm z
theorem PSs.nox {st:List Stmt}{t:TS}(h:PSs X.nox st t):PSs X st t:=λ pins s σ H D I hw=>
 Ge (h pins s σ H D (I.wish _) hw) (λ _ _ q=>q.unwish) λ _ _ z=>Gm z
end
section
variable {X:Cx}{st:Stmt}{rest:List Stmt}{t u:TS}{e:Expr}{te:TE}{pos:Pos}
def ny:TS:=λ D σ H=>D.nx σ H
def du (t u:TS):TS:=λ D σ H=>t { D with nx:=u D } σ H
theorem gI:PSs X [] ny:=λ _ _ σ H _ I h=>G1 ⟨σ,H,I,h⟩
theorem aN (h1:PS X st t)(h2:PSs X rest u):PSs X (st::rest) (du t u):=by
 intro pins s σ H D I h;refine wpAny_execs_cons (thn (h1 pins s σ H { D with nx:=u D } I h) λ f s1 q=>?_);cases f with
 | next=>
  obtain⟨σ',H',I',q⟩:=q;exact h2 pins s1 σ' H' D I' q
 | ret v=>exact q
 | brk=>exact q
 | cont=>exact q
theorem bz (h1:PS X st t):PSs X [st] t:=by
 intro pins s σ H D I h;refine wpAny_execs_cons (thn (h1 pins s σ H D I h) λ f s1 q=>?_);cases f with
 | next=>exact G1 q
 | ret v=>exact q
 | brk=>exact q
 | cont=>exact q
def A7:TS:=λ D σ H=>D.bk σ H
theorem ue:PS X (.Break pos) A7:=λ _ _ σ H _ I h=>wpAny_Break ⟨σ,H,I,h⟩
theorem Inv.quiet {pins:List (Addr×Obj)}{σ:St}{H:Hp}{s:Shared}(I:Inv X pins σ H s):interactive X.env=false:=by simp[interactive,I.ok.kind]
def iV (te:TE):TS:=λ D σ H=>te σ H λ _ H1=>D.nx σ H1
theorem cS (he:PE X e te)(hs:autoParam (swapsWith e none pos.line X.env=pure false) ZF._auto_1):PS X (.Expr e pos) (iV te):=by
 intro pins s σ H D I h;exact wpAny_Expr_any (thn (he pins s σ H _ I h) λ v s1 ⟨x,H1,I1,r1,q1⟩=>⟨σ,H1,I1,q1⟩) I.quiet hs
def my (te:TE):TS:=λ D σ H=>te σ H D.rt
theorem dJ (he:PE X e te):PS X (.Return (some e) pos) (my te):=by
 intro pins s σ H D I h;exact wpAny_Return_some (thn (he pins s σ H _ I h) λ v s1 ⟨x,H1,I1,r1,q1⟩=>⟨x,σ,H1,I1,r1,q1⟩)
def rM (c:TT)(t u:TS):TS:=λ D σ H=>c σ H λ b H1=>if b=true then t D σ H1 else u D σ H1
theorem kh {c:Expr}{a b:List Stmt}{tc:TT}(hc:PT X c tc)(ha:PSs X a t)(hb:PSs X b u):PS X (.If c a b pos) (rM tc t u):=by
 intro pins s σ H D I h;refine wpAny_If (thn (hc pins s σ H _ I h) λ d s1 ⟨H1,I1,q1⟩=>?_);cases d with
 | true=>exact ha pins s1 σ H1 D I1 q1
 | false=>exact hb pins s1 σ H1 D I1 q1
end
abbrev TG:=V->St->Hp->(St->Hp->Prop)->Prop
abbrev TGs:=List V->St->Hp->(St->Hp->Prop)->Prop
def PG (X:Cx)(target:Expr)(t:TG):Prop:=
 ∀ (pins:List (Addr×Obj)) (s:Shared) (σ:St) (H:Hp) (v:V) (u:Value) (Q:St->Hp->Prop),Inv X pins σ H s->RelV v u->t v σ H Q ->
  wpAny (model X.prog X.w) X.A (assign target X.env u) (λ _ s'=>∃ σ' H',Inv X pins σ' H' s'/\Q σ' H') X.xe s
def PGs (X:Cx)(ts:List Expr)(t:TGs):Prop:=
 ∀ (pins:List (Addr×Obj)) (s:Shared) (σ:St) (H:Hp) (vs:List V) (us:List Value) (Q:St->Hp->Prop),Inv X pins σ H s->Vals vs us->t vs σ H Q ->
  wpAny (model X.prog X.w) X.A (assignInOrder ((assignEach ts X.env).map (·.2)) us) (λ _ s'=>∃ σ' H',Inv X pins σ' H' s'/\Q σ' H') X.xe s
abbrev uk:=V->V->V->Hp->(Hp->Prop)->Prop
def AM (X:Cx)(t:uk):Prop:=
 ∀ (pins:List (Addr×Obj)) (s:Shared) (σ:St) (H:Hp) (o i v:V) (ov iv u:Value) (Q:Hp->Prop),Inv X pins σ H s->RelV o ov->RelV i iv->RelV v u->t o i v H Q ->
  wpAny (model X.prog X.w) X.A (setItem ov iv u) (λ _ s'=>∃ H',Inv X pins σ H' s'/\Q H') X.xe s
abbrev TIp:=V->V->Hp->VK->Prop
def PIp (X:Cx)(op:Operator)(t:TIp):Prop:=
 ∀ (pins:List (Addr×Obj)) (s:Shared) (σ:St) (H:Hp) (x y:V) (v u:Value) (Q:VK),Inv X pins σ H s->RelV x v->RelV y u->t x y H Q ->
  wpAny (model X.prog X.w) X.A (inplaceOp op v u) (EP X pins σ Q) X.xe s
section
variable {X:Cx}{pos:Pos}
def dS (i:Nat):TG:=λ v σ H Q=>Q (σ.set i (some v)) H
theorem gy {i:Nat}{x:Str}(hN:X.N.Nodup)(hi:X.N[i]?=some x)(hx:Loc X.env.scope x)(hf:autoParam (X.fn x=true\/X.env.scope.names.lookup x=some .local) ZB._auto_1):PG X (.Name x pos) (dS i):=by
 intro pins s σ H v u Q I r h;exact wpAny_assign_Name (eY I hN hi hx r (λ s' I'=>⟨_,H,I',h⟩) hf)
def Bq:TGs:=λ vs σ H Q=>vs=[]/\Q σ H
def yG (t:TG)(u:TGs):TGs:=λ vs σ H Q=>∃ v r,vs=v::r/\t v σ H λ σ' H'=>u r σ' H' Q
theorem p6:PGs X [] Bq:=by
 intro pins s σ H vs us Q I r h;obtain⟨e,h⟩:=h;subst e;cases r;exact assignInOrder_nil ⟨σ,H,I,h⟩
theorem mF {e:Expr}{es:List Expr}{t:TG}{u:TGs}(h1:PG X e t)(h2:PGs X es u)
  (hs:autoParam ((assignEach (e::es) X.env).map (·.2)=assign e X.env::(assignEach es X.env).map (·.2)) ZF._auto_1):PGs X (e::es) (yG t u):=by
 intro pins s σ H vs us Q I r h;obtain⟨v,vr,e1,h⟩:=h;subst e1;cases r with
 | cons r rr=>
  rw[hs];refine Hf (thn (h1 pins s σ H _ _ _ I r h) λ _ s1 ⟨σ1,H1,I1,q1⟩=>?_);exact h2 pins s1 σ1 H1 _ _ Q I1 rr q1
def BF (K:F5)(n:Nat)(t:TGs):TG:=λ v σ H Q=>∃ a xs,v=.ref a/\SqT K H a xs/\xs.length=n/\t xs σ H Q
theorem o2 {es:List Expr}{k:Nat}{t:TGs}{n:Nat}(hc:X.calm=true)(h:PGs X es t)
  (hn:autoParam ((assignEach es X.env).length=n) ZF._auto_1) (hst:autoParam ((assignEach es X.env).findIdx? (·.1)=none) ZF._auto_1):PG X (.Tuple es k pos) (BF X.K n t):=by
 intro pins s σ H v u Q I r hw;obtain⟨a,xs,e1,hq,hl,hw⟩:=hw;subst e1;cases r;obtain⟨its,rv,ht,hz⟩:=I.tuple hq;refine assign_Tuple_tuple (I.ok.hd hc) ht (by simp[hn,<- hl,rv.length]) hst λ h' hx=>?_
 have I1:Inv X pins σ H { s with heap:=h' }:=I.kept (t':=s.toks) λ b o e=>hx b o (De (F6 e)) e
 exact h pins _ σ H xs _ Q I1 (by simpa using rv) hw
def Bk (to ti:TE)(t:uk):TG:=λ v σ H Q=>to σ H λ o H1=>ti σ H1 λ i H2=>t o i v H2 λ H3=>Q σ H3
theorem uZ {o i:Expr}{to ti:TE}{t:uk}(ho:PE X o to)(hi:PE X i ti)(hs:AM X t)
  (ha:autoParam (∀ v,assign (.Subscript o i pos) X.env v=(do
   let ov <- holding [v] (eval o X.env)
   let iv <- holding [v,ov] (eval i X.env)
   standAt pos
   holding [v,ov,iv] (setItem ov iv v)
   release [v,ov,iv] [])) ZE._auto_1):PG X (.Subscript o i pos) (Bk to ti t):=by
 intro pins s σ H v u Q I r h;rw[ha];refine F9 (GG (thn (ho pins s σ H _ I h) λ ov s1 ⟨x,H1,I1,r1,q1⟩=>?_));refine F9 (GG (thn (hi pins s1 σ H1 _ I1 q1) λ iv s2 ⟨y,H2,I2,r2,q2⟩=>?_));refine F9 (GY (F9 (GG (thn (hs pins s2 σ H2 x y v ov iv u _ I2 r1 r2 r q2) λ _ s3 ⟨H3,I3,q3⟩=>?_))));exact wpAny_release ⟨σ,H3,I3,q3⟩
def jR (te:TE)(g:TG):TS:=λ D σ H=>te σ H λ x H1=>g x σ H1 D.nx
theorem lu {tg e:Expr}{te:TE}{g:TG}(he:PE X e te)(hg:PG X tg g)(hs:autoParam (swapsWithSole [tg] e pos.line X.env=pure false) ZF._auto_1)(hw:autoParam (swappedStores [tg] e X.env=pure none) ZF._auto_1)
  (h1:autoParam ((assignEach [tg] X.env).map (·.2)=[assign tg X.env]) ZF._auto_1):PS X (.Assign [tg] e pos) (jR te g):=by
 intro pins s σ H D I h;refine wpAny_Assign_stores (thn (he pins s σ H _ I h) λ v s1 ⟨x,H1,I1,r1,q1⟩=>?_) hs hw;rw[h1];exact thn (hg pins s1 σ H1 x v _ I1 r1 q1) λ _ s2 q=>q
theorem dq {i:Nat}{x:Str}{e:Expr}{te:TE}{pos':Pos}(hN:X.N.Nodup)(hi:X.N[i]?=some x)(hx:Loc X.env.scope x)(he:PE X e te)(hs:autoParam (swapsWith e (some (.Name x pos')) pos.line X.env=pure false) ZF._auto_1)(hf:autoParam (X.fn x=true\/X.env.scope.names.lookup x=some .local) ZB._auto_1):
  PS X (.Assign [.Name x pos'] e pos) (jR te (dS i)):=by
 intro pins s σ H D I h;refine wpAny_Assign_Name (thn (he pins s σ H _ I h) λ v s1 ⟨y,H1,I1,r1,q1⟩=>?_) hs;exact eY I1 hN hi hx r1 (λ s2 I2=>⟨_,H1,I2,q1⟩) hf
def CD (i j:Nat)(ta:TA):TS:=λ D σ H=>ta σ H λ vs H1=>∃ v w,vs=[v,w]/\D.nx ((σ.set i (some v)).set j (some w)) H1
theorem AI {i j:Nat}{x y:Str}{a b:Expr}{ta:TA}{px py pt:Pos}{kt k2 pt2}(hc:X.calm=true)(hN:X.N.Nodup)(hi:X.N[i]?=some x)(hj:X.N[j]?=some y)(hij:i≠j)
  (hx:X.env.scope.names.lookup x=some .local) (hy:X.env.scope.names.lookup y=some .local) (ha:PA X [a,b] ta)
  (hw:swappedStores [.Tuple [.Name x px,.Name y py] kt pt] (.Tuple [a,b] k2 pt2) X.env=pure (some [x,y]))
  (hs:autoParam (swapsWithSole [.Tuple [.Name x px,.Name y py] kt pt] (.Tuple [a,b] k2 pt2) pos.line X.env=pure false) ZF._auto_1):
  PS X (.Assign [.Tuple [.Name x px,.Name y py] kt pt] (.Tuple [a,b] k2 pt2) pos) (CD i j ta):=by
 intro pins s σ H D I h;rw[exec_Assign_arm];refine F9 (GY ?_);rw[hs];refine F9 (Gc ?_);rw[if_neg (by decide)];refine F9 (Tuple_ (thn (ha _ pins s σ H _ I h) λ us s1 ⟨vs,H1,I1,r1,q1⟩=>?_));obtain⟨v,w,e1,q1⟩:=q1;subst e1;obtain⟨u1,u2,rfl,rv,rw'⟩:∃ u1 u2,us=[u1,u2]/\RelV v u1/\RelV w u2:=by
  cases r1 with
  | cons p q=>
   cases q with
   | cons p' q'=>
    cases q';exact⟨_,_,rfl,p,p'⟩
 refine wpAny_newObj_type ?_ (by show 2<=sizeLine;decide)
 have I2:Inv X pins σ H1 { s1 with heap:=s1.heap.push { cls:=.type "tuple",data:=.seq [u1,u2].toArray } }:=I1.kept (t':=s1.toks) λ b o e=>F8 _ e
 rw[hw];refine F9 (Gc ?_);show wpAny (model X.prog X.w) X.A (do rule "assign.swapped-stores";let items <- unpackItems (.ref s1.heap.objs.size) 2 none;assignInOrder [λ v=>bindName X.env y v,λ v=>bindName X.env x v] items.reverse;pure Flow.next) _ _ _
 refine F9 (wpAny_rule (F9 (unpackItems_tuple (items:=#[u1,u2]) (I.ok.hd hc) (IsTup.new s1.heap _) λ h' hx'=>?_)));have I3:=I2.kept (h':=h') (t':=s1.toks) λ b o e=>hx' b o (De (F6 e)) e
 show wpAny _ _ (assignInOrder [λ v=>bindName X.env y v,λ v=>bindName X.env x v] [u2,u1] >>= λ _=>pure Flow.next) _ _ _
 refine F9 (Hf (wpAny_bindName (eY I3 hN hj (.inl hy) rw' (λ s2 I4=>?_) (.inr hy))));refine Hf (wpAny_bindName (eY I4 hN hi (.inl hx) rv (λ s3 I5=>assignInOrder_nil (Gc ?_)) (.inr hx)));rw[List.set_comm _ _ (Ne.symm hij)] at I5;exact⟨_,H1,I5,q1⟩
def Cp (i:Nat)(te:TE)(ti:TIp):TS:=λ D σ H=>∃ x,σ[i]?=some (some x)/\te σ H λ y H1=>ti x y H1 λ z H2=>D.nx (σ.set i (some z)) H2
theorem zY {i:Nat}{x:Str}{e:Expr}{te:TE}{op:Operator}{ti:TIp}{pos':Pos}(hN:X.N.Nodup)(hi:X.N[i]?=some x)(hx:Loc X.env.scope x)(he:PE X e te)(ho:PIp X op ti)(hf:autoParam (X.fn x=true\/X.env.scope.names.lookup x=some .local) ZB._auto_1):
  PS X (.AugAssign (.Name x pos') op e pos) (Cp i te ti):=by
 intro pins s σ H D I h;obtain⟨v,e1,h⟩:=h;obtain⟨m,hn,hl⟩:=I.loc;have vis:Vis X.env.scope x:=by rcases hx with k|k;exact .inl k;exact .inr (.inl k)
 obtain⟨u,r,l⟩:=hl i x v hi e1 vis;refine wpAny_AugAssign_Name ?_
 have go:wpAny (model X.prog X.w) X.A (eval e X.env) (λ w s₂=>wpAny (model X.prog X.w) X.A (inplaceOp op u w) (λ r s₃=>wpAny (model X.prog X.w) X.A (storeName X.env x r) (λ _=>SP X pins D .next) X.xe s₃) X.xe s₂) X.xe s:=by
  refine thn (he pins s σ H _ I h) λ w s1 ⟨y,H1,I1,r1,q1⟩=>?_
  refine thn (ho pins s1 σ H1 v y u w _ I1 r r1 q1) λ z s2 ⟨zv,H2,I2,r2,q2⟩=>?_
  exact eY I2 hN hi hx r2 (λ s3 I3=>⟨_,H2,I3,q2⟩) hf
 rcases l with ⟨hk,hm⟩|⟨hk,c,hc,hcell⟩
 ·exact HN I.ok.kind hk hn hm go
 ·rcases hk with hk|hk
  ·exact HY I.ok.kind hk hc hcell go
  ·rcases hx with k|k
   ·have:X.env.scope.names.lookup x=some .free:=hk
    rw[k] at this;cases this
   ·have:X.env.scope.names.lookup x=some .free:=hk
    rw[k] at this;cases this
def BN (to ti te:TE)(tget:V->V->Hp->VK->Prop)(tip:TIp)(tset:uk):TS:=λ D σ H=>to σ H λ o H1=>ti σ H1 λ i H2=>tget o i H2 λ x H3=>te σ H3 λ y H4=>tip x y H4 λ z H5=>tset o i z H5 λ H6=>D.nx σ H6
def BB (X:Cx)(t:V->V->Hp->VK->Prop):Prop:=
 ∀ (pins:List (Addr×Obj)) (s:Shared) (σ:St) (H:Hp) (o i:V) (ov iv:Value) (Q:VK),Inv X pins σ H s->RelV o ov->RelV i iv->t o i H Q ->
  wpAny (model X.prog X.w) X.A (getItem ov iv) (EP X pins σ Q) X.xe s
theorem yC {o i e:Expr}{to ti te:TE}{tget:V->V->Hp->VK->Prop}{tip:TIp}{tset:uk}{op:Operator}{tpos:Pos}(ho:PE X o to)(hi:PE X i ti)(hg:BB X tget)(he:PE X e te)(hp:PIp X op tip)(hs:AM X tset)
  (ha:autoParam (∀ ov iv new,augStore i ov iv new=(do holding [new,ov,iv] (setItem ov iv new);release [new,ov,iv] [];pure .next)) ZG._auto_1):PS X (.AugAssign (.Subscript o i tpos) op e pos) (BN to ti te tget tip tset):=by
 intro pins s σ H D I h;refine wpAny_AugAssign_SubscriptAny (thn (ho pins s σ H _ I h) λ ov s1 ⟨x1,H1,I1,r1,q1⟩=>?_) ha;refine thn (hi pins s1 σ H1 _ I1 q1) λ iv s2 ⟨x2,H2,I2,r2,q2⟩=>?_
 refine thn (hg pins s2 σ H2 x1 x2 ov iv _ I2 r1 r2 q2) λ old s3 ⟨x3,H3,I3,r3,q3⟩=>?_
 refine thn (he pins s3 σ H3 _ I3 q3) λ v s4 ⟨x4,H4,I4,r4,q4⟩=>?_
 refine thn (hp pins s4 σ H4 x3 x4 old v _ I4 r3 r4 q4) λ new s5 ⟨x5,H5,I5,r5,q5⟩=>?_
 exact thn (hs pins s5 σ H5 x1 x2 x5 ov iv new _ I5 r1 r2 r5 q5) λ _ s6 ⟨H6,I6,q6⟩=>⟨σ,H6,I6,q6⟩
def ipI (f:Int->Int->Int):TIp:=λ x y H Q=>∃ i j,x=.int i/\y=.int j/\Q (.int (f i j)) H
theorem u0:PIp X .Sub (ipI λ i j=>i-j):=by
 intro pins s σ H x y v u Q I r1 r2 h;obtain⟨i,j,e1,e2,q⟩:=h;subst e1;subst e2;obtain⟨t,rfl⟩:=r1;obtain⟨t',rfl⟩:=r2;exact isub_int ⟨.int _,H,I.tok _,⟨_,rfl⟩,q⟩
end
section
variable {X:Cx}{pos:Pos}
def uS (c:TT)(tb:TS):TS:=λ D σ H=>∃ W:Nat->St->Hp->Prop,(∃ m,W m σ H)/\∀ m σ H,W m σ H ->
 c σ H λ b H1=>if b=true then ∃ N:St->Hp->Prop,(∀ σ' H',N σ' H'->∃ m',m'<m/\W m' σ' H')/\tb { D with nx:=N,ct:=N,bk:=D.nx } σ H1 else D.nx σ H1
theorem nF {c:Expr}{body:List Stmt}{tc:TT}{tb:TS}(hp:PassesOwn (model X.prog X.w) X.A X.env X.xe)(hc:PT X c tc)(hb:PSs X body tb):PS X (.While c body [] pos) (uS tc tb):=by
 intro pins s σ H D I h;obtain⟨W,⟨m0,w0⟩,turn⟩:=h;refine wpAny_While (codeAny_whileLoop (λ n s'=>∃ σ' H',Inv X pins σ' H' s'/\W n σ' H') ?_ m0 ⟨σ,H,I,w0⟩)
 rintro n s1 ⟨σ1,H1,I1,w1⟩
 refine GE hp (thn (hc pins s1 σ1 H1 _ I1 (turn n σ1 H1 w1)) λ b s2 ⟨H2,I2,q2⟩=>?_);cases b with
 | true=>
  obtain⟨N,hN,q2⟩:=q2;rw[if_pos rfl];refine GE hp (thn (hb pins s2 σ1 H2 _ I2 q2) λ f s3 q3=>?_);cases f with
  | next=>
   obtain⟨σ3,H3,I3,n3⟩:=q3;obtain⟨m',hm,w3⟩:=hN σ3 H3 n3;exact⟨m',hm,σ3,H3,I3,w3⟩
  | cont=>
   obtain⟨σ3,H3,I3,n3⟩:=q3;obtain⟨m',hm,w3⟩:=hN σ3 H3 n3;exact⟨m',hm,σ3,H3,I3,w3⟩
  | brk=>exact q3
  | ret v=>exact q3
 | false=>
  rw[if_neg Dj];exact G1 ⟨σ1,H2,I2,q2⟩
end
structure It where
 go:Nat->Hp->Prop
 yld:Nat->Hp->V->Hp->Prop
 stop:Nat->Hp->Prop
def i9 (X:Cx)(pins:List (Addr×Obj))(H:Hp)(b:Addr):Prop:=
 H b=none/\b≠X.env.locals/\b∉X.fs/\(b∈X.ex\/X.s₀.heap.objs.size<=b)/\(∀ x c,X.env.cells.lookup x=some c->c≠b)/\∀ p∈X.pn++pins,p.1≠b
theorem Inv.fpOk {X:Cx}{pins:List (Addr×Obj)}{σ:St}{H H':Hp}{s:Shared}{b:Addr}(I:Inv X pins σ H s)(hb:s.heap.objs.size<=b)(hn:H' b=none):i9 X pins H' b:=by
 refine⟨hn,E8 (Do I.lt hb),I.nofs hb,.inr (DJ I.sz hb),λ x c e z=>?_,λ p hp z=>?_⟩
 ·obtain⟨v,q⟩:=I.cell x c e
  exact absurd (Do q.lt (by rw[z];exact hb)) (DZ _)
 ·exact absurd (Do (F6 (I.pin p hp).1) (by rw[z];exact hb)) (DZ _)
structure Turn (P:Program)(w:World)(K:F5)(tg:Expr)(J:It)(fp:List Addr)(it:Addr)(tn:Nat->Heap->Prop):Prop where
 mem:it∈fp
 obj:∀ i h,tn i h->∀ b∈fp,∃ o,h.get? b=some o/\∀ v,o.data≠.cell v
 keep:∀ i h h',tn i h->(∀ b∈fp,∀ o,h.get? b=some o->h'.get? b=some o)->tn i h'
 item:∀ (X:Cx),X.prog=P->X.w=w->X.K=K->X.calm=true->∀ (i:Nat) (pins:List (Addr×Obj)) (s:Shared) (σ:St) (H:Hp) (E:Value->Shared->Prop),Inv X pins σ H s->(∀ b∈fp,i9 X pins H b)->tn i s.heap->J.go i H ->
  wpAny (model P w) X.A (pyNext (.ref it)) (λ r s1=>∃ u,r=some u /\
   wpAny (model P w) X.A (letOwnedTupleGo tg (.ref it) u) (λ _ s2=>∃ x H',Inv X pins σ H' s2/\RelV x u/\J.yld i H x H'/\tn (i+1) s2.heap/\∀ b∈fp,H' b=none) E s1) E s
 done:∀ (X:Cx),X.prog=P->X.w=w->X.K=K->X.calm=true->∀ (i:Nat) (pins:List (Addr×Obj)) (s:Shared) (σ:St) (H:Hp) (E:Value->Shared->Prop),Inv X pins σ H s->(∀ b∈fp,i9 X pins H b)->tn i s.heap->J.stop i H ->
  wpAny (model P w) X.A (pyNext (.ref it)) (λ r s1=>r=none/\Inv X pins σ H s1) E s
 self:∀ (A:Around) (i:Nat) (s:Shared) (Q:Value->Shared->Prop) (E:Value->Shared->Prop),tn i s.heap->Q (.ref it) s->wpAny (model P w) A (pyIter (.ref it)) Q E s
abbrev TI:=St->Hp->(It->Hp->Prop)->Prop
def PIE (X:Cx)(pins:List (Addr×Obj))(σ:St)(tg:Expr)(R:It->Hp->Prop)(itv:Value)(s2:Shared):Prop:=
 ∃ (it:Addr) (fp:List Addr) (tn:Nat->Heap->Prop) (J:It) (H':Hp),itv=.ref it/\Inv X pins σ H' s2/\Turn X.prog X.w X.K tg J fp it tn/\tn 0 s2.heap/\(∀ b∈fp,i9 X pins H' b)/\R J H'
def PI (X:Cx)(tg iter:Expr)(wi:TI):Prop:=
 ∀ (pins:List (Addr×Obj)) (s:Shared) (σ:St) (H:Hp) (R:It->Hp->Prop),Inv X pins σ H s->wi σ H R ->
  wpAny (model X.prog X.w) X.A (eval iter X.env) (λ v s1=>wpAny (model X.prog X.w) X.A (pyIter v) (PIE X pins σ tg R) X.xe s1) X.xe s
theorem vK {M:Model}{A:Around}{E:Value->Shared->Prop}{s:Shared}{tg:Expr}{it:Addr}{u:Value}{o:Obj}{n:String}{vs:Array Value}{Q:Unit->Shared->Prop}(ho:s.heap.get? it=some o)(hc:o.cls=.type n)(hd:o.data=.fields vs)
    (hn:["enumerate","zip","dict_itemiterator","dict_reverseitemiterator","odict_iterator","itertools.zip_longest","itertools.pairwise"].contains n=false) (hQ:Q () s):wpAny M A (letOwnedTupleGo tg (.ref it) u) Q E s:=by
  unfold letOwnedTupleGo;cases tg <;>first
    | exact Gc hQ
    | (cases u <;>first
        | exact Gc hQ
        | (refine F9 (wpAny_load ho ?_)
           rw[hc,hd];show wpAny M A (if (["enumerate","zip","dict_itemiterator","dict_reverseitemiterator","odict_iterator","itertools.zip_longest","itertools.pairwise"].contains n&&vs[0]? == some (rawInt _))=true then _ else _) Q E s
           rw[if_neg (by intro h;rw[hn,EW] at h;cases h)];exact Gc hQ))
def Itl (K:F5)(a:Addr):It:=
 ⟨λ i H=>∃ xs x,SqL K H a xs/\xs[i]?=some x,λ i H x H'=>H'=H/\∀ xs,SqL K H a xs->xs[i]?=some x,λ i H=>∃ xs,SqL K H a xs/\xs.length<=i⟩
def Itr (lo:Int)(n:Nat):It:=⟨λ i _=>i<n,λ i H x H'=>H'=H/\x=.int (lo+i),λ i _=>n<=i⟩
theorem sj {P:Program}{w:World}{K:F5}{tg:Expr}(a it:Addr):Turn P w K tg (Itl K a) [it] it (λ i h=>h.IsListIter it a i) where
 mem:=by simp
 obj:=λ i h st b hb=>by
  have e:b=it:=by simpa using hb
  subst e;obtain⟨o,e,c,d⟩:=st;exact⟨o,e,λ v z=>by rw[d] at z;cases z⟩
 keep:=λ i h h' st k=>st.at λ o e=>k it (by simp) o e
 item:=by
  intro X hP hw hK hc i pins s σ H E I hf st hg;subst hP hw hK;obtain⟨xs,x,hq,hx⟩:=hg;obtain⟨its,rv,p,hz⟩:=I.list hq;obtain⟨u,hu,ru⟩:=rv.get hx;obtain⟨f0,f1,f2,f3,f4,f5⟩:=hf it (by simp);refine Hy st p.isList (x:=u) (by simpa using hu) λ h' st' sb=>?_
  have I1:Inv X pins σ H { s with heap:=h' }:=I.turned (t':=s.toks) (λ b o hb e=>(sb.2 b hb).trans e) f0 f1 f3 f4 f5;obtain⟨o,e,c,d⟩:=id st';exact⟨u,rfl,vK (s:={ s with heap:=h' }) e c d (by decide) ⟨x,H,I1,ru,⟨rfl,λ ys hy=>by rw[I.list_inj hy hq];exact hx⟩,st',λ b hb=>(hf b hb).1⟩⟩
 done:=by
  intro X hP hw hK hc i pins s σ H E I hf st hg;subst hP hw hK;obtain⟨xs,hq,hx⟩:=hg;obtain⟨its,rv,p,hz⟩:=I.list hq;obtain⟨f0,f1,f2,f3,f4,f5⟩:=hf it (by simp);have hl:=rv.length;exact HH (I.ok.hd hc) st p.isList (by simp;omega) λ h' eb=>⟨rfl,I.turned (t':=s.toks) (λ b o hb e=>eb b o hb e) f0 f1 f3 f4 f5⟩
 self:=λ _ _ _ _ _ st h=>wpAny_pyIter_listiter st h
theorem oj {P:Program}{w:World}{K:F5}{tg:Expr}(it:Addr)(lo:Int)(n:Nat):Turn P w K tg (Itr lo n) [it] it (λ i h=>IsRangeIter h it (lo+(i:Nat)*1) ((n:Int)-(i:Nat)) 1) where
 mem:=by simp
 obj:=λ i h st b hb=>by
  have e:b=it:=by simpa using hb
  subst e;exact⟨_,st,λ v z=>by
   have z':Data.fields _=Data.cell v:=z;cases z'⟩
 keep:=λ i h h' st k=>k it (by simp) _ st
 item:=by
  intro X hP hw hK hc i pins s σ H E I hf st hg;subst hP hw hK;obtain⟨f0,f1,f2,f3,f4,f5⟩:=hf it (by simp);have W:=Walks.range (prog:=X.prog) (w:=X.w) (I.ok.hd hc) it lo 1 n;refine W.item i s _ _ hg st λ v h' tk hv st' kk=>?_
  obtain⟨t,rfl⟩:=hv;have I1:Inv X pins σ H { s with heap:=h',toks:=tk }:=I.turned (λ b o hb e=>kk b o (by simpa using hb) e) f0 f1 f3 f4 f5;refine⟨_,rfl,vK (s:={ s with heap:=h',toks:=tk }) (n:="range_iterator") st' rfl rfl (by decide) ⟨.int (lo+i),H,I1,⟨t,?_⟩,⟨rfl,rfl⟩,st',λ b hb=>(hf b hb).1⟩⟩;rw[FL]
 done:=by
  intro X hP hw hK hc i pins s σ H E I hf st hg;subst hP hw hK;obtain⟨f0,f1,f2,f3,f4,f5⟩:=hf it (by simp);exact HA (I.ok.hd hc) st (by have:n<=i:=hg;omega) λ h' eb=>⟨rfl,I.turned (t':=s.toks) (λ b o hb e=>eb b o hb e) f0 f1 f3 f4 f5⟩
 self:=λ _ _ _ _ _ st h=>HB st h
section
variable {X:Cx}{tg:Expr}
def zf (K:F5)(tl:TE):TI:=λ σ H R=>tl σ H λ x H1=>∃ a,x=.ref a/\(∃ xs,SqL K H1 a xs)/\R (Itl K a) H1
theorem pQ {l:Expr}{tl:TE}(hl:PE X l tl):PI X tg l (zf X.K tl):=by
 intro pins s σ H R I h;refine thn (hl pins s σ H _ I h) λ v s1 ⟨x,H1,I1,r1,q1⟩=>?_
 obtain⟨a,e,⟨xs,hq⟩,q⟩:=q1;subst e;cases r1;obtain⟨its,rv,p,hz⟩:=I1.list hq;refine Hj p.isList ?_
 refine⟨s1.heap.objs.size,[s1.heap.objs.size],_,_,H1,rfl,I1.kept (t':=s1.toks) λ b o e=>F8 _ e,sj a _,⟨_,Gd _ rfl,rfl,rfl⟩,λ b hb=>?_,q⟩;have e:b=s1.heap.objs.size:=by simpa using hb
 subst e;exact I1.fpOk (Dh _) (I1.hok.fresh (Dh _))
theorem mv {pins:List (Addr×Obj)}{σ:St}{H:Hp}{s:Shared}{R:It->Hp->Prop}{E:Value->Shared->Prop}{lo hi:Int}{t u v:Tok}{tk:Nat}(I:Inv X pins σ H s)(h1:-(2 ^ 62)<=lo)(h2:lo<2 ^ 62)(h3:-(2 ^ 62)<=hi)(h4:hi<2 ^ 62)
  (q:R (Itr lo (hi-lo).toNat) H):wpAny (model X.prog X.w) X.A (pyIter (.ref s.heap.objs.size)) (PIE X pins σ tg R) E { s with heap:=s.heap.push { cls:=.type "range",data:=.fields #[.int lo t,.int hi u,.int 1 v] },toks:=tk }:=by
 refine Ik (IE ..) (small_one h1 h2 h3 h4) ?_
 have I1:Inv X pins σ H { s with heap:=s.heap.push { cls:=.type "range",data:=.fields #[.int lo t,.int hi u,.int 1 v] },toks:=tk }:=I.kept λ b o e=>F8 _ e
 refine⟨(s.heap.push { cls:=.type "range",data:=.fields #[.int lo t,.int hi u,.int 1 v] }).objs.size,[(s.heap.push { cls:=.type "range",data:=.fields #[.int lo t,.int hi u,.int 1 v] }).objs.size],_,_,H,rfl,
  I1.kept (t':=tk) λ b o e=>F8 _ e,oj _ lo (hi-lo).toNat,?_,λ b hb=>?_,q⟩
 ·have e1:lo+((0:Nat):Int)*1=lo:=by simp
  have e2:(((hi-lo).toNat:Nat):Int)-((0:Nat):Int)=GN lo hi 1:=by rw[rangeSize_one];split <;>omega
  show IsRangeIter _ _ (lo+((0:Nat):Int)*1) ((((hi-lo).toNat:Nat):Int)-((0:Nat):Int)) 1
  rw[e1,e2];exact Gd _ rfl
 ·have e:b=(s.heap.push { cls:=.type "range",data:=.fields #[.int lo t,.int hi u,.int 1 v] }).objs.size:=by simpa using hb
  subst e;exact I1.fpOk (Dh _) (I1.hok.fresh (Dh _))
def B1 (ta:TA):TI:=λ σ H R=>ta σ H λ vs H1=>∃ j:Int,vs=[.int j]/\-(2 ^ 62)<=j/\j<2 ^ 62/\R (Itr 0 j.toNat) H1
def BU (ta:TA):TI:=λ σ H R=>ta σ H λ vs H1=>∃ i j:Int,vs=[.int i,.int j]/\(-(2 ^ 62)<=i/\i<2 ^ 62/\-(2 ^ 62)<=j/\j<2 ^ 62)/\R (Itr i (j-i).toNat) H1
theorem sJ {a:Expr}{ta:TA}{p pos:Pos}(hg:Gl X "range")(hm:X.mg "range"=none)(ha:PA X [a] ta)(hs:autoParam (starEach [a] X.env=[(false,eval a X.env)]) ZF._auto_1):PI X tg (.Call (.Name "range" p) [a] [] pos) (B1 ta):=by
 intro pins s σ H R I h;refine Call_ (eP I hg hm boot_range (Gp (thn (ha pos pins s σ H _ I h) λ us s1 ⟨vs,H1,I1,r1,q1⟩=>?_) hs rfl));obtain⟨j,e,q1,q2,q⟩:=q1;subst e;cases r1 with
 | cons r rr=>
  cases rr;obtain⟨t,rfl⟩:=r;exact call_range_1 (mv I1 ⋯ ⋯ q1 q2 (by simpa using q))
theorem sV {a b:Expr}{ta:TA}{p pos:Pos}(hg:Gl X "range")(hm:X.mg "range"=none)(ha:PA X [a,b] ta)(hs:autoParam (starEach [a,b] X.env=[(false,eval a X.env),(false,eval b X.env)]) ZF._auto_1)(hs2:autoParam (starEach [b] X.env=[(false,eval b X.env)]) ZF._auto_1):
  PI X tg (.Call (.Name "range" p) [a,b] [] pos) (BU ta):=by
 intro pins s σ H R I h;refine Call_ (eP I hg hm boot_range (Gp (thn (ha pos pins s σ H _ I h) λ us s1 ⟨vs,H1,I1,r1,q1⟩=>?_) (by rw[hs,hs2]) (by rw[hs2];rfl)));obtain⟨i,j,e,⟨q1,q2,q3,q4⟩,q⟩:=q1;subst e;cases r1 with
 | cons r rr=>
  cases rr with
  | cons r' rr=>
   cases rr;obtain⟨t,rfl⟩:=r;obtain⟨t',rfl⟩:=r';exact call_range_2 (mv I1 q1 q2 q3 q4 q)
def B5 (wi:TI)(g:TG)(tb:TS):TS:=λ D σ H=>wi σ H λ J H1=>∃ W:Nat->Nat->St->Hp->Prop,(∃ m,W 0 m σ H1)/\∀ i m σ H,W i m σ H ->
 (J.stop i H/\D.nx σ H)\/(J.go i H/\∃ N:St->Hp->Prop,(∀ σ' H',N σ' H'->∃ m',m'<m/\W (i+1) m' σ' H')/\∀ x H',J.yld i H x H'->g x σ H' λ σ2 H2=>tb { D with nx:=N,ct:=N,bk:=D.nx } σ2 H2)
def i5 (fp:List Addr)(h:Heap):List (Addr×Obj):=fp.filterMap λ b=>(h.get? b).map λ o=>(b,o)
theorem ee {fp:List Addr}{h:Heap}{b:Addr}{o:Obj}(hb:b∈fp)(e:h.get? b=some o):(b,o)∈i5 fp h:=List.mem_filterMap.mpr ⟨b,hb,by rw[e];rfl⟩
theorem sM {fp:List Addr}{h:Heap}{p:Addr×Obj}(hp:p∈i5 fp h):p.1∈fp/\h.get? p.1=some p.2:=by
 obtain⟨b,hb,e⟩:=List.mem_filterMap.mp hp;cases q:h.get? b with
 | none=>rw[q] at e;cases e
 | some o=>
  rw[q] at e;have e':(b,o)=p:=Option.some.inj e;subst e';exact⟨hb,q⟩
theorem Inv.pinned {pins:List (Addr×Obj)}{σ:St}{H:Hp}{s:Shared}{fp:List Addr}(I:Inv X pins σ H s)(hf:∀ b∈fp,i9 X pins H b)(ho:∀ b∈fp,∃ o,s.heap.get? b=some o/\∀ v,o.data≠.cell v):Inv X (pins++i5 fp s.heap) σ H s:=
 I.pins_of λ p hp=>(List.mem_append.mp hp).elim (λ z=>I.pin p (Dl _ z)) λ z=>by
  obtain⟨hb,e⟩:=sM z;obtain⟨f0,f1,f2,_⟩:=hf p.1 hb;obtain⟨o,e',d⟩:=ho p.1 hb;rw[e] at e';cases e';exact⟨e,f0,f1,f2,d⟩
theorem Inv.unpinned {pins pl:List (Addr×Obj)}{σ:St}{H:Hp}{s:Shared}(I:Inv X (pins++pl) σ H s):Inv X pins σ H s:=I.pins_of λ p hp=>I.pin p (Dl _ (DC _ hp))
theorem nZ {iter:Expr}{body:List Stmt}{wi:TI}{g:TG}{tb:TS}{pos:Pos}(hp:PassesOwn (model X.prog X.w) X.A X.env X.xe)(hc:X.calm=true)(hi:PI X tg iter wi)(hg:PG X tg g)(hb:PSs X body tb)
  (hs:autoParam (∀ x,foldedSetIterable iter X.env x=pure x) ZE._auto_1):PS X (.For tg iter body [] pos) (B5 wi g tb):=by
 intro pins s σ H D I h;refine wpAny_For (thn (hi pins s σ H _ I h) λ v s1 h1=>thn h1 λ itv s2 h2=>?_) hs;obtain⟨it,fp,tn,J,H2,e,I2,T,st2,f2,W,⟨m0,w0⟩,turn⟩:=h2;subst e;have stat:∀ {H':Hp},(∀ b∈fp,H' b=none)->∀ b∈fp,i9 X pins H' b:=λ hn b hb=>⟨hn b hb,(f2 b hb).2⟩
 refine codeAny_forLoop_any (λ n s'=>∃ i σ' H',Inv X pins σ' H' s'/\tn i s'.heap/\(∀ b∈fp,H' b=none)/\W i n σ' H') ?_ m0 ⟨0,σ,H2,I2,st2,λ b hb=>(f2 b hb).1,w0⟩
 rintro n s3 ⟨i,σ3,H3,I3,st3,fr3,w3⟩
 rcases turn i n σ3 H3 w3 with ⟨stop,qn⟩|⟨go,N,hN,step⟩
 ·refine GE hp (thn (T.done X rfl rfl rfl hc i pins s3 σ3 H3 X.xe I3 (stat fr3) st3 stop) λ r s4 ⟨hr,I4⟩=>?_)
  subst hr;exact G1 ⟨σ3,H3,I4,qn⟩
 ·refine GE hp (thn (T.item X rfl rfl rfl hc i pins s3 σ3 H3 X.xe I3 (stat fr3) st3 go) λ r s4 ⟨u,hr,h4⟩=>?_)
  subst hr;refine GE hp (thn h4 λ _ s5 ⟨x,H5,I5,r5,y5,st5,fr5⟩=>?_);have I5':=I5.pinned (stat fr5) (T.obj _ _ st5);refine GE hp (thn (hg _ s5 σ3 H5 x u _ I5' r5 (step x H5 y5)) λ _ s6 ⟨σ6,H6,I6,q6⟩=>?_);refine GE hp (thn (hb _ s6 σ6 H6 _ I6 q6) λ f s7 q7=>?_);have again:∀ {σ7:St} {H7:Hp},Inv X (pins++i5 fp s5.heap) σ7 H7 s7->N σ7 H7->∃ m,m<n/\∃ i σ' H',Inv X pins σ' H' s7/\tn i s7.heap/\(∀ b∈fp,H' b=none)/\W i m σ' H':=λ {σ7 H7} I7 n7=>by
   obtain⟨m',hm,w7⟩:=hN σ7 H7 n7;refine⟨m',hm,i+1,σ7,H7,I7.unpinned,T.keep _ _ _ st5 λ b hb o e=>(I7.pin (b,o) (Dl _ (Dl _ (ee hb e)))).1,λ b hb=>?_,w7⟩;obtain⟨o,e,d⟩:=T.obj _ _ st5 b hb;exact(I7.pin (b,o) (Dl _ (Dl _ (ee hb e)))).2.1
  cases f with
  | next=>obtain⟨σ7,H7,I7,n7⟩:=q7;exact again I7 n7
  | cont=>obtain⟨σ7,H7,I7,n7⟩:=q7;exact again I7 n7
  | brk=>obtain⟨σ7,H7,I7,q7⟩:=q7;exact⟨σ7,H7,I7.unpinned,q7⟩
  | ret v=>obtain⟨x7,σ7,H7,I7,r7,q7⟩:=q7;exact⟨x7,σ7,H7,I7.unpinned,r7,q7⟩
end
theorem vE {K:F5}{a:Addr}{xs:List V}{g:TG}{tb:TS}{D:Ends}{σ:St}{H:Hp}(Pv:Nat->St->Hp->Prop)(h0:Pv 0 σ H)(hl:∀ i σ H,i<=xs.length->Pv i σ H->SqL K H a xs)
  (hs:∀ i x σ H,xs[i]?=some x->Pv i σ H->g x σ H λ σ2 H2=>tb { D with nx:=Pv (i+1),ct:=Pv (i+1),bk:=D.nx } σ2 H2) (hd:∀ σ H,Pv xs.length σ H->D.nx σ H):
  ∃ W:Nat->Nat->St->Hp->Prop,(∃ m,W 0 m σ H)/\∀ i m σ H,W i m σ H ->
   ((Itl K a).stop i H/\D.nx σ H)\/((Itl K a).go i H/\∃ N:St->Hp->Prop,(∀ σ' H',N σ' H'->∃ m',m'<m/\W (i+1) m' σ' H')/\∀ x H',(Itl K a).yld i H x H'->g x σ H' λ σ2 H2=>tb { D with nx:=N,ct:=N,bk:=D.nx } σ2 H2):=by
 refine⟨λ i m σ H=>m=xs.length-i/\i<=xs.length/\Pv i σ H,⟨xs.length,by simp,Ez _,h0⟩,?_⟩
 rintro i m σ H ⟨rfl,hi,p⟩
 have q:=hl i σ H hi p;by_cases hlt:i<xs.length
 ·refine .inr ⟨⟨xs,xs[i],q,by simp[hlt]⟩,Pv (i+1),λ σ' H' p'=>⟨xs.length-(i+1),⋯,rfl,hlt,p'⟩,λ x H' y=>?_⟩
  obtain⟨e,y⟩:=y;subst e;exact hs i x σ _ (y xs q) p
 ·have e:i=xs.length:=⋯
  subst e;exact .inl ⟨⟨xs,q,Dh _⟩,hd σ H p⟩
abbrev R2:=V->V->Hp->VK->Prop
def OpR (X:Cx)(f:Value->Value->Sem Value)(r:R2):Prop:=
 ∀ (pins:List (Addr×Obj)) (s:Shared) (σ:St) (H:Hp) (x y:V) (v u:Value) (Q:VK),Inv X pins σ H s->RelV x v->RelV y u->r x y H Q ->
  wpAny (model X.prog X.w) X.A (f v u) (EP X pins σ Q) X.xe s
def UnR (X:Cx)(f:Value->Sem Value)(r:V->Hp->VK->Prop):Prop:=
 ∀ (pins:List (Addr×Obj)) (s:Shared) (σ:St) (H:Hp) (x:V) (v:Value) (Q:VK),Inv X pins σ H s->RelV x v->r x H Q ->
  wpAny (model X.prog X.w) X.A (f v) (EP X pins σ Q) X.xe s
def dY (X:Cx)(f:Value)(r:List V->Hp->VK->Prop):Prop:=
 ∀ (pins:List (Addr×Obj)) (s:Shared) (σ:St) (H:Hp) (xs:List V) (us:List Value) (Q:VK),Inv X pins σ H s->Vals xs us->r xs H Q ->
  wpAny (model X.prog X.w) X.A (call f us) (EP X pins σ Q) X.xe s
def tOp (r:R2)(ta tb:TE):TE:=λ σ H Q=>ta σ H λ x H1=>tb σ H1 λ y H2=>r x y H2 Q
def tUn (r:V->Hp->VK->Prop)(ta:TE):TE:=λ σ H Q=>ta σ H λ x H1=>r x H1 Q
def rI (C:Int->Int->Prop)(g:Int->Int->V):R2:=λ x y H Q=>∃ i j,x=.int i/\y=.int j/\C i j/\Q (g i j) H
def rI0 (g:Int->Int->V):R2:=λ x y H Q=>∃ i j,x=.int i/\y=.int j/\Q (g i j) H
def rU (g:Int->V):V->Hp->VK->Prop:=λ x H Q=>∃ i,x=.int i/\Q (g i) H
section
variable {X:Cx}{a b c:Expr}{ta tb tc:TE}{pos:Pos}
theorem AN (ha:PE X a ta)(hb:PE X b tb){pins:List (Addr×Obj)}{s:Shared}{σ:St}{H:Hp}{R:V->V->Hp->Prop}(I:Inv X pins σ H s)
  (h:ta σ H λ x H1=>tb σ H1 λ y H2=>R x y H2) {Q:Value->Shared->Prop} {f:Value->Value->Sem Value}
  (hf:∀ v u s2 x y H2,Inv X pins σ H2 s2->RelV x v->RelV y u->R x y H2->wpAny (model X.prog X.w) X.A (f v u) Q X.xe s2):
  wpAny (model X.prog X.w) X.A (eval a X.env) (λ v s₁=>wpAny (model X.prog X.w) X.A (eval b X.env) (λ u s₂=>wpAny (model X.prog X.w) X.A (f v u) Q X.xe s₂) X.xe s₁) X.xe s:=by
 refine thn (ha pins s σ H _ I h) λ v s1 ⟨x,H1,I1,r1,q1⟩=>?_
 refine thn (hb pins s1 σ H1 _ I1 q1) λ u s2 ⟨y,H2,I2,r2,q2⟩=>?_
 exact hf v u s2 x y H2 I2 r1 r2 q2
theorem yU {op:Operator}{r:R2}(ho:OpR X (binaryOp op) r)(ha:PE X a ta)(hb:PE X b tb):PE X (.BinOp a op b pos) (tOp r ta tb):=by
 intro pins s σ H Q I h;exact wpAny_BinOp (AN ha hb I h λ v u s2 x y H2 I2 rx ry q=>ho pins s2 σ H2 x y v u Q I2 rx ry q)
theorem Cf {op:UnaryOp}{r:V->Hp->VK->Prop}(ho:UnR X (unaryOp op) r)(ha:PE X a ta):PE X (.UnaryOp op a pos) (tUn r ta):=by
 intro pins s σ H Q I h;exact UnaryOp_ (thn (ha pins s σ H _ I h) λ v s1 ⟨x,H1,I1,r1,q1⟩=>ho pins s1 σ H1 x v Q I1 r1 q1)
theorem opI {f:Value->Value->Sem Value}{C:Int->Int->Prop}{g:Int->Int->Int}
  (rule:∀ (i j:Int) (t u:Tok) (s:Shared) (Q:Value->Shared->Prop) (E:Value->Shared->Prop),C i j->Q (.int (g i j) s.toks) { s with toks:=s.toks+1 }->wpAny (model X.prog X.w) X.A (f (.int i t) (.int j u)) Q E s):
  OpR X f (rI C λ i j=>.int (g i j)):=by
 intro pins s σ H x y v u Q I rx ry h;obtain⟨i,j,rfl,rfl,hc,q⟩:=h;obtain⟨t,rfl⟩:=rx;obtain⟨t',rfl⟩:=ry;exact rule i j t t' s _ _ hc ⟨.int (g i j),H,I.tok _,⟨_,rfl⟩,q⟩
theorem BV {f:Value->Value->Sem Value}{g:Int->Int->Int}
  (rule:∀ (i j:Int) (t u:Tok) (s:Shared) (Q:Value->Shared->Prop) (E:Value->Shared->Prop),Q (.int (g i j) s.toks) { s with toks:=s.toks+1 }->wpAny (model X.prog X.w) X.A (f (.int i t) (.int j u)) Q E s):
  OpR X f (rI0 λ i j=>.int (g i j)):=by
 intro pins s σ H x y v u Q I rx ry h;obtain⟨i,j,rfl,rfl,q⟩:=h;obtain⟨t,rfl⟩:=rx;obtain⟨t',rfl⟩:=ry;exact rule i j t t' s _ _ ⟨.int (g i j),H,I.tok _,⟨_,rfl⟩,q⟩
theorem xf {f:Value->Value->Sem Value}{g:Int->Int->Bool}
  (rule:∀ (i j:Int) (t u:Tok) (s:Shared) (Q:Value->Shared->Prop) (E:Value->Shared->Prop),Q (.bool (g i j)) s->wpAny (model X.prog X.w) X.A (f (.int i t) (.int j u)) Q E s):
  OpR X f (rI0 λ i j=>.bl (g i j)):=by
 intro pins s σ H x y v u Q I rx ry h;obtain⟨i,j,rfl,rfl,q⟩:=h;obtain⟨t,rfl⟩:=rx;obtain⟨t',rfl⟩:=ry;exact rule i j t t' s _ _ ⟨.bl (g i j),H,I,rfl,q⟩
def CG (i j:Int):Prop:=0<=j/\j<=1000000/\i.natAbs<2 ^ 64
def CMul (i j:Int):Prop:=(-(2 ^ 64)<i/\i<2 ^ 64)\/(-(2 ^ 64)<j/\j<2 ^ 64)
theorem CMul.ok {i j:Int}(h:CMul i j):IntMulOk i j:=by
 rcases h with ⟨h1,h2⟩|⟨h1,h2⟩
 ·exact .of_left (intBits_le_64 h1 h2)
 ·exact .of_right (intBits_le_64 h1 h2)
theorem pI (k:Nat):(0:Int)<=2 ^ k:=by
 rw[two_pow_cast];exact Int.natCast_nonneg _
theorem Aw:OpR X (binaryOp .Add) (rI0 λ i j=>.int (i+j)):=BV λ _ _ _ _ _ _ _ q=>add_int q
theorem zZ:OpR X (binaryOp .Sub) (rI0 λ i j=>.int (i-j)):=BV λ _ _ _ _ _ _ _ q=>sub_int q
theorem zG:OpR X (binaryOp .Mod) (rI (λ _ j=>0<j) λ i j=>.int (i%j)):=opI λ i j _ _ _ _ _ hc q=>by
 have h1:(0:Int)<j:=hc;exact mod_int' ⋯ (by rw[Int.fmod_eq_emod_of_nonneg i ⋯];exact q)
theorem Ak:OpR X (binaryOp .Pow) (rI CG λ i j=>.int (i ^ j.toNat)):=opI λ _ _ _ _ _ _ _ hc q=>pow_int_small hc.1 hc.2.1 hc.2.2 q
theorem Av:OpR X (binaryOp .RShift) (rI (λ _ j=>0<=j) λ i j=>.int (i/2 ^ j.toNat)):=opI λ i j _ _ _ _ _ hc q=>
 rshift_int hc (by rw[EZ i (pI _)];exact q)
theorem unI {f:Value->Sem Value}{g:Int->Int}
  (rule:∀ (i:Int) (t:Tok) (s:Shared) (Q:Value->Shared->Prop) (E:Value->Shared->Prop),Q (.int (g i) s.toks) { s with toks:=s.toks+1 }->wpAny (model X.prog X.w) X.A (f (.int i t)) Q E s):
  UnR X f (rU λ i=>.int (g i)):=by
 intro pins s σ H x v Q I rx h;obtain⟨i,rfl,q⟩:=h;obtain⟨t,rfl⟩:=rx;exact rule i t s _ _ ⟨.int (g i),H,I.tok _,⟨_,rfl⟩,q⟩
theorem zl:UnR X (unaryOp .USub) (rU λ i=>.int (-i)):=unI λ _ _ _ _ _ q=>neg_int q
end
def scal:V->V->Bool
 | .non,.non=>true | .non,.int _=>true | .int _,.non=>true | .non,.bl _=>true | .bl _,.non=>true | .non,.str _=>true | .str _,.non=>true
 | .int _,.int _=>true | .bl _,.bl _=>true | .str _,.str _=>true | .byt _,.byt _=>true
 | .int _,.str _=>true | .str _,.int _=>true | .bl _,.str _=>true | .str _,.bl _=>true
 | _,_=>false
def rEq:R2:=λ x y H Q=>scal x y=true/\Q (.bl (decide (x=y))) H
theorem xN {i j:Int}:decide (V.int i=V.int j)=(i == j):=by
 rw[DS];simp
theorem AR {i j:Bool}:decide (V.bl i=V.bl j)=(i == j):=by
 rw[DS];simp
theorem wM {i j:Str}:decide (V.str i=V.str j)=(i == j):=by
 rw[DS];simp
theorem wY {i j:Array UInt8}:decide (V.byt i=V.byt j)=(i.toList == j.toList):=by
 rw[DS];cases i;cases j;simp
section
variable {X:Cx}{a b c:Expr}{ta tb tc:TE}{pos:Pos}
theorem bZ {pins:List (Addr×Obj)}{σ:St}{H:Hp}{s:Shared}{Q:VK}{k k':Bool}(I:Inv X pins σ H s)(q:Q (.bl k) H)(e:k=k'):EP X pins σ Q (.bool k') s:=by
 subst e;exact⟨.bl k,H,I,rfl,q⟩
theorem zc:OpR X (compareOp .Eq) rEq:=by
 intro pins s σ H x y v u Q I rx ry h;obtain⟨hs,q⟩:=h;cases x with
 | non=>
  cases rx;cases y with
  | non=>cases ry;exact PySem.EqNone.eq_none_none (bZ I q (by simp))
  | bl j=>cases ry;exact PySem.EqNone.eq_none_bool (bZ I q (by simp))
  | int j=>obtain⟨t',rfl⟩:=ry;exact PySem.EqNone.eq_none_int (bZ I q (by simp))
  | str j=>obtain⟨t',rfl⟩:=ry;exact PySem.EqNone.eq_none_str (bZ I q (by simp))
  | _=>exact absurd (show false=true from hs) Dj
 | bl i=>
  cases rx;cases y with
  | non=>cases ry;exact PySem.EqNone.eq_bool_none (bZ I q (by simp))
  | bl j=>cases ry;exact eq_bool (bZ I q AR)
  | str j=>obtain⟨t',rfl⟩:=ry;exact PySem.EqMixed.eq_bool_str (bZ I q (by simp))
  | _=>exact absurd (show false=true from hs) Dj
 | int i=>
  obtain⟨t,rfl⟩:=rx;cases y with
  | non=>cases ry;exact PySem.EqNone.eq_int_none (bZ I q (by simp))
  | int j=>obtain⟨t',rfl⟩:=ry;exact eq_int (bZ I q xN)
  | str j=>obtain⟨t',rfl⟩:=ry;exact PySem.EqMixed.eq_int_str (bZ I q (by simp))
  | _=>exact absurd (show false=true from hs) Dj
 | str i=>
  obtain⟨t,rfl⟩:=rx;cases y with
  | non=>cases ry;exact PySem.EqNone.eq_str_none (bZ I q (by simp))
  | bl j=>cases ry;exact PySem.EqMixed.eq_str_bool (bZ I q (by simp))
  | int j=>obtain⟨t',rfl⟩:=ry;exact PySem.EqMixed.eq_str_int (bZ I q (by simp))
  | str j=>obtain⟨t',rfl⟩:=ry;exact eq_str (bZ I q wM)
  | _=>exact absurd (show false=true from hs) Dj
 | byt i=>
  obtain⟨t,rfl⟩:=rx;cases y with
  | byt j=>obtain⟨t',rfl⟩:=ry;exact PySem.W.eq_bytes (bZ I q wY)
  | _=>exact absurd (show false=true from hs) Dj
 | _=>cases y <;>exact absurd (show false=true from hs) Dj
theorem BZ:OpR X (compareOp .Lt) (rI0 λ i j=>.bl (decide (i<j))):=xf λ _ _ _ _ _ _ _ q=>lt_int q
theorem Bh:OpR X (compareOp .LtE) (rI0 λ i j=>.bl (decide (i<=j))):=xf λ _ _ _ _ _ _ _ q=>le_int q
theorem uD:OpR X (compareOp .Gt) (rI0 λ i j=>.bl (decide (j<i))):=xf λ _ _ _ _ _ _ _ q=>gt_int q
theorem B3:OpR X (compareOp .GtE) (rI0 λ i j=>.bl (decide (j<=i))):=xf λ _ _ _ _ _ _ _ q=>ge_int q
theorem OpR.or {f:Value->Value->Sem Value}{r r':R2}(h:OpR X f r)(h':OpR X f r'):OpR X f (λ x y H Q=>r x y H Q\/r' x y H Q):=by
 intro pins s σ H x y v u Q I rx ry q
 rcases q with q|q
 ·exact h pins s σ H x y v u Q I rx ry q
 ·exact h' pins s σ H x y v u Q I rx ry q
theorem nomark (b:Expr){op:CmpOp}(h:autoParam (op≠.In) ZC._auto_1)(h2:autoParam (op≠.NotIn) ZC._auto_1):behindInMarks op b=false:=by
 have e1:(op == CmpOp.In)=false:=by cases op <;>first|rfl|exact absurd rfl h
 have e2:(op == CmpOp.NotIn)=false:=by cases op <;>first|rfl|exact absurd rfl h2
 cases b <;>simp[behindInMarks,e1,e2]
theorem xo {op:CmpOp}{r:R2}(ho:OpR X (compareOp op) r)(ha:PE X a ta)(hb:PE X b tb)(hm:behindInMarks op b=false):PE X (.Compare a [op] [b] pos) (tOp r ta tb):=by
 intro pins s σ H Q I h;exact wpAny_Compare1 (AN ha hb I h λ v u s2 x y H2 I2 rx ry q=>ho pins s2 σ H2 x y v u Q I2 rx ry q) hm
def mP (t:TE):TT:=λ σ H Q=>t σ H λ x H'=>∃ k,x=.bl k/\Q k H'
theorem gH {op:CmpOp}{r:R2}(ho:OpR X (compareOp op) r)(ha:PE X a ta)(hb:PE X b tb)(hm:behindInMarks op b=false):PT X (.Compare a [op] [b] pos) (mP (tOp r ta tb)):=by
 intro pins s σ H Q I h;refine HG (thn (ha pins s σ H _ I h) λ v s1 ⟨x,H1,I1,r1,q1⟩=>thn (hb pins s1 σ H1 _ I1 q1) λ u s2 ⟨y,H2,I2,r2,q2⟩=>
  thn (ho pins s2 σ H2 x y v u _ I2 r1 r2 q2) λ c s3 ⟨z,H3,I3,r3,k,e,q3⟩=>?_) hm
 subst e;cases r3;exact GH ⟨H3,I3,q3⟩
theorem jG:(sizeLine:Nat)<2 ^ 63:=by rw[GC];decide
theorem vals1 {x:V}{us:List Value}(r:Vals [x] us):∃ u,us=[u]/\RelV x u:=by
 cases r with
 | cons r1 r2=>cases r2;exact⟨_,rfl,r1⟩
theorem vals2 {x y:V}{us:List Value}(r:Vals [x,y] us):∃ u w',us=[u,w']/\RelV x u/\RelV y w':=by
 cases r with
 | cons r1 r2=>
  cases r2 with
  | cons r3 r4=>cases r4;exact⟨_,_,rfl,r1,r3⟩
theorem sO (hc:X.calm=true):dY X (.builtin "max") (λ xs H Q=>∃ i j,xs=[.int i,.int j]/\Q (.int (if j > i then j else i)) H):=by
 intro pins s σ H xs us Q I r h;obtain⟨i,j,rfl,q⟩:=h;obtain⟨u,w',rfl,⟨t,rfl⟩,⟨t',rfl⟩⟩:=vals2 r;refine max_two_ints (I.ok.hd hc) λ h' tk k=>⟨_,H,I.kept k,?_,q⟩
 by_cases hj:j > i
 ·rw[if_pos hj,if_pos hj];exact⟨_,rfl⟩
 ·rw[if_neg hj,if_neg hj];exact⟨_,rfl⟩
theorem rH:dY X (.type "int") (λ xs H Q=>(∃ i,xs=[.int i]/\Q (.int i) H)\/∃ k,xs=[.bl k]/\Q (.int (if k then 1 else 0)) H):=by
 intro pins s σ H xs us Q I r h
 rcases h with ⟨i,rfl,q⟩|⟨k,rfl,q⟩
 ·obtain⟨u,rfl,t,rfl⟩:=vals1 r
  exact call_int_int ⟨.int i,H,I,⟨_,rfl⟩,q⟩
 ·obtain⟨u,rfl,r1⟩:=vals1 r
  cases r1;exact call_int_bool ⟨.int (if k then 1 else 0),H,I.tok _,⟨_,rfl⟩,q⟩
end
structure ObjM (h:Heap)(x dx C:Addr)(mA:Str->Option Value):Prop where
 obj:h.get? x=some (GA C dx)
 ns:h.Ns1 dx mA
 ne:dx≠x
theorem tN {h:Heap}{dx:Addr}{mA:Str->Option Value}(n:h.Ns1 dx mA):∃ od,h.get? dx=some od/\∀ name,G8 name od=some (mA name):=by
 obtain⟨o,es,ep,ho,hd,hk,_,hm⟩:=n;refine⟨o,ho,λ name=>?_⟩;have e:=hm name;unfold nsFind findBy at e;rw[<- Array.find?_toList] at e;unfold G8;rw[hd];dsimp only
 split
 ·rename_i y q
  rw[q] at e;exact congrArg some e
 ·rename_i q
  rw[q] at e;have a:es.toList.any (·.refKey)=false:=by
   rw[List.any_eq_false];intro y hy;obtain⟨z,t,hkey⟩:=hk y (Array.mem_toList_iff.mp hy);simp[DictEntry.refKey,hkey]
  have a':¬ es.toList.any (·.refKey)=true:=by rw[a];exact Dj
  rw[if_neg a'];exact congrArg some e
theorem ObjM.look {h:Heap}{x dx C:Addr}{mA:Str->Option Value}(I:ObjM h x dx C mA):∃ od,PySem.W.InstAt h x (GA C dx) C (some od)/\∀ name,G8 name od=some (mA name):=
 let ⟨od,ho,hl⟩:=tN I.ns
 ⟨od,⟨I.obj,rfl,rfl,ho⟩,hl⟩
section
variable {prog:Program}{w:World}{A:Around}{E:Value->Shared->Prop}{s:Shared}{K:F5}{x dx C f:Addr}{mA:Str->Option Value}{name:Str}{v:Value}
theorem get_map {expr:Bool}{Q:Value->Shared->Prop}(X:K.In s.heap)(I:ObjM s.heap x dx C mA)(hg:GJ K C name=true)(hh:GQ K C=true)
  (ha:F7 K (.ref C) name=some none) (hv:mA name=some v) (hv':Iw v=true) (h:Q v { s with toks:=s.toks+1 }):
  wpAny (model prog w) A (getAttr (.ref x) name expr) Q E s:=by
 obtain⟨od,J,hl⟩:=I.look;exact PySem.W.get_value X J (G7 hg).1 (PySem.W.findObj_own hh ha rfl (by rw[hl,hv])) hv' h
theorem vA {pl:Sem Bool}{Q:Value×List Value->Shared->Prop}(X:K.In s.heap)(I:ObjM s.heap x dx C mA)(hg:GJ K C name=true)
  (hf:F7 K (.ref C) name=some (some (.ref f))) (ht:GR K (.ref f)=true) (hv:mA name=none) (h:Q (.ref f,[.ref x]) s):
  wpAny (model prog w) A (getMethod (.ref x) name pl) Q E s:=by
 obtain⟨od,J,hl⟩:=I.look;exact PySem.W.method_fn X J (G7 hg).1 (G7 hg).2 hf (beq_iff_eq.mp ht) (by show (G8 name od).map (·.isSome)=some false;rw[hl,hv];rfl) h
theorem wQ {ns:List Str}{Q:Unit->Shared->Prop}(X:K.In s.heap)(I:ObjM s.heap x dx C mA)
  (hs:F7 K (.ref C) "__setattr__"=some (some (.builtin "object.__setattr__"))) (hp:GX K C=true) (ht:Hu K C name=some none) (hh:GQ K C=true)
  (hw:Ih mA ns) (hsz:ns.length<=sizeLine)
  (h:∀ h',ObjM h' x dx C (λ y=>if y=name then some v else mA y)->G0 dx s.heap h'->Q () { s with heap:=h',toks:=s.toks+2 }):
  wpAny (model prog w) A (setAttr (.ref x) name v) Q E s:=by
 obtain⟨od,J,hl⟩:=I.look;refine PySem.W.set_plain X J hs (PySem.W.osa_open (s:={ s with toks:=s.toks+1 }) (r:=none) X J hp ht λ b=>?_);obtain⟨cd,hc,hd'⟩:=PySem.W.any_some hh;have hx:s.heap.get? x=some ⟨.ref C,some dx,.plain,#[]⟩:=I.obj;refine F9 (Gc (F9 (F9 (wpAny_loadPart hx (F9 (PySem.W.Looks.here (s:={ s with toks:=s.toks+1 }) (PySem.W.looks_clsIn X hc) ?_))))));rw[hd'];refine Gc (a:=some dx) (F9 (Gc (F9 ?_)));refine wpAny_nsSet1 (s:={ s with toks:=s.toks+1 }) I.ns λ h' hn2 hs2=>?_
 obtain⟨oD,esD,epD,hoD,hdD,hcD⟩:=hn2.count (PySem.Within.cons name v hw);refine F9 (wpAny_lookBehind hoD (by rw[hdD];exact pastItsLine_dict (DJ hcD (by rw[CQ];omega))) ?_);exact Gc (h _ ⟨(hs2.2 _ (Ne.symm I.ne)).trans I.obj,hn2,I.ne⟩ hs2)
theorem vR {R:Result->Shared->Prop}{vs:List Value}{kw:List (Str×Value)}(X:K.In s.heap)(hm:G3 K C=true)
  (hi:F7 K (.ref C) "__init__"=some (some (.ref f))) (hf:PySem.W.typeIn K (.ref f)=some (.type "function"))
  (h:codeAny (model prog w) (A.under (.builtin "type.__call__" ⟨.ref C::vs,kw⟩)) (.call (.ref f) ⟨.ref (s.heap.objs.size+1)::vs,kw⟩) (PySem.W.InitBack (s.heap.objs.size+1) R)
   { s with heap:=(s.heap.push Gs).push (GA C s.heap.objs.size) }):
  codeAny (model prog w) A (.call (.ref C) ⟨vs,kw⟩) R s:=by
 obtain⟨hh,g,d,t,os⟩:=s;exact PySem.W.make_core (PySem.W.makes_of X hm) (PySem.W.looks_findIn X hi) (λ self=>PySem.W.bind_fn X self hf) (.inl rfl) h
end
def aM (f:Str)(v:V):List (Str×V)->List (Str×V)
 | []=>[(f,v)]
 | (g,x)::r=>if g=f then (g,v)::r else (g,x)::aM f v r
theorem il (f g:Str)(v:V):∀ fs:List (Str×V),(aM f v fs).lookup g=if g=f then some v else fs.lookup g
 | []=>by
  show List.lookup g [(f,v)]=_
  by_cases h:g=f
  ·have hb:(g == f)=true:=beq_iff_eq.mpr h
   simp only[List.lookup,hb,if_pos h]
  ·have hb:(g == f)=false:=beq_eq_false_iff_ne.mpr h
   simp only[List.lookup,hb,if_neg h]
 | (k,x)::r=>by
  have ih:=il f g v r;rw[show aM f v ((k,x)::r)=(if k=f then (k,v)::r else (k,x)::aM f v r) from rfl];by_cases hk:k=f
  ·rw[if_pos hk]
   by_cases h:g=k
   ·have hb:(g == k)=true:=beq_iff_eq.mpr h
    simp only[List.lookup,hb,if_pos (h.trans hk)]
   ·have hb:(g == k)=false:=beq_eq_false_iff_ne.mpr h
    simp only[List.lookup,hb,if_neg (λ e:g=f=>h (e.trans hk.symm))]
  ·rw[if_neg hk]
   by_cases h:g=k
   ·have hb:(g == k)=true:=beq_iff_eq.mpr h
    simp only[List.lookup,hb,if_neg (λ e:g=f=>hk (h.symm.trans e))]
   ·have hb:(g == k)=false:=beq_eq_false_iff_ne.mpr h
    simp only[List.lookup,hb];exact ih
theorem gX (f:Str)(v:V):∀ fs:List (Str×V),f∈(aM f v fs).map (·.1)/\∀ g,g∈fs.map (·.1)->g∈(aM f v fs).map (·.1)
 | []=>⟨by simp[aM],λ g h=>by simp at h⟩
 | (k,x)::r=>by
  obtain⟨i1,i2⟩:=gX f v r;rw[show aM f v ((k,x)::r)=(if k=f then (k,v)::r else (k,x)::aM f v r) from rfl];by_cases hk:k=f
  ·rw[if_pos hk]
   subst hk;exact⟨by simp,λ g h=>by simpa using h⟩
  ·rw[if_neg hk]
   refine⟨?_,λ g h=>?_⟩
   ·rw[CN]
    exact CV _ i1
   ·rw[CN] at h ⊢
    rcases List.mem_cons.mp h with e|e
    ·exact List.mem_cons.mpr (.inl e)
    ·exact CV _ (i2 g e)
theorem iA (f:Str)(v:V):∀ fs:List (Str×V),(aM f v fs).length<=fs.length+1
 | []=>by simp[aM]
 | (k,x)::r=>by
  have ih:=iA f v r;rw[show aM f v ((k,x)::r)=(if k=f then (k,v)::r else (k,x)::aM f v r) from rfl];by_cases hk:k=f
  ·rw[if_pos hk,CQ,CQ];omega
  ·rw[if_neg hk,CQ,CQ];omega
theorem RelO.some_of {v:V}{o:Option Value}(r:RelO (some v) o):∃ u,o=some u/\RelV v u:=by
 cases o with
 | none=>exact Zf r
 | some u=>exact⟨u,rfl,r⟩
theorem RelO.none_of {o:Option Value}(r:RelO none o):o=none:=by
 cases o with
 | none=>rfl
 | some u=>exact Zf r
theorem tK {v:V}{u:Value}(r:RelV v u):Iw u=true:=by
 cases v with
 | non=>cases (show u=HL from r);rfl
 | bl b=>cases (show u=HM b from r);rfl
 | int i=>obtain⟨t,e⟩:=(show ∃ t,u=He i t from r);cases e;rfl
 | str x=>obtain⟨t,e⟩:=(show ∃ t,u=Ic x t from r);cases e;rfl
 | byt b=>obtain⟨t,e⟩:=(show ∃ t,u=Value.bytes b t from r);cases e;rfl
 | flt b=>obtain⟨t,e⟩:=(show ∃ t,u=Value.float b t from r);cases e;rfl
 | ref a=>cases (show u=Gh a from r);rfl
 | ty n=>cases (show u=Iz n from r);rfl
section
variable {P:Program}{w:World}{H H':Hp}{h h':Heap}{a C dx:Addr}{fs fs':List (Str×V)}
theorem kY (hok:HOk P w H h)(e:H a=some (.ins C dx fs)):∃ mA,ObjM h a dx C mA/\(∀ f,RelO (fs.lookup f) (mA f))/\Ih mA (fs.map (·.1))/\fs.length<=1000/\H dx=some (.own a):=by
 obtain⟨d,z,ne,ob,mA,n,r,q⟩:=(show ObjOk P w H h a (.ins C dx fs) from hok a _ e);exact⟨mA,⟨ob,n,ne⟩,r,q,z,d⟩
end
structure Cls (K:F5)(C:Addr):Prop where
 pg:GJ K C IC=true
 hd:GQ K C=true
 po:GX K C=true
 sa:F7 K (.ref C) "__setattr__"=some (some (.builtin "object.__setattr__"))
theorem Cls.get {K:F5}{C:Addr}(c:Cls K C)(f:Str):GJ K C f=true:=c.pg
def NoAttr (K:F5)(C:Addr)(f:Str):Prop:=F7 K (.ref C) f=some none
theorem NoAttr.taker {K:F5}{C:Addr}{f:Str}(n:NoAttr K C f):Hu K C f=some none:=by
 unfold Hu;rw[show F7 K (.ref C) f=some none from n];rfl
structure Meth (K:F5)(C:Addr)(m:Str)(f:Addr):Prop where
 at_:F7 K (.ref C) m=some (some (.ref f))
 fn:GR K (.ref f)=true
 kp:Gn K (.ref f)=true
section
variable {X:Cx}{pins:List (Addr×Obj)}{σ:St}{H:Hp}{s:Shared}{a C dx:Addr}{fs:List (Str×V)}{f:Str}{v:V}{A:Around}{E:Value->Shared->Prop}
theorem jK {b:Bool}{Q:Value->Shared->Prop}(I:Inv X pins σ H s)(e:H a=some (.ins C dx fs))(c:Cls X.K C)(n:NoAttr X.K C f)(l:fs.lookup f=some v)
  (h:∀ u s',Inv X pins σ H s'->RelV v u->Q u s'):wpAny (model X.prog X.w) A (getAttr (.ref a) f b) Q E s:=by
 obtain⟨mA,O,r,_,_,_⟩:=kY I.hok e;obtain⟨u,hu,ru⟩:=RelO.some_of (v:=v) (o:=mA f) (by rw[<- l];exact r f);exact get_map I.kIn O (c.get f) c.hd n hu (tK ru) (h u _ (I.tok _) ru)
theorem ji {m:Str}{g:Addr}{pl:Sem Bool}{Q:Value×List Value->Shared->Prop}(I:Inv X pins σ H s)(e:H a=some (.ins C dx fs))(c:Cls X.K C)(k:Meth X.K C m g)(l:fs.lookup m=none)
  (h:Q (.ref g,[.ref a]) s):wpAny (model X.prog X.w) A (getMethod (.ref a) m pl) Q E s:=by
 obtain⟨mA,O,r,_,_,_⟩:=kY I.hok e;have hn:mA m=none:=RelO.none_of (by rw[<- l];exact r m);exact vA I.kIn O (c.get m) k.at_ k.fn hn h
theorem jQ {y:V}{u:Value}{Q:Unit->Shared->Prop}(I:Inv X pins σ H s)(e:H a=some (.ins C dx fs))(c:Cls X.K C)(n:NoAttr X.K C f)(hl:fs.length<1000)(ry:RelV y u)
  (h:∀ s',Inv X pins σ (upd H a (.ins C dx (aM f y fs))) s'->Q () s'):wpAny (model X.prog X.w) A (setAttr (.ref a) f u) Q E s:=by
 obtain⟨mA,O,r,wi,_,ho⟩:=kY I.hok e;have hz:(fs.map (·.1)).length<=sizeLine:=by rw[CY,GC];omega
 refine wQ I.kIn O c.sa c.po n.taker c.hd wi hz λ h' O' sb=>h _ ?_
 have hd:∃ o,h'.get? dx=some o:=let ⟨o,_,_,e',_⟩:=O'.ns;⟨o,e'⟩
 refine I.write (x:=a) (e:=dx) (by rw[e];exact GD) (.inr ho) (λ b q hb z=>(sb.2 b hb).trans z) hd ?_
 refine⟨by rw[ah O.ne];exact ho,?_,O.ne,O'.obj,_,O'.ns,λ g=>?_,λ g hg=>?_⟩
 ·have:=iA f y fs;omega
 ·show RelO ((aM f y fs).lookup g) (if g=f then some u else mA g)
  rw[il];by_cases q:g=f
  ·rw[if_pos q,if_pos q];exact ry
  ·rw[if_neg q,if_neg q];exact r g
 ·by_cases q:g=f
  ·rw[q];exact(gX f y fs).1
  ·refine(gX f y fs).2 g (wi g λ z=>hg ?_)
   show (if g=f then some u else mA g)=none
   rw[if_neg q];exact z
theorem Inv.made (I:Inv X pins σ H s):Inv X pins σ (upd (upd H s.heap.objs.size (.own (s.heap.objs.size+1))) (s.heap.objs.size+1) (.ins C s.heap.objs.size []))
  { s with heap:=(s.heap.push Gs).push (GA C s.heap.objs.size) }:=by
 have e1:(s.heap.push Gs).get? s.heap.objs.size=some Gs:=Gd s.heap rfl;have e2:((s.heap.push Gs).push (GA C s.heap.objs.size)).get? (s.heap.objs.size+1)=some (GA C s.heap.objs.size):=by
  have:=Gd (s.heap.push Gs) (o:=GA C s.heap.objs.size) rfl
  rwa [HI] at this
 have e3:(s.heap.push Gs).Ns s.heap.objs.size (λ _=>none):=⟨Gs,#[],_,e1,rfl,(λ e he=>absurd he (by simp)),λ _=>rfl⟩;have I1:=I.laid (a:=s.heap.objs.size) (o:=.own (s.heap.objs.size+1)) (h':=s.heap.push Gs) (t':=s.toks) (λ b u q=>F8 _ q) (Dh _) ⟨_,e1⟩;refine I1.laid (a:=s.heap.objs.size+1) (o:=.ins C s.heap.objs.size []) (t':=s.toks) (λ b u q=>F8 _ q) (FE (HI _ _)) ?_
 have ne:s.heap.objs.size≠s.heap.objs.size+1:=De (D1 _);refine⟨by rw[ah ne,aq],Ez _,ne,e2,λ _=>none,(Heap.Ns1.of_empty e3).at λ o q=>F8 _ q,λ _=>GD,λ y hy=>absurd rfl hy⟩
theorem xK {prog:Program}{w:World}{env:Env}{e:Expr}{f:Str}{pos:Pos}{s:Shared}{Q:Value->Shared->Prop}(hb:attributeBase e f env (eval e env)=eval e env)
  (h:wpAny (model prog w) A (eval e env) (λ o s₁=>wpAny (model prog w) A (getAttr o f true) Q E s₁) E s):wpAny (model prog w) A (eval (.Attribute e f pos) env) Q E s:=
 Attribute_any_ h (by rw[arm_eval_Attribute,hb])
end
def gQ (K:F5)(ta:TE)(f:Str):TE:=λ σ H Q=>ta σ H λ x H1=>∃ a C dx fs v,x=.ref a/\H1 a=some (.ins C dx fs)/\Cls K C/\NoAttr K C f/\fs.lookup f=some v/\Q v H1
def mZ (K:F5)(ta tv:TE)(f:Str):TS:=λ D σ H=>tv σ H λ y H1=>ta σ H1 λ x H2=>∃ a C dx fs,x=.ref a/\H2 a=some (.ins C dx fs)/\Cls K C/\NoAttr K C f/\fs.length<1000 /\
 D.nx σ (upd H2 a (.ins C dx (aM f y fs)))
def Bm (X:Cx)(op:Operator)(rd:V->V->Hp->VK->Prop):Prop:=
 ∀ (pins:List (Addr×Obj)) (s:Shared) (σ:St) (H:Hp) (x y:V) (u v:Value) (Q:VK),Inv X pins σ H s->RelV x u->RelV y v->rd x y H Q->wpAny (model X.prog X.w) X.A (inplaceOp op u v) (EP X pins σ Q) X.xe s
def pX (K:F5)(ta tv:TE)(rd:V->V->Hp->VK->Prop)(f:Str):TS:=λ D σ H=>ta σ H λ x H1=>∃ a C dx fs v,x=.ref a/\H1 a=some (.ins C dx fs)/\Cls K C/\NoAttr K C f/\fs.lookup f=some v /\
 tv σ H1 λ y H2=>rd v y H2 λ z H3=>∃ dx' fs',H3 a=some (.ins C dx' fs')/\fs'.length<1000/\D.nx σ (upd H3 a (.ins C dx' (aM f z fs')))
section
variable {X:Cx}{o e value:Expr}{f:Str}{pos pos' tpos:Pos}{ta tv:TE}
theorem cv (he:PE X e ta)(hb:attributeBase e f X.env (eval e X.env)=eval e X.env):PE X (.Attribute e f pos) (gQ X.K ta f):=by
 intro pins s σ H Q I h;refine xK hb (thn (he pins s σ H _ I h) λ u s1 ⟨x,H1,I1,rx,a,C,dx,fs,v,ex,ea,c,n,l,q⟩=>?_);subst ex;obtain rfl:u=Gh a:=rx;exact jK I1 ea c n l λ u' s2 I2 ru=>⟨v,H1,I2,ru,q⟩
theorem gd (ha:PE X o ta)(hv:PE X value tv)(hs:swapsWith value (some (.Attribute o f pos')) pos.line X.env=pure false):PS X (.Assign [.Attribute o f pos'] value pos) (mZ X.K ta tv f):=by
 intro pins s σ H D I h;refine plainObj_wpAny_Assign_Attribute (thn (hv pins s σ H _ I h) λ u s1 ⟨y,H1,I1,ry,q⟩=>thn (ha pins s1 σ H1 _ I1 q) λ ov s2 ⟨x,H2,I2,rx,a,C,dx,fs,ex,ea,c,n,l,q2⟩=>?_) hs;subst ex;obtain rfl:ov=Gh a:=rx;exact jQ I2 ea c n l ry λ s3 I3=>⟨σ,_,I3,q2⟩
theorem tz {op:Operator}{rd:V->V->Hp->VK->Prop}(ha:PE X o ta)(hv:PE X value tv)(hop:Bm X op rd):PS X (.AugAssign (.Attribute o f tpos) op value pos) (pX X.K ta tv rd f):=by
 intro pins s σ H D I h;refine wpAny_AugAssign_AttributeAny (thn (ha pins s σ H _ I h) λ ov s1 ⟨x,H1,I1,rx,a,C,dx,fs,v,ex,ea,c,n,l,q⟩=>?_);subst ex;obtain rfl:ov=Gh a:=rx;refine jK I1 ea c n l λ u s2 I2 ru=>thn (hv pins s2 σ H1 _ I2 q) λ w3 s3 ⟨y,H2,I3,ry,q3⟩=>thn (hop pins s3 σ H2 v y u w3 _ I3 ru ry q3) λ w4 s4 ⟨z,H3,I4,rz,dx',fs',ea',l',q4⟩=>?_
 exact jQ I4 ea' c n l' rz λ s5 I5=>⟨σ,_,I5,q4⟩
def By:V->V->Hp->VK->Prop:=λ x y H Q=>∃ i j,x=.int i/\y=.int j/\Q (.int (i+j)) H
theorem Ba:Bm X .Add By:=by
 rintro pins s σ H x y u v Q I rx ry ⟨i,j,rfl,rfl,q⟩
 obtain⟨t,rfl⟩:=(show ∃ t,u=He i t from rx);obtain⟨t',rfl⟩:=(show ∃ t',v=He j t' from ry);exact PyProof.Rows.iadd_int ⟨.int (i+j),H,I.tok _,⟨_,rfl⟩,q⟩
end
structure Room (k:Nat)(A:Around):Prop where
 hd:A.handled=none
 dp:A.depth+3*k+5<recursionLimit
 un:A.units+16*k+200<cLine
theorem Room.mono {j k:Nat}{A:Around}(r:Room k A)(h:j<=k):Room j A:=⟨r.hd,by have:=r.dp;omega,by have:=r.un;omega⟩
theorem Room.deeper {k:Nat}{A:Around}(r:Room (k+1) A)(env:Env):Room k (A.deeper env):=
 ⟨r.hd,by have:=r.dp;show A.depth+1+3*k+5<_;omega,by have:=r.un;show A.units+3+16*k+200<_;omega⟩
theorem oJ {A:Around}{C:Addr}{us:List Value}{kw:List (Str×Value)}:(A.under (.builtin "type.__call__" ⟨.ref C::us,kw⟩)).depth=A.depth+1:=by
 first|rfl|simp[Il,Code.weight,Code.isCreation,Code.isGuard,Code.isCaller,Code.frames,Im,guardIds]
theorem oE {A:Around}{C:Addr}{us:List Value}{kw:List (Str×Value)}:(A.under (.builtin "type.__call__" ⟨.ref C::us,kw⟩)).units=A.units+1:=by
 first|rfl|simp[Il,Code.cUnits,Code.frames,Im]
theorem Room.make {k:Nat}{A:Around}(r:Room (k+1) A)(C:Addr)(us:List Value)(kw:List (Str×Value)):Room k (A.under (.builtin "type.__call__" ⟨.ref C::us,kw⟩)):=
 ⟨r.hd,by have:=r.dp;rw[oJ];omega,by have:=r.un;rw[oE];omega⟩
theorem Room.depth {k:Nat}{A:Around}(r:Room k A):A.depth<recursionLimit:=by have:=r.dp;omega
theorem Room.units {k:Nat}{A:Around}(r:Room k A):A.units+64<cLine:=by have:=r.un;omega
def cg:TA:=λ _ H Q=>Q [] H
def bg (ta:TE)(tr:TA):TA:=λ σ H Q=>ta σ H λ x H1=>tr σ H1 λ xs H2=>Q (x::xs) H2
section
variable {X:Cx}{e:Expr}{es:List Expr}{te:TE}{t:TA}{pos:Pos}
theorem aF:PA X [] cg:=λ _ _ _ _ H Q I h=>Calls.spliced_nil ⟨[],H,I,.nil,h⟩
theorem av (ha:PE X e te)(hr:PA X es t)(hs:autoParam (starEach (e::es) X.env=(false,eval e X.env)::starEach es X.env) ZF._auto_1):PA X (e::es) (bg te t):=by
 intro pos pins s σ H Q I h;rw[hs];show wpAny _ _ (spliced ((false,eval e X.env)::backTo pos (starEach es X.env))) _ _ s
 refine Calls.spliced_cons (thn (ha pins s σ H _ I h) λ u s1 ⟨x,H1,I1,r1,q1⟩=>?_);exact thn (hr pos pins s1 σ H1 _ I1 q1) λ us s2 ⟨xs,H2,I2,r2,q2⟩=>⟨x::xs,H2,I2,.cons r1 r2,q2⟩
def tj (t:TA):TE:=λ σ H Q=>t σ H λ xs H1=>xs.length<=sizeLine/\∀ p,H1 p=none->Q (.ref p) (upd H1 p (.tup xs))
def ot (t:TA):TE:=λ σ H Q=>t σ H λ xs H1=>xs.length<=sizeLine/\∀ p,H1 p=none->Q (.ref p) (upd H1 p (.lst xs))
theorem gi {x1}(h:PA X es t):PE X (.Tuple es x1 pos) (tj t):=by
 intro pins s σ H Q I hq;refine wpAny_Tuple_spliced (thn (h pos pins s σ H _ I hq) λ us s1 ⟨xs,H1,I1,r,z,q⟩=>⟨by rw[<- r.length];exact z,?_⟩);have hf:H1 s1.heap.objs.size=none:=I1.hok.fresh (Dh _);refine⟨.ref s1.heap.objs.size,upd H1 s1.heap.objs.size (.tup xs),I1.laid (t':=s1.toks) (λ b u e=>F8 _ e) (Dh _) ?_,rfl,q _ hf⟩;exact⟨z,us,r,⟨_,Gd _ rfl,rfl,_,rfl⟩⟩
theorem fV (h:PA X es t):PE X (.List es pos) (ot t):=by
 intro pins s σ H Q I hq;refine wpAny_List_spliced (thn (h pos pins s σ H _ I hq) λ us s1 ⟨xs,H1,I1,r,z,q⟩=>⟨by rw[<- r.length];exact z,?_⟩);have hf:H1 s1.heap.objs.size=none:=I1.hok.fresh (Dh _);refine⟨.ref s1.heap.objs.size,upd H1 s1.heap.objs.size (.lst xs),I1.laid (t':=s1.toks) (λ b u e=>F8 _ e) (Dh _) ?_,rfl,q _ hf⟩;exact⟨z,us,0,r,Gd _ rfl⟩
end
abbrev Sp:=List V->Hp->VK->XK->Prop
abbrev CXT:=List Env->Hp->Shared->XK->Value->Shared->Prop
structure Env0 (P:Program)(w:World)(K:F5)(mg:Str->Option Value)(base:Heap)(A:Around)(outer:List Env)(s:Shared)(H:Hp):Prop where
 frames:A.frames=some outer
 mod:Mod K mg base
 bs:∀ b o,base.get? b=some o->s.heap.get? b=some o/\H b=none
 bsz:base.objs.size<=s.heap.objs.size
 funs:s.heap.FunFrames base outer
 frf:∀ b∈frs outer,H b=none
 hok:HOk P w H s.heap
 bare:AllBare s.gens
def CE (outer:List Env)(P:Program)(w:World)(H:Hp)(s:Shared)(Q:VK)(u:Value)(s':Shared):Prop:=
 ∃ v H',s'.os=s.os/\AllBare s'.gens/\Un (frs outer) [] H H' s.heap s'.heap/\HOk P w H' s'.heap/\RelV v u/\Q v H'
def CR (CX:CXT)(outer:List Env)(P:Program)(w:World)(H:Hp)(s:Shared)(Q:VK)(E:XK)(r:Result)(s':Shared):Prop:=
 match r with
 | .ok (.ret u)=>CE outer P w H s Q u s'
 | .ok _=>False
 | .error e=>CX outer H s E e s'
structure FnOk (P:Program)(w:World)(K:F5)(mg:Str->Option Value)(base:Heap)(CX:CXT)(k:Nat)(f:Addr)(fd:FuncData)(ps:List Str)(sp:Sp):Prop where
 len:∀ vs H Q E,sp vs H Q E->vs.length=ps.length
 run:∀ (A:Around) (outer:List Env) (s:Shared) (H:Hp) (args:Args) (us:List Value) (vs:List V) (Q:VK) (E:XK),Room k A->Env0 P w K mg base A outer s H->BindsTo s fd args (ps.zip us)->Vals vs us->sp vs H Q E ->
  codeAny (model P w) A (.call (.ref f) args) (CR CX outer P w H s Q E) s
theorem FnOk.mono {P:Program}{w:World}{K:F5}{mg:Str->Option Value}{base:Heap}{CX:CXT}{j k:Nat}{f:Addr}{fd:FuncData}{ps:List Str}{sp:Sp}(F:FnOk P w K mg base CX j f fd ps sp)(h:j<=k):
  FnOk P w K mg base CX k f fd ps sp:=⟨F.len,λ A outer s H args us vs Q E hr=>F.run A outer s H args us vs Q E (hr.mono h)⟩
theorem Env0.make {P:Program}{w:World}{K:F5}{mg:Str->Option Value}{base:Heap}{A:Around}{outer:List Env}{s:Shared}{H:Hp}(e:Env0 P w K mg base A outer s H)(C:Addr)(us:List Value)(kw:List (Str×Value)):
  Env0 P w K mg base (A.under (.builtin "type.__call__" ⟨.ref C::us,kw⟩)) outer s H:=⟨by first|exact e.frames|(simpa[Il,Code.envs,Im,pushEnvs] using e.frames),e.mod,e.bs,e.bsz,e.funs,e.frf,e.hok,e.bare⟩
section
variable {X:Cx}{pins:List (Addr×Obj)}{σ:St}{H:Hp}{s s':Shared}
theorem Inv.env0 (I:Inv X pins σ H s):Env0 X.prog X.w X.K X.mg X.base X.A X.stack s H:=
 ⟨I.ok.frames,I.ok.mod,I.bs,DJ I.ok.bsz I.sz,I.stack,I.stkFree,I.hok,I.bare⟩
theorem Inv.after {Q:VK}{u:Value}(I:Inv X pins σ H s)(h:CE X.stack X.prog X.w H s Q u s'):EP X pins σ Q u s':=by
 obtain⟨v,H',os,bare,un,hok,r,q⟩:=h;obtain⟨hh,g,d,t,os'⟩:=s';obtain rfl:os'=s.os:=os;exact⟨v,H',I.call (h':=hh) (g':=g) (d':=d) (t':=t) (ch:=[]) un hok bare (λ b z=>absurd z (by simp)),r,q⟩
end
def qD (C:Addr)(m:Str)(sp:Sp)(dvs:List V)(E:XK)(ta:TE)(t:TA):TE:=λ σ H Q=>ta σ H λ x H1=>∃ a dx fs,x=.ref a/\H1 a=some (.ins C dx fs)/\fs.lookup m=none /\
 t σ H1 λ vs H2=>sp (x::(vs++dvs)) H2 Q E
def qo (C:Addr)(sp:Sp)(dvs:List V)(E:XK)(t:TA):TE:=λ σ H Q=>t σ H λ vs H1=>∀ x dx,H1 x=none->H1 dx=none->dx≠x ->
 sp (.ref x::(vs++dvs)) (upd (upd H1 dx (.own x)) x (.ins C dx [])) (λ v H2=>v=.non/\Q (.ref x) H2) E
def Binds (K:F5)(fd:FuncData)(ps:List Str)(ds:List Value):Prop:=
 ∀ (s:Shared) (us:List Value),K.In s.heap->(us++ds).length=ps.length->BindsTo s fd ⟨us,[]⟩ (ps.zip (us++ds))
theorem Binds.all {K:F5}{fd:FuncData}{ps:List Str}(h:∀ us:List Value,us.length=ps.length->bindArgs fd ⟨us,[]⟩=pure (ps.zip us)):Binds K fd ps []:=λ s us _ hl=>by
 rw[DT] at hl ⊢;exact .of_eq (h us hl)
def g8 (CX:CXT)(X:Cx)(E:XK):Prop:=∀ (pins:List (Addr×Obj)) (σ:St) (H:Hp) (s:Shared) (e:Value) (s':Shared),Inv X pins σ H s->CX X.stack H s E e s'->X.xe e s'
section
variable {X:Cx}{CX:CXT}{k:Nat}{f C:Addr}{fd:FuncData}{ps:List Str}{sp:Sp}{dvs:List V}{ds:List Value}{E:XK}{x m:Str}{p pos apos:Pos}{e o:Expr}{es:List Expr}{ta:TE}{t:TA}
theorem wt {pins:List (Addr×Obj)}{σ:St}{H:Hp}{s:Shared}{Q:VK}{us:List Value}{vs:List V}(F:FnOk X.prog X.w X.K X.mg X.base CX k f fd ps sp)(hr:Room k X.A)(hb:Binds X.K fd ps ds)(hd:Vals dvs ds)(hx:g8 CX X E)
  (I:Inv X pins σ H s) (r:Vals vs us) (h:sp (vs++dvs) H Q E):wpAny (model X.prog X.w) X.A (call (.ref f) us) (EP X pins σ Q) X.xe s:=by
 have r2:Vals (vs++dvs) (us++ds):=r.append hd;have hl:(us++ds).length=ps.length:=by rw[<- r2.length];exact F.len _ _ _ _ h
 refine wpAny_call (G4 (F.run X.A X.stack s H ⟨us,[]⟩ (us++ds) (vs++dvs) Q E hr I.env0 (hb s us I.kIn hl) r2 h) λ r s' hq=>?_);cases r with
 | error e=>exact hx pins σ H s e s' I hq
 | ok fl=>
  cases fl with
  | ret u=>exact I.after hq
  | next=>exact Gm hq
  | brk=>exact Gm hq
  | cont=>exact Gm hq
theorem xc {pl:Sem Bool}(he:PE X o ta)(c:Cls X.K C)(hm:Meth X.K C m f)(F:FnOk X.prog X.w X.K X.mg X.base CX k f fd ps sp)(hr:Room k X.A)(hb:Binds X.K fd ps ds)(hd:Vals dvs ds)(hx:g8 CX X E)(ha:PA X (e::es) t)
  (hst:autoParam (starEach (e::es) X.env=(false,eval e X.env)::starEach es X.env) ZF._auto_1) (hpl:autoParam ((backTo pos (starEach es X.env)).any (·.1)=false) ZF._auto_1)
  (ht:autoParam (eval (.Call (.Attribute o m apos) (e::es) [] pos) X.env=(do
   let ov <- eval o X.env
   standAt apos.atName
   let (f,first) <- holding [ov] (getMethod ov m pl)
   callWith pos f first (backTo pos (starEach (e::es) X.env)) (backToKw pos (keywordEach [] X.env)))) ZF._auto_1):
  PE X (.Call (.Attribute o m apos) (e::es) [] pos) (qD C m sp dvs E ta t):=by
 intro pins s σ H Q I h;refine HJ (pl:=pl) (thn (he pins s σ H _ I h) λ u s1 ⟨x,H1,I1,rx,a,dx,fs,ex,ea,l,q⟩=>?_) ht;subst ex;obtain rfl:u=Gh a:=rx;refine ji I1 ea c hm l ?_
 refine Hg (first:=[.ref a]) (h₀:=X.base) I.ok.mod.kin hm.kp (thn (ha pos pins s1 σ H1 _ I1 q) λ us s2 ⟨vs,H2,I2,r,q2⟩=>⟨I2.kIn,?_⟩) hst hpl;exact wt (us:=.ref a::us) (vs:=.ref a::vs) F hr hb hd hx I2 (.cons rfl r) q2
theorem uF {pl:Sem Bool}(he:PE X o ta)(c:Cls X.K C)(hm:Meth X.K C m f)(F:FnOk X.prog X.w X.K X.mg X.base CX k f fd ps sp)(hr:Room k X.A)(hb:Binds X.K fd ps ds)(hd:Vals dvs ds)(hx:g8 CX X E)
  (ht:autoParam (eval (.Call (.Attribute o m apos) [] [] pos) X.env=(do
   let ov <- eval o X.env
   standAt apos.atName
   let (f,first) <- holding [ov] (getMethod ov m pl)
   callWith pos f first (backTo pos (starEach [] X.env)) (backToKw pos (keywordEach [] X.env)))) ZF._auto_1):
  PE X (.Call (.Attribute o m apos) [] [] pos) (qD C m sp dvs E ta cg):=by
 intro pins s σ H Q I h;refine HJ (pl:=pl) (thn (he pins s σ H _ I h) λ u s1 ⟨x,H1,I1,rx,a,dx,fs,ex,ea,l,q⟩=>?_) ht;subst ex;obtain rfl:u=Gh a:=rx;refine ji I1 ea c hm l ?_
 exact PySem.W.callWith_K0 (first:=[.ref a]) I1.kIn hm.kp (wt (us:=[.ref a]) (vs:=[.ref a]) F hr hb hd hx I1 (.cons rfl .nil) q)
structure Mk (K:F5)(C f:Addr):Prop where
 makes:G3 K C=true
 init:F7 K (.ref C) "__init__"=some (some (.ref f))
 fn:GR K (.ref f)=true
 kp:Gn K (.ref C)=true
theorem vb {pins:List (Addr×Obj)}{σ:St}{H:Hp}{s:Shared}{Q:VK}{us:List Value}{vs:List V}(M:Mk X.K C f)(F:FnOk X.prog X.w X.K X.mg X.base CX k f fd ps sp)(hr:Room (k+1) X.A)(hb:Binds X.K fd ps ds)(hd:Vals dvs ds)
  (hx:g8 CX X E) (I:Inv X pins σ H s) (r:Vals vs us)
  (h:∀ x dx,H x=none->H dx=none->dx≠x->sp (.ref x::(vs++dvs)) (upd (upd H dx (.own x)) x (.ins C dx [])) (λ v H2=>v=.non/\Q (.ref x) H2) E):
  wpAny (model X.prog X.w) X.A (call (.ref C) us) (EP X pins σ Q) X.xe s:=by
 have hq:=h (s.heap.objs.size+1) s.heap.objs.size (I.hok.fresh (Fi _)) (I.hok.fresh (Dh _)) (De (D1 _));have I2:=Inv.made (C:=C) I;have r2:Vals (V.ref (s.heap.objs.size+1)::(vs++dvs)) (Gh (s.heap.objs.size+1)::(us++ds)):=.cons rfl (r.append hd);have hl:(Gh (s.heap.objs.size+1)::us++ds).length=ps.length:=by
  have e:=r2.length;rw[F.len _ _ _ _ hq] at e;exact e.symm
 refine wpAny_call (vR (f:=f) I.kIn M.makes M.init (beq_iff_eq.mp M.fn) (G4 (F.run _ X.stack _ _ ⟨Gh (s.heap.objs.size+1)::us,[]⟩ (Gh (s.heap.objs.size+1)::(us++ds)) _ _ E (hr.make C us [])
  (I2.env0.make C us []) (hb _ (Gh (s.heap.objs.size+1)::us) I2.kIn hl) r2 hq) λ r s' hq'=>?_))
 cases r with
 | error e=>exact hx pins σ _ _ e s' I2 hq'
 | ok fl=>
  cases fl with
  | ret u=>
   obtain⟨v,H',I3,rv,ev,q3⟩:=I2.after hq';subst ev;exact⟨rv,⟨V.ref (s.heap.objs.size+1),H',I3,rfl,q3⟩⟩
  | next=>exact Gm hq'
  | brk=>exact Gm hq'
  | cont=>exact Gm hq'
theorem lG (M:Mk X.K C f)(F:FnOk X.prog X.w X.K X.mg X.base CX k f fd ps sp)(hr:Room (k+1) X.A)(hg:Gl X x)(hm:X.mg x=some (.ref C))(hb:Binds X.K fd ps ds)(hd:Vals dvs ds)(hx:g8 CX X E)
  (ha:PA X (e::es) t) (hdb:autoParam ((x == ("__debug__":Str))=false) ZC._auto_1) (he:autoParam (starEach (e::es) X.env=(false,eval e X.env)::starEach es X.env) ZF._auto_1) (hpl:autoParam ((backTo pos (starEach es X.env)).any (·.1)=false) ZF._auto_1):
  PE X (.Call (.Name x p) (e::es) [] pos) (qo C sp dvs E t):=by
 intro pins s σ H Q I h;refine GT (lE I hg hm ?_ hdb);refine Hg (h₀:=X.base) I.ok.mod.kin M.kp (thn (ha pos pins s σ H _ I h) λ us s1 ⟨vs,H1,I1,r,q⟩=>⟨I1.kIn,?_⟩) he hpl;exact vb M F hr hb hd hx I1 r q
end
structure FnScope (N P:List Str)(sc:Scope):Prop where
 kind:sc.kind=.function
 co:sc.isCoroutine=false
 gen:sc.isGenerator=false
 nd:N.Nodup
 pre:N.take P.length=P
 par:∀ x∈P,sc.names.lookup x=some .local\/sc.names.lookup x=some .cell
 nofree:∀ y∈sc.names,y.2≠.free
theorem kO {kindOf:Str->Option NameKind}{x:Str}:∀ {binds:List (Str×Value)} {m:Str->Option Value},(∀ v,(x,v)∉binds)->bindL kindOf binds m x=m x
 | [],_,_=>rfl
 | (n,v)::r,m,h=>by
  unfold bindL;rw[kO λ w hw=>h w (CV _ hw)]
  split
  ·have:x≠n:=by rintro rfl;exact h v CS
   simp[this]
  ·rfl
theorem kS {kindOf:Str->Option NameKind}{x:Str}:∀ {binds:List (Str×Value)} {m:Str->Option Value},(∀ v,(x,v)∉binds)->bindC kindOf binds m x=m x
 | [],_,_=>rfl
 | (n,v)::r,m,h=>by
  unfold bindC;rw[kS λ w hw=>h w (CV _ hw)]
  split
  ·rfl
  ·have:x≠n:=by rintro rfl;exact h v CS
   simp[this]
theorem kA {kindOf:Str->Option NameKind}{x:Str}{v:Value}:∀ {P:List Str} {vs:List Value} {i:Nat} {m:Str->Option Value},P.Nodup->P[i]?=some x->vs[i]?=some v->kindOf x=some .local ->
  bindL kindOf (P.zip vs) m x=some v
 | [],_,_,_,_,h,_,_=>by simp at h
 | _::_,[],_,_,_,_,h,_=>by simp at h
 | p::P,w::vs,0,m,nd,h1,h2,hk=>by
  simp at h1 h2;subst h1;subst h2;show bindL kindOf ((p,w)::P.zip vs) m p=_
  unfold bindL;rw[kO λ v hv=>(List.nodup_cons.mp nd).1 (Fc hv).1,if_pos hk];simp
 | p::P,w::vs,i+1,m,nd,h1,h2,hk=>by
  show bindL kindOf ((p,w)::P.zip vs) m x=_
  unfold bindL;exact kA (i:=i) (List.nodup_cons.mp nd).2 (by simpa using h1) (by simpa using h2) hk
theorem kK {kindOf:Str->Option NameKind}{x:Str}{v:Value}:∀ {P:List Str} {vs:List Value} {i:Nat} {m:Str->Option Value},P.Nodup->P[i]?=some x->vs[i]?=some v->kindOf x≠some .local ->
  bindC kindOf (P.zip vs) m x=some v
 | [],_,_,_,_,h,_,_=>by simp at h
 | _::_,[],_,_,_,_,h,_=>by simp at h
 | p::P,w::vs,0,m,nd,h1,h2,hk=>by
  simp at h1 h2;subst h1;subst h2;show bindC kindOf ((p,w)::P.zip vs) m p=_
  unfold bindC;rw[kS λ v hv=>(List.nodup_cons.mp nd).1 (Fc hv).1,if_neg hk];simp
 | p::P,w::vs,i+1,m,nd,h1,h2,hk=>by
  show bindC kindOf ((p,w)::P.zip vs) m x=_
  unfold bindC;exact kK (i:=i) (List.nodup_cons.mp nd).2 (by simpa using h1) (by simpa using h2) hk
def start (N:List Str)(vs:List V):St:=vs.map some++List.replicate (N.length-vs.length) none
def cK (CX:CXT)(P:Program)(w:World)(K:F5)(mg:Str->Option Value)(base:Heap)(N:List Str)(qual:Str)(scope:Scope)(f:Addr)(cd:Value)(A:Around)(outer:List Env)(s:Shared)(H:Hp)(E:XK):Cx where
 prog:=P
 w:=w
 K:=K
 mg:=mg
 base:=base
 A:=A.deeper (envOfC qual scope s.heap.objs.size f cd)
 N:=N
 s₀:=s
 H₀:=H
 env:=envOfC qual scope s.heap.objs.size f cd
 outer:=outer
 stack:=envOfC qual scope s.heap.objs.size f cd::outer
 ex:=[]
 calm:=true
 fn:=λ _=>true
 pn:=[]
 xe:=λ e s'=>wpAny (model P w) (A.deeper (envOfC qual scope s.heap.objs.size f cd)) (leaving (envOfC qual scope s.heap.objs.size f cd) e) (λ _ s''=>CX outer H s E e s'') (λ e' s''=>CX outer H s E e' s'') s'
theorem nz {sc:Scope}{n:Nat}{x:Str}(h:sc.names.lookup x=some .cell):∃ c,(cellsFrom n sc.names []).lookup x=some c:=by
 have q:=HC sc.names n [] (.inl h);exact Option.isSome_iff_exists.mp q
theorem sL {CX:CXT}{P:Program}{w:World}{K:F5}{mg:Str->Option Value}{base:Heap}{N ps:List Str}{qual:Str}{scope:Scope}{f:Addr}{cd:Value}{A:Around}{outer:List Env}{s s1:Shared}{H:Hp}{E:XK}{us:List Value}{vs:List V}
  (S:FnScope N ps scope) (hd:A.handled=none) (e0:Env0 P w K mg base A outer s H) (hl:vs.length=ps.length) (r:Vals vs us)
  (x:InCallC s s.heap.objs.size (bindL (envOfC qual scope s.heap.objs.size f cd).kindOf (ps.zip us) λ _=>none) (cellsFrom (s.heap.objs.size+1) scope.names []) (bindC (envOfC qual scope s.heap.objs.size f cd).kindOf (ps.zip us) λ _=>none) s1):
  Inv (cK CX P w K mg base N qual scope f cd A outer s H E) [] (start N vs) H s1:=by
 have hpl:ps.length<=N.length:=by have:=congrArg List.length S.pre;rw[Ep] at this;omega
 obtain⟨h1,tk,rfl,hk⟩:=x.done;have noA:∀ b:Addr,b∉(cK CX P w K mg base N qual scope f cd A outer s H E).ex:=λ b z=>absurd (show b∈([]:List Addr) from z) (by simp)
 refine⟨⟨e0.mod,S.kind,rfl,rfl,Dh _,λ y z c h1 h2=>?_,λ y hy=>?_,λ y c _ h=>?_,λ _=>hd,Around.frames_deeper e0.frames,.inr ⟨rfl,rfl⟩,λ b z=>absurd z (noA b),e0.bs,e0.bsz,λ b _ _=>noA b,λ b z=>absurd z (noA b),e0.funs,e0.frf⟩,
  rfl,e0.bare,Un.kept hk,⟨_,x.toInCall.ns,λ i y v h1 h2 h3=>?_⟩,λ y c h=>⟨_,x.cell y c h⟩,e0.hok.fresh (Dh _),λ y c h=>?_,λ p hp=>absurd (show p∈([]:List (Addr×Obj)) from hp) (by simp),e0.hok.kept hk,?_⟩
 ·exact name_of_addr x.apart (GM h1) (GM h2)
 ·have hy:scope.names.lookup y=some .cell\/scope.names.lookup y=some .free:=hy
  rcases hy with hy|hy
  ·exact nz hy
  ·exact absurd rfl (S.nofree _ (GM hy))
 ·exact E7 (x.above y c (GM h))
 ·have hi:i<vs.length:=by
   unfold start at h2;by_cases hi:i<vs.length
   ·exact hi
   ·rw[DF (by simpa using hi)] at h2
    rw[DX] at h2
    split at h2 <;>cases h2
  have ha:vs[i]?=some v:=by
   unfold start at h2;rw[Dq (by simpa using hi),Dc] at h2;cases e:vs[i]? with
   | none=>rw[e] at h2;cases h2
   | some a=>rw[e] at h2;cases h2;rfl
  obtain⟨u,hu,rv⟩:=r.get ha;have hp:ps[i]?=some y:=by
   rw[<- S.pre,Ew ⋯];exact h1
  have ndP:ps.Nodup:=by rw[<- S.pre];exact S.nd.sublist (List.take_sublist _ _)
  refine⟨u,rv,?_⟩
  rcases S.par y (DI hp) with k|k
  ·exact .inl ⟨k,kA ndP hp hu k⟩
  ·obtain⟨c,e⟩:=nz (n:=s.heap.objs.size+1) k
   refine .inr ⟨.inl k,c,e,?_⟩;have q:=x.cell y c e;rw[kK ndP hp hu (by show scope.names.lookup y≠_;rw[k];decide)] at q;exact q
 ·exact e0.hok.fresh (E7 (x.above y c (GM h)))
 ·unfold start
  show _=N.length
  rw[C9,CY,DD];omega
theorem p9 {CX:CXT}{P:Program}{w:World}{K:F5}{mg:Str->Option Value}{base:Heap}{k:Nat}{f:Addr}{name qual:Str}{params:Arguments}{body:List Stmt}{scope:Scope}{dV kV doc pm cdv ct oc:Value}{an od:Option Addr}
  {osl:Array (Option Value)} {N ps:List Str} {sp:Sp} (lk:K.lookup f=some ⟨oc,od,.func (Ga name qual params body scope dV kV doc pm an cdv ct),osl⟩) (hcd:Gy K cdv qual=true) (S:FnScope N ps scope)
  (len:∀ vs H Q E,sp vs H Q E->vs.length=ps.length)
  (hbody:∀ (A:Around) (outer:List Env) (s:Shared) (H:Hp) (vs:List V) (Q:VK) (E:XK),Room k (A.deeper (envOfC qual scope s.heap.objs.size f cdv))->sp vs H Q E ->
   ∃ t,PSs (cK CX P w K mg base N qual scope f cdv A outer s H E) body t/\t { nx:=λ _ H'=>Q .non H',rt:=Q } (start N vs) H):
  FnOk P w K mg base CX (k+1) f (Ga name qual params body scope dV kV doc pm an cdv ct) ps sp:=by
 refine⟨len,λ A outer s H args us vs Q E hr e0 hb r hsp=>?_⟩;have hl:=len _ _ _ _ hsp;have KX:K.In s.heap:=e0.mod.kin.keeps λ b o e=>(e0.bs b o e).1
 have lim:s.heap.NoLimit:=e0.mod.nolimit.keeps λ b o e=>(e0.bs b o e).1
 have hkind:∀ y∈ps.zip us,scope.names.lookup y.1=some .local\/(scope.names.lookup y.1=some .cell/\((cellsFrom (s.heap.objs.size+1) scope.names []).lookup y.1).isSome=true):=λ⟨n,v⟩ hy=>by
  rcases S.par n (Fc hy).1 with q|q
  ·exact .inl q
  ·exact .inr ⟨q,HC _ _ _ (.inl q)⟩
 refine codeAny_call_function hr.depth (KX _ _ lk) rfl S.co S.gen rfl (PySem.W.codeRec_of KX hcd) (hb _ _ _ _ ?_);refine wpAny_newFunctionEnv_cells S.kind hkind λ env he s1 x=>?_
 subst he;refine⟨lim.keeps x.toInCall.keep,codeAny_func ?_⟩;obtain⟨t,ht,hq⟩:=hbody A outer s H vs Q E (hr.deeper _) hsp;have I:Inv (cK CX P w K mg base N qual scope f cdv A outer s H E) [] (start N vs) H s1:=sL S hr.hd e0 hl r x;refine Ge (ht [] s1 (start N vs) H _ I hq) (λ fl s' hs=>?_) λ e s' hs=>hs
 have fin:∀ {σ':St} {H':Hp} {v:V} {u:Value},Inv (cK CX P w K mg base N qual scope f cdv A outer s H E) [] σ' H' s'->RelV v u->Q v H'->CE outer P w H s Q u s':=
  λ {σ' H' v u} J rv q=>⟨v,H',J.os,J.bare,J.base,J.hok,rv,q⟩
 cases fl with
 | ret u=>
  obtain⟨v,σ',H',J,rv,q⟩:=hs;exact fin J rv q
 | next=>
  obtain⟨σ',H',J,q⟩:=hs;exact fin (v:=V.non) (u:=HL) J rfl q
 | brk=>
  obtain⟨_,_,_,q⟩:=hs;exact Gm q
 | cont=>
  obtain⟨_,_,_,q⟩:=hs;exact Gm q
section
variable {X:Cx}{x:Str}{p pos:Pos}{e:Expr}{es:List Expr}{t:TA}{id T:String}{r:List V->Hp->VK->Prop}
def tCB (r:List V->Hp->VK->Prop)(t:TA):TE:=λ σ H Q=>t σ H λ vs H1=>r vs H1 Q
theorem b8 (hc:dY X (.builtin id) r)(hg:Gl X x)(hm:X.mg x=none)(hv:bootBuiltins x=some (.builtin id))(ha:PA X (e::es) t)(hn:autoParam (x≠"__name__") ZC._auto_1)(hdb:autoParam ((x == ("__debug__":Str))=false) ZC._auto_1)
  (he:autoParam (starEach (e::es) X.env=(false,eval e X.env)::starEach es X.env) ZF._auto_1) (hpl:autoParam ((backTo pos (starEach es X.env)).any (·.1)=false) ZF._auto_1):PE X (.Call (.Name x p) (e::es) [] pos) (tCB r t):=by
 intro pins s σ H Q I h;refine GT (eP I hg hm hv ?_ hn hdb);exact PyProof.Rows.callWith_builtin1 (thn (ha pos pins s σ H _ I h) λ us s1 ⟨vs,H1,I1,r1,q1⟩=>hc pins s1 σ H1 vs us Q I1 r1 q1) he hpl
theorem tM (hc:dY X (.type T) r)(hg:Gl X x)(hm:X.mg x=none)(hv:bootBuiltins x=some (.type T))(ha:PA X (e::es) t)(hn:autoParam (x≠"__name__") ZC._auto_1)(hdb:autoParam ((x == ("__debug__":Str))=false) ZC._auto_1)
  (he:autoParam (starEach (e::es) X.env=(false,eval e X.env)::starEach es X.env) ZF._auto_1) (hpl:autoParam ((backTo pos (starEach es X.env)).any (·.1)=false) ZF._auto_1):PE X (.Call (.Name x p) (e::es) [] pos) (tCB r t):=by
 intro pins s σ H Q I h;refine GT (eP I hg hm hv ?_ hn hdb);exact Gp (thn (ha pos pins s σ H _ I h) λ us s1 ⟨vs,H1,I1,r1,q1⟩=>hc pins s1 σ H1 vs us Q I1 r1 q1) he hpl
end
end L2
namespace HT
open PySem PyProof.Rows
section
open PySem.SeqAt
open PySem.AutoSeq1 (wpAny_loadPart')
open PySem.MeetsSeq PySem.MeetsSeq2 PySem.MeetsSeq3
end
section
variable {prog:Program}{w:World}{A:Around}{E:Value->Shared->Prop}{s:Shared}
def sIx (n d:Nat):Option Int->Nat
 | none=>d
 | some v=>if v<0 then (v+(n:Int)).toNat else min v.toNat n
end
end HT
namespace L2
open PySem PySem.Spec PyProof.Rows
abbrev TO:=St->Hp->(Option Int->Hp->Prop)->Prop
def PO (X:Cx)(e:Option Expr)(t:TO):Prop:=
 ∀ (pins:List (Addr×Obj)) (s:Shared) (σ:St) (H:Hp) (Q:Option Int->Hp->Prop),Inv X pins σ H s->t σ H Q ->
  wpAny (model X.prog X.w) X.A (evalPart e X.env) (λ u s'=>∃ o H',Inv X pins σ H' s'/\IsPart u o/\Q o H') X.xe s
def xW:TO:=λ _ H Q=>Q none H
def yW (t:TE):TO:=λ σ H Q=>t σ H λ x H1=>∃ i,x=.int i/\Q (some i) H1
theorem intsAre_of {ns:List Int}:∀ {us:List Value},Vals (ns.map V.int) us->IntsAre us ns:=by
 induction ns with
 | nil=>intro us r;rw[CP] at r;cases r;exact .nil
 | cons n ns ih=>
  intro us r;rw[CN] at r;cases r with
  | cons r1 r2=>
   obtain⟨t,e⟩:=r1;subst e;exact .cons n t (ih r2)
section
variable {X:Cx}{e:Expr}{te:TE}{lo hi:Option Expr}{tl th:TO}{pos p2:Pos}
theorem yo:PO X none xW:=by
 intro pins s σ H Q I h;rw[HV];exact Gc ⟨none,H,I,.none,h⟩
theorem qk (h:PE X e te):PO X (some e) (yW te):=by
 intro pins s σ H Q I hw;rw[evalPart_some];refine thn (h pins s σ H _ I hw) λ u s1 ⟨x,H1,I1,r1,q1⟩=>?_
 obtain⟨i,rfl,q⟩:=q1;obtain⟨t,rfl⟩:=r1;exact⟨some i,H1,I1,.int i t,q⟩
def SlR (X:Cx)(r:V->Option Int->Option Int->Hp->VK->Prop):Prop:=
 ∀ (pins:List (Addr×Obj)) (s:Shared) (σ:St) (H:Hp) (x:V) (v vl vu:Value) (lo hi:Option Int) (sl:Addr) (Q:VK),Inv X pins σ H s->RelV x v->s.heap.IsSliceOf sl vl vu .none->IsPart vl lo->IsPart vu hi->r x lo hi H Q ->
  ∃ T id,typeLookup (.type T) "__getitem__"=pure (some (.builtin id))/\s.TypeIs v T/\wpAny (model X.prog X.w) X.A (getItem v (.ref sl)) (EP X pins σ Q) X.xe s
def tSl (r:V->Option Int->Option Int->Hp->VK->Prop)(te:TE)(tl th:TO):TE:=λ σ H Q=>te σ H λ x H1=>tl σ H1 λ l H2=>th σ H2 λ u H3=>r x l u H3 Q
theorem uO {r:V->Option Int->Option Int->Hp->VK->Prop}(hr:SlR X r)(he:PE X e te)(hl:PO X lo tl)(hu:PO X hi th):PE X (.Subscript e (.Slice lo hi none p2) pos) (tSl r te tl th):=by
 intro pins s σ H Q I h;refine HP (thn (he pins s σ H _ I h) λ v s1 ⟨x,H1,I1,r1,q1⟩=>?_);refine wpAny_Slice (thn (hl pins s1 σ H1 _ I1 q1) λ vl s2 ⟨l,H2,I2,pl,q2⟩=>thn (hu pins s2 σ H2 _ I2 q2) λ vu s3 ⟨u,H3,I3,pu,q3⟩=>?_);rw[HV];refine Gc ?_
 have I4:Inv X pins σ H3 { s3 with heap:=s3.heap.push { cls:=.type "slice",data:=.fields #[vl,vu,.none] } }:=I3.kept (t':=s3.toks) λ b ob q=>F8 _ q
 obtain⟨T,id,hT,ht,hg⟩:=hr pins { s3 with heap:=s3.heap.push { cls:=.type "slice",data:=.fields #[vl,vu,.none] } } σ H3 x v vl vu l u s3.heap.objs.size Q I4 r1 (Io ..) pl pu q3;show wpAny (model X.prog X.w) X.A (subscriptTail e (.Slice lo hi none p2) v (.ref s3.heap.objs.size)) (EP X pins σ Q) X.xe { s3 with heap:=s3.heap.push { cls:=.type "slice",data:=.fields #[vl,vu,.none] } }
 exact tail_any (ops:=[.ref s3.heap.objs.size,v]) ht hT hg (by with_unfolding_all rfl)
def tV (xs:List V)(lo hi:Option Int):List V:=(xs.drop (HT.sIx xs.length 0 lo)).take (HT.sIx xs.length xs.length hi-HT.sIx xs.length 0 lo)
theorem m6 (xs:List V)(lo hi:Option Int):(tV xs lo hi).length<=xs.length:=by
 unfold tV;rw[Ep,List.length_drop];omega
end
def ixN (n:Nat)(i:Int):Option Nat:=if 0<=i then (if i<n then some i.toNat else none) else if -(n:Int)<=i then some (i+n).toNat else none
def atI {α:Type}(xs:List α)(i:Int):Option α:=(ixN xs.length i).bind λ j=>xs[j]?
theorem qT {n:Nat}{i:Int}{j:Nat}(h:ixN n i=some j):seqIndex? i n=some j/\j<n/\-(n:Int)<=i/\i<n:=by
 unfold ixN at h;by_cases h0:0<=i
 ·rw[if_pos h0] at h
  by_cases h1:i<n
  ·rw[if_pos h1] at h
   have e:i.toNat=j:=Option.some.inj h;exact⟨by rw[HD h0 h1,e],⋯,⋯,h1⟩
  ·rw[if_neg h1] at h;cases h
 ·rw[if_neg h0] at h
  by_cases h1:-(n:Int)<=i
  ·rw[if_pos h1] at h
   have e:(i+n).toNat=j:=Option.some.inj h;exact⟨by rw[Ip ⋯ h1,e],⋯,h1,⋯⟩
  ·rw[if_neg h1] at h;cases h
theorem iS {α:Type}{xs:List α}{i:Int}{v:α}(h:atI xs i=some v):∃ j,seqIndex? i xs.length=some j/\xs[j]?=some v/\j<xs.length/\-(xs.length:Int)<=i/\i<xs.length:=by
 unfold atI at h;cases e:ixN xs.length i with
 | none=>rw[e] at h;cases h
 | some j=>
  rw[e] at h;obtain⟨h1,h2,h3,h4⟩:=qT e;exact⟨j,h1,h,h2,h3,h4⟩
theorem p5 {α:Type}{xs:List α}{j:Nat}{v:α}(h:xs[j]?=some v):atI xs (j:Int)=some v:=by
 have hj:j<xs.length:=(List.getElem?_eq_some_iff.mp h).1;have e:ixN xs.length (j:Int)=some j:=by
  unfold ixN;rw[if_pos ⋯,if_pos ⋯];simp
 unfold atI;rw[e];exact h
def qI (b:Expr):Prop:=∀ o i,subscripted b false o i=operate [o,i] (getItem o i)
def IxR (X:Cx)(r:R2):Prop:=
 ∀ (value slice:Expr) (pins:List (Addr×Obj)) (s:Shared) (σ:St) (H:Hp) (x y:V) (v u:Value) (Q:VK),Inv X pins σ H s->RelV x v->RelV y u->r x y H Q ->
  subscripted slice false v u=operate [v,u] (getItem v u)->wpAny (model X.prog X.w) X.A (subscriptTail value slice v u) (EP X pins σ Q) X.xe s
def MtR (X:Cx)(id:String)(r:V->List V->Hp->VK->Prop):Prop:=
 ∀ (pins:List (Addr×Obj)) (s:Shared) (σ:St) (H:Hp) (x:V) (xs:List V) (v:Value) (us:List Value) (Q:VK),Inv X pins σ H s->RelV x v->Vals xs us->r x xs H Q ->
  wpAny (model X.prog X.w) X.A (call (.builtin id) (v::us)) (EP X pins σ Q) X.xe s
section
variable {X:Cx}{a b:Expr}{ta tb:TE}{pos:Pos}
theorem IxR.or {r r':R2}(h:IxR X r)(h':IxR X r'):IxR X (λ x y H Q=>r x y H Q\/r' x y H Q):=by
 intro value slice pins s σ H x y v u Q I rx ry q hs
 rcases q with q|q
 ·exact h value slice pins s σ H x y v u Q I rx ry q hs
 ·exact h' value slice pins s σ H x y v u Q I rx ry q hs
theorem vn {r:R2}(hr:IxR X r)(ha:PE X a ta)(hb:PE X b tb)(hs:qI b):PE X (.Subscript a b pos) (tOp r ta tb):=by
 intro pins s σ H Q I h;exact HP (AN ha hb I h λ v u s2 x y H2 I2 rx ry q=>hr a b pins s2 σ H2 x y v u Q I2 rx ry q (hs _ _))
def AB (K:F5):R2:=λ x y H Q=>∃ p xs i v,x=.ref p/\y=.int i/\SqL K H p xs/\atI xs i=some v/\Q v H
def CA (K:F5):R2:=λ x y H Q=>∃ p xs i v,x=.ref p/\y=.int i/\SqT K H p xs/\atI xs i=some v/\Q v H
theorem ix_list:IxR X (AB X.K):=by
 intro value slice pins s σ H x y v u Q I rx ry h hs;obtain⟨p,xs,i,z,rfl,rfl,hq,he,q⟩:=h;cases rx;obtain⟨t,rfl⟩:=ry;obtain⟨its,r,pl,hz⟩:=I.list hq;obtain⟨j,h1,h2,h3,h4,h5⟩:=iS he;obtain⟨w,ew,rw'⟩:=r.get h2;have hl:=r.length;have hn:=jG;have fin:EP X pins σ Q w s:=⟨z,H,I,rw',q⟩;by_cases h0:0<=i
 ·have hj:i.toNat=j:=by
   rw[HD h0 h5] at h1;exact Option.some.inj h1
  exact item_listR pl.isList h0 ⋯ (by rw[hj];simpa using ew) fin hs
 ·have hj:(i+(its.toArray.size:Int)).toNat=j:=by
   rw[Ip ⋯ h4] at h1;rw[Dd,<- hl];exact Option.some.inj h1
  exact HE (x:=w) pl.isList.typeIs slot_list_getitem.lookup
   (wpAny_getItem_list_neg (Q:=λ r s'=>r=w/\EP X pins σ Q r s') pl.isList ⋯ (by rw[Dd] <;>omega) ⋯ (by rw[hj];simpa using ew) ⟨rfl,fin⟩) hs
theorem zt:IxR X (CA X.K):=by
 intro value slice pins s σ H x y v u Q I rx ry h hs;obtain⟨p,xs,i,z,rfl,rfl,hq,he,q⟩:=h;cases rx;obtain⟨t,rfl⟩:=ry;obtain⟨its,r,pl,hz⟩:=I.tuple hq;obtain⟨j,h1,h2,h3,h4,h5⟩:=iS he;obtain⟨w,ew,rw'⟩:=r.get h2;have hl:=r.length;have hn:=jG;have fin:EP X pins σ Q w s:=⟨z,H,I,rw',q⟩;exact HE (x:=w) pl.typeIs slot_tuple_getitem.lookup
  (getItem_tuple (j:=j) (Q:=λ r s'=>r=w/\EP X pins σ Q r s') pl ⋯ ⋯ (by rw[Dd,<- hl];exact h1) (by simpa using ew) ⟨rfl,fin⟩) hs
theorem nU (its:List Value)(n j:Nat)(u:Value):Hm (·.setIfInBounds j u) { cls:=.type "list",data:=.seq its.toArray n }={ cls:=.type "list",data:=.seq (its.set j u).toArray n }:=by
 simp[Hm]
theorem Inv.lst {pins:List (Addr×Obj)}{σ:St}{H:Hp}{s:Shared}{p:Addr}{xs:List V}(I:Inv X pins σ H s)(h:H p=some (.lst xs)):
  ∃ (its:List Value) (n:Nat),Vals xs its/\s.heap.get? p=some { cls:=.type "list",data:=.seq its.toArray n }/\xs.length<=sizeLine:=by
 obtain⟨z,its,n,r,e⟩:=I.hok p _ h;exact⟨its,n,r,e,z⟩
theorem Inv.lstUpd {pins:List (Addr×Obj)}{σ:St}{H:Hp}{s:Shared}{p:Addr}{xs ys:List V}{its its':List Value}{n n':Nat}{f:Obj->Obj}(I:Inv X pins σ H s)(h:H p=some (.lst xs))
  (ho:s.heap.get? p=some { cls:=.type "list",data:=.seq its.toArray n }) (hf:f { cls:=.type "list",data:=.seq its.toArray n }={ cls:=.type "list",data:=.seq its'.toArray n' }) (r:Vals ys its') (hz:ys.length<=sizeLine) (t:Nat):
  Inv X pins σ (upd H p (.lst ys)) { s with heap:=s.heap.update p f,toks:=t }:=by
 have e:(s.heap.update p f).get? p=some { cls:=.type "list",data:=.seq its'.toArray n' }:=by
  rw[Heap.get?_update_self f ho (by rw[hf] <;>rfl),hf]
 refine I.write (x:=p) (e:=p) (by rw[h];trivial) (.inl rfl) (λ b u hb q=>(GP _ _ (Ne.symm hb)).trans q) ⟨_,e⟩ ?_
 exact⟨hz,its',n',r,e⟩
def zh:V->V->V->Hp->(Hp->Prop)->Prop:=λ o i v H Q=>∃ p xs k j,o=.ref p/\i=.int k/\H p=some (.lst xs)/\ixN xs.length k=some j/\Q (upd H p (.lst (xs.set j v)))
theorem set_list:AM X zh:=by
 intro pins s σ H o i v ov iv u Q I ro ri rv h;obtain⟨p,xs,k,j,rfl,rfl,hp,hj,q⟩:=h;cases ro;obtain⟨t,rfl⟩:=ri;obtain⟨its,n,r,ho,hz⟩:=I.lst hp;obtain⟨h1,h2,h3,h4⟩:=qT hj;have hl:=r.length;have hn:=jG;have I':Inv X pins σ (upd H p (.lst (xs.set j v))) { s with heap:=s.heap.update p (Hm (·.setIfInBounds j u)) }:=
  I.lstUpd hp ho (nU its n j u) (r.set rv j) (by rw[Dk];exact hz) s.toks
 by_cases h0:0<=k
 ·have hk:k.toNat=j:=by
   rw[HD h0 h4] at h1;exact Option.some.inj h1
  exact PySem.W.ki_setAt ho h0 ⋯ (by rw[Dd,<- hl];exact h4) (by rw[hk];exact⟨_,I',q⟩)
 ·have hk:(k+(its.toArray.size:Int)).toNat=j:=by
   rw[Ip ⋯ h3] at h1;rw[Dd,<- hl];exact Option.some.inj h1
  exact PySem.W.ki_setBack ho ⋯ (by rw[Dd,<- hl];exact h3) ⋯ (by rw[hk];exact⟨_,I',q⟩)
theorem lC (lo hi:Option Int)(n:Nat):(sliceBounds lo hi none n).1=((HT.sIx n 0 lo:Nat):Int)/\(sliceBounds lo hi none n).2.1=((HT.sIx n n hi:Nat):Int)/\(sliceBounds lo hi none n).2.2=1:=by
 refine⟨?_,?_,rfl⟩
 ·cases lo with
  | none=>simp[sliceBounds,HT.sIx]
  | some i=>
   simp only[sliceBounds,HT.sIx,FM,show (1:Int) > 0 by decide,if_true];by_cases h:i<0
   ·simp only[h,if_true] <;>omega
   ·simp only[h,if_false] <;>omega
 ·cases hi with
  | none=>simp[sliceBounds,HT.sIx]
  | some i=>
   simp only[sliceBounds,HT.sIx,FM,show (1:Int) > 0 by decide,if_true];by_cases h:i<0
   ·simp only[h,if_true] <;>omega
   ·simp only[h,if_false] <;>omega
theorem jV (its:List Value)(lo hi:Option Int):slicePick its.toArray lo hi none=((its.drop (HT.sIx its.length 0 lo)).take (HT.sIx its.length its.length hi-HT.sIx its.length 0 lo)).toArray:=by
 obtain⟨h1,h2,h3⟩:=lC lo hi its.toArray.size;unfold slicePick;rw[h1,h2,h3];simp only[sliceRange_one,pick_run,Dd] <;>rfl
def CH (K:F5):V->Option Int->Option Int->Hp->VK->Prop:=λ x lo hi H Q=>∃ a xs,x=.ref a/\SqL K H a xs/\∀ p,H p=none->Q (.ref p) (upd H p (.lst (tV xs lo hi)))
theorem yF:SlR X (CH X.K):=by
 intro pins s σ H x v vl vu lo hi sl Q I rx hs pl pu h;obtain⟨a,xs,rfl,hx,q⟩:=h;cases rx;obtain⟨its,r,ht,hz⟩:=I.list hx;have hlen:=r.length;refine⟨"list",_,slot_list_getitem.lookup,ht.isList.typeIs,?_⟩;refine Ho ht.isList hs pl pu .none (by simp) ?_ (by rw[Dd] <;>omega)
 rw[jV,<- hlen];refine⟨.ref s.heap.objs.size,_,I.laid (t':=s.toks) (o:=.lst (tV xs lo hi)) (λ b ob q=>F8 _ q) (Dh _) ?_,rfl,q _ (I.hok.fresh (Dh _))⟩;exact⟨DJ (m6 xs lo hi) hz,_,0,(r.drop (HT.sIx xs.length 0 lo)).take (HT.sIx xs.length xs.length hi-HT.sIx xs.length 0 lo),Gd _ rfl⟩
def fO:V->Bool
 | .non=>true
 | .bl _=>true
 | .int _=>true
 | .str _=>true
 | _=>false
def eqV:V->V->Bool
 | .non,.non=>true
 | .bl a,.bl b=>a == b
 | .bl a,.int b=>(if a then 1 else 0) == b
 | .int a,.bl b=>a == (if b then 1 else 0)
 | .int a,.int b=>a == b
 | .str a,.str b=>a == b
 | _,_=>false
theorem zJ {A:Around}{s:Shared}{y x:V}{u v:Value}(ry:RelV y u)(rx:RelV x v)(fy:fO y=true)(fx:fO x=true):SeqAt.EqAt A s u v (eqV y x):=by
 cases y with
 | non=>
  cases ry;cases x with
  | non=>cases rx;exact SeqAt.EqAt.same _
  | bl b=>cases rx;exact SeqAt.EqAt.none_bool b
  | int b=>obtain⟨t,rfl⟩:=rx;exact SeqAt.EqAt.none_int b t
  | str b=>obtain⟨t,rfl⟩:=rx;exact SeqAt.EqAt.none_str b t
  | _=>exact absurd (show false=true from fx) Dj
 | bl a=>
  cases ry;cases x with
  | non=>cases rx;exact SeqAt.EqAt.bool_none a
  | bl b=>cases rx;exact SeqAt.EqAt.bool_bool a b
  | int b=>obtain⟨t,rfl⟩:=rx;exact SeqAt.EqAt.bool_int a b t
  | str b=>obtain⟨t,rfl⟩:=rx;exact SeqAt.EqAt.bool_str a b t
  | _=>exact absurd (show false=true from fx) Dj
 | int a=>
  obtain⟨t',rfl⟩:=ry;cases x with
  | non=>cases rx;exact SeqAt.EqAt.int_none a t'
  | bl b=>cases rx;exact SeqAt.EqAt.int_bool a t' b
  | int b=>obtain⟨t,rfl⟩:=rx;exact SeqAt.EqAt.int_int a t' b t
  | str b=>obtain⟨t,rfl⟩:=rx;exact Ie a t' b t
  | _=>exact absurd (show false=true from fx) Dj
 | str a=>
  obtain⟨t',rfl⟩:=ry;cases x with
  | non=>cases rx;exact SeqAt.EqAt.str_none a t'
  | bl b=>cases rx;exact SeqAt.EqAt.str_bool a t' b
  | int b=>obtain⟨t,rfl⟩:=rx;exact Ig a t' b t
  | str b=>obtain⟨t,rfl⟩:=rx;exact SeqAt.EqAt.str_str a t' b t
  | _=>exact absurd (show false=true from fx) Dj
 | _=>exact absurd (show false=true from fy) Dj
def eqU (x:V)(u:Value):Bool:=match u with
 | .none=>eqV .non x
 | .bool b=>eqV (.bl b) x
 | .int i _=>eqV (.int i) x
 | .str z _=>eqV (.str z) x
 | _=>false
theorem uK {x y:V}{u:Value}(r:RelV y u)(f:fO y=true):eqU x u=eqV y x:=by
 cases y with
 | non=>cases r;rfl
 | bl b=>cases r;rfl
 | int i=>obtain⟨t,rfl⟩:=r;rfl
 | str z=>obtain⟨t,rfl⟩:=r;rfl
 | _=>exact absurd (show false=true from f) Dj
theorem gz {x:V}:∀ {xs:List V} {us:List Value},Vals xs us->xs.all fO=true->us.any (eqU x)=xs.any λ y=>eqV y x
 | _,_,.nil,_=>rfl
 | y::xs,u::us,.cons r t,f=>by
  rw[E1,C3] at f;rw[Ee,Ee,uK r f.1,gz t f.2]
theorem fk {A:Around}{s:Shared}{x:V}{v:Value}(rx:RelV x v)(fx:fO x=true):∀ {xs:List V} {us:List Value},Vals xs us->xs.all fO=true->∀ u∈us,SeqAt.EqAt A s u v (eqU x u)
 | _,_,.nil,_=>λ u hu=>by cases hu
 | y::xs,u::us,.cons r t,f=>λ u' hu=>by
  rw[E1,C3] at f
  rcases List.mem_cons.mp hu with rfl|hu
  ·rw[uK r f.1];exact zJ r rx f.1 fx
  ·exact fk rx fx t f.2 u' hu
def inV (x:V)(xs:List V):Bool:=xs.any λ y=>eqV y x
def rIn (K:F5)(neg:Bool):R2:=λ x y H Q=>∃ p xs,y=.ref p/\(SqL K H p xs\/SqT K H p xs)/\fO x=true/\xs.all fO=true/\Q (.bl (if neg then !inV x xs else inV x xs)) H
theorem tm:OpR X (compareOp .In) (rIn X.K false):=by
 intro pins s σ H x y v u Q I rx ry h;obtain⟨p,xs,rfl,hq,fx,fs,q⟩:=h;cases ry
 rcases hq with hq|hq
 ·obtain⟨its,r,pl,hz⟩:=I.list hq
  refine SeqAt.in_listAt (eqU x) pl.isList (λ w hw=>fk rx fx r fs w (by simpa using hw)) ⟨.bl _,H,I,rfl,?_⟩;rw[show its.toArray.any (eqU x)=its.any (eqU x) by simp,gz r fs];exact q
 ·obtain⟨its,r,pl,hz⟩:=I.tuple hq
  refine SeqAt.in_tupleAt (eqU x) pl (λ w hw=>fk rx fx r fs w (by simpa using hw)) ⟨.bl _,H,I,rfl,?_⟩;rw[show its.toArray.any (eqU x)=its.any (eqU x) by simp,gz r fs];exact q
theorem lB:OpR X (compareOp .NotIn) (rIn X.K true):=by
 intro pins s σ H x y v u Q I rx ry h;obtain⟨p,xs,rfl,hq,fx,fs,q⟩:=h;cases ry
 rcases hq with hq|hq
 ·obtain⟨its,r,pl,hz⟩:=I.list hq
  refine SeqAt.notIn_listAt (eqU x) pl.isList (λ w hw=>fk rx fx r fs w (by simpa using hw)) ⟨.bl _,H,I,rfl,?_⟩;rw[show its.toArray.any (eqU x)=its.any (eqU x) by simp,gz r fs];exact q
 ·obtain⟨its,r,pl,hz⟩:=I.tuple hq
  refine SeqAt.notIn_tupleAt (eqU x) pl (λ w hw=>fk rx fx r fs w (by simpa using hw)) ⟨.bl _,H,I,rfl,?_⟩;rw[show its.toArray.any (eqU x)=its.any (eqU x) by simp,gz r fs];exact q
theorem bT:dY X (.builtin "len") (λ xs H Q=>∃ p ys,xs=[.ref p]/\(SqL X.K H p ys\/SqT X.K H p ys)/\Q (.int ys.length) H):=by
 intro pins s σ H xs us Q I r h;obtain⟨p,ys,rfl,hq,q⟩:=h;obtain⟨u,rfl,rx⟩:=vals1 r;cases rx;have hn:=jG
 rcases hq with hq|hq
 ·obtain⟨its,r',pl,hz⟩:=I.list hq
  have hlen:=r'.length;exact Calls.call_len_list pl.isList (by simp only[Dd] <;>omega) ⟨.int ys.length,H,I.tok _,⟨s.toks+1,by rw[Dd,hlen]⟩,q⟩
 ·obtain⟨its,r',pl,hz⟩:=I.tuple hq
  have hlen:=r'.length;exact len_tuple pl (by simp only[Dd] <;>omega) ⟨.int ys.length,H,I.tok _,⟨s.toks+1,by rw[Dd,hlen]⟩,q⟩
theorem lp:dY X (.type "list") (λ xs H Q=>∃ p ys,xs=[.ref p]/\(SqL X.K H p ys\/SqT X.K H p ys)/\∀ l,H l=none->Q (.ref l) (upd H l (.lst ys))):=by
 intro pins s σ H xs us Q I r h;obtain⟨p,ys,rfl,hq,q⟩:=h;obtain⟨u,rfl,rx⟩:=vals1 r;cases rx;have fin:∀ (its:List Value),Vals ys its->ys.length<=sizeLine->∀ (h':Heap) (c':Nat),(∀ b o',s.heap.get? b=some o'->h'.get? b=some o') ->
   h'.get? s.heap.objs.size=some { cls:=.type "list",dict:=none,data:=.seq its.toArray c',slots:=#[] }->EP X pins σ Q (.ref s.heap.objs.size) { s with heap:=h' }:=λ its r' hz h' c' kp e=>
  ⟨.ref s.heap.objs.size,_,I.laid (t':=s.toks) kp (Dh _) (show ObjOk X.prog X.w _ h' _ (.lst ys) from ⟨hz,its,c',r',e⟩),rfl,q _ (I.hok.fresh (Dh _))⟩
 rcases hq with hq|hq
 ·obtain⟨its,r',pl,hz⟩:=I.list hq
  have hlen:=r'.length;obtain⟨o,ho,hc,n,hd⟩:=pl.isList;exact call_list_seq p (.inl rfl) ho hc hd (λ h' c' kp e=>fin its r' hz h' c' kp e) (by simp only[Dd] <;>omega)
 ·obtain⟨its,r',pl,hz⟩:=I.tuple hq
  have hlen:=r'.length;obtain⟨o,ho,hc,n,hd⟩:=pl;exact call_list_seq p (.inr rfl) ho hc hd (λ h' c' kp e=>fin its r' hz h' c' kp e) (by simp only[Dd] <;>omega)
def tyV (K:F5)(T:String)(x:V)(H:Hp):Prop:=match x with
 | .str _=>T="str"
 | .int _=>T="int"
 | .ref p=>(T="list"/\∃ xs,SqL K H p xs)\/(T="tuple"/\∃ o,K.lookup p=some o/\o.cls=.type "tuple"/\o.dict=none) \/
   (T="dict"/\((∃ kvs,H p=some (.dK kvs))\/∃ kvs,H p=some (.dT kvs)))\/(T="set"/\∃ S n,H p=some (.set S n))
 | _=>False
theorem t8 {pins:List (Addr×Obj)}{σ:St}{H:Hp}{s:Shared}{T:String}{x:V}{v:Value}(I:Inv X pins σ H s)(r:RelV x v)(ty:tyV X.K T x H):
  s.TypeIs v T/\∀ a,v=.ref a->∃ ob,s.heap.get? a=some ob/\ob.dict=none:=by
 cases x with
 | str z=>
  obtain⟨t,rfl⟩:=r;cases (show T="str" from ty);exact⟨typeIs_str s z t,λ _ e=>nomatch e⟩
 | int i=>
  obtain⟨t,rfl⟩:=r;cases (show T="int" from ty);exact⟨typeIs_int s i t,λ _ e=>nomatch e⟩
 | ref p=>
  cases r
  rcases ty with ⟨rfl,xs,hq⟩|⟨rfl,o,hk,hc,hd⟩|⟨rfl,hk⟩|⟨rfl,S,n,hk⟩
  ·obtain⟨its,_,pl,_⟩:=I.list hq
   refine⟨pl.isList.typeIs,λ a e=>?_⟩;cases e;obtain⟨o,n,e,c,hd,_⟩:=pl;exact⟨o,e,hd⟩
  ·refine⟨⟨o,I.kIn p o hk,hc⟩,λ a e=>?_⟩
   cases e;exact⟨o,I.kIn _ o hk,hd⟩
  ·have z:∃ o,s.heap.get? p=some o/\o.ExactDict:=by
    rcases hk with ⟨kvs,hk⟩|⟨kvs,hk⟩
    ·obtain⟨_,_,_,_,o,_,_,e,ex,_⟩:=I.hok p _ hk
     exact⟨o,e,ex⟩
    ·obtain⟨_,_,_,_,o,_,_,e,ex,_⟩:=I.hok p _ hk
     exact⟨o,e,ex⟩
   obtain⟨o,e,ex⟩:=z;refine⟨⟨o,e,ex.1⟩,λ a e2=>?_⟩;cases e2;exact⟨o,e,ex.2.1⟩
  ·obtain⟨o,_,_,_,e,ex,_⟩:=I.hok p _ hk
   refine⟨⟨o,e,ex.1⟩,λ a e2=>?_⟩;cases e2;exact⟨o,e,ex.2.1⟩
 | _=>exact Gm ty
def BC (K:F5)(T:String)(r:V->List V->Hp->VK->Prop)(to:TE):TE:=λ σ H Q=>to σ H λ x H1=>tyV K T x H1/\r x [] H1 Q
def tBM (K:F5)(T:String)(r:V->List V->Hp->VK->Prop)(to:TE)(t:TA):TE:=λ σ H Q=>to σ H λ x H1=>tyV K T x H1/\t σ H1 λ xs H2=>r x xs H2 Q
variable {o e:Expr}{es:List Expr}{to:TE}{t:TA}{name:Str}{apos cpos:Pos}{T id:String}{r:V->List V->Hp->VK->Prop}
theorem zS (pa:PlainAttrs T)(slot:Slot T name id)(hty:typeOf (.builtin id)=pure (.type "method_descriptor"))(hm:MtR X id r)(ho:PE X o to)
  (hbase:autoParam (attributeBase o name X.env (eval o X.env)=eval o X.env) ZF._auto_1) (hline:autoParam ((apos.endLine == cpos.line)=true) ZF._auto_1):PE X (.Call (.Attribute o name apos) [] [] cpos) (BC X.K T r to):=by
 intro pins s σ H Q I h;refine wpAny_Call_method0_late hbase hline (thn (ho pins s σ H _ I h) λ v s1 ⟨x,H1,I1,r1,ty,q1⟩=>?_);obtain⟨h1,h2⟩:=t8 I1 r1 ty;exact⟨T,id,pa,slot,hty,h1,h2,HF rfl (PySem.evalArgs_none (hm pins s1 σ H1 x [] v [] Q I1 r1 .nil q1))⟩
theorem iu (pa:PlainAttrs T)(slot:Slot T name id)(hty:typeOf (.builtin id)=pure (.type "method_descriptor"))(hm:MtR X id r)(ho:PE X o to)(ha:PA X (e::es) t)
  (hbase:autoParam (attributeBase o name X.env (eval o X.env)=eval o X.env) ZF._auto_1)
  (hfew:autoParam (((backTo cpos (starEach (e::es) X.env)).all (λ x=>!x.1)&&(backToKw cpos (keywordEach [] X.env)).all (λ x=>x.1.isSome)
   && decide ((e::es).length+([]:List Keyword).length+(if ([]:List Keyword).isEmpty then 0 else 1)<30))=true) ZF._auto_1)
  (hline:autoParam ((apos.endLine == cpos.line)=true) ZF._auto_1) (hs:autoParam (starEach (e::es) X.env=(false,eval e X.env)::starEach es X.env) ZF._auto_1) (hplain:autoParam ((backTo cpos (starEach es X.env)).any (·.1)=false) ZF._auto_1):
  PE X (.Call (.Attribute o name apos) (e::es) [] cpos) (tBM X.K T r to t):=by
 intro pins s σ H Q I h;refine wpAny_Call_method_late hbase hfew hline rfl (thn (ho pins s σ H _ I h) λ v s1 ⟨x,H1,I1,r1,ty,q1⟩=>?_);obtain⟨h1,h2⟩:=t8 I1 r1 ty;refine⟨T,id,pa,slot,hty,h1,h2,?_⟩;have hA:=ha cpos pins s1 σ H1 _ I1 q1;rw[hs] at hA ⊢;refine HF (by show (false || (backTo cpos (starEach es X.env)).any (·.1))=false;rw[hplain] <;>rfl) (HQ ?_);exact thn hA λ us s2 ⟨vs,H2,I2,r2,q2⟩=>hm pins s2 σ H2 x vs v us Q I2 r1 r2 q2
end
def MtM (X:Cx)(id:String)(r:V->List V->Hp->VK->Prop):Prop:=
 ∀ (pins:List (Addr×Obj)) (s:Shared) (σ:St) (H:Hp) (x:V) (xs:List V) (v:Value) (us:List Value) (Q:VK),Inv X pins σ H s->RelV x v->Vals xs us->r x xs H Q ->
  wpAny (model X.prog X.w) X.A (call (.builtin id) (v::us)) (EP X pins σ Q) X.xe s
theorem Vals.one {x:V}{us:List Value}(r:Vals [x] us):∃ u,us=[u]/\RelV x u:=by
 cases r with
 | cons r1 r2=>cases r2;exact⟨_,rfl,r1⟩
theorem Vals.zero:∀ {us:List Value},Vals [] us->us=[]
 | _,.nil=>rfl
theorem Vals.dropLast {xs:List V}{us:List Value}(h:Vals xs us):Vals xs.dropLast us.dropLast:=by
 induction h with
 | nil=>exact .nil
 | cons r t ih=>
  cases t with
  | nil=>exact .nil
  | cons q t'=>exact .cons r ih
theorem Vals.rep {xs:List V}{us:List Value}(h:Vals xs us):∀ k:Nat,Vals (List.replicate k xs).flatten (List.replicate k us).flatten
 | 0=>.nil
 | k+1=>by
  rw[Du,Du,DL,DL];exact Vals.append h (Vals.rep h k)
theorem oU {α:Type}(l:List α):l.eraseIdx (l.length-1)=l.dropLast:=by
 induction l with
 | nil=>rfl
 | cons a r ih=>
  cases r with
  | nil=>rfl
  | cons b r=>
   have e:(a::b::r).length-1=((b::r).length-1)+1:=by
    have h1:(a::b::r).length=r.length+2:=rfl;have h2:(b::r).length=r.length+1:=rfl;omega
   rw[e,List.eraseIdx_cons_succ,ih]
   all_goals rfl
theorem foldl_rep (its:List Value):∀ (k:Nat) (acc:List Value),
  List.foldl (λ x1 x2=>x1++x2) acc.toArray (List.replicate k its.toArray)=(acc++(List.replicate k its).flatten).toArray
 | 0,acc=>by simp
 | k+1,acc=>by
  have e:acc.toArray++its.toArray=(acc++its).toArray:=by simp
  have e2:(acc++its)++(List.replicate k its).flatten=acc++(List.replicate (k+1) its).flatten:=by
   rw[Du,DL,Ek]
  rw[<- e2,<- foldl_rep its k (acc++its),<- e,Du,C7]
section
variable {X:Cx}{pins:List (Addr×Obj)}{σ:St}{H:Hp}{s:Shared}{l b:Addr}{xs ys zs:List V}
theorem Inv.lset {its its':List Value}{n:Nat}{f:Array Value->Array Value}{t':Nat}(I:Inv X pins σ H s)(hH:H l=some (.lst xs))
  (e:s.heap.get? l=some { cls:=.type "list",data:=.seq its.toArray n }) (hf:f its.toArray=its'.toArray) (hv:Vals ys its') (hz:ys.length<=sizeLine):
  Inv X pins σ (upd H l (.lst ys)) { s with heap:=s.heap.update l (Hm f),toks:=t' }:=by
 have q:=Iy e f;rw[hf] at q;refine I.write (x:=l) (e:=l) (by rw[hH];exact trivial) (.inl rfl) (λ b' u hb hu=>(GP s.heap (Hm f) (Ne.symm hb)).trans hu) ⟨_,q⟩ ?_
 exact⟨hz,its',_,hv,q⟩
theorem Inv.lnew {its:List Value}{t':Nat}(I:Inv X pins σ H s)(hv:Vals ys its)(hz:ys.length<=sizeLine):
  Inv X pins σ (upd H s.heap.objs.size (.lst ys)) { s with heap:=s.heap.push { cls:=.type "list",data:=.seq its.toArray },toks:=t' }:=
 I.laid (λ _ _ q=>F8 _ q) (Dh _) ⟨hz,its,0,hv,Gd _ rfl⟩
theorem Inv.fresh (I:Inv X pins σ H s):H s.heap.objs.size=none:=I.hok.fresh (Dh _)
theorem Inv.lstM (I:Inv X pins σ H s)(hH:H l=some (.lst xs)):xs.length<=sizeLine/\∃ (its:List Value) (n:Nat),Vals xs its/\xs.length=its.length/\s.heap.get? l=some { cls:=.type "list",data:=.seq its.toArray n }:=by
 obtain⟨z,its,n,r,e⟩:=I.hok l _ hH;exact⟨z,its,n,r,r.length,e⟩
theorem mQ {n:Nat}(h:n<=sizeLine):GK n=false:=by
 unfold GK;exact decide_eq_false ⋯
end
section
variable {X:Cx}
def gF:V->List V->Hp->VK->Prop:=λ x vs H Q=>∃ l xs y,x=.ref l/\vs=[y]/\H l=some (.lst xs)/\xs.length<sizeLine/\Q .non (upd H l (.lst (xs++[y])))
theorem cV:MtM X "list.append" gF:=by
 intro pins s σ H x vs v us Q I rx rv h;obtain⟨l,xs,y,rfl,rfl,hH,hz,q⟩:=h;cases rx;obtain⟨u,rfl,ru⟩:=rv.one;obtain⟨z,its,n,r,hl,e⟩:=I.lstM hH;refine GW Iq ⟨_,e,rfl⟩ HZ (HR _ _) (Iv l its.toArray n u (by rw[Dd];omega)) ⟨e,?_⟩;refine⟨.non,_,I.lset (its':=its++[u]) hH e (by simp) (r.append (.cons ru .nil)) ?_,rfl,q⟩;rw[C9,Ds];omega
def pT:V->List V->Hp->VK->Prop:=λ x vs H Q=>∃ l b xs zs,x=.ref l/\vs=[.ref b]/\H l=some (.lst xs)/\H b=some (.lst zs)/\xs.length+zs.length<=sizeLine/\Q .non (upd H l (.lst (xs++zs)))
theorem tf:MtM X "list.extend" pT:=by
 intro pins s σ H x vs v us Q I rx rv h;obtain⟨l,b,xs,zs,rfl,rfl,hH,hB,hz,q⟩:=h;cases rx;obtain⟨u,rfl,ru⟩:=rv.one;cases ru;obtain⟨z,its,n,r,hl,e⟩:=I.lstM hH;obtain⟨z2,its2,n2,r2,hl2,e2⟩:=I.lstM hB;have hsz:its.toArray.size+its2.toArray.size<=sizeLine:=by rw[Dd,Dd];omega
 have hlong:¬ (!its.toArray.isEmpty&&GK (its.toArray.size+its2.toArray.size))=true:=by
  rw[mQ hsz,Di];exact Dj
 refine GW F.slot_list_extend ⟨_,e,rfl⟩ F.entry_list_extend (F.args_list_extend_2 _ _)
  (AutoSeq1.list_extend_list_list_0 l its.toArray n b its2.toArray n2 hlong (by rw[Dd];omega) ⋯) ⟨e,e2,?_⟩
 refine⟨.non,_,I.lset (its':=its++its2) hH e (by simp) (r.append r2) ?_,rfl,q⟩;rw[C9];omega
def Br:V->List V->Hp->VK->Prop:=λ x vs H Q=>∃ l xs y,x=.ref l/\vs=[]/\H l=some (.lst xs)/\xs[xs.length-1]?=some y/\Q y (upd H l (.lst xs.dropLast))
theorem AE:MtM X "list.pop" Br:=by
 intro pins s σ H x vs v us Q I rx rv h;obtain⟨l,xs,y,rfl,rfl,hH,hy,q⟩:=h;cases rx;have hus:=rv.zero;subst hus;obtain⟨z,its,n,r,hl,e⟩:=I.lstM hH;obtain⟨u,hu,ru⟩:=r.get hy;have hy':its.toArray[its.toArray.size-1]?=some u:=by
  show its.toArray[its.length-1]?=some u
  rw[<- Array.getElem?_toList,<- hl];exact hu
 refine GW F.slot_list_pop ⟨_,e,rfl⟩ F.entry_list_pop (F.args_list_pop_1 _) (MeetsSeq.list_pop_last l its.toArray n u hy' (by rw[Dd];omega)) ⟨e,?_⟩;refine⟨y,_,I.lset (its':=its.dropLast) hH e ?_ r.dropLast ?_,ru,q⟩
 ·show its.toArray.eraseIdxIfInBounds (its.toArray.size-1)=its.dropLast.toArray
  rw[Dd,List.eraseIdxIfInBounds_toArray,oU]
 ·rw[Fq]
  omega
theorem len_rep {α:Type}(xs:List α)(k:Nat):(List.replicate k xs).flatten.length=k*xs.length:=by
 induction k with
 | zero=>simp
 | succ k ih=>rw[Du,DL,C9,ih,DK,FF]
end
end L2
namespace Att
open PySem PySem.W PySem.Calls PyProof.Rows
theorem iJ {P:Params}{h:Heap}:∀ (ns:List Int) (vs:List Value),WellAll P h vs (ns.map GU)->IntsAre vs ns:=by
 intro ns
 induction ns with
 | nil=>
  intro vs w;rw[CP] at w;cases w;exact .nil
 | cons n ns ih=>
  intro vs w;rw[CN] at w;cases w with
  | cons a b=>
   cases a;exact .cons _ _ (ih _ b)
theorem script_of {l:OpenLaw}{n:Nat}(hn:l.most=some n){P:Params}{h:Heap}{args:List WData}{vals:List Value}
  (hpre:l.row.toRowW.claim.pre args=true) (hwl:WellAll P h vals args):
  ∃ a vs ns,vals=[Gh a]/\args=[IA (ns.map GU)]/\h.get? a=some { cls:=.type "list",data:=.seq vs.toArray }/\IntsAre vs ns/\ns.length<=n:=by
 have hsh:WShape.hasAll [] args [.list .int]=true:=(pre_splitW hpre).1;have hc:l.pre.holds [] { args:=args }=true:=(pre_splitW hpre).2;obtain⟨d,r,rfl,h1,h2⟩:=hasAllW_cons hsh;obtain rfl:=hasAllW_nil h2;obtain⟨xs,rfl,h3⟩:=hasW_list h1;obtain⟨ns,rfl⟩:=items_int h3;have hlen:ns.length<=n:=by
  unfold OpenLaw.pre at hc;have h4:(WTm.not (.lt (.lit (.int (n:Int))) (.len (.arg 0)))).holds [] { args:=[.list (ns.map .int)] }=true:=by
   have h4:=(holds_andW hc).1;rw[hn] at h4;exact h4
  have h5:=condW_of h4 (w_not (w_lt w_lit (w_len_list (w_arg rfl))));rw[CY] at h5;refine Nat.le_of_not_lt λ q=>?_
  have q':(n:Int)<((ns.length:Nat):Int):=⋯
  first
   | (rw[decide_eq_true q'] at h5;exact absurd h5 (by decide))
   | (simp at h5;omega)
 cases hwl with
 | cons w1 w2=>
  cases w2;cases w1 with
  | list ho hall=>exact⟨_,_,ns,rfl,rfl,ho,iJ ns _ hall,hlen⟩
theorem post_true (l:OpenLaw)(args:List WData):l.row.toRowW.claim.post args (.bool true) args=true:=
 postW_of (r:=l.row.toRowW) (X:=(true == true))
  (show WShape.has [] (.bool true) .bool=true by first|rfl|decide|simp[WShape.has,WShape.arms,WShape.armsAll])
  (show (WTm.eq .res (.lit (.bool true))).value [] { args:=args,res:=some (.bool true),after:=args }=some (.bool (true == true)) from w_eq_bool (w_res rfl) w_lit) rfl
section
variable {prog:Program}{w:World}{A:Around}{E:Value->Shared->Prop}{s:Shared}{K:Frag}
def ledger (h:Heap)(L d:Addr):List (Addr×Obj):=(List.range h.objs.size).filterMap λ a=>if a=L\/a=d then none else (h.get? a).map λ o=>(a,o)
end
end Att
namespace L2
open PySem PySem.Spec PyProof.Rows
theorem kH:∀ {vs:List Value} {ns:List Int},IntsAre vs ns->Vals (ns.map V.int) vs
 | _,_,.nil=>.nil
 | _,_,.cons n t h=>.cons ⟨t,rfl⟩ (kH h)
def Bx (H:Hp):Prop:=∀ b,H b=none\/∃ o xs,H b=some (.frz o (.lst xs))
theorem law_call {P:Program}{w:World}{K:F5}{mg mb:Str->Option Value}{CX:CXT}{k:Nat}{fa a:Addr}{fd:FuncData}{x:Str}{sp:Sp}{s₁:Shared}{vs:List Value}{ns:List Int}
  (KX:K.In s₁.heap) (hns:s₁.heap.Ns mainGlobals mg) (hb:s₁.heap.Ns builtinsNs mb) (hbb:∀ x:Str,x≠"__name__"->mb x=bootBuiltins x) (hlim:s₁.heap.NoLimit) (hg:s₁.gens=#[])
  (ha:s₁.heap.get? a=some { cls:=.type "list",data:=.seq vs.toArray }) (hi:IntsAre vs ns) (hl:ns.length<=sizeLine) (hr:Room k callerA)
  (F:∀ base:Heap,K.In base->base.Ns mainGlobals mg->FnOk P w K mg base CX k fa fd [x] sp) (hbind:∀ (s:Shared) (u:Value),BindsTo s fd ⟨[u],[]⟩ [(x,u)])
  (hsp:∀ H:Hp,Bx H->SqL K H a (ns.map V.int)->sp [.ref a] H (λ v _=>v=.bl true) λ _ _ _=>False)
  (hCX:∀ H e s',CX [] H s₁ (λ _ _ _=>False) e s'->False):
  codeAny (model P w) callerA (.call (.ref fa) ⟨[.ref a],[]⟩) (λ r s'=>r=.ok (.ret (.bool true))/\OldK s₁.heap s'.heap/\s'.os=s₁.os/\AllBare s'.gens) s₁:=by
 have rv:=kH hi;have lenV:=hi.length;have core:∀ H:Hp,Bx H->SqL K H a (ns.map V.int)->HOk P w H s₁.heap->(∀ b,H b≠none->b=a)->(H a≠none->K.lookup a=none) ->
   codeAny (model P w) callerA (.call (.ref fa) ⟨[.ref a],[]⟩) (λ r s'=>r=.ok (.ret (.bool true))/\OldK s₁.heap s'.heap/\s'.os=s₁.os/\AllBare s'.gens) s₁:=by
  intro H hO hS hok hA hK;have base_of:∀ {b:Addr} {o:Obj},s₁.heap.get? b=some o->H b=none->(k6 s₁.heap H).get? b=some o:=λ e n=>uP e n
  have noA:∀ {b:Addr} {o:Obj} {es:Array DictEntry} {ep:Nat},s₁.heap.get? b=some o->o.data=.dict es ep->H b=none:=λ {b o es ep} e d=>by
   cases q:H b with
   | none=>rfl
   | some u=>
    have e':b=a:=hA b (by rw[q];simp);subst e';rw[ha] at e;cases e;have d':Data.seq vs.toArray _=Data.dict es ep:=d;cases d'
  have nsK:∀ {b:Addr} {m:Str->Option Value},s₁.heap.Ns b m->(k6 s₁.heap H).Ns b m:=λ {b m} ⟨o,es,ep,e,d,r⟩=>⟨o,es,ep,base_of e (noA e d),d,r⟩
  have hKb:K.In (k6 s₁.heap H):=λ b o e=>base_of (KX b o e) (by
   cases q:H b with
   | none=>rfl
   | some u=>
    have e':b=a:=hA b (by rw[q];simp);subst e';rw[hK (by rw[q];simp)] at e;cases e)
  have hM:Mod K mg (k6 s₁.heap H):=⟨hKb,nsK hns,⟨mb,nsK hb,hbb⟩,let ⟨mc,h1,h2⟩:=hlim;⟨mc,nsK h1,h2⟩⟩;have e0:Env0 P w K mg (k6 s₁.heap H) callerA [] s₁ H:=⟨rfl,hM,λ b o e=>xB e,FE (tQ _ _),trivial,λ b hb=>absurd (show b∈([]:List Addr) from hb) (by simp),hok,.of_eq hg⟩;refine G4 ((F _ hKb (nsK hns)).run callerA [] s₁ H ⟨[.ref a],[]⟩ [.ref a] [.ref a] _ _ hr e0 (hbind s₁ (.ref a)) (.cons rfl .nil) (hsp H hO hS)) λ r s' h=>?_
  cases r with
  | error e=>exact(hCX H e s' h).elim
  | ok fl=>
   cases fl with
   | next=>exact Gm h
   | brk=>exact Gm h
   | cont=>exact Gm h
   | ret u=>
    obtain⟨v,H',os,bare,un,hok',r',q⟩:=h;have q':v=.bl true:=q;subst q';obtain rfl:u=HM true:=r';refine⟨rfl,OldK.of_keep λ b o e=>?_,os,bare⟩;cases q:H b with
    | none=>exact un.keep b o e q (by intro z;exact absurd (show b∈([]:List Addr) from z) (by simp)) (by simp)
    | some u=>
     rcases hO b with z|⟨ob,xs,z⟩
     ·rw[q] at z;cases z
     ·have z2:=un.frzs b ob _ z
      obtain⟨e1,_⟩:=hok b _ z;obtain⟨e2,_⟩:=hok' b _ z2;rw[e] at e1;cases e1;exact e2
 cases hk:K.lookup a with
 | some o=>
  have e:=KX a o hk;rw[ha] at e;cases e;refine core (λ _=>none) (λ _=>.inl rfl) (.inr ⟨_,vs.toArray,_,hk,rfl,rfl,rfl,by rw[Dd,lenV];exact hl,by simpa using rv⟩) (λ b u z=>by have z':(none:Option HO)=some u:=z;cases z') (λ b z=>absurd rfl z) λ z=>absurd rfl z
 | none=>
  refine core (λ b=>if b=a then some (.frz { cls:=.type "list",data:=.seq vs.toArray } (.lst (ns.map V.int))) else none) (λ b=>?_) (.inl (.inr ⟨{ cls:=.type "list",data:=.seq vs.toArray },if_pos rfl⟩)) (λ b u z=>?_) (λ b z=>?_) λ _=>hk
  ·by_cases hb:b=a
   ·exact .inr ⟨_,_,if_pos hb⟩
   ·exact .inl (if_neg hb)
  ·by_cases hb:b=a
   ·have z':=(if_pos hb).symm.trans z
    cases z';subst hb;exact⟨ha,by rw[CY];exact hl,vs,_,rv,ha⟩
   ·have z':=(if_neg hb).symm.trans z
    cases z'
  ·by_cases hb:b=a
   ·exact hb
   ·exact absurd (if_neg hb) z
def inClass (s:Stmt)(j:Nat):Stmt:=match s with
 | .ClassDef _ _ _ body _ _ _ _ _ _ _=>body.getD j (.Pass ⟨0,0,0,0⟩)
 | _=>.Pass ⟨0,0,0,0⟩
def be (s:Stmt):Arguments:=match s with
 | .FunctionDef _ a _ _ _ _ _ _ _ _=>a
 | _=>{ posonlyargs:=[],args:=[],vararg:=none,kwonlyargs:=[],kw_defaults:=[],kwarg:=none,defaults:=[] }
def aO (s:Stmt):List Stmt:=match s with
 | .FunctionDef _ _ b _ _ _ _ _ _ _=>b
 | _=>[]
def af (s:Stmt):Scope:=match s with
 | .FunctionDef _ _ _ _ _ _ sc _ _ _=>sc
 | _=>{ kind:=.function,names:=[],isGenerator:=false,isCoroutine:=false }
abbrev CX0:CXT:=λ _ _ _ _ _ _=>False
structure Fun (K:F5)(x qual:Str)(st:Stmt)(f:Addr)(fd:FuncData):Prop where
 ex:∃ (oc:Value) (od:Option Addr) (kV doc pm:Value) (an:Option Addr) (cdv ct:Value) (osl:Array (Option Value)),
  fd=Ga x qual (be st) (aO st) (af st) .none kV doc pm an cdv ct/\K.lookup f=some ⟨oc,od,.func fd,osl⟩/\Gy K cdv qual=true
 kp:Gn K (.ref f)=true
section
variable {P:Program}{w:World}{K:F5}{mg:Str->Option Value}{base:Heap}
theorem Fun.ok {x qual:Str}{st:Stmt}{f:Addr}{fd:FuncData}{N ps:List Str}{k:Nat}{sp:Sp}(F:Fun K x qual st f fd)(S:FnScope N ps (af st))(len:∀ vs H Q E,sp vs H Q E->vs.length=ps.length)
  (hbody:∀ (cdv:Value) (A:Around) (outer:List Env) (s:Shared) (H:Hp) (vs:List V) (Q:VK) (E:XK),Room k (A.deeper (envOfC qual (af st) s.heap.objs.size f cdv))->sp vs H Q E ->
   ∃ t,PSs (cK CX0 P w K mg base N qual (af st) f cdv A outer s H E).nox (aO st) t/\t { nx:=λ _ H'=>Q .non H',rt:=Q } (start N vs) H):FnOk P w K mg base CX0 (k+1) f fd ps sp:=by
 obtain⟨oc,od,kV,doc,pm,an,cdv,ct,osl,rfl,lk,hcd⟩:=F.ex;refine p9 lk hcd S len λ A outer s H vs Q E hr hsp=>?_
 obtain⟨t,h,q⟩:=hbody cdv A outer s H vs Q E hr hsp;exact⟨t,h.nox,q⟩
end
section
variable {X:Cx}
theorem pv (i:Nat){x:Str}{pos:Pos}(hN:autoParam (X.N[i]?=some x) ZF._auto_1)(hv:autoParam (Vis X.env.scope x) ZH._auto_1)(hd:autoParam ((x == ("__debug__":Str))=false) ZC._auto_1)
  (hcd:autoParam ((x == ("__classdict__":Str))=false) ZC._auto_1):PE X (.Name x pos) (bo i):=dt hN hv hd hcd
end
theorem vJ {A B:Prop}(h:B):if false=true then A else B:=by
 rw[if_neg Dj];exact h
theorem ux {A B:Prop}(h:A):if true=true then A else B:=by
 rw[if_pos rfl];exact h
def Same (H H':Hp):Prop:=∀ b o,H b=some o->H' b=some o
theorem Same.refl (H:Hp):Same H H:=λ _ _ h=>h
theorem Same.trans {H H1 H2:Hp}(a:Same H H1)(b:Same H1 H2):Same H H2:=λ c o h=>b c o (a c o h)
theorem Same.free {H H':Hp}(e:Same H H'){l:Addr}(h:H' l=Option.none):H l=Option.none:=by
 cases q:H l with
 | none=>rfl
 | some o=>
  rw[e l o q] at h;cases h
section
variable {κ:Type}[DecidableEq κ]
def iG (kvs:List (κ×V))(k:κ):Option V:=(kvs.find? λ kv=>decide (kv.1=k)).map (·.2)
def putK (kvs:List (κ×V))(k:κ)(v:V):List (κ×V):=
 if (kvs.any λ kv=>decide (kv.1=k))=true then kvs.map (λ kv=>if kv.1=k then (kv.1,v) else kv) else kvs++[(k,v)]
theorem gA {p:κ×V}{r:List (κ×V)}{k:κ}(e:p.1=k):iG (p::r) k=some p.2:=by simp[iG,Ef,e]
theorem eR {p:κ×V}{r:List (κ×V)}{k:κ}(e:¬ p.1=k):iG (p::r) k=iG r k:=by simp[iG,Ef,e]
theorem ng (k:κ):∀ kvs:List (κ×V),(kvs.any λ kv=>decide (kv.1=k))=(iG kvs k).isSome
 | []=>rfl
 | p::r=>by
  rw[Ee];by_cases e:p.1=k
  ·simp only[gA e,decide_eq_true e,Bool.true_or,Option.isSome_some]
  ·rw[eR e,decide_eq_false e,DO];exact ng k r
theorem ib (kvs:List (κ×V))(k:κ)(v:V):(putK kvs k v).length<=kvs.length+1:=by
 unfold putK
 split
 ·rw[CY];omega
 ·rw[C9,CQ,C4];omega
theorem RelO.isSome_eq {o:Option V}{u:Option Value}(r:RelO o u):o.isSome=u.isSome:=by
 cases o with
 | none=>cases u with
  | none=>rfl
  | some _=>exact Zf r
 | some _=>cases u with
  | none=>exact Zf r
  | some _=>rfl
theorem RelO.getD {o:Option V}{u:Option Value}{d:V}{d':Value}(r:RelO o u)(rd:RelV d d'):RelV (o.getD d) (u.getD d'):=by
 cases o with
 | none=>cases u with
  | none=>exact rd
  | some _=>exact Zf r
 | some _=>cases u with
  | none=>exact Zf r
  | some _=>exact r
theorem KV.val {kvs:List (κ×V)}{vs:List (κ×Value)}(r:KV kvs vs)(k:κ):RelO (iG kvs k) (valueAt vs k):=by
 unfold KV at r
 induction r with
 | nil=>exact GD
 | @cons p q ps qs h t ih=>
  obtain⟨h1,h2⟩:=h;by_cases e:p.1=k
  ·have e':q.1=k:=h1.symm.trans e
   have b:valueAt (q::qs) k=some q.2:=by simp[valueAt,Ef,e']
   rw[gA e,b];exact h2
  ·have e':¬ q.1=k:=λ z=>e (h1.trans z)
   have b:valueAt (q::qs) k=valueAt qs k:=by simp[valueAt,Ef,e']
   rw[eR e,b];exact ih
theorem KV.any {kvs:List (κ×V)}{vs:List (κ×Value)}(r:KV kvs vs)(k:κ):(kvs.any λ kv=>decide (kv.1=k))=vs.any λ kv=>decide (kv.1=k):=by
 unfold KV at r
 induction r with
 | nil=>rfl
 | cons h t ih=>rw[Ee,Ee,ih,h.1]
theorem KV.repl {kvs:List (κ×V)}{vs:List (κ×Value)}(r:KV kvs vs)(k:κ){y:V}{u:Value}(ry:RelV y u):
  KV (kvs.map λ kv=>if kv.1=k then (kv.1,y) else kv) (vs.map λ kv=>if kv.1=k then (kv.1,u) else kv):=by
 unfold KV at r ⊢
 induction r with
 | nil=>exact .nil
 | @cons p q ps qs h t ih=>
  rw[CN,CN];refine .cons ?_ ih
  obtain⟨h1,h2⟩:=h;by_cases e:p.1=k
  ·rw[if_pos e,if_pos (h1.symm.trans e)];exact⟨h1,ry⟩
  ·rw[if_neg e,if_neg (λ z=>e (h1.trans z))];exact⟨h1,h2⟩
theorem KV.put {kvs:List (κ×V)}{vs:List (κ×Value)}(r:KV kvs vs)(k:κ){y:V}{u:Value}(ry:RelV y u):KV (putK kvs k y) (stored vs k u):=by
 unfold putK stored;rw[r.any k];by_cases e:(vs.any λ kv=>decide (kv.1=k))=true
 ·rw[if_pos e,if_pos e];exact r.repl k ry
 ·rw[if_neg e,if_neg e];exact IF r ⟨rfl,ry⟩
theorem KV.length {kvs:List (κ×V)}{vs:List (κ×Value)}(r:KV kvs vs):kvs.length=vs.length:=HS r
end
theorem mD {P:Program}{w:World}{k:Key}{u:Value}(r:RelV (kV k) u):(bS P w).is k u=true:=by
 cases k with
 | inl i=>obtain⟨t,e⟩:=(show ∃ t,u=He i t from r);subst e;exact ml P w i t
 | inr x=>obtain⟨t,e⟩:=(show ∃ t,u=Ic x t from r);subst e;exact mH P w x t
theorem jZ {P:Program}{w:World}:∀ {ks:List Key} {us:List Value},Vals (ks.map kV) us->ItemsAre (bS P w) ks us
 | [],_,r=>by rw[CP] at r;cases r;exact .nil
 | k::ks,_,r=>by
  rw[CN] at r;cases r with
  | cons h t=>exact .cons (mD h) (jZ t)
abbrev KT (H:Hp):List (List Key×V)->List (List Key×Addr×Value)->Prop:=Paired λ p q=>p.1=q.1/\H q.2.1=some (.tup (p.1.map kV))/\RelV p.2 q.2.2
theorem KT.val {H:Hp}{kvs:List (List Key×V)}{xs:List (List Key×Addr×Value)}(r:KT H kvs xs)(k:List Key):RelO (iG kvs k) ((atKey xs k).map (·.2)):=by
 induction r with
 | nil=>exact GD
 | @cons p q ps qs h t ih=>
  obtain⟨h1,_,h2⟩:=h;by_cases e:p.1=k
  ·have e':q.1=k:=h1.symm.trans e
   have b:atKey (q::qs) k=some q.2:=by simp[atKey,Ef,e']
   rw[gA e,b];exact h2
  ·have e':¬ q.1=k:=λ z=>e (h1.trans z)
   have b:atKey (q::qs) k=atKey qs k:=by simp[atKey,Ef,e']
   rw[eR e,b];exact ih
theorem KT.repl {H:Hp}{kvs:List (List Key×V)}{xs:List (List Key×Addr×Value)}(r:KT H kvs xs)(k:List Key){y:V}{u:Value}(ry:RelV y u):
  KT H (kvs.map λ kv=>if kv.1=k then (kv.1,y) else kv) (xs.map (putAt k u)):=by
 induction r with
 | nil=>exact .nil
 | @cons p q ps qs h t ih=>
  rw[CN,CN];refine .cons ?_ ih
  obtain⟨h1,h2,h3⟩:=h;unfold putAt;by_cases e:p.1=k
  ·rw[if_pos e,if_pos (h1.symm.trans e)];exact⟨h1,h2,ry⟩
  ·rw[if_neg e,if_neg (λ z=>e (h1.trans z))];exact⟨h1,h2,h3⟩
theorem KT.put {H:Hp}{kvs:List (List Key×V)}{xs:List (List Key×Addr×Value)}(r:KT H kvs xs)(k:List Key){b:Addr}{y:V}{u:Value}(hb:H b=some (.tup (k.map kV)))(ry:RelV y u):
  KT H (putK kvs k y) (storedH xs k b u):=by
 have e:(kvs.any λ kv=>decide (kv.1=k))=(atKey xs k).isSome:=by
  rw[ng,(r.val k).isSome_eq,E2]
 unfold putK storedH;rw[e];by_cases q:(atKey xs k).isSome=true
 ·rw[if_pos q,if_pos q];exact r.repl k ry
 ·rw[if_neg q,if_neg q];exact IF r ⟨rfl,hb,ry⟩
theorem KT.keeps {H H':Hp}{kvs:List (List Key×V)}{xs:List (List Key×Addr×Value)}(r:KT H kvs xs)(ht:∀ b ys,H b=some (.tup ys)->H' b=some (.tup ys)):KT H' kvs xs:=
 Paired.mapP r λ _ _ z=>⟨z.1,ht _ _ z.2.1,z.2.2⟩
section
variable {P:Program}{w:World}{H:Hp}{h:Heap}{a:Addr}
theorem zj {u:HO}(ok:HOk P w H h)(e:Rd H a u):ObjOk P w H h a u:=e.ok ok
theorem i6 {kvs:List (Key×V)}(ok:HOk P w H h)(e:Rd H a (.dK kvs)):kvs.length<=sizeLine/\(a == sysModules)=false/\∃ vs,KV kvs vs/\h.DictOf (bS P w) a vs:=
 show ObjOk P w H h a (.dK kvs) from zj ok e
theorem BG {kvs:List (Key×V)}(ok:HOk P w H h)(e:H a=some (.dK kvs)):kvs.length<=sizeLine/\(a == sysModules)=false/\∃ vs,KV kvs vs/\h.DictOf (bS P w) a vs:=i6 ok (.inl e)
theorem jE {ks:List Key}(ok:HOk P w H h)(e:H a=some (.tup (ks.map kV))):(tupleKind (bS P w)).is h ks a:=by
 obtain⟨_,its,r,o,h1,h2,n,h3⟩:=(show ObjOk P w H h a (.tup (ks.map kV)) from ok a _ e);exact⟨o,its.toArray,n,h1,h2,h3,by simpa using jZ r⟩
theorem kE {kvs:List (List Key×V)}(ok:HOk P w H h)(e:Rd H a (.dT kvs)):kvs.length<=sizeLine/\(a == sysModules)=false /\
  ∃ xs,KT H kvs xs/\h.DictOfH (tupleKind (bS P w)) a xs:=by
 obtain⟨z,y,xs,r,o,es,ep,h1,h2,h3,h4,h5⟩:=(show ObjOk P w H h a (.dT kvs) from zj ok e);refine⟨z,y,xs,r,o,es,ep,h1,h2,h3,h4,λ x hx=>?_,h5⟩;have all:∀ {l:List (List Key×V)} {m:List (List Key×Addr×Value)},KT H l m->∀ x∈m,(tupleKind (bS P w)).is h x.1 x.2.1:=by
  intro l m q
  induction q with
  | nil=>intro x hx;exact nomatch hx
  | @cons p q ps qs hq t ih=>
   intro x hx
   rcases List.mem_cons.mp hx with e|hx
   ·subst e
    exact jE ok (by rw[<- hq.1];exact hq.2.1)
   ·exact ih x hx
 exact all r x hx
theorem B6 {kvs:List (List Key×V)}(ok:HOk P w H h)(e:H a=some (.dT kvs)):kvs.length<=sizeLine/\(a == sysModules)=false /\
  ∃ xs,KT H kvs xs/\h.DictOfH (tupleKind (bS P w)) a xs:=kE ok (.inl e)
end
def nX (H:Hp)(a:Addr)(y:V)(r:Option V):Prop:=
 (∃ kvs k,Rd H a (.dK kvs)/\y=kV k/\r=iG kvs k)\/∃ kvs k b,Rd H a (.dT kvs)/\y=.ref b/\H b=some (.tup (k.map kV))/\r=iG kvs k
def Bg (H:Hp)(a:Addr)(y v:V)(H':Hp):Prop:=
 (∃ kvs k,H a=some (.dK kvs)/\y=kV k/\kvs.length<sizeLine/\H'=upd H a (.dK (putK kvs k v))) \/
 ∃ kvs k b,H a=some (.dT kvs)/\y=.ref b/\H b=some (.tup (k.map kV))/\kvs.length<sizeLine/\H'=upd H a (.dT (putK kvs k v))
section
variable {X:Cx}{pins:List (Addr×Obj)}{σ:St}{H:Hp}{s:Shared}{a:Addr}{y v:V}{u r:Value}{o:Option V}{A:Around}{E:Value->Shared->Prop}
theorem Inv.big (I:Inv X pins σ H s):sysModules<s.heap.objs.size:=by
 have h:mainGlobals<s.heap.objs.size:=(I.mod.glob.keeps I.bk).lt;exact Nat.lt_trans (by decide) h
theorem tH {Q:Value->Shared->Prop}(hu:A.units+1<cLine)(I:Inv X pins σ H s)(g:nX H a y (some v))(ry:RelV y u)(h:∀ w' s',Inv X pins σ H s'->RelV v w'->Q w' s'):
  wpAny (model X.prog X.w) A (getItem (.ref a) u) Q E s:=by
 rcases g with ⟨kvs,k,e,ey,l⟩|⟨kvs,k,b,e,ey,eb,l⟩
 ·subst ey
  obtain⟨z,hd,vs,rel,dd⟩:=i6 I.hok e;obtain⟨w',hw,rw'⟩:=RelO.some_of (v:=v) (o:=valueAt vs k) (by rw[l];exact rel.val k);exact wpAny_getItem_of (mD ry) dd.mapOf hw (h w' _ (I.tok _) rw')
 ·subst ey
  cases (show u=Gh b from ry);obtain⟨z,hd,xs,rel,dd⟩:=kE I.hok e;obtain⟨w',hw,rw'⟩:=RelO.some_of (v:=v) (o:=(atKey xs k).map (·.2)) (by rw[l];exact rel.val k);obtain⟨p,hp,hp2⟩:=Option.map_eq_some_iff.mp hw;refine wpAny_getItem_heap (GV hu) (jE I.hok eb) dd hp ?_
  rw[hp2];exact h w' _ (I.tok _) rw'
theorem Ct {Q:Value->Shared->Prop}(hu:A.units+1<cLine)(I:Inv X pins σ H s)(g:nX H a y o)(ry:RelV y u)(h:∀ s',Inv X pins σ H s'->Q (.bool o.isSome) s'):
  wpAny (model X.prog X.w) A (compareOp .In u (.ref a)) Q E s:=by
 rcases g with ⟨kvs,k,e,ey,l⟩|⟨kvs,k,b,e,ey,eb,l⟩
 ·subst ey
  obtain⟨z,hd,vs,rel,dd⟩:=i6 I.hok e;refine wpAny_in_of (mD ry) hd dd.mapOf ?_
  rw[<- (rel.val k).isSome_eq,<- l];exact h _ (I.tok _)
 ·subst ey
  cases (show u=Gh b from ry);obtain⟨z,hd,xs,rel,dd⟩:=kE I.hok e;refine wpAny_in_heap (GV hu) (jE I.hok eb) hd dd ?_
  have q:=(rel.val k).isSome_eq;rw[E2] at q;rw[<- q,<- l];exact h _ (I.tok _)
theorem wK {Q:Value->Shared->Prop}(hu:A.units+1<cLine)(I:Inv X pins σ H s)(g:nX H a y o)(ry:RelV y u)(h:∀ s',Inv X pins σ H s'->Q (.bool (!o.isSome)) s'):
  wpAny (model X.prog X.w) A (compareOp .NotIn u (.ref a)) Q E s:=by
 rcases g with ⟨kvs,k,e,ey,l⟩|⟨kvs,k,b,e,ey,eb,l⟩
 ·subst ey
  obtain⟨z,hd,vs,rel,dd⟩:=i6 I.hok e;refine wpAny_notIn_of (mD ry) hd dd.mapOf ?_
  rw[<- (rel.val k).isSome_eq,<- l];exact h _ (I.tok _)
 ·subst ey
  cases (show u=Gh b from ry);obtain⟨z,hd,xs,rel,dd⟩:=kE I.hok e;refine wpAny_notIn_heap (GV hu) (jE I.hok eb) hd dd ?_
  have q:=(rel.val k).isSome_eq;rw[E2] at q;rw[<- q,<- l];exact h _ (I.tok _)
theorem qZ {h':Heap}{t':Nat}{ob:HO}(I:Inv X pins σ H s)(mu:Mut (H a))(hs:G0 a s.heap h')(he:∃ q,h'.get? a=some q)(new:ObjOk X.prog X.w (upd H a ob) h' a ob):
  Inv X pins σ (upd H a ob) { s with heap:=h',toks:=t' }:=
 I.write (x:=a) (e:=a) mu (.inl rfl) (λ b q hb z=>(hs.2 b hb).trans z) he new
theorem AU {P:Program}{w:World}{H':Hp}{h':Heap}{kvs:List (Key×V)}{vs:List (Key×Value)}(z:kvs.length<=sizeLine)(hd:(a == sysModules)=false)(rel:KV kvs vs)(dd:h'.DictOf (bS P w) a vs):
  ObjOk P w H' h' a (.dK kvs):=⟨z,hd,vs,rel,dd⟩
theorem sN {H':Hp}{Q:Unit->Shared->Prop}(hu:A.units+1<cLine)(I:Inv X pins σ H s)(g:Bg H a y v H')(ry:RelV y u)(rv:RelV v r)(h:∀ s',Inv X pins σ H' s'->Q () s'):
  wpAny (model X.prog X.w) A (setItem (.ref a) u r) Q E s:=by
 rcases g with ⟨kvs,k,e,ey,l,eH⟩|⟨kvs,k,b,e,ey,eb,l,eH⟩
 ·subst ey eH
  obtain⟨z,hd,vs,rel,dd⟩:=BG I.hok e;have hz:vs.length<=sizeLine:=by rw[<- rel.length];exact z
  have hl:(putK kvs k v).length<=sizeLine:=by have:=ib kvs k v;omega
  refine wpAny_setItem_pairs (hsz:=hz) (mD ry) dd λ h' dd' hs=>h _ ?_
  have he:∃ q,h'.get? a=some q:=let ⟨q,_,_,hq,_⟩:=dd';⟨q,hq⟩
  exact qZ I (by rw[e];exact GD) hs he (AU hl hd (rel.put k rv) dd')
 ·subst ey eH
  cases (show u=Gh b from ry);obtain⟨z,hd,xs,rel,dd⟩:=B6 I.hok e;have hz:xs.length<=sizeLine:=by rw[<- HS rel];exact z
  have hl:(putK kvs k v).length<=sizeLine:=by have:=ib kvs k v;omega
  refine wpAny_setItem_heap (hsz:=hz) (GV hu) (jE I.hok eb) dd λ h' dd' hs=>h _ ?_
  obtain⟨q,es,ep,hq,h2,h3,h4,_,h5⟩:=dd';refine qZ I (by rw[e];exact GD) hs ⟨q,hq⟩ ⟨hl,hd,_,(rel.put k eb rv).keeps λ c ys ec=>?_,q,es,ep,hq,h2,h3,h4,h5⟩;rw[ah (Ci ec e (λ z=>nomatch z))];exact ec
end
section
variable {X:Cx}{pins:List (Addr×Obj)}{σ:St}{H:Hp}{s:Shared}{a:Addr}{kvs:List (Key×V)}{k:Key}{u:Value}{A:Around}{E:Value->Shared->Prop}
theorem BM {Q:Value->Shared->Prop}(I:Inv X pins σ H s)(e:Rd H a (.dK kvs))(h:∀ t s',Inv X pins σ H s'->Q (.int kvs.length t) s'):wpAny (model X.prog X.w) A (call (.builtin "len") [.ref a]) Q E s:=by
 obtain⟨z,hd,vs,rel,dd⟩:=i6 I.hok e;refine call_len_dict hd dd (by rw[<- rel.length];rw[GC] at z;omega) ?_
 rw[<- rel.length];exact h _ _ (I.tok _)
end
def AK (i:Expr):Prop:=∀ ov iv,subscripted i false ov iv=operate [ov,iv] (getItem ov iv)
theorem xt {prog:Program}{w:World}{A:Around}{E:Value->Shared->Prop}{s:Shared}{env:Env}{value slice:Expr}{pos:Pos}{T id:String}{Q:Value->Shared->Prop}
  (hl:typeLookup (.type T) "__getitem__"=pure (some (.builtin id))) (hs:AK slice)
  (h:wpAny (model prog w) A (eval value env) (λ o s₁=>wpAny (model prog w) A (eval slice env) (λ i s₂=>s₂.TypeIs o T/\wpAny (model prog w) A (getItem o i) Q E s₂) E s₁) E s):
  wpAny (model prog w) A (eval (.Subscript value slice pos) env) Q E s:=by
 refine HP (Ge h (λ o s₁ h₁=>Ge h₁ (λ i s₂ h₂=>?_) λ _ _ x=>x) λ _ _ x=>x);obtain⟨hT,h₂⟩:=h₂;unfold subscriptTail;refine F9 ?_
 rw[getitemInPython_of_ne hT.not_modules];refine F9 (wpAny_specialOf hT hl ?_);have fin:wpAny (model prog w) A (subscripted slice false o i) (λ r s₃=>wpAny (model prog w) A (letTemporaryGo value o r >>= λ _=>pure r) Q E s₃) E s₂:=by
  rw[hs o i];exact wpAny_operating (Ge h₂ (λ r s₃ h₃=>F9 (wpAny_letTemporaryGo (Gc h₃))) λ _ _ x=>x)
 first
  | exact Gc (F9 fin)
  | exact F9 (Gc (F9 fin))
  | exact F9 fin
theorem nJ {X:Cx}{pins:List (Addr×Obj)}{σ:St}{H:Hp}{s:Shared}{a:Addr}{y:V}{o:Option V}(I:Inv X pins σ H s)(g:nX H a y o):s.TypeIs (.ref a) "dict":=by
 rcases g with ⟨kvs,k,e,_,_⟩|⟨kvs,k,b,e,_,_,_⟩
 ·obtain⟨_,_,vs,_,dd⟩:=i6 I.hok e
  exact dd.typeIs
 ·obtain⟨_,_,xs,_,dd⟩:=kE I.hok e
  exact dd.typeIs
def Bw (td ty:TE):TE:=λ σ H Q=>td σ H λ x H1=>ty σ H1 λ y H2=>∃ a v,x=.ref a/\nX H2 a y (some v)/\Q v H2
def sDPut (td ty tv:TE):TS:=λ D σ H=>tv σ H λ v H1=>td σ H1 λ x H2=>ty σ H2 λ y H3=>∃ a H4,x=.ref a/\Bg H3 a y v H4/\D.nx σ H4
section
variable {X:Cx}{o i e value:Expr}{pos pos' tpos:Pos}{td ty tv:TE}
theorem xi (hu:X.A.units+1<cLine)(ho:PE X o td)(hi:PE X i ty)(hs:AK i):PE X (.Subscript o i pos) (Bw td ty):=by
 intro pins s σ H Q I h;refine xt PySem.F.slot_dict_getitem.lookup hs (thn (ho pins s σ H _ I h) λ u s1 ⟨x,H1,I1,rx,q1⟩=>thn (hi pins s1 σ H1 _ I1 q1) λ iv s2 ⟨y,H2,I2,ry,a,v,ex,g,q2⟩=>?_);subst ex;obtain rfl:u=Gh a:=rx;exact⟨nJ I2 g,tH hu I2 g ry λ w' s3 I3 rw'=>⟨v,H2,I3,rw',q2⟩⟩
theorem qW (hu:X.A.units+1<cLine)(ho:PE X o td)(hi:PE X i ty)(hv:PE X value tv)(hs:swapsWith value (some (.Subscript o i pos')) pos.line X.env=pure false):
  PS X (.Assign [.Subscript o i pos'] value pos) (sDPut td ty tv):=by
 intro pins s σ H D I h;refine wpAny_Assign_Subscript (thn (hv pins s σ H _ I h) λ r s1 ⟨v,H1,I1,rv,q1⟩=>thn (ho pins s1 σ H1 _ I1 q1) λ u s2 ⟨x,H2,I2,rx,q2⟩=>thn (hi pins s2 σ H2 _ I2 q2) λ iv s3 ⟨y,H3,I3,ry,a,H4,ex,g,q3⟩=>?_) hs;subst ex;obtain rfl:u=Gh a:=rx;exact sN hu I3 g ry rv λ s4 I4=>⟨σ,H4,I4,q3⟩
end
theorem u4 {P:Program}{w:World}{H:Hp}(h:Heap)(hb:sysModules<h.objs.size):ObjOk P w H (h.push { cls:=.type "dict",data:=.dict #[] }) h.objs.size (.dK []):=
 ⟨Ez _,beq_eq_false_iff_ne.mpr (Ne.symm (De hb)),[],.nil,Heap.DictOf.new h⟩
def AA:TE:=λ _ H Q=>∀ p,H p=none->Q (.ref p) (upd H p (.dK []))
section
variable {X:Cx}{pos:Pos}
theorem uV:PE X (.Dict [] [] pos) AA:=λ pins s σ H Q I h=>
 wpAny_Dict_empty ⟨.ref s.heap.objs.size,_,I.laid (a:=s.heap.objs.size) (o:=.dK []) (t':=s.toks) (λ _ _ q=>F8 _ q) (Dh _) (u4 s.heap I.big),rfl,h _ (I.hok.fresh (Dh _))⟩
end
structure M1 (X:Cx)(o:Expr)(m:Str)(apos:Pos)(e:Expr)(cpos:Pos):Prop where
 base:attributeBase o m X.env (eval o X.env)=eval o X.env
 few:((backTo cpos (starEach [e] X.env)).all (λ x=>!x.1)&&(backToKw cpos (keywordEach [] X.env)).all (λ x=>x.1.isSome)
  && decide (([e]:List Expr).length+([]:List Keyword).length+(if ([]:List Keyword).isEmpty then 0 else 1)<30))=true
 line:(apos.endLine == cpos.line)=true
 trees:backTo cpos (starEach [e] X.env)=[(false,eval e X.env)]
structure M2 (X:Cx)(o:Expr)(m:Str)(apos:Pos)(e f:Expr)(cpos:Pos):Prop where
 base:attributeBase o m X.env (eval o X.env)=eval o X.env
 few:((backTo cpos (starEach [e,f] X.env)).all (λ x=>!x.1)&&(backToKw cpos (keywordEach [] X.env)).all (λ x=>x.1.isSome)
  && decide (([e,f]:List Expr).length+([]:List Keyword).length+(if ([]:List Keyword).isEmpty then 0 else 1)<30))=true
 line:(apos.endLine == cpos.line)=true
 trees:backTo cpos (starEach [e,f] X.env)=[(false,eval e X.env),(false,eval f X.env)]
def IsD (H:Hp)(a:Addr):Prop:=(∃ kvs,Rd H a (.dK kvs))\/∃ kvs,Rd H a (.dT kvs)
theorem Ap {X:Cx}{pins:List (Addr×Obj)}{σ:St}{H:Hp}{s:Shared}{a:Addr}(I:Inv X pins σ H s)(d:IsD H a):
  s.TypeIs (.ref a) "dict"/\(∀ b,Gh a=.ref b->∃ ob,s.heap.get? b=some ob/\ob.dict=none)/\(a == sysModules)=false:=by
 rcases d with ⟨kvs,e⟩|⟨kvs,e⟩
 ·obtain⟨_,hd,vs,_,dd⟩:=i6 I.hok e
  refine⟨dd.typeIs,λ b q=>?_,hd⟩;cases q;obtain⟨ob,_,_,h1,h2,_⟩:=dd;exact⟨ob,h1,h2.2.1⟩
 ·obtain⟨_,hd,xs,_,dd⟩:=kE I.hok e
  refine⟨dd.typeIs,λ b q=>?_,hd⟩;cases q;obtain⟨ob,_,_,h1,h2,_⟩:=dd;exact⟨ob,h1,h2.2.1⟩
end L2
namespace Dv
inductive D where
 | non
 | bl (b:Bool)
 | int (i:Int)
  | str (x:List Nat)
 | lst (ds:List D)
 | tup (ds:List D)
  | exn (c:String)
  | raw (a:Nat)
  | tab (rows:List (List Int))
  | dct (ks:List Int) (ds:List D)
  | ins (ns:List String) (ds:List D)
def scal:D->Bool
 | .lst _=>false
 | .tup _=>false
 | .exn _=>false
 | .raw _=>false
 | .tab _=>false
 | .dct _ _=>false
 | .ins _ _=>false
 | _=>true
def noTy:D->Bool
 | .exn _=>true
 | .raw _=>true
 | .tab _=>true
 | .ins _ _=>true
 | _=>false
def flatL:List D->Bool
 | []=>true
 | d::r=>scal d&&flatL r
def clipS (x:List Nat):List Nat:=x.map (·%1114112)
mutual
def eqD:D->D->Option Bool
 | .non,.non=>some true
 | .bl a,.bl b=>some (a == b)
 | .int a,.int b=>some (decide (a=b))
 | .str a,.str b=>some (decide (clipS a=clipS b))
 | .lst a,.lst b=>eqDL a b
 | .tup a,.tup b=>eqDL a b
 | _,_=>none
def eqDL:List D->List D->Option Bool
 | [],[]=>some true
 | [],_::_=>some false
 | _::_,[]=>some false
 | a::x,b::y=>
  match eqD a b,eqDL x y with
  | some p,some q=>some (p&&q)
  | _,_=>none
end
mutual
def depthD:D->Nat
 | .lst ds=>depthL ds+1
 | .tup ds=>depthL ds+1
 | .exn _=>100
 | .raw _=>100
 | .tab _=>100
 | .dct _ _=>100
 | .ins _ _=>100
 | _=>0
def depthL:List D->Nat
 | []=>0
 | d::r=>max (depthD d) (depthL r)
end
def intsOf:List D->Option (List Int)
 | []=>some []
 | .int i::r=>(intsOf r).map (i::·)
 | _::_=>none
def bits (a:Int):Nat:=if a=0 then 0 else a.natAbs.log2+1
def mulOk (i j:Int):Bool:=decide (bits i<=64) || decide (bits j<=64) || (decide (bits i<=1048576)&&decide (bits j<=1048576))
def divOk (j:Int):Bool:=decide (0<j)&&decide (j.natAbs.log2<9000)
def ins (i:Int):List Int->List Int
 | []=>[i]
 | j::r=>if i<=j then i::j::r else j::ins i r
def isort:List Int->List Int
 | []=>[]
 | i::r=>ins i (isort r)
inductive R where
 | ok (d:D) (fr:Bool)
 | exc (c:String)
 | bad
inductive RL where
 | ok (ds:List D) (fr:Bool)
 | exc (c:String)
 | bad
abbrev R.bind (r:R)(k:D->Bool->R):R:=match r with
 | .ok d fr=>k d fr
 | .exc c=>.exc c
 | .bad=>.bad
abbrev RL.bind (r:RL)(k:List D->Bool->R):R:=match r with
 | .ok d fr=>k d fr
 | .exc c=>.exc c
 | .bad=>.bad
abbrev R.bindL (r:R)(k:D->Bool->RL):RL:=match r with
 | .ok d fr=>k d fr
 | .exc c=>.exc c
 | .bad=>.bad
abbrev RL.bindL (r:RL)(k:List D->Bool->RL):RL:=match r with
 | .ok d fr=>k d fr
 | .exc c=>.exc c
 | .bad=>.bad
abbrev Env:=List (Option D)
abbrev EE:=Env->R
abbrev EL:=Env->RL
inductive Op where
 | add|sub|mul|mod|fdiv|pow|shr|band
inductive Cm where
 | lt|le|gt|ge|eq|ne|isin|notin|isT|isNotT
def mx:Nat:=100000
def opD:Op->D->D->R
 | .add,.int i,.int j=>.ok (.int (i+j)) true
 | .add,.lst a,.lst b=>if a.length+b.length<=mx then .ok (.lst (a++b)) (flatL a&&flatL b) else .bad
 | .sub,.int i,.int j=>.ok (.int (i-j)) true
 | .mul,.int i,.int j=>if mulOk i j then .ok (.int (i*j)) true else .bad
 | .mul,.lst a,.int j=>if decide (-100000<=j)&&decide (j<=mx)&&decide (a.length*j.toNat<=mx) then .ok (.lst (List.replicate j.toNat a).flatten) (flatL a) else .bad
 | .mod,.int i,.int j=>if decide (0<j) then .ok (.int (i%j)) true else .bad
 | .fdiv,.int i,.int j=>if divOk j then .ok (.int (i/j)) true else .bad
 | .pow,.int i,.int j=>if decide (0<=j)&&decide (j<=1000)&&decide (i.natAbs<1000000) then .ok (.int (i ^ j.toNat)) true else .bad
 | .band,.int i,.int j=>if decide (j=1) then .ok (.int (i%2)) true else .bad
 | .shr,.int i,.int j=>if decide (0<=j) then .ok (.int (i/2 ^ j.toNat)) true else .bad
 | _,_,_=>.bad
theorem opD_ai (i j:Int):opD .add (.int i) (.int j)=.ok (.int (i+j)) true:=rfl
theorem opD_al (a b:List D):opD .add (.lst a) (.lst b)=if a.length+b.length<=mx then .ok (.lst (a++b)) (flatL a&&flatL b) else .bad:=rfl
theorem opD_su (i j:Int):opD .sub (.int i) (.int j)=.ok (.int (i-j)) true:=rfl
theorem opD_mi (i j:Int):opD .mul (.int i) (.int j)=if mulOk i j then .ok (.int (i*j)) true else .bad:=rfl
theorem opD_ml (a:List D)(j:Int):opD .mul (.lst a) (.int j)=if decide (-100000<=j)&&decide (j<=mx)&&decide (a.length*j.toNat<=mx) then .ok (.lst (List.replicate j.toNat a).flatten) (flatL a) else .bad:=rfl
theorem opD_mo (i j:Int):opD .mod (.int i) (.int j)=if decide (0<j) then .ok (.int (i%j)) true else .bad:=rfl
theorem opD_fd (i j:Int):opD .fdiv (.int i) (.int j)=if divOk j then .ok (.int (i/j)) true else .bad:=rfl
theorem opD_po (i j:Int):opD .pow (.int i) (.int j)=if decide (0<=j)&&decide (j<=1000)&&decide (i.natAbs<1000000) then .ok (.int (i ^ j.toNat)) true else .bad:=rfl
theorem opD_ba (i j:Int):opD .band (.int i) (.int j)=if decide (j=1) then .ok (.int (i%2)) true else .bad:=rfl
theorem opD_sh (i j:Int):opD .shr (.int i) (.int j)=if decide (0<=j) then .ok (.int (i/2 ^ j.toNat)) true else .bad:=rfl
def inD (i:Int):List D->Option Bool
 | []=>some false
 | .int j::r=>(inD i r).map (decide (j=i) || ·)
 | _::_=>none
def optB:Option Bool->R
 | some b=>.ok (.bl b) true
 | none=>.bad
def cmD:Cm->D->D->R
 | .eq,a,b=>if decide (depthD a<=9)&&decide (depthD b<=9) then optB (eqD a b) else .bad
 | .ne,a,b=>if decide (depthD a<=9)&&decide (depthD b<=9) then optB ((eqD a b).map (!·)) else .bad
 | .lt,.int i,.int j=>.ok (.bl (decide (i<j))) true
 | .le,.int i,.int j=>.ok (.bl (decide (i<=j))) true
 | .gt,.int i,.int j=>.ok (.bl (decide (j<i))) true
 | .ge,.int i,.int j=>.ok (.bl (decide (j<=i))) true
 | .isin,.int i,.lst b=>optB (inD i b)
 | .notin,.int i,.lst b=>optB ((inD i b).map (!·))
 | .isT,.bl a,.bl true=>.ok (.bl a) true
 | .isNotT,.bl a,.bl true=>.ok (.bl (!a)) true
 | _,_,_=>.bad
theorem cmD_eq (a b:D):cmD .eq a b=if decide (depthD a<=9)&&decide (depthD b<=9) then optB (eqD a b) else .bad:=rfl
theorem cmD_ne (a b:D):cmD .ne a b=if decide (depthD a<=9)&&decide (depthD b<=9) then optB ((eqD a b).map (!·)) else .bad:=rfl
theorem cmD_lt (i j:Int):cmD .lt (.int i) (.int j)=.ok (.bl (decide (i<j))) true:=rfl
theorem cmD_le (i j:Int):cmD .le (.int i) (.int j)=.ok (.bl (decide (i<=j))) true:=rfl
theorem cmD_gt (i j:Int):cmD .gt (.int i) (.int j)=.ok (.bl (decide (j<i))) true:=rfl
theorem cmD_ge (i j:Int):cmD .ge (.int i) (.int j)=.ok (.bl (decide (j<=i))) true:=rfl
theorem cmD_in (i:Int)(b:List D):cmD .isin (.int i) (.lst b)=optB (inD i b):=rfl
theorem cmD_ni (i:Int)(b:List D):cmD .notin (.int i) (.lst b)=optB ((inD i b).map (!·)):=rfl
theorem cmD_it (a:Bool):cmD .isT (.bl a) (.bl true)=.ok (.bl a) true:=rfl
theorem cmD_nt (a:Bool):cmD .isNotT (.bl a) (.bl true)=.ok (.bl (!a)) true:=rfl
def eVar (i:Nat):EE:=λ ρ=>match ρ[i]? with
 | some (some d)=>.ok d (scal d)
 | _=>.bad
def eInt (i:Int):EE:=λ _=>.ok (.int i) true
def eBl (b:Bool):EE:=λ _=>.ok (.bl b) true
def eStr (x:List Nat):EE:=λ _=>.ok (.str x) true
def eOp (o:Op)(a b:EE):EE:=λ ρ=>(a ρ).bind λ x _=>(b ρ).bind λ y _=>opD o x y
def eCm (o:Cm)(a b:EE):EE:=λ ρ=>(a ρ).bind λ x _=>(b ρ).bind λ y _=>cmD o x y
def eNeg (a:EE):EE:=λ ρ=>(a ρ).bind λ x _=>match x with
 | .int i=>.ok (.int (-i)) true
 | _=>.bad
def eAnd (a b:EE):EE:=λ ρ=>(a ρ).bind λ x _=>match x with
 | .bl true=>b ρ
 | .bl false=>.ok (.bl false) true
 | _=>.bad
def eOr (a b:EE):EE:=λ ρ=>(a ρ).bind λ x _=>match x with
 | .bl true=>.ok (.bl true) true
 | .bl false=>b ρ
 | _=>.bad
def eNot (a:EE):EE:=λ ρ=>(a ρ).bind λ x _=>match x with
 | .bl b=>.ok (.bl (!b)) true
 | _=>.bad
def lNil:EL:=λ _=>.ok [] true
def lCons (a:EE)(r:EL):EL:=λ ρ=>(a ρ).bindL λ d f=>(r ρ).bindL λ ds g=>.ok (d::ds) (f&&g)
def eLst (a:EL):EE:=λ ρ=>(a ρ).bind λ ds f=>.ok (.lst ds) f
def eTup (a:EL):EE:=λ ρ=>(a ρ).bind λ ds f=>.ok (.tup ds) f
def at? (ds:List D)(i:Int):Option D:=if 0<=i then ds[i.toNat]? else if -(ds.length:Int)<=i then ds[(i+ds.length).toNat]? else none
def ixD (a i:D)(f:Bool):R:=match a,i with
 | .lst ds,.int k=>match at? ds k with
  | some d=>.ok d (f || scal d)
  | none=>.bad
 | .tup ds,.int k=>match at? ds k with
  | some d=>.ok d (f || scal d)
  | none=>.bad
 | _,_=>.bad
def eIx (a i:EE):EE:=λ ρ=>(a ρ).bind λ x f=>(i ρ).bind λ y _=>ixD x y f
def eCall (F:List D->R)(a:EL):EE:=λ ρ=>(a ρ).bind λ ds _=>F ds
def eB1 (F:D->Bool->R)(a:EE):EE:=λ ρ=>(a ρ).bind F
def lenD:D->Bool->R
 | .lst ds,_=>.ok (.int ds.length) true
 | .tup ds,_=>.ok (.int ds.length) true
 | _,_=>.bad
def sortedD:D->Bool->R
 | .lst ds,_=>match intsOf ds with
  | some ns=>if ns.length<64 then .ok (.lst ((isort ns).map .int)) true else .bad
  | none=>.bad
 | _,_=>.bad
def listD:D->Bool->R
 | .lst ds,f=>.ok (.lst ds) (f || flatL ds)
 | .tup ds,f=>.ok (.lst ds) (f || flatL ds)
 | _,_=>.bad
def cutI (n:Nat)(dflt:Nat):Option Int->Nat
 | none=>dflt
 | some i=>if i<0 then (i+(n:Int)).toNat else min i.toNat n
def cutL {α:Type}(ds:List α)(lo hi:Option Int):List α:=(ds.drop (cutI ds.length 0 lo)).take (cutI ds.length ds.length hi-cutI ds.length 0 lo)
def sliceD (a:D)(f:Bool)(lo hi:Option Int):R:=match a with
 | .lst ds=>.ok (.lst (cutL ds lo hi)) (f || flatL (cutL ds lo hi))
 | _=>.bad
def ePart (p:Option EE)(ρ:Env)(k:Option Int->R):R:=match p with
 | none=>k none
 | some e=>(e ρ).bind λ d _=>match d with
  | .int i=>k (some i)
  | _=>.bad
def eSlice (a:EE)(lo hi:Option EE):EE:=λ ρ=>(a ρ).bind λ x f=>ePart lo ρ λ i=>ePart hi ρ λ j=>sliceD x f i j
def eB2 (F:D->D->R)(a b:EE):EE:=λ ρ=>(a ρ).bind λ x _=>(b ρ).bind λ y _=>F x y
def max2D:D->D->R
 | .int i,.int j=>.ok (.int (if j > i then j else i)) true
 | _,_=>.bad
def intD:D->Bool->R
 | .int i,_=>.ok (.int i) true
 | .bl b,_=>.ok (.int (if b then 1 else 0)) true
 | _,_=>.bad
def isListD:D->Bool->R
 | .exn _,_=>.bad
 | .ins _ _,_=>.bad
 | .raw _,_=>.bad
 | .tab _,_=>.bad
 | .lst _,_=>.ok (.bl true) true
 | _,_=>.ok (.bl false) true
def isIntD:D->Bool->R
 | .exn _,_=>.bad
 | .ins _ _,_=>.bad
 | .raw _,_=>.bad
 | .tab _,_=>.bad
 | .int _,_=>.ok (.bl true) true
 | .bl _,_=>.ok (.bl true) true
 | _,_=>.ok (.bl false) true
def isBoolD:D->Bool->R
 | .exn _,_=>.bad
 | .ins _ _,_=>.bad
 | .raw _,_=>.bad
 | .tab _,_=>.bad
 | .bl _,_=>.ok (.bl true) true
 | _,_=>.ok (.bl false) true
def subX (c k:String):Bool:=c == k || k == "WheelError" || k == "ValueError"
inductive RI where
 | ok (ds:List D) (fr:Bool)
 | exc (c:String)
 | bad
abbrev EI:=Env->RI
def rangeL (lo:Int):Nat->List D
 | 0=>[]
 | n+1=>.int lo::rangeL (lo+1) n
def iSeq (a:EE):EI:=λ ρ=>match a ρ with
 | .ok (.lst ds) f=>.ok ds f
 | .exc c=>.exc c
 | _=>.bad
def rngOk (i:Int):Bool:=decide (-1000000<=i)&&decide (i<=1000000)
def iRange (a:EE):EI:=λ ρ=>match a ρ with
 | .ok (.int j) _=>if rngOk j then .ok (rangeL 0 j.toNat) true else .bad
 | .exc c=>.exc c
 | _=>.bad
def iRange2 (a b:EE):EI:=λ ρ=>match a ρ with
 | .ok (.int i) _=>match b ρ with
  | .ok (.int j) _=>if rngOk i&&rngOk j then .ok (rangeL i (j-i).toNat) true else .bad
  | .exc c=>.exc c
  | _=>.bad
 | .exc c=>.exc c
 | _=>.bad
def iZip (a b:EE):EI:=λ ρ=>match a ρ with
 | .ok (.lst xs) _=>match b ρ with
  | .ok (.lst ys) _=>.ok (List.zipWith (λ x y=>.tup [x,y]) xs ys) true
  | .exc c=>.exc c
  | _=>.bad
 | .exc c=>.exc c
 | _=>.bad
def bR (elt:EE)(cond:EE)(free:Env):List D->RL
 | []=>.ok [] true
 | d::r=>match cond (some d::free) with
  | .ok (.bl true) _=>match elt (some d::free) with
   | .ok x f=>match bR elt cond free r with
    | .ok xs g=>.ok (x::xs) (f&&g)
    | _=>.bad
   | _=>.bad
  | .ok (.bl false) _=>bR elt cond free r
  | _=>.bad
def pick (ρ:Env)(is:List Nat):Env:=is.map λ i=>(ρ[i]?).getD none
def eComp (elt cond:EE)(is:List Nat)(it:EI):EE:=λ ρ=>match it ρ with
 | .ok ds _=>if ds.length<=mx then match bR elt cond (pick ρ is) ds with
   | .ok xs f=>.ok (.lst xs) f
   | _=>.bad
  else .bad
 | .exc c=>.exc c
 | .bad=>.bad
inductive Sl where
 | no
 | sh (d:D)
 | ow (d:D)
  | dp (d:D)
  | jk (n m:Nat)
abbrev St:=List Sl
def Sl.get:Sl->Option D
 | .no=>none
 | .sh d=>some d
 | .ow d=>some d
 | .dp d=>some d
 | .jk _ _=>none
def Sl.shared:Sl->Option D
 | .sh d=>some d
 | _=>none
def Sl.give:Sl->Sl
 | .ow d=>.sh d
 | .dp d=>.sh d
 | s=>s
def all (st:St):Env:=st.map Sl.get
def open_ (st:St):Env:=st.map Sl.shared
def give (is:List Nat)(st:St):St:=is.foldl (λ st i=>st.set i ((st[i]?.getD .no).give)) st
inductive Out where
 | nx (st:St)
 | ret (d:D) (nw:Bool)
 | brk (st:St)
 | cont (st:St)
 | exc (c:String) (st:St)
 | bad
abbrev SS:=St->Out
abbrev Out.bind (o:Out)(k:St->Out):Out:=match o with
 | .nx st=>k st
 | o=>o
def sNil:SS:=λ st=>.nx st
def sCons (a r:SS):SS:=λ st=>(a st).bind r
def keepD (d:D)(f:Bool):Option Sl:=match d with
 | .lst ds=>if f&&flatL ds then some (.ow d) else none
 | .tup _=>none
 | .exn _=>none
 | .raw _=>none
 | .tab _=>none
 | .ins _ _=>none
 | .dct ks ds=>if f&&ks.isEmpty&&ds.isEmpty then some (.ow d) else none
 | _=>some (.sh d)
def sSet (i:Nat)(e:EE):SS:=λ st=>match e (all st) with
 | .ok d f=>match keepD d f with
  | some s=>.nx (st.set i s)
  | none=>.bad
 | .exc c=>.exc c st
 | .bad=>.bad
def sSetG (is:List Nat)(i:Nat)(e:EE):SS:=λ st=>match e (open_ (give is st)) with
 | .ok d _=>.nx ((give is st).set i (.sh d))
 | .exc c=>.exc c st
 | .bad=>.bad
def sExpr (e:EE):SS:=λ st=>match e (all st) with
 | .ok _ _=>.nx st
 | .exc c=>.exc c st
 | .bad=>.bad
def sRet (e:EE):SS:=λ st=>match e (all st) with
 | .ok d f=>.ret d f
 | .exc c=>.exc c st
 | .bad=>.bad
def sRetO (i:Nat):SS:=λ st=>match st[i]? with
 | some (.ow (.lst ds))=>.ret (.lst ds) (flatL ds)
 | some (.ow (.dct ks ds))=>.ret (.dct ks ds) false
 | some (.dp d)=>.ret d true
 | some (.sh d)=>.ret d (scal d)
 | _=>.bad
def sIf (c:EE)(a b:SS):SS:=λ st=>match c (all st) with
 | .ok (.bl true) _=>a st
 | .ok (.bl false) _=>b st
 | .exc c=>.exc c st
 | _=>.bad
def sRaise (c:String):SS:=λ st=>.exc c st
def sApp (i:Nat)(e:EE):SS:=λ st=>match st[i]? with
 | some (.ow (.lst ds))=>match e (all st) with
  | .ok d _=>if scal d&&decide (ds.length<mx) then .nx (st.set i (.ow (.lst (ds++[d])))) else .bad
  | .exc c=>.exc c st
  | .bad=>.bad
 | _=>.bad
def sPut (i:Nat)(k e:EE):SS:=λ st=>match st[i]? with
 | some (.ow (.lst ds))=>match e (all st) with
  | .ok d _=>match k (all st) with
   | .ok (.int j) _=>if scal d&&decide (0<=j)&&decide (j<ds.length) then .nx (st.set i (.ow (.lst (ds.set j.toNat d)))) else .bad
   | .exc c=>.exc c st
   | _=>.bad
  | .exc c=>.exc c st
  | .bad=>.bad
 | _=>.bad
def sAugIx (i:Nat)(o:Op)(k e:EE):SS:=λ st=>match st[i]? with
 | some (.ow (.lst ds))=>match k (all st) with
  | .ok (.int j) _=>if 0<=j then match at? ds j with
    | some x=>match e (all st) with
     | .ok y _=>match opD o x y with
      | .ok (.int z) _=>.nx (st.set i (.ow (.lst (ds.set j.toNat (.int z)))))
      | _=>.bad
     | .exc c=>.exc c st
     | .bad=>.bad
    | none=>.bad
   else .bad
  | .exc c=>.exc c st
  | _=>.bad
 | _=>.bad
def forGo (x:Nat)(body:SS):List D->SS
 | [],st=>.nx st
 | d::r,st=>match body (st.set x (.sh d)) with
  | .nx st'=>forGo x body r st'
  | .cont st'=>forGo x body r st'
  | .brk st'=>.nx st'
  | o=>o
def sFor (is:List Nat)(x:Nat)(it:EI)(body:SS):SS:=λ st=>match it (open_ (give is st)) with
 | .ok ds _=>forGo x body ds (give is st)
 | .exc c=>.exc c st
 | .bad=>.bad
def whileGo (c:EE)(body:SS):Nat->SS
 | 0,_=>.bad
 | n+1,st=>match c (all st) with
  | .ok (.bl true) _=>match body st with
   | .nx st'=>whileGo c body n st'
   | .cont st'=>whileGo c body n st'
   | .brk st'=>.nx st'
   | o=>o
  | .ok (.bl false) _=>.nx st
  | .exc c=>.exc c st
  | _=>.bad
def sWhile (n:Nat)(c:EE)(body:SS):SS:=whileGo c body n
def setAll:List Nat->List D->St->St
 | i::is,d::ds,st=>setAll is ds (st.set i (.sh d))
 | _,_,st=>st
def sUnpack (is:List Nat)(xs:List Nat)(e:EE):SS:=λ st=>match e (open_ (give is st)) with
 | .ok (.tup ds) _=>if ds.length=xs.length then .nx (setAll xs ds (give is st)) else .bad
 | .exc c=>.exc c st
 | _=>.bad
def sPar (is:List Nat)(x y:Nat)(a b:EE):SS:=λ st=>match a (open_ (give is st)) with
 | .ok d _=>match b (open_ (give is st)) with
  | .ok d' _=>.nx (((give is st).set x (.sh d)).set y (.sh d'))
  | .exc c=>.exc c st
  | .bad=>.bad
 | .exc c=>.exc c st
 | .bad=>.bad
def forGoT (tgt:D->St->Option St)(body:SS):List D->SS
 | [],st=>.nx st
 | d::r,st=>match tgt d st with
  | none=>.bad
  | some st1=>match body st1 with
   | .nx st'=>forGoT tgt body r st'
   | .cont st'=>forGoT tgt body r st'
   | .brk st'=>.nx st'
   | o=>o
def sForT (is:List Nat)(tgt:D->St->Option St)(it:EI)(body:SS):SS:=λ st=>match it (open_ (give is st)) with
 | .ok ds _=>forGoT tgt body ds (give is st)
 | .exc c=>.exc c st
 | .bad=>.bad
def tupTo (xs:List Nat)(d:D)(s:St):Option St:=match d with
 | .tup ds=>if ds.length=xs.length then some (setAll xs ds s) else none
 | _=>none
def fn (n:Nat)(body:SS)(ds:List D):R:=match body (ds.map .sh++List.replicate (n-ds.length) .no) with
 | .nx _=>.ok .non true
 | .ret d f=>.ok d f
 | .exc c _=>.exc c
 | _=>.bad
end Dv
namespace Sd
open PySem PySem.Spec PyProof.Rows L2
open Dv (D R RL EE EL EI RI)
abbrev St:=L2.St
def SqX (K:F5)(H:Hp)(a:Addr)(xs:List V):Prop:=
 Rd H a (.lst xs)\/∃ (its:List Value) (n:Nat),K.lookup a=some { cls:=.type "list",data:=.seq its.toArray n }/\xs.length<=sizeLine/\Vals xs its
theorem SqX.seq {K:F5}{H:Hp}{a:Addr}{xs:List V}(h:SqX K H a xs):SqL K H a xs:=by
 rcases h with h|⟨its,n,e,z,r⟩
 ·exact .inl h
 ·refine .inr ⟨_,its.toArray,n,e,rfl,rfl,rfl,?_,by simpa using r⟩
  rw[Dd,<- r.length];exact z
theorem SqX.of {K:F5}{H:Hp}{a:Addr}{xs:List V}(h:H a=some (.lst xs)):SqX K H a xs:=.inl (.inl h)
theorem Rd.same {H H':Hp}{a:Addr}{o:HO}(e:Same H H')(h:Rd H a o):Rd H' a o:=by
 rcases h with h|⟨u,h⟩
 ·exact .inl (e _ _ h)
 ·exact .inr ⟨u,e _ _ h⟩
theorem SqX.same {K:F5}{H H':Hp}{a:Addr}{xs:List V}(e:Same H H')(h:SqX K H a xs):SqX K H' a xs:=by
 rcases h with h|h
 ·exact .inl (Rd.same e h)
 ·exact .inr h
theorem Inv.listX {X:Cx}{pins:List (Addr×Obj)}{σ:St}{H:Hp}{s:Shared}{a:Addr}{xs:List V}(I:Inv X pins σ H s)(h:SqX X.K H a xs):
  ∃ (its:List Value) (n:Nat),Vals xs its/\s.heap.get? a=some { cls:=.type "list",data:=.seq its.toArray n }/\xs.length<=sizeLine:=by
 rcases h with h|⟨its,n,e,z,r⟩
 ·obtain⟨z,its,n,r,e⟩:=h.ok I.hok
  exact⟨its,n,r,e,z⟩
 ·exact⟨its,n,r,I.kIn a _ e,z⟩
def BE (a C:Addr):Heap->Prop:=λ h=>∃ o vs,h.get? a=some o/\o.cls=.ref C/\o.data=.fields vs
def Tbr (H:Hp):List Addr->List (List Int)->Prop
 | [],[]=>True
 | b::bs,r::rs=>Rd H b (.lst (r.map V.int))/\Tbr H bs rs
 | _,_=>False
theorem Tbr.same {H H':Hp}(e:∀ {b:Addr} {o:HO},Rd H b o->Rd H' b o):∀ {bs:List Addr} {rows:List (List Int)},Tbr H bs rows->Tbr H' bs rows
 | [],[],_=>GD
 | b::bs,r::rs,h=>⟨e h.1,Tbr.same e h.2⟩
 | [],_::_,h=>h.elim
 | _::_,[],h=>h.elim
mutual
def Rp (K:F5)(H:Hp):D->V->Prop
 | .non,v=>v=.non
 | .bl b,v=>v=.bl b
 | .int i,v=>v=.int i
 | .str x,v=>v=.str ⟨(Dv.clipS x).toArray⟩
 | .lst ds,v=>∃ a vs,v=.ref a/\SqX K H a vs/\RpL K H ds vs
 | .tup ds,v=>∃ a vs,v=.ref a/\Rd H a (.tup vs)/\RpL K H ds vs
 | .exn c,v=>∃ a C,v=.ref a/\Gb K mainGlobals (Gq c)=some (some (.ref C))/\H a=some (.ext (BE a C))
 | .raw a,v=>v=.ref a
 | .tab rows,v=>∃ t bs,v=.ref t/\Rd H t (.lst (bs.map V.ref))/\t∉bs/\bs.Nodup/\Tbr H bs rows
 | .dct ks ds,v=>∃ a vs,v=.ref a/\ks.length=ds.length/\Rd H a (.dK ((ks.map Sum.inl).zip vs))/\RpL K H ds vs
 | .ins ns ds,v=>∃ a C dx fs vs,v=.ref a/\H a=some (.ins C dx fs)/\Cls K C/\ns.length=ds.length/\(∀ n u,(n,u)∈ns.zip vs->NoAttr K C (Gq n)/\fs.lookup (Gq n)=some u)/\RpL K H ds vs
def RpL (K:F5)(H:Hp):List D->List V->Prop
 | [],vs=>vs=[]
 | d::r,vs=>∃ v ws,vs=v::ws/\Rp K H d v/\RpL K H r ws
end
mutual
theorem Rp.same {K:F5}{H H':Hp}(e:Same H H'):∀ {d:D} {v:V},Rp K H d v->Rp K H' d v
 | .non,_,h=>by unfold Rp at h ⊢;exact h
 | .bl _,_,h=>by unfold Rp at h ⊢;exact h
 | .int _,_,h=>by unfold Rp at h ⊢;exact h
 | .str _,_,h=>by unfold Rp at h ⊢;exact h
 | .raw _,_,h=>by unfold Rp at h ⊢;exact h
 | .tab _,v,h=>by
  unfold Rp at h ⊢;obtain⟨t,bs,h1,h2,h3,h4,h5⟩:=h;exact⟨t,bs,h1,Rd.same e h2,h3,h4,h5.same λ q=>Rd.same e q⟩
 | .lst ds,v,h=>by
  unfold Rp at h ⊢;obtain⟨a,vs,h1,h2,h3⟩:=h;exact⟨a,vs,h1,h2.same e,RpL.same e h3⟩
 | .tup ds,v,h=>by
  unfold Rp at h ⊢;obtain⟨a,vs,h1,h2,h3⟩:=h;exact⟨a,vs,h1,Rd.same e h2,RpL.same e h3⟩
 | .exn c,v,h=>by
  unfold Rp at h ⊢;obtain⟨a,C,h1,h2,h3⟩:=h;exact⟨a,C,h1,h2,e _ _ h3⟩
 | .dct ks ds,v,h=>by
  unfold Rp at h ⊢;obtain⟨a,vs,h1,h2,h3,h4⟩:=h;exact⟨a,vs,h1,h2,Rd.same e h3,RpL.same e h4⟩
 | .ins ns ds,v,h=>by
  unfold Rp at h ⊢;obtain⟨a,C,dx,fs,vs,h1,h2,h3,h4,h5,h6⟩:=h;exact⟨a,C,dx,fs,vs,h1,e _ _ h2,h3,h4,h5,RpL.same e h6⟩
theorem RpL.same {K:F5}{H H':Hp}(e:Same H H'):∀ {ds:List D} {vs:List V},RpL K H ds vs->RpL K H' ds vs
 | [],_,h=>by unfold RpL at h ⊢;exact h
 | d::r,vs,h=>by
  unfold RpL at h ⊢;obtain⟨v,ws,h1,h2,h3⟩:=h;exact⟨v,ws,h1,Rp.same e h2,RpL.same e h3⟩
end
theorem RpL.length {K:F5}{H:Hp}:∀ {ds:List D} {vs:List V},RpL K H ds vs->vs.length=ds.length
 | [],_,h=>by unfold RpL at h;subst h;rfl
 | d::r,vs,h=>by
  unfold RpL at h;obtain⟨v,ws,rfl,_,h3⟩:=h;rw[CQ,CQ,RpL.length h3]
theorem Rp.scal {K K':F5}{H H':Hp}{d:D}{v:V}(f:Dv.scal d=true)(h:Rp K H d v):Rp K' H' d v:=by
 cases d with
 | lst ds=>exact absurd f (by simp[Dv.scal])
 | tup ds=>exact absurd f (by simp[Dv.scal])
 | exn c=>exact absurd f (by simp[Dv.scal])
 | raw c=>exact absurd f (by simp[Dv.scal])
 | tab c=>exact absurd f (by simp[Dv.scal])
 | dct ks ds=>exact absurd f (by simp[Dv.scal])
 | ins ks ds=>exact absurd f (by simp[Dv.scal])
 | _=>unfold Rp at h ⊢;exact h
theorem RpL.flat {K K':F5}{H H':Hp}:∀ {ds:List D} {vs:List V},Dv.flatL ds=true->RpL K H ds vs->RpL K' H' ds vs
 | [],_,_,h=>by unfold RpL at h ⊢;exact h
 | d::r,vs,f,h=>by
  unfold Dv.flatL at f;rw[C3] at f;unfold RpL at h ⊢;obtain⟨v,ws,h1,h2,h3⟩:=h;exact⟨v,ws,h1,h2.scal f.1,RpL.flat f.2 h3⟩
theorem RpL.append {K:F5}{H:Hp}:∀ {ds es:List D} {vs ws:List V},RpL K H ds vs->RpL K H es ws->RpL K H (ds++es) (vs++ws)
 | [],_,_,_,h,g=>by unfold RpL at h;subst h;exact g
 | d::r,es,vs,ws,h,g=>by
  unfold RpL at h;obtain⟨v,vs',rfl,h2,h3⟩:=h;rw[CZ,CZ];unfold RpL;exact⟨v,_,rfl,h2,RpL.append h3 g⟩
theorem RpL.get {K:F5}{H:Hp}:∀ {ds:List D} {vs:List V} {i:Nat} {d:D},RpL K H ds vs->ds[i]?=some d->∃ v,vs[i]?=some v/\Rp K H d v
 | [],_,_,_,_,e=>by simp at e
 | x::r,vs,0,d,h,e=>by
  unfold RpL at h;obtain⟨v,ws,rfl,h2,_⟩:=h;simp at e;subst e;exact⟨v,rfl,h2⟩
 | x::r,vs,i+1,d,h,e=>by
  unfold RpL at h;obtain⟨v,ws,rfl,_,h3⟩:=h;obtain⟨u,h4,h5⟩:=RpL.get (i:=i) (d:=d) h3 (by simpa using e);exact⟨u,by simpa using h4,h5⟩
theorem RpL.cons {K:F5}{H:Hp}{d:D}{v:V}{ds:List D}{vs:List V}(h:Rp K H d v)(g:RpL K H ds vs):RpL K H (d::ds) (v::vs):=by
 unfold RpL;exact⟨v,vs,rfl,h,g⟩
theorem RpL.nil {K:F5}{H:Hp}:RpL K H [] []:=by unfold RpL;rfl
theorem RpL.set {K:F5}{H:Hp}{d:D}{v:V}(g:Rp K H d v):∀ {ds:List D} {vs:List V} (i:Nat),RpL K H ds vs->RpL K H (ds.set i d) (vs.set i v)
 | [],_,i,h=>by unfold RpL at h;subst h;exact .nil
 | x::r,vs,0,h=>by
  unfold RpL at h;obtain⟨u,ws,rfl,_,h3⟩:=h;exact .cons g h3
 | x::r,vs,i+1,h=>by
  unfold RpL at h;obtain⟨u,ws,rfl,h2,h3⟩:=h;exact .cons h2 (RpL.set g i h3)
theorem RpL.ints {K:F5}{H:Hp}:∀ {ds:List D} {vs:List V} {ns:List Int},Dv.intsOf ds=some ns->RpL K H ds vs->vs=ns.map V.int
 | [],vs,ns,e,h=>by
  simp[Dv.intsOf] at e;subst e;unfold RpL at h;exact h
 | d::r,vs,ns,e,h=>by
  unfold RpL at h;obtain⟨v,ws,rfl,h2,h3⟩:=h;cases d with
  | int i=>
   simp only[Dv.intsOf,Eg] at e;obtain⟨ms,e1,rfl⟩:=e;unfold Rp at h2;subst h2;rw[RpL.ints e1 h3,CN]
  | _=>simp[Dv.intsOf] at e
theorem RpL.ofInts {K:F5}{H:Hp}:∀ (ns:List Int),RpL K H (ns.map .int) (ns.map V.int)
 | []=>.nil
 | n::r=>.cons (by unfold Rp;rfl) (RpL.ofInts r)
structure Ext (Hv H Hv' H':Hp):Prop where
 hh:Same H H'
 vv:Same Hv Hv'
 vh:Same Hv' H'
 new:∀ b o,Hv' b=some o->Hv b=none->H b=none
 all:∀ b,H b=none->Hv' b=H' b
 nf:∀ b o u,H b=none->H' b≠some (.frz o u)
theorem Ext.refl {Hv H:Hp}(e:Same Hv H):Ext Hv H Hv H:=⟨.refl _,.refl _,e,λ b o h n=>(by rw[n] at h;cases h),λ b h=>(by rw[h];exact e.free h),λ b o u h=>by rw[h];intro z;cases z⟩
theorem Ext.trans {Hv H Hv1 H1 Hv2 H2:Hp}(a:Ext Hv H Hv1 H1)(b:Ext Hv1 H1 Hv2 H2):Ext Hv H Hv2 H2:=
 ⟨a.hh.trans b.hh,a.vv.trans b.vv,b.vh,λ c o h n=>(by
  cases q:Hv1 c with
  | some u=>exact a.new c u q n
  | none=>exact a.hh.free (b.new c o h q)),λ c h=>by
  cases q:H1 c with
  | none=>exact b.all c q
  | some o=>rw[b.hh c o q];exact b.vv c o ((a.all c h).trans q),λ c o u h=>by
  cases q:H1 c with
  | none=>exact b.nf c o u q
  | some w=>rw[b.hh c w q,<- q];exact a.nf c o u h⟩
theorem iX {H:Hp}{p:Addr}(h:H p=none)(o:HO):Same H (upd H p o):=λ b u q=>by rw[ah (ax q h)];exact q
theorem Ext.new1 {Hv H:Hp}(e:Same Hv H){p:Addr}(h:H p=none)(o:HO)(ho:autoParam (∀ a u,o≠.frz a u) ZI._auto_1):Ext Hv H (upd Hv p o) (upd H p o):=by
 refine⟨iX h o,iX (e.free h) o,λ b u q=>?_,λ b u q n=>?_,λ b q=>?_,λ b a u q=>?_⟩
 ·by_cases hb:b=p
  ·subst hb;rw[aq] at q ⊢;exact q
  ·rw[ah hb] at q ⊢;exact e _ _ q
 ·by_cases hb:b=p
  ·subst hb;exact h
  ·rw[ah hb,n] at q;cases q
 ·by_cases hb:b=p
  ·subst hb;rw[aq,aq]
  ·rw[ah hb,ah hb,q];exact e.free q
 ·by_cases hb:b=p
  ·subst hb;rw[aq];exact λ z=>ho a u (Option.some.inj z)
  ·rw[ah hb,q];intro z;cases z
def Hnew (H H':Hp):Hp:=λ b=>match H b with
 | none=>H' b
 | some _=>none
theorem Hnew.mono {H H1 H2 H3:Hp}(a:Same H H1)(c:Same H2 H3):Same (Hnew H1 H2) (Hnew H H3):=λ b o h=>by
 unfold Hnew at h ⊢;cases q:H b with
 | some u=>rw[a b u q] at h;cases h
 | none=>
  cases q1:H1 b with
  | some u=>rw[q1] at h;cases h
  | none=>rw[q1] at h;exact c b o h
theorem Ext.news {Hv H Hv' H':Hp}(x:Ext Hv H Hv' H'):Same (Hnew H H') Hv':=λ b o h=>by
 unfold Hnew at h;cases q:H b with
 | some u=>rw[q] at h;cases h
 | none=>rw[q] at h;rw[x.all b q];exact h
theorem Hnew.sub {H H':Hp}:Same (Hnew H H') H':=λ b o h=>by
 unfold Hnew at h;cases q:H b with
 | some u=>rw[q] at h;cases h
 | none=>rw[q] at h;exact h
mutual
theorem Rp.frag {K:F5}{H:Hp}:∀ {d:D} {v:V},Rp [] H d v->Rp K H d v
 | .non,_,h=>by unfold Rp at h ⊢;exact h
 | .bl _,_,h=>by unfold Rp at h ⊢;exact h
 | .int _,_,h=>by unfold Rp at h ⊢;exact h
 | .str _,_,h=>by unfold Rp at h ⊢;exact h
 | .raw _,_,h=>by unfold Rp at h ⊢;exact h
 | .tab _,_,h=>by unfold Rp at h ⊢;exact h
 | .lst ds,v,h=>by
  unfold Rp at h ⊢;obtain⟨a,vs,h1,h2,h3⟩:=h;refine⟨a,vs,h1,?_,RpL.frag h3⟩
  rcases h2 with h2|⟨its,n,e,_⟩
  ·exact .inl h2
  ·simp at e
 | .tup ds,v,h=>by
  unfold Rp at h ⊢;obtain⟨a,vs,h1,h2,h3⟩:=h;exact⟨a,vs,h1,h2,RpL.frag h3⟩
 | .exn c,v,h=>by
  unfold Rp at h;obtain⟨a,C,h1,h2,h3⟩:=h;simp[Gb] at h2
 | .dct ks ds,v,h=>by
  unfold Rp at h ⊢;obtain⟨a,vs,h1,h2,h3,h4⟩:=h;exact⟨a,vs,h1,h2,h3,RpL.frag h4⟩
 | .ins ns ds,v,h=>by
  unfold Rp at h;obtain⟨a,C,dx,fs,vs,h1,h2,h3,h4,h5,h6⟩:=h;exact absurd h3.sa (by simp[F7])
theorem RpL.frag {K:F5}{H:Hp}:∀ {ds:List D} {vs:List V},RpL [] H ds vs->RpL K H ds vs
 | [],_,h=>by unfold RpL at h ⊢;exact h
 | d::r,vs,h=>by
  unfold RpL at h ⊢;obtain⟨v,ws,h1,h2,h3⟩:=h;exact⟨v,ws,h1,Rp.frag h2,RpL.frag h3⟩
end
theorem Hnew.at {H:Hp}{p:Addr}(h:H p=none)(o:HO):Hnew H (upd H p o) p=some o:=by
 unfold Hnew;rw[h];exact aq
def Ok (K:F5)(Hv H:Hp)(W:XK)(cls:String->Value)(r:R)(Q:VK):Prop:=match r with
 | .ok d fr=>∀ v Hv' H',Ext Hv H Hv' H'->Rp K Hv' d v->(fr=true->Rp [] (Hnew H H') d v)->Q v H'
 | .exc c=>∀ Hv' H',Ext Hv H Hv' H'->W (cls c) none H'
 | .bad=>False
def OkL (K:F5)(Hv H:Hp)(W:XK)(cls:String->Value)(r:RL)(Q:List V->Hp->Prop):Prop:=match r with
 | .ok ds fr=>∀ vs Hv' H',Ext Hv H Hv' H'->RpL K Hv' ds vs->(fr=true->RpL [] (Hnew H H') ds vs)->Q vs H'
 | .exc c=>∀ Hv' H',Ext Hv H Hv' H'->W (cls c) none H'
 | .bad=>False
def EnvR (K:F5)(Hv:Hp)(ρ:Dv.Env)(σ:St):Prop:=∀ (i:Nat) (d:D),ρ[i]?=some (some d)->∃ v,σ[i]?=some (some v)/\Rp K Hv d v
theorem EnvR.same {K:F5}{Hv Hv':Hp}{ρ:Dv.Env}{σ:St}(e:Same Hv Hv')(h:EnvR K Hv ρ σ):EnvR K Hv' ρ σ:=λ i d q=>
 let ⟨v,h1,h2⟩:=h i d q;⟨v,h1,h2.same e⟩
structure Ctx where
 X:Cx
 W:St->XK
 cls:String->Value
 CX:CXT
 un:X.A.units+64<cLine
 own:PassesOwn (model X.prog X.w) X.A X.env X.xe
 pass:∀ (pins:List (Addr×Obj)) (σ:St) (H:Hp) (s:Shared) (e:Value) (s':Shared),Inv X pins σ H s->CX X.stack H s (W σ) e s'->X.xe e s'
 cxF:∀ (outer:List Gg) (H:Hp) (s:Shared) (e:Value) (s':Shared),CX outer H s (λ _ _ _=>False) e s'->False
def Tak (C:Ctx)(t:TE)(f:EE):Prop:=∀ σ H Hv ρ Q,EnvR C.X.K Hv ρ σ->Same Hv H->Ok C.X.K Hv H (C.W σ) C.cls (f ρ) Q->t σ H Q
def TakL (C:Ctx)(t:TA)(f:EL):Prop:=∀ σ H Hv ρ Q,EnvR C.X.K Hv ρ σ->Same Hv H->OkL C.X.K Hv H (C.W σ) C.cls (f ρ) Q->t σ H Q
def SE (C:Ctx)(e:Expr)(f:EE):Prop:=∃ t:TE,PE C.X e t/\Tak C t f
def SL (C:Ctx)(es:List Expr)(f:EL):Prop:=∃ t:TA,PA C.X es t/\TakL C t f/\∀ ρ ds fr,f ρ=.ok ds fr->ds.length=es.length
def SC (C:Ctx)(e:Expr)(f:EE):Prop:=
 ∃ t:TT,PT C.X e t/\∀ σ H Hv ρ Q,EnvR C.X.K Hv ρ σ->Same Hv H->Ok C.X.K Hv H (C.W σ) C.cls (f ρ) (λ v H'=>∃ b,v=.bl b/\Q b H')->t σ H Q
theorem Ok.later {K:F5}{Hv H Hv1 H1:Hp}{W:XK}{cls:String->Value}{r:R}{Q:VK}(x:Ext Hv H Hv1 H1)(h:Ok K Hv H W cls r Q):Ok K Hv1 H1 W cls r Q:=by
 cases r with
 | ok d fr=>exact λ v Hv' H' y r n=>h v Hv' H' (x.trans y) r λ z=>(n z).same (Hnew.mono x.hh (.refl _))
 | exc c=>exact λ Hv' H' y=>h Hv' H' (x.trans y)
 | bad=>exact h
theorem Ok.now {K:F5}{Hv H:Hp}{W:XK}{cls:String->Value}{d:D}{fr:Bool}{Q:VK}{v:V}(h:Ok K Hv H W cls (.ok d fr) Q)(e:Same Hv H)(r:Rp K Hv d v)(z:Dv.scal d=true):Q v H:=
 h v Hv H (.refl e) r λ _=>r.scal z
theorem Ok.at {K:F5}{Hv H Hv1 H1:Hp}{W:XK}{cls:String->Value}{d:D}{fr:Bool}{Q:VK}{v:V}(h:Ok K Hv H W cls (.ok d fr) Q)(x:Ext Hv H Hv1 H1)(r:Rp K Hv1 d v)(z:Dv.scal d=true):Q v H1:=
 h v Hv1 H1 x r λ _=>r.scal z
theorem Ok.newL {K:F5}{Hv H Hv1 H1:Hp}{W:XK}{cls:String->Value}{ds:List D}{fr:Bool}{Q:VK}{vs:List V}(h:Ok K Hv H W cls (.ok (.lst ds) fr) Q)(x:Ext Hv H Hv1 H1)(r:RpL K Hv1 ds vs)
  (n:fr=true->RpL [] (Hnew H H1) ds vs) (p:Addr) (hp:H1 p=none):Q (.ref p) (upd H1 p (.lst vs)):=by
 have y:=Ext.new1 x.vh hp (.lst vs);refine h _ _ _ (x.trans y) ?_ λ z=>?_
 ·unfold Rp
  exact⟨p,vs,rfl,SqX.of aq,r.same y.vv⟩
 ·unfold Rp
  have hH:H p=none:=x.hh.free hp;refine⟨p,vs,rfl,SqX.of (by unfold Hnew;rw[hH];exact aq),(n z).same (Hnew.mono (.refl _) y.hh)⟩
theorem Ok.newT {K:F5}{Hv H Hv1 H1:Hp}{W:XK}{cls:String->Value}{ds:List D}{fr:Bool}{Q:VK}{vs:List V}(h:Ok K Hv H W cls (.ok (.tup ds) fr) Q)(x:Ext Hv H Hv1 H1)(r:RpL K Hv1 ds vs)
  (n:fr=true->RpL [] (Hnew H H1) ds vs) (p:Addr) (hp:H1 p=none):Q (.ref p) (upd H1 p (.tup vs)):=by
 have y:=Ext.new1 x.vh hp (.tup vs);refine h _ _ _ (x.trans y) ?_ λ z=>?_
 ·unfold Rp
  exact⟨p,vs,rfl,.inl aq,r.same y.vv⟩
 ·unfold Rp
  have hH:H p=none:=x.hh.free hp;refine⟨p,vs,rfl,.inl (by unfold Hnew;rw[hH];exact aq),(n z).same (Hnew.mono (.refl _) y.hh)⟩
section
variable {C:Ctx}{a b c:Expr}{es:List Expr}{f g h:EE}{fl:EL}{ta tb tc:TE}{tl:TA}{pos:Pos}
theorem Tak.step (qa:Tak C ta f){σ:St}{H Hv Hv1 H1:Hp}{ρ:Dv.Env}{Q T:VK}{k:D->Bool->R}(e:EnvR C.X.K Hv ρ σ)(x:Ext Hv H Hv1 H1)(q:Ok C.X.K Hv H (C.W σ) C.cls ((f ρ).bind k) Q)
  (next:∀ v d fr Hv2 H2,f ρ=.ok d fr->Ext Hv H Hv2 H2->Ext Hv1 H1 Hv2 H2->Rp C.X.K Hv2 d v->(fr=true->Rp [] (Hnew H H2) d v)->Ok C.X.K Hv H (C.W σ) C.cls (k d fr) Q->T v H2):ta σ H1 T:=by
 refine qa σ H1 Hv1 ρ _ (e.same x.vv) x.vh ?_
 cases hf:f ρ with
 | bad=>rw[hf] at q;exact q
 | exc c=>rw[hf] at q;exact λ Hv' H' y=>q Hv' H' (x.trans y)
 | ok d fr=>
  rw[hf] at q;exact λ v Hv2 H2 y r n=>next v d fr Hv2 H2 hf (x.trans y) y r (λ z=>(n z).same (Hnew.mono x.hh (.refl _))) q
theorem TakL.step (qa:TakL C tl fl){σ:St}{H Hv Hv1 H1:Hp}{ρ:Dv.Env}{Q:VK}{T:List V->Hp->Prop}{k:List D->Bool->R}(e:EnvR C.X.K Hv ρ σ)(x:Ext Hv H Hv1 H1)(q:Ok C.X.K Hv H (C.W σ) C.cls ((fl ρ).bind k) Q)
  (next:∀ vs ds fr Hv2 H2,fl ρ=.ok ds fr->Ext Hv H Hv2 H2->Ext Hv1 H1 Hv2 H2->RpL C.X.K Hv2 ds vs->(fr=true->RpL [] (Hnew H H2) ds vs)->Ok C.X.K Hv H (C.W σ) C.cls (k ds fr) Q->T vs H2):tl σ H1 T:=by
 refine qa σ H1 Hv1 ρ _ (e.same x.vv) x.vh ?_
 cases hf:fl ρ with
 | bad=>rw[hf] at q;exact q
 | exc c=>rw[hf] at q;exact λ Hv' H' y=>q Hv' H' (x.trans y)
 | ok d fr=>
  rw[hf] at q;exact λ v Hv2 H2 y r n=>next v d fr Hv2 H2 hf (x.trans y) y r (λ z=>(n z).same (Hnew.mono x.hh (.refl _))) q
theorem aa (i:Nat){x:Str}(hN:autoParam (C.X.N[i]?=some x) ZF._auto_1)(hv:autoParam (Vis C.X.env.scope x) ZH._auto_1)(hd:autoParam ((x == ("__debug__":Str))=false) ZC._auto_1)
  (hcd:autoParam ((x == ("__classdict__":Str))=false) ZC._auto_1):SE C (.Name x pos) (Dv.eVar i):=by
 refine⟨bo i,dt hN hv hd hcd,λ σ H Hv ρ Q e s q=>?_⟩;unfold Dv.eVar at q;cases r:ρ[i]? with
 | none=>rw[r] at q;exact q.elim
 | some o=>
  cases o with
  | none=>rw[r] at q;exact q.elim
  | some d=>
   rw[r] at q;obtain⟨v,h1,h2⟩:=e i d r;exact⟨v,h1,q v Hv H (.refl s) h2 λ z=>h2.scal z⟩
theorem ai {i:Int}{j:Nat}:SE C (.Constant (.int i) j pos) (Dv.eInt i):=
 ⟨_,fZ,λ _ _ _ _ _ _ s q=>q.now (v:=.int i) s (by unfold Rp;rfl) rfl⟩
theorem eJ {i:Bool}{j:Nat}:SE C (.Constant (.bool i) j pos) (Dv.eBl i):=
 ⟨_,BO,λ _ _ _ _ _ _ s q=>q.now (v:=.bl i) s (by unfold Rp;rfl) rfl⟩
theorem gb {x:Str}{l:List Nat}{j:Nat}(h:autoParam (x.cps.toList=Dv.clipS l) ZJ._auto_1):SE C (.Constant (.str x) j pos) (Dv.eStr l):=
 ⟨_,gL,λ _ _ _ _ _ _ s q=>q.now (v:=.str x) s (by unfold Rp;rw[<- h]) rfl⟩
def OpS (C:Ctx)(op:Value->Value->Sem Value)(F:D->D->R):Prop:=
 ∃ r:R2,OpR C.X op r/\∀ x y d d' H Hv H1 Hv1 W Q,Ext Hv H Hv1 H1->Rp C.X.K Hv1 d x->Rp C.X.K Hv1 d' y->Ok C.X.K Hv H W C.cls (F d d') Q->r x y H1 Q
theorem lS {op:Value->Value->Sem Value}{F:D->D->R}{r:R2}(hr:∀ x y d d' H Hv H1 Hv1 W Q,Ext Hv H Hv1 H1->Rp C.X.K Hv1 d x->Rp C.X.K Hv1 d' y->Ok C.X.K Hv H W C.cls (F d d') Q->r x y H1 Q)
  (qa:Tak C ta f) (qb:Tak C tb g):Tak C (tOp r ta tb) (λ ρ=>(f ρ).bind λ x _=>(g ρ).bind λ y _=>F x y):=λ σ H Hv ρ Q e s q=>
 qa.step e (.refl s) q λ v d fr Hv1 H1 _ x1 _ rp1 _ q1=>qb.step e x1 q1 λ v2 d2 fr2 Hv2 H2 _ x2 y2 rp2 _ q2=>
  hr v v2 d d2 H Hv H2 Hv2 _ Q x2 (rp1.same y2.vv) rp2 q2
theorem f7 {op:Operator}{F:D->D->R}(o:OpS C (binaryOp op) F)(ha:SE C a f)(hb:SE C b g):SE C (.BinOp a op b pos) (λ ρ=>(f ρ).bind λ x _=>(g ρ).bind λ y _=>F x y):=by
 obtain⟨r,ho,hr⟩:=o;obtain⟨ta,pa,qa⟩:=ha;obtain⟨tb,pb,qb⟩:=hb;exact⟨_,yU ho pa pb,lS (op:=binaryOp op) hr qa qb⟩
theorem n8 {op:CmpOp}{F:D->D->R}(o:OpS C (compareOp op) F)(ha:SE C a f)(hb:SE C b g)(hm:behindInMarks op b=false):SE C (.Compare a [op] [b] pos) (λ ρ=>(f ρ).bind λ x _=>(g ρ).bind λ y _=>F x y):=by
 obtain⟨r,ho,hr⟩:=o;obtain⟨ta,pa,qa⟩:=ha;obtain⟨tb,pb,qb⟩:=hb;exact⟨_,xo ho pa pb hm,lS (op:=compareOp op) hr qa qb⟩
theorem dj {op:CmpOp}{F:D->D->R}(o:OpS C (compareOp op) F)(ha:SE C a f)(hb:SE C b g)(hm:behindInMarks op b=false):SC C (.Compare a [op] [b] pos) (λ ρ=>(f ρ).bind λ x _=>(g ρ).bind λ y _=>F x y):=by
 obtain⟨r,ho,hr⟩:=o;obtain⟨ta,pa,qa⟩:=ha;obtain⟨tb,pb,qb⟩:=hb;exact⟨_,gH ho pa pb hm,λ σ H Hv ρ Q e s q=>lS (op:=compareOp op) hr qa qb σ H Hv ρ _ e s q⟩
theorem cX (ha:SE C a f)(he:autoParam (∀ whole,isTrue a C.X.env whole=(do let v <- whole;standAt a.pos;holding [v] (truthy v))) ZE._auto_1):SC C a f:=by
 obtain⟨t,p,q⟩:=ha;exact⟨_,AF p he,λ σ H Hv ρ Q e s w=>q σ H Hv ρ _ e s w⟩
def SW (C:Ctx)(e:Expr)(f:EE):Prop:=
 ∃ t:TT,PW C.X e t/\∀ σ H Hv ρ Q,EnvR C.X.K Hv ρ σ->Same Hv H->Ok C.X.K Hv H (C.W σ) C.cls (f ρ) (λ v H'=>∃ b,v=.bl b/\Q b H')->t σ H Q
def TakC (C:Ctx)(t:TT)(f:EE):Prop:=∀ σ H Hv ρ Q,EnvR C.X.K Hv ρ σ->Same Hv H->Ok C.X.K Hv H (C.W σ) C.cls (f ρ) (λ v H'=>∃ b,v=.bl b/\Q b H')->t σ H Q
theorem TakC.step {tt:TT}(qa:TakC C tt f){σ:St}{H Hv Hv1 H1:Hp}{ρ:Dv.Env}{Q:VK}{T:Bool->Hp->Prop}{k:D->Bool->R}(e:EnvR C.X.K Hv ρ σ)(x:Ext Hv H Hv1 H1)(q:Ok C.X.K Hv H (C.W σ) C.cls ((f ρ).bind k) Q)
  (nb:∀ d fr,f ρ=.ok d fr->(∀ b,d≠.bl b)->k d fr=.bad)
  (next:∀ b fr Hv2 H2,f ρ=.ok (.bl b) fr->Ext Hv H Hv2 H2->Ext Hv1 H1 Hv2 H2->Ok C.X.K Hv H (C.W σ) C.cls (k (.bl b) fr) Q->T b H2):tt σ H1 T:=by
 refine qa σ H1 Hv1 ρ _ (e.same x.vv) x.vh ?_
 cases hf:f ρ with
 | bad=>rw[hf] at q;exact q
 | exc c=>rw[hf] at q;exact λ Hv' H' y=>q Hv' H' (x.trans y)
 | ok d fr=>
  intro v Hv2 H2 y r n;cases d with
  | bl b=>
   unfold Rp at r;rw[hf] at q;exact⟨b,r,next b fr Hv2 H2 hf (x.trans y) y q⟩
  | _=>
   have z:=nb _ _ hf (by intro b z;cases z);rw[hf] at q;have q':Ok C.X.K Hv H (C.W σ) C.cls (k _ fr) Q:=q;rw[z] at q';exact q'.elim
theorem dh (op:BoolOp)(ha:SC C a f):SW C (.BoolOp op [a] pos) f:=by
 obtain⟨t,p,q⟩:=ha;cases op with
 | And=>exact⟨t,xj p,q⟩
 | Or=>exact⟨t,Az p,q⟩
theorem vS {rest:List Expr}(ha:SC C a f)(hb:SW C (.BoolOp .And (b::rest) pos) g):SW C (.BoolOp .And (a::b::rest) pos) (Dv.eAnd f g):=by
 obtain⟨t,p,q⟩:=ha;obtain⟨u,p2,q2⟩:=hb;refine⟨_,AJ p p2,λ σ H Hv ρ Q e s w=>?_⟩;refine TakC.step q e (.refl s) w (λ d fr _ nb=>by cases d <;>first|rfl|exact absurd rfl (nb _)) λ b fr Hv2 H2 hf x y w2=>?_
 cases b with
 | true=>exact ux (q2 σ H2 Hv2 ρ _ (e.same x.vv) x.vh (Ok.later x (show Ok _ _ _ _ _ (g ρ) _ from w2)))
 | false=>
  obtain⟨b,e1,q3⟩:=(show Ok C.X.K Hv H (C.W σ) C.cls (.ok (.bl false) true) (λ v H'=>∃ b,v=.bl b/\Q b H') from w2).at (v:=.bl false) x (by unfold Rp;rfl) rfl;cases e1;exact vJ q3
theorem eX {rest:List Expr}(ha:SC C a f)(hb:SW C (.BoolOp .Or (b::rest) pos) g):SW C (.BoolOp .Or (a::b::rest) pos) (Dv.eOr f g):=by
 obtain⟨t,p,q⟩:=ha;obtain⟨u,p2,q2⟩:=hb;refine⟨_,B0 p p2,λ σ H Hv ρ Q e s w=>?_⟩;refine TakC.step q e (.refl s) w (λ d fr _ nb=>by cases d <;>first|rfl|exact absurd rfl (nb _)) λ b fr Hv2 H2 hf x y w2=>?_
 cases b with
 | false=>exact vJ (q2 σ H2 Hv2 ρ _ (e.same x.vv) x.vh (Ok.later x (show Ok _ _ _ _ _ (g ρ) _ from w2)))
 | true=>
  obtain⟨b,e1,q3⟩:=(show Ok C.X.K Hv H (C.W σ) C.cls (.ok (.bl true) true) (λ v H'=>∃ b,v=.bl b/\Q b H') from w2).at (v:=.bl true) x (by unfold Rp;rfl) rfl;cases e1;exact ux q3
theorem jg (h:SW C a f):SC C a f:=let ⟨t,p,q⟩:=h;⟨t,p.pt,q⟩
theorem fU (ha:SC C a f):SC C (.UnaryOp .Not a pos) (Dv.eNot f):=by
 obtain⟨t,p,q⟩:=ha;refine⟨_,AW p,λ σ H Hv ρ Q e s w=>?_⟩;refine TakC.step q e (.refl s) w (λ d fr _ nb=>by cases d <;>first|rfl|exact absurd rfl (nb _)) λ b fr Hv2 H2 hf x y w2=>?_
 obtain⟨b',e1,q3⟩:=(show Ok C.X.K Hv H (C.W σ) C.cls (.ok (.bl (!b)) true) (λ v H'=>∃ b,v=.bl b/\Q b H') from w2).at (v:=.bl (!b)) x (by unfold Rp;rfl) rfl;cases e1;exact q3
theorem vp {op:BoolOp}(ha:SE C a f):SE C (.BoolOp op [a] pos) f:=let ⟨t,p,q⟩:=ha;⟨t,A4 p,q⟩
theorem vO {rest:List Expr}(ha:SE C a f)(hb:SE C (.BoolOp .And (b::rest) pos) g):SE C (.BoolOp .And (a::b::rest) pos) (Dv.eAnd f g):=by
 obtain⟨t,p,q⟩:=ha;obtain⟨u,p2,q2⟩:=hb;refine⟨_,AQ p p2,λ σ H Hv ρ Q e s w=>?_⟩;refine Tak.step q e (.refl s) w λ v d fr Hv2 H2 hf x y rp n w2=>?_
 cases d with
 | bl c=>
  unfold Rp at rp;refine⟨c,rp,?_⟩;cases c with
  | true=>exact ux (q2 σ H2 Hv2 ρ _ (e.same x.vv) x.vh (Ok.later x (show Ok _ _ _ _ _ (g ρ) _ from w2)))
  | false=>exact vJ ((show Ok C.X.K Hv H (C.W σ) C.cls (.ok (.bl false) true) Q from w2).at (v:=.bl false) x (by unfold Rp;rfl) rfl)
 | _=>exact Zf w2
theorem Ab (ha:SE C a f):SE C (.UnaryOp .Not a pos) (Dv.eNot f):=by
 obtain⟨t,p,q⟩:=ha;refine⟨_,Ai p,λ σ H Hv ρ Q e s w=>?_⟩;refine Tak.step q e (.refl s) w λ v d fr Hv2 H2 hf x y rp n w2=>?_
 cases d with
 | bl c=>
  unfold Rp at rp;exact⟨c,rp,(show Ok C.X.K Hv H (C.W σ) C.cls (.ok (.bl (!c)) true) Q from w2).at (v:=.bl (!c)) x (by unfold Rp;rfl) rfl⟩
 | _=>exact Zf w2
theorem eC (ha:SE C a f):SE C (.UnaryOp .USub a pos) (Dv.eNeg f):=by
 obtain⟨t,p,q⟩:=ha;refine⟨_,Cf zl p,λ σ H Hv ρ Q e s w=>?_⟩;refine Tak.step q e (.refl s) w λ v d fr Hv2 H2 hf x y rp n w2=>?_
 cases d with
 | int i=>
  unfold Rp at rp;exact⟨i,rp,(show Ok C.X.K Hv H (C.W σ) C.cls (.ok (.int (-i)) true) Q from w2).at (v:=.int (-i)) x (by unfold Rp;rfl) rfl⟩
 | _=>exact Zf w2
theorem ao:SL C [] Dv.lNil:=⟨_,aF,λ σ H Hv ρ Q e s q=>q [] Hv H (.refl s) .nil λ _=>.nil,λ ρ ds fr h=>by cases h;rfl⟩
theorem ae (ha:SE C a f)(hr:SL C es fl)(hs:autoParam (starEach (a::es) C.X.env=(false,eval a C.X.env)::starEach es C.X.env) ZF._auto_1):SL C (a::es) (Dv.lCons f fl):=by
 obtain⟨t,p,q⟩:=ha;obtain⟨u,p2,q2,l2⟩:=hr;refine⟨_,av p p2 hs,λ σ H Hv ρ Q e s w=>?_,λ ρ ds fr h=>?_⟩
 rotate_left
 ·unfold Dv.lCons at h
  cases hf:f ρ with
  | bad=>rw[hf] at h;cases h
  | exc c=>rw[hf] at h;cases h
  | ok d f1=>
   cases hg:fl ρ with
   | bad=>rw[hf,hg] at h;cases h
   | exc c=>rw[hf,hg] at h;cases h
   | ok d2 f2=>
    rw[hf,hg] at h;cases h;rw[CQ,CQ,l2 ρ d2 f2 hg]
 unfold Dv.lCons at w;refine q σ H Hv ρ _ e s ?_
 cases hf:f ρ with
 | bad=>rw[hf] at w;exact w
 | exc c=>rw[hf] at w;exact w
 | ok d fr=>
  rw[hf] at w;intro v Hv1 H1 x1 r1 n1;refine q2 σ H1 Hv1 ρ _ (e.same x1.vv) x1.vh ?_
  cases hg:fl ρ with
  | bad=>rw[hg] at w;exact w
  | exc c=>rw[hg] at w;exact λ Hv' H' y=>w Hv' H' (x1.trans y)
  | ok ds fr2=>
   rw[hg] at w;intro vs Hv2 H2 x2 r2 n2;refine w (v::vs) Hv2 H2 (x1.trans x2) (.cons (r1.same x2.vv) r2) λ z=>?_
   have z':fr=true/\fr2=true:=by simpa using z
   exact .cons ((n1 z'.1).same (Hnew.mono (.refl _) x2.hh)) ((n2 z'.2).same (Hnew.mono x1.hh (.refl _)))
theorem dH {n:Nat}(h:n<=Dv.mx):n<=sizeLine:=by
 unfold Dv.mx at h;rw[GC];omega
theorem aV (h:SL C es fl)(hz:autoParam (es.length<=Dv.mx) ZC._auto_1):SE C (.List es pos) (Dv.eLst fl):=by
 obtain⟨t,p,q,hn⟩:=h;refine⟨_,fV p,λ σ H Hv ρ Q e s w=>?_⟩;refine TakL.step q e (.refl s) w λ vs ds fr Hv2 H2 hf x y rp n w2=>⟨?_,λ p hp=>?_⟩
 ·rw[rp.length,hn ρ ds fr hf];exact dH hz
 ·exact Ok.newL w2 x rp n p hp
theorem jm {k}(h:SL C es fl)(hz:autoParam (es.length<=Dv.mx) ZC._auto_1):SE C (.Tuple es k pos) (Dv.eTup fl):=by
 obtain⟨t,p,q,hn⟩:=h;refine⟨_,gi p,λ σ H Hv ρ Q e s w=>?_⟩;refine TakL.step q e (.refl s) w λ vs ds fr Hv2 H2 hf x y rp n w2=>⟨?_,λ p hp=>?_⟩
 ·rw[rp.length,hn ρ ds fr hf];exact dH hz
 ·exact Ok.newT w2 x rp n p hp
end
section
variable {C:Ctx}{a b c:Expr}{es:List Expr}{f g h:EE}{fl:EL}{pos:Pos}
theorem qJ {op:Value->Value->Sem Value}{K:Int->Int->Prop}{G:Int->Int->V}{F:D->D->R}(o:OpR C.X op (rI K G))
  (hF:∀ d d',(∃ i j x,d=.int i/\d'=.int j/\K i j/\F d d'=.ok x true/\Dv.scal x=true/\∀ K' H',Rp K' H' x (G i j))\/F d d'=.bad):OpS C op F:=by
 refine⟨_,o,λ x y d d' H Hv H1 Hv1 W Q e rx ry q=>?_⟩
 rcases hF d d' with ⟨i,j,z,rfl,rfl,hk,hz,hs,hr⟩|hb
 ·unfold Rp at rx ry
  rw[hz] at q;exact⟨i,j,rx,ry,hk,q.at e (hr _ _) hs⟩
 ·rw[hb] at q;exact q.elim
theorem jx {op:Value->Value->Sem Value}{G:Int->Int->V}{F:D->D->R}(o:OpR C.X op (rI0 G))
  (hF:∀ d d',(∃ i j x,d=.int i/\d'=.int j/\F d d'=.ok x true/\Dv.scal x=true/\∀ K' H',Rp K' H' x (G i j))\/F d d'=.bad):OpS C op F:=by
 refine⟨_,o,λ x y d d' H Hv H1 Hv1 W Q e rx ry q=>?_⟩
 rcases hF d d' with ⟨i,j,z,rfl,rfl,hz,hs,hr⟩|hb
 ·unfold Rp at rx ry
  rw[hz] at q;exact⟨i,j,rx,ry,q.at e (hr _ _) hs⟩
 ·rw[hb] at q;exact q.elim
theorem bK {K:F5}{H:Hp}{i:Int}:Rp K H (.int i) (.int i):=by unfold Rp;rfl
theorem cn {K:F5}{H:Hp}{i:Bool}:Rp K H (.bl i) (.bl i):=by unfold Rp;rfl
theorem t7 {K:F5}{H:Hp}:Rp K H .non .non:=by unfold Rp;rfl
theorem zW:OpS C (binaryOp .Sub) (Dv.opD .sub):=jx zZ λ d d'=>by
 cases d <;>first
  | exact .inr rfl
  | (cases d' <;>first
   | exact .inr rfl
   | exact .inl ⟨_,_,_,rfl,rfl,rfl,rfl,λ _ _=>bK⟩)
theorem zp:OpS C (binaryOp .Mod) (Dv.opD .mod):=qJ zG λ d d'=>by
 cases d with
 | int i=>
  cases d' with
  | int j=>
   by_cases h:0<j
   ·exact .inl ⟨i,j,.int (i%j),rfl,rfl,h,by simp[Dv.opD_ai,Dv.opD_al,Dv.opD_su,Dv.opD_mi,Dv.opD_ml,Dv.opD_mo,Dv.opD_fd,Dv.opD_po,Dv.opD_ba,Dv.opD_sh,h],rfl,λ _ _=>bK⟩
   ·exact .inr (by simp[Dv.opD_ai,Dv.opD_al,Dv.opD_su,Dv.opD_mi,Dv.opD_ml,Dv.opD_mo,Dv.opD_fd,Dv.opD_po,Dv.opD_ba,Dv.opD_sh,h])
  | _=>exact .inr rfl
 | _=>exact .inr rfl
theorem uT:OpR C.X (binaryOp .FloorDiv) (rI (λ _ j=>0<j/\j.natAbs.log2<9000) λ i j=>.int (i/j)):=opI λ i j _ _ _ _ _ hc q=>by
 have h1:(0:Int)<j:=hc.1;exact floordiv_int ⋯ (by rw[EZ i ⋯];exact q) (.inl (Hq hc.2))
theorem xY:OpS C (binaryOp .FloorDiv) (Dv.opD .fdiv):=qJ uT λ d d'=>by
 cases d with
 | int i=>
  cases d' with
  | int j=>
   by_cases h:Dv.divOk j=true
   ·refine .inl ⟨i,j,.int (i/j),rfl,rfl,?_,by simp[Dv.opD_ai,Dv.opD_al,Dv.opD_su,Dv.opD_mi,Dv.opD_ml,Dv.opD_mo,Dv.opD_fd,Dv.opD_po,Dv.opD_ba,Dv.opD_sh,h],rfl,λ _ _=>bK⟩
    unfold Dv.divOk at h;simpa using h
   ·exact .inr (by simp[Dv.opD_ai,Dv.opD_al,Dv.opD_su,Dv.opD_mi,Dv.opD_ml,Dv.opD_mo,Dv.opD_fd,Dv.opD_po,Dv.opD_ba,Dv.opD_sh,h])
  | _=>exact .inr rfl
 | _=>exact .inr rfl
theorem Al:OpS C (binaryOp .Pow) (Dv.opD .pow):=qJ Ak λ d d'=>by
 cases d with
 | int i=>
  cases d' with
  | int j=>
   by_cases h:(decide (0<=j)&&decide (j<=1000)&&decide (i.natAbs<1000000))=true
   ·refine .inl ⟨i,j,.int (i ^ j.toNat),rfl,rfl,?_,by simp only[Dv.opD_ai,Dv.opD_al,Dv.opD_su,Dv.opD_mi,Dv.opD_ml,Dv.opD_mo,Dv.opD_fd,Dv.opD_po,Dv.opD_ba,Dv.opD_sh,h];rfl,rfl,λ _ _=>bK⟩
    simp only[C3,decide_eq_true_eq] at h;exact⟨h.1.1,⋯,⋯⟩
   ·exact .inr (by simp only[Dv.opD_ai,Dv.opD_al,Dv.opD_su,Dv.opD_mi,Dv.opD_ml,Dv.opD_mo,Dv.opD_fd,Dv.opD_po,Dv.opD_ba,Dv.opD_sh,h];rfl)
  | _=>exact .inr rfl
 | _=>exact .inr rfl
theorem Ar:OpS C (binaryOp .RShift) (Dv.opD .shr):=qJ Av λ d d'=>by
 cases d with
 | int i=>
  cases d' with
  | int j=>
   by_cases h:0<=j
   ·exact .inl ⟨i,j,.int (i/2 ^ j.toNat),rfl,rfl,h,by simp[Dv.opD_ai,Dv.opD_al,Dv.opD_su,Dv.opD_mi,Dv.opD_ml,Dv.opD_mo,Dv.opD_fd,Dv.opD_po,Dv.opD_ba,Dv.opD_sh,h],rfl,λ _ _=>bK⟩
   ·exact .inr (by simp[Dv.opD_ai,Dv.opD_al,Dv.opD_su,Dv.opD_mi,Dv.opD_ml,Dv.opD_mo,Dv.opD_fd,Dv.opD_po,Dv.opD_ba,Dv.opD_sh,h])
  | _=>exact .inr rfl
 | _=>exact .inr rfl
def zk (K:F5):R2:=λ x y H Q=>∃ l b xs zs,x=.ref l/\y=.ref b/\SqX K H l xs/\SqX K H b zs/\xs.length+zs.length<=sizeLine/\∀ p,H p=none->Q (.ref p) (upd H p (.lst (xs++zs)))
theorem pO {X:Cx}:OpR X (binaryOp .Add) (zk X.K):=by
 intro pins s σ H x y v u Q I rx ry h;obtain⟨l,b,xs,zs,rfl,rfl,hH,hB,hz,q⟩:=h;cases rx;cases ry;obtain⟨its,n,r,e,z⟩:=Inv.listX I hH;obtain⟨its2,n2,r2,e2,z2⟩:=Inv.listX I hB;have hl:=r.length;have hl2:=r2.length;refine PySem.P.add_list e e2 ?_ (by rw[Dd,Dd];omega)
 have ea:its.toArray++its2.toArray=(its++its2).toArray:=by simp
 rw[ea];exact⟨.ref _,_,I.lnew (t':=s.toks) (r.append r2) (by rw[C9];omega),rfl,q _ I.fresh⟩
theorem AY:OpS C (binaryOp .Add) (Dv.opD .add):=by
 refine⟨_,OpR.or Aw pO,λ x y d d' H Hv H1 Hv1 W Q e rx ry q=>?_⟩;cases d with
 | int i=>
  cases d' with
  | int j=>
   unfold Rp at rx ry;exact .inl ⟨i,j,rx,ry,(show Ok _ _ _ _ _ (.ok (.int (i+j)) true) Q from q).at e bK rfl⟩
  | _=>exact Zf q
 | lst xs=>
  cases d' with
  | lst ys=>
   unfold Rp at rx ry;obtain⟨l,vs,rfl,h1,h2⟩:=rx;obtain⟨m,ws,rfl,h3,h4⟩:=ry;by_cases hz:xs.length+ys.length<=Dv.mx
   ·have q':Ok C.X.K Hv H W C.cls (.ok (.lst (xs++ys)) (Dv.flatL xs&&Dv.flatL ys)) Q:=by simpa[Dv.opD_ai,Dv.opD_al,Dv.opD_su,Dv.opD_mi,Dv.opD_ml,Dv.opD_mo,Dv.opD_fd,Dv.opD_po,Dv.opD_ba,Dv.opD_sh,hz] using q
    refine .inr ⟨l,m,vs,ws,rfl,rfl,h1.same e.vh,h3.same e.vh,?_,λ p hp=>Ok.newL q' e (h2.append h4) (λ z=>?_) p hp⟩
    ·rw[h2.length,h4.length];exact dH hz
    ·rw[C3] at z
     exact(h2.flat z.1).append (h4.flat z.2)
   ·have q':False:=by simpa[Dv.opD_ai,Dv.opD_al,Dv.opD_su,Dv.opD_mi,Dv.opD_ml,Dv.opD_mo,Dv.opD_fd,Dv.opD_po,Dv.opD_ba,Dv.opD_sh,hz,Ok] using q
    exact q'.elim
  | _=>exact Zf q
 | _=>exact Zf q
theorem qC (i:Int):H0 i=Dv.bits i:=by
 unfold H0 Dv.bits;by_cases h:i=0
 ·simp[h]
 ·simp[h]
theorem xq:OpR C.X (binaryOp .Mult) (rI (λ i j=>Dv.mulOk i j=true) λ i j=>.int (i*j)):=opI λ i j _ _ _ _ _ hc q=>by
 refine mul_int q ?_
 unfold Dv.mulOk at hc;simp only[DU,C3,decide_eq_true_eq,<- qC] at hc
 rcases hc with (hc|hc)|hc
 ·exact .of_left hc
 ·exact .of_right hc
 ·exact .of_bits (by simpa using hc.1) (by simpa using hc.2)
def BH (K:F5):R2:=λ x y H Q=>∃ l k xs,x=.ref l/\y=.int k/\SqX K H l xs/\-(2 ^ 63)<=k/\k<2 ^ 63/\xs.length*k.toNat<=sizeLine /\
 ∀ p,H p=none->Q (.ref p) (upd H p (.lst (List.replicate k.toNat xs).flatten))
theorem yd {X:Cx}:OpR X (binaryOp .Mult) (BH X.K):=by
 intro pins s σ H x y v u Q I rx ry h;obtain⟨l,k,xs,rfl,rfl,hH,h1,h2,hz,q⟩:=h;cases rx;obtain⟨t,rfl⟩:=ry;obtain⟨its,n,r,e,z⟩:=Inv.listX I hH;have hl:=r.length;have hlen:its.toArray.size*k.toNat<=sizeLine:=by rw[Dd,<- hl];exact hz
 have hcap:¬ its.toArray.size*k.toNat > (2 ^ 63-1)/8:=by
  have:(sizeLine:Nat)<=(2 ^ 63-1)/8:=by decide
  omega
 have hfit:¬ (!Builtin.List.listFitsIndex k)=true:=by
  rw[fitsIndex_both h1 h2];exact Dj
 have hlong:¬ GK (its.toArray.size*k.toNat)=true:=by
  rw[mQ hlen];exact Dj
 have hnew:List.foldl (λ x1 x2=>x1++x2) #[] (List.replicate (if its.toArray.isEmpty=true then 0 else k.toNat) its.toArray)=(List.replicate k.toNat its).flatten.toArray:=by
  have f0:∀ m:Nat,List.foldl (λ x1 x2=>x1++x2) #[] (List.replicate m its.toArray)=(List.replicate m its).flatten.toArray:=λ m=>by
   have:=foldl_rep its m [];rw[C1] at this;exact this
  rw[f0];cases its with
  | nil=>simp
  | cons a r'=>rw[if_neg (by simp)]
 refine wpAny_binaryOp_repeat_ref (T:="list") (U:="int") (by decide) ⟨_,e,rfl⟩ (λ s'=>typeIs_int s' k t) noFill_list_mul F.fills_int_mul F.slot_int_rmul repeat_list F.slot_int_index.lookup
  (GW F.slot_int_rmul (typeIs_int s k t) F.entry_int_rmul (F.args_int_rmul_2 _ _) (int___rmul___int_list k t l its.toArray n)
   ⟨e,rfl,⟨_,e,rfl⟩,GW F.slot_list_mul ⟨_,e,rfl⟩ F.entry_list_mul (F.args_list_mul_2 _ _) (AutoListH.list___mul___list_int_3 l its.toArray n k t hfit hcap hlong) ⟨e,?_⟩⟩)
 rw[hnew];exact⟨.ref _,_,I.lnew (t':=s.toks) (r.rep k.toNat) (by rw[len_rep,EM];exact hz),rfl,q _ I.fresh⟩
theorem RpL.rep {K:F5}{H:Hp}{ds:List D}{vs:List V}(h:RpL K H ds vs):∀ k:Nat,RpL K H (List.replicate k ds).flatten (List.replicate k vs).flatten
 | 0=>.nil
 | k+1=>by
  rw[Du,Du,DL,DL];exact h.append (RpL.rep h k)
theorem zN:OpS C (binaryOp .Mult) (Dv.opD .mul):=by
 refine⟨_,OpR.or xq yd,λ x y d d' H Hv H1 Hv1 W Q e rx ry q=>?_⟩;cases d with
 | int i=>
  cases d' with
  | int j=>
   unfold Rp at rx ry;by_cases h:Dv.mulOk i j=true
   ·have q':Ok C.X.K Hv H W C.cls (.ok (.int (i*j)) true) Q:=by simpa[Dv.opD_ai,Dv.opD_al,Dv.opD_su,Dv.opD_mi,Dv.opD_ml,Dv.opD_mo,Dv.opD_fd,Dv.opD_po,Dv.opD_ba,Dv.opD_sh,h] using q
    exact .inl ⟨i,j,rx,ry,h,q'.at e bK rfl⟩
   ·have q':False:=by simpa[Dv.opD_ai,Dv.opD_al,Dv.opD_su,Dv.opD_mi,Dv.opD_ml,Dv.opD_mo,Dv.opD_fd,Dv.opD_po,Dv.opD_ba,Dv.opD_sh,h,Ok] using q
    exact q'.elim
  | _=>exact Zf q
 | lst xs=>
  cases d' with
  | int j=>
   unfold Rp at rx ry;obtain⟨l,vs,rfl,h1,h2⟩:=rx;subst ry;by_cases hz:(decide (-100000<=j)&&decide (j<=Dv.mx)&&decide (xs.length*j.toNat<=Dv.mx))=true
   ·have q':Ok C.X.K Hv H W C.cls (.ok (.lst (List.replicate j.toNat xs).flatten) (Dv.flatL xs)) Q:=by
     simp only[Dv.opD_ai,Dv.opD_al,Dv.opD_su,Dv.opD_mi,Dv.opD_ml,Dv.opD_mo,Dv.opD_fd,Dv.opD_po,Dv.opD_ba,Dv.opD_sh,hz,if_true] at q;exact q
    simp only[C3,decide_eq_true_eq] at hz;have hj:j<=100000:=hz.1.2;have hj0:-100000<=j:=hz.1.1;refine .inr ⟨l,j,vs,rfl,rfl,h1.same e.vh,⋯,⋯,?_,λ p hp=>Ok.newL q' e (h2.rep _) (λ z=>?_) p hp⟩
    ·rw[h2.length];exact dH hz.2
    ·exact(h2.flat z).rep _
   ·simp only[Dv.opD_ai,Dv.opD_al,Dv.opD_su,Dv.opD_mi,Dv.opD_ml,Dv.opD_mo,Dv.opD_fd,Dv.opD_po,Dv.opD_ba,Dv.opD_sh,hz] at q
    exact Zf q
  | _=>exact Zf q
 | _=>exact Zf q
theorem Be:OpS C (compareOp .Lt) (Dv.cmD .lt):=jx BZ λ d d'=>by
 cases d <;>first
  | exact .inr rfl
  | (cases d' <;>first|exact .inr rfl|exact .inl ⟨_,_,_,rfl,rfl,rfl,rfl,λ _ _=>cn⟩)
theorem BX:OpS C (compareOp .LtE) (Dv.cmD .le):=jx Bh λ d d'=>by
 cases d <;>first
  | exact .inr rfl
  | (cases d' <;>first|exact .inr rfl|exact .inl ⟨_,_,_,rfl,rfl,rfl,rfl,λ _ _=>cn⟩)
theorem Bd:OpS C (compareOp .Gt) (Dv.cmD .gt):=jx uD λ d d'=>by
 cases d <;>first
  | exact .inr rfl
  | (cases d' <;>first|exact .inr rfl|exact .inl ⟨_,_,_,rfl,rfl,rfl,rfl,λ _ _=>cn⟩)
theorem Cd:OpS C (compareOp .GtE) (Dv.cmD .ge):=jx B3 λ d d'=>by
 cases d <;>first
  | exact .inr rfl
  | (cases d' <;>first|exact .inr rfl|exact .inl ⟨_,_,_,rfl,rfl,rfl,rfl,λ _ _=>cn⟩)
mutual
def pd:D->PyData
 | .non=>.none
 | .bl b=>.bool b
 | .int i=>.int i
 | .str x=>.str ⟨(Dv.clipS x).toArray⟩
 | .lst ds=>.list (pdL ds)
 | .tup ds=>.tuple (pdL ds)
 | .exn _=>.none
 | .raw _=>.none
 | .tab _=>.none
 | .dct _ _=>.none
 | .ins _ _=>.none
def pdL:List D->List PyData
 | []=>[]
 | d::r=>pd d::pdL r
end
mutual
theorem cN:∀ d:D,(pd d).canLay0=true
 | .non=>by simp[pd,Gr]
 | .bl _=>by simp[pd,Gr]
 | .int _=>by simp[pd,Gr]
 | .str x=>by
  have:∀ n:Nat,n%1114112<1114112:=λ n=>FT _ (by decide)
  simp[pd,Gr,PyData.strOk,Dv.clipS,this]
 | .lst ds=>by simp[pd,Gr,iK ds]
 | .tup ds=>by simp[pd,Gr,iK ds]
 | .exn _=>by simp[pd,Gr]
 | .raw _=>by simp[pd,Gr]
 | .tab _=>by simp[pd,Gr]
 | .dct _ _=>by simp[pd,Gr]
 | .ins _ _=>by simp[pd,Gr]
theorem iK:∀ ds:List D,Hk (pdL ds)=true
 | []=>by simp[pdL,Hk]
 | d::r=>by simp[pdL,Hk,cN d,iK r]
end
mutual
theorem cF:∀ d:D,(pd d).depth<=Dv.depthD d
 | .non=>by simp[pd,Gz,Dv.depthD]
 | .bl _=>by simp[pd,Gz,Dv.depthD]
 | .int _=>by simp[pd,Gz,Dv.depthD]
 | .str _=>by simp[pd,Gz,Dv.depthD]
 | .lst ds=>by have:=fD ds;simp[pd,Gz,Dv.depthD];omega
 | .tup ds=>by have:=fD ds;simp[pd,Gz,Dv.depthD];omega
 | .exn _=>by simp[pd,Gz,Dv.depthD]
 | .raw _=>by simp[pd,Gz,Dv.depthD]
 | .tab _=>by simp[pd,Gz,Dv.depthD]
 | .dct _ _=>by simp[pd,Gz,Dv.depthD]
 | .ins _ _=>by simp[pd,Gz,Dv.depthD]
theorem fD:∀ ds:List D,G5 (pdL ds)<=Dv.depthL ds
 | []=>by simp[pdL,G5,Dv.depthL]
 | d::r=>by have:=cF d;have:=fD r;simp[pdL,G5,Dv.depthL];omega
end
mutual
theorem ia:∀ (a b:D) (r:Bool),Dv.eqD a b=some r->Gu (pd a) (pd b)=r
 | .non,b,r,h=>by
  cases b with
  | non=>cases (show some true=some r from h);simp[pd,Gu]
  | _=>exact(nomatch (show (none:Option Bool)=some r from h))
 | .bl p,b,r,h=>by
  cases b with
  | bl q=>cases (show some (p == q)=some r from h);simp[pd,Gu]
  | _=>exact(nomatch (show (none:Option Bool)=some r from h))
 | .int p,b,r,h=>by
  cases b with
  | int q=>cases (show some (decide (p=q))=some r from h);simp[pd,Gu,EA]
  | _=>exact(nomatch (show (none:Option Bool)=some r from h))
 | .str p,b,r,h=>by
  cases b with
  | str q=>cases (show some (decide (Dv.clipS p=Dv.clipS q))=some r from h);simp[pd,Gu,EA]
  | _=>exact(nomatch (show (none:Option Bool)=some r from h))
 | .lst xs,b,r,h=>by
  cases b with
  | lst ys=>
   have h:Dv.eqDL xs ys=some r:=h;simp only[pd,Gu];exact l6 _ _ _ h
  | _=>exact(nomatch (show (none:Option Bool)=some r from h))
 | .tup xs,b,r,h=>by
  cases b with
  | tup ys=>
   have h:Dv.eqDL xs ys=some r:=h;simp only[pd,Gu];exact l6 _ _ _ h
  | _=>exact(nomatch (show (none:Option Bool)=some r from h))
 | .exn _,b,r,h=>by cases b <;>exact(nomatch (show (none:Option Bool)=some r from h))
 | .raw _,b,r,h=>by cases b <;>exact(nomatch (show (none:Option Bool)=some r from h))
 | .tab _,b,r,h=>by cases b <;>exact(nomatch (show (none:Option Bool)=some r from h))
 | .dct _ _,b,r,h=>by cases b <;>exact(nomatch (show (none:Option Bool)=some r from h))
theorem l6:∀ (a b:List D) (r:Bool),Dv.eqDL a b=some r->GZ (pdL a) (pdL b)=r
 | [],[],r,h=>by simp[Dv.eqDL] at h;subst h;simp[pdL,GZ]
 | [],_::_,r,h=>by simp[Dv.eqDL] at h;subst h;simp[pdL,GZ]
 | _::_,[],r,h=>by simp[Dv.eqDL] at h;subst h;simp[pdL,GZ]
 | x::xs,y::ys,r,h=>by
  simp only[Dv.eqDL] at h;cases h1:Dv.eqD x y with
  | none=>rw[h1] at h;cases h
  | some p=>
   cases h2:Dv.eqDL xs ys with
   | none=>rw[h1,h2] at h;cases h
   | some q=>
    rw[h1,h2] at h;cases h;simp only[pdL,GZ,ia x y p h1,l6 xs ys q h2]
end
mutual
theorem bQ {X:Cx}{pins:List (Addr×Obj)}{σ:St}{H:Hp}{s:Shared}(I:Inv X pins σ H s):∀ (d:D) (v:V) (u:Value),Rp X.K H d v->RelV v u->Dv.depthD d<=9->∃ as,Reads s.heap u (pd d) as
 | .non,v,u,h,r,_=>by unfold Rp at h;subst h;cases r;unfold pd;exact⟨_,.none⟩
 | .bl b,v,u,h,r,_=>by unfold Rp at h;subst h;cases r;unfold pd;exact⟨_,.bool b⟩
 | .int i,v,u,h,r,_=>by unfold Rp at h;subst h;obtain⟨t,rfl⟩:=r;unfold pd;exact⟨_,.int i t⟩
 | .str x,v,u,h,r,_=>by unfold Rp at h;subst h;obtain⟨t,rfl⟩:=r;unfold pd;exact⟨_,.str _ t⟩
 | .exn _,v,u,h,r,hd=>by unfold Dv.depthD at hd;omega
 | .raw _,v,u,h,r,hd=>by unfold Dv.depthD at hd;omega
 | .tab _,v,u,h,r,hd=>by unfold Dv.depthD at hd;omega
 | .dct _ _,v,u,h,r,hd=>by unfold Dv.depthD at hd;omega
 | .lst ds,v,u,h,r,hd=>by
  unfold Rp at h;unfold Dv.depthD at hd;obtain⟨a,vs,rfl,h1,h2⟩:=h;cases r;obtain⟨its,n,rv,e,_⟩:=Inv.listX I h1;obtain⟨as,ra⟩:=gP I ds vs its h2 rv ⋯;unfold pd;exact⟨_,.list e rfl rfl (by simpa using ra)⟩
 | .tup ds,v,u,h,r,hd'=>by
  unfold Rp at h;unfold Dv.depthD at hd';obtain⟨a,vs,rfl,h1,h2⟩:=h;cases r;obtain⟨_,its,rv,o,e,hc,n,hd⟩:=h1.ok I.hok;obtain⟨as,ra⟩:=gP I ds vs its h2 rv ⋯;unfold pd;exact⟨_,.tuple e hc hd (by simpa using ra)⟩
theorem gP {X:Cx}{pins:List (Addr×Obj)}{σ:St}{H:Hp}{s:Shared}(I:Inv X pins σ H s):∀ (ds:List D) (vs:List V) (us:List Value),RpL X.K H ds vs->Vals vs us->Dv.depthL ds<=9->∃ as,ReadsAll s.heap us (pdL ds) as
 | [],vs,us,h,r,_=>by unfold RpL at h;subst h;cases r;unfold pdL;exact⟨_,.nil⟩
 | d::ds,vs,us,h,r,hd=>by
  unfold RpL at h;unfold Dv.depthL at hd;obtain⟨v,ws,rfl,h1,h2⟩:=h;cases r with
  | cons r1 r2=>
   obtain⟨as,ra⟩:=bQ I d v _ h1 r1 ⋯;obtain⟨bs,rb⟩:=gP I ds ws _ h2 r2 ⋯;unfold pdL;exact⟨_,.cons ra rb⟩
end
def Cg (K:F5)(neg:Bool):R2:=λ x y H Q=>∃ d d' b,Rp K H d x/\Rp K H d' y/\Dv.depthD d<=9/\Dv.depthD d'<=9/\Dv.eqD d d'=some b/\Q (.bl (if neg then !b else b)) H
theorem A2 (hu:C.X.A.units+64<cLine):OpR C.X (compareOp .Eq) (Cg C.X.K false):=by
 intro pins s σ H x y v u Q I rx ry h;obtain⟨d,d',b,h1,h2,z1,z2,e,q⟩:=h;obtain⟨as,ra⟩:=bQ I d x v h1 rx z1;obtain⟨bs,rb⟩:=bQ I d' y u h2 ry z2;refine HK ra rb (cN d) (cN d') ?_ ⟨.bl b,H,I,?_,q⟩
 ·have:=cF d
  have:=cF d';have:=EJ (pd d).depth (pd d').depth;omega
 ·rw[ia _ _ _ e];rfl
theorem zB (hu:C.X.A.units+64<cLine):OpR C.X (compareOp .NotEq) (Cg C.X.K true):=by
 intro pins s σ H x y v u Q I rx ry h;obtain⟨d,d',b,h1,h2,z1,z2,e,q⟩:=h;obtain⟨as,ra⟩:=bQ I d x v h1 rx z1;obtain⟨bs,rb⟩:=bQ I d' y u h2 ry z2;refine SeqAt.compareNe_reads ra rb (cN d) (cN d') ?_ ⟨.bl (!b),H,I,?_,q⟩
 ·have:=cF d
  have:=cF d';have:=EJ (pd d).depth (pd d').depth;omega
 ·rw[ia _ _ _ e];rfl
theorem os_eq:OpS C (compareOp .Eq) (Dv.cmD .eq):=by
 refine⟨_,A2 C.un,λ x y d d' H Hv H1 Hv1 W Q e rx ry q=>?_⟩;simp only[Dv.cmD_eq,Dv.cmD_ne,Dv.cmD_lt,Dv.cmD_le,Dv.cmD_gt,Dv.cmD_ge,Dv.cmD_in,Dv.cmD_ni,Dv.cmD_it,Dv.cmD_nt] at q;by_cases hz:(decide (Dv.depthD d<=9)&&decide (Dv.depthD d'<=9))=true
 ·rw[if_pos hz] at q
  simp only[C3,decide_eq_true_eq] at hz;cases he:Dv.eqD d d' with
  | none=>rw[he] at q;exact Zf q
  | some b=>
   rw[he] at q;exact⟨d,d',b,rx.same e.vh,ry.same e.vh,hz.1,hz.2,he,Ok.at (d:=.bl b) (fr:=true) q e cn rfl⟩
 ·rw[if_neg hz] at q;exact Zf q
theorem yN:OpS C (compareOp .NotEq) (Dv.cmD .ne):=by
 refine⟨_,zB C.un,λ x y d d' H Hv H1 Hv1 W Q e rx ry q=>?_⟩;simp only[Dv.cmD_eq,Dv.cmD_ne,Dv.cmD_lt,Dv.cmD_le,Dv.cmD_gt,Dv.cmD_ge,Dv.cmD_in,Dv.cmD_ni,Dv.cmD_it,Dv.cmD_nt] at q;by_cases hz:(decide (Dv.depthD d<=9)&&decide (Dv.depthD d'<=9))=true
 ·rw[if_pos hz] at q
  simp only[C3,decide_eq_true_eq] at hz;cases he:Dv.eqD d d' with
  | none=>rw[he] at q;exact Zf q
  | some b=>
   rw[he] at q;exact⟨d,d',b,rx.same e.vh,ry.same e.vh,hz.1,hz.2,he,Ok.at (d:=.bl (!b)) (fr:=true) q e cn rfl⟩
 ·rw[if_neg hz] at q;exact Zf q
theorem l7:∀ (i:Int) (ds:List D) (vs:List V) (b:Bool) {K:F5} {H:Hp},Dv.inD i ds=some b->RpL K H ds vs->vs.all fO=true/\inV (.int i) vs=b
 | i,[],vs,b,K,H,h,r=>by
  unfold RpL at r;subst r;simp[Dv.inD] at h;subst h;exact⟨rfl,rfl⟩
 | i,d::ds,vs,b,K,H,h,r=>by
  unfold RpL at r;obtain⟨v,ws,rfl,h1,h2⟩:=r;cases d with
  | int j=>
   simp only[Dv.inD,Eg] at h;obtain⟨c,hc,rfl⟩:=h;obtain⟨z1,z2⟩:=l7 i ds ws c hc h2;unfold Rp at h1;subst h1;refine⟨by simp[fO,z1],?_⟩;have:inV (.int i) (.int j::ws)=(eqV (.int j) (.int i) || inV (.int i) ws):=rfl;rw[this,z2];show ((j == i) || c)=(decide (j=i) || c)
   rw[EA]
  | _=>simp[Dv.inD] at h
theorem BR:OpS C (compareOp .In) (Dv.cmD .isin):=by
 refine⟨_,tm,λ x y d d' H Hv H1 Hv1 W Q e rx ry q=>?_⟩;cases d with
 | int i=>
  cases d' with
  | lst ds=>
   simp only[Dv.cmD_eq,Dv.cmD_ne,Dv.cmD_lt,Dv.cmD_le,Dv.cmD_gt,Dv.cmD_ge,Dv.cmD_in,Dv.cmD_ni,Dv.cmD_it,Dv.cmD_nt] at q;cases hi:Dv.inD i ds with
   | none=>rw[hi] at q;exact Zf q
   | some b=>
    rw[hi] at q;unfold Rp at rx ry;subst rx;obtain⟨l,vs,rfl,h1,h2⟩:=ry;obtain⟨z1,z2⟩:=l7 i ds vs b hi h2;refine⟨l,vs,rfl,.inl (h1.same e.vh).seq,rfl,z1,?_⟩;rw[z2];exact Ok.at (d:=.bl b) (fr:=true) q e cn rfl
  | _=>exact Zf q
 | _=>exact Zf q
theorem vV:OpS C (compareOp .NotIn) (Dv.cmD .notin):=by
 refine⟨_,lB,λ x y d d' H Hv H1 Hv1 W Q e rx ry q=>?_⟩;cases d with
 | int i=>
  cases d' with
  | lst ds=>
   simp only[Dv.cmD_eq,Dv.cmD_ne,Dv.cmD_lt,Dv.cmD_le,Dv.cmD_gt,Dv.cmD_ge,Dv.cmD_in,Dv.cmD_ni,Dv.cmD_it,Dv.cmD_nt] at q;cases hi:Dv.inD i ds with
   | none=>rw[hi] at q;exact Zf q
   | some b=>
    rw[hi] at q;unfold Rp at rx ry;subst rx;obtain⟨l,vs,rfl,h1,h2⟩:=ry;obtain⟨z1,z2⟩:=l7 i ds vs b hi h2;refine⟨l,vs,rfl,.inl (h1.same e.vh).seq,rfl,z1,?_⟩;rw[z2];exact Ok.at (d:=.bl (!b)) (fr:=true) q e cn rfl
  | _=>exact Zf q
 | _=>exact Zf q
theorem ja {ds:List D}{vs:List V}{K:F5}{H:Hp}{i:Int}{d:D}(r:RpL K H ds vs)(h:Dv.at? ds i=some d):∃ v,atI vs i=some v/\Rp K H d v:=by
 unfold Dv.at? at h;unfold atI ixN;have hl:=r.length;by_cases h0:0<=i
 ·rw[if_pos h0] at h
  obtain⟨v,h1,h2⟩:=r.get h;have hlt:i.toNat<vs.length:=(List.getElem?_eq_some_iff.mp h1).1;refine⟨v,?_,h2⟩;rw[if_pos h0,if_pos ⋯];exact h1
 ·rw[if_neg h0] at h
  by_cases h1:-(ds.length:Int)<=i
  ·rw[if_pos h1] at h
   obtain⟨v,h2,h3⟩:=r.get h;refine⟨v,?_,h3⟩;rw[if_neg h0,if_pos ⋯];rw[hl];exact h2
  ·rw[if_neg h1] at h;cases h
theorem qQ {K:F5}{H Hv H2 Hv2:Hp}{ds:List D}{v:V}{fr:Bool}{k:Int}{d:D}(x:Ext Hv H Hv2 H2)(hk:Dv.at? ds k=some d):
  (Rp K Hv2 (.lst ds) v->(fr=true->Rp [] (Hnew H H2) (.lst ds) v)->∃ l vs u,v=.ref l/\SqX K H2 l vs/\atI vs k=some u/\Rp K Hv2 d u/\((fr || Dv.scal d)=true->Rp [] (Hnew H H2) d u)) /\
  (Rp K Hv2 (.tup ds) v->(fr=true->Rp [] (Hnew H H2) (.tup ds) v)->∃ l vs u,v=.ref l/\Rd H2 l (.tup vs)/\atI vs k=some u/\Rp K Hv2 d u/\((fr || Dv.scal d)=true->Rp [] (Hnew H H2) d u)):=by
 constructor
 ·intro rp n
  cases fr with
  | true=>
   have rn:=n rfl;unfold Rp at rn;obtain⟨l,vs,rfl,h1,h2⟩:=rn;obtain⟨u,h3,h4⟩:=ja h2 hk;refine⟨l,vs,u,rfl,?_,h3,(Rp.frag h4).same x.news,λ _=>h4⟩
   rcases h1 with h1|⟨its,n,e,_⟩
   ·exact .inl (Rd.same Hnew.sub h1)
   ·simp at e
  | false=>
   unfold Rp at rp;obtain⟨l,vs,rfl,h1,h2⟩:=rp;obtain⟨u,h3,h4⟩:=ja h2 hk;exact⟨l,vs,u,rfl,h1.same x.vh,h3,h4,λ z=>h4.scal (by simpa using z)⟩
 ·intro rp n
  cases fr with
  | true=>
   have rn:=n rfl;unfold Rp at rn;obtain⟨l,vs,rfl,h1,h2⟩:=rn;obtain⟨u,h3,h4⟩:=ja h2 hk;exact⟨l,vs,u,rfl,Rd.same Hnew.sub h1,h3,(Rp.frag h4).same x.news,λ _=>h4⟩
  | false=>
   unfold Rp at rp;obtain⟨l,vs,rfl,h1,h2⟩:=rp;obtain⟨u,h3,h4⟩:=ja h2 hk;exact⟨l,vs,u,rfl,Rd.same x.vh h1,h3,h4,λ z=>h4.scal (by simpa using z)⟩
theorem bF (ha:SE C a f)(hb:SE C b g)(hs:autoParam (qI b) ZK._auto_1):SE C (.Subscript a b pos) (Dv.eIx f g):=by
 obtain⟨ta,pa,qa⟩:=ha;obtain⟨tb,pb,qb⟩:=hb;refine⟨_,vn (ix_list.or zt) pa pb hs,λ σ H Hv ρ Q e s w=>?_⟩;refine qa.step e (.refl s) w λ v d fr Hv1 H1 _ x1 _ rp1 n1 q1=>qb.step e x1 q1 λ v2 d2 fr2 Hv2 H2 _ x2 y2 rp2 _ q2=>?_
 have rp:=rp1.same y2.vv;have rn:fr=true->Rp [] (Hnew H H2) d v:=λ z=>(n1 z).same (Hnew.mono (.refl _) y2.hh)
 cases d2 with
 | int k=>
  unfold Rp at rp2;cases d with
  | lst ds=>
   have q3:Ok C.X.K Hv H (C.W σ) C.cls (match Dv.at? ds k with|some d=>.ok d (fr || Dv.scal d)|none=>.bad) Q:=q2;cases hk:Dv.at? ds k with
   | none=>rw[hk] at q3;exact Zf q3
   | some d=>
    rw[hk] at q3;obtain⟨l,vs,u,e1,h1,h2,h3,h4⟩:=(qQ (fr:=fr) x2 hk).1 rp rn;exact .inl ⟨l,vs,k,u,e1,rp2,h1.seq,h2,q3 u Hv2 H2 x2 h3 h4⟩
  | tup ds=>
   have q3:Ok C.X.K Hv H (C.W σ) C.cls (match Dv.at? ds k with|some d=>.ok d (fr || Dv.scal d)|none=>.bad) Q:=q2;cases hk:Dv.at? ds k with
   | none=>rw[hk] at q3;exact Zf q3
   | some d=>
    rw[hk] at q3;obtain⟨l,vs,u,e1,h1,h2,h3,h4⟩:=(qQ (fr:=fr) x2 hk).2 rp rn;exact .inr ⟨l,vs,k,u,e1,rp2,.inl h1,h2,q3 u Hv2 H2 x2 h3 h4⟩
  | _=>exact Zf q2
 | _=>cases d <;>exact Zf q2
def C1S (C:Ctx)(fv:Value)(F:D->Bool->R):Prop:=
 ∃ r,dY C.X fv r/\∀ x d fr H Hv H1 Hv1 W Q,Ext Hv H Hv1 H1->Rp C.X.K Hv1 d x->(fr=true->Rp [] (Hnew H H1) d x)->Ok C.X.K Hv H W C.cls (F d fr) Q->r [x] H1 Q
theorem pY {x:Str}{p:Pos}{id:String}{F:D->Bool->R}(o:C1S C (.builtin id) F)(hg:Gl C.X x)(hm:C.X.mg x=none)(hv:bootBuiltins x=some (.builtin id))(ha:SE C a f)
  (hn:autoParam (x≠"__name__") ZC._auto_1) (hdb:autoParam ((x == ("__debug__":Str))=false) ZC._auto_1) (he:autoParam (starEach [a] C.X.env=[(false,eval a C.X.env)]) ZF._auto_1):SE C (.Call (.Name x p) [a] [] pos) (Dv.eB1 F f):=by
 obtain⟨r,ho,hr⟩:=o;obtain⟨t,pa,qa⟩:=ha;refine⟨_,b8 ho hg hm hv (av pa aF he) hn hdb he rfl,λ σ H Hv ρ Q e s w=>?_⟩;exact qa.step e (.refl s) w λ v d fr Hv1 H1 _ x1 _ rp1 n1 q1=>hr v d fr H Hv H1 Hv1 _ Q x1 rp1 n1 q1
theorem zd {x:Str}{p:Pos}{id:String}{F:D->Bool->R}(o:C1S C (.type id) F)(hg:Gl C.X x)(hm:C.X.mg x=none)(hv:bootBuiltins x=some (.type id))(ha:SE C a f)
  (hn:autoParam (x≠"__name__") ZC._auto_1) (hdb:autoParam ((x == ("__debug__":Str))=false) ZC._auto_1) (he:autoParam (starEach [a] C.X.env=[(false,eval a C.X.env)]) ZF._auto_1):SE C (.Call (.Name x p) [a] [] pos) (Dv.eB1 F f):=by
 obtain⟨r,ho,hr⟩:=o;obtain⟨t,pa,qa⟩:=ha;refine⟨_,tM ho hg hm hv (av pa aF he) hn hdb he rfl,λ σ H Hv ρ Q e s w=>?_⟩;exact qa.step e (.refl s) w λ v d fr Hv1 H1 _ x1 _ rp1 n1 q1=>hr v d fr H Hv H1 Hv1 _ Q x1 rp1 n1 q1
theorem AO:C1S C (.builtin "len") Dv.lenD:=by
 refine⟨_,bT,λ x d fr H Hv H1 Hv1 W Q e rx n q=>?_⟩;cases d with
 | lst ds=>
  unfold Rp at rx;obtain⟨l,vs,rfl,h1,h2⟩:=rx;refine⟨l,vs,rfl,.inl (h1.same e.vh).seq,?_⟩;rw[h2.length];exact Ok.at (d:=.int ds.length) (fr:=true) q e bK rfl
 | tup ds=>
  unfold Rp at rx;obtain⟨l,vs,rfl,h1,h2⟩:=rx;refine⟨l,vs,rfl,.inr (.inl (Rd.same e.vh h1)),?_⟩;rw[h2.length];exact Ok.at (d:=.int ds.length) (fr:=true) q e bK rfl
 | _=>exact Zf q
theorem xX:C1S C (.type "list") Dv.listD:=by
 refine⟨_,lp,λ x d fr H Hv H1 Hv1 W Q e rx n q=>?_⟩;cases d with
 | lst ds=>
  cases fr with
  | true=>
   have rn:=n rfl;unfold Rp at rn;obtain⟨l,vs,rfl,h1,h2⟩:=rn;have h1':SqX C.X.K H1 l vs:=by
    rcases h1 with h1|⟨its,n,e,_⟩
    ·exact .inl (Rd.same Hnew.sub h1)
    ·simp at e
   exact⟨l,vs,rfl,.inl h1'.seq,λ p hp=>Ok.newL q e ((RpL.frag h2).same e.news) (λ _=>h2) p hp⟩
  | false=>
   unfold Rp at rx;obtain⟨l,vs,rfl,h1,h2⟩:=rx;exact⟨l,vs,rfl,.inl (h1.same e.vh).seq,λ p hp=>Ok.newL q e h2 (λ z=>h2.flat (by simpa using z)) p hp⟩
 | tup ds=>
  cases fr with
  | true=>
   have rn:=n rfl;unfold Rp at rn;obtain⟨l,vs,rfl,h1,h2⟩:=rn;exact⟨l,vs,rfl,.inr (.inl (Rd.same Hnew.sub h1)),λ p hp=>Ok.newL q e ((RpL.frag h2).same e.news) (λ _=>h2) p hp⟩
  | false=>
   unfold Rp at rx;obtain⟨l,vs,rfl,h1,h2⟩:=rx;exact⟨l,vs,rfl,.inr (.inl (Rd.same e.vh h1)),λ p hp=>Ok.newL q e h2 (λ z=>h2.flat (by simpa using z)) p hp⟩
 | _=>exact Zf q
theorem c9 (i:Int):∀ l:List Int,(Dv.ins i l).Perm (i::l)
 | []=>.refl _
 | j::r=>by
  unfold Dv.ins
  split
  ·exact .refl _
  ·exact((c9 i r).cons j).trans (.swap i j r)
theorem aJ:∀ l:List Int,(Dv.isort l).Perm l
 | []=>.refl _
 | i::r=>(c9 i _).trans ((aJ r).cons i)
theorem dk (i:Int):∀ l:List Int,l.Pairwise (·<=·)->(Dv.ins i l).Pairwise (·<=·)
 | [],_=>by simp[Dv.ins]
 | j::r,h=>by
  unfold Dv.ins
  split
  ·rename_i hij
   refine List.pairwise_cons.mpr ⟨λ x hx=>?_,h⟩
   rcases List.mem_cons.mp hx with rfl|hx
   ·exact hij
   ·exact Int.le_trans hij ((List.pairwise_cons.mp h).1 x hx)
  ·rename_i hij
   refine List.pairwise_cons.mpr ⟨λ x hx=>?_,dk i r (List.pairwise_cons.mp h).2⟩
   rcases List.mem_cons.mp ((c9 i r).mem_iff.mp hx) with rfl|hx
   ·omega
   ·exact(List.pairwise_cons.mp h).1 x hx
theorem bp:∀ l:List Int,(Dv.isort l).Pairwise (·<=·)
 | []=>.nil
 | i::r=>dk i _ (bp r)
theorem b7:∀ {a b:List Int},a.Perm b->a.Pairwise (·<=·)->b.Pairwise (·<=·)->a=b
 | [],b,p,_,_=>by simpa using p.symm.eq_nil
 | x::a,[],p,_,_=>absurd p.eq_nil (by simp)
 | x::a,y::b,p,ha,hb=>by
  have h1:=List.pairwise_cons.mp ha;have h2:=List.pairwise_cons.mp hb;have e:x=y:=by
   have hx:x∈y::b:=p.mem_iff.mp CS;have hy:y∈x::a:=p.mem_iff.mpr CS
   rcases List.mem_cons.mp hx with e|hx
   ·exact e
   rcases List.mem_cons.mp hy with e|hy
   ·exact e.symm
   exact FQ (h1.1 y hy) (h2.1 x hx)
  subst e;rw[b7 ((FU x).mp p) h1.2 h2.2]
theorem k9 {vs:List Value}{ns:List Int}(h:IntsAre vs ns):Vals (ns.map V.int) vs:=by
 induction h with
 | nil=>exact .nil
 | cons n t _ ih=>exact .cons ⟨t,rfl⟩ ih
theorem nA {X:Cx}:dY X (.builtin "sorted") (λ xs H Q=>∃ p ns,xs=[.ref p]/\SqX X.K H p (ns.map V.int)/\ns.length<64/\∀ l,H l=none->Q (.ref l) (upd H l (.lst ((Dv.isort ns).map V.int)))):=by
 intro pins s σ H xs us Q I r h;obtain⟨p,ns,rfl,hq,h64,q⟩:=h;obtain⟨u,rfl,rx⟩:=vals1 r;cases rx;obtain⟨its,n,rv,e,z⟩:=Inv.listX I hq;have hi:=intsAre_of rv;have hl:=rv.length;rw[CY] at hl;refine sorted_ints (ns:=ns) ⟨_,e,rfl,n,rfl⟩ hi ⋯ λ out ns' a1 a2 a3=>?_
 have e1:ns'=Dv.isort ns:=b7 (a2.trans (aJ ns).symm) a3 (bp ns);subst e1;obtain⟨ep,hat⟩:=sortedAll_at s.heap its out;have hf:H (s.heap.objs.size+1)=none:=I.hok.fresh (Fi _);refine⟨.ref (s.heap.objs.size+1),_,I.laid (t':=s.toks) (o:=.lst ((Dv.isort ns).map V.int)) (λ b u q=>sortedAll_old q) (Fi _) ?_,rfl,q _ hf⟩;refine⟨?_,out.toList,ep,k9 a1,by simpa[seqObj] using hat⟩;rw[CY,(aJ ns).length_eq];rw[GC];omega
theorem rG:C1S C (.builtin "sorted") Dv.sortedD:=by
 refine⟨_,nA,λ x d fr H Hv H1 Hv1 W Q e rx n q=>?_⟩;cases d with
 | lst ds=>
  simp only[Dv.sortedD] at q;cases hi:Dv.intsOf ds with
  | none=>rw[hi] at q;exact Zf q
  | some ns=>
   rw[hi] at q;by_cases h64:ns.length<64
   ·simp only[h64,if_true] at q
    unfold Rp at rx;obtain⟨l,vs,rfl,h1,h2⟩:=rx;have e1:=RpL.ints hi h2;subst e1;exact⟨l,ns,rfl,h1.same e.vh,h64,λ p hp=>Ok.newL q e (RpL.ofInts _) (λ _=>RpL.ofInts _) p hp⟩
   ·simp only[h64,if_false] at q
    exact Zf q
 | _=>exact Zf q
end
open Dv (D R RL EE EL EI RI Sl Out SS)
def Nd (K:F5)(Hc:Hp):D->HO->Prop
 | .lst ds,o=>∃ vs,o=.lst vs/\RpL K Hc ds vs
 | .dct ks ds,o=>∃ vs,o=.dK ((ks.map Sum.inl).zip vs)/\ks.length=ds.length/\RpL K Hc ds vs
 | _,_=>False
theorem Nd.same {K:F5}{H H':Hp}{d:D}{o:HO}(e:Same H H')(h:Nd K H d o):Nd K H' d o:=by
 cases d with
 | lst ds=>obtain⟨vs,h1,h2⟩:=h;exact⟨vs,h1,h2.same e⟩
 | dct ks ds=>obtain⟨vs,h1,h2,h3⟩:=h;exact⟨vs,h1,h2,h3.same e⟩
 | _=>exact Zf h
theorem Nd.rp {K:F5}{H:Hp}{d:D}{o:HO}{a:Addr}(h:Nd K H d o)(ha:H a=some o):Rp K H d (.ref a):=by
 cases d with
 | lst ds=>obtain⟨vs,rfl,h2⟩:=h;unfold Rp;exact⟨a,vs,rfl,SqX.of ha,h2⟩
 | dct ks ds=>obtain⟨vs,rfl,h2,h3⟩:=h;unfold Rp;exact⟨a,vs,rfl,h2,.inl ha,h3⟩
 | _=>exact Zf h
def Jk (R:Hp)(n m:Nat)(v:V):Prop:=∃ t vs,v=.ref t/\(R t=some (.lst vs)\/R t=some (.tup vs))/\vs.length=n/\∀ x∈vs,∃ b ws,x=.ref b/\b≠t/\R b=some (.lst ws)/\ws.length<=m
structure RelC (K:F5)(Hv₀ H₀ Hc:Hp)(O:Nat->Hp)(st:Dv.St)(σ:St)(H:Hp):Prop where
 h0:Same H₀ H
 vc:Same Hv₀ Hc
 ch:Same Hc H
 new:∀ b o,Hc b=some o->Hv₀ b=none->H₀ b=none
 nf:∀ b o u,H₀ b=none->H b≠some (.frz o u)
 len:st.length=σ.length
 sh:∀ (i:Nat) (d:D),st[i]?=some (Sl.sh d)->∃ v,σ[i]?=some (some v)/\Rp K Hc d v
 ow:∀ (i:Nat) (d:D),st[i]?=some (Sl.ow d)->∃ (a:Addr) (o:HO),σ[i]?=some (some (V.ref a))/\O i a=some o/\Nd K Hc d o
 dp:∀ (i:Nat) (d:D),st[i]?=some (Sl.dp d)->∃ v,σ[i]?=some (some v)/\Rp [] (O i) d v
 jk:∀ (i n m:Nat),st[i]?=some (Sl.jk n m)->∃ v,σ[i]?=some (some v)/\Jk (O i) n m v
 oh:∀ (i:Nat) (b:Addr) (o:HO),O i b=some o->H b=some o/\Hc b=none/\H₀ b=none
 one:∀ (i j:Nat) (b:Addr) (o o':HO),O i b=some o->O j b=some o'->i=j
def Rel (K:F5)(Hv₀ H₀:Hp)(st:Dv.St)(σ:St)(H:Hp):Prop:=∃ Hc O,RelC K Hv₀ H₀ Hc O st σ H
section
variable {K:F5}{Hv₀ H₀ Hc:Hp}{O:Nat->Hp}{st:Dv.St}{σ:St}{H:Hp}
theorem RelC.less {Hv1:Hp}(r:RelC K Hc H₀ Hv1 O st σ H)(vc:Same Hv₀ Hc)(new:∀ b o,Hc b=some o->Hv₀ b=none->H₀ b=none):RelC K Hv₀ H₀ Hv1 O st σ H:=
 ⟨r.h0,vc.trans r.vc,r.ch,λ b o h n=>(by
  cases q:Hc b with
  | some u=>exact new b u q n
  | none=>exact r.new b o h q),r.nf,r.len,r.sh,r.ow,r.dp,r.jk,r.oh,r.one⟩
def xG (O:Nat->Hp)(b:Addr):Prop:=∃ (i:Nat) (o:HO),O i b=some o
open Classical in
def ff (Hc:Hp)(O:Nat->Hp)(H:Hp):Hp:=λ b=>if xG O b then H b else Hc b
theorem RelC.cAll (r:RelC K Hv₀ H₀ Hc O st σ H):Same Hc (ff Hc O H):=λ b o h=>by
 unfold ff;by_cases q:xG O b
 ·obtain⟨i,u,h1⟩:=q
  rw[(r.oh i b u h1).2.1] at h;cases h
 ·rw[if_neg q];exact h
theorem RelC.oAll (r:RelC K Hv₀ H₀ Hc O st σ H)(i:Nat):Same (O i) (ff Hc O H):=λ b o h=>by
 unfold ff;rw[if_pos ⟨i,o,h⟩];exact(r.oh i b o h).1
theorem RelC.allH (r:RelC K Hv₀ H₀ Hc O st σ H):Same (ff Hc O H) H:=λ b o h=>by
 unfold ff at h;by_cases q:xG O b
 ·rw[if_pos q] at h;exact h
 ·rw[if_neg q] at h;exact r.ch b o h
theorem RelC.allNew (r:RelC K Hv₀ H₀ Hc O st σ H):∀ b o,ff Hc O H b=some o->Hv₀ b=none->H₀ b=none:=λ b o h n=>by
 unfold ff at h;by_cases q:xG O b
 ·obtain⟨i,u,h1⟩:=q
  exact(r.oh i b u h1).2.2
 ·rw[if_neg q] at h;exact r.new b o h n
theorem xE {i:Nat}{d:D}(h:(Dv.all st)[i]?=some (some d)):st[i]?=some (.sh d)\/st[i]?=some (.ow d)\/st[i]?=some (.dp d):=by
 unfold Dv.all at h;rw[Dc] at h;cases q:st[i]? with
 | none=>rw[q] at h;cases h
 | some s=>
  rw[q] at h;cases s with
  | no=>cases h
  | sh x=>cases h;exact .inl rfl
  | ow x=>cases h;exact .inr (.inl rfl)
  | dp x=>cases h;exact .inr (.inr rfl)
  | jk n m=>cases h
theorem get_open {i:Nat}{d:D}(h:(Dv.open_ st)[i]?=some (some d)):st[i]?=some (.sh d):=by
 unfold Dv.open_ at h;rw[Dc] at h;cases q:st[i]? with
 | none=>rw[q] at h;cases h
 | some s=>
  rw[q] at h;cases s with
  | sh x=>cases h;rfl
  | _=>cases h
theorem RelC.envAll (r:RelC K Hv₀ H₀ Hc O st σ H):EnvR K (ff Hc O H) (Dv.all st) σ:=λ i d h=>by
 rcases xE h with h|h|h
 ·obtain⟨v,h1,h2⟩:=r.sh i d h
  exact⟨v,h1,h2.same r.cAll⟩
 ·obtain⟨a,o,h1,h2,h3⟩:=r.ow i d h
  exact⟨_,h1,(h3.same r.cAll).rp (r.oAll i a o h2)⟩
 ·obtain⟨v,h1,h2⟩:=r.dp i d h
  exact⟨v,h1,Rp.frag (h2.same (r.oAll i))⟩
theorem RelC.envOpen (r:RelC K Hv₀ H₀ Hc O st σ H):EnvR K Hc (Dv.open_ st) σ:=λ i d h=>r.sh i d (get_open h)
theorem RelC.grow {H':Hp}(r:RelC K Hv₀ H₀ Hc O st σ H)(hh:Same H H')(nf:∀ b o u,H b=none->H' b≠some (.frz o u)):RelC K Hv₀ H₀ Hc O st σ H':=
 ⟨r.h0.trans hh,r.vc,r.ch.trans hh,r.new,λ b o u h=>(by
  cases q:H b with
  | none=>exact nf b o u q
  | some w=>rw[hh b w q,<- q];exact r.nf b o u h),r.len,r.sh,r.ow,r.dp,r.jk,λ i b o h=>⟨hh _ _ (r.oh i b o h).1,(r.oh i b o h).2⟩,r.one⟩
theorem RelC.growC {Hc' H':Hp}(r:RelC K Hv₀ H₀ Hc O st σ H)(x:Ext Hc H Hc' H'):RelC K Hv₀ H₀ Hc' O st σ H':=by
 have g:=r.grow x.hh x.nf;refine⟨g.h0,r.vc.trans x.vv,x.vh,λ b o h n=>?_,g.nf,g.len,λ i d h=>?_,λ i d h=>?_,r.dp,r.jk,λ i b o h=>?_,g.one⟩
 ·cases q:Hc b with
  | some u=>exact r.new b u q n
  | none=>exact r.h0.free (x.new b o h q)
 ·obtain⟨v,h1,h2⟩:=r.sh i d h
  exact⟨v,h1,h2.same x.vv⟩
 ·obtain⟨a,o,h1,h2,h3⟩:=r.ow i d h
  exact⟨a,o,h1,h2,h3.same x.vv⟩
 ·obtain⟨h1,h2,h3⟩:=r.oh i b o h
  refine⟨x.hh _ _ h1,?_,h3⟩;cases q:Hc' b with
  | none=>rfl
  | some u=>
   have:=x.new b u q h2;rw[this] at h1;cases h1
theorem dD {α:Type}{l:List α}{i j:Nat}{x y:α}(h:(l.set i x)[j]?=some y):(j=i/\y=x/\i<l.length)\/(j≠i/\l[j]?=some y):=by
 by_cases e:j=i
 ·subst e
  by_cases hl:j<l.length
  ·rw[Dp hl] at h
   exact .inl ⟨rfl,(Option.some.inj h).symm,hl⟩
  ·rw[Dm (by rw[Dk];omega)] at h
   cases h
 ·rw[DB (Ne.symm e)] at h
  exact .inr ⟨e,h⟩
theorem RelC.setAny {i:Nat}{s:Sl}{v:Option V}{H':Hp}{O':Nat->Hp}(r:RelC K Hv₀ H₀ Hc O st σ H)(h0:Same H₀ H')(ch:Same Hc H')(nf:∀ b o u,H₀ b=none->H' b≠some (.frz o u))(hO:∀ j,j≠i->O' j=O j)
  (sh:∀ d,s=.sh d->∃ w,v=some w/\Rp K Hc d w) (ow:∀ d,s=.ow d->∃ a o,v=some (.ref a)/\O' i a=some o/\Nd K Hc d o) (dp:∀ d,s=.dp d->∃ w,v=some w/\Rp [] (O' i) d w) (jk:∀ n m,s=.jk n m->∃ w,v=some w/\Jk (O' i) n m w)
  (oh:∀ j b o,O' j b=some o->H' b=some o/\Hc b=none/\H₀ b=none) (one:∀ j b o o',O' i b=some o->j≠i->O j b≠some o'):RelC K Hv₀ H₀ Hc O' (st.set i s) (σ.set i v) H':=by
 have at_:∀ {j:Nat},j=i->i<st.length->(σ.set i v)[j]?=some v:=λ {j} e hl=>by subst e;exact Dp (by rw[<- r.len];exact hl)
 have no:∀ {j:Nat},j≠i->(σ.set i v)[j]?=σ[j]?:=λ hj=>DB (Ne.symm hj)
 refine⟨h0,r.vc,ch,r.new,nf,by rw[Dk,Dk];exact r.len,λ j x h=>?_,λ j x h=>?_,λ j x h=>?_,λ j n m h=>?_,oh,λ j k b o o' h1 h2=>?_⟩
 ·rcases dD h with ⟨e,e2,hl⟩|⟨hj,h⟩
  ·obtain⟨w,e3,rp⟩:=sh x e2.symm
   exact⟨w,by rw[at_ e hl,e3],rp⟩
  ·obtain⟨u,h1,h2⟩:=r.sh j x h
   exact⟨u,by rw[no hj];exact h1,h2⟩
 ·rcases dD h with ⟨e,e2,hl⟩|⟨hj,h⟩
  ·obtain⟨a,o,e3,e4,rp⟩:=ow x e2.symm
   exact⟨a,o,by rw[at_ e hl,e3],by rw[e];exact e4,rp⟩
  ·obtain⟨a,o,h1,h2,h3⟩:=r.ow j x h
   exact⟨a,o,by rw[no hj];exact h1,by rw[hO j hj];exact h2,h3⟩
 ·rcases dD h with ⟨e,e2,hl⟩|⟨hj,h⟩
  ·obtain⟨w,e3,rp⟩:=dp x e2.symm
   exact⟨w,by rw[at_ e hl,e3],by rw[e];exact rp⟩
  ·obtain⟨u,h1,h2⟩:=r.dp j x h
   exact⟨u,by rw[no hj];exact h1,by rw[hO j hj];exact h2⟩
 ·rcases dD h with ⟨e,e2,hl⟩|⟨hj,h⟩
  ·obtain⟨w,e3,rp⟩:=jk n m e2.symm
   exact⟨w,by rw[at_ e hl,e3],by rw[e];exact rp⟩
  ·obtain⟨u,h1,h2⟩:=r.jk j n m h
   exact⟨u,by rw[no hj];exact h1,by rw[hO j hj];exact h2⟩
 ·by_cases e1:j=i
  ·by_cases e2:k=i
   ·rw[e1,e2]
   ·rw[e1] at h1;rw[hO k e2] at h2;exact absurd h2 (one k b o o' h1 e2)
  ·by_cases e2:k=i
   ·rw[e2] at h2;rw[hO j e1] at h1;exact absurd h1 (one j b o' o h2 e1)
   ·rw[hO j e1] at h1;rw[hO k e2] at h2;exact r.one j k b o o' h1 h2
theorem RelC.setSh {i:Nat}{d:D}{v:V}(r:RelC K Hv₀ H₀ Hc O st σ H)(rp:Rp K Hc d v):RelC K Hv₀ H₀ Hc O (st.set i (.sh d)) (σ.set i (some v)) H:=
 r.setAny r.h0 r.ch r.nf (λ _ _=>rfl) (λ x e=>by cases e;exact⟨v,rfl,rp⟩) (λ x e=>nomatch e) (λ x e=>nomatch e) (λ n m e=>nomatch e) r.oh λ j b o o' h hj h2=>hj (r.one j i b o' o h2 h)
theorem RelC.setNo {i:Nat}{v:Option V}(r:RelC K Hv₀ H₀ Hc O st σ H):RelC K Hv₀ H₀ Hc O (st.set i .no) (σ.set i v) H:=
 r.setAny r.h0 r.ch r.nf (λ _ _=>rfl) (λ x e=>nomatch e) (λ x e=>nomatch e) (λ x e=>nomatch e) (λ n m e=>nomatch e) r.oh λ j b o o' h hj h2=>hj (r.one j i b o' o h2 h)
def iF (O:Nat->Hp)(i:Nat)(R:Hp):Nat->Hp:=λ j=>if j=i then R else O j
theorem aT {R:Hp}{i:Nat}:iF O i R i=R:=if_pos rfl
theorem bw {R:Hp}{i j:Nat}(h:j≠i):iF O i R j=O j:=if_neg h
def only (a:Addr)(o:HO):Hp:=λ b=>if b=a then some o else none
theorem sU {a:Addr}{o:HO}:only a o a=some o:=if_pos rfl
theorem qA {a b:Addr}{o u:HO}(h:only a o b=some u):b=a/\u=o:=by
 unfold only at h;by_cases e:b=a
 ·rw[if_pos e] at h;exact⟨e,(Option.some.inj h).symm⟩
 ·rw[if_neg e] at h;cases h
theorem RelC.setOw {i:Nat}{d:D}{o:HO}{a:Addr}(r:RelC K Hv₀ H₀ Hc O st σ H)(ha:H a=some o)(hc:Hc a=none)(h0:H₀ a=none)(no:∀ j,j≠i->O j a=none)
  (nd:Nd K Hc d o):RelC K Hv₀ H₀ Hc (iF O i (only a o)) (st.set i (.ow d)) (σ.set i (some (.ref a))) H:=
 r.setAny r.h0 r.ch r.nf (λ j hj=>bw hj) (λ x e=>nomatch e) (λ x e=>by cases e;exact⟨a,o,rfl,by rw[aT];exact sU,nd⟩) (λ x e=>nomatch e) (λ n m e=>nomatch e)
  (λ j b u h=>by
   by_cases hj:j=i
   ·rw[hj,aT] at h
    obtain⟨rfl,rfl⟩:=qA h;exact⟨ha,hc,h0⟩
   ·rw[bw hj] at h;exact r.oh j b u h)
  λ j b u u' h hj h2=>by
   rw[aT] at h;obtain⟨rfl,rfl⟩:=qA h;rw[no j hj] at h2;cases h2
theorem RelC.setDp {i:Nat}{d:D}{v:V}{R:Hp}(r:RelC K Hv₀ H₀ Hc O st σ H)(hR:∀ b o,R b=some o->H b=some o/\Hc b=none/\H₀ b=none/\∀ j,j≠i->O j b=none)
  (rp:Rp [] R d v):RelC K Hv₀ H₀ Hc (iF O i R) (st.set i (.dp d)) (σ.set i (some v)) H:=
 r.setAny r.h0 r.ch r.nf (λ j hj=>bw hj) (λ x e=>nomatch e) (λ x e=>nomatch e) (λ x e=>by cases e;exact⟨v,rfl,by rw[aT];exact rp⟩) (λ n m e=>nomatch e)
  (λ j b u h=>by
   by_cases hj:j=i
   ·rw[hj,aT] at h
    exact⟨(hR b u h).1,(hR b u h).2.1,(hR b u h).2.2.1⟩
   ·rw[bw hj] at h;exact r.oh j b u h)
  λ j b u u' h hj h2=>by
   rw[aT] at h;rw[(hR b u h).2.2.2 j hj] at h2;cases h2
theorem iW {α:Type}{l:List α}{i:Nat}{x:α}(h:l[i]?=some x):l.set i x=l:=by
 refine El λ j=>?_
 by_cases hj:j=i
 ·subst hj;rw[Dp (List.getElem?_eq_some_iff.mp h).1,h]
 ·rw[DB (Ne.symm hj)]
theorem RelC.putAny {i:Nat}{s:Sl}{v:V}{a:Addr}{u o:HO}(r:RelC K Hv₀ H₀ Hc O st σ H)(hσ:σ[i]?=some (some v))(ha:O i a=some u)(ho:∀ q w,o≠.frz q w)
  (ow:∀ d,s=.ow d->v=.ref a/\Nd K Hc d o) (jk:∀ n m,s=.jk n m->Jk (upd (O i) a o) n m v) (hs:∀ d,s≠.sh d/\s≠.dp d):
  RelC K Hv₀ H₀ Hc (iF O i (upd (O i) a o)) (st.set i s) σ (upd H a o):=by
 obtain⟨h1,h2,h3⟩:=r.oh i a u ha;have hset:σ.set i (some v)=σ:=iW hσ;have key:=r.setAny (i:=i) (s:=s) (v:=some v) (H':=upd H a o) (O':=iF O i (upd (O i) a o)) (λ b w h=>by rw[ah (ax h h3)];exact r.h0 b w h) (λ b w h=>by rw[ah (ax h h2)];exact r.ch b w h)
  (λ b q w h=>by
   by_cases hb:b=a
   ·subst hb;rw[aq];exact λ z=>ho q w (Option.some.inj z)
   ·rw[ah hb];exact r.nf b q w h)
  (λ j hj=>bw hj) (λ d e=>absurd e (hs d).1) (λ d e=>⟨a,o,by rw[(ow d e).1],by rw[aT,aq],(ow d e).2⟩) (λ d e=>absurd e (hs d).2) (λ n m e=>⟨v,rfl,by rw[aT];exact jk n m e⟩)
  (λ j b w h=>by
   by_cases hj:j=i
   ·rw[hj,aT] at h
    by_cases hb:b=a
    ·subst hb;rw[aq] at h ⊢;exact⟨h,h2,h3⟩
    ·rw[ah hb] at h ⊢;exact r.oh i b w h
   ·rw[bw hj] at h
    have hb:b≠a:=λ z=>hj (r.one j i b w u h (by rw[z];exact ha))
    rw[ah hb];exact r.oh j b w h)
  λ j b w w' h hj h4=>by
   rw[aT] at h;by_cases hb:b=a
   ·exact hj (r.one j i b w' u h4 (by rw[hb];exact ha))
   ·rw[ah hb] at h;exact hj (r.one j i b w' w h4 h)
 rw[hset] at key;exact key
theorem RelC.put {i:Nat}{d:D}{ds:List D}{ws:List V}{a:Addr}(r:RelC K Hv₀ H₀ Hc O st σ H)(hi:st[i]?=some (.ow d))(hσ:σ[i]?=some (some (.ref a)))(rp:RpL K Hc ds ws):
  ∃ O',RelC K Hv₀ H₀ Hc O' (st.set i (.ow (.lst ds))) σ (upd H a (.lst ws)):=by
 obtain⟨a',o,h1,h2,h3⟩:=r.ow i d hi;rw[hσ] at h1;cases h1;exact⟨_,r.putAny hσ h2 (by intro _ _ z;cases z) (λ x e=>by cases e;exact⟨rfl,ws,rfl,rp⟩) (λ n m e=>nomatch e) λ x=>⟨nofun,nofun⟩⟩
theorem RelC.putDct {i:Nat}{d:D}{ks:List Int}{ds:List D}{ws:List V}{a:Addr}(r:RelC K Hv₀ H₀ Hc O st σ H)(hi:st[i]?=some (.ow d))(hσ:σ[i]?=some (some (.ref a)))(hl:ks.length=ds.length)(rp:RpL K Hc ds ws):
  ∃ O',RelC K Hv₀ H₀ Hc O' (st.set i (.ow (.dct ks ds))) σ (upd H a (.dK ((ks.map Sum.inl).zip ws))):=by
 obtain⟨a',o,h1,h2,h3⟩:=r.ow i d hi;rw[hσ] at h1;cases h1;exact⟨_,r.putAny hσ h2 (by intro _ _ z;cases z) (λ x e=>by cases e;exact⟨rfl,ws,rfl,hl,rp⟩) (λ n m e=>nomatch e) λ x=>⟨nofun,nofun⟩⟩
def e9 (A B:Hp):Hp:=λ b=>match A b with
 | some o=>some o
 | none=>B b
theorem lO {A B:Hp}:Same A (e9 A B):=λ b o h=>by unfold e9;rw[h]
theorem lV {A B:Hp}(d:∀ b o,B b=some o->A b=none):Same B (e9 A B):=λ b o h=>by unfold e9;rw[d b o h];exact h
theorem eS {A B:Hp}{b:Addr}{o:HO}(h:e9 A B b=some o):A b=some o\/(A b=none/\B b=some o):=by
 unfold e9 at h;cases q:A b with
 | some u=>rw[q] at h;exact .inl h
 | none=>rw[q] at h;exact .inr ⟨rfl,h⟩
theorem RelC.give1 {i:Nat}(r:RelC K Hv₀ H₀ Hc O st σ H):∃ Hc' O',Same Hc Hc'/\RelC K Hv₀ H₀ Hc' O' (st.set i ((st[i]?.getD .no).give)) σ H:=by
 cases hi:st[i]? with
 | none=>
  refine⟨Hc,O,.refl _,?_⟩;rw[List.set_eq_of_length_le (by have:=List.getElem?_eq_none_iff.mp hi;omega)];exact r
 | some s=>
  have hs:st.set i s=st:=iW hi;have key:∀ (d:D) (v:V),σ[i]?=some (some v)->Rp K (e9 Hc (O i)) d v->∃ Hc' O',Same Hc Hc'/\RelC K Hv₀ H₀ Hc' O' (st.set i (.sh d)) σ H:=λ d v hσ rp=>by
   have sm:Same Hc (e9 Hc (O i)):=lO;have hset:σ.set i (some v)=σ:=iW hσ;have r1:RelC K Hv₀ H₀ (e9 Hc (O i)) (iF O i λ _=>none) (st.set i .no) σ H:=by
    refine⟨r.h0,r.vc.trans sm,λ b o h=>?_,λ b o h n=>?_,r.nf,by rw[Dk];exact r.len,λ j x h=>?_,λ j x h=>?_,λ j x h=>?_,λ j n m h=>?_,λ j b o h=>?_,λ j k b o o' h1 h2=>?_⟩
    ·rcases eS h with h|⟨_,h⟩
     ·exact r.ch b o h
     ·exact(r.oh i b o h).1
    ·rcases eS h with h|⟨_,h⟩
     ·exact r.new b o h n
     ·exact(r.oh i b o h).2.2
    ·rcases dD h with ⟨_,e,_⟩|⟨hj,h⟩
     ·cases e
     ·obtain⟨u,h1,h2⟩:=r.sh j x h
      exact⟨u,h1,h2.same sm⟩
    ·rcases dD h with ⟨_,e,_⟩|⟨hj,h⟩
     ·cases e
     ·obtain⟨a,o,h1,h2,h3⟩:=r.ow j x h
      exact⟨a,o,h1,by rw[bw hj];exact h2,h3.same sm⟩
    ·rcases dD h with ⟨_,e,_⟩|⟨hj,h⟩
     ·cases e
     ·obtain⟨u,h1,h2⟩:=r.dp j x h
      exact⟨u,h1,by rw[bw hj];exact h2⟩
    ·rcases dD h with ⟨_,e,_⟩|⟨hj,h⟩
     ·cases e
     ·obtain⟨u,h1,h2⟩:=r.jk j n m h
      exact⟨u,h1,by rw[bw hj];exact h2⟩
    ·by_cases hj:j=i
     ·rw[hj,aT] at h;cases h
     ·rw[bw hj] at h
      obtain⟨h1,h2,h3⟩:=r.oh j b o h;refine⟨h1,?_,h3⟩;cases q:e9 Hc (O i) b with
      | none=>rfl
      | some u=>
       rcases eS q with q|⟨_,q⟩
       ·rw[h2] at q;cases q
       ·exact absurd (r.one j i b o u h q) hj
    ·by_cases hj:j=i
     ·rw[hj,aT] at h1;cases h1
     ·by_cases hk:k=i
      ·rw[hk,aT] at h2;cases h2
      ·rw[bw hj] at h1;rw[bw hk] at h2;exact r.one j k b o o' h1 h2
   have r2:=r1.setSh (i:=i) rp;rw[hset,List.set_set] at r2;exact⟨_,_,sm,r2⟩
  cases s with
  | no=>exact⟨Hc,O,.refl _,by show RelC K Hv₀ H₀ Hc O (st.set i .no) σ H;rw[hs];exact r⟩
  | sh d=>exact⟨Hc,O,.refl _,by show RelC K Hv₀ H₀ Hc O (st.set i (.sh d)) σ H;rw[hs];exact r⟩
  | jk n m=>exact⟨Hc,O,.refl _,by show RelC K Hv₀ H₀ Hc O (st.set i (.jk n m)) σ H;rw[hs];exact r⟩
  | ow d=>
   obtain⟨a,o,h1,h2,h3⟩:=r.ow i d hi;exact key d _ h1 ((h3.same lO).rp (lV (λ b o h=>(r.oh i b o h).2.1) a o h2))
  | dp d=>
   obtain⟨v,h1,h2⟩:=r.dp i d hi;exact key d v h1 (Rp.frag (h2.same (lV λ b o h=>(r.oh i b o h).2.1)))
theorem RelC.give:∀ (is:List Nat) {st:Dv.St} {Hc:Hp} {O:Nat->Hp},RelC K Hv₀ H₀ Hc O st σ H->∃ Hc' O',Same Hc Hc'/\RelC K Hv₀ H₀ Hc' O' (Dv.give is st) σ H
 | [],st,Hc,O,r=>⟨Hc,O,.refl _,r⟩
 | i::is,st,Hc,O,r=>by
  obtain⟨Hc1,O1,s1,r1⟩:=r.give1 (i:=i);obtain⟨Hc2,O2,s2,r2⟩:=RelC.give is r1;exact⟨Hc2,O2,s1.trans s2,r2⟩
end
def OkS (C:Ctx)(Hv₀ H₀:Hp)(E:Ends)(o:Out):Prop:=match o with
 | .nx st=>∀ σ' H',Rel C.X.K Hv₀ H₀ st σ' H'->E.nx σ' H'
 | .ret d nw=>∀ v Hv' H',Ext Hv₀ H₀ Hv' H'->Rp C.X.K Hv' d v->(nw=true->Rp [] (Hnew H₀ H') d v)->E.rt v H'
 | .brk st=>∀ σ' H',Rel C.X.K Hv₀ H₀ st σ' H'->E.bk σ' H'
 | .cont st=>∀ σ' H',Rel C.X.K Hv₀ H₀ st σ' H'->E.ct σ' H'
 | .exc c st=>∀ σ' H',Rel C.X.K Hv₀ H₀ st σ' H'->C.W σ' (C.cls c) none H'
 | .bad=>False
def Ad (C:Ctx)(t:TS)(f:SS):Prop:=∀ Hv₀ H₀ E σ H st,Rel C.X.K Hv₀ H₀ st σ H->OkS C Hv₀ H₀ E (f st)->t E σ H
def SSt (C:Ctx)(s:Stmt)(f:SS):Prop:=∃ t:TS,PS C.X s t/\Ad C t f
def SSs (C:Ctx)(ss:List Stmt)(f:SS):Prop:=∃ t:TS,PSs C.X ss t/\Ad C t f
section
variable {C:Ctx}{a b c:Expr}{e:Expr}{f g h:EE}{F G:SS}{s:Stmt}{ss:List Stmt}{pos pos':Pos}{E:Ends}
theorem OkS.now {Hv₀ H₀:Hp}{st:Dv.St}{σ:St}{H:Hp}(q:OkS C Hv₀ H₀ E (.nx st))(r:Rel C.X.K Hv₀ H₀ st σ H):E.nx σ H:=q σ H r
theorem bj:SSs C [] Dv.sNil:=⟨_,gI,λ Hv₀ H₀ E σ H st r q=>q σ H r⟩
theorem aj (h1:SSt C s F)(h2:SSs C ss G):SSs C (s::ss) (Dv.sCons F G):=by
 obtain⟨t,p,q⟩:=h1;obtain⟨u,p2,q2⟩:=h2;refine⟨_,aN p p2,λ Hv₀ H₀ E σ H st r w=>?_⟩;refine q Hv₀ H₀ { E with nx:=u E } σ H st r ?_
 have w':OkS C Hv₀ H₀ E ((F st).bind G):=w;cases hf:F st with
 | nx st'=>rw[hf] at w';exact λ σ' H' r'=>q2 Hv₀ H₀ E σ' H' st' r' w'
 | ret d nw=>rw[hf] at w';exact w'
 | brk st=>rw[hf] at w';exact w'
 | cont st=>rw[hf] at w';exact w'
 | exc c st=>rw[hf] at w';exact w'
 | bad=>rw[hf] at w';exact w'
theorem au (h1:SSt C s F):SSs C [s] F:=by
 obtain⟨t,p,q⟩:=h1;exact⟨t,bz p,q⟩
theorem Tak.all {t:TE}(q:Tak C t f){Hv₀ H₀ Hc H:Hp}{O:Nat->Hp}{σ:St}{st:Dv.St}(r:RelC C.X.K Hv₀ H₀ Hc O st σ H){T:VK}
  (hx:∀ c,f (Dv.all st)=.exc c->∀ H',RelC C.X.K Hv₀ H₀ Hc O st σ H'->C.W σ (C.cls c) none H') (hb:f (Dv.all st)≠.bad)
  (ok:∀ d fr v Hv' H',f (Dv.all st)=.ok d fr->Ext (ff Hc O H) H Hv' H'->RelC C.X.K Hv₀ H₀ Hc O st σ H'->Rp C.X.K Hv' d v->(fr=true->Rp [] (Hnew H H') d v)->T v H'):t σ H T:=by
 refine q σ H (ff Hc O H) (Dv.all st) T r.envAll r.allH ?_
 cases hf:f (Dv.all st) with
 | bad=>exact absurd hf hb
 | exc c=>exact λ Hv' H' x=>hx c hf H' (r.grow x.hh x.nf)
 | ok d fr=>exact λ v Hv' H' x rp n=>ok d fr v Hv' H' hf x (r.grow x.hh x.nf) rp n
theorem Tak.open {t:TE}(q:Tak C t f){Hv₀ H₀ Hc H:Hp}{O:Nat->Hp}{σ:St}{st:Dv.St}(r:RelC C.X.K Hv₀ H₀ Hc O st σ H){T:VK}
  (hx:∀ c,f (Dv.open_ st)=.exc c->∀ Hc' H',Ext Hc H Hc' H'->C.W σ (C.cls c) none H') (hb:f (Dv.open_ st)≠.bad)
  (ok:∀ d fr v Hc' H',f (Dv.open_ st)=.ok d fr->Ext Hc H Hc' H'->RelC C.X.K Hv₀ H₀ Hc' O st σ H'->Rp C.X.K Hc' d v->T v H'):t σ H T:=by
 refine q σ H Hc (Dv.open_ st) T r.envOpen r.ch ?_
 cases hf:f (Dv.open_ st) with
 | bad=>exact absurd hf hb
 | exc c=>exact λ Hv' H' x=>hx c hf Hv' H' x
 | ok d fr=>exact λ v Hv' H' x rp n=>ok d fr v Hv' H' hf x (r.growC x) rp
theorem dE (he:SE C e f)(hs:autoParam (swapsWith e none pos.line C.X.env=pure false) ZF._auto_1):SSt C (.Expr e pos) (Dv.sExpr f):=by
 obtain⟨t,p,q⟩:=he;refine⟨_,cS p hs,λ Hv₀ H₀ E σ H st ⟨Hc,O,r⟩ w=>?_⟩;unfold Dv.sExpr at w;refine q.all r (λ c hf H' r'=>?_) (λ hf=>?_) λ d fr v Hv' H' hf x r' rp n=>?_
 ·rw[hf] at w;exact w σ H' ⟨Hc,O,r'⟩
 ·rw[hf] at w;exact w
 ·rw[hf] at w;exact w σ H' ⟨Hc,O,r'⟩
theorem RelC.ret {Hv₀ H₀ Hc H Hv' H':Hp}{O:Nat->Hp}{σ:St}{st:Dv.St}{K:F5}(r:RelC K Hv₀ H₀ Hc O st σ H)(x:Ext (ff Hc O H) H Hv' H'):∃ Hv2,Ext Hv₀ H₀ Hv2 H'/\Same Hv' Hv2:=by
 have key:∀ b o,Hv' b=some o->Hv₀ b=none->H₀ b=none:=λ b o h n=>by
  cases q:ff Hc O H b with
  | some u=>exact r.allNew b u q n
  | none=>exact r.h0.free (x.new b o h q)
 refine⟨λ b=>match H₀ b with|none=>H' b|some _=>Hv' b,⟨r.h0.trans x.hh,λ b o h=>?_,λ b o h=>?_,λ b o h n=>?_,λ b h=>?_,λ b o u h=>?_⟩,λ b o h=>?_⟩
 ·have h2:Hv' b=some o:=x.vv _ _ (r.cAll _ _ (r.vc b o h))
  show (match H₀ b with|none=>H' b|some _=>Hv' b)=some o
  cases H₀ b with
  | none=>exact x.vh b o h2
  | some _=>exact h2
 ·have h':(match H₀ b with|none=>H' b|some _=>Hv' b)=some o:=h
  cases q:H₀ b with
  | none=>rw[q] at h';exact h'
  | some _=>rw[q] at h';exact x.vh b o h'
 ·have h':(match H₀ b with|none=>H' b|some _=>Hv' b)=some o:=h
  cases q:H₀ b with
  | none=>rfl
  | some u=>
   rw[q] at h';have:=key b o h' n;rw[q] at this;cases this
 ·show (match H₀ b with|none=>H' b|some _=>Hv' b)=H' b
  rw[h]
 ·exact(r.grow x.hh x.nf).nf b o u h
 ·show (match H₀ b with|none=>H' b|some _=>Hv' b)=some o
  cases H₀ b with
  | none=>exact x.vh b o h
  | some _=>exact h
theorem aZ (he:SE C e f):SSt C (.Return (some e) pos) (Dv.sRet f):=by
 obtain⟨t,p,q⟩:=he;refine⟨_,dJ p,λ Hv₀ H₀ E σ H st ⟨Hc,O,r⟩ w=>?_⟩;unfold Dv.sRet at w;refine q.all r (λ c hf H' r'=>?_) (λ hf=>?_) λ d fr v Hv' H' hf x r' rp n=>?_
 ·rw[hf] at w;exact w σ H' ⟨Hc,O,r'⟩
 ·rw[hf] at w;exact w
 ·rw[hf] at w
  obtain⟨Hv2,x2,s2⟩:=r.ret x;exact w v Hv2 H' x2 (rp.same s2) λ z=>(n z).same (Hnew.mono r.h0 (.refl _))
theorem cU (i:Nat){x:Str}(hN:autoParam (C.X.N[i]?=some x) ZF._auto_1)(hv:autoParam (Vis C.X.env.scope x) ZH._auto_1)(hd:autoParam ((x == ("__debug__":Str))=false) ZC._auto_1)
  (hcd:autoParam ((x == ("__classdict__":Str))=false) ZC._auto_1):SSt C (.Return (some (.Name x pos')) pos) (Dv.sRetO i):=by
 refine⟨_,dJ (dt hN hv hd hcd),λ Hv₀ H₀ E σ H st ⟨Hc,O,r⟩ w=>?_⟩;unfold Dv.sRetO at w;obtain⟨Hv2,x2,s2⟩:=r.ret (.refl r.allH);cases hi:st[i]? with
 | none=>rw[hi] at w;exact Zf w
 | some s=>
  rw[hi] at w;cases s with
  | no=>exact Zf w
  | sh d=>
   obtain⟨v,h1,h2⟩:=r.sh i d hi;exact⟨v,h1,w v Hv2 H x2 ((h2.same r.cAll).same s2) λ z=>h2.scal z⟩
  | jk n m=>exact Zf w
  | dp d=>
   obtain⟨v,h1,h2⟩:=r.dp i d hi;exact⟨v,h1,w v Hv2 H x2 ((Rp.frag (h2.same (r.oAll i))).same s2) λ _=>h2.same λ b o h=>by
    unfold Hnew;rw[(r.oh i b o h).2.2];exact(r.oh i b o h).1⟩
  | ow d=>
   obtain⟨a,o,h1,h2,h3⟩:=r.ow i d hi;have rp:Rp C.X.K Hv2 d (.ref a):=by
    obtain⟨v,h6,h7⟩:=r.envAll i d (by unfold Dv.all;rw[Dc,hi];rfl);rw[h1] at h6;cases h6;exact h7.same s2
   cases d with
   | lst ds=>
    refine⟨_,h1,w (.ref a) Hv2 H x2 rp λ z=>?_⟩;obtain⟨vs,rfl,h5⟩:=h3;unfold Rp;refine⟨a,vs,rfl,SqX.of ?_,h5.flat z⟩;unfold Hnew;rw[(r.oh i a _ h2).2.2];exact(r.oh i a _ h2).1
   | dct ks ds=>exact⟨_,h1,w (.ref a) Hv2 H x2 rp λ z=>nomatch z⟩
   | _=>exact Zf h3
theorem bC {pa pb:List Stmt}(hc:SC C c f)(ha:SSs C pa F)(hb:SSs C pb G):SSt C (.If c pa pb pos) (Dv.sIf f F G):=by
 obtain⟨tc,pc,qc⟩:=hc;obtain⟨t,p,q⟩:=ha;obtain⟨u,p2,q2⟩:=hb;refine⟨_,kh pc p p2,λ Hv₀ H₀ E σ H st ⟨Hc,O,r⟩ w=>?_⟩;unfold Dv.sIf at w;refine qc σ H (ff Hc O H) (Dv.all st) _ r.envAll r.allH ?_
 cases hf:f (Dv.all st) with
 | bad=>rw[hf] at w;exact w
 | exc c=>rw[hf] at w;exact λ Hv' H' x=>w σ H' ⟨Hc,O,r.grow x.hh x.nf⟩
 | ok d fr=>
  rw[hf] at w;intro v Hv' H' x rp n;cases d with
  | bl b=>
   unfold Rp at rp;refine⟨b,rp,?_⟩;cases b with
   | true=>exact ux (q Hv₀ H₀ E σ H' st ⟨Hc,O,r.grow x.hh x.nf⟩ w)
   | false=>exact vJ (q2 Hv₀ H₀ E σ H' st ⟨Hc,O,r.grow x.hh x.nf⟩ w)
  | _=>exact Zf w
theorem pV {t:TE}(q:Tak C t f)(i:Nat){Hv₀ H₀ H:Hp}{σ:St}{st:Dv.St}(r:Rel C.X.K Hv₀ H₀ st σ H)(w:OkS C Hv₀ H₀ E (Dv.sSet i f st)):t σ H λ v H'=>E.nx (σ.set i (some v)) H':=by
 obtain⟨Hc,O,r⟩:=r;unfold Dv.sSet at w;refine q.all r (λ c hf H' r'=>?_) (λ hf=>?_) λ d fr v Hv' H' hf x r' rp n=>?_
 ·rw[hf] at w;exact w σ H' ⟨Hc,O,r'⟩
 ·rw[hf] at w;exact w
 ·rw[hf] at w
  cases d with
  | lst ds=>
   simp only[Dv.keepD] at w;by_cases z:(fr&&Dv.flatL ds)=true
   ·simp only[z,if_true] at w
    rw[C3] at z;have rn:=n z.1;unfold Rp at rn;obtain⟨a,vs,rfl,h1,h2⟩:=rn;have h1':Hnew H H' a=some (.lst vs):=by
     rcases h1 with (h1|⟨o,h1⟩)|⟨its,m,e,_⟩
     ·exact h1
     ·exfalso
      have hn:H a=none:=by
       unfold Hnew at h1;cases q:H a with
       | none=>rfl
       | some u=>rw[q] at h1;cases h1
      exact x.nf a o _ hn (Hnew.sub a _ h1)
     ·simp at e
    have hn:H a=none:=by
     unfold Hnew at h1';cases q:H a with
     | none=>rfl
     | some u=>rw[q] at h1';cases h1'
    refine w _ H' ⟨Hc,_,r'.setOw (Hnew.sub a _ h1') (r.ch.free hn) (r.h0.free hn) (λ j _=>?_) ⟨vs,rfl,h2.flat z.2⟩⟩;cases q:O j a with
    | none=>rfl
    | some u=>have:=(r.oh j a u q).1;rw[hn] at this;cases this
   ·simp only[z] at w
    exact Zf w
  | tup ds=>exact Zf w
  | exn c=>exact Zf w
  | raw _=>exact Zf w
  | ins _ _=>exact Zf w
  | tab _=>exact Zf w
  | dct ks ds=>
   simp only[Dv.keepD] at w;by_cases z:(fr&&ks.isEmpty&&ds.isEmpty)=true
   ·simp only[z,if_true] at w
    simp only[C3,List.isEmpty_iff] at z;obtain⟨⟨z1,z2⟩,z3⟩:=z;subst z2 z3;have rn:=n z1;unfold Rp at rn;obtain⟨a,vs,rfl,_,h1,h2⟩:=rn;unfold RpL at h2;subst h2;have h1':Hnew H H' a=some (.dK []):=by
     rcases h1 with h1|⟨o,h1⟩
     ·exact h1
     ·exfalso
      have hn:H a=none:=by
       unfold Hnew at h1;cases q:H a with
       | none=>rfl
       | some u=>rw[q] at h1;cases h1
      exact x.nf a o _ hn (Hnew.sub a _ h1)
    have hn:H a=none:=by
     unfold Hnew at h1';cases q:H a with
     | none=>rfl
     | some u=>rw[q] at h1';cases h1'
    refine w _ H' ⟨Hc,_,r'.setOw (Hnew.sub a _ h1') (r.ch.free hn) (r.h0.free hn) (λ j _=>?_) ⟨[],rfl,rfl,.nil⟩⟩;cases q:O j a with
    | none=>rfl
    | some u=>have:=(r.oh j a u q).1;rw[hn] at this;cases this
   ·simp only[z] at w
    exact Zf w
  | _=>exact w _ H' ⟨Hc,O,r'.setSh (Rp.scal rfl rp)⟩
theorem ay {i:Nat}{x:Str}(he:SE C e f)(hN:C.X.N.Nodup)(hi:C.X.N[i]?=some x)(hx:Loc C.X.env.scope x)(hs:autoParam (swapsWith e (some (.Name x pos')) pos.line C.X.env=pure false) ZF._auto_1)
  (hf:autoParam (C.X.fn x=true\/C.X.env.scope.names.lookup x=some .local) ZB._auto_1):SSt C (.Assign [.Name x pos'] e pos) (Dv.sSet i f):=by
 obtain⟨t,p,q⟩:=he;exact⟨_,dq hN hi hx p hs hf,λ Hv₀ H₀ E σ H st r w=>pV q i r w⟩
theorem vI {t:TE}(q:Tak C t f)(is:List Nat)(i:Nat){Hv₀ H₀ H:Hp}{σ:St}{st:Dv.St}(r:Rel C.X.K Hv₀ H₀ st σ H)(w:OkS C Hv₀ H₀ E (Dv.sSetG is i f st)):t σ H λ v H'=>E.nx (σ.set i (some v)) H':=by
 obtain⟨Hc0,O0,r0⟩:=r;obtain⟨Hc,O,_,r⟩:=r0.give is;unfold Dv.sSetG at w;refine q.open r (λ c hf Hc' H' x=>?_) (λ hf=>?_) λ d fr v Hc' H' hf x r' rp=>?_
 ·rw[hf] at w;exact w σ H' ⟨Hc0,O0,r0.grow x.hh x.nf⟩
 ·rw[hf] at w;exact w
 ·rw[hf] at w
  exact w _ H' ⟨Hc',O,r'.setSh rp⟩
theorem dv (is:List Nat){i:Nat}{x:Str}(he:SE C e f)(hN:C.X.N.Nodup)(hi:C.X.N[i]?=some x)(hx:Loc C.X.env.scope x)(hs:autoParam (swapsWith e (some (.Name x pos')) pos.line C.X.env=pure false) ZF._auto_1)
  (hf:autoParam (C.X.fn x=true\/C.X.env.scope.names.lookup x=some .local) ZB._auto_1):SSt C (.Assign [.Name x pos'] e pos) (Dv.sSetG is i f):=by
 obtain⟨t,p,q⟩:=he;exact⟨_,dq hN hi hx p hs hf,λ Hv₀ H₀ E σ H st r w=>vI q is i r w⟩
theorem RelC.own {Hv₀ H₀ Hc H:Hp}{O:Nat->Hp}{σ:St}{st:Dv.St}{K:F5}{i:Nat}{ds:List D}(r:RelC K Hv₀ H₀ Hc O st σ H)(hi:st[i]?=some (.ow (.lst ds))):
  ∃ a vs,σ[i]?=some (some (.ref a))/\H a=some (.lst vs)/\RpL K Hc ds vs:=by
 obtain⟨a,o,h1,h2,vs,rfl,h3⟩:=r.ow i _ hi;exact⟨a,vs,h1,(r.oh i a _ h2).1,h3⟩
theorem jr {i:Nat}{x:Str}{apos cpos:Pos}{px:Pos}(he:SE C e f)(hN:autoParam (C.X.N[i]?=some x) ZF._auto_1)(hv:autoParam (Vis C.X.env.scope x) ZH._auto_1)
    (hd:autoParam ((x == ("__debug__":Str))=false) ZC._auto_1) (hcd:autoParam ((x == ("__classdict__":Str))=false) ZC._auto_1) (hst:autoParam (starEach [e] C.X.env=[(false,eval e C.X.env)]) ZF._auto_1)
    (hbase:autoParam (attributeBase (.Name x px) "append" C.X.env (eval (.Name x px) C.X.env)=eval (.Name x px) C.X.env) ZF._auto_1)
    (hfew:autoParam (((backTo cpos (starEach [e] C.X.env)).all (λ x=>!x.1)&&(backToKw cpos (keywordEach [] C.X.env)).all (λ x=>x.1.isSome)
      && decide ([e].length+([]:List Keyword).length+(if ([]:List Keyword).isEmpty then 0 else 1)<30))=true) ZF._auto_1)
    (hline:autoParam ((apos.endLine == cpos.line)=true) ZF._auto_1)
    (hs:autoParam (swapsWith (.Call (.Attribute (.Name x px) "append" apos) [e] [] cpos) none pos.line C.X.env=pure false) ZF._auto_1):
    SSt C (.Expr (.Call (.Attribute (.Name x px) "append" apos) [e] [] cpos) pos) (Dv.sApp i f):=by
  obtain⟨t,p,q⟩:=he;refine⟨_,cS (iu Gi Gv Gw cV (dt hN hv hd hcd) (av p aF hst) hbase hfew hline hst rfl) hs,λ Hv₀ H₀ E σ H st ⟨Hc,O,r⟩ w=>?_⟩;unfold Dv.sApp at w;cases hi:st[i]? with
  | none=>rw[hi] at w;exact Zf w
  | some s=>
    rw[hi] at w;cases s with
    | no=>exact Zf w
    | sh d=>exact Zf w
    | dp d=>exact Zf w
    | jk n m=>exact Zf w
    | ow d0=>
     cases d0 with
     | lst ds=>
      obtain⟨a,vs,h1,h2,h5⟩:=r.own hi;refine⟨_,h1,.inl ⟨rfl,vs,SqL.of h2⟩,?_⟩;refine q.all r (λ c hf H' r'=>?_) (λ hf=>?_) λ d fr v Hv' H' hf x r' rp n=>?_
      · simp only[hf] at w;exact w σ H' ⟨Hc,O,r'⟩
      · simp only[hf] at w;exact w
      · simp only[hf] at w
        by_cases z:(Dv.scal d&&decide (ds.length<Dv.mx))=true
        · simp only[z,if_true] at w
          rw[C3,decide_eq_true_eq] at z;obtain⟨O',r2⟩:=r'.put hi h1 (h5.append (.cons (rp.scal z.1) .nil));refine⟨a,vs,v,rfl,rfl,x.hh _ _ h2,?_,w σ _ ⟨Hc,O',r2⟩⟩;have:=h5.length;have:=dH (E7 z.2);have e1:(100000:Nat)<sizeLine:=by rw[GC];decide
          have e2:ds.length<100000:=z.2;omega
        · simp only[z] at w
          exact Zf w
     | _=>exact Zf w
end
section
variable {C:Ctx}{a b c e o k:Expr}{f g h:EE}{fl:EL}{F G:SS}{s:Stmt}{ss:List Stmt}{pos pos':Pos}{E:Ends}
def Wlk (K:F5)(J:It)(Hv:Hp)(ds:List D):Prop:=
 ∀ (i:Nat) (H:Hp),Same Hv H->(∀ d,ds[i]?=some d->J.go i H/\∀ x H',J.yld i H x H'->∃ Hv',Ext Hv H Hv' H'/\Rp K Hv' d x)/\(i=ds.length->J.stop i H)
def OkI (K:F5)(Hv H:Hp)(W:XK)(cls:String->Value)(r:RI)(T:It->Hp->Prop):Prop:=match r with
 | .ok ds _=>∀ J Hv' H',Ext Hv H Hv' H'->Wlk K J Hv' ds->T J H'
 | .exc c=>∀ Hv' H',Ext Hv H Hv' H'->W (cls c) none H'
 | .bad=>False
def SI (C:Ctx)(tg it:Expr)(f:EI):Prop:=
 ∃ wi:TI,PI C.X tg it wi/\∀ σ H Hv ρ T,EnvR C.X.K Hv ρ σ->Same Hv H->OkI C.X.K Hv H (C.W σ) C.cls (f ρ) T->wi σ H T
theorem aL {tg:Expr}(he:SE C e f):SI C tg e (Dv.iSeq f):=by
 obtain⟨t,p,q⟩:=he;refine⟨_,pQ p,λ σ H Hv ρ T er s w=>?_⟩;refine q σ H Hv ρ _ er s ?_
 unfold Dv.iSeq at w;cases hf:f ρ with
 | bad=>rw[hf] at w;exact w
 | exc c=>rw[hf] at w;exact w
 | ok d fr=>
  rw[hf] at w;intro v Hv' H' x rp n;cases d with
  | lst ds=>
   unfold Rp at rp;obtain⟨l,vs,rfl,h1,h2⟩:=rp;refine⟨l,rfl,⟨vs,(h1.same x.vh).seq⟩,w _ Hv' H' x λ i H2 s2=>⟨λ d hd=>?_,λ hi=>?_⟩⟩
   ·obtain⟨u,h3,h4⟩:=h2.get hd
    refine⟨⟨vs,u,(h1.same s2).seq,h3⟩,λ x H3 ⟨e1,hy⟩=>?_⟩;subst e1;have:=hy vs (h1.same s2).seq;rw[h3] at this;cases this;exact⟨Hv',.refl s2,h4⟩
   ·exact⟨vs,(h1.same s2).seq,by rw[h2.length,hi];exact Dh _⟩
  | _=>exact Zf w
theorem sH (lo:Int):∀ (n i:Nat) (d:D),(Dv.rangeL lo n)[i]?=some d->i<n/\d=.int (lo+i):=by
 intro n
 induction n generalizing lo with
 | zero=>intro i d h;simp[Dv.rangeL] at h
 | succ n ih=>
  intro i d h;cases i with
  | zero=>simp[Dv.rangeL] at h;subst h;exact⟨⋯,by simp⟩
  | succ i=>
   simp only[Dv.rangeL,CO] at h;obtain⟨h1,h2⟩:=ih (lo+1) i d h;exact⟨⋯,by rw[h2];congr 1;omega⟩
theorem sG (lo:Int):∀ n:Nat,(Dv.rangeL lo n).length=n:=by
 intro n
 induction n generalizing lo with
 | zero=>rfl
 | succ n ih=>simp[Dv.rangeL,ih]
theorem kR {K:F5}{Hv:Hp}(lo:Int)(n:Nat):Wlk K (Itr lo n) Hv (Dv.rangeL lo n):=λ i H s=>⟨λ d hd=>by
  obtain⟨h1,rfl⟩:=sH lo n i d hd;refine⟨h1,λ x H' ⟨e1,e2⟩=>?_⟩;subst e1 e2;exact⟨Hv,.refl s,bK⟩,λ hi=>by rw[sG] at hi;subst hi;exact Dh _⟩
theorem uH {j:Int}(h:Dv.rngOk j=true):-(2 ^ 62)<=j/\j<2 ^ 62:=by
 unfold Dv.rngOk at h;simp only[C3,decide_eq_true_eq] at h;omega
theorem cj {tg:Expr}{p:Pos}(hg:Gl C.X "range")(hm:C.X.mg "range"=none)(he:SE C e f)(hs:autoParam (starEach [e] C.X.env=[(false,eval e C.X.env)]) ZF._auto_1):
  SI C tg (.Call (.Name "range" p) [e] [] pos) (Dv.iRange f):=by
 obtain⟨t,pe,q⟩:=he;refine⟨_,sJ hg hm (av pe aF hs) hs,λ σ H Hv ρ T er s w=>?_⟩;refine q σ H Hv ρ _ er s ?_
 unfold Dv.iRange at w;cases hf:f ρ with
 | bad=>rw[hf] at w;exact w
 | exc c=>rw[hf] at w;exact w
 | ok d fr=>
  rw[hf] at w;intro v Hv' H' x rp n;cases d with
  | int j=>
   unfold Rp at rp;subst rp;by_cases hr:Dv.rngOk j=true
   ·simp only[hr,if_true] at w
    obtain⟨h1,h2⟩:=uH hr;exact⟨j,rfl,h1,h2,w _ Hv' H' x (kR 0 j.toNat)⟩
   ·simp only[hr] at w
    exact Zf w
  | _=>exact Zf w
theorem kT {tg:Expr}{p:Pos}(hg:Gl C.X "range")(hm:C.X.mg "range"=none)(he:SE C e f)(hb:SE C b g)(hs:autoParam (starEach [e,b] C.X.env=[(false,eval e C.X.env),(false,eval b C.X.env)]) ZF._auto_1)
  (hs2:autoParam (starEach [b] C.X.env=[(false,eval b C.X.env)]) ZF._auto_1):SI C tg (.Call (.Name "range" p) [e,b] [] pos) (Dv.iRange2 f g):=by
 obtain⟨t,pe,q⟩:=he;obtain⟨t2,pe2,q2⟩:=hb;refine⟨_,sV hg hm (av pe (av pe2 aF hs2) (by rw[hs,hs2])) hs hs2,λ σ H Hv ρ T er s w=>?_⟩;refine q σ H Hv ρ _ er s ?_
 unfold Dv.iRange2 at w;cases hf:f ρ with
 | bad=>rw[hf] at w;exact w
 | exc c=>rw[hf] at w;exact w
 | ok d fr=>
  rw[hf] at w;intro v Hv' H' x rp n;cases d with
  | int i=>
   unfold Rp at rp;subst rp;refine q2 σ H' Hv' ρ _ (er.same x.vv) x.vh ?_
   cases hg':g ρ with
   | bad=>simp only[hg'] at w;exact w
   | exc c=>simp only[hg'] at w;exact λ Hv2 H2 y=>w Hv2 H2 (x.trans y)
   | ok d2 fr2=>
    simp only[hg'] at w;intro v2 Hv2 H2 y rp2 n2;cases d2 with
    | int j=>
     unfold Rp at rp2;subst rp2;by_cases hr:(Dv.rngOk i&&Dv.rngOk j)=true
     ·simp only[hr,if_true] at w
      rw[C3] at hr;obtain⟨h1,h2⟩:=uH hr.1;obtain⟨h3,h4⟩:=uH hr.2;exact⟨i,j,rfl,⟨h1,h2,h3,h4⟩,w _ Hv2 H2 (x.trans y) (kR i _)⟩
     ·simp only[hr] at w
      exact Zf w
    | _=>exact Zf w
  | _=>exact Zf w
def SG (C:Ctx)(tg:Expr)(st:D->Dv.St->Option Dv.St):Prop:=
 ∃ g:TG,PG C.X tg g/\∀ Hv₀ H₀ Hc O H σ s s' d v T,RelC C.X.K Hv₀ H₀ Hc O s σ H->Rp C.X.K Hc d v->st d s=some s'->(∀ σ' ,RelC C.X.K Hv₀ H₀ Hc O s' σ' H->T σ' H)->g v σ H T
theorem qB {i:Nat}{x:Str}(hN:C.X.N.Nodup)(hi:C.X.N[i]?=some x)(hx:Loc C.X.env.scope x)(hf:autoParam (C.X.fn x=true\/C.X.env.scope.names.lookup x=some .local) ZB._auto_1):
  SG C (.Name x pos) (λ d s=>some (s.set i (.sh d))):=by
 refine⟨_,gy hN hi hx hf,λ Hv₀ H₀ Hc O H σ s s' d v T r rp e h=>?_⟩;cases e;exact h _ (r.setSh rp)
theorem RelC.self {K:F5}{Hv₀ H₀ Hc H:Hp}{O:Nat->Hp}{st:Dv.St}{σ:St}(r:RelC K Hv₀ H₀ Hc O st σ H):RelC K Hc H₀ Hc O st σ H:=
 ⟨r.h0,.refl _,r.ch,λ b o h n=>(by rw[n] at h;cases h),r.nf,r.len,r.sh,r.ow,r.dp,r.jk,r.oh,r.one⟩
theorem OkS.less {Hv₀ Hc H₀:Hp}{o:Out}(h:OkS C Hv₀ H₀ E o)(vc:Same Hv₀ Hc)(new:∀ b o,Hc b=some o->Hv₀ b=none->H₀ b=none):OkS C Hc H₀ E o:=by
 have rl:∀ {st σ H},Rel C.X.K Hc H₀ st σ H->Rel C.X.K Hv₀ H₀ st σ H:=λ⟨Hd,O,r⟩=>⟨Hd,O,r.less vc new⟩
 cases o with
 | nx st=>exact λ σ H r=>h σ H (rl r)
 | ret d nw=>
  refine λ v Hv' H' x rp n=>h v Hv' H' ⟨x.hh,vc.trans x.vv,x.vh,λ b o q m=>?_,x.all,x.nf⟩ rp n
  cases z:Hc b with
  | some u=>exact new b u z m
  | none=>exact x.new b o q z
 | brk st=>exact λ σ H r=>h σ H (rl r)
 | cont st=>exact λ σ H r=>h σ H (rl r)
 | exc c st=>exact λ σ H r=>h σ H (rl r)
 | bad=>exact h
theorem u6 {tgt:D->Dv.St->Option Dv.St}{g:TG}{tb:TS}{J:It}{ds:List D}{Hc H₀ H:Hp}{σ:St}{st:Dv.St}
  (qg:∀ Hv₀ H₀ Hc O H σ s s' d v T,RelC C.X.K Hv₀ H₀ Hc O s σ H->Rp C.X.K Hc d v->tgt d s=some s'->(∀ σ' ,RelC C.X.K Hv₀ H₀ Hc O s' σ' H->T σ' H)->g v σ H T)
  (qb:Ad C tb F) (wl:Wlk C.X.K J Hc ds) (r:Rel C.X.K Hc H₀ st σ H) (w:OkS C Hc H₀ E (Dv.forGoT tgt F ds st)):
  ∃ W:Nat->Nat->St->Hp->Prop,(∃ m,W 0 m σ H)/\∀ i m σ H,W i m σ H ->
   (J.stop i H/\E.nx σ H)\/(J.go i H/\∃ N:St->Hp->Prop,(∀ σ' H',N σ' H'->∃ m',m'<m/\W (i+1) m' σ' H')/\∀ x H',J.yld i H x H'->g x σ H' λ σ2 H2=>tb { E with nx:=N,ct:=N,bk:=E.nx } σ2 H2):=by
 refine⟨λ i m σ H=>m=ds.length-i/\i<=ds.length/\∃ st,Rel C.X.K Hc H₀ st σ H/\OkS C Hc H₀ E (Dv.forGoT tgt F (ds.drop i) st),⟨_,rfl,Ez _,st,r,w⟩,?_⟩
 rintro i m σ H ⟨rfl,hi,st,⟨Hd,O,r⟩,w⟩
 obtain⟨w1,w2⟩:=wl i H (r.vc.trans r.ch);by_cases hlt:i<ds.length
 ·have hd:ds[i]?=some ds[i]:=by simp[hlt]
  have e1:ds.drop i=ds[i]::ds.drop (i+1):=D8 hlt;rw[e1] at w;generalize ds[i]=d at hd e1 w;obtain⟨go,yl⟩:=w1 d hd;refine .inr ⟨go,λ σ' H'=>∃ st,Rel C.X.K Hc H₀ st σ' H'/\OkS C Hc H₀ E (Dv.forGoT tgt F (ds.drop (i+1)) st),λ σ' H' h=>⟨ds.length-(i+1),⋯,rfl,hlt,h⟩,λ x H' hy=>?_⟩;obtain⟨Hv',x1,rp⟩:=yl x H' hy;unfold Dv.forGoT at w;cases ht:tgt d st with
  | none=>simp only[ht] at w;exact Zf w
  | some st1=>
   simp only[ht] at w;have x2:Ext Hd H (λ b=>match H b with|none=>H' b|some _=>Hd b) H':=by
    refine⟨x1.hh,λ b o q=>?_,λ b o q=>?_,λ b o q n=>?_,λ b q=>?_,x1.nf⟩
    ·show (match H b with|none=>H' b|some _=>Hd b)=some o
     cases z:H b with
     | none=>rw[r.ch b o q] at z;cases z
     | some _=>exact q
    ·have q':(match H b with|none=>H' b|some _=>Hd b)=some o:=q
     cases z:H b with
     | none=>rw[z] at q';exact q'
     | some u=>rw[z] at q';exact x1.hh _ _ (r.ch b o q')
    ·have q':(match H b with|none=>H' b|some _=>Hd b)=some o:=q
     cases z:H b with
     | none=>rfl
     | some u=>rw[z] at q';rw[n] at q';cases q'
    ·show (match H b with|none=>H' b|some _=>Hd b)=H' b
     rw[q]
   have r2:=r.growC x2;have sub:Same Hv' (λ b=>match H b with|none=>H' b|some _=>Hd b):=λ b o q=>by
    show (match H b with|none=>H' b|some _=>Hd b)=some o
    cases z:H b with
    | none=>exact x1.vh b o q
    | some u=>
     cases z2:Hc b with
     | none=>have:=x1.new b o q z2;rw[z] at this;cases this
     | some u'=>
      have h1:=x1.vv b u' z2;rw[q] at h1;cases h1;exact r.vc b o z2
   refine qg Hc H₀ _ _ H' σ st st1 d x _ r2 (rp.same sub) ht λ σ2 r3=>?_
   refine qb Hc H₀ _ σ2 H' st1 ⟨_,_,r3⟩ ?_
   cases hb:F st1 with
   | nx st'=>simp only[hb] at w;exact λ σ' H' r'=>⟨st',r',w⟩
   | cont st'=>simp only[hb] at w;exact λ σ' H' r'=>⟨st',r',w⟩
   | brk st'=>simp only[hb] at w;exact w
   | ret d nw=>simp only[hb] at w;exact w
   | exc c st'=>simp only[hb] at w;exact w
   | bad=>simp only[hb] at w;exact w
 ·have e:i=ds.length:=⋯
  refine .inl ⟨w2 e,?_⟩;rw[e,E4] at w;exact w σ H ⟨Hd,O,r⟩
theorem iO (is:List Nat){tg it:Expr}{body:List Stmt}{tgt:D->Dv.St->Option Dv.St}{fi:EI}(hi:SI C tg it fi)(hg:SG C tg tgt)(hb:SSs C body F)(hcalm:autoParam (C.X.calm=true) ZF._auto_1)
  (hs:autoParam (∀ x,foldedSetIterable it C.X.env x=pure x) ZE._auto_1):SSt C (.For tg it body [] pos) (Dv.sForT is tgt fi F):=by
 obtain⟨wi,pi,qi⟩:=hi;obtain⟨g,pg,qg⟩:=hg;obtain⟨tb,pb,qb⟩:=hb;refine⟨_,nZ C.own hcalm pi pg pb hs,λ Hv₀ H₀ E σ H st ⟨Hc0,O0,r0⟩ w=>?_⟩;obtain⟨Hc,O,_,r⟩:=r0.give is;unfold Dv.sForT at w;refine qi σ H Hc (Dv.open_ (Dv.give is st)) _ r.envOpen r.ch ?_
 cases hf:fi (Dv.open_ (Dv.give is st)) with
 | bad=>simp only[hf] at w;exact w
 | exc c=>simp only[hf] at w;exact λ Hv' H' x=>w σ H' ⟨Hc0,O0,r0.grow x.hh x.nf⟩
 | ok ds fr=>
  simp only[hf] at w;intro J Hc' H' x wl;have r1:=r.growC x;exact u6 qg qb wl ⟨Hc',O,r1.self⟩ (w.less r1.vc r1.new)
theorem iR (x:Nat)(body:SS):∀ (ds:List D) (st:Dv.St),Dv.forGoT (λ d s=>some (s.set x (.sh d))) body ds st=Dv.forGo x body ds st
 | [],st=>rfl
 | d::r,st=>by
  unfold Dv.forGoT Dv.forGo;cases h:body (st.set x (.sh d)) with
  | nx st'=>simp only[h];exact iR x body r st'
  | cont st'=>simp only[h];exact iR x body r st'
  | _=>simp only[h]
theorem bG (is:List Nat){i:Nat}{x:Str}{it:Expr}{body:List Stmt}{fi:EI}(hi:SI C (.Name x pos') it fi)(hb:SSs C body F)(hN:C.X.N.Nodup)(hn:C.X.N[i]?=some x)(hx:Loc C.X.env.scope x)
  (hf:autoParam (C.X.fn x=true\/C.X.env.scope.names.lookup x=some .local) ZB._auto_1) (hs:autoParam (∀ x,foldedSetIterable it C.X.env x=pure x) ZE._auto_1) (hcalm:autoParam (C.X.calm=true) ZF._auto_1):
  SSt C (.For (.Name x pos') it body [] pos) (Dv.sFor is i fi F):=by
 obtain⟨t,p,q⟩:=iO (pos:=pos) is hi (qB (pos:=pos') hN hn hx hf) hb hcalm hs;refine⟨t,p,λ Hv₀ H₀ E σ H st r w=>q Hv₀ H₀ E σ H st r ?_⟩;unfold Dv.sForT;unfold Dv.sFor at w;cases hf:fi (Dv.open_ (Dv.give is st)) with
 | bad=>simp only[hf] at w ⊢;exact w
 | exc c=>simp only[hf] at w ⊢;exact w
 | ok ds fr=>simp only[hf] at w ⊢;rw[iR];exact w
theorem nN (n:Nat){body:List Stmt}(hc:SC C c f)(hb:SSs C body F):SSt C (.While c body [] pos) (Dv.sWhile n f F):=by
 obtain⟨tc,pc,qc⟩:=hc;obtain⟨tb,pb,qb⟩:=hb;refine⟨_,nF C.own pc pb,λ Hv₀ H₀ E σ H st r w=>?_⟩;refine⟨λ m σ H=>∃ st,Rel C.X.K Hv₀ H₀ st σ H/\OkS C Hv₀ H₀ E (Dv.whileGo f F m st),⟨n,st,r,w⟩,?_⟩
 rintro m σ H ⟨st,⟨Hc,O,r⟩,w⟩
 cases m with
 | zero=>exact Zf w
 | succ m=>
  unfold Dv.whileGo at w;refine qc σ H (ff Hc O H) (Dv.all st) _ r.envAll r.allH ?_
  cases hf:f (Dv.all st) with
  | bad=>simp only[hf] at w;exact w
  | exc c=>simp only[hf] at w;exact λ Hv' H' x=>w σ H' ⟨Hc,O,r.grow x.hh x.nf⟩
  | ok d fr=>
   intro v Hv' H' x rp nn;cases d with
   | bl b=>
    unfold Rp at rp;refine⟨b,rp,?_⟩;cases b with
    | true=>
     simp only[hf] at w;refine ux ⟨λ σ' H'=>∃ st,Rel C.X.K Hv₀ H₀ st σ' H'/\OkS C Hv₀ H₀ E (Dv.whileGo f F m st),λ σ' H' h=>⟨m,D1 m,h⟩,?_⟩;refine qb Hv₀ H₀ _ σ H' st ⟨Hc,O,r.grow x.hh x.nf⟩ ?_
     cases hb:F st with
     | nx st'=>simp only[hb] at w;exact λ σ' H' r'=>⟨st',r',w⟩
     | cont st'=>simp only[hb] at w;exact λ σ' H' r'=>⟨st',r',w⟩
     | brk st'=>simp only[hb] at w;exact w
     | ret d nw=>simp only[hb] at w;exact w
     | exc c st'=>simp only[hb] at w;exact w
     | bad=>simp only[hb] at w;exact w
    | false=>
     simp only[hf] at w;exact vJ (w σ H' ⟨Hc,O,r.grow x.hh x.nf⟩)
   | _=>simp only[hf] at w;exact Zf w
def spD (K:F5)(cls:String->Value)(F:List D->R)(n:Nat):Sp:=λ vs H Q E=>∃ ds Hv,ds.length=n/\Same Hv H/\RpL K Hv ds vs/\Ok K Hv H E cls (F ds) Q
theorem xQ {K:F5}{cls:String->Value}{F:List D->R}{n:Nat}{vs:List V}{H:Hp}{Q:VK}{E:XK}(h:spD K cls F n vs H Q E):vs.length=n:=by
 obtain⟨ds,Hv,h1,_,h2,_⟩:=h;rw[h2.length,h1]
theorem kF {N:List Str}{vs:List V}{i:Nat}{v:V}(h:vs[i]?=some v):(L2.start N vs)[i]?=some (some v):=by
 have hl:i<vs.length:=(List.getElem?_eq_some_iff.mp h).1;unfold L2.start;rw[Dq (by simpa using hl),Dc,h];rfl
theorem tD {K:F5}{Hv H:Hp}{ds:List D}{vs:List V}{N:List Str}(s:Same Hv H)(rp:RpL K Hv ds vs)(hN:ds.length<=N.length):
  RelC K Hv H Hv (λ _ _=>none) (ds.map Sl.sh++List.replicate (N.length-ds.length) Sl.no) (L2.start N vs) H:=by
 have hl:=rp.length;have get:∀ {i:Nat} {x:Sl},(ds.map Sl.sh++List.replicate (N.length-ds.length) Sl.no)[i]?=some x->(∃ d,x=.sh d/\ds[i]?=some d)\/x=.no:=λ {i x} h=>by
  by_cases hi:i<ds.length
  ·rw[Dq (by simpa using hi),Dc] at h
   cases q:ds[i]? with
   | none=>rw[q] at h;cases h
   | some d=>rw[q] at h;cases h;exact .inl ⟨d,rfl,rfl⟩
  ·rw[DF (by simpa using hi),DX] at h
   split at h
   ·cases h;exact .inr rfl
   ·cases h
 refine⟨.refl _,.refl _,s,λ b o h n=>(by rw[n] at h;cases h),λ b o u h=>(by rw[h];intro z;cases z),?_,λ i d h=>?_,λ i d h=>?_,λ i d h=>?_,λ i n m h=>?_,(λ i b o h=>nomatch h),(λ i j b o o' h=>nomatch h)⟩
 ·unfold L2.start
  simp only[C9,CY,DD];omega
 ·rcases get h with ⟨d',e,h2⟩|e
  ·cases e
   obtain⟨v,h3,h4⟩:=rp.get h2;exact⟨v,kF h3,h4⟩
  ·cases e
 ·rcases get h with ⟨d',e,_⟩|e <;>cases e
 ·rcases get h with ⟨d',e,_⟩|e <;>cases e
 ·rcases get h with ⟨d',e,_⟩|e <;>cases e
theorem Ac {Hv H:Hp}{ds:List D}{Q:VK}{W:XK}{n:Nat}{body:SS}(hW:C.W=λ _=>W)(h:Ok C.X.K Hv H W C.cls (Dv.fn n body ds) Q):
  OkS C Hv H { nx:=λ _ H'=>Q .non H',rt:=Q } (body (ds.map Sl.sh++List.replicate (n-ds.length) Sl.no)):=by
 unfold Dv.fn at h;have ext:∀ {st σ' H'},Rel C.X.K Hv H st σ' H'->∃ Hv2,Ext Hv H Hv2 H':=λ {st σ' H'} ⟨Hc,O,r⟩=>by
  obtain⟨Hv2,x,_⟩:=r.ret (.refl r.allH);exact⟨Hv2,x⟩
 cases hb:body (ds.map Sl.sh++List.replicate (n-ds.length) Sl.no) with
 | nx st=>
  simp only[hb] at h;intro σ' H' r;obtain⟨Hv2,x⟩:=ext r;exact h .non Hv2 H' x t7 λ _=>t7
 | ret d nw=>simp only[hb] at h;exact λ v Hv' H' x rp nn=>h v Hv' H' x rp nn
 | brk st=>simp only[hb] at h;exact Zf h
 | cont st=>simp only[hb] at h;exact Zf h
 | exc c st=>
  simp only[hb] at h;intro σ' H' r;obtain⟨Hv2,x⟩:=ext r;rw[hW];exact h Hv2 H' x
 | bad=>simp only[hb] at h;exact Zf h
end
structure CXok (P:Program)(w:World)(CX:CXT):Prop where
 no:∀ (outer:List Gg) (H:Hp) (s:Shared) (e:Value) (s':Shared),CX outer H s (λ _ _ _=>False) e s'->False
 leave:∀ (K:F5) (mg:Str->Option Value) (base:Heap) (N:List Str) (qual:Str) (scope:Scope) (f:Addr) (cd:Value) (A:Around) (outer:List Gg) (s:Shared) (H:Hp) (E:XK)
  (pins:List (Addr×Obj)) (σ:St) (H1:Hp) (s1:Shared) (e:Value) (s':Shared),Inv (cK CX P w K mg base N qual scope f cd A outer s H E) pins σ H1 s1 ->
  CX (cK CX P w K mg base N qual scope f cd A outer s H E).stack H1 s1 E e s'->(cK CX P w K mg base N qual scope f cd A outer s H E).xe e s'
section
variable {P:Program}{w:World}{K:F5}{mg:Str->Option Value}{base:Heap}{CX:CXT}
def cZ {P:Program}{w:World}(hC:CXok P w CX)(cls:String->Value)(K:F5)(mg:Str->Option Value)(base:Heap)(N:List Str)(qual:Str)(scope:Scope)(f:Addr)(cd:Value)(A:Around)(outer:List Gg)(s:Shared)(H:Hp)(E:XK)
  {k:Nat} (hr:Room k (A.deeper (envOfC qual scope s.heap.objs.size f cd))):Ctx where
 X:=cK CX P w K mg base N qual scope f cd A outer s H E
 W:=λ _=>E
 cls:=cls
 CX:=CX
 un:=hr.units
 own:=Hl
 pass:=λ pins σ H1 s1 e s' I h=>hC.leave K mg base N qual scope f cd A outer s H E pins σ H1 s1 e s' I h
 cxF:=hC.no
theorem BQ (hC:CXok P w CX)(cls:String->Value){x qual:Str}{st:Stmt}{f:Addr}{N ps:List Str}{k:Nat}{body:SS}(oc:Value)(od:Option Addr)(dV kV doc pm:Value)(an:Option Addr)(cdv ct:Value)(osl:Array (Option Value))
  (lk:K.lookup f=some ⟨oc,od,.func (Ga x qual (be st) (aO st) (af st) dV kV doc pm an cdv ct),osl⟩) (hcd:Gy K cdv qual=true) (S:FnScope N ps (af st))
  (hbody:∀ (A:Around) (outer:List Gg) (s:Shared) (H:Hp) (E:XK) (hr:Room k (A.deeper (envOfC qual (af st) s.heap.objs.size f cdv))),
   SSs (cZ hC cls K mg base N qual (af st) f cdv A outer s H E hr) (aO st) body):
  FnOk P w K mg base CX (k+1) f (Ga x qual (be st) (aO st) (af st) dV kV doc pm an cdv ct) ps (spD K cls (Dv.fn N.length body) ps.length):=by
 refine p9 lk hcd S (λ vs H Q E h=>xQ h) λ A outer s H vs Q E hr h=>?_
 obtain⟨ds,Hv,hl,sv,rp,ok⟩:=h;obtain⟨t,p,q⟩:=hbody A outer s H E hr;have hpl:ps.length<=N.length:=by
  have:=congrArg List.length S.pre;rw[Ep] at this;omega
 exact⟨t,p,q Hv H _ (L2.start N vs) H _ ⟨Hv,_,tD sv rp ⋯⟩ (Ac (C:=cZ hC cls K mg base N qual (af st) f cdv A outer s H E hr) rfl ok)⟩
end
section
variable {C:Ctx}{a b c e o:Expr}{es:List Expr}{f g h:EE}{fl:EL}{F G:SS}{pos pos':Pos}{E:Ends}
theorem ju {X:Cx}{CX:CXT}{W:St->XK}{k:Nat}{fa:Addr}{fd:FuncData}{ps:List Str}{sp:Sp}{dvs:List V}{ds:List Value}{x:Str}{p:Pos}{t:TA}(Fn:FnOk X.prog X.w X.K X.mg X.base CX k fa fd ps sp)(hr:Room k X.A)(hg:Gl X x)(hm:X.mg x=some (.ref fa))(hk:Gn X.K (.ref fa)=true)
  (hb:Binds X.K fd ps ds) (hd:Vals dvs ds) (hx:∀ (pins:List (Addr×Obj)) (σ:St) (H:Hp) (s:Shared) (e:Value) (s':Shared),Inv X pins σ H s->CX X.stack H s (W σ) e s'->X.xe e s')
  (ha:PA X (e::es) t) (hdb:(x == ("__debug__":Str))=false) (he:starEach (e::es) X.env=(false,eval e X.env)::starEach es X.env) (hpl:(backTo pos (starEach es X.env)).any (·.1)=false):
  PE X (.Call (.Name x p) (e::es) [] pos) (λ σ H Q=>t σ H λ vs H1=>sp (vs++dvs) H1 Q (W σ)):=by
 intro pins s σ H Q I h;refine GT (lE I hg hm ?_ hdb);refine Hg (h₀:=X.base) I.ok.mod.kin hk (thn (ha pos pins s σ H _ I h) λ us s1 ⟨vs,H1,I1,r,q⟩=>⟨I1.kIn,?_⟩) he hpl;have r2:Vals (vs++dvs) (us++ds):=r.append hd;have hl:(us++ds).length=ps.length:=by rw[<- r2.length];exact Fn.len _ _ _ _ q
 refine wpAny_call (G4 (Fn.run X.A X.stack s1 H1 ⟨us,[]⟩ (us++ds) (vs++dvs) Q (W σ) hr I1.env0 (hb s1 us I1.kIn hl) r2 q) λ rr s' hq=>?_);cases rr with
 | error e=>exact hx pins σ H1 s1 e s' I1 hq
 | ok fl=>
  cases fl with
  | ret u=>exact I1.after hq
  | next=>exact Gm hq
  | brk=>exact Gm hq
  | cont=>exact Gm hq
theorem wL {k j:Nat}{fa:Addr}{fd:FuncData}{ps:List Str}{Fm:List D->R}{dds:List D}{dvs:List V}{dus:List Value}{x:Str}{p:Pos}(Fn:FnOk C.X.prog C.X.w C.X.K C.X.mg C.X.base C.CX j fa fd ps (spD C.X.K C.cls Fm ps.length))(hr:Room k C.X.A)(hj:j<=k)
  (hg:Gl C.X x) (hm:C.X.mg x=some (.ref fa)) (hk:Gn C.X.K (.ref fa)=true) (hb:Binds C.X.K fd ps dus) (hd:Vals dvs dus) (hdd:∀ K H,RpL K H dds dvs) (ha:SL C (e::es) fl) (hlen:autoParam ((e::es).length+dds.length=ps.length) ZF._auto_1)
  (hdb:autoParam ((x == ("__debug__":Str))=false) ZC._auto_1) (he:autoParam (starEach (e::es) C.X.env=(false,eval e C.X.env)::starEach es C.X.env) ZF._auto_1) (hpl:autoParam ((backTo pos (starEach es C.X.env)).any (·.1)=false) ZF._auto_1):
  SE C (.Call (.Name x p) (e::es) [] pos) (Dv.eCall (λ ds=>Fm (ds++dds)) fl):=by
 obtain⟨t,pa,qa,hl⟩:=ha;refine⟨_,ju (W:=C.W) (Fn.mono hj) hr hg hm hk hb hd C.pass pa hdb he hpl,λ σ H Hv ρ Q er s w=>?_⟩;refine qa.step er (.refl s) w λ vs ds fr Hv1 H1 hf x1 _ rp _ w1=>?_
 refine⟨ds++dds,Hv1,?_,x1.vh,rp.append (hdd _ _),Ok.later x1 w1⟩;rw[C9,hl ρ ds fr hf];exact hlen
def bW (X:Cx)(N:List Str)(scope:Scope)(cl:List (Str×Addr))(L:Addr)(s₀:Shared)(H₀:Hp)(ex:List Addr):Cx:=
 { X with N:=N,s₀:=s₀,H₀:=H₀,env:=compEnvC scope cl L X.env,outer:=X.stack,ex:=ex,fn:=λ _=>false,pn:=[],xe:=λ _ _=>False }
def bE (C:Ctx)(N:List Str)(scope:Scope)(cl:List (Str×Addr))(L:Addr)(s₀:Shared)(H₀:Hp)(ex:List Addr):Ctx where
 X:=bW C.X N scope cl L s₀ H₀ ex
 W:=λ _ _ _ _=>False
 cls:=C.cls
 CX:=C.CX
 un:=C.un
 own:=PassesOwn.never
 pass:=λ _ _ _ _ _ _ _ h=>C.cxF _ _ _ _ _ h
 cxF:=C.cxF
theorem gg {env:Gg}:∀ (names:List (Str×NameKind)) (acc:List (Str×Addr)),(∀ y∈names,y.2=.free->∃ c,env.cells.lookup y.1=some c) ->
  ∃ cl,(forIn names acc λ (x:Str×NameKind) (cs:List (Str×Addr))=>(if (x.2 == .free)=true then do let a <- cellOf env x.1;pure (GO ((x.1,a)::cs)) else pure (GO cs):Sem (ForInStep (List (Str×Addr)))))=pure cl /\
   (∀ x c,cl.lookup x=some c->acc.lookup x=some c\/env.cells.lookup x=some c)/\(∀ y∈names,y.2=.free->∃ c,cl.lookup y.1=some c)/\(∀ x c,acc.lookup x=some c->∃ c',cl.lookup x=some c')
 | [],acc,_=>⟨acc,rfl,λ _ _ h=>.inl h,(λ _ h=>nomatch h),λ x c h=>⟨c,h⟩⟩
 | (n,k)::r,acc,h=>by
  simp only[List.forIn_cons];by_cases hk:(k == Gx)=true
  ·obtain⟨c,hc⟩:=h (n,k) CS (by simpa using hk)
   obtain⟨cl,e,h1,h2,h3⟩:=gg r ((n,c)::acc) λ y hy=>h y (CV _ hy)
   refine⟨cl,?_,λ x d hx=>?_,λ y hy hf=>?_,λ x d hx=>?_⟩
   ·simp only[hk,if_true]
    have e2:cellOf env n=pure c:=by unfold cellOf;rw[hc]
    rw[e2];exact e
   ·rcases h1 x d hx with q|q
    ·rw[Dy] at q
     cases z:x == n with
     | true=>
      rw[z] at q;have:x=n:=by simpa using z
      subst this;cases q;exact .inr hc
     | false=>rw[z] at q;exact .inl q
    ·exact .inr q
   ·rcases List.mem_cons.mp hy with rfl|hy
    ·exact h3 n c (by simp[Dy])
    ·exact h2 y hy hf
   ·by_cases z:(x == n)=true
    ·exact h3 x c (by simp[Dy,z])
    ·exact h3 x d (by rw[Dy];simp only[Bool.not_eq_true] at z;rw[z];exact hx)
  ·obtain⟨cl,e,h1,h2,h3⟩:=gg r acc λ y hy=>h y (CV _ hy)
   refine⟨cl,?_,h1,λ y hy hf=>?_,h3⟩
   ·simp only[hk]
    exact e
   ·rcases List.mem_cons.mp hy with rfl|hy
    ·exact absurd (by simpa using hf) hk
    ·exact h2 y hy hf
theorem o9 {env:Gg}{scope:Scope}(h:∀ y∈scope.names,y.2=.free->∃ c,env.cells.lookup y.1=some c):
  ∃ cl,closureFor scope env=pure cl/\(∀ x c,cl.lookup x=some c->env.cells.lookup x=some c)/\∀ y∈scope.names,y.2=.free->∃ c,cl.lookup y.1=some c:=by
 obtain⟨cl,e,h1,h2,_⟩:=gg scope.names [] h;refine⟨cl,?_,λ x c hx=>?_,h2⟩
 ·unfold closureFor
  exact(congrArg (λ m:Sem (List (Str×Addr))=>m >>= λ s=>pure s) e).trans rfl
 ·rcases h1 x c hx with q|q
  ·simp at q
  ·exact q
end
theorem pG {prog:Program}{w:World}{A:Around}{T:Result->Shared->Prop}{s:Shared}{elt target iter:Expr}{ifs:List Expr}{scope:Scope}{pos:Pos}{it acc:Value}{env:Gg}(J:Nat->Shared->Prop)
  (turn:∀ n s,J n s->wpAny (model prog w) A (pyNext it) (λ r s1=>match r with
   | none=>T (.ok .next) s1
   | some v=>wpAny (model prog w) A (letOwnedTupleGo target it v) (λ _ s2=>wpAny (model prog w) A (assign target env v) (λ _ s3=>
     wpAny (model prog w) A (forIn ifs true λ c r=>if r=true then do let ok <- isTrue c env (eval c env);pure (GO ok) else pure (GO r)) (λ ok s4=>
      if ok=true then wpAny (model prog w) A (eval elt env) (λ x s5=>wpAny (model prog w) A (call (.builtin "list.append") [acc,x]) (λ _ s6=>∃ m,m<n/\J m s6) (λ _ _=>False) s5) (λ _ _=>False) s4
      else ∃ m,m<n/\J m s4) (λ _ _=>False) s3) (λ _ _=>False) s2) (λ _ _=>False) s1) (λ _ _=>False) s)
  (n:Nat) (h:J n s):codeAny (model prog w) A (.compLoop (.ListComp elt [⟨target,iter,ifs,0⟩] scope pos) 0 it acc env) T s:=by
 refine codeAny_loop rfl J (λ n s hJ=>?_) n h;show wpAny _ A ((compTurn (.ListComp elt [⟨target,iter,ifs,0⟩] scope pos) 0 it acc env).onRaise (λ x=>do noteFrame x env;theTreesLotGoes x)) _ _ s
 refine wpAny_noted ?_
 rw[compTurn_list];refine F9 (GY (F9 (Ge (turn n s hJ) (λ r s1 h1=>?_) λ _ _ z=>z.elim)));cases r with
 | none=>exact Gc h1
 | some v=>
  refine F9 (Ge h1 (λ _ s2 h2=>F9 (Ge h2 (λ _ s3 h3=>F9 (Ge h3 (λ ok s4 h4=>?_) λ _ _ z=>z.elim)) λ _ _ z=>z.elim)) λ _ _ z=>z.elim);cases ok with
  | false=>exact Gc ⟨rfl,h4⟩
  | true=>
   refine F9 (F9 (Ge h4 (λ x s5 h5=>F9 (Ge h5 (λ _ s6 h6=>?_) λ _ _ z=>z.elim)) λ _ _ z=>z.elim));exact Gc (Gc ⟨rfl,h6⟩)
theorem gC {env:Gg}:∀ {names:List (Str×NameKind)} {x:Str},names.lookup x=some .free ->
  (names.map λ (n,k)=>if (k == Gx&&env.scope.kind == .function&&env.kindOf n == some .cell) then (n,HW) else (n,k)).lookup x=some .cell \/
  (names.map λ (n,k)=>if (k == Gx&&env.scope.kind == .function&&env.kindOf n == some .cell) then (n,HW) else (n,k)).lookup x=some .free
 | [],_,h=>by simp at h
 | (n,k)::r,x,h=>by
  have ih:=@gC env r x;simp only[CN];cases hx:x == n with
  | true=>
   simp only[Dy,hx] at h;cases h;by_cases hc:(Gx == Gx&&env.scope.kind == .function&&env.kindOf n == some .cell)=true
   ·rw[if_pos hc];left;simp[Dy,hx]
   ·rw[if_neg hc];right;simp[Dy,hx]
  | false=>
   simp only[Dy,hx] at h;by_cases hc:(k == Gx&&env.scope.kind == .function&&env.kindOf n == some .cell)=true
   ·rw[if_pos hc];simp only[Dy,hx];exact ih h
   ·rw[if_neg hc];simp only[Dy,hx];exact ih h
theorem fX {env:Gg}:∀ {names:List (Str×NameKind)} {x:Str} {kd:NameKind},(∀ y∈names,y.2≠.cell)->kd=.cell\/kd=.free ->
  (names.map λ (n,k)=>if (k == Gx&&env.scope.kind == .function&&env.kindOf n == some .cell) then (n,HW) else (n,k)).lookup x=some kd->(x,Gx)∈names
 | [],_,_,_,_,h=>by simp at h
 | (n,k)::r,x,kd,nc,hk,h=>by
  have ih:=@fX env r x kd (λ y hy=>nc y (CV _ hy)) hk;simp only[CN] at h;cases hx:x == n with
  | true=>
   have e:x=n:=by simpa using hx
   subst e;by_cases hc:(k == Gx&&env.scope.kind == .function&&env.kindOf x == some .cell)=true
   ·have:k=.free:=by
     simp only[C3,beq_iff_eq] at hc;exact hc.1.1
    subst this;exact CS
   ·rw[if_neg hc] at h
    simp only[Dy,hx] at h;have e2:k=kd:=by simpa using h
    subst e2
    rcases hk with rfl|rfl
    ·exact absurd rfl (nc (x,.cell) CS)
    ·exact CS
  | false=>
   refine CV _ (ih ?_);by_cases hc:(k == Gx&&env.scope.kind == .function&&env.kindOf n == some .cell)=true
   ·rw[if_pos hc] at h;simp only[Dy,hx] at h;exact h
   ·rw[if_neg hc] at h;simp only[Dy,hx] at h;exact h
theorem mem_lookup {α β:Type}[BEq α][LawfulBEq α]:∀ {l:List (α×β)} {x:α} {y:β},l.lookup x=some y->(x,y)∈l
 | [],_,_,h=>by simp at h
 | (a,b)::r,x,y,h=>by
  rw[Dy] at h;cases hx:x == a with
  | true=>
   rw[hx] at h;have e:x=a:=by simpa using hx
   subst e;cases h;exact CS
  | false=>rw[hx] at h;exact CV _ (mem_lookup h)
def STs (C:Ctx)(ifs:List Expr)(f:EE):Prop:=
 ∃ t:TT,(∀ (pins:List (Addr×Obj)) (s:Shared) (σ:St) (H:Hp) (Q:Bool->Hp->Prop),Inv C.X pins σ H s->t σ H Q ->
  wpAny (model C.X.prog C.X.w) C.X.A (forIn ifs true λ c r=>if r=true then do let ok <- isTrue c C.X.env (eval c C.X.env);pure (GO ok) else pure (GO r)) (TP C.X pins σ Q) C.X.xe s)/\TakC C t f
theorem cM {C:Ctx}:STs C [] (Dv.eBl true):=
 ⟨λ _ H Q=>Q true H,λ pins s σ H Q I h=>wpAny_tests_nil ⟨H,I,h⟩,λ σ H Hv ρ Q e s q=>by
  obtain⟨b,e1,q⟩:=q.now (v:=.bl true) s cn rfl;cases e1;exact q⟩
theorem eu {C:Ctx}{c:Expr}{f:EE}(h:SC C c f):STs C [c] f:=by
 obtain⟨t,p,q⟩:=h;exact⟨t,λ pins s σ H Q I h=>wpAny_tests_one (p pins s σ H Q I h),q⟩
theorem gT {P:Program}{w:World}{H:Hp}{h:Heap}{a:Addr}{o:HO}(x:HOk P w H h)(hn:H a=none)(new:ObjOk P w (upd H a o) h a o):HOk P w (upd H a o) h:=λ b u e=>by
 by_cases hb:b=a
 ·subst hb;rw[aq] at e;cases e;exact new
 ·rw[ah hb] at e
  exact(x b u e).stay (λ c v _ q=>q) (λ c q=>by rw[ah (ax q hn)];exact q) λ c xs q=>by rw[ah (ax q hn)];exact q
theorem yB {P:Program}{w:World}{H:Hp}{h h':Heap}{a:Addr}(x:HOk P w H h)(hn:H a=none)(k:∀ b o,b≠a->h.get? b=some o->h'.get? b=some o):HOk P w H h':=λ b u e=>by
 refine(x b u e).stay (λ c v hc q=>k c v ?_ q) (λ c q=>q) λ c xs q=>q
 rcases hc with rfl|hc
 ·exact ax e hn
 ·exact ax hc hn
section
variable {C:Ctx}
theorem vi {ρ:Dv.Env}{is:List Nat}{j:Nat}{d:D}(h:(Dv.pick ρ is)[j]?=some (some d)):∃ i,is[j]?=some i/\ρ[i]?=some (some d):=by
 unfold Dv.pick at h;rw[Dc] at h;cases q:is[j]? with
 | none=>rw[q] at h;cases h
 | some i=>
  rw[q] at h;have h':(ρ[i]?).getD none=some d:=Option.some.inj h;refine⟨i,rfl,?_⟩;cases z:ρ[i]? with
  | none=>rw[z] at h';cases h'
  | some o=>rw[z] at h';exact congrArg some h'
def cO (σ:St)(is:List Nat):St:=is.map λ i=>(σ[i]?).getD none
theorem rQ {σ:St}{is:List Nat}{j i:Nat}{v:V}(hi:is[j]?=some i)(h:σ[i]?=some (some v)):(cO σ is)[j]?=some (some v):=by
 unfold cO;rw[Dc,hi];show some ((σ[i]?).getD none)=_
 rw[h];rfl
theorem uY {σ:St}{is:List Nat}{j:Nat}{v:V}(h:(cO σ is)[j]?=some (some v)):∃ i,is[j]?=some i/\σ[i]?=some (some v):=by
 unfold cO at h;rw[Dc] at h;cases q:is[j]? with
 | none=>rw[q] at h;cases h
 | some i=>
  rw[q] at h;have h':(σ[i]?).getD none=some v:=Option.some.inj h;refine⟨i,rfl,?_⟩;cases z:σ[i]? with
  | none=>rw[z] at h';cases h'
  | some o=>rw[z] at h';exact congrArg some h'
end
theorem rE {Hv1 H1 Hvn Hn Hv' H':Hp}(x:Ext Hv1 H1 Hvn Hn)(y:Ext Hv1 Hn Hv' H'):∃ Hvm,Ext Hvn Hn Hvm H'/\Same Hv' Hvm:=by
 refine⟨λ b=>match Hn b with|none=>H' b|some _=>Hvn b,⟨y.hh,λ b o q=>?_,λ b o q=>?_,λ b o q n=>?_,λ b q=>?_,y.nf⟩,λ b o q=>?_⟩
 ·show (match Hn b with|none=>H' b|some _=>Hvn b)=some o
  cases z:Hn b with
  | none=>rw[x.vh b o q] at z;cases z
  | some _=>exact q
 ·have q':(match Hn b with|none=>H' b|some _=>Hvn b)=some o:=q
  cases z:Hn b with
  | none=>rw[z] at q';exact q'
  | some u=>rw[z] at q';exact y.hh _ _ (x.vh b o q')
 ·have q':(match Hn b with|none=>H' b|some _=>Hvn b)=some o:=q
  cases z:Hn b with
  | none=>rfl
  | some u=>rw[z] at q';rw[n] at q';cases q'
 ·show (match Hn b with|none=>H' b|some _=>Hvn b)=H' b
  rw[q]
 ·show (match Hn b with|none=>H' b|some _=>Hvn b)=some o
  cases z:Hn b with
  | none=>exact y.vh b o q
  | some u=>
   cases z2:Hv1 b with
   | none=>have:=y.new b o q z2;rw[z] at this;cases this
   | some u'=>
    have h1:=y.vv b u' z2;rw[q] at h1;cases h1;exact x.vv b o z2
section
variable {C:Ctx}{elt iter:Expr}{x:Str}{px pos:Pos}{ifs:List Expr}{scope:Scope}{fs:List Str}{is:List Nat}{fi:EI}{fe fc:EE}
def qU (C:Ctx)(pins:List (Addr×Obj))(σ:St)(Q:VK)(Da L:Addr)(s5:Shared):Prop:=
 (∃ m,s5.heap.Ns L m)/\L≠C.X.env.locals/\(∀ x c,C.X.env.cells.lookup x=some c->c≠L)/\C.X.s₀.heap.objs.size<=L/\(∀ p∈C.X.pn++pins,p.1≠L) /\
  ∃ H',H' L=none/\Q (.ref Da) H'/\∀ h',(∀ b,b≠L->h'.get? b=s5.heap.get? b)->Inv C.X pins σ H' { s5 with heap:=h' }
end
section
variable {C:Ctx}{a b c e o k:Expr}{es:List Expr}{f g h:EE}{fl:EL}{F G:SS}{pos pos':Pos}{E:Ends}
theorem pM (n d:Nat)(o:Option Int):Dv.cutI n d o=HT.sIx n d o:=by cases o <;>rfl
theorem RpL.drop {K:F5}{H:Hp}:∀ {ds:List D} {vs:List V} (n:Nat),RpL K H ds vs->RpL K H (ds.drop n) (vs.drop n)
 | _,_,0,h=>h
 | [],_,n+1,h=>by unfold RpL at h;subst h;exact .nil
 | d::r,vs,n+1,h=>by
  unfold RpL at h;obtain⟨v,ws,rfl,_,h3⟩:=h;exact RpL.drop n h3
theorem RpL.take {K:F5}{H:Hp}:∀ {ds:List D} {vs:List V} (n:Nat),RpL K H ds vs->RpL K H (ds.take n) (vs.take n)
 | _,_,0,_=>.nil
 | [],_,n+1,h=>by unfold RpL at h;subst h;exact .nil
 | d::r,vs,n+1,h=>by
  unfold RpL at h;obtain⟨v,ws,rfl,h2,h3⟩:=h;exact .cons h2 (RpL.take n h3)
theorem RpL.cut {K:F5}{H:Hp}{ds:List D}{vs:List V}(h:RpL K H ds vs)(lo hi:Option Int):RpL K H (Dv.cutL ds lo hi) (tV vs lo hi):=by
 unfold Dv.cutL tV;rw[h.length,pM,pM];exact(h.drop _).take _
def SO (C:Ctx)(e:Option Expr)(f:Option EE):Prop:=
 ∃ t:TO,PO C.X e t/\∀ σ H Hv ρ (Q:VK) (T:Option Int->Hp->Prop) (k:Option Int->R) Hv1 H1,EnvR C.X.K Hv ρ σ->Ext Hv H Hv1 H1->Ok C.X.K Hv H (C.W σ) C.cls (Dv.ePart f ρ k) Q ->
  (∀ i Hv2 H2,Ext Hv H Hv2 H2->Ext Hv1 H1 Hv2 H2->Ok C.X.K Hv H (C.W σ) C.cls (k i) Q->T i H2)->t σ H1 T
theorem dB:SO C none none:=⟨_,yo,λ σ H Hv ρ Q T k Hv1 H1 e x q n=>n none Hv1 H1 x (.refl x.vh) q⟩
theorem dA (he:SE C e f):SO C (some e) (some f):=by
 obtain⟨t,p,q⟩:=he;refine⟨_,qk p,λ σ H Hv ρ Q T k Hv1 H1 er x w n=>?_⟩;refine Tak.step q er x w λ v d fr Hv2 H2 hf x2 y2 rp _ w2=>?_
 cases d with
 | int i=>
  unfold Rp at rp;exact⟨i,rp,n (some i) Hv2 H2 x2 y2 w2⟩
 | _=>exact Zf w2
theorem cH {lo hi:Option Expr}{fl fh:Option EE}{p2:Pos}(he:SE C e f)(hl:SO C lo fl)(hh:SO C hi fh):SE C (.Subscript e (.Slice lo hi none p2) pos) (Dv.eSlice f fl fh):=by
 obtain⟨t,p,q⟩:=he;obtain⟨tl,pl,ql⟩:=hl;obtain⟨th,ph,qh⟩:=hh;refine⟨_,uO yF p pl ph,λ σ H Hv ρ Q er s w=>?_⟩;refine Tak.step q er (.refl s) w λ v d fr Hv1 H1 _ x1 _ rp1 n1 w1=>?_
 refine ql σ H Hv ρ Q _ _ Hv1 H1 er x1 w1 λ i Hv2 H2 x2 y2 w2=>?_
 refine qh σ H Hv ρ Q _ _ Hv2 H2 er x2 w2 λ j Hv3 H3 x3 y3 w3=>?_
 have y13:=y2.trans y3;cases d with
 | lst ds=>
  cases fr with
  | true=>
   have rn:=(n1 rfl).same (Hnew.mono (.refl _) y13.hh);unfold Rp at rn;obtain⟨l,vs,rfl,h1,h2⟩:=rn;have h1':SqX C.X.K H3 l vs:=by
    rcases h1 with h1|⟨its,n,e,_⟩
    ·exact .inl (Rd.same Hnew.sub h1)
    ·simp at e
   exact⟨l,vs,rfl,h1'.seq,λ p hp=>Ok.newL (fr:=true || Dv.flatL (Dv.cutL ds i j)) w3 x3 (((RpL.frag h2).same x3.news).cut i j) (λ _=>h2.cut i j) p hp⟩
  | false=>
   have rp:=rp1.same y13.vv;unfold Rp at rp;obtain⟨l,vs,rfl,h1,h2⟩:=rp;exact⟨l,vs,rfl,(h1.same x3.vh).seq,λ p hp=>Ok.newL (fr:=false || Dv.flatL (Dv.cutL ds i j)) w3 x3 (h2.cut i j) (λ z=>(h2.cut i j).flat (by simpa using z)) p hp⟩
 | _=>exact Zf w3
def C2S (C:Ctx)(fv:Value)(F:D->D->R):Prop:=
 ∃ r,dY C.X fv r/\∀ x y d d' H Hv H1 Hv1 W Q,Ext Hv H Hv1 H1->Rp C.X.K Hv1 d x->Rp C.X.K Hv1 d' y->Ok C.X.K Hv H W C.cls (F d d') Q->r [x,y] H1 Q
theorem B9 {x:Str}{p:Pos}{id:String}{F:D->D->R}(hc:C2S C (.builtin id) F)(hg:Gl C.X x)(hm:C.X.mg x=none)(hv:bootBuiltins x=some (.builtin id))(ha:SE C a f)(hb:SE C b g)
  (hn:autoParam (x≠"__name__") ZC._auto_1) (hdb:autoParam ((x == ("__debug__":Str))=false) ZC._auto_1) (he:autoParam (starEach [a,b] C.X.env=(false,eval a C.X.env)::starEach [b] C.X.env) ZF._auto_1) (he2:autoParam (starEach [b] C.X.env=[(false,eval b C.X.env)]) ZF._auto_1):SE C (.Call (.Name x p) [a,b] [] pos) (Dv.eB2 F f g):=by
 obtain⟨r,ho,hr⟩:=hc;obtain⟨t,pa,qa⟩:=ha;obtain⟨u,pb,qb⟩:=hb;refine⟨_,b8 ho hg hm hv (av pa (av pb aF he2) he) hn hdb he (by rw[he2];rfl),λ σ H Hv ρ Q e s w=>?_⟩;exact qa.step e (.refl s) w λ v d fr Hv1 H1 _ x1 _ rp1 _ q1=>qb.step e x1 q1 λ v2 d2 fr2 Hv2 H2 _ x2 y2 rp2 _ q2=>hr v v2 d d2 H Hv H2 Hv2 _ Q x2 (rp1.same y2.vv) rp2 q2
theorem zK (hcl:C.X.calm=true):C2S C (.builtin "max") Dv.max2D:=by
 refine⟨_,sO hcl,λ x y d d' H Hv H1 Hv1 W Q e rx ry q=>?_⟩;cases d with
 | int i=>
  cases d' with
  | int j=>
   unfold Rp at rx ry;subst rx ry;exact⟨i,j,rfl,Ok.at (d:=.int (if j > i then j else i)) (fr:=true) q e bK rfl⟩
  | _=>exact Zf q
 | _=>exact Zf q
theorem zF:C1S C (.type "int") Dv.intD:=by
 refine⟨_,rH,λ x d fr H Hv H1 Hv1 W Q e rx n q=>?_⟩;cases d with
 | int i=>
  unfold Rp at rx;subst rx;exact .inl ⟨i,rfl,Ok.at (d:=.int i) (fr:=true) q e bK rfl⟩
 | bl i=>
  unfold Rp at rx;subst rx;exact .inr ⟨i,rfl,Ok.at (d:=.int (if i then 1 else 0)) (fr:=true) q e bK rfl⟩
 | _=>exact Zf q
def tyD:D->String
 | .non=>"NoneType"
 | .bl _=>"bool"
 | .int _=>"int"
 | .str _=>"str"
 | .lst _=>"list"
 | .tup _=>"tuple"
 | .exn _=>"BaseException"
 | .raw _=>"BaseException"
 | .tab _=>"BaseException"
 | .ins _ _=>"BaseException"
 | .dct _ _=>"dict"
theorem ud {X:Cx}:dY X (.builtin "isinstance") (λ xs H Q=>∃ x d T b,xs=[x,.ty T]/\Rp X.K H d x/\Dv.noTy d=false/\Gj X.K (.type (tyD d)) (.type T)=some b/\Q (.bl b) H):=by
 intro pins s σ H xs us Q I r h;obtain⟨x,d,T,b,rfl,rp,hnx,hk,q⟩:=h;obtain⟨u,w',rfl,ru,rw'⟩:=vals2 r;have rw2:w'=Iz T:=rw';subst rw2;have fin:∀ tk,EP X pins σ Q (.bool b) { s with toks:=tk }:=λ tk=>⟨.bl b,H,I.tok tk,rfl,q⟩
 cases d with
 | non=>unfold Rp at rp;subst rp;cases ru;exact GF PySem.W.kitx_none I.kIn GD hk (λ z=>nomatch z) fin
 | bl y=>unfold Rp at rp;subst rp;cases ru;exact GF PySem.W.kitx_bool I.kIn GD hk (λ z=>nomatch z) fin
 | int i=>unfold Rp at rp;subst rp;obtain⟨t,rfl⟩:=ru;exact GF PySem.W.kitx_int I.kIn GD hk (λ z=>nomatch z) fin
 | str y=>unfold Rp at rp;subst rp;obtain⟨t,rfl⟩:=ru;exact GF PySem.W.kitx_str I.kIn GD hk (λ z=>nomatch z) fin
 | lst ds=>
  unfold Rp at rp;obtain⟨l,vs,rfl,h1,h2⟩:=rp;cases ru;obtain⟨its,n,rv,e,_⟩:=Inv.listX I h1;exact GF PySem.W.kitx_list I.kIn ⟨_,e,rfl⟩ hk (λ z=>nomatch z) fin
 | tup ds=>
  unfold Rp at rp;obtain⟨l,vs,rfl,h1,h2⟩:=rp;cases ru;obtain⟨_,its,rv,ob,e,hc,n,hd⟩:=h1.ok I.hok;exact GF PySem.W.kitx_tuple I.kIn ⟨ob,e,hc⟩ hk (λ z=>nomatch z) fin
 | exn c=>exact absurd hnx (by simp[Dv.noTy])
 | raw c=>exact absurd hnx (by simp[Dv.noTy])
 | ins c d=>exact absurd hnx (by simp[Dv.noTy])
 | tab c=>exact absurd hnx (by simp[Dv.noTy])
 | dct ks ds=>
  unfold Rp at rp;obtain⟨l,vs,rfl,h0,h1,h2⟩:=rp;cases ru;exact GF PySem.W.kitx_dict I.kIn (Ap I (.inl ⟨_,h1⟩)).1 hk (λ z=>nomatch z) fin
theorem lI {x:Str}{T:String}{p p2:Pos}{F:D->Bool->R}(β:D->Bool)(hF:∀ d fr,Dv.noTy d=false->F d fr=.ok (.bl (β d)) true)(hX:∀ d fr,Dv.noTy d=true->F d fr=.bad)(hβ:∀ K d,Gj K (.type (tyD d)) (.type T)=some (β d))(hg:Gl C.X "isinstance")(hm:C.X.mg "isinstance"=none)(hgx:Gl C.X x)(hmx:C.X.mg x=none)
  (hvx:bootBuiltins x=some (.type T)) (ha:SE C a f) (hn:autoParam (x≠"__name__") ZC._auto_1) (hdb:autoParam ((x == ("__debug__":Str))=false) ZC._auto_1) (he:autoParam (starEach [a,.Name x p2] C.X.env=(false,eval a C.X.env)::starEach [.Name x p2] C.X.env) ZF._auto_1)
  (he2:autoParam (starEach [.Name x p2] C.X.env=[(false,eval (.Name x p2) C.X.env)]) ZF._auto_1):SE C (.Call (.Name "isinstance" p) [a,.Name x p2] [] pos) (Dv.eB1 F f):=by
 obtain⟨t,pa,qa⟩:=ha;refine⟨_,b8 ud hg hm (by decide +kernel) (av pa (av (xy (v:=.ty T) hgx hmx hvx rfl hn hdb) aF he2) he) (by decide) (by decide) he (by rw[he2];rfl),λ σ H Hv ρ Q e s w=>?_⟩;refine qa.step e (.refl s) w λ v d fr Hv1 H1 _ x1 _ rp1 _ q1=>?_
 by_cases hd:Dv.noTy d=true
 ·rw[hX d fr hd] at q1
  exact q1.elim
 ·have hd':Dv.noTy d=false:=by simpa using hd
  rw[hF d fr hd'] at q1;exact⟨v,d,T,β d,rfl,rp1.same x1.vh,hd',hβ _ d,q1.at x1 cn rfl⟩
def BS:D->Bool
 | .int _=>true
 | .bl _=>true
 | _=>false
def yM:D->Bool
 | .bl _=>true
 | _=>false
def yY:D->Bool
 | .lst _=>true
 | _=>false
theorem wV (K:F5)(d:D):Gj K (.type (tyD d)) (.type "int")=some (BS d):=by cases d <;>rfl
theorem vM (K:F5)(d:D):Gj K (.type (tyD d)) (.type "bool")=some (yM d):=by cases d <;>rfl
theorem vY (K:F5)(d:D):Gj K (.type (tyD d)) (.type "list")=some (yY d):=by cases d <;>rfl
theorem rY (d:D)(fr:Bool)(h:Dv.noTy d=false):Dv.isIntD d fr=.ok (.bl (BS d)) true:=by cases d <;>first|rfl|exact absurd h (by simp[Dv.noTy])
theorem oO (d:D)(fr:Bool)(h:Dv.noTy d=false):Dv.isBoolD d fr=.ok (.bl (yM d)) true:=by cases d <;>first|rfl|exact absurd h (by simp[Dv.noTy])
theorem oz (d:D)(fr:Bool)(h:Dv.noTy d=false):Dv.isListD d fr=.ok (.bl (yY d)) true:=by cases d <;>first|rfl|exact absurd h (by simp[Dv.noTy])
theorem rL {X:Cx}:BB X (λ x y H Q=>∃ p xs i v,x=.ref p/\y=.int i/\0<=i/\SqL X.K H p xs/\atI xs i=some v/\Q v H):=by
 intro pins s σ H o i ov iv Q I ro ri h;obtain⟨p,xs,k,v,rfl,rfl,h0,hq,he,q⟩:=h;cases ro;obtain⟨t,rfl⟩:=ri;obtain⟨its,r,pl,hz⟩:=I.list hq;obtain⟨j,h1,h2,h3,h4,h5⟩:=iS he;obtain⟨w,ew,rw'⟩:=r.get h2;have hn:=jG;have hj:k.toNat=j:=by
  rw[HD h0 h5] at h1;exact Option.some.inj h1
 exact wpAny_getItem_list pl.isList h0 ⋯ (by rw[hj];simpa using ew) ⟨v,H,I,rw',q⟩
theorem je {i:Nat}{x:Str}{px kpos:Pos}(he:SE C e f)(hk:SE C k g)(hN:autoParam (C.X.N[i]?=some x) ZF._auto_1)(hv:autoParam (Vis C.X.env.scope x) ZH._auto_1)
    (hd:autoParam ((x == ("__debug__":Str))=false) ZC._auto_1) (hcd:autoParam ((x == ("__classdict__":Str))=false) ZC._auto_1)
    (ha:autoParam (∀ v,assign (.Subscript (.Name x px) k kpos) C.X.env v=(do
      let ov <- holding [v] (eval (.Name x px) C.X.env)
      let iv <- holding [v,ov] (eval k C.X.env)
      standAt kpos
      holding [v,ov,iv] (setItem ov iv v)
      release [v,ov,iv] [])) ZE._auto_1)
    (hs:autoParam (swapsWithSole [.Subscript (.Name x px) k kpos] e pos.line C.X.env=pure false) ZF._auto_1) (hw:autoParam (swappedStores [.Subscript (.Name x px) k kpos] e C.X.env=pure none) ZF._auto_1)
    (h1:autoParam ((assignEach [.Subscript (.Name x px) k kpos] C.X.env).map (·.2)=[assign (.Subscript (.Name x px) k kpos) C.X.env]) ZF._auto_1):SSt C (.Assign [.Subscript (.Name x px) k kpos] e pos) (Dv.sPut i g f):=by
  obtain⟨t,p,q⟩:=he;obtain⟨t2,p2,q2⟩:=hk;refine⟨_,lu p (uZ (dt hN hv hd hcd) p2 set_list ha) hs hw h1,λ Hv₀ H₀ E σ H st ⟨Hc,O,r⟩ w=>?_⟩;unfold Dv.sPut at w;cases hi:st[i]? with
  | none=>rw[hi] at w;exact Zf w
  | some s=>
    rw[hi] at w;cases s with
    | no=>exact Zf w
    | sh d=>exact Zf w
    | dp d=>exact Zf w
    | jk n m=>exact Zf w
    | ow d0=>
     cases d0 with
     | non=>exact Zf w
     | bl _=>exact Zf w
     | int _=>exact Zf w
     | str _=>exact Zf w
     | tup _=>exact Zf w
     | exn _=>exact Zf w
     | raw _=>exact Zf w
     | ins _ _=>exact Zf w
     | tab _=>exact Zf w
     | dct _ _=>exact Zf w
     | lst ds=>
      obtain⟨a,vs,h1,h2,h5⟩:=r.own hi;refine q.all r (λ c hf H' r'=>?_) (λ hf=>?_) λ d fr v Hv' H' hf x r' rp n=>?_
      · simp only[hf] at w;exact w σ H' ⟨Hc,O,r'⟩
      · simp only[hf] at w;exact w
      · simp only[hf] at w
        refine⟨_,h1,?_⟩;refine q2.all r' (λ c hg H2 r2=>?_) (λ hg=>?_) λ d2 fr2 v2 Hv2 H2 hg x2 r2 rp2 n2=>?_
        · simp only[hg] at w;exact w σ H2 ⟨Hc,O,r2⟩
        · simp only[hg] at w;exact w
        · simp only[hg] at w
          cases d2 with
          | int j=>
            unfold Rp at rp2;by_cases z:(Dv.scal d&&decide (0<=j)&&decide (j<ds.length))=true
            · simp only[z,if_true] at w
              simp only[C3,decide_eq_true_eq] at z;have hl:=h5.length;obtain⟨O',r3⟩:=r2.put hi h1 (h5.set (rp.scal z.1.1) j.toNat);refine⟨a,vs,j,j.toNat,rfl,rp2,x2.hh _ _ (x.hh _ _ h2),?_,w σ _ ⟨Hc,O',r3⟩⟩;unfold ixN;rw[if_pos z.1.2,if_pos (by rw[hl];exact z.2)]
            · simp only[z] at w
              exact Zf w
          | _=>exact Zf w
def SGs (C:Ctx)(ts:List Expr)(xs:List Nat):Prop:=
 ∃ t:TGs,PGs C.X ts t/\∀ Hv₀ H₀ Hc O H σ s ds vs T,RelC C.X.K Hv₀ H₀ Hc O s σ H->RpL C.X.K Hc ds vs->ds.length=xs.length->(∀ σ',RelC C.X.K Hv₀ H₀ Hc O (Dv.setAll xs ds s) σ' H->T σ' H)->t vs σ H T
theorem jd:SGs C [] []:=⟨_,p6,λ Hv₀ H₀ Hc O H σ s ds vs T r rp hl h=>by
 cases ds with
 | nil=>unfold RpL at rp;exact⟨rp,h σ r⟩
 | cons d ds=>cases hl⟩
theorem cb {i:Nat}{x:Str}{ts:List Expr}{xs:List Nat}(hs:SGs C ts xs)(hN:C.X.N.Nodup)(hi:C.X.N[i]?=some x)(hx:Loc C.X.env.scope x)(hf:autoParam (C.X.fn x=true\/C.X.env.scope.names.lookup x=some .local) ZB._auto_1)
  (ha:autoParam ((assignEach (.Name x pos::ts) C.X.env).map (·.2)=assign (.Name x pos) C.X.env::(assignEach ts C.X.env).map (·.2)) ZF._auto_1):SGs C (.Name x pos::ts) (i::xs):=by
 obtain⟨t,p,q⟩:=hs;refine⟨_,mF (gy hN hi hx hf) p ha,λ Hv₀ H₀ Hc O H σ s ds vs T r rp hl h=>?_⟩;cases ds with
 | nil=>cases hl
 | cons d ds=>
  unfold RpL at rp;obtain⟨v,ws,rfl,h1,h2⟩:=rp;exact⟨v,ws,rfl,q Hv₀ H₀ Hc O H _ _ ds ws T (r.setSh h1) h2 (by simpa using hl) h⟩
theorem r6 (is:List Nat){ts:List Expr}{xs:List Nat}{kt:Nat}{tpos:Pos}(he:SE C e f)(hg:SGs C ts xs)(hl:ts.length=xs.length)(hn:autoParam ((assignEach ts C.X.env).length=ts.length) ZF._auto_1)(hst:autoParam ((assignEach ts C.X.env).findIdx? (·.1)=none) ZF._auto_1)
  (hs:autoParam (swapsWithSole [.Tuple ts kt tpos] e pos.line C.X.env=pure false) ZF._auto_1) (hw:autoParam (swappedStores [.Tuple ts kt tpos] e C.X.env=pure none) ZF._auto_1) (h1:autoParam ((assignEach [.Tuple ts kt tpos] C.X.env).map (·.2)=[assign (.Tuple ts kt tpos) C.X.env]) ZF._auto_1) (hcl:autoParam (C.X.calm=true) ZF._auto_1):
  SSt C (.Assign [.Tuple ts kt tpos] e pos) (Dv.sUnpack is xs f):=by
 obtain⟨t,p,q⟩:=he;obtain⟨g,pg,qg⟩:=hg;refine⟨_,lu p (o2 hcl pg hn hst) hs hw h1,λ Hv₀ H₀ E σ H st ⟨Hc0,O0,r0⟩ w=>?_⟩;obtain⟨Hc,O,_,r⟩:=r0.give is;unfold Dv.sUnpack at w;refine q.open r (λ c hf Hc' H' x=>?_) (λ hf=>?_) λ d fr v Hc' H' hf x r' rp=>?_
 ·simp only[hf] at w;exact w σ H' ⟨Hc0,O0,r0.grow x.hh x.nf⟩
 ·simp only[hf] at w;exact w
 ·simp only[hf] at w
  cases d with
  | tup ds=>
   by_cases hz:ds.length=xs.length
   ·simp only[hz,if_true] at w
    unfold Rp at rp;obtain⟨a,vs,rfl,h2,h3⟩:=rp;exact⟨a,vs,rfl,.inl (Rd.same x.vh h2),by rw[h3.length,hz,hl],qg Hv₀ H₀ Hc' O H' σ _ ds vs _ r' h3 hz λ σ' r2=>w σ' H' ⟨Hc',O,r2⟩⟩
   ·simp only[hz,if_false] at w;exact Zf w
  | _=>exact Zf w
theorem AZ (is:List Nat){i j:Nat}{x y:Str}{px py pt:Pos}{kt k2:Nat}{pt2:Pos}(ha:SE C a f)(hb:SE C b g)(hN:C.X.N.Nodup)(hi:C.X.N[i]?=some x)(hj:C.X.N[j]?=some y)(hij:i≠j)
  (hx:C.X.env.scope.names.lookup x=some .local) (hy:C.X.env.scope.names.lookup y=some .local) (hw:autoParam (swappedStores [.Tuple [.Name x px,.Name y py] kt pt] (.Tuple [a,b] k2 pt2) C.X.env=pure (some [x,y])) ZF._auto_1)
  (hs:autoParam (swapsWithSole [.Tuple [.Name x px,.Name y py] kt pt] (.Tuple [a,b] k2 pt2) pos.line C.X.env=pure false) ZF._auto_1) (he:autoParam (starEach [a,b] C.X.env=(false,eval a C.X.env)::starEach [b] C.X.env) ZF._auto_1) (he2:autoParam (starEach [b] C.X.env=[(false,eval b C.X.env)]) ZF._auto_1) (hcl:autoParam (C.X.calm=true) ZF._auto_1):
  SSt C (.Assign [.Tuple [.Name x px,.Name y py] kt pt] (.Tuple [a,b] k2 pt2) pos) (Dv.sPar is i j f g):=by
 obtain⟨t,p,q⟩:=ha;obtain⟨u,p2,q2⟩:=hb;refine⟨_,AI hcl hN hi hj hij hx hy (av p (av p2 aF he2) he) hw hs,λ Hv₀ H₀ E σ H st ⟨Hc0,O0,r0⟩ w=>?_⟩;obtain⟨Hc,O,_,r⟩:=r0.give is;unfold Dv.sPar at w;refine q.open r (λ c hf Hc' H' x=>?_) (λ hf=>?_) λ d fr v Hc' H' hf x r' rp=>?_
 ·simp only[hf] at w;exact w σ H' ⟨Hc0,O0,r0.grow x.hh x.nf⟩
 ·simp only[hf] at w;exact w
 ·simp only[hf] at w
  refine q2.open r' (λ c hg Hc2 H2 x2=>?_) (λ hg=>?_) λ d2 fr2 v2 Hc2 H2 hg x2 r2 rp2=>?_
  ·simp only[hg] at w
   have xx:=x.trans x2;exact w σ H2 ⟨Hc0,O0,r0.grow xx.hh xx.nf⟩
  ·simp only[hg] at w;exact w
  ·simp only[hg] at w
   exact⟨v,v2,rfl,w _ H2 ⟨Hc2,O,(r2.setSh (rp.same x2.vv)).setSh rp2⟩⟩
end
def ItZ (K:F5)(l1 l2:Addr):It:=
  ⟨λ i H=>∃ (xs ys:List V) (x y:V),SqL K H l1 xs/\SqL K H l2 ys/\xs[i]?=some x/\ys[i]?=some y,
   λ i H v H'=>∃ p,H p=none/\v=.ref p/\∀ xs ys,SqL K H l1 xs->SqL K H l2 ys->∃ x y,xs[i]?=some x/\ys[i]?=some y/\H'=upd H p (.tup [x,y]),
   λ i H=>∃ xs ys,SqL K H l1 xs/\SqL K H l2 ys/\(xs.length<=i\/ys.length<=i)⟩
theorem Inv.but {X:Cx}{pins:List (Addr×Obj)}{σ:St}{H:Hp}{s:Shared}{ch:List Addr}{h':Heap}(I:Inv X pins σ H s)(hf:∀ b∈ch,i9 X pins H b)(k:∀ b o,b∉ch->s.heap.get? b=some o->h'.get? b=some o):Inv X pins σ H { s with heap:=h' }:=by
 have nch:∀ b u,H b=some u->b∉ch:=λ b u e hb=>by rw[(hf b hb).1] at e;cases e
 refine I.step (g':=s.gens) (d':=s.drawn) (t':=s.toks) (ch:=ch) (λ b hb=>⟨(hf b hb).2.2.2.1,(hf b hb).2.1,(hf b hb).2.2.2.2.1,(hf b hb).2.2.2.2.2⟩) (λ b o _ _ hc e _=>k b o hc e) (λ b o _ _ hc e _=>⟨o.slots,k b o hc e⟩) (λ _ _ _ _ n=>n)
  (λ b o hc e=>⟨o,k b o hc e⟩) (λ _ _ e=>e) (λ _ _ _ e=>e) (λ b ps e=>⟨#[],by rw[e];simp⟩) (λ m hm=>?_) (λ b u e=>?_) I.bare
 ·obtain⟨o,es,ep,ho,r⟩:=hm
  exact⟨o,es,ep,k _ _ (λ hb=>(hf _ hb).2.1 rfl) ho,r⟩
 ·refine(I.hok b u e).stay (λ c v hc q=>k c v ?_ q) (λ c q=>q) λ c xs q=>q
  rcases hc with rfl|hc
  ·exact nch _ u e
  ·exact nch _ _ hc
theorem wD {P:Program}{w:World}{K:F5}{es:List Expr}{kt:Nat}{tpos:Pos}{z TI TO i1 i2 l1 l2:Addr}(Dz:ZipApart z TI TO i1 i2 l1 l2):
  Turn P w K (.Tuple es kt tpos) (ItZ K l1 l2) [z,TI,TO,i1,i2] z (λ i h=>IsZip h z TI TO .none/\IsPair h TI (.ref i1) (.ref i2)/\(∃ a b,IsPair h TO a b)/\h.IsListIter i1 l1 i/\h.IsListIter i2 l2 i) where
 mem:=by simp
 obj:=λ i h ⟨a1,a2,⟨_,_,a3⟩,⟨o4,e4,_,d4⟩,⟨o5,e5,_,d5⟩⟩ b hb=>by
  simp only[Dw,Dt,or_false] at hb
  rcases hb with rfl|rfl|rfl|rfl|rfl
  ·exact⟨_,a1,λ v q=>by cases q⟩
  ·exact⟨_,a2,λ v q=>by cases q⟩
  ·exact⟨_,a3,λ v q=>by cases q⟩
  ·exact⟨_,e4,λ v q=>by rw[d4] at q;cases q⟩
  ·exact⟨_,e5,λ v q=>by rw[d5] at q;cases q⟩
 keep:=λ i h h' ⟨a1,a2,⟨x,y,a3⟩,a4,a5⟩ k=>⟨k z (by simp) _ a1,k TI (by simp) _ a2,⟨x,y,k TO (by simp) _ a3⟩,a4.at λ o e=>k i1 (by simp) o e,a5.at λ o e=>k i2 (by simp) o e⟩
 item:=by
  intro X hP hw hK hc i pins s σ H E I hf ⟨a1,a2,⟨xa,xb,a3⟩,a4,a5⟩ hg;subst hP hw hK;obtain⟨xs,ys,x,y,hq1,hq2,hx,hy⟩:=hg;obtain⟨its1,r1,p1,z1⟩:=I.list hq1;obtain⟨its2,r2,p2,z2⟩:=I.list hq2;obtain⟨u1,e1,ru1⟩:=r1.get hx;obtain⟨u2,e2,ru2⟩:=r2.get hy;refine wpAny_pyNext_zip_item Dz a1 a2 a3 a4 a5 p1.isList p2.isList (x:=u1) (y:=u2) (by simpa using e1) (by simpa using e2) λ h' b1 b2 b3 b4 b5 b6 kk=>?_
  refine⟨_,rfl,wpAny_letOwnedTupleGo_zip b1 λ h2 hz sb=>?_⟩;have hf0:H s.heap.objs.size=none:=I.hok.fresh (Dh _);have ltz:s.heap.objs.size≠z:=E8 (F6 a1);have kept:∀ b o,b∉[z,TI,TO,i1,i2]->s.heap.get? b=some o->h2.get? b=some o:=λ b o hb e=>by
   simp only[Dw,Dt,or_false,not_or] at hb;exact(sb.2 b hb.1).trans (kk b o hb.1 hb.2.2.1 hb.2.2.2.1 hb.2.2.2.2 e)
  have I2:Inv X pins σ H { s with heap:=h2 }:=Inv.but I hf kept;have tp:IsTup h2 s.heap.objs.size #[u1,u2]:=⟨_,(sb.2 _ ltz).trans b5,rfl,_,rfl⟩;have I3:Inv X pins σ (upd H s.heap.objs.size (.tup [x,y])) { s with heap:=h2 }:=by
   have hk2:HOk X.prog X.w (upd H s.heap.objs.size (.tup [x,y])) h2:=gT I2.hok hf0 ⟨by show 2<=sizeLine;decide,[u1,u2],.cons ru1 (.cons ru2 .nil),tp⟩;have nsz:∀ b o,s.heap.get? b=some o->b≠s.heap.objs.size:=λ b o e=>De (F6 e)
   refine I.step (g':=s.gens) (d':=s.drawn) (t':=s.toks) (ch:=[z,TI,TO,i1,i2]) (λ b hb=>⟨(hf b hb).2.2.2.1,(hf b hb).2.1,(hf b hb).2.2.2.2.1,(hf b hb).2.2.2.2.2⟩) (λ b o _ _ hc e _=>kept b o hc e) (λ b o _ _ hc e _=>⟨o.slots,kept b o hc e⟩) (λ b o _ e n=>by rw[ah (nsz b o e)];exact n)
    (λ b o hc e=>⟨o,kept b o hc e⟩) (λ b us e=>by rw[ah (ax e hf0)];exact e) (λ b ob us e=>by rw[ah (ax e hf0)];exact e) (λ b ps e=>⟨#[],by rw[ah (ax e hf0),e];simp⟩) (λ m hm=>?_) hk2 I.bare
   obtain⟨o,es,ep,ho,r⟩:=hm;exact⟨o,es,ep,kept _ _ (λ hb=>(hf _ hb).2.1 rfl) ho,r⟩
  have c4:h2.IsListIter i1 l1 (i+1):=b3.extBut sb.extBut Dz.i1z;have c5:h2.IsListIter i2 l2 (i+1):=b4.extBut sb.extBut Dz.i2z;refine⟨.ref s.heap.objs.size,_,I3,rfl,⟨s.heap.objs.size,hf0,rfl,λ as bs h1 h2'=>?_⟩,⟨hz,?_,⟨u1,u2,(sb.2 TO Dz.TOz).trans b2⟩,c4,c5⟩,λ b hb=>?_⟩
  ·exact⟨x,y,by rw[I.list_inj h1 hq1];exact hx,by rw[I.list_inj h2' hq2];exact hy,rfl⟩
  ·exact(sb.2 TI Dz.TIz).trans (kk TI _ Dz.TIz Dz.TITO Dz.TIi1 Dz.TIi2 a2)
  ·have hbs:b≠s.heap.objs.size:=by
    simp only[Dw,Dt,or_false] at hb
    rcases hb with rfl|rfl|rfl|rfl|rfl
    ·exact De (F6 a1)
    ·exact De (F6 a2)
    ·exact De (F6 a3)
    ·obtain⟨o,e,_⟩:=a4;exact De (F6 e)
    ·obtain⟨o,e,_⟩:=a5;exact De (F6 e)
   rw[ah hbs];exact(hf b hb).1
 done:=by
  intro X hP hw hK hc i pins s σ H E I hf ⟨a1,a2,⟨xa,xb,a3⟩,a4,a5⟩ hg;subst hP hw hK;obtain⟨xs,ys,hq1,hq2,hx⟩:=hg;obtain⟨its1,r1,p1,z1⟩:=I.list hq1;obtain⟨its2,r2,p2,z2⟩:=I.list hq2;have n1:=r1.length;have n2:=r2.length;refine wpAny_pyNext_zip_end (I.ok.hd hc) Dz a1 a2 a3 a4 a5 p1.isList p2.isList (by
   rcases hx with hx|hx
   ·left;simp;omega
   ·right;simp;omega) λ h' kk=>⟨rfl,Inv.but I hf λ b o hb e=>?_⟩
  simp only[Dw,Dt,or_false,not_or] at hb;exact kk b o hb.1 hb.2.2.1 hb.2.2.2.1 hb.2.2.2.2 e
 self:=λ _ _ _ _ _ st h=>wpAny_pyIter_zip st.1 h
def Bl (K:F5)(ta:TA):TI:=λ σ H T=>ta σ H λ vs H1=>∃ l1 l2 xs ys,vs=[.ref l1,.ref l2]/\SqL K H1 l1 xs/\SqL K H1 l2 ys/\T (ItZ K l1 l2) H1
theorem zX {X:Cx}{a b:Expr}{ta:TA}{es:List Expr}{kt:Nat}{tpos p pos:Pos}(hg:Gl X "zip")(hm:X.mg "zip"=none)(ha:PA X [a,b] ta)(hs:starEach [a,b] X.env=[(false,eval a X.env),(false,eval b X.env)])(hs2:starEach [b] X.env=[(false,eval b X.env)]):
  PI X (.Tuple es kt tpos) (.Call (.Name "zip" p) [a,b] [] pos) (Bl X.K ta):=by
 intro pins s σ H R I h;refine Call_ (eP I hg hm (by decide +kernel:bootBuiltins "zip"=some (.type "zip")) (Gp (thn (ha pos pins s σ H _ I h) λ us s1 ⟨vs,H1,I1,r1,q1⟩=>?_) (by rw[hs,hs2]) (by rw[hs2];rfl)));obtain⟨l1,l2,xs,ys,rfl,hq1,hq2,q⟩:=q1;obtain⟨u1,u2,rfl,e1,e2⟩:=vals2 r1;cases e1;cases e2;obtain⟨its1,rr1,p1,z1⟩:=I1.list hq1;obtain⟨its2,rr2,p2,z2⟩:=I1.list hq2;refine call_zip_2 p1.isList p2.isList λ h' c1 c2 c3 c4 c5 c6 kk=>?_
 have lt1:l1<s1.heap.objs.size:=by obtain⟨o,e,_⟩:=p1.isList;exact F6 e
 have lt2:l2<s1.heap.objs.size:=by obtain⟨o,e,_⟩:=p2.isList;exact F6 e
 have I2:Inv X pins σ H1 { s1 with heap:=h' }:=I1.kept (t':=s1.toks) kk;generalize hN:s1.heap.objs.size=N at c1 c2 c3 c4 c5 c6 lt1 lt2 ⊢;have Dz:ZipApart (N+4) (N+2) (N+3) N (N+1) l1 l2:=by
  have far:∀ {l:Addr},l<N->∀ k:Nat,l≠N+k:=λ h k=>De (Do h (Eb _ _))
  have ne:∀ {a b:Nat},a<b->a≠b:=λ h=>De h
  have ne':∀ {a b:Nat},b<a->a≠b:=λ h=>E8 h
  exact⟨ne ⋯,ne ⋯,ne ⋯,ne ⋯,ne ⋯,ne' ⋯,ne' ⋯,ne' ⋯,ne' ⋯,ne ⋯,far lt1 4,far lt1 3,De lt1,far lt1 1,far lt2 4,far lt2 3,De lt2,far lt2 1⟩
 refine wpAny_pyIter_zip c1 ⟨N+4,[N+4,N+2,N+3,N,N+1],_,_,H1,rfl,I2,wD Dz,⟨c1,c2,⟨_,_,c3⟩,c4,c5⟩,λ b hb=>?_,q⟩;have hb':s1.heap.objs.size<=b:=by
  rw[hN];simp only[Dw,Dt,or_false] at hb
  rcases hb with rfl|rfl|rfl|rfl|rfl
  ·exact Eb _ _
  ·exact Eb _ _
  ·exact Eb _ _
  ·exact Dh _
  ·exact Eb _ _
 exact I1.fpOk hb' (I1.hok.fresh hb')
theorem zip_get {xs ys:List D}{i:Nat}{d:D}(h:(List.zipWith (λ x y=>D.tup [x,y]) xs ys)[i]?=some d):∃ x y,xs[i]?=some x/\ys[i]?=some y/\d=.tup [x,y]:=by
 rw[List.getElem?_zipWith] at h;cases h1:xs[i]? with
 | none=>rw[h1] at h;cases h
 | some x=>
  cases h2:ys[i]? with
  | none=>rw[h1,h2] at h;cases h
  | some y=>rw[h1,h2] at h;cases h;exact⟨x,y,rfl,rfl,rfl⟩
theorem Am {C:Ctx}{a b:Expr}{f g:EE}{es:List Expr}{kt:Nat}{tpos p pos:Pos}(hg:Gl C.X "zip")(hm:C.X.mg "zip"=none)(ha:SE C a f)(hb:SE C b g)(hs:autoParam (starEach [a,b] C.X.env=[(false,eval a C.X.env),(false,eval b C.X.env)]) ZF._auto_1)(hs2:autoParam (starEach [b] C.X.env=[(false,eval b C.X.env)]) ZF._auto_1):
  SI C (.Tuple es kt tpos) (.Call (.Name "zip" p) [a,b] [] pos) (Dv.iZip f g):=by
 obtain⟨t,pe,q⟩:=ha;obtain⟨t2,pe2,q2⟩:=hb;refine⟨_,zX hg hm (av pe (av pe2 aF hs2) (by rw[hs,hs2])) hs hs2,λ σ H Hv ρ T er s w=>?_⟩;refine q σ H Hv ρ _ er s ?_
 unfold Dv.iZip at w;cases hf:f ρ with
 | bad=>rw[hf] at w;exact w
 | exc c=>rw[hf] at w;exact w
 | ok d fr=>
  rw[hf] at w;intro v Hv' H' x rp n;cases d with
  | lst xs=>
   refine q2 σ H' Hv' ρ _ (er.same x.vv) x.vh ?_
   cases hg':g ρ with
   | bad=>simp only[hg'] at w;exact w
   | exc c=>simp only[hg'] at w;exact λ Hv2 H2 y=>w Hv2 H2 (x.trans y)
   | ok d2 fr2=>
    simp only[hg'] at w;intro v2 Hv2 H2 y rp2 n2;cases d2 with
    | lst ys=>
     have rp1:=rp.same y.vv;unfold Rp at rp1 rp2;obtain⟨l1,vs,rfl,h1,h2⟩:=rp1;obtain⟨l2,ws,rfl,h3,h4⟩:=rp2;refine⟨l1,l2,vs,ws,rfl,(h1.same y.vh).seq,(h3.same y.vh).seq,w _ Hv2 H2 (x.trans y) λ i H3 s3=>⟨λ d hd=>?_,λ hi=>?_⟩⟩
     ·obtain⟨dx,dy,g1,g2,rfl⟩:=zip_get hd
      obtain⟨vx,k1,k2⟩:=h2.get g1;obtain⟨vy,k3,k4⟩:=h4.get g2;refine⟨⟨vs,ws,vx,vy,(h1.same s3).seq,(h3.same s3).seq,k1,k3⟩,λ u H4 ⟨p,hp,e1,hh⟩=>?_⟩;obtain⟨x',y',m1,m2,rfl⟩:=hh vs ws (h1.same s3).seq (h3.same s3).seq;rw[k1] at m1;rw[k3] at m2;cases m1;cases m2;subst e1;have nx:=Ext.new1 s3 hp (.tup [vx,vy]);refine⟨_,nx,?_⟩;unfold Rp;exact⟨p,_,rfl,.inl aq,.cons (k2.same nx.vv) (.cons (k4.same nx.vv) .nil)⟩
     ·refine⟨vs,ws,(h1.same s3).seq,(h3.same s3).seq,?_⟩
      rw[h2.length,h4.length];rw[List.length_zipWith] at hi;omega
    | _=>exact Zf w
  | _=>exact Zf w
theorem pH {C:Ctx}{ts:List Expr}{xs:List Nat}{kt:Nat}{tpos:Pos}(hg:SGs C ts xs)(hl:ts.length=xs.length)(hn:autoParam ((assignEach ts C.X.env).length=ts.length) ZF._auto_1)(hst:autoParam ((assignEach ts C.X.env).findIdx? (·.1)=none) ZF._auto_1)(hcl:autoParam (C.X.calm=true) ZF._auto_1):
  SG C (.Tuple ts kt tpos) (Dv.tupTo xs):=by
 obtain⟨g,pg,qg⟩:=hg;refine⟨_,o2 hcl pg hn hst,λ Hv₀ H₀ Hc O H σ s s' d v T r rp e h=>?_⟩;unfold Dv.tupTo at e;cases d with
 | tup ds=>
  by_cases hz:ds.length=xs.length
  ·simp only[hz,if_true] at e
   cases e;unfold Rp at rp;obtain⟨a,vs,rfl,h2,h3⟩:=rp;exact⟨a,vs,rfl,.inl (Rd.same r.ch h2),by rw[h3.length,hz,hl],qg Hv₀ H₀ Hc O H σ s ds vs _ r h3 hz h⟩
  ·simp only[hz,if_false] at e
   cases e
 | _=>cases e
section
variable {C:Ctx}{a b c e k:Expr}{f g h:EE}{pos pos':Pos}
theorem yg {H H' Hv Hv':Hp}{es:List D}{v:V}(x:Ext Hv H Hv' H')(rn:Rp [] (Hnew H H') (.lst es) v):∃ b zs,v=.ref b/\H' b=some (.lst zs)/\H b=none/\RpL [] (Hnew H H') es zs:=by
 unfold Rp at rn;obtain⟨a,vs,rfl,h1,h2⟩:=rn;have h1':Hnew H H' a=some (.lst vs):=by
  rcases h1 with (h1|⟨o,h1⟩)|⟨its,m,e,_⟩
  ·exact h1
  ·exfalso
   have hn:H a=none:=by
    unfold Hnew at h1;cases q:H a with
    | none=>rfl
    | some u=>rw[q] at h1;cases h1
   exact x.nf a o _ hn (Hnew.sub a _ h1)
  ·simp at e
 have hn:H a=none:=by
  unfold Hnew at h1';cases q:H a with
  | none=>rfl
  | some u=>rw[q] at h1';cases h1'
 exact⟨a,vs,rfl,Hnew.sub a _ h1',hn,h2⟩
end
section
variable {C:Ctx}{a b c e:Expr}{f g h:EE}{pos:Pos}
theorem aU (ha:SE C a f)(hb:SE C b g):SE C (.BinOp a .Add b pos) (Dv.eOp .add f g):=f7 AY ha hb
theorem eA (ha:SE C a f)(hb:SE C b g):SE C (.BinOp a .Sub b pos) (Dv.eOp .sub f g):=f7 zW ha hb
theorem br (ha:SE C a f)(hb:SE C b g):SE C (.BinOp a .Mult b pos) (Dv.eOp .mul f g):=f7 zN ha hb
theorem aY (ha:SE C a f)(hb:SE C b g):SE C (.BinOp a .Mod b pos) (Dv.eOp .mod f g):=f7 zp ha hb
theorem d8 (ha:SE C a f)(hb:SE C b g):SE C (.BinOp a .FloorDiv b pos) (Dv.eOp .fdiv f g):=f7 xY ha hb
theorem lD (ha:SE C a f)(hb:SE C b g):SE C (.BinOp a .Pow b pos) (Dv.eOp .pow f g):=f7 Al ha hb
theorem pE (ha:SE C a f)(hb:SE C b g):SE C (.BinOp a .RShift b pos) (Dv.eOp .shr f g):=f7 Ar ha hb
theorem ig (ha:SE C a f)(hb:SE C b g):SE C (.Compare a [.Eq] [b] pos) (Dv.eCm .eq f g):=n8 os_eq ha hb (nomark _)
theorem Bj (ha:SE C a f)(hb:SE C b g):SE C (.Compare a [.NotEq] [b] pos) (Dv.eCm .ne f g):=n8 yN ha hb (nomark _)
theorem mL (ha:SE C a f)(hb:SE C b g):SC C (.Compare a [.Lt] [b] pos) (Dv.eCm .lt f g):=dj Be ha hb (nomark _)
theorem yS (ha:SE C a f)(hb:SE C b g):SC C (.Compare a [.LtE] [b] pos) (Dv.eCm .le f g):=dj BX ha hb (nomark _)
theorem wC (ha:SE C a f)(hb:SE C b g):SC C (.Compare a [.Gt] [b] pos) (Dv.eCm .gt f g):=dj Bd ha hb (nomark _)
theorem yO (ha:SE C a f)(hb:SE C b g):SC C (.Compare a [.GtE] [b] pos) (Dv.eCm .ge f g):=dj Cd ha hb (nomark _)
theorem c8 (ha:SE C a f)(hb:SE C b g):SC C (.Compare a [.Eq] [b] pos) (Dv.eCm .eq f g):=dj os_eq ha hb (nomark _)
theorem js (ha:SE C a f)(hb:SE C b g):SC C (.Compare a [.NotEq] [b] pos) (Dv.eCm .ne f g):=dj yN ha hb (nomark _)
theorem zb (ha:SE C a f)(hb:SE C b g)(hm:autoParam (behindInMarks .In b=false) ZL._auto_1):SC C (.Compare a [.In] [b] pos) (Dv.eCm .isin f g):=dj BR ha hb hm
theorem mO (ha:SE C a f)(hb:SE C b g)(hm:autoParam (behindInMarks .NotIn b=false) ZL._auto_1):SC C (.Compare a [.NotIn] [b] pos) (Dv.eCm .notin f g):=dj vV ha hb hm
theorem u3 {x:Str}{i:Int}{t:Tok}(hg:Gl C.X x)(hm:C.X.mg x=some (.int i t))(hd:autoParam ((x == ("__debug__":Str))=false) ZC._auto_1):SE C (.Name x pos) (Dv.eInt i):=
 ⟨_,lx (v:=.int i) hg hm ⟨t,rfl⟩ hd,λ _ _ _ _ _ _ s q=>q.now (v:=.int i) s bK rfl⟩
theorem bL {p:Pos}(hm:C.X.mg "len"=none)(hg:Gl C.X "len")(ha:SE C a f)(he:autoParam (starEach [a] C.X.env=[(false,eval a C.X.env)]) ZF._auto_1):SE C (.Call (.Name "len" p) [a] [] pos) (Dv.eB1 Dv.lenD f):=pY AO hg hm GI ha (by decide) (by decide) he
theorem cA {p:Pos}(hm:C.X.mg "sorted"=none)(hg:Gl C.X "sorted")(ha:SE C a f)(he:autoParam (starEach [a] C.X.env=[(false,eval a C.X.env)]) ZF._auto_1):SE C (.Call (.Name "sorted" p) [a] [] pos) (Dv.eB1 Dv.sortedD f):=pY rG hg hm PyProof.Rows.boot_sorted ha (by decide) (by decide) he
theorem p8 {p:Pos}(hm:C.X.mg "list"=none)(hg:Gl C.X "list")(ha:SE C a f)(he:autoParam (starEach [a] C.X.env=[(false,eval a C.X.env)]) ZF._auto_1):SE C (.Call (.Name "list" p) [a] [] pos) (Dv.eB1 Dv.listD f):=zd xX hg hm (by decide +kernel) ha (by decide) (by decide) he
theorem yz {p:Pos}(hm:C.X.mg "int"=none)(hg:Gl C.X "int")(ha:SE C a f)(he:autoParam (starEach [a] C.X.env=[(false,eval a C.X.env)]) ZF._auto_1):SE C (.Call (.Name "int" p) [a] [] pos) (Dv.eB1 Dv.intD f):=zd zF hg hm (by decide +kernel) ha (by decide) (by decide) he
theorem wH {p:Pos}(hm:C.X.mg "max"=none)(hg:Gl C.X "max")(ha:SE C a f)(hb:SE C b g)(he:autoParam (starEach [a,b] C.X.env=(false,eval a C.X.env)::starEach [b] C.X.env) ZF._auto_1)(he2:autoParam (starEach [b] C.X.env=[(false,eval b C.X.env)]) ZF._auto_1)(hcl:autoParam (C.X.calm=true) ZF._auto_1):SE C (.Call (.Name "max" p) [a,b] [] pos) (Dv.eB2 Dv.max2D f g):=B9 (zK hcl) hg hm (by decide +kernel) ha hb (by decide) (by decide) he he2
theorem vC {p p2:Pos}(hm:C.X.mg "isinstance"=none)(hmx:C.X.mg "int"=none)(hg:Gl C.X "isinstance")(hgx:Gl C.X "int")(ha:SE C a f)(he:autoParam (starEach [a,.Name "int" p2] C.X.env=(false,eval a C.X.env)::starEach [.Name "int" p2] C.X.env) ZF._auto_1)
  (he2:autoParam (starEach [.Name "int" p2] C.X.env=[(false,eval (.Name "int" p2) C.X.env)]) ZF._auto_1):SE C (.Call (.Name "isinstance" p) [a,.Name "int" p2] [] pos) (Dv.eB1 Dv.isIntD f):=lI _ rY (λ d fr h=>by cases d <;>first|rfl|exact absurd h (by simp[Dv.noTy])) wV hg hm hgx hmx (by decide +kernel) ha (by decide) (by decide) he he2
theorem rO {p p2:Pos}(hm:C.X.mg "isinstance"=none)(hmx:C.X.mg "bool"=none)(hg:Gl C.X "isinstance")(hgx:Gl C.X "bool")(ha:SE C a f)(he:autoParam (starEach [a,.Name "bool" p2] C.X.env=(false,eval a C.X.env)::starEach [.Name "bool" p2] C.X.env) ZF._auto_1)
  (he2:autoParam (starEach [.Name "bool" p2] C.X.env=[(false,eval (.Name "bool" p2) C.X.env)]) ZF._auto_1):SE C (.Call (.Name "isinstance" p) [a,.Name "bool" p2] [] pos) (Dv.eB1 Dv.isBoolD f):=lI _ oO (λ d fr h=>by cases d <;>first|rfl|exact absurd h (by simp[Dv.noTy])) vM hg hm hgx hmx (by decide +kernel) ha (by decide) (by decide) he he2
theorem tP {p p2:Pos}(hm:C.X.mg "isinstance"=none)(hmx:C.X.mg "list"=none)(hg:Gl C.X "isinstance")(hgx:Gl C.X "list")(ha:SE C a f)(he:autoParam (starEach [a,.Name "list" p2] C.X.env=(false,eval a C.X.env)::starEach [.Name "list" p2] C.X.env) ZF._auto_1)
  (he2:autoParam (starEach [.Name "list" p2] C.X.env=[(false,eval (.Name "list" p2) C.X.env)]) ZF._auto_1):SE C (.Call (.Name "isinstance" p) [a,.Name "list" p2] [] pos) (Dv.eB1 Dv.isListD f):=lI _ oz (λ d fr h=>by cases d <;>first|rfl|exact absurd h (by simp[Dv.noTy])) vY hg hm hgx hmx (by decide +kernel) ha (by decide) (by decide) he he2
end
structure Df (K:F5)(mg:Str->Option Value)(x:Str)(st:Stmt)(ps:List Str)(f:Addr)(fd:FuncData):Prop where
 m:mg x=some (.ref f)
 kp:Gn K (.ref f)=true
 ex:∃ (oc:Value) (od:Option Addr) (dV kV doc pm:Value) (an:Option Addr) (cdv ct:Value) (osl:Array (Option Value)),
  fd=Ga x x (be st) (aO st) (af st) dV kV doc pm an cdv ct/\K.lookup f=some ⟨oc,od,.func fd,osl⟩/\Gy K cdv x=true
 bd:Binds K fd ps []
section
variable {P:Program}{w:World}{K:F5}{mg:Str->Option Value}{base:Heap}{CX:CXT}{cls:String->Value}
theorem Df.ok (hC:CXok P w CX){x:Str}{st:Stmt}{f:Addr}{fd:FuncData}{N ps:List Str}{k:Nat}{body:SS}(d:Df K mg x st ps f fd)(S:FnScope N ps (af st))
  (hbody:∀ (cdv:Value) (A:Around) (outer:List Gg) (s:Shared) (H:Hp) (E:XK) (hr:Room k (A.deeper (envOfC x (af st) s.heap.objs.size f cdv))),SSs (cZ hC cls K mg base N x (af st) f cdv A outer s H E hr) (aO st) body):
  FnOk P w K mg base CX (k+1) f fd ps (spD K cls (Dv.fn N.length body) ps.length):=by
 obtain⟨oc,od,dV,kV,doc,pm,an,cdv,ct,osl,rfl,lk,hcd⟩:=d.ex;exact BQ hC cls oc od dV kV doc pm an cdv ct osl lk hcd S (hbody cdv)
theorem yL {x:Str}{st:Stmt}{ps:List Str}{f:Addr}{oc:Value}{od an:Option Addr}{osl:Array (Option Value)}{dV kV doc pm cdv ct:Value}(m:mg x=some (.ref f))(l:K.lookup f=some ⟨oc,od,.func (Ga x x (be st) (aO st) (af st) dV kV doc pm an cdv ct),osl⟩)
  (c:Gy K cdv x=true) (k:Gn K (.ref f)=true)
  (h:∀ (kV doc pm:Value) (an:Option Addr) (cdv ct:Value) (us:List Value),us.length=ps.length->bindArgs (Ga x x (be st) (aO st) (af st) dV kV doc pm an cdv ct) ⟨us,[]⟩=pure (ps.zip us)):
  Df K mg x st ps f (Ga x x (be st) (aO st) (af st) dV kV doc pm an cdv ct):=⟨m,k,⟨oc,od,dV,kV,doc,pm,an,cdv,ct,osl,rfl,l,c⟩,.all (h kV doc pm an cdv ct)⟩
end
theorem AC {K:F5}{mg:Str->Option Value}{x:Str}{st:Stmt}{ps:List Str}{f:Addr}{oc:Value}{od an:Option Addr}{osl:Array (Option Value)}{dV kV doc pm cdv ct:Value}(m:mg x=some (.ref f))(l:K.lookup f=some ⟨oc,od,.func (Ga x x (be st) (aO st) (af st) dV kV doc pm an cdv ct),osl⟩)
  (c:Gy K cdv x=true) (k:Gn K (.ref f)=true) (bd:Binds K (Ga x x (be st) (aO st) (af st) dV kV doc pm an cdv ct) ps []):
  Df K mg x st ps f (Ga x x (be st) (aO st) (af st) dV kV doc pm an cdv ct):=⟨m,k,⟨oc,od,dV,kV,doc,pm,an,cdv,ct,osl,rfl,l,c⟩,bd⟩
theorem aH {C:Ctx}{e:Expr}{es:List Expr}{fl:EL}{k j:Nat}{fa:Addr}{fd:FuncData}{st:Stmt}{ps:List Str}{Fm:List D->R}{x:Str}{p pos:Pos}(d:Df C.X.K C.X.mg x st ps fa fd)(Fn:FnOk C.X.prog C.X.w C.X.K C.X.mg C.X.base C.CX j fa fd ps (spD C.X.K C.cls Fm ps.length))(hr:Room k C.X.A)(hj:j<=k)
  (hg:Gl C.X x) (ha:SL C (e::es) fl) (hlen:autoParam ((e::es).length=ps.length) ZF._auto_1) (hdb:autoParam ((x == ("__debug__":Str))=false) ZC._auto_1) (he:autoParam (starEach (e::es) C.X.env=(false,eval e C.X.env)::starEach es C.X.env) ZF._auto_1) (hpl:autoParam ((backTo pos (starEach es C.X.env)).any (·.1)=false) ZF._auto_1):
  SE C (.Call (.Name x p) (e::es) [] pos) (Dv.eCall Fm fl):=by
 have q:=wL (pos:=pos) (p:=p) (dds:=[]) (dvs:=[]) (dus:=[]) Fn hr hj hg d.m d.kp d.bd .nil (λ _ _=>.nil) ha (by simpa using hlen) hdb he hpl;have e1:(λ ds=>Fm (ds++[]))=Fm:=by funext ds;rw[DT]
 rw[e1] at q;exact q
theorem Df.is {P:Program}{w:World}{K:F5}{mg:Str->Option Value}{base:Heap}{CX:CXT}{cls:String->Value}(hC:CXok P w CX){x:Str}{st:Stmt}{f:Addr}{fd:FuncData}{ps:List Str}{F:List D->R}{m j:Nat}(N:List Str)(k:Nat)(body:SS)(d:Df K mg x st ps f fd)(S:FnScope N ps (af st))
  (hj:j=k+1) (hm:m=ps.length) (hF:F=Dv.fn N.length body)
  (hbody:∀ (cdv:Value) (A:Around) (outer:List Gg) (s:Shared) (H:Hp) (E:XK) (hr:Room k (A.deeper (envOfC x (af st) s.heap.objs.size f cdv))),SSs (cZ hC cls K mg base N x (af st) f cdv A outer s H E hr) (aO st) body):
  FnOk P w K mg base CX j f fd ps (spD K cls F m):=by
 subst hj hm hF;exact d.ok hC S hbody
structure Fly (P:Program)(w:World)(outer:List Gg)(H:Hp)(s:Shared)(a:Addr)(cls:Value)(H':Hp)(B:Heap)(t:Addr)(s':Shared):Prop where
 os:s'.os=s.os
 bare:AllBare s'.gens
 fl:Heap.FlyingW B outer a cls (.ref t) s'.heap
 keepB:∀ b o,s.heap.get? b=some o->H b=none->b∉frs outer->B.get? b=some o
 thereB:∀ b o,s.heap.get? b=some o->b∉frs outer->∃ o',B.get? b=some o'
 slot:∀ b o,s.heap.get? b=some o->H b=none->b∈frs outer->∃ sl,s'.heap.get? b=some { o with slots:=sl }
 free:∀ b o,s.heap.get? b=some o->H b=none->H' b=none
 tups:∀ b xs,H b=some (.tup xs)->H' b=some (.tup xs)
 frzs:∀ b o u,H b=some (.frz o u)->H' b=some (.frz o u)
 tbls:∀ b ps,H b=some (.tbl ps)->∃ more,H' b=some (.tbl (ps++more))
 hokB:HOk P w H' B
def CXe (P:Program)(w:World):CXT:=λ outer H s E e s'=>∃ a cls H' B t,e=.ref a/\Fly P w outer H s a cls H' B t s'/\E cls none H'
theorem xT {P:Program}{w:World}{H:Hp}{h h':Heap}(x:HOk P w H h)(k:∀ b u,H b≠none->h.get? b=some u->h'.get? b=some u):HOk P w H h':=λ a o e=>
 (x a o e).stay (λ b u hb q=>k b u (by
  rcases hb with rfl|hb
  ·rw[e];exact λ z=>nomatch z
  ·rw[hb];exact λ z=>nomatch z) q) (λ _ q=>q) λ _ _ q=>q
theorem eg {B h:Heap}{l:List Gg}{b:Addr}{o:Obj}(f:h.FunFrames B l)(hb:b∈frs l)(e:h.get? b=some o):∀ vs,o.data≠.fields vs:=by
 obtain⟨_,o',e',n⟩:=f.mem hb;rw[e] at e';cases e';exact n
section
variable {P:Program}{w:World}{K:F5}{mg:Str->Option Value}{base:Heap}{N:List Str}{qual:Str}{scope:Scope}{f:Addr}{cd:Value}{A:Around}{outer:List Gg}{s:Shared}{H:Hp}{E:XK}
theorem cT {b:Addr}{o:Obj}(e:s.heap.get? b=some o)(hb:b∉frs outer):b∉frs (envOfC qual scope s.heap.objs.size f cd::outer):=λ m=>by
 have m':b∈s.heap.objs.size::frs outer:=m
 rcases List.mem_cons.mp m' with rfl|m'
 ·exact absurd (F6 e) (DZ _)
 ·exact hb m'
theorem jy {b:Addr}(hb:b∈frs outer):b∈frs (envOfC qual scope s.heap.objs.size f cd::outer):=CV (s.heap.objs.size) hb
theorem rR (pins:List (Addr×Obj))(σ:St)(H1:Hp)(s1:Shared)(e:Value)(s':Shared)(I:Inv (cK (CXe P w) P w K mg base N qual scope f cd A outer s H E) pins σ H1 s1)
  (h:CXe P w (cK (CXe P w) P w K mg base N qual scope f cd A outer s H E).stack H1 s1 E e s'):(cK (CXe P w) P w K mg base N qual scope f cd A outer s H E).xe e s':=by
 obtain⟨a,cls,H',B,t,rfl,F,q⟩:=h;have noex:∀ b:Addr,b∉(cK (CXe P w) P w K mg base N qual scope f cd A outer s H E).ex:=λ b z=>absurd (show b∈([]:List Addr) from z) (by simp)
 refine wpAny_leaves_onW (L:=s.heap.objs.size) I.ok.frames rfl F.fl λ h' x1 x2=>?_
 refine⟨a,cls,H',B,t,rfl,⟨F.os.trans I.os,F.bare,x1,λ b o e n hb=>?_,λ b o e hb=>?_,λ b o e n hb=>?_,λ b o e n=>?_,λ b xs e=>?_,λ b o u e=>?_,λ b ps e=>?_,F.hokB⟩,q⟩
 ·exact F.keepB b o (I.base.keep b o e n hb (noex b)) (I.base.free b o e n (noex b)) (cT e hb)
 ·obtain⟨o1,e1⟩:=I.base.there b o e (noex b)
  exact F.thereB b o1 e1 (cT e hb)
 ·obtain⟨sl,e1⟩:=I.base.slot b o e n hb (noex b)
  obtain⟨sl2,e2⟩:=F.slot b _ e1 (I.base.free b o e n (noex b)) (jy hb);obtain⟨sl3,e3⟩:=x2 b _ e2 (eg F.fl.2.2.1 (jy hb) e2);exact⟨sl3,e3⟩
 ·obtain⟨o1,e1⟩:=I.base.there b o e (noex b)
  exact F.free b o1 e1 (I.base.free b o e n (noex b))
 ·exact F.tups b xs (I.base.tups b xs e)
 ·exact F.frzs b o u (I.base.frzs b o u e)
 ·obtain⟨m1,e1⟩:=I.base.tbls b ps e
  obtain⟨m2,e2⟩:=F.tbls b _ e1;exact⟨m1++m2,by rw[e2,Ij]⟩
theorem cxe_ok {P:Program}{w:World}:CXok P w (CXe P w):=⟨λ _ _ _ _ _ ⟨_,_,_,_,_,_,_,q⟩=>q,λ _ _ _ _ _ _ _ _ _ _ _ _ _ pins σ H1 s1 e s' I h=>rR pins σ H1 s1 e s' I h⟩
theorem nC {pins:List (Addr×Obj)}{σ:St}{H1:Hp}{s1:Shared}{h':Heap}{e:Addr}{cls:Value}{vs:List Value}(I:Inv (cK (CXe P w) P w K mg base N qual scope f cd A outer s H E) pins σ H1 s1)
  (hx:Heap.MadeExcOf s1.heap h' e cls vs) (hE:E cls none H1):(cK (CXe P w) P w K mg base N qual scope f cd A outer s H E).xe (.ref e) { s1 with heap:=h' }:=by
 have noex:∀ b:Addr,b∉(cK (CXe P w) P w K mg base N qual scope f cd A outer s H E).ex:=λ b z=>absurd (show b∈([]:List Addr) from z) (by simp)
 have hfr:s1.heap.FunFrames (Ht s1.heap (frs (envOfC qual scope s.heap.objs.size f cd::outer))) (envOfC qual scope s.heap.objs.size f cd::outer):=
  PySem.W.funFrames_hide I.stack λ env he b hb=>List.mem_filterMap.mpr ⟨env,he,hb⟩
 refine wpAny_leaves_madeW (L:=s.heap.objs.size) (base:=Ht s1.heap (frs (envOfC qual scope s.heap.objs.size f cd::outer))) I.ok.frames rfl (λ b o q=>Ii _ q) hfr hx λ h2 t x1 x2 x3 x4=>?_
 refine⟨e,cls,H1,_,t,rfl,⟨I.os,I.bare,x1,λ b o q n hb=>?_,λ b o q hb=>?_,λ b o q n hb=>?_,λ b o q n=>I.base.free b o q n (noex b),λ b xs q=>I.base.tups b xs q,λ b o u q=>I.base.frzs b o u q,λ b ps q=>I.base.tbls b ps q,?_⟩,hE⟩
 ·exact GS _ (I.base.keep b o q n hb (noex b)) (cT q hb)
 ·obtain⟨o1,e1⟩:=I.base.there b o q (noex b)
  exact⟨o1,GS _ e1 (cT q hb)⟩
 ·obtain⟨sl,e1⟩:=I.base.slot b o q n hb (noex b)
  obtain⟨sl2,e2⟩:=x4 b _ (hx.keeps _ _ e1) (eg hfr (jy hb) e1);exact⟨sl2,e2⟩
 ·refine xT I.hok λ b u hb q=>GS _ q λ m=>hb ?_
  exact I.stkFree b m
end
structure XCls (K:F5)(mg:Str->Option Value)(c:String)(C:Addr):Prop where
 m:mg (Gq c)=some (.ref C)
 ns:Gb K mainGlobals (Gq c)=some (some (.ref C))
 ex:GB K C [.type "ValueError",.type "Exception",.type "BaseException",.type "object"] "ValueError.__new__"=true
 lk:∃ bm N nm qn bs hd sn sub ab col dd k0 k1 k2 k3 k5,K.lookup C=some (excClassObj nm qn C N bs bm hd sn sub ab col dd k0 k1 k2 k3 k5 "ValueError.__new__")
theorem rJ {K:F5}{C:Addr}{bm0:List Value}{newId:String}(q:GB K C bm0 newId=true)(l:∃ bm N nm qn bs hd sn sub ab col dd k0 k1 k2 k3 k5,K.lookup C=some (excClassObj nm qn C N bs bm hd sn sub ab col dd k0 k1 k2 k3 k5 newId)):
  ∃ bm N nm qn bs hd sn sub ab col dd k0 k1 k2 k3 k5,K.lookup C=some (excClassObj nm qn C N bs bm hd sn sub ab col dd k0 k1 k2 k3 k5 newId)/\G9 K N=true/\Gb K N "__init__"=some none/\IB K bm0 bm=true:=by
 obtain⟨bm,N,nm,qn,bs,hd,sn,sub,ab,col,dd,k0,k1,k2,k3,k5,l⟩:=l;unfold GB at q;rw[l] at q;have q:(C == C&&newId == newId&&!false&&IB K bm0 bm&&G9 K N&&Gb K N "__init__" == some none)=true:=q;simp only[C3,beq_iff_eq] at q;exact⟨bm,N,nm,qn,bs,hd,sn,sub,ab,col,dd,k0,k1,k2,k3,k5,l,q.1.2,q.2,q.1.1.2⟩
theorem xr {K:F5}{h h':Heap}{N:Addr}{m:Str->Option Value}(X:K.In h)(X':K.In h')(e:G9 K N=true)(n:h.Ns N m):h'.Ns N m:=by
 obtain⟨o,es,ep,ho,hd,r⟩:=n;unfold G9 at e
 split at e
 ·rename_i a b c d q
  have:=X _ _ q;rw[ho] at this;cases this;exact⟨_,es,ep,X' _ _ q,hd,r⟩
 ·cases e
theorem nB {P:Program}{w:World}{K:F5}{mg:Str->Option Value}{base:Heap}{N:List Str}{qual:Str}{scope:Scope}{f:Addr}{cd:Value}{A:Around}{outer:List Gg}{s:Shared}{H:Hp}{E:XK}{c:String}{Ca:Addr}{tx:Str}{j:Nat}{np p2 cpos pos:Pos}
  (x:XCls K mg c Ca) (hg:Gl (cK (CXe P w) P w K mg base N qual scope f cd A outer s H E) (Gq c)) (hd:(Gq c == ("__debug__":Str))=false) (hh:(A.deeper (envOfC qual scope s.heap.objs.size f cd)).handled=none):
  PS (cK (CXe P w) P w K mg base N qual scope f cd A outer s H E) (.Raise (some (.Call (.Name (Gq c) np) [.Constant (.str tx) j p2] [] cpos)) none pos) (λ _ _ H1=>E (.ref Ca) none H1):=by
 intro pins s1 σ H1 D I hE;obtain⟨bm,Na,nm,qn,bs,hdd,sn,sub,ab,col,dd,k0,k1,k2,k3,k5,hC,hN,hni,hT⟩:=rJ x.ex x.lk;have T:=Ir I.kIn hT;refine wpAny_Raise_call_subT (C:=Ca) (nm:=nm) (q:=qn) (N:=Na) (bs:=bs) (bm:=bm) (hdct:=hdd) (sn:=sn) (sub:=sub) (ab:=ab) (col:=col) (dd:=dd) (k0:=k0) (k1:=k1) (k2:=k2) (k3:=k3) (k5:=k5) PySem.F.excBase_ValueError (mN:=s1.heap.nsMap Na) (T.hasType (by decide)) hh rfl (PySem.W.nsMap_none_of_in I.kIn hN hni) ?_
 have pn:=lx (X:=cK (CXe P w) P w K mg base N qual scope f cd A outer s H E) (v:=.ref Ca) (pos:=np) hg x.m rfl hd;refine thn (pn pins s1 σ H1 (λ v H2=>v=.ref Ca/\H2=H1) I ⟨rfl,rfl⟩) ?_
 rintro u s2 ⟨v,H2,I2,r2,rfl,rfl⟩
 obtain rfl:u=Gh Ca:=r2;refine⟨rfl,HQ ?_⟩;have pa:=av (X:=cK (CXe P w) P w K mg base N qual scope f cd A outer s H E) (e:=.Constant (.str tx) j p2) gL aF;refine thn (pa cpos pins s2 σ H2 (λ vs H3=>vs=[.str tx]/\H3=H2) I2 ⟨rfl,rfl⟩) ?_
 rintro us s3 ⟨vs,H3,I3,r3,rfl,rfl⟩
 have hl:us.length=1:=r3.length.symm;refine⟨rfl,by rw[hl];decide,I3.kIn _ _ hC,xr I.kIn I3.kIn hN (.of_isNs (PySem.W.isNs_of_in I.kIn hN)),Ir I3.kIn hT,λ h' e hx=>?_⟩;exact nC I3 hx hE
theorem fg {P:Program}{w:World}{K:F5}{mg:Str->Option Value}{base:Heap}{cls:String->Value}{N:List Str}{qual:Str}{scope:Scope}{f:Addr}{cd:Value}{A:Around}{outer:List Gg}{s:Shared}{H:Hp}{E:XK}{k:Nat}{hr:Room k (A.deeper (envOfC qual scope s.heap.objs.size f cd))}{c:String}{Ca:Addr}{tx:Str}{j:Nat}{np p2 cpos pos:Pos}
  (x:XCls K mg c Ca) (hcls:cls c=.ref Ca) (hg:Gl (cK (CXe P w) P w K mg base N qual scope f cd A outer s H E) (Gq c)) (hd:autoParam ((Gq c == ("__debug__":Str))=false) ZC._auto_1):
  SSs (cZ (cxe_ok (P:=P) (w:=w)) cls K mg base N qual scope f cd A outer s H E hr) [.Raise (some (.Call (.Name (Gq c) np) [.Constant (.str tx) j p2] [] cpos)) none pos] (Dv.sRaise c):=by
 refine⟨_,bz (nB x hg hd hr.hd),λ Hv₀ H₀ E' σ H' st r q=>?_⟩;have q':E (cls c) none H':=q σ H' r;rw[hcls] at q';exact q'
structure XLook (K:F5)(C:Addr):Prop where
 ex:GB K C [.type "ValueError",.type "Exception",.type "BaseException",.type "object"] "ValueError.__new__"=true
 lk:∃ bm N nm qn bs hd sn sub ab col dd k0 k1 k2 k3 k5,K.lookup C=some (excClassObj nm qn C N bs bm hd sn sub ab col dd k0 k1 k2 k3 k5 "ValueError.__new__")
 ga:F7 K (.ref C) "__getattribute__"=some (some (.builtin "BaseException.__getattribute__"))
 gn:F7 K (.ref C) "__getattr__"=some none
 kc:F7 K (.ref C) "__class__"=some (some (.builtin "object.__class__"))
structure XAll (K:F5)(mg:Str->Option Value)(ad:String->Option Addr):Prop where
 cl:∀ c C,ad c=some C->XCls K mg c C/\XLook K C
 sub:∀ c C k C',ad c=some C->ad k=some C'->Gj K (.ref C) (.ref C')=some (Dv.subX c k)
 val:∀ c C,ad c=some C->Gj K (.ref C) (.type "ValueError")=some true
theorem Fly.un {P:Program}{w:World}{outer:List Gg}{H H':Hp}{s s':Shared}{a t:Addr}{cls:Value}{B h:Heap}(F:Fly P w outer H s a cls H' B t s')(sb:B.StaysIn h)(sm:s'.heap.UpToSlots h)(hf:∀ b∈frs outer,H b=none):
  Un (frs outer) [] H H' s.heap h where
 keep:=λ b o e n hb _=>sb b o (F.keepB b o e n hb)
 slot:=λ b o e n hb _=>by
  obtain⟨sl,e1⟩:=F.slot b o e n hb;obtain⟨sl2,e2⟩:=sm b _ e1 (eg F.fl.2.2.1 hb e1);exact⟨sl2,e2⟩
 free:=λ b o e n _=>F.free b o e n
 there:=λ b o e _=>by
  by_cases hb:b∈frs outer
  ·obtain⟨sl,e1⟩:=F.slot b o e (hf b hb) hb
   obtain⟨sl2,e2⟩:=sm b _ e1 (eg F.fl.2.2.1 hb e1);exact⟨_,e2⟩
  ·obtain⟨o1,e1⟩:=F.thereB b o e hb
   exact⟨o1,sb b o1 e1⟩
 tups:=F.tups
 frzs:=F.frzs
 tbls:=F.tbls
theorem Fly.none {P:Program}{w:World}{outer:List Gg}{H H':Hp}{s s':Shared}{a t:Addr}{cls:Value}{B:Heap}(F:Fly P w outer H s a cls H' B t s'):H' a=Option.none:=by
 cases q:H' a with
 | none=>rfl
 | some o=>
  have e:=F.fl.2.1;obtain⟨o',h1⟩:∃ o',B.get? a=some o':=by
   have:=(F.hokB a o q).lt;have k:=F.hokB a o q;cases o with
   | lst xs=>obtain⟨_,_,_,_,z⟩:=k;exact⟨_,z⟩
   | tup xs=>obtain⟨_,_,_,_,z,_⟩:=k;exact⟨_,z⟩
   | dK kvs=>obtain⟨_,_,_,_,o,_,_,z,_⟩:=k;exact⟨_,z⟩
   | dT kvs=>obtain⟨_,_,_,_,o,_,_,z,_⟩:=k;exact⟨_,z⟩
   | set S n=>obtain⟨o,_,_,_,z,_⟩:=k;exact⟨_,z⟩
   | ins C dx fs=>obtain⟨_,_,_,z,_⟩:=k;exact⟨_,z⟩
   | own y=>obtain⟨_,z⟩:=k;exact⟨_,z⟩
   | xd fs=>obtain⟨_,⟨_,_,_,z,_⟩,_⟩:=k;exact⟨_,z⟩
   | rng lo hi=>obtain⟨_,_,_,z⟩:=k;exact⟨_,z⟩
   | frz ob u=>obtain⟨z,_⟩:=k;exact⟨_,z⟩
   | tbl ps=>exact⟨_,(show B.get? a=some _ from k)⟩
   | met f y=>exact⟨_,(show B.get? a=some _ from k)⟩
   | ext φ=>obtain⟨_,⟨_,z⟩,_⟩:=k;exact⟨_,z⟩
  rw[e] at h1;cases h1
open PySem PySem.W PySem.Calls PyProof.Rows
theorem iU:∀ {ns:List Int} {x:Int},x∈ns->(GU x).weight<=Hw (ns.map GU)
 | [],_,h=>by simp at h
 | n::r,x,h=>by
  rw[CN];unfold Hw
  rcases List.mem_cons.mp h with rfl|h
  ·omega
  ·have:=iU h
   omega
theorem yc {ns:List Int}(h:WData.layableAll [IA (ns.map GU)]=true):∀ x∈ns,Dv.bits x<=1048576:=λ x hx=>by
 have h1:=layableW_arg h _ (CS ..);obtain⟨_,_,h2⟩:=layableW_iff.mp h1;have h3:Iu (IA (ns.map GU))=Hw (ns.map GU):=by unfold Iu;rfl
 have h4:=iU hx;have h5:(GU x).weight=Dv.bits x:=by
  unfold Iu Dv.bits;by_cases e:x=0
  ·simp[e]
  ·simp[e]
 rw[h3] at h2;omega
theorem yh {l:OpenLaw}{n:Nat}{q:Program}{loose:List Str}{XP:(Str->Option Value)->Heap->Prop}{YP:World->Heap->Prop}{d:DefRec}(hn:l.most=some n)(hdf:d.params.defaults=[])
  (run:∀ (w:World) (s₀ s₁:Shared) (mg mb:Str->Option Value) (fa:Addr) (a:Addr) (vs:List Value) (ns:List Int),Ground q loose [] XP w s₀ mg mb s₁.heap->YP w s₁.heap->mg d.name=some (.ref fa) ->
   s₁.heap.get? a=some { cls:=.type "list",data:=.seq vs.toArray }->IntsAre vs ns->ns.length<=n->(∀ x∈ns,Dv.bits x<=1048576)->s₁.gens=#[] ->
   codeAny (model l.prog w) callerA (.call (.ref fa) ⟨[.ref a],[]⟩) (λ r s'=>r=.ok (.ret (.bool true))/\OldK s₁.heap s'.heap/\s'.os=s₁.os/\AllBare s'.gens) s₁):
  WalkO q loose XP YP l.row.toRowW d [] (λ f vs=>PySem.call f vs):=by
 intro w s₀ s₁ mg mb G Y fa o pm cd doc dV kV ho hd hcd hD hmg hg args vals as hpre hlay hrd hwl hlo;obtain⟨a,vs,ns,rfl,rfl,hobj,hints,hlen⟩:=Att.script_of hn hpre hwl;have hbits:=yc hlay;refine enter_call (G4 (run w s₀ s₁ mg mb fa a vs ns G Y hmg hobj hints hlen hbits hg) ?_)
 rintro r s' ⟨rfl,h2,h3,h4⟩
 exact⟨.inl ⟨.bool true,.bool true,[],rfl,λ _=>rfl,.bool true,Att.post_true l _,λ _=>⟨List.Pairwise.nil,λ _ hm=>(nomatch hm)⟩⟩,h2,h3,h4⟩
theorem walkD {l:OpenLaw}{k:Nat}{q:Program}{loose:List Str}{XP:(Str->Option Value)->Heap->Prop}{YP:World->Heap->Prop}{d:DefRec}{K:Params->Frag}{CX:World->L2.CXT}{x:Str}{Fl:List Dv.D->Dv.R}
  (hn:l.most=some 63) (hdf:d.params.defaults=[]) (hr:L2.Room k callerA) (hY:∀ (w:World) (h:Heap),YP w h->(K w.params).In h) (hC:∀ w,CXok l.prog w (CX w))
  (F:∀ (w:World) (mg:Str->Option Value) (fa:Addr) (h:Heap),(K w.params).In h->h.Ns mainGlobals mg->mg d.name=some (.ref fa) ->
   ∃ (fd:FuncData) (cls:String->Value),(∀ (s:Shared) (u:Value),BindsTo s fd ⟨[u],[]⟩ [(x,u)])/\∀ base:Heap,(K w.params).In base->base.Ns mainGlobals mg->L2.FnOk l.prog w (K w.params) mg base (CX w) k fa fd [x] (spD (K w.params) cls Fl 1))
  (hF:∀ ns:List Int,ns.length<=63->(∀ x∈ns,Dv.bits x<=1048576)->Fl [.lst (ns.map .int)]=.ok (.bl true) true):
  WalkO q loose XP YP l.row.toRowW d [] (λ f vs=>PySem.call f vs):=by
 refine yh hn hdf λ w s₀ s₁ mg mb fa a vs ns G Y hmg hobj hints hlen hbits hg=>?_
 have KX:=hY w _ Y;obtain⟨fd,cls,hb,hFn⟩:=F w mg fa _ KX G.T.g hmg;have hK:∀ o,(K w.params).lookup a=some o->o={ cls:=.type "list",data:=.seq vs.toArray }:=λ o e=>by
  have:=KX a o e;rw[hobj] at this;exact(Option.some.inj this).symm
 have hl:ns.length<=sizeLine:=DJ hlen (by decide);refine L2.law_call KX G.T.g G.T.b G.T.builtins G.T.nolimit hg hobj hints hl hr hFn hb (λ H hO hS=>?_) λ H e s'=>(hC w).no [] H s₁ e s'
 refine⟨[.lst (ns.map .int)],H,rfl,.refl _,?_,?_⟩
 ·refine .cons ?_ .nil
  unfold Rp;refine⟨a,ns.map L2.V.int,rfl,?_,RpL.ofInts ns⟩
  rcases hS with hS|⟨o,its,m,e,_,_,e2,z,v⟩
  ·exact .inl hS
  ·have e3:=hK o e
   subst e3;cases e2;exact .inr ⟨vs,_,e,by rw[CY];exact hl,by simpa using v⟩
 ·rw[hF ns hlen hbits]
  intro v Hv' H' _ rp _;unfold Rp at rp;exact rp
open Dv in
def aG (ad:String->Option Addr)(c:String):Value:=match ad c with
 | some C=>.ref C
 | none=>.none
theorem dO {ad:String->Option Addr}{c:String}{C:Addr}(h:ad c=some C):aG ad c=.ref C:=by unfold aG;rw[h]
def wu (l:List (String×Addr))(c:String):Option Addr:=l.lookup c
theorem fm:∀ {l:List (String×Addr)} {c:String} {C:Addr},wu l c=some C->(c,C)∈l
 | [],c,C,h=>by simp[wu] at h
 | (k,v)::r,c,C,h=>by
  unfold wu at h;rw[Dy] at h
  split at h
  ·rename_i q
   cases h;rw[beq_iff_eq.mp q];exact CS ..
  ·exact CV _ (fm (l:=r) h)
theorem xC {K:Frag}{mg:Str->Option Value}(l:List (String×Addr))(h1:∀ p∈l,XCls K mg p.1 p.2/\XLook K p.2/\kitOne K (.ref p.2) (.type "ValueError")=some true)(h2:∀ p∈l,∀ q∈l,kitOne K (.ref p.2) (.ref q.2)=some (Dv.subX p.1 q.1)):XAll K mg (wu l) where
 cl:=λ c C h=>let z:=h1 _ (fm h);⟨z.1,z.2.1⟩
 sub:=λ c C k C' h h'=>h2 _ (fm h) _ (fm h')
 val:=λ c C h=>(h1 _ (fm h)).2.2
theorem eT {α:Type}{p:α->Prop}:∀ x∈([]:List α),p x:=λ x h=>absurd h (by simp)
theorem az {α:Type}{p:α->Prop}{a:α}{l:List α}(h:p a)(r:∀ x∈l,p x):∀ x∈a::l,p x:=λ x m=>by
 rcases List.mem_cons.mp m with rfl|m
 ·exact h
 ·exact r x m
end Sd
namespace Dv
def upL (lo:Int):Nat->List Int
 | 0=>[]
 | n+1=>lo::upL (lo+1) n
end Dv
namespace Sd
open PySem PySem.Spec PyProof.Rows L2 HT
open Dv (D R RL EE EL EI RI Sl Out SS)
section
variable {C:Ctx}{a:Expr}{f:EE}{pos:Pos}
theorem mU:∀ {xs:List V} {us:List Value},Vals xs us->Vals xs.reverse us.reverse
 | _,_,.nil=>.nil
 | _,_,.cons r t=>by
  rw[D9,D9];exact(mU t).append (.cons r .nil)
theorem zC {X:Cx}{t:TE}{ts:TO}{st:Expr}{p2:Pos}(he:PE X a t)(hs:PO X (some st) ts):PE X (.Subscript a (.Slice none none (some st) p2) pos) (λ σ H Q=>t σ H λ x H1=>ts σ H1 λ l H2=>∃ b xs,l=some (-1)/\x=.ref b/\SqX X.K H2 b xs/\∀ p,H2 p=none->Q (.ref p) (upd H2 p (.lst xs.reverse))):=by
 intro pins s σ H Q I h;refine HP (thn (he pins s σ H _ I h) λ v s1 ⟨x,H1,I1,r1,q1⟩=>?_);refine wpAny_Slice ?_
 rw[HV];refine Gc ?_
 refine Gc ?_
 refine thn (hs pins s1 σ H1 _ I1 q1) λ vs s3 ⟨l,H3,I3,pl,b,xs,e1,e2,hq,go⟩=>?_
 subst e1 e2;cases r1;have I4:L2.Inv X pins σ H3 { s3 with heap:=s3.heap.push { cls:=.type "slice",data:=.fields #[.none,.none,vs] } }:=I3.kept (t':=s3.toks) λ b ob q=>F8 _ q
 obtain⟨its,n,rv,e,z⟩:=Inv.listX I4 hq;have hl:=rv.length;have hli:Heap.IsList (s3.heap.push { cls:=.type "slice",data:=.fields #[.none,.none,vs] }) b its.toArray:=⟨_,e,rfl,n,rfl⟩;show wpAny (model X.prog X.w) X.A (subscriptTail a (.Slice none none (some st) p2) (.ref b) (.ref s3.heap.objs.size)) (EP X pins σ Q) X.xe { s3 with heap:=s3.heap.push { cls:=.type "slice",data:=.fields #[.none,.none,vs] } }
 refine tail_any (ops:=[.ref b,.ref s3.heap.objs.size]) (T:="list") hli.typeIs slot_list_getitem.lookup ?_ (by with_unfolding_all rfl)
 refine Ho hli (Io ..) .none .none pl (by simp) ?_ (by rw[Dd];omega)
 rw[PySem.W.krv_pick];refine⟨.ref _,_,I4.laid (t':=s3.toks) (o:=.lst xs.reverse) (λ b ob q=>F8 _ q) (Dh _) ?_,rfl,go _ (I4.hok.fresh (Dh _))⟩;exact⟨by rw[EU];exact z,_,0,mU rv,Gd _ rfl⟩
end
end Sd
namespace Dv
def lexLt:List Int->List Int->Bool
 | [],[]=>false
 | [],_::_=>true
 | _::_,[]=>false
 | x::xs,y::ys=>if x=y then lexLt xs ys else decide (x<y)
def pk (bt:Nat->Nat->Bool):Nat->Nat
 | 0=>0
 | k+1=>if bt (k+1) (pk bt k) then k+1 else pk bt k
def yE (nss:List (List Int)):Nat:=pk (λ i j=>lexLt (nss.getD i []) (nss.getD j [])) (nss.length-1)
def least (nss:List (List Int)):List Int:=nss.getD (yE nss) []
end Dv
namespace Sd
open PySem PySem.Spec PyProof.Rows L2 HT
open Dv (D R RL EE EL EI RI Sl Out SS)
section
open PySem.SeqAt
open PySem.AutoSeq1 (wpAny_loadPart')
open PySem.MeetsSeq PySem.MeetsSeq2 PySem.MeetsSeq3
end
end Sd
namespace Dv
def eqsD:List D->D->Option (List Bool)
 | [],_=>some []
 | d::r,b=>match eqD d b,eqsD r b with
  | some p,some q=>some (p::q)
  | _,_=>none
def indexD:D->D->R
 | .lst ds,b=>if decide (depthL ds<=8)&&decide (depthD b<=8)&&decide (ds.length<=mx) then match eqsD ds b with
   | some bs=>match bs.findIdx? id with
    | some j=>.ok (.int j) true
    | none=>.bad
   | none=>.bad
  else .bad
 | _,_=>.bad
def eIndex (a b:EE):EE:=λ ρ=>(a ρ).bind λ x _=>match x with
 | .lst ds=>(b ρ).bind λ y _=>indexD (.lst ds) y
 | _=>.bad
end Dv
namespace Sd
open PySem PySem.Spec PyProof.Rows L2 HT
open Dv (D R RL EE EL EI RI Sl Out SS)
theorem um:∀ {ds:List D} {b:D} {bs:List Bool},Dv.eqsD ds b=some bs->bs.length=ds.length/\∀ (i:Nat) (d:D),ds[i]?=some d->∃ p,bs[i]?=some p/\Dv.eqD d b=some p
 | [],b,bs,h=>by
  unfold Dv.eqsD at h;cases h;exact⟨rfl,λ i d hd=>by simp at hd⟩
 | d::ds,b,bs,h=>by
  simp only[Dv.eqsD] at h;cases h1:Dv.eqD d b with
  | none=>rw[h1] at h;cases h
  | some p=>
   cases h2:Dv.eqsD ds b with
   | none=>rw[h1,h2] at h;cases h
   | some q=>
    rw[h1,h2] at h;cases h;obtain⟨l1,l2⟩:=um h2;refine⟨by simp[l1],λ i d' hd=>?_⟩;cases i with
    | zero=>simp at hd;subst hd;exact⟨p,rfl,h1⟩
    | succ i=>exact l2 i d' (by simpa using hd)
theorem uU {K:F5}{H:Hp}:∀ {ds:List D} {vs:List V},RpL K H ds vs->vs.length=ds.length/\∀ (i:Nat) (v:V),vs[i]?=some v->∃ d,ds[i]?=some d/\Rp K H d v
 | [],vs,r=>by unfold RpL at r;subst r;exact⟨rfl,λ i v h=>by simp at h⟩
 | d::ds,vs,r=>by
  unfold RpL at r;obtain⟨v,ws,rfl,h1,h2⟩:=r;obtain⟨l1,l2⟩:=uU h2;refine⟨by simp[l1],λ i v' hv=>?_⟩;cases i with
  | zero=>simp at hv;subst hv;exact⟨d,rfl,h1⟩
  | succ i=>exact l2 i v' (by simpa using hv)
theorem ky:∀ {ds:List D} {i:Nat} {d:D},ds[i]?=some d->Dv.depthD d<=Dv.depthL ds
 | [],i,d,h=>by simp at h
 | x::r,0,d,h=>by simp at h;subst h;unfold Dv.depthL;omega
 | x::r,i+1,d,h=>by
  have:=ky (ds:=r) (i:=i) (d:=d) (by simpa using h);unfold Dv.depthL;omega
open Classical in
theorem uB {X:Cx}(hu:X.A.units+64<cLine):MtR X "list.index" (λ x xs H Q=>∃ l vs ds y d bs j,x=.ref l/\xs=[y]/\SqX X.K H l vs/\RpL X.K H ds vs/\Rp X.K H d y/\Dv.depthL ds<=8/\Dv.depthD d<=8/\ds.length<=Dv.mx/\Dv.eqsD ds d=some bs/\bs.findIdx? id=some j/\Q (.int j) H):=by
 intro pins s σ H x xs v us Q I rx rv h;obtain⟨l,vs,ds,y,d,bs,j,rfl,rfl,hq,hds,hd,z1,z2,z3,heq,hj,go⟩:=h;cases rx;obtain⟨u,rfl,ry⟩:=Vals.one rv;obtain⟨its,n,rvs,e,z⟩:=Inv.listX I hq;have hl:=rvs.length;obtain⟨b1,b2⟩:=um heq;obtain⟨r1,r2⟩:=uU hds;obtain⟨as,rb⟩:=bQ I d y u hd ry ⋯;have key:∀ (i:Nat) (w:Value),its[i]?=some w->∃ di p as,bs[i]?=some p/\Reads s.heap w (pd di) as/\Gu (pd di) (pd d)=p:=λ i w hw=>by
  have hi:i<vs.length:=by
   rcases Nat.lt_or_ge i its.length with h|h
   ·omega
   ·rw[Dm h] at hw;cases hw
  have hv:vs[i]?=some vs[i]:=Dg hi
  obtain⟨u',h1,h2⟩:=rvs.get hv;rw[hw] at h1;cases h1;obtain⟨di,h3,h4⟩:=r2 i _ hv;obtain⟨p,h5,h6⟩:=b2 i di h3;obtain⟨as',ra⟩:=bQ I di _ w h4 h2 (by have:=ky h3;omega);exact⟨di,p,as',h5,ra,ia _ _ _ h6⟩
 let ev:Value->Bool:=λ w=>decide (∃ dd as,Reads s.heap w dd as/\dd.canLay0=true/\Gu dd (pd d)=true)
 have hev:∀ (w:Value) (dd:PyData) (as:List Addr),Reads s.heap w dd as->dd.canLay0=true->ev w=Gu dd (pd d):=λ w dd as ra hc=>by
  cases hp:Gu dd (pd d) with
  | true=>exact decide_eq_true ⟨dd,as,ra,hc,hp⟩
  | false=>
   refine decide_eq_false λ⟨d2,as2,ra2,hc2,hp2⟩=>?_
   have:=SeqAt.Reads.unique dd d2 w as as2 hc ra ra2;subst this;rw[hp] at hp2;cases hp2
 have hat:∀ (i:Nat) (w:Value) (p:Bool),its[i]?=some w->bs[i]?=some p->ev w=p:=λ i w p hw hp=>by
  obtain⟨di,p',as',h1,h2,h3⟩:=key i w hw;rw[hp] at h1;cases h1;rw[hev w _ _ h2 (cN di),h3]
 obtain⟨jl,jt,jf⟩:=List.findIdx?_eq_some_iff_getElem.mp hj;have hji:j<its.toArray.size:=by rw[Dd];omega
 have hmx:j<2 ^ 63-1:=by unfold Dv.mx at z3;omega
 refine GW Hr ⟨_,e,rfl⟩ PySem.F.entry_list_index (PySem.F.args_list_index_2 _ _) (SeqAt.list_indexAt l its.toArray n none #[] u ev j hji ⋯ ?_ ?_) ⟨e,λ w hw=>?_,⟨.int j,H,I.tok _,⟨_,rfl⟩,go⟩⟩
 ·exact hat j _ true (by simp) (by rw[Dg jl];simpa using jt)
 ·intro m hm hmj
  have hml:m<bs.length:=⋯
  refine hat m _ false (by simp) ?_
  rw[Dg hml];have:=jf m hmj;simpa using this
 ·have hw2:w∈its:=by simpa using hw
  obtain⟨i,hi,rfl⟩:=EV hw2;obtain⟨di,p,as',h1,h2,h3⟩:=key i _ (Dg hi);rw[hev _ _ _ h2 (cN di)];refine SeqAt.eqAt_reads _ _ _ _ _ _ _ _ h2 rb (cN di) (cN d) ?_
  have:=cF d;have:=Nat.min_le_right (pd di).depth (pd d).depth;rw[Around.in1_units];omega
section
variable {C:Ctx}{a b:Expr}{f g:EE}{pos:Pos}
theorem vU {apos cpos:Pos}(ha:SE C a f)(hb:SE C b g)(hst:autoParam (starEach [b] C.X.env=[(false,eval b C.X.env)]) ZF._auto_1)
  (hbase:autoParam (attributeBase a "index" C.X.env (eval a C.X.env)=eval a C.X.env) ZF._auto_1)
  (hfew:autoParam (((backTo cpos (starEach [b] C.X.env)).all (λ x=>!x.1)&&(backToKw cpos (keywordEach [] C.X.env)).all (λ x=>x.1.isSome)
   && decide ([b].length+([]:List Keyword).length+(if ([]:List Keyword).isEmpty then 0 else 1)<30))=true) ZF._auto_1)
  (hline:autoParam ((apos.endLine == cpos.line)=true) ZF._auto_1):SE C (.Call (.Attribute a "index" apos) [b] [] cpos) (Dv.eIndex f g):=by
 obtain⟨t,pa,qa⟩:=ha;obtain⟨u,pb,qb⟩:=hb;refine⟨_,iu Gi Hr PySem.F.type_list_index (uB C.un) pa (av pb aF hst) hbase hfew hline hst rfl,λ σ H Hv ρ Q e s w=>?_⟩;refine qa.step e (.refl s) w λ v d fr Hv1 H1 _ x1 _ rp1 _ q1=>?_
 cases d with
 | lst ds=>
  unfold Rp at rp1;obtain⟨l,vs,rfl,h1,h2⟩:=rp1;refine⟨.inl ⟨rfl,vs,(h1.same x1.vh).seq⟩,?_⟩;refine qb.step e x1 q1 λ v2 d2 fr2 Hv2 H2 _ x2 y2 rp2 _ q2=>?_
  simp only[Dv.indexD] at q2;by_cases hz:(decide (Dv.depthL ds<=8)&&decide (Dv.depthD d2<=8)&&decide (ds.length<=Dv.mx))=true
  ·simp only[hz,if_true] at q2
   simp only[C3,decide_eq_true_eq] at hz;cases he:Dv.eqsD ds d2 with
   | none=>rw[he] at q2;exact Zf q2
   | some bs=>
    rw[he] at q2;cases hj:bs.findIdx? id with
    | none=>simp only[hj] at q2;exact Zf q2
    | some j=>
     simp only[hj] at q2;exact⟨l,vs,ds,v2,d2,bs,j,rfl,rfl,(h1.same y2.vv).same x2.vh,(h2.same y2.vv).same x2.vh,rp2.same x2.vh,hz.1.1,hz.1.2,hz.2,he,hj,q2.at x2 bK rfl⟩
  ·simp only[hz] at q2
   exact Zf q2
 | _=>exact Zf q1
end
end Sd
namespace Dv
def look:List Int->List D->Int->Option D
 | k::ks,d::ds,j=>if k=j then some d else look ks ds j
 | _,_,_=>none
def replL:List Int->List D->Int->D->List D
 | k::ks,d::ds,j,x=>(if k=j then x else d)::replL ks ds j x
 | _,ds,_,_=>ds
def putL (ks:List Int)(ds:List D)(j:Int)(x:D):List D:=if j∈ks then replL ks ds j x else ds++[x]
def putKs (ks:List Int)(j:Int):List Int:=if j∈ks then ks else ks++[j]
def eDict0:EE:=λ _=>.ok (.dct [] []) true
def eDix (a k:EE):EE:=λ ρ=>(a ρ).bind λ x f=>(k ρ).bind λ y _=>match x,y with
 | .dct ks ds,.int j=>match look ks ds j with
  | some d=>.ok d (f || scal d)
  | none=>.bad
 | _,_=>.bad
def sDPut (is:List Nat)(i:Nat)(k e:EE):SS:=λ st=>match (give is st)[i]? with
 | some (.ow (.dct ks ds))=>match e (open_ (give is st)) with
  | .ok d _=>match k (open_ (give is st)) with
   | .ok (.int j) _=>if decide (ks.length<mx)&&decide (ks.length=ds.length) then .nx ((give is st).set i (.ow (.dct (putKs ks j) (putL ks ds j d)))) else .bad
   | .exc c=>.exc c st
   | _=>.bad
  | .exc c=>.exc c st
  | .bad=>.bad
 | _=>.bad
def lstsFlat:List D->Bool
 | []=>true
 | .lst es::r=>flatL es&&lstsFlat r
 | _::_=>false
def sDMove (i y:Nat)(k:EE):SS:=λ st=>match st[i]?,st[y]? with
 | some (.dp (.dct ks ds)),some (.ow (.lst es))=>match k (all st) with
  | .ok (.int j) _=>if flatL es&&lstsFlat ds&&decide (ks.length<mx)&&decide (ks.length=ds.length)&&decide (i≠y) then .nx ((st.set y .no).set i (.dp (.dct (putKs ks j) (putL ks ds j (.lst es))))) else .bad
  | .exc c=>.exc c st
  | _=>.bad
 | _,_=>.bad
def enumL:Nat->List D->List D
 | _,[]=>[]
 | i,d::r=>.tup [.int i,d]::enumL (i+1) r
def iEnum (a:EE):EI:=λ ρ=>match a ρ with
 | .ok (.lst xs) _=>.ok (enumL 0 xs) true
 | .exc c=>.exc c
 | _=>.bad
def downL (hi:Int):Nat->List D
 | 0=>[]
 | n+1=>.int hi::downL (hi-1) n
def iDown (a b:EE):EI:=λ ρ=>match a ρ with
 | .ok (.int i) _=>match b ρ with
  | .ok (.int j) _=>if rngOk i&&rngOk j then .ok (downL i (i-j).toNat) true else .bad
  | .exc c=>.exc c
  | _=>.bad
 | .exc c=>.exc c
 | _=>.bad
def sForR (x:Nat)(it:EI)(body:SS):SS:=λ st=>match it (all st) with
 | .ok ds _=>forGo x body ds st
 | .exc c=>.exc c st
 | .bad=>.bad
def blsOf:List D->Option (List Bool)
 | []=>some []
 | .bl b::r=>(blsOf r).map (b::·)
 | _::_=>none
def allD:D->Bool->R
 | .lst ds,_=>match blsOf ds with
  | some bs=>.ok (.bl (bs.all id)) true
  | none=>.bad
 | _,_=>.bad
def isTupD:D->Bool->R
 | .exn _,_=>.bad
 | .ins _ _,_=>.bad
 | .raw _,_=>.bad
 | .tab _,_=>.bad
 | .tup _,_=>.ok (.bl true) true
 | _,_=>.ok (.bl false) true
def minI:Int->List Int->Int
 | a,[]=>a
 | a,b::r=>minI (if b<a then b else a) r
def minLD:D->Bool->R
 | .lst ds,_=>match intsOf ds with
  | some (n::ns)=>.ok (.int (minI n ns)) true
  | _=>.bad
 | _,_=>.bad
def sAug (i:Nat)(o:Op)(e:EE):SS:=λ st=>match st[i]? with
 | some (.sh (.int x))=>match e (all st) with
  | .ok (.int y) _=>match opD o (.int x) (.int y) with
   | .ok (.int z) _=>.nx (st.set i (.sh (.int z)))
   | _=>.bad
  | .exc c=>.exc c st
  | _=>.bad
 | _=>.bad
def sAppG (is:List Nat)(i:Nat)(e:EE):SS:=λ st=>match (give is st)[i]? with
 | some (.ow (.lst ds))=>match e (open_ (give is st)) with
  | .ok d _=>if decide (ds.length<mx) then .nx ((give is st).set i (.ow (.lst (ds++[d])))) else .bad
  | .exc c=>.exc c st
  | .bad=>.bad
 | _=>.bad
def sSetD (i:Nat)(e:EE):SS:=λ st=>match e (all st) with
 | .ok d true=>.nx (st.set i (.dp d))
 | .ok _ false=>.bad
 | .exc c=>.exc c st
 | .bad=>.bad
def sRetT (i:Nat)(e:EE):SS:=λ st=>match st[i]? with
 | some (.ow (.lst ds))=>match e (all st) with
  | .ok (.lst es) true=>if flatL ds&&flatL es then .ret (.tup [.lst ds,.lst es]) true else .bad
  | .exc c=>.exc c st
  | _=>.bad
 | _=>.bad
def uA:List D->Option Nat
 | []=>some 0
 | .lst ds::r=>if flatL ds then (uA r).map (max ds.length) else none
 | _::_=>none
end Dv
namespace Sd
open PySem PySem.Spec PyProof.Rows L2
open Dv (D R RL EE EL EI RI Sl Out SS)
section
variable {C:Ctx}{a b c e k:Expr}{f g h:EE}{F G:SS}{pos pos':Pos}{E:Ends}
def ipC (P:Int->Int->Prop)(f:Int->Int->Int):TIp:=λ x y H Q=>∃ i j,x=.int i/\y=.int j/\P i j/\Q (.int (f i j)) H
theorem yu {X:Cx}:PIp X .Mult (ipC (λ i j=>Dv.mulOk i j=true) λ i j=>i*j):=by
 intro pins s σ H x y v u Q I r1 r2 h;obtain⟨i,j,e1,e2,hc,q⟩:=h;subst e1;subst e2;obtain⟨t,rfl⟩:=r1;obtain⟨t',rfl⟩:=r2;refine PyProof.Rows.imul_int ⟨.int _,H,I.tok _,⟨_,rfl⟩,q⟩ ?_
 unfold Dv.mulOk at hc;simp only[DU,C3,decide_eq_true_eq,<- qC] at hc
 rcases hc with (hc|hc)|hc
 ·exact .of_left hc
 ·exact .of_right hc
 ·exact .of_bits (by simpa using hc.1) (by simpa using hc.2)
theorem q9 {op:Operator}{o:Dv.Op}{ti:TIp}(ho:PIp C.X op ti)(hop:∀ x y z fr H Q,Dv.opD o (.int x) (.int y)=.ok (.int z) fr->Q (.int z) H->ti (.int x) (.int y) H Q)
  {i:Nat} {x:Str} (he:SE C e f) (hN:C.X.N.Nodup) (hi:C.X.N[i]?=some x) (hx:Loc C.X.env.scope x) (hf:autoParam (C.X.fn x=true\/C.X.env.scope.names.lookup x=some .local) ZB._auto_1):
  SSt C (.AugAssign (.Name x pos') op e pos) (Dv.sAug i o f):=by
 obtain⟨t,p,q⟩:=he;refine⟨_,zY hN hi hx p ho hf,λ Hv₀ H₀ E σ H st ⟨Hc,O,r⟩ w=>?_⟩;unfold Dv.sAug at w;cases hs:st[i]? with
 | none=>rw[hs] at w;exact Zf w
 | some s=>
  rw[hs] at w;cases s with
  | sh d=>
   cases d with
   | int x0=>
    obtain⟨v,h1,h2⟩:=r.sh i _ hs;unfold Rp at h2;subst h2;refine⟨_,h1,?_⟩;refine q.all r (λ c hf H' r'=>?_) (λ hf=>?_) λ d fr v Hv' H' hf x r' rp n=>?_
    ·simp only[hf] at w;exact w σ H' ⟨Hc,O,r'⟩
    ·simp only[hf] at w;exact w
    ·cases d with
     | int y=>
      simp only[hf] at w;unfold Rp at rp;subst rp;cases ho':Dv.opD o (.int x0) (.int y) with
      | ok d2 fr2=>
       cases d2 with
       | int z=>simp only[ho'] at w;exact hop _ _ _ _ _ _ ho' (w _ H' ⟨Hc,O,r'.setSh bK⟩)
       | _=>simp only[ho'] at w;exact Zf w
      | _=>simp only[ho'] at w;exact Zf w
     | _=>simp only[hf] at w;exact Zf w
   | _=>exact Zf w
  | _=>exact Zf w
theorem sx {i:Nat}{x:Str}(he:SE C e f)(hN:C.X.N.Nodup)(hi:C.X.N[i]?=some x)(hx:Loc C.X.env.scope x)(hf:autoParam (C.X.fn x=true\/C.X.env.scope.names.lookup x=some .local) ZB._auto_1):
  SSt C (.AugAssign (.Name x pos') .Sub e pos) (Dv.sAug i .sub f):=q9 u0 (λ x y z fr H Q h q=>by cases h;exact⟨x,y,rfl,rfl,q⟩) he hN hi hx hf
theorem rk {i:Nat}{x:Str}(he:SE C e f)(hN:C.X.N.Nodup)(hi:C.X.N[i]?=some x)(hx:Loc C.X.env.scope x)(hf:autoParam (C.X.fn x=true\/C.X.env.scope.names.lookup x=some .local) ZB._auto_1):
  SSt C (.AugAssign (.Name x pos') .Mult e pos) (Dv.sAug i .mul f):=q9 yu (λ x y z fr H Q h q=>by
   simp only[Dv.opD_ai,Dv.opD_al,Dv.opD_su,Dv.opD_mi,Dv.opD_ml,Dv.opD_mo,Dv.opD_fd,Dv.opD_po,Dv.opD_ba,Dv.opD_sh] at h;by_cases hm:Dv.mulOk x y=true
   ·simp only[hm,if_true] at h;cases h;exact⟨x,y,rfl,rfl,hm,q⟩
   ·simp only[hm] at h;cases h) he hN hi hx hf
theorem rD {i:Nat}{x:Str}{px kpos:Pos}(he:SE C e f)(hk:SE C k g)(hN:autoParam (C.X.N[i]?=some x) ZF._auto_1)(hv:autoParam (Vis C.X.env.scope x) ZH._auto_1)
    (hd:autoParam ((x == ("__debug__":Str))=false) ZC._auto_1) (hcd:autoParam ((x == ("__classdict__":Str))=false) ZC._auto_1)
    (ha:autoParam (∀ ov iv new,augStore k ov iv new=(do holding [new,ov,iv] (setItem ov iv new);release [new,ov,iv] [];pure .next)) ZG._auto_1):
    SSt C (.AugAssign (.Subscript (.Name x px) k kpos) .Sub e pos) (Dv.sAugIx i .sub g f):=by
  obtain⟨t,p,q⟩:=he;obtain⟨t2,p2,q2⟩:=hk;refine⟨_,yC (dt hN hv hd hcd) p2 rL p u0 set_list ha,λ Hv₀ H₀ E σ H st ⟨Hc,O,r⟩ w=>?_⟩;unfold Dv.sAugIx at w;cases hi:st[i]? with
  | none=>rw[hi] at w;exact Zf w
  | some s=>
    rw[hi] at w;cases s with
    | ow d0=>
     cases d0 with
     | lst ds=>
      obtain⟨a,vs,h1,h2,h5⟩:=r.own hi;refine⟨_,h1,?_⟩;refine q2.all r (λ c hf H' r'=>?_) (λ hf=>?_) λ d fr v Hv' H' hf x r' rp n=>?_
      · simp only[hf] at w;exact w σ H' ⟨Hc,O,r'⟩
      · simp only[hf] at w;exact w
      · simp only[hf] at w
        cases d with
        | int j=>
          unfold Rp at rp;by_cases z:0<=j
          · simp only[z,if_true] at w
            cases hat:Dv.at? ds j with
            | none=>simp only[hat] at w;exact Zf w
            | some d0=>
              simp only[hat] at w;obtain⟨v0,g1,g2⟩:=ja h5 hat;refine⟨a,vs,j,v0,rfl,rp,z,SqL.of (x.hh _ _ h2),g1,?_⟩;refine q.all r' (λ c hg H2 r2=>?_) (λ hg=>?_) λ d2 fr2 v2 Hv2 H2 hg x2 r2 rp2 n2=>?_
              · simp only[hg] at w;exact w σ H2 ⟨Hc,O,r2⟩
              · simp only[hg] at w;exact w
              · simp only[hg] at w
                cases d0 with
                | int y0=>
                  cases d2 with
                  | int y2=>
                    unfold Rp at rp2 g2;subst g2 rp2;obtain⟨O',r3⟩:=r2.put hi h1 (h5.set (bK (i:=y0-y2)) j.toNat);refine⟨y0,y2,rfl,rfl,a,vs,j,j.toNat,rfl,rp,x2.hh _ _ (x.hh _ _ h2),?_,OkS.now (st:=st.set i (.ow (.lst (ds.set j.toNat (.int (y0-y2)))))) w ⟨Hc,O',r3⟩⟩;unfold ixN;obtain⟨_,_,_,_,_,hlt⟩:=iS g1;rw[if_pos z,if_pos hlt]
                  | _=>exact Zf w
                | _=>exact Zf w
          · simp only[z,if_false] at w;exact Zf w
        | _=>exact Zf w
     | _=>exact Zf w
    | _=>exact Zf w
theorem tJ {X:Cx}(hc:X.calm=true):dY X (.builtin "all") (λ xs H Q=>∃ p,∃ bs:List Bool,xs=[.ref p]/\SqX X.K H p (bs.map V.bl)/\Q (.bl (bs.all id)) H):=by
 intro pins s σ H xs us Q I r h;obtain⟨p,bs,rfl,hq,q⟩:=h;obtain⟨u,rfl,rx⟩:=vals1 r;cases rx;obtain⟨its,n,rv,e,z⟩:=Inv.listX I hq;have hl:s.heap.IsList p its.toArray:=⟨_,e,rfl,n,rfl⟩;have hlt:p<s.heap.objs.size:=F6 e;have hlen:its.length=bs.length:=by have:=rv.length;rw[CY] at this;exact this.symm
 refine call_all_walk (Hj hl ?_);refine⟨s.heap.objs.size,[s.heap.objs.size,p],[s.heap.objs.size],its.toArray.size,_,_,λ i=>(bs[i]?).getD true,rfl,Walks.list (A:=X.A.in1) (I.ok.hd hc) _ p (De hlt) its.toArray,
  ⟨⟨_,Gd _ rfl,rfl,rfl⟩,hl.push _⟩,λ i v s' Q' E' hP hQ=>?_,λ h' tk hk=>?_⟩
 ·have hP':its[i]?=some v:=by simpa using hP
  have hi:i<bs.length:=by rw[<- hlen];exact(List.getElem?_eq_some_iff.mp hP').1
  obtain⟨u,e1,e2⟩:=rv.get (show (bs.map V.bl)[i]?=some (V.bl bs[i]) by simp[hi]);rw[hP'] at e1;cases e1;have e3:v=HM bs[i]:=e2;subst e3;have e4:(bs[i]?).getD true=bs[i]:=by simp[hi]
  have hQ':Q' bs[i] s':=by rw[<- e4];exact hQ
  exact GH hQ'
 ·have e5:((List.range its.toArray.size).all λ i=>(bs[i]?).getD true)=bs.all id:=by
   rw[Dd,hlen,DS,DP,DP]
   constructor
   ·intro hh b hb
    obtain⟨i,hi,e⟩:=EV hb;have:=hh i (List.mem_range.mpr hi);simp only[Dg hi,C5,e] at this;exact this
   ·intro hh i hi
    have hi':=List.mem_range.mp hi;simp only[Dg hi',C5];exact hh _ (EB hi')
  rw[e5];exact⟨.bl _,H,I.kept (t':=tk) λ b x e=>hk b x (λ hm=>by rw[List.mem_singleton.mp hm] at e;exact DZ _ (F6 e)) (F8 _ e),rfl,q⟩
theorem RpL.bls {K:F5}{H:Hp}:∀ {ds:List D} {vs:List V} {bs:List Bool},Dv.blsOf ds=some bs->RpL K H ds vs->vs=bs.map V.bl
 | [],vs,bs,e,h=>by
  simp[Dv.blsOf] at e;subst e;unfold RpL at h;exact h
 | d::r,vs,bs,e,h=>by
  unfold RpL at h;obtain⟨v,ws,rfl,h2,h3⟩:=h;cases d with
  | bl i=>
   simp only[Dv.blsOf,Eg] at e;obtain⟨ms,e1,rfl⟩:=e;unfold Rp at h2;subst h2;rw[RpL.bls e1 h3,CN]
  | _=>simp[Dv.blsOf] at e
theorem zU (hc:C.X.calm=true):C1S C (.builtin "all") Dv.allD:=by
 refine⟨_,tJ hc,λ x d fr H Hv H1 Hv1 W Q e rx n q=>?_⟩;cases d with
 | lst ds=>
  simp only[Dv.allD] at q;cases hi:Dv.blsOf ds with
  | none=>rw[hi] at q;exact Zf q
  | some bs=>
   rw[hi] at q;unfold Rp at rx;obtain⟨l,vs,rfl,h1,h2⟩:=rx;have e1:=RpL.bls hi h2;subst e1;exact⟨l,bs,rfl,h1.same e.vh,Ok.at (d:=.bl (bs.all id)) (fr:=true) q e cn rfl⟩
 | _=>exact Zf q
theorem zE {p:Pos}(hm:C.X.mg "all"=none)(hg:Gl C.X "all")(ha:SE C a f)(he:autoParam (starEach [a] C.X.env=[(false,eval a C.X.env)]) ZF._auto_1)(hcl:autoParam (C.X.calm=true) ZF._auto_1):SE C (.Call (.Name "all" p) [a] [] pos) (Dv.eB1 Dv.allD f):=
 pY (zU hcl) hg hm (by decide +kernel) ha (by decide) (by decide) he
def BY:D->Bool
 | .tup _=>true
 | _=>false
theorem yw (K:F5)(d:D):Gj K (.type (tyD d)) (.type "tuple")=some (BY d):=by cases d <;>rfl
theorem tG (d:D)(fr:Bool)(h:Dv.noTy d=false):Dv.isTupD d fr=.ok (.bl (BY d)) true:=by cases d <;>first|rfl|exact absurd h (by simp[Dv.noTy])
theorem wq {p p2:Pos}(hm:C.X.mg "isinstance"=none)(hmx:C.X.mg "tuple"=none)(hg:Gl C.X "isinstance")(hgx:Gl C.X "tuple")(ha:SE C a f)(he:autoParam (starEach [a,.Name "tuple" p2] C.X.env=(false,eval a C.X.env)::starEach [.Name "tuple" p2] C.X.env) ZF._auto_1)
  (he2:autoParam (starEach [.Name "tuple" p2] C.X.env=[(false,eval (.Name "tuple" p2) C.X.env)]) ZF._auto_1):SE C (.Call (.Name "isinstance" p) [a,.Name "tuple" p2] [] pos) (Dv.eB1 Dv.isTupD f):=lI _ tG (λ d fr h=>by cases d <;>first|rfl|exact absurd h (by simp[Dv.noTy])) yw hg hm hgx hmx (by decide +kernel) ha (by decide) (by decide) he he2
end
def ItD (hi:Int)(n:Nat):It:=⟨λ i _=>i<n,λ i H v H'=>v=.int (hi-i)/\H'=H,λ i _=>n<=i⟩
theorem rT {P:Program}{w:World}{K:F5}{tg:Expr}(it:Addr)(lo:Int)(n:Nat):Turn P w K tg (ItD lo n) [it] it (λ i h=>IsRangeIter h it (lo+(i:Nat)*(-1)) ((n:Int)-(i:Nat)) (-1)) where
 mem:=by simp
 obj:=λ i h st b hb=>by
  have e:b=it:=by simpa using hb
  subst e;exact⟨_,st,λ v z=>by
   have z':Data.fields _=Data.cell v:=z;cases z'⟩
 keep:=λ i h h' st k=>k it (by simp) _ st
 item:=by
  intro X hP hw hK hc i pins s σ H E I hf st hg;subst hP hw hK;obtain⟨f0,f1,f2,f3,f4,f5⟩:=hf it (by simp);have W:=Walks.range (prog:=X.prog) (w:=X.w) (I.ok.hd hc) it lo (-1) n;refine W.item i s _ _ hg st λ v h' tk hv st' kk=>?_
  obtain⟨t,rfl⟩:=hv;have I1:Inv X pins σ H { s with heap:=h',toks:=tk }:=I.turned (λ b o hb e=>kk b o (by simpa using hb) e) f0 f1 f3 f4 f5;refine⟨_,rfl,vK (s:={ s with heap:=h',toks:=tk }) (n:="range_iterator") st' rfl rfl (by decide) ⟨.int (lo-i),H,I1,⟨t,?_⟩,⟨rfl,rfl⟩,st',λ b hb=>(hf b hb).1⟩⟩;have:lo+(i:Nat)*(-1)=lo-i:=⋯
  rw[this]
 done:=by
  intro X hP hw hK hc i pins s σ H E I hf st hg;subst hP hw hK;obtain⟨f0,f1,f2,f3,f4,f5⟩:=hf it (by simp);exact HA (I.ok.hd hc) st (by have:n<=i:=hg;omega) λ h' eb=>⟨rfl,I.turned (t':=s.toks) (λ b o hb e=>eb b o hb e) f0 f1 f3 f4 f5⟩
 self:=λ _ _ _ _ _ st h=>HB st h
theorem gD (a b:Int):GN a b (-1)=((a-b).toNat:Int):=by
 unfold GN;by_cases h:a > b
 ·simp[h];omega
 ·simp[h];omega
def B7 (ta:TA):TI:=λ σ H R=>ta σ H λ vs H1=>∃ i j:Int,vs=[.int i,.int j,.int (-1)]/\Dv.rngOk i=true/\Dv.rngOk j=true/\R (ItD i (i-j).toNat) H1
theorem uh {i j:Int}(h1:Dv.rngOk i=true)(h2:Dv.rngOk j=true):Ia i j (-1)=true:=by
 simp only[Dv.rngOk,C3,decide_eq_true_eq] at h1 h2;have hz:=gD i j;unfold Ia;rw[hz];simp only[Builtin.Range.rangeFitsLong,C3,DU,decide_eq_true_eq,beq_iff_eq,show ¬ ((-1:Int) > 0) by decide,if_false];omega
theorem r8 {X:Cx}{tg:Expr}{a b c:Expr}{ta:TA}{p pos:Pos}(hg:Gl X "range")(hm:X.mg "range"=none)(ha:PA X [a,b,c] ta)(hs:starEach [a,b,c] X.env=(false,eval a X.env)::starEach [b,c] X.env)(hpl:(backTo pos (starEach [b,c] X.env)).any (·.1)=false):
  PI X tg (.Call (.Name "range" p) [a,b,c] [] pos) (B7 ta):=by
 intro pins s σ H R I h;refine Call_ (eP I hg hm boot_range (Gp (thn (ha pos pins s σ H _ I h) λ us s1 ⟨vs,H1,I1,r1,q1⟩=>?_) hs hpl));obtain⟨i,j,e,q1,q2,q⟩:=q1;subst e;cases r1 with
 | cons r rr=>
  cases rr with
  | cons r' rr=>
   cases rr with
   | cons r'' rr=>
   cases rr;obtain⟨t,rfl⟩:=r;obtain⟨t',rfl⟩:=r';obtain⟨t'',rfl⟩:=r'';refine call_range_3 (by decide) ?_ (Or.inl (Hq (by decide +kernel)))
   refine Ik (IE ..) (uh q1 q2) ?_
   have I2:Inv X pins σ H1 { s1 with heap:=s1.heap.push { cls:=.type "range",data:=.fields #[.int i t,.int j t',.int (-1) t''] } }:=I1.kept (t':=s1.toks) λ b o e=>F8 _ e
   refine⟨(s1.heap.push { cls:=.type "range",data:=.fields #[.int i t,.int j t',.int (-1) t''] }).objs.size,[(s1.heap.push { cls:=.type "range",data:=.fields #[.int i t,.int j t',.int (-1) t''] }).objs.size],_,_,H1,rfl,
    I2.kept (t':=s1.toks) λ b o e=>F8 _ e,rT _ i (i-j).toNat,?_,λ b hb=>?_,q⟩
   ·have e1:i+((0:Nat):Int)*(-1)=i:=by simp
    have e2:(((i-j).toNat:Nat):Int)-((0:Nat):Int)=GN i j (-1):=by rw[gD];omega
    show IsRangeIter _ _ (i+((0:Nat):Int)*(-1)) ((((i-j).toNat:Nat):Int)-((0:Nat):Int)) (-1)
    rw[e1,e2];exact Gd _ rfl
   ·have e:b=(s1.heap.push { cls:=.type "range",data:=.fields #[.int i t,.int j t',.int (-1) t''] }).objs.size:=by simpa using hb
    subst e;exact I2.fpOk (Dh _) (I2.hok.fresh (Dh _))
theorem m4 (hi:Int):∀ (n i:Nat) (d:D),(Dv.downL hi n)[i]?=some d->i<n/\d=.int (hi-i)
 | 0,i,d,h=>by simp[Dv.downL] at h
 | n+1,0,d,h=>by simp[Dv.downL] at h;subst h;simp
 | n+1,i+1,d,h=>by
  have:=m4 (hi-1) n i d (by simpa[Dv.downL] using h);refine⟨⋯,?_⟩;rw[this.2];congr 1;omega
theorem mK:∀ (n:Nat) (hi:Int),(Dv.downL hi n).length=n
 | 0,hi=>rfl
 | n+1,hi=>by unfold Dv.downL;rw[CQ,mK n]
theorem vz {K:F5}{Hv:Hp}(hi:Int)(n:Nat):Wlk K (ItD hi n) Hv (Dv.downL hi n):=λ i H s=>⟨λ d hd=>by
 obtain⟨h1,rfl⟩:=m4 hi n i d hd;exact⟨h1,λ v H' ⟨e1,e2⟩=>by subst e1 e2;exact⟨Hv,.refl s,bK⟩⟩,λ e=>by
 rw[mK] at e;show n<=i
 omega⟩
def OkR (K:F5)(Hv H:Hp)(W:XK)(cls:String->Value)(r:RI)(T:It->Hp->Prop):Prop:=match r with
 | .ok ds _=>∀ J Hv' H',Ext Hv H Hv' H'->(∀ Hc,Wlk K J Hc ds)->T J H'
 | .exc c=>∀ Hv' H',Ext Hv H Hv' H'->W (cls c) none H'
 | .bad=>False
def SR (C:Ctx)(tg it:Expr)(f:EI):Prop:=
 ∃ t:TI,PI C.X tg it t/\∀ σ H Hv ρ T,EnvR C.X.K Hv ρ σ->Same Hv H->OkR C.X.K Hv H (C.W σ) C.cls (f ρ) T->t σ H T
section
variable {C:Ctx}{a b c e:Expr}{f g h:EE}{F:SS}{pos pos':Pos}
theorem yj {tg:Expr}{p:Pos}(hg:Gl C.X "range")(hm:C.X.mg "range"=none)(he:SE C e f)(hb:SE C b g)(hc:SE C c (Dv.eNeg (Dv.eInt 1)))(hs:autoParam (starEach [e,b,c] C.X.env=(false,eval e C.X.env)::starEach [b,c] C.X.env) ZF._auto_1)
  (hs2:autoParam (starEach [b,c] C.X.env=(false,eval b C.X.env)::starEach [c] C.X.env) ZF._auto_1) (hs3:autoParam (starEach [c] C.X.env=[(false,eval c C.X.env)]) ZF._auto_1):SR C tg (.Call (.Name "range" p) [e,b,c] [] pos) (Dv.iDown f g):=by
 obtain⟨t,pe,q⟩:=he;obtain⟨t2,pe2,q2⟩:=hb;obtain⟨t3,pe3,q3⟩:=hc;refine⟨_,r8 hg hm (av pe (av pe2 (av pe3 aF hs3) hs2) hs) hs (by rw[hs2,hs3];rfl),λ σ H Hv ρ T er s w=>?_⟩;refine q σ H Hv ρ _ er s ?_
 unfold Dv.iDown at w;cases hf:f ρ with
 | bad=>rw[hf] at w;exact w
 | exc c=>rw[hf] at w;exact w
 | ok d fr=>
  rw[hf] at w;intro v Hv' H' x rp n;cases d with
  | int i=>
   refine q2 σ H' Hv' ρ _ (er.same x.vv) x.vh ?_
   cases hg':g ρ with
   | bad=>simp only[hg'] at w;exact w
   | exc c=>simp only[hg'] at w;exact λ Hv2 H2 y=>w Hv2 H2 (x.trans y)
   | ok d2 fr2=>
    simp only[hg'] at w;intro v2 Hv2 H2 y rp2 n2;cases d2 with
    | int j=>
     by_cases hr:(Dv.rngOk i&&Dv.rngOk j)=true
     ·simp only[hr,if_true] at w
      rw[C3] at hr;refine q3 σ H2 Hv2 ρ _ ((er.same x.vv).same y.vv) y.vh ?_
      intro v3 Hv3 H3 z rp3 n3;unfold Rp at rp rp2 rp3;subst rp rp2 rp3;exact⟨i,j,rfl,hr.1,hr.2,w _ Hv3 H3 ((x.trans y).trans z) λ _=>vz i _⟩
     ·simp only[hr] at w;exact Zf w
    | _=>exact Zf w
  | _=>exact Zf w
theorem xp {i:Nat}{x:Str}{it:Expr}{body:List Stmt}{fi:EI}(hi:SR C (.Name x pos') it fi)(hb:SSs C body F)(hN:C.X.N.Nodup)(hn:C.X.N[i]?=some x)(hx:Loc C.X.env.scope x)
  (hf:autoParam (C.X.fn x=true\/C.X.env.scope.names.lookup x=some .local) ZB._auto_1) (hs:autoParam (∀ x,foldedSetIterable it C.X.env x=pure x) ZE._auto_1) (hcalm:autoParam (C.X.calm=true) ZF._auto_1):
  SSt C (.For (.Name x pos') it body [] pos) (Dv.sForR i fi F):=by
 obtain⟨wi,pi,qi⟩:=hi;obtain⟨g,pg,qg⟩:=qB (C:=C) (pos:=pos') hN hn hx hf;obtain⟨tb,pb,qb⟩:=hb;refine⟨_,nZ C.own hcalm pi pg pb hs,λ Hv₀ H₀ E σ H st ⟨Hc,O,r⟩ w=>?_⟩;unfold Dv.sForR at w;refine qi σ H (ff Hc O H) (Dv.all st) _ r.envAll r.allH ?_
 cases hf:fi (Dv.all st) with
 | bad=>simp only[hf] at w;exact w
 | exc c=>simp only[hf] at w;exact λ Hv' H' x=>w σ H' ⟨Hc,O,r.grow x.hh x.nf⟩
 | ok ds fr=>
  simp only[hf] at w;intro J Hv' H' x wl;have r1:=r.grow x.hh x.nf;rw[<- iR] at w;exact u6 qg qb (wl Hc) ⟨Hc,O,r1.self⟩ (w.less r1.vc r1.new)
end
def ItE (K:F5)(l:Addr):It:=
  ⟨λ i H=>∃ (xs:List V) (x:V),SqL K H l xs/\xs[i]?=some x,
   λ i H v H'=>∃ p,H p=none/\v=.ref p/\∀ xs,SqL K H l xs->∃ x,xs[i]?=some x/\H'=upd H p (.tup [.int i,x]),
   λ i H=>∃ xs,SqL K H l xs/\xs.length<=i⟩
theorem tX {P:Program}{w:World}{K:F5}{es:List Expr}{kt:Nat}{tpos:Pos}{z i1 l:Addr}(hne:z≠i1)(hl1:l≠z)(hl2:l≠i1):
  Turn P w K (.Tuple es kt tpos) (ItE K l) [z,i1] z (λ i h=>(∃ old,IsEnum h z i1 i old)/\h.IsListIter i1 l i) where
 mem:=by simp
 obj:=λ i h ⟨⟨old,a1⟩,⟨o4,e4,_,d4⟩⟩ b hb=>by
  simp only[Dw,Dt,or_false] at hb
  rcases hb with rfl|rfl
  ·exact⟨_,a1,λ v q=>by cases q⟩
  ·exact⟨_,e4,λ v q=>by rw[d4] at q;cases q⟩
 keep:=λ i h h' ⟨⟨old,a1⟩,a4⟩ k=>⟨⟨old,k z (by simp) _ a1⟩,a4.at λ o e=>k i1 (by simp) o e⟩
 item:=by
  intro X hP hw hK hc i pins s σ H E I hf ⟨⟨old,a1⟩,a4⟩ hg;subst hP hw hK;obtain⟨xs,x,hq1,hx⟩:=hg;obtain⟨its1,r1,p1,z1⟩:=I.list hq1;obtain⟨u1,e1,ru1⟩:=r1.get hx;refine wpAny_pyNext_enum_item a1 a4 p1.isList (x:=u1) (by simpa using e1) hne λ h' b1 b3 b5 b6 kk=>?_
  refine⟨_,rfl,wpAny_letOwnedTupleGo_enum b1 λ h2 hz sb=>?_⟩;have hf0:H s.heap.objs.size=none:=I.hok.fresh (Dh _);have ltz:s.heap.objs.size≠z:=E8 (F6 a1);have kept:∀ b o,b∉[z,i1]->s.heap.get? b=some o->h2.get? b=some o:=λ b o hb e=>by
   simp only[Dw,Dt,or_false,not_or] at hb;exact(sb.2 b hb.1).trans (kk b o hb.1 hb.2 e)
  have I0:Inv X pins σ H { s with toks:=s.toks+1 }:=I.tok _;have I2:Inv X pins σ H { s with heap:=h2,toks:=s.toks+1 }:=Inv.but I0 hf kept;have tp:IsTup h2 s.heap.objs.size #[.int i s.toks,u1]:=⟨_,(sb.2 _ ltz).trans b5,rfl,_,rfl⟩;have I3:Inv X pins σ (upd H s.heap.objs.size (.tup [.int i,x])) { s with heap:=h2,toks:=s.toks+1 }:=by
   have hk2:HOk X.prog X.w (upd H s.heap.objs.size (.tup [.int i,x])) h2:=gT I2.hok hf0 ⟨by show 2<=sizeLine;decide,[.int i s.toks,u1],.cons ⟨_,rfl⟩ (.cons ru1 .nil),tp⟩;have nsz:∀ b o,s.heap.get? b=some o->b≠s.heap.objs.size:=λ b o e=>De (F6 e)
   refine I.step (g':=s.gens) (d':=s.drawn) (t':=s.toks+1) (ch:=[z,i1]) (λ b hb=>⟨(hf b hb).2.2.2.1,(hf b hb).2.1,(hf b hb).2.2.2.2.1,(hf b hb).2.2.2.2.2⟩) (λ b o _ _ hc e _=>kept b o hc e) (λ b o _ _ hc e _=>⟨o.slots,kept b o hc e⟩) (λ b o _ e n=>by rw[ah (nsz b o e)];exact n)
    (λ b o hc e=>⟨o,kept b o hc e⟩) (λ b us e=>by rw[ah (ax e hf0)];exact e) (λ b ob us e=>by rw[ah (ax e hf0)];exact e) (λ b ps e=>⟨#[],by rw[ah (ax e hf0),e];simp⟩) (λ m hm=>?_) hk2 I.bare
   obtain⟨o,es,ep,ho,r⟩:=hm;exact⟨o,es,ep,kept _ _ (λ hb=>(hf _ hb).2.1 rfl) ho,r⟩
  have c4:h2.IsListIter i1 l (i+1):=b3.extBut sb.extBut (Ne.symm hne);refine⟨.ref s.heap.objs.size,_,I3,rfl,⟨s.heap.objs.size,hf0,rfl,λ as h1=>?_⟩,⟨⟨u1,by exact_mod_cast hz⟩,c4⟩,λ b hb=>?_⟩
  ·exact⟨x,by rw[I.list_inj h1 hq1];exact hx,rfl⟩
  ·have hbs:b≠s.heap.objs.size:=by
    simp only[Dw,Dt,or_false] at hb
    rcases hb with rfl|rfl
    ·exact De (F6 a1)
    ·obtain⟨o,e,_⟩:=a4;exact De (F6 e)
   rw[ah hbs];exact(hf b hb).1
 done:=by
  intro X hP hw hK hc i pins s σ H E I hf ⟨⟨old,a1⟩,a4⟩ hg;subst hP hw hK;obtain⟨xs,hq1,hx⟩:=hg;obtain⟨its1,r1,p1,z1⟩:=I.list hq1;have n1:=r1.length;refine wpAny_pyNext_enum_end (I.ok.hd hc) a1 a4 p1.isList (by simp;omega) λ h' kk=>⟨rfl,Inv.but I hf λ b o hb e=>?_⟩
  simp only[Dw,Dt,or_false,not_or] at hb;exact kk b o hb.2 e
 self:=λ _ _ _ _ _ st h=>wpAny_pyIter_enum st.1.choose_spec h
def AL (K:F5)(ta:TA):TI:=λ σ H T=>ta σ H λ vs H1=>∃ l xs,vs=[.ref l]/\SqL K H1 l xs/\T (ItE K l) H1
theorem yD {X:Cx}{a:Expr}{ta:TA}{es:List Expr}{kt:Nat}{tpos p pos:Pos}(hg:Gl X "enumerate")(hm:X.mg "enumerate"=none)(ha:PA X [a] ta)(hs:starEach [a] X.env=[(false,eval a X.env)]):
  PI X (.Tuple es kt tpos) (.Call (.Name "enumerate" p) [a] [] pos) (AL X.K ta):=by
 intro pins s σ H R I h;refine Call_ (eP I hg hm (by decide +kernel:bootBuiltins "enumerate"=some (.type "enumerate")) (Gp (thn (ha pos pins s σ H _ I h) λ us s1 ⟨vs,H1,I1,r1,q1⟩=>?_) hs rfl));obtain⟨l,xs,rfl,hq1,q⟩:=q1;obtain⟨u1,rfl,e1⟩:=vals1 r1;cases e1;obtain⟨its1,rr1,p1,z1⟩:=I1.list hq1;refine call_enumerate_list p1.isList λ h' c1 c4 c6 kk=>?_
 have lt1:l<s1.heap.objs.size:=by obtain⟨o,e,_⟩:=p1.isList;exact F6 e
 have I2:Inv X pins σ H1 { s1 with heap:=h' }:=I1.kept (t':=s1.toks) kk;refine wpAny_pyIter_enum c1 ⟨s1.heap.objs.size+1,[s1.heap.objs.size+1,s1.heap.objs.size],_,_,H1,rfl,I2,tX (Nat.succ_ne_self _) (De (E3 lt1)) (De lt1),⟨⟨.none,c1⟩,c4⟩,λ b hb=>?_,q⟩;have hb':s1.heap.objs.size<=b:=by
  simp only[Dw,Dt,or_false] at hb
  rcases hb with rfl|rfl
  ·exact Eb _ _
  ·exact Dh _
 exact I1.fpOk hb' (I1.hok.fresh hb')
theorem nP:∀ {xs:List D} {k i:Nat} {d:D},(Dv.enumL k xs)[i]?=some d->∃ x,xs[i]?=some x/\d=.tup [.int ((k+i:Nat):Int),x]
 | [],k,i,d,h=>by simp[Dv.enumL] at h
 | x::r,k,0,d,h=>by simp[Dv.enumL] at h;subst h;exact⟨x,rfl,by simp⟩
 | x::r,k,i+1,d,h=>by
  obtain⟨y,h1,h2⟩:=nP (k:=k+1) (i:=i) (d:=d) (xs:=r) (by simpa[Dv.enumL] using h);refine⟨y,by simpa using h1,?_⟩;rw[h2];have:k+1+i=k+(i+1):=⋯
  rw[this]
theorem mz:∀ (xs:List D) (k:Nat),(Dv.enumL k xs).length=xs.length
 | [],k=>rfl
 | x::r,k=>by unfold Dv.enumL;rw[CQ,CQ,mz r]
theorem xM {C:Ctx}{a:Expr}{f:EE}{es:List Expr}{kt:Nat}{tpos p pos:Pos}(hg:Gl C.X "enumerate")(hm:C.X.mg "enumerate"=none)(ha:SE C a f)(hs:autoParam (starEach [a] C.X.env=[(false,eval a C.X.env)]) ZF._auto_1):
  SI C (.Tuple es kt tpos) (.Call (.Name "enumerate" p) [a] [] pos) (Dv.iEnum f):=by
 obtain⟨t,pe,q⟩:=ha;refine⟨_,yD hg hm (av pe aF hs) hs,λ σ H Hv ρ T er s w=>?_⟩;refine q σ H Hv ρ _ er s ?_
 unfold Dv.iEnum at w;cases hf:f ρ with
 | bad=>rw[hf] at w;exact w
 | exc c=>rw[hf] at w;exact w
 | ok d fr=>
  rw[hf] at w;intro v Hv' H' x rp n;cases d with
  | lst xs=>
   unfold Rp at rp;obtain⟨l1,vs,rfl,h1,h2⟩:=rp;refine⟨l1,vs,rfl,(h1.same x.vh).seq,w _ Hv' H' x λ i H3 s3=>⟨λ d hd=>?_,λ hi=>?_⟩⟩
   ·obtain⟨dx,g1,rfl⟩:=nP hd
    obtain⟨vx,k1,k2⟩:=h2.get g1;refine⟨⟨vs,vx,(h1.same s3).seq,k1⟩,λ u H4 ⟨p,hp,e1,hh⟩=>?_⟩;obtain⟨x',m1,rfl⟩:=hh vs (h1.same s3).seq;rw[k1] at m1;cases m1;subst e1;have nx:=Ext.new1 s3 hp (.tup [.int i,vx]);refine⟨_,nx,?_⟩;unfold Rp;refine⟨p,_,rfl,.inl aq,.cons ?_ (.cons (k2.same nx.vv) .nil)⟩;unfold Rp;simp
   ·refine⟨vs,(h1.same s3).seq,?_⟩
    rw[h2.length];rw[mz] at hi;omega
  | _=>exact Zf w
theorem bU {K:F5}{H:Hp}{j:Int}{d:D}:∀ {ks:List Int} {ds:List D} {vs:List V},RpL K H ds vs->Dv.look ks ds j=some d->∃ v,iG ((ks.map (Sum.inl:Int->Key)).zip vs) (Sum.inl j)=some v/\Rp K H d v
 | [],ds,vs,h,e=>by simp[Dv.look] at e
 | k::ks,[],vs,h,e=>by simp[Dv.look] at e
 | k::ks,x::ds,vs,h,e=>by
  unfold RpL at h;obtain⟨v,ws,rfl,h1,h2⟩:=h;unfold Dv.look at e;rw[CN,D5];by_cases hk:k=j
  ·rw[if_pos hk] at e
   cases e;exact⟨v,gA (by rw[hk]),h1⟩
  ·rw[if_neg hk] at e
   obtain⟨u,h3,h4⟩:=bU h2 e;exact⟨u,by rw[eR (λ z=>hk (Hb z))];exact h3,h4⟩
theorem gU {K:F5}{H:Hp}{j:Int}:∀ {ks:List Int} {ds:List D} {vs:List V},ks.length=ds.length->RpL K H ds vs->Dv.look ks ds j=none->iG ((ks.map (Sum.inl:Int->Key)).zip vs) (Sum.inl j)=none
 | [],ds,vs,_,h,e=>rfl
 | k::ks,[],vs,hl,h,e=>by cases hl
 | k::ks,x::ds,vs,hl,h,e=>by
  unfold RpL at h;obtain⟨v,ws,rfl,h1,h2⟩:=h;unfold Dv.look at e;rw[CN,D5];by_cases hk:k=j
  ·rw[if_pos hk] at e;cases e
  ·rw[if_neg hk] at e
   rw[eR (λ z=>hk (Hb z))];exact gU (by simpa using hl) h2 e
theorem j8 {K:F5}{H:Hp}{j:Int}{x:D}{v:V}(rx:Rp K H x v):∀ {ks:List Int} {ds:List D} {vs:List V},ks.length=ds.length->RpL K H ds vs ->
  ∃ ws,((ks.map (Sum.inl:Int->Key)).zip vs).map (λ kv=>if kv.1=Sum.inl j then (kv.1,v) else kv)=(ks.map (Sum.inl:Int->Key)).zip ws/\RpL K H (Dv.replL ks ds j x) ws/\(Dv.replL ks ds j x).length=ds.length
 | [],[],vs,_,h=>⟨[],rfl,by unfold Dv.replL;exact .nil,rfl⟩
 | [],_::_,vs,hl,h=>by cases hl
 | _::_,[],vs,hl,h=>by cases hl
 | k::ks,d::ds,vs,hl,h=>by
  unfold RpL at h;obtain⟨u,us,rfl,h1,h2⟩:=h;obtain⟨ws,e1,e2,e3⟩:=j8 rx (by simpa using hl) h2;unfold Dv.replL;rw[CN,D5,CN,e1];by_cases hk:k=j
  ·subst hk
   exact⟨v::ws,by simp,by rw[if_pos rfl];exact .cons rx e2,by simp[e3]⟩
  ·have:¬ ((Sum.inl k:Key)=Sum.inl j):=λ z=>hk (Hb z)
   exact⟨u::ws,by simp[hk],by rw[if_neg hk];exact .cons h1 e2,by simp[e3]⟩
theorem rh {j:Int}:∀ {ks:List Int} {vs:List V},ks.length=vs.length->(((ks.map (Sum.inl:Int->Key)).zip vs).any λ kv=>decide (kv.1=Sum.inl j))=decide (j∈ks)
 | [],[],_=>by simp
 | [],_::_,h=>by cases h
 | _::_,[],h=>by cases h
 | k::ks,v::vs,h=>by
  rw[CN,D5,Ee,rh (by simpa using h)];by_cases hk:k=j
  ·subst hk;simp
  ·have h1:¬ ((Sum.inl k:Key)=Sum.inl j):=λ z=>hk (Hb z)
   have h2:¬ j=k:=λ z=>hk z.symm
   simp[h1,h2]
theorem qf {K:F5}{H:Hp}{j:Int}{x:D}{v:V}{ks:List Int}{ds:List D}{vs:List V}(rx:Rp K H x v)(hl:ks.length=ds.length)(h:RpL K H ds vs):
  ∃ ws,putK ((ks.map (Sum.inl:Int->Key)).zip vs) (Sum.inl j) v=((Dv.putKs ks j).map (Sum.inl:Int->Key)).zip ws/\RpL K H (Dv.putL ks ds j x) ws/\(Dv.putKs ks j).length=(Dv.putL ks ds j x).length:=by
 have hv:=h.length;unfold putK Dv.putKs Dv.putL;rw[rh ⋯];by_cases hj:j∈ks
 ·rw[if_pos (decide_eq_true hj),if_pos hj,if_pos hj]
  obtain⟨ws,e1,e2,e3⟩:=j8 (j:=j) rx hl h;exact⟨ws,e1,e2,by rw[e3,hl]⟩
 ·rw[if_neg (by simp[hj]),if_neg hj,if_neg hj]
  refine⟨vs++[v],?_,h.append (.cons rx .nil),by simp[hl]⟩;rw[D6,List.zip_append (by simp;omega)];rfl
section
variable {C:Ctx}{a b c e k:Expr}{f g h:EE}{F G:SS}{pos pos':Pos}{E:Ends}
theorem mV:SE C (.Dict [] [] pos) Dv.eDict0:=⟨_,uV,λ σ H Hv ρ Q e s w p hp=>by
 refine w (.ref p) _ _ (Ext.new1 s hp (.dK [])) ?_ λ _=>?_
 ·unfold Rp;exact⟨p,[],rfl,rfl,.inl aq,.nil⟩
 ·unfold Rp;exact⟨p,[],rfl,rfl,.inl (Hnew.at hp _),.nil⟩⟩
theorem nk (C:Ctx):C.X.A.units+1<cLine:=by have:=C.un;omega
theorem vZ (ha:SE C a f)(hb:SE C b g)(hs:autoParam (AK b) ZK._auto_1):SE C (.Subscript a b pos) (Dv.eDix f g):=by
 obtain⟨ta,pa,qa⟩:=ha;obtain⟨tb,pb,qb⟩:=hb;refine⟨_,xi (nk C) pa pb hs,λ σ H Hv ρ Q e s w=>?_⟩;refine qa.step e (.refl s) w λ v d fr Hv1 H1 _ x1 _ rp1 n1 q1=>qb.step e x1 q1 λ v2 d2 fr2 Hv2 H2 _ x2 y2 rp2 _ q2=>?_
 have rp:=rp1.same y2.vv;have rn:fr=true->Rp [] (Hnew H H2) d v:=λ z=>(n1 z).same (Hnew.mono (.refl _) y2.hh)
 cases d with
 | dct ks ds=>
  cases d2 with
  | int j=>
   unfold Rp at rp2;cases hk:Dv.look ks ds j with
   | none=>simp only[hk] at q2;exact Zf q2
   | some d0=>
    simp only[hk] at q2;cases fr with
    | true=>
     have rp:=rn rfl;unfold Rp at rp;obtain⟨a,vs,rfl,hl,h1,h2⟩:=rp;obtain⟨v0,e1,e2⟩:=bU h2 hk;exact⟨a,v0,rfl,.inl ⟨_,Sum.inl j,Rd.same Hnew.sub h1,rp2,e1.symm⟩,q2 v0 Hv2 H2 x2 (Rp.frag (e2.same x2.news)) λ z=>e2⟩
    | false=>
     unfold Rp at rp;obtain⟨a,vs,rfl,hl,h1,h2⟩:=rp;obtain⟨v0,e1,e2⟩:=bU h2 hk;exact⟨a,v0,rfl,.inl ⟨_,Sum.inl j,Rd.same x2.vh h1,rp2,e1.symm⟩,q2 v0 Hv2 H2 x2 e2 λ z=>Rp.scal z e2⟩
  | _=>exact Zf q2
 | _=>exact Zf q2
theorem wJ (is:List Nat){i:Nat}{x:Str}{px:Pos}(he:SE C e f)(hk:SE C k g)(hN:autoParam (C.X.N[i]?=some x) ZF._auto_1)(hv:autoParam (Vis C.X.env.scope x) ZH._auto_1)
    (hd:autoParam ((x == ("__debug__":Str))=false) ZC._auto_1) (hcd:autoParam ((x == ("__classdict__":Str))=false) ZC._auto_1)
    (hs:autoParam (swapsWith e (some (.Subscript (.Name x px) k pos')) pos.line C.X.env=pure false) ZF._auto_1):SSt C (.Assign [.Subscript (.Name x px) k pos'] e pos) (Dv.sDPut is i g f):=by
  obtain⟨t,p,q⟩:=he;obtain⟨t2,p2,q2⟩:=hk;refine⟨_,qW (nk C) (dt hN hv hd hcd) p2 p hs,λ Hv₀ H₀ E σ H st ⟨Hc0,O0,r0⟩ w=>?_⟩;obtain⟨Hc,O,_,r⟩:=r0.give is;unfold Dv.sDPut at w;generalize hst:Dv.give is st=st1 at r w;cases hi:st1[i]? with
  | none=>simp only[hi] at w;exact Zf w
  | some s=>
    simp only[hi] at w;cases s with
    | ow d0=>
     cases d0 with
     | dct ks ds=>
      refine q.open r (λ c hf Hc' H' x=>?_) (λ hf=>?_) λ d fr v Hc' H' hf x r' rp=>?_
      · simp only[hf] at w;exact w σ H' ⟨Hc0,O0,r0.grow x.hh x.nf⟩
      · simp only[hf] at w;exact w
      · simp only[hf] at w
        obtain⟨a,o,h1,h2,h3⟩:=r'.ow i _ hi;refine⟨_,h1,?_⟩;refine q2.open r' (λ c hg Hc2 H2 x2=>?_) (λ hg=>?_) λ d2 fr2 v2 Hc2 H2 hg x2 r2 rp2=>?_
        · simp only[hg] at w
          have xx:=x.trans x2;exact w σ H2 ⟨Hc0,O0,r0.grow xx.hh xx.nf⟩
        · simp only[hg] at w;exact w
        · simp only[hg] at w
          cases d2 with
          | int j=>
            by_cases z:(decide (ks.length<Dv.mx)&&decide (ks.length=ds.length))=true
            · simp only[z,if_true] at w
              simp only[C3,decide_eq_true_eq] at z;unfold Rp at rp2;subst rp2;obtain⟨vs,rfl,hl,h5⟩:=h3;obtain⟨ws,e1,e2,e3⟩:=qf (j:=j) (rp.same x2.vv) hl (h5.same x2.vv);obtain⟨O',r3⟩:=r2.putDct hi h1 e3 e2;rw[<- e1] at r3;refine⟨a,_,rfl,.inl ⟨_,Sum.inl j,(r2.oh i a _ h2).1,rfl,?_,rfl⟩,w σ _ ⟨Hc2,O',r3⟩⟩;have z5:ks.length<100000:=z.1;have:=GC;simp only[EK,CY];omega
            · simp only[z] at w;exact Zf w
          | _=>exact Zf w
     | _=>exact Zf w
    | _=>exact Zf w
theorem nv {R R':Hp}{a:Addr}{kvs:List (Key×V)}(ha:R a=some (.dK kvs))(hR:∀ b o,b≠a->R b=some o->R' b=some o):∀ {ds:List D} {vs:List V},Dv.lstsFlat ds=true->RpL [] R ds vs->RpL [] R' ds vs
 | [],vs,_,h=>by unfold RpL at h ⊢;exact h
 | d::r,vs,f,h=>by
  unfold RpL at h;obtain⟨v,ws,rfl,h1,h2⟩:=h;cases d with
  | lst es=>
   simp only[Dv.lstsFlat,C3] at f;refine .cons ?_ (nv ha hR f.2 h2)
   unfold Rp at h1 ⊢;obtain⟨b,us,rfl,h3,h4⟩:=h1;refine⟨b,us,rfl,?_,h4.flat f.1⟩
   rcases h3 with (h3|⟨u,h3⟩)|⟨its,n,e,_⟩
   ·exact .inl (.inl (hR b _ (λ z=>by rw[z,ha] at h3;cases h3) h3))
   ·exact .inl (.inr ⟨u,hR b _ (λ z=>by rw[z,ha] at h3;cases h3) h3⟩)
   ·simp at e
  | _=>simp[Dv.lstsFlat] at f
theorem ve {i y:Nat}{x yn:Str}{px py:Pos}(hk:SE C k g)(hN:autoParam (C.X.N[i]?=some x) ZF._auto_1)(hv:autoParam (Vis C.X.env.scope x) ZH._auto_1)
  (hd:autoParam ((x == ("__debug__":Str))=false) ZC._auto_1) (hcd:autoParam ((x == ("__classdict__":Str))=false) ZC._auto_1) (hNy:autoParam (C.X.N[y]?=some yn) ZF._auto_1) (hvy:autoParam (Vis C.X.env.scope yn) ZH._auto_1)
  (hdy:autoParam ((yn == ("__debug__":Str))=false) ZC._auto_1) (hcdy:autoParam ((yn == ("__classdict__":Str))=false) ZC._auto_1)
  (hs:autoParam (swapsWith (.Name yn py) (some (.Subscript (.Name x px) k pos')) pos.line C.X.env=pure false) ZF._auto_1):SSt C (.Assign [.Subscript (.Name x px) k pos'] (.Name yn py) pos) (Dv.sDMove i y g):=by
 obtain⟨t2,p2,q2⟩:=hk;refine⟨_,qW (nk C) (dt hN hv hd hcd) p2 (dt hNy hvy hdy hcdy) hs,λ Hv₀ H₀ E σ H st ⟨Hc,O,r⟩ w=>?_⟩;unfold Dv.sDMove at w;cases hi:st[i]? with
 | none=>simp only[hi] at w;exact Zf w
 | some si=>
  cases hy:st[y]? with
  | none=>simp only[hi,hy] at w;cases si <;>first|exact Zf w|(rename_i d;cases d <;>exact Zf w)
  | some sy=>
   simp only[hi,hy] at w;cases si with
   | dp d=>
    cases d with
    | dct ks ds=>
     cases sy with
     | ow d2=>
      cases d2 with
      | lst es=>
       obtain⟨b,ob,b1,b2,us,rfl,b3⟩:=r.ow y _ hy;obtain⟨v,h1,h2⟩:=r.dp i _ hi;refine⟨_,b1,_,h1,?_⟩;refine q2.all r (λ c hf H' r'=>?_) (λ hf=>?_) λ d fr v2 Hv' H' hf x r' rp n=>?_
       ·simp only[hf] at w;exact w σ H' ⟨Hc,O,r'⟩
       ·simp only[hf] at w;exact w
       ·cases d with
        | int j=>
         simp only[hf] at w;by_cases z:(Dv.flatL es&&Dv.lstsFlat ds&&decide (ks.length<Dv.mx)&&decide (ks.length=ds.length)&&decide (i≠y))=true
         ·simp only[z,if_true] at w
          simp only[C3,decide_eq_true_eq] at z;obtain⟨⟨⟨⟨z1,z2⟩,z3⟩,z4⟩,z5⟩:=z;unfold Rp at rp;subst rp;unfold Rp at h2;obtain⟨a,vs,rfl,hl,h3,h4⟩:=h2;have ha:O i a=some (.dK ((ks.map Sum.inl).zip vs)):=by
           rcases h3 with h3|⟨u,h3⟩
           ·exact h3
           ·exact absurd (r.oh i a _ h3).1 (r.nf a _ _ (r.oh i a _ h3).2.2)
          have hba:b≠a:=λ z=>z5 (r.one i y a _ _ ha (by rw[<- z];exact b2))
          have n1:∀ c o,O y c=some o->O i c=none:=λ c o h=>by
           cases q:O i c with
           | none=>rfl
           | some u=>exact absurd (r.one i y c u o q h) z5
          let R0:Hp:=e9 (O i) (O y)
          have hR:∀ kvs c o,c≠a->O i c=some o->upd R0 a (.dK kvs) c=some o:=λ kvs c o hc h=>by
           rw[ah hc];exact lO c o h
          have rb:∀ kvs,Rp [] (upd R0 a (.dK kvs)) (.lst es) (.ref b):=λ kvs=>by
           unfold Rp;exact⟨b,us,rfl,SqX.of (by rw[ah hba];exact lV (λ c o h=>n1 c o h) b _ b2),b3.flat z1⟩
          obtain⟨ws,e1,e2,e3⟩:=qf (K:=[]) (j:=j) (H:=upd R0 a (.dK (putK ((ks.map Sum.inl).zip vs) (Sum.inl j) (.ref b)))) (rb _) hl (nv ha (hR _) z2 h4);refine⟨a,_,rfl,.inl ⟨_,Sum.inl j,x.hh _ _ (r.oh i a _ ha).1,rfl,?_,rfl⟩,w σ (upd H' a (.dK (putK ((ks.map Sum.inl).zip vs) (Sum.inl j) (.ref b)))) ⟨Hc,iF (iF O y λ _=>none) i (upd R0 a (.dK (putK ((ks.map Sum.inl).zip vs) (Sum.inl j) (.ref b)))),?_⟩⟩
          ·have z6:ks.length<100000:=z3
           have:=GC;simp only[EK,CY];omega
          ·have hσ:σ.set y (some (.ref b))=σ:=iW b1
           have r1:RelC C.X.K Hv₀ H₀ Hc (iF O y λ _=>none) (st.set y .no) (σ.set y (some (.ref b))) H':=
            r'.setAny r'.h0 r'.ch r'.nf (λ j hj=>bw hj) (λ _ e=>nomatch e) (λ _ e=>nomatch e) (λ _ e=>nomatch e) (λ _ _ e=>nomatch e)
             (λ j c o h=>by
              by_cases hj:j=y
              ·rw[hj,aT] at h;cases h
              ·rw[bw hj] at h;exact r'.oh j c o h)
             (λ j c o o' h=>by rw[aT] at h;cases h)
           rw[hσ] at r1;have hσi:σ.set i (some (.ref a))=σ:=iW h1;have oo:∀ c o,R0 c=some o->H' c=some o/\Hc c=none/\H₀ c=none:=λ c o h=>by
            rcases eS h with h|⟨_,h⟩
            ·exact r'.oh i c o h
            ·exact r'.oh y c o h
           have haH:=r'.oh i a _ ha;have r2:=r1.setAny (i:=i) (s:=.dp (.dct (Dv.putKs ks j) (Dv.putL ks ds j (.lst es)))) (v:=some (.ref a)) (H':=upd H' a (.dK (putK ((ks.map Sum.inl).zip vs) (Sum.inl j) (.ref b)))) (O':=iF (iF O y λ _=>none) i (upd R0 a (.dK (putK ((ks.map Sum.inl).zip vs) (Sum.inl j) (.ref b)))))
            (λ c o h=>by rw[ah (ax h haH.2.2)];exact r1.h0 c o h) (λ c o h=>by rw[ah (ax h haH.2.1)];exact r1.ch c o h)
            (λ c q u h=>by
             by_cases hc:c=a
             ·subst hc;rw[aq];intro z;cases z
             ·rw[ah hc];exact r1.nf c q u h)
            (λ j hj=>bw hj) (λ _ e=>nomatch e) (λ _ e=>nomatch e)
            (λ d e=>by
             cases e;refine⟨_,rfl,?_⟩;rw[aT];unfold Rp;exact⟨a,ws,rfl,e3,.inl (by rw[aq,e1]),e2⟩)
            (λ _ _ e=>nomatch e)
            (λ j' c o h=>by
             by_cases hj:j'=i
             ·rw[hj,aT] at h
              by_cases hc:c=a
              ·subst hc;rw[aq] at h ⊢;exact⟨h,haH.2⟩
              ·rw[ah hc] at h ⊢;exact oo c o h
             ·rw[bw hj] at h
              have hc:c≠a:=λ z=>by
               have h':=h;by_cases hjy:j'=y
               ·rw[hjy,aT] at h';cases h'
               ·rw[bw hjy,z] at h';exact hj (r.one j' i a _ _ h' ha)
              rw[ah hc];exact r1.oh j' c o h)
            (λ j' c o o' h hj h'=>by
             rw[aT] at h;by_cases hjy:j'=y
             ·rw[hjy,aT] at h';cases h'
             ·rw[bw hjy] at h'
              by_cases hc:c=a
              ·rw[hc] at h';exact hj (r.one j' i a _ _ h' ha)
              ·rw[ah hc] at h
               rcases eS h with h|⟨_,h⟩
               ·exact hj (r.one j' i c _ _ h' h)
               ·exact hjy (r.one j' y c _ _ h' h))
           rw[hσi] at r2;exact r2
         ·simp only[z] at w;exact Zf w
        | _=>simp only[hf] at w;exact Zf w
      | _=>exact Zf w
     | _=>exact Zf w
    | _=>cases sy <;>first|exact Zf w|(rename_i d;cases d <;>exact Zf w)
   | _=>cases sy <;>first|exact Zf w|(rename_i d;cases d <;>exact Zf w)
theorem ya (is:List Nat){i:Nat}{x:Str}{apos cpos:Pos}{px:Pos}(he:SE C e f)(hN:autoParam (C.X.N[i]?=some x) ZF._auto_1)(hv:autoParam (Vis C.X.env.scope x) ZH._auto_1)
    (hd:autoParam ((x == ("__debug__":Str))=false) ZC._auto_1) (hcd:autoParam ((x == ("__classdict__":Str))=false) ZC._auto_1) (hst:autoParam (starEach [e] C.X.env=[(false,eval e C.X.env)]) ZF._auto_1)
    (hbase:autoParam (attributeBase (.Name x px) "append" C.X.env (eval (.Name x px) C.X.env)=eval (.Name x px) C.X.env) ZF._auto_1)
    (hfew:autoParam (((backTo cpos (starEach [e] C.X.env)).all (λ x=>!x.1)&&(backToKw cpos (keywordEach [] C.X.env)).all (λ x=>x.1.isSome)
      && decide ([e].length+([]:List Keyword).length+(if ([]:List Keyword).isEmpty then 0 else 1)<30))=true) ZF._auto_1)
    (hline:autoParam ((apos.endLine == cpos.line)=true) ZF._auto_1)
    (hs:autoParam (swapsWith (.Call (.Attribute (.Name x px) "append" apos) [e] [] cpos) none pos.line C.X.env=pure false) ZF._auto_1):
    SSt C (.Expr (.Call (.Attribute (.Name x px) "append" apos) [e] [] cpos) pos) (Dv.sAppG is i f):=by
  obtain⟨t,p,q⟩:=he;refine⟨_,cS (iu Gi Gv Gw cV (dt hN hv hd hcd) (av p aF hst) hbase hfew hline hst rfl) hs,λ Hv₀ H₀ E σ H st ⟨Hc0,O0,r0⟩ w=>?_⟩;obtain⟨Hc,O,_,r⟩:=r0.give is;unfold Dv.sAppG at w;generalize hst:Dv.give is st=st1 at r w;cases hi:st1[i]? with
  | none=>simp only[hi] at w;exact Zf w
  | some s=>
    simp only[hi] at w;cases s with
    | ow d0=>
     cases d0 with
     | lst ds=>
      obtain⟨a,vs,h1,h2,h5⟩:=r.own hi;refine⟨_,h1,.inl ⟨rfl,vs,SqL.of h2⟩,?_⟩;refine q.open r (λ c hf Hc' H' x=>?_) (λ hf=>?_) λ d fr v Hc' H' hf x r' rp=>?_
      · simp only[hf] at w;exact w σ H' ⟨Hc0,O0,r0.grow x.hh x.nf⟩
      · simp only[hf] at w;exact w
      · simp only[hf] at w
        by_cases z:decide (ds.length<Dv.mx)=true
        · simp only[z,if_true] at w
          rw[decide_eq_true_eq] at z;obtain⟨O',r2⟩:=r'.put hi h1 ((h5.same x.vv).append (.cons rp .nil));refine⟨a,vs,v,rfl,rfl,x.hh _ _ h2,?_,w σ _ ⟨Hc',O',r2⟩⟩;have:=h5.length;have e1:(100000:Nat)<sizeLine:=by rw[GC];decide
          have e2:ds.length<100000:=z;omega
        · simp only[z] at w
          exact Zf w
     | _=>exact Zf w
    | _=>exact Zf w
theorem lT {H H':Hp}{b:Addr}{o:HO}(h:Hnew H H' b=some o):H b=none:=by
 unfold Hnew at h;cases q:H b with
 | none=>rfl
 | some u=>rw[q] at h;cases h
theorem pZ {i:Nat}{x:Str}(he:SE C e f)(hN:C.X.N.Nodup)(hi:C.X.N[i]?=some x)(hx:Loc C.X.env.scope x)(hs:autoParam (swapsWith e (some (.Name x pos')) pos.line C.X.env=pure false) ZF._auto_1)
  (hf:autoParam (C.X.fn x=true\/C.X.env.scope.names.lookup x=some .local) ZB._auto_1):SSt C (.Assign [.Name x pos'] e pos) (Dv.sSetD i f):=by
 obtain⟨t,p,q⟩:=he;refine⟨_,dq hN hi hx p hs hf,λ Hv₀ H₀ E σ H st ⟨Hc,O,r⟩ w=>?_⟩;unfold Dv.sSetD at w;refine q.all r (λ c hf H' r'=>?_) (λ hf=>?_) λ d fr v Hv' H' hf x r' rp n=>?_
 ·rw[hf] at w;exact w σ H' ⟨Hc,O,r'⟩
 ·rw[hf] at w;exact w
 ·rw[hf] at w
  cases fr with
  | false=>exact Zf w
  | true=>
   refine w _ H' ⟨Hc,_,r'.setDp (R:=Hnew H H') (λ b o h=>⟨Hnew.sub b o h,r.ch.free (lT h),r.h0.free (lT h),λ j _=>?_⟩) (n rfl)⟩;cases z:O j b with
   | none=>rfl
   | some u=>have:=(r.oh j b u z).1;rw[lT h] at this;cases this
theorem yb {i:Nat}{x:Str}{px pt:Pos}{kt:Nat}(he:SE C e f)(hN:autoParam (C.X.N[i]?=some x) ZF._auto_1)(hv:autoParam (Vis C.X.env.scope x) ZH._auto_1)(hd:autoParam ((x == ("__debug__":Str))=false) ZC._auto_1)
    (hcd:autoParam ((x == ("__classdict__":Str))=false) ZC._auto_1) (h1:autoParam (starEach [.Name x px,e] C.X.env=(false,eval (.Name x px) C.X.env)::starEach [e] C.X.env) ZF._auto_1) (h2:autoParam (starEach [e] C.X.env=[(false,eval e C.X.env)]) ZF._auto_1):
    SSt C (.Return (some (.Tuple [.Name x px,e] kt pt)) pos) (Dv.sRetT i f):=by
  obtain⟨t,p,q⟩:=he;refine⟨_,dJ (gi (av (dt hN hv hd hcd) (av p aF h2) h1)),λ Hv₀ H₀ E σ H st ⟨Hc,O,r⟩ w=>?_⟩;unfold Dv.sRetT at w;cases hi:st[i]? with
  | none=>rw[hi] at w;exact Zf w
  | some s=>
    rw[hi] at w;cases s with
    | ow d0=>
     cases d0 with
     | lst ds=>
      obtain⟨a,o,g1,g2,vs,rfl,g3⟩:=r.ow i _ hi;refine⟨_,g1,?_⟩;refine q.all r (λ c hf H' r'=>?_) (λ hf=>?_) λ d fr v Hv' H' hf x r' rp n=>?_
      · simp only[hf] at w;exact w σ H' ⟨Hc,O,r'⟩
      · simp only[hf] at w;exact w
      · cases d with
        | lst es=>
          cases fr with
          | false=>simp only[hf] at w;exact Zf w
          | true=>
            simp only[hf] at w;by_cases z:(Dv.flatL ds&&Dv.flatL es)=true
            · simp only[z,if_true] at w
              rw[C3] at z;obtain⟨b,zs,rfl,hb,hbn,rl⟩:=yg x (n rfl);refine⟨by show 2<=sizeLine;decide,λ tt ht=>?_⟩;have y:=x.trans (Ext.new1 x.vh ht (.tup [.ref a,.ref b]));obtain⟨Hv2,x2,s2⟩:=r.ret y;have ha:H a=some (.lst vs):=(r.oh i a _ g2).1;have na:a≠tt:=λ z=>by rw[<- z,x.hh _ _ ha] at ht;cases ht
              have nb:b≠tt:=λ z=>by rw[<- z,hb] at ht;cases ht
              have h0t:H₀ tt=none:=(r.h0.trans x.hh).free ht;refine w (.ref tt) Hv2 _ x2 ?_ λ _=>?_
              · unfold Rp
                refine⟨tt,_,rfl,.inl (s2 _ _ aq),.cons ?_ (.cons ?_ .nil)⟩
                · unfold Rp
                  exact⟨a,vs,rfl,SqX.of (s2 _ _ (y.vv _ _ (r.oAll i a _ g2))),g3.flat z.1⟩
                · have:=(rp.same (Ext.new1 x.vh ht (.tup [.ref a,.ref b])).vv).same s2
                  exact this
              · unfold Rp
                refine⟨tt,[.ref a,.ref b],rfl,.inl ?_,.cons ?_ (.cons ?_ .nil)⟩
                · unfold Hnew;rw[h0t];exact aq
                · unfold Rp
                  refine⟨a,vs,rfl,SqX.of ?_,g3.flat z.1⟩;unfold Hnew;rw[(r.oh i a _ g2).2.2];show upd H' tt _ a=_
                  rw[ah na];exact x.hh _ _ ha
                · unfold Rp
                  refine⟨b,zs,rfl,SqX.of ?_,rl.flat z.2⟩;unfold Hnew;rw[r.h0.free hbn];show upd H' tt _ b=_
                  rw[ah nb];exact hb
            · simp only[z] at w;exact Zf w
        | _=>simp only[hf] at w;exact Zf w
     | _=>exact Zf w
    | _=>exact Zf w
end
structure RoomH (k:Nat)(A:Around):Prop where
 dp:A.depth+3*k+5<recursionLimit
 un:A.units+16*k+200<cLine
theorem RoomH.deeper {k:Nat}{A:Around}(r:RoomH (k+1) A)(env:Gg):RoomH k (A.deeper env):=
 ⟨by have:=r.dp;show A.depth+1+3*k+5<_;omega,by have:=r.un;show A.units+3+16*k+200<_;omega⟩
theorem RoomH.depth {k:Nat}{A:Around}(r:RoomH k A):A.depth<recursionLimit:=by have:=r.dp;omega
theorem RoomH.units {k:Nat}{A:Around}(r:RoomH k A):A.units+64<cLine:=by have:=r.un;omega
end Sd
namespace Dv
def compGoT (m:Nat)(elt:EE)(cond:EE)(free:Env):List D->RL
 | []=>.ok [] true
 | d::r=>match d with
  | .tup es=>if es.length=m then match cond (es.map some++free) with
   | .ok (.bl true) _=>match elt (es.map some++free) with
    | .ok x f=>match compGoT m elt cond free r with
     | .ok xs g=>.ok (x::xs) (f&&g)
     | _=>.bad
    | _=>.bad
   | .ok (.bl false) _=>compGoT m elt cond free r
   | _=>.bad
   else .bad
  | _=>.bad
def eCompT (m:Nat)(elt cond:EE)(is:List Nat)(it:EI):EE:=λ ρ=>match it ρ with
 | .ok ds _=>if ds.length<=mx then match compGoT m elt cond (pick ρ is) ds with
   | .ok xs f=>.ok (.lst xs) f
   | _=>.bad
  else .bad
 | .exc c=>.exc c
 | .bad=>.bad
end Dv
namespace Sd
open PySem PySem.Spec PyProof.Rows L2
open Dv (D R RL EE EL EI RI Sl Out SS)
inductive NamesAre:List Expr->List Str->Prop
 | nil:NamesAre [] []
 | cons {x:Str} {p:Pos} {es:List Expr} {ts:List Str}:NamesAre es ts->NamesAre (.Name x p::es) (x::ts)
theorem NamesAre.length {es:List Expr}{ts:List Str}(h:NamesAre es ts):es.length=ts.length:=by
 induction h with
 | nil=>rfl
 | cons _ ih=>rw[CQ,CQ,ih]
def tgN:Nat->Nat->TGs
 | _,0=>Bq
 | k,n+1=>yG (dS k) (tgN (k+1) n)
theorem vQ:∀ (n k:Nat) (vs:List V) (pre os fr:St) (H:Hp) (Q:St->Hp->Prop),vs.length=n->os.length=n->pre.length=k->Q (pre++vs.map some++fr) H->tgN k n vs (pre++os++fr) H Q
 | 0,k,vs,pre,os,fr,H,Q,h1,h2,h3,q=>by
  have e1:=DA h1;have e2:=DA h2;subst e1 e2;exact⟨rfl,q⟩
 | n+1,k,v::vs,pre,o::os,fr,H,Q,h1,h2,h3,q=>by
  refine⟨v,vs,rfl,?_⟩;show tgN (k+1) n vs ((pre++(o::os)++fr).set k (some v)) H Q
  have e:(pre++(o::os)++fr).set k (some v)=(pre++[some v])++os++fr:=by
   subst h3;simp[List.set_append]
  rw[e];exact vQ n (k+1) vs (pre++[some v]) os fr H Q (by simpa using h1) (by simpa using h2) (by simp[h3]) (by simpa using q)
 | n+1,k,[],pre,os,fr,H,Q,h1,h2,h3,q=>by cases h1
 | n+1,k,v::vs,pre,[],fr,H,Q,h1,h2,h3,q=>by cases h2
theorem sA {X:Cx}(hN:X.N.Nodup){es:List Expr}{ts:List Str}(na:NamesAre es ts):∀ k:Nat,(∀ (j:Nat) (t:Str),ts[j]?=some t->X.N[k+j]?=some t/\X.env.scope.names.lookup t=some .local)->PGs X es (tgN k es.length):=by
 induction na with
 | nil=>intro k _;exact p6
 | @cons x p es ts na ih=>
  intro k h;obtain⟨h1,h2⟩:=h 0 x rfl;exact mF (gy hN h1 (.inl h2) (.inr h2)) (ih (k+1) λ j t ht=>by
   have:=h (j+1) t (by simpa using ht);have e:k+1+j=k+(j+1):=⋯
   rw[e];exact this) rfl
structure CompNamesT (X:Cx)(scope:Scope)(ts:List Str)(fs:List Str)(is:List Nat):Prop where
 kind:scope.kind=.function
 cell:∀ y∈scope.names,y.2≠.cell
 names:∀ y∈scope.names,y.2=.local->scope.names.lookup y.1=some .local
 tgt:∀ t∈ts,scope.names.lookup t=some .local
 nd:(ts++fs).Nodup
 free:∀ y∈scope.names,y.2=.free->X.env.kindOf y.1=some .cell\/X.env.kindOf y.1=some .free
 fsf:∀ y∈fs,scope.names.lookup y=some .free
 len:is.length=fs.length
 at':∀ (j:Nat) (y:Str),fs[j]?=some y->∃ i,is[j]?=some i/\X.N[i]?=some y
theorem rB {K:F5}{Hv:Hp}{ρ:Dv.Env}{σ:St}{is:List Nat}{ds:List D}{vs:List V}(e:EnvR K Hv ρ σ)(r:RpL K Hv ds vs):EnvR K Hv (ds.map some++Dv.pick ρ is) (vs.map some++cO σ is):=λ j x h=>by
 have hl:=r.length;by_cases hj:j<ds.length
 ·rw[Dq (by simpa using hj),Dc] at h
  cases q:ds[j]? with
  | none=>rw[q] at h;cases h
  | some d=>
   rw[q] at h;cases h;obtain⟨v,h1,h2⟩:=r.get q;exact⟨v,by rw[Dq (by simp;omega),Dc,h1];rfl,h2⟩
 ·rw[DF (by simp;omega),CY] at h
  obtain⟨i,h1,h2⟩:=vi h;obtain⟨u,h3,h4⟩:=e i x h2;exact⟨u,by rw[DF (by simp;omega),CY,hl];exact rQ h1 h3,h4⟩
theorem ox {X:Cx}{pins:List (Addr×Obj)}{σ:St}{H1:Hp}{s2:Shared}{scope:Scope}{ts:List Str}{fs:List Str}{is:List Nat}{cl:List (Str×Addr)}{fp:List Addr}{L:Addr}(I:Inv X pins σ H1 s2)(S:CompNamesT X scope ts fs is)
  (clsub:∀ x c,cl.lookup x=some c->X.env.cells.lookup x=some c) (clhas:∀ y∈scope.names,y.2=.free->∃ c,cl.lookup y.1=some c) (f2:∀ b∈fp,i9 X pins H1 b) (fin:∀ b∈fp,b<s2.heap.objs.size) (hL:s2.heap.objs.size<=L):
  (bW X (ts++fs) scope cl L s2 H1 fp).Ok:=by
 refine⟨I.ok.mod,S.kind,I.ok.glob,I.ok.blt,hL,λ y z c h1 h2=>I.ok.inj y z c (clsub y c h1) (clsub z c h2),λ y hy=>?_,λ y c h=>(by cases h),I.ok.hd,I.ok.frames,.inl rfl,λ b hb=>⟨?_,λ y c h=>?_⟩,I.bs,DJ I.ok.bsz I.sz,λ b o e hb=>?_,λ b hb hf=>?_,I.stack,I.stkFree⟩
 ·have:(y,Gx)∈scope.names:=by
   rcases hy with hy|hy
   ·exact fX (env:=X.env) S.cell (.inl rfl) hy
   ·exact fX (env:=X.env) S.cell (.inr rfl) hy
  exact clhas _ this rfl
 ·exact De (Do (fin b hb) hL)
 ·exact(f2 b hb).2.2.2.2.1 y c (clsub y c h)
 ·obtain⟨_,_,_,h4,_⟩:=f2 b hb
  rcases h4 with h4|h4
  ·exact I.ok.noex b o e h4
  ·exact absurd (F6 (I.ok.bs b o e).1) (Nat.not_lt.mpr h4)
 ·obtain⟨_,h2,h3,_⟩:=f2 b hb
  rcases List.mem_cons.mp (I.stkSub b hf) with e|e
  ·exact h2 e
  ·exact h3 e
theorem tF {X:Cx}{pins:List (Addr×Obj)}{σ:St}{H1:Hp}{s2:Shared}{scope:Scope}{ts:List Str}{fs:List Str}{is:List Nat}{cl:List (Str×Addr)}{fp:List Addr}{L:Addr}{h1:Heap}{t1:Nat}{m:Str->Option Value}(I:Inv X pins σ H1 s2)(S:CompNamesT X scope ts fs is)
  (clsub:∀ x c,cl.lookup x=some c->X.env.cells.lookup x=some c) (clhas:∀ y∈scope.names,y.2=.free->∃ c,cl.lookup y.1=some c) (f2:∀ b∈fp,i9 X pins H1 b) (fin:∀ b∈fp,b<s2.heap.objs.size) (hL:s2.heap.objs.size<=L)
  (old:∀ b o,s2.heap.get? b=some o->h1.get? b=some o) (hn:h1.Ns L m):Inv (bW X (ts++fs) scope cl L s2 H1 fp) [] (List.replicate ts.length none++cO σ is) H1 { s2 with heap:=h1,toks:=t1 }:=by
 refine⟨ox I S clsub clhas f2 fin hL,rfl,I.bare,Un.kept old,⟨m,hn,λ i y v e1 e2 e3=>?_⟩,λ y c e=>?_,I.hok.fresh hL,λ y c e=>I.freeC y c (clsub y c e),λ p hp=>absurd (show p∈([]:List (Addr×Obj)) from hp) (by simp),I.hok.kept old,?_⟩
 ·by_cases hi:i<ts.length
  ·have e2':(List.replicate ts.length none++cO σ is)[i]?=some (some v):=e2
   rw[Dq (by simpa using hi),DX,if_pos hi] at e2';cases e2'
  ·have e1':fs[i-ts.length]?=some y:=by
    have e1'':(ts++fs)[i]?=some y:=e1
    rw[DF ⋯] at e1'';exact e1''
   have e2':(List.replicate ts.length none++cO σ is)[i]?=some (some v):=e2
   rw[DF (by simp;omega),DD] at e2';generalize i-ts.length=j at e1' e2';obtain⟨i,h1',h2'⟩:=uY e2';obtain⟨i',h3,h4⟩:=S.at' j y e1';rw[h1'] at h3;cases h3;have hfr:=S.fsf y (DI e1');have hk:=S.free (y,.free) (mem_lookup hfr) rfl;obtain⟨mm,hm,hl⟩:=I.loc;have vis:Vis X.env.scope y:=by
    rcases hk with k|k
    ·exact .inr (.inl k)
    ·exact .inr (.inr k)
   obtain⟨u,r,l⟩:=hl i y v h4 h2' vis;refine⟨u,r,?_⟩
   rcases l with ⟨k,_⟩|⟨_,c,hc,hcell⟩
   ·have k:X.env.kindOf y=some .local:=k
    rcases hk with k' | k' <;>rw[k] at k' <;>cases k'
   ·obtain⟨c',hc'⟩:=clhas (y,.free) (mem_lookup hfr) rfl
    have:=clsub y c' hc';rw[hc] at this;cases this;obtain⟨oc,hoc,hod⟩:=hcell;refine .inr ⟨?_,c,hc',oc,old c oc hoc,hod⟩;exact gC (env:=X.env) hfr
 ·obtain⟨v,oc,hoc,hod⟩:=I.cell y c (clsub y c e)
  exact⟨v,oc,old c oc hoc,hod⟩
 ·show (List.replicate ts.length none++cO σ is).length=(ts++fs).length
  rw[C9,C9,DD];unfold cO;rw[CY,S.len]
def qR (fsc:Scope)(N:List Str)(scope:Scope)(ts:List Str)(fs:List Str)(is:List Nat):Bool:=
 scope.kind == .function&&scope.names.all (λ y=>!(y.2 == .cell))&&scope.names.all (λ y=>!(y.2 == .local) || scope.names.lookup y.1 == some .local)&&ts.all (λ x=>scope.names.lookup x == some .local)&&decide (ts++fs).Nodup &&
 scope.names.all (λ y=>!(y.2 == .free) || (fsc.names.lookup y.1 == some .cell || fsc.names.lookup y.1 == some .free))&&fs.all (λ y=>scope.names.lookup y == some .free)&&is.length == fs.length&&(fs.zip is).all (λ p=>N[p.2]? == some p.1)
theorem aA {X:Cx}{fsc:Scope}{N:List Str}{scope:Scope}{ts:List Str}{fs:List Str}{is:List Nat}(h1:X.env.scope=fsc)(h2:X.N=N)(h:qR fsc N scope ts fs is=true):CompNamesT X scope ts fs is:=by
 subst h1 h2;unfold qR at h;simp only[C3] at h;obtain⟨⟨⟨⟨⟨⟨⟨⟨a1,a2⟩,a3⟩,a4⟩,a5⟩,a6⟩,a7⟩,a8⟩,a9⟩:=h;refine⟨by simpa using a1,λ y hy=>?_,λ y hy hl=>?_,λ t ht=>(by simpa using List.all_eq_true.mp a4 t ht),by simpa using a5,λ y hy hf=>?_,λ y hy=>?_,by simpa using a8,λ j y hj=>?_⟩
 ·have:=List.all_eq_true.mp a2 y hy
  simpa using this
 ·have:=List.all_eq_true.mp a3 y hy
  simpa[hl] using this
 ·have:=List.all_eq_true.mp a6 y hy
  show X.env.scope.names.lookup y.1=some .cell\/X.env.scope.names.lookup y.1=some .free
  simpa[hf] using this
 ·have:=List.all_eq_true.mp a7 y hy
  simpa using this
 ·have hl:is.length=fs.length:=by simpa using a8
  have hjl:j<fs.length:=(List.getElem?_eq_some_iff.mp hj).1;refine⟨is[j]'⋯,by simp,?_⟩;have hm:(y,is[j]'⋯)∈fs.zip is:=by
   have e1:fs[j]=y:=(List.getElem?_eq_some_iff.mp hj).2;have:(fs.zip is)[j]'(by rw[EK];omega)=(y,is[j]'⋯):=by rw[List.getElem_zip,e1]
   rw[<- this];exact EB _
  have:=List.all_eq_true.mp a9 _ hm;simpa using this
end Sd
namespace Dv
def compGoG (bn:D->Option (List D))(elt:EE)(cond:EE)(free:Env):List D->RL
 | []=>.ok [] true
 | d::r=>match bn d with
  | some es=>match cond (es.map some++free) with
   | .ok (.bl true) _=>match elt (es.map some++free) with
    | .ok x f=>match compGoG bn elt cond free r with
     | .ok xs g=>.ok (x::xs) (f&&g)
     | _=>.bad
    | _=>.bad
   | .ok (.bl false) _=>compGoG bn elt cond free r
   | _=>.bad
  | none=>.bad
def eCompG (bn:D->Option (List D))(elt cond:EE)(is:List Nat)(it:EI):EE:=λ ρ=>match it ρ with
 | .ok ds _=>if ds.length<=mx then match compGoG bn elt cond (pick ρ is) ds with
   | .ok xs f=>.ok (.lst xs) f
   | _=>.bad
  else .bad
 | .exc c=>.exc c
 | .bad=>.bad
def bn1 (d:D):Option (List D):=some [d]
def bnT (m:Nat):D->Option (List D)
 | .tup es=>if es.length=m then some es else none
 | _=>none
theorem go1 (elt cond:EE)(free:Env):∀ l,compGoG bn1 elt cond free l=bR elt cond free l
 | []=>rfl
 | d::r=>by unfold compGoG bR;simp only[bn1,go1 elt cond free r];all_goals rfl
theorem goT (m:Nat)(elt cond:EE)(free:Env):∀ l,compGoG (bnT m) elt cond free l=compGoT m elt cond free l
 | []=>rfl
 | d::r=>by
  unfold compGoG compGoT;cases d with
  | tup es=>
   by_cases q:es.length=m
   ·simp only[bnT,q,if_true,goT m elt cond free r]
    all_goals rfl
   ·simp only[bnT,q,if_false]
  | _=>rfl
theorem eC1 (elt cond:EE)(is:List Nat)(it:EI):eCompG bn1 elt cond is it=eComp elt cond is it:=by funext ρ;unfold eCompG eComp;simp only[go1];all_goals rfl
theorem eCT (m:Nat)(elt cond:EE)(is:List Nat)(it:EI):eCompG (bnT m) elt cond is it=eCompT m elt cond is it:=by funext ρ;unfold eCompG eCompT;simp only[goT];all_goals rfl
end Dv
namespace Sd
open PySem PySem.Spec PyProof.Rows L2
open Dv (D R RL EE EL EI RI Sl Out SS)
section
variable {C:Ctx}{elt iter:Expr}{tg:Expr}{bn:D->Option (List D)}{T0:TG}{ts:List Str}{pos:Pos}{ifs:List Expr}{scope:Scope}{fs:List Str}{is:List Nat}{fi:EI}{fe fc:EE}
structure CompAtG (C:Ctx)(ts:List Str)(fs:List Str)(is:List Nat)(scope:Scope)(cl:List (Str×Addr))(L Da:Addr)(s2:Shared)(H1 Hv1:Hp)(fp:List Addr)(tn:Nat->Heap->Prop)(σ:St)(ds:List D)(i:Nat)(os:St)(vs:List V)(xs:List D)(f1:Bool)(Hn Hvn:Hp)(s:Shared):Prop where
 le:i<=ds.length
 ol:os.length=ts.length
 inv:Inv (bW C.X (ts++fs) scope cl L s2 H1 fp) [] (os++cO σ is) Hn s
 at_:tn i s.heap
 fpn:∀ b∈fp,Hn b=none
 obj:∃ (its:List Value) (ne:Nat),s.heap.get? Da=some { cls:=.type "list",data:=.seq its.toArray ne }/\Vals vs its
 dn:Hn Da=none
 few:vs.length<=i
 ext:Ext Hv1 H1 Hvn Hn
 rp:RpL C.X.K Hvn xs vs
 fr:f1=true->RpL [] (Hnew H1 Hn) xs vs
theorem sg {cl:List (Str×Addr)}{L Da:Addr}{s2:Shared}{H1:Hp}{fp:List Addr}{σ:St}{pins:List (Addr×Obj)}{its:List Value}{ne:Nat}{vs:List V}{Hn:Hp}{s1:Shared}{os:St}{h':Heap}
  (I2:Inv C.X pins σ H1 s2) (f2:∀ b∈fp,i9 C.X pins H1 b) (eD:Da=s2.heap.objs.size) (eL:L=s2.heap.objs.size+1)
  (I:Inv (bW C.X (ts++fs) scope cl L s2 H1 fp) [] (os++cO σ is) Hn s1) (obj:s1.heap.get? Da=some { cls:=.type "list",data:=.seq its.toArray ne }) (rv:Vals vs its) (dn:Hn Da=none) (few:vs.length<=sizeLine)
  (sb:∀ b,b≠L->h'.get? b=s1.heap.get? b):Inv C.X pins σ (upd Hn Da (.lst vs)) { s1 with heap:=h' }:=by
 have lt:∀ b o,s2.heap.get? b=some o->b≠Da/\b≠L:=λ b o e=>by
  have hlt:=F6 e;rw[eD,eL];exact⟨De hlt,De (E3 hlt)⟩
 have hDL:Da≠L:=by rw[eD,eL];exact De (D1 _)
 have kp:∀ b o,b≠L->s1.heap.get? b=some o->h'.get? b=some o:=λ b o hb e=>(sb b hb).trans e
 refine I2.call' (s':={ s1 with heap:=h' }) (ch:=fp) I.os ⟨λ b ob e n hb hx=>?_,λ b ob e n hb hx=>?_,λ b ob e n hx=>?_,λ b ob e hx=>?_,λ b us e=>?_,λ b ob u e=>?_,λ b ps e=>?_⟩ ?_ I.bare λ b hb=>⟨(f2 b hb).2.2.2.1,(f2 b hb).2.1,(f2 b hb).2.2.2.2.1,(f2 b hb).2.2.2.2.2⟩
 ·exact kp b ob (lt b ob e).2 (I.base.keep b ob e n hb hx)
 ·obtain⟨sl,h1⟩:=I.base.slot b ob e n hb hx
  exact⟨sl,kp b _ (lt b ob e).2 h1⟩
 ·rw[ah (lt b ob e).1];exact I.base.free b ob e n hx
 ·obtain⟨o',h1⟩:=I.base.there b ob e hx
  exact⟨o',kp b _ (lt b ob e).2 h1⟩
 ·have h1:=I.base.tups b us e
  rw[ah (ax h1 dn)];exact h1
 ·have h1:=I.base.frzs b ob u e
  rw[ah (ax h1 dn)];exact h1
 ·obtain⟨more,h1⟩:=I.base.tbls b ps e
  exact⟨more,by rw[ah (ax h1 dn)];exact h1⟩
 ·exact gT (yB I.hok I.free kp) dn ⟨few,its,ne,rv,kp Da _ hDL obj⟩
theorem lW {bn:D->Option (List D)}{elt cond:EE}{free:Dv.Env}{d:D}{r:List D}{xs:List D}{f:Bool}(h:Dv.compGoG bn elt cond free (d::r)=.ok xs f):
  ∃ es,bn d=some es/\((∃ g x fx xs' f',cond (es.map some++free)=.ok (.bl true) g/\elt (es.map some++free)=.ok x fx/\Dv.compGoG bn elt cond free r=.ok xs' f'/\xs=x::xs'/\f=(fx&&f')) \/
  (∃ g,cond (es.map some++free)=.ok (.bl false) g/\Dv.compGoG bn elt cond free r=.ok xs f)):=by
 unfold Dv.compGoG at h;cases hb:bn d with
 | none=>simp only[hb] at h;cases h
 | some es=>
  refine⟨es,rfl,?_⟩;simp only[hb] at h;cases hc:cond (es.map some++free) with
  | bad=>simp only[hc] at h;cases h
  | exc c=>simp only[hc] at h;cases h
  | ok v g=>
   cases v with
   | bl b=>
    cases b with
    | true=>
     simp only[hc] at h;cases he:elt (es.map some++free) with
     | bad=>simp only[he] at h;cases h
     | exc c=>simp only[he] at h;cases h
     | ok x fx=>
      simp only[he] at h;cases hr:Dv.compGoG bn elt cond free r with
      | bad=>simp only[hr] at h;cases h
      | exc c=>simp only[hr] at h;cases h
      | ok xs' f'=>
       simp only[hr] at h;cases h;exact .inl ⟨g,x,fx,xs',f',rfl,rfl,rfl,rfl,rfl⟩
    | false=>simp only[hc] at h;exact .inr ⟨g,rfl,h⟩
   | _=>simp only[hc] at h;cases h
structure TgR (C:Ctx)(tg:Expr)(ts fs:List Str)(scope:Scope)(bn:D->Option (List D))(T:TG):Prop where
 hg:∀ cl L s₀ H₀ ex,PG (bW C.X (ts++fs) scope cl L s₀ H₀ ex) tg T
 ht:∀ {K:F5} {d:D} {des:List D} {Hv H:Hp} {xv:V} {os fr:St} {Q:St->Hp->Prop},bn d=some des->os.length=ts.length->Same Hv H->Rp K Hv d xv->(∀ ws,ws.length=ts.length->RpL K Hv des ws->Q (ws.map some++fr) H)->T xv (os++fr) H Q
theorem jD {pins:List (Addr×Obj)}{s:Shared}{σ:St}{H Hv:Hp}{ρ:Dv.Env}{Q:VK}{use:Option (Value->Sem Unit)}{Q':Value->Shared->Prop}{pos':Pos}(hclm:C.X.calm=true)(S:CompNamesT C.X scope ts fs is)(hG:TgR C tg ts fs scope bn T0)(hi:SI C tg iter fi)(he:∀ cl L s₀ H₀ ex,SE (bE C (ts++fs) scope cl L s₀ H₀ ex) elt fe)(hc:∀ cl L s₀ H₀ ex,STs (bE C (ts++fs) scope cl L s₀ H₀ ex) ifs fc)
  (hs:∀ v,foldedSetIterable iter C.X.env v=pure v) (I:Inv C.X pins σ H s) (er:EnvR C.X.K Hv ρ σ) (sv:Same Hv H) (ok:Ok C.X.K Hv H (C.W σ) C.cls (Dv.eCompG bn fe fc is fi ρ) Q)
  (hfin:∀ Da L s5,qU C pins σ Q Da L s5->compPost (model C.X.prog C.X.w) C.X.A C.X.xe use Q' (.ref Da) L (.ok .next) s5):
  wpAny (model C.X.prog C.X.w) C.X.A (comprehension (.ListComp elt [⟨tg,iter,ifs,0⟩] scope pos) scope C.X.env pos' (newList []) false (eval iter C.X.env) use) Q' C.X.xe s:=by
 obtain⟨wi,pi,qi⟩:=hi;obtain⟨cl,hcl,clsub,clhas⟩:=o9 (env:=C.X.env) (scope:=scope) λ y hy hf=>I.ok.has y.1 (S.free y hy hf)
 have h0:wi σ H (λ J H1=>∃ Hv1 ds xs fr,Ext Hv H Hv1 H1/\Wlk C.X.K J Hv1 ds/\ds.length<=Dv.mx/\Dv.compGoG bn fe fc (Dv.pick ρ is) ds=.ok xs fr/\Ok C.X.K Hv H (C.W σ) C.cls (.ok (.lst xs) fr) Q):=by
  refine qi σ H Hv ρ _ er sv ?_
  unfold Dv.eCompG at ok;cases hf:fi ρ with
  | bad=>simp only[hf] at ok;exact ok
  | exc c=>simp only[hf] at ok;exact ok
  | ok ds g=>
   simp only[hf] at ok;by_cases hz:ds.length<=Dv.mx
   ·simp only[hz,if_true] at ok
    cases hgo:Dv.compGoG bn fe fc (Dv.pick ρ is) ds with
    | bad=>simp only[hgo] at ok;exact Zf ok
    | exc c=>simp only[hgo] at ok;exact Zf ok
    | ok xs fr=>
     simp only[hgo] at ok;exact λ J Hv1 H1 x1 wl=>⟨Hv1,ds,xs,fr,x1,wl,hz,hgo,ok⟩
   ·simp only[hz,if_false] at ok
    exact Zf ok
 refine wpAny_comprehension_free (use:=use) rfl hs hcl S.kind S.names (Ge (pi pins s σ H _ I h0) (λ v s1 h1=>Ge h1 (λ itv s2 h2=>?_) λ _ _ z=>z) λ _ _ z=>z);obtain⟨it,fp,tn,J,H1,rfl,I2,T,st2,f2,Hv1,ds,xs,fr,x1,wl,hz,hgo,okE⟩:=h2;clear ok;have fin:∀ b∈fp,b<s2.heap.objs.size:=λ b hb=>by
  obtain⟨o,e,_⟩:=T.obj 0 _ st2 b hb;exact F6 e
 refine wpAny_newObj_type (wpAny_newFunctionEnv S.cell (by intro y hy;simp at hy) (λ h1 hns hsb=>?_) S.kind);dsimp only at hns hsb ⊢;generalize hH2:s2.heap.push { cls:=.type "list",dict:=none,data:=.seq ([]:List Value).toArray }=G2 at hns hsb ⊢;have hL:G2.objs.size=s2.heap.objs.size+1:=by rw[<- hH2,HI]
 generalize eL:G2.objs.size=L at hns hsb ⊢;rw[eL] at hL;have old:∀ b o,s2.heap.get? b=some o->h1.get? b=some o:=λ b o e=>by
  have hlt:=F6 e;exact hsb.extBut b o (by rw[hL];exact De (E3 hlt)) (F8 _ (hH2▸F8 _ e))
 have hacc:h1.get? s2.heap.objs.size=some { cls:=.type "list",data:=.seq ([]:List Value).toArray 0 }:=hsb.extBut _ _ (by rw[hL];exact De (D1 _)) (F8 _ (hH2▸Gd _ rfl));generalize eD:s2.heap.objs.size=Da at hacc hL ⊢;have hDfp:Da∉fp:=λ hb=>by
  have:=fin Da hb;rw[eD] at this;exact DZ _ this
 have hDL:Da≠L:=by rw[hL];exact De (D1 _)
 have hsL:s2.heap.objs.size<=L:=by rw[hL,eD];exact Fi _
 have hsD:s2.heap.objs.size<=Da:=FE eD;obtain⟨te,pe,qe⟩:=he cl L s2 H1 fp;obtain⟨tt,pt,qt⟩:=hc cl L s2 H1 fp;have hDfs:Da∉frs C.X.stack:=λ hb=>by
  obtain⟨_,ob,hob,_⟩:=I2.stack.mem hb;have:=F6 hob;rw[eD] at this;exact DZ _ this
 have hcalm:(bW C.X (ts++fs) scope cl L s2 H1 fp).calm=true:=hclm;have start:CompAtG C ts fs is scope cl L Da s2 H1 Hv1 fp tn σ ds 0 (List.replicate ts.length none) [] [] true H1 Hv1 { s2 with heap:=h1,toks:=s2.toks+([]:List (Str×Value)).length }:=
  ⟨Ez _,by simp,tF I2 S clsub clhas f2 fin hsL old hns,T.keep 0 _ _ st2 λ b hb o e=>old b o e,λ b hb=>(f2 b hb).1,⟨[],0,hacc,.nil⟩,I2.hok.fresh hsD,Dh _,.refl x1.vh,.nil,λ _=>.nil⟩
 have loop:∀ (T0:Result->Shared->Prop) (s4:Shared),(∀ s',qU C pins σ Q Da L s'->T0 (.ok .next) s')->CompAtG C ts fs is scope cl L Da s2 H1 Hv1 fp tn σ ds 0 (List.replicate ts.length none) [] [] true H1 Hv1 s4 ->
   codeAny (model C.X.prog C.X.w) C.X.A (.compLoop (.ListComp elt [⟨tg,iter,ifs,0⟩] scope pos) 0 (.ref it) (.ref Da) (compEnvC scope cl L C.X.env)) T0 s4:=by
  intro T0 s4 hT hst';refine pG (λ n s=>∃ i os vs xs1 f1 xs2 fr2 Hn Hvn,n=ds.length-i/\CompAtG C ts fs is scope cl L Da s2 H1 Hv1 fp tn σ ds i os vs xs1 f1 Hn Hvn s/\Dv.compGoG bn fe fc (Dv.pick ρ is) (ds.drop i)=.ok xs2 fr2/\xs=xs1++xs2/\fr=(f1&&fr2)) ?_ ds.length ⟨0,List.replicate ts.length none,[],[],true,xs,fr,H1,Hv1,rfl,hst',hgo,rfl,by simp⟩
  rintro n s ⟨i,os,vs,xs1,f1,xs2,fr2,Hn,Hvn,rfl,A,hg2,hxs,hfr⟩
  obtain⟨its,ne,hob,rv⟩:=A.obj;have I1:Inv (bW C.X (ts++fs) scope cl L s2 H1 fp) [(Da,{ cls:=.type "list",data:=.seq its.toArray ne })] (os++cO σ is) Hn s:=A.inv.pins_of λ p hp=>by
   have e:p=(Da,({ cls:=.type "list",data:=.seq its.toArray ne }:Obj)):=by simpa using hp
   subst e;exact⟨hob,A.dn,hDL,hDfs,λ v z=>by cases z⟩
  have hfp:∀ Hx:Hp,(∀ b∈fp,Hx b=none)->∀ b∈fp,i9 (bW C.X (ts++fs) scope cl L s2 H1 fp) [(Da,{ cls:=.type "list",data:=.seq its.toArray ne })] Hx b:=λ Hx hx b hb=>by
   refine⟨hx b hb,?_,λ hf=>?_,.inl hb,λ y c e=>(f2 b hb).2.2.2.2.1 y c (clsub y c e),λ p hp=>?_⟩
   ·have:=fin b hb
    exact λ z=>by
     have z':b=L:=z;rw[z'] at this;exact absurd this (Nat.not_lt.mpr hsL)
   ·obtain⟨_,ob,hob',_⟩:=I2.stack.mem hf
    rcases List.mem_cons.mp (I2.stkSub b hf) with e|e
    ·exact(f2 b hb).2.1 e
    ·exact(f2 b hb).2.2.1 e
   ·have e:p=(Da,({ cls:=.type "list",data:=.seq its.toArray ne }:Obj)):=by simpa using (show p∈[]++[(Da,({ cls:=.type "list",data:=.seq its.toArray ne }:Obj))] from hp)
    subst e;exact λ z=>hDfp (by rw[show Da=b from z];exact hb)
  obtain⟨w1,w2⟩:=wl i Hn (A.ext.vv.trans A.ext.vh);by_cases hlt:i<ds.length
  ·have hd:ds[i]?=some ds[i]:=by simp[hlt]
   have e1:ds.drop i=ds[i]::ds.drop (i+1):=D8 hlt;rw[e1] at hg2;generalize ds[i]=d at hd e1 hg2;obtain⟨go,yl⟩:=w1 d hd;refine Ge (T.item (bW C.X (ts++fs) scope cl L s2 H1 fp) rfl rfl rfl hcalm i _ s _ Hn (λ _ _=>False) I1 (hfp Hn A.fpn) A.at_ go) (λ r s5 h5=>?_) λ _ _ z=>z
   obtain⟨u,rfl,h5⟩:=h5;refine Ge h5 (λ _ s6 h6=>?_) λ _ _ z=>z
   obtain⟨xv,H6,I6,ru,y6,tn6,fr6⟩:=h6;obtain⟨Hv6,x6,rp6⟩:=yl xv H6 y6;obtain⟨Hvm,xm,sm⟩:=rE A.ext x6;have I6p:=I6.pinned (fp:=fp) (hfp H6 fr6) (T.obj _ _ tn6);have dn6:H6 Da=none:=(I6.pin (Da,{ cls:=.type "list",data:=.seq its.toArray ne }) (Dl _ (by simp))).2.1;obtain⟨des,ed,hgo3⟩:=lW hg2;refine Ge (hG.hg cl L s2 H1 fp _ s6 _ H6 xv u (λ σ' H'=>∃ ws,ws.length=ts.length/\RpL C.X.K Hv6 des ws/\σ'=ws.map some++cO σ is/\H'=H6) I6p ru (hG.ht ed A.ol x6.vh rp6 λ ws h1 h2=>⟨ws,h1,h2,rfl,rfl⟩)) (λ _ s7 h7=>?_) λ _ _ z=>z
   obtain⟨σ7,H7,I7,ws,hwl,hws,e7,e7'⟩:=h7;subst e7 e7';have er7:EnvR C.X.K Hvm (des.map some++Dv.pick ρ is) (ws.map some++cO σ is):=rB (er.same ((x1.vv.trans A.ext.vv).trans xm.vv)) ((hws.same sm));have back:∀ {s':Shared} {H':Hp} {σ':St},Inv (bW C.X (ts++fs) scope cl L s2 H1 fp) ([(Da,{ cls:=.type "list",data:=.seq its.toArray ne })]++i5 fp s6.heap) σ' H' s'->tn (i+1) s'.heap/\(∀ b∈fp,H' b=none)/\s'.heap.get? Da=some { cls:=.type "list",data:=.seq its.toArray ne }/\H' Da=none:=λ {s' H' σ'} I'=>by
    refine⟨T.keep _ _ _ tn6 λ b hb o e=>(I'.pin (b,o) (Dl _ (Dl _ (ee hb e)))).1,λ b hb=>?_,?_,?_⟩
    ·obtain⟨o,e,_⟩:=T.obj _ _ tn6 b hb
     exact(I'.pin (b,o) (Dl _ (Dl _ (ee hb e)))).2.1
    ·exact(I'.pin (Da,{ cls:=.type "list",data:=.seq its.toArray ne }) (Dl _ (DC _ (by simp)))).1
    ·exact(I'.pin (Da,{ cls:=.type "list",data:=.seq its.toArray ne }) (Dl _ (DC _ (by simp)))).2.1
   rcases hgo3 with ⟨g,xd,fx,xs',f',hcond,helt,hrest,exs,ef⟩|⟨g,hcond,hrest⟩
   ·-- the item is taken
    refine Ge (pt _ s7 _ H7 (λ b H'=>b=true/\∃ Hvq,Ext Hvm H7 Hvq H') I7 (qt _ H7 Hvm (des.map some++Dv.pick ρ is) _ er7 xm.vh ?_)) (λ okb s8 h8=>?_) λ _ _ z=>z
    ·rw[hcond]
     intro v Hv' H' xx rpb _;unfold Rp at rpb;exact⟨true,rpb,rfl,Hv',xx⟩
    obtain⟨H8,I8,rfl,Hv8,x8⟩:=h8;rw[if_pos rfl];refine Ge (pe _ s8 _ H8 (λ v H'=>∃ Hv',Ext Hv8 H8 Hv' H'/\Rp C.X.K Hv' xd v/\(fx=true->Rp [] (Hnew H8 H') xd v)) I8 (qe _ H8 Hv8 (des.map some++Dv.pick ρ is) _ (er7.same x8.vv) x8.vh ?_)) (λ uv s9 h9=>?_) λ _ _ z=>z
    ·show Ok C.X.K Hv8 H8 _ C.cls (fe (des.map some++Dv.pick ρ is)) _
     rw[helt];exact λ v Hv' H' xx rpb nn=>⟨Hv',xx,rpb,nn⟩
    obtain⟨v9,H9,I9,r9,Hv9,x9,rp9,n9⟩:=h9;obtain⟨tn9,fpn9,ob9,dn9⟩:=back I9;have hlen:=rv.length;refine GW Iq ⟨_,ob9,rfl⟩ HZ (HR _ _) (Iv Da its.toArray ne uv (by rw[Dd];have:=A.few;have:=dH hz;omega)) ⟨ob9,?_⟩;refine⟨ds.length-(i+1),⋯,i+1,ws.map some,vs++[v9],xs1++[xd],f1&&fx,xs',f',H9,Hv9,rfl,⟨hlt,by simp[hwl],?_,?_,fpn9,?_,dn9,?_,?_,?_,?_⟩,hrest,by rw[hxs,exs];simp,by rw[hfr,ef,Bool.and_assoc]⟩
    ·have I9':Inv (bW C.X (ts++fs) scope cl L s2 H1 fp) [] (ws.map some++cO σ is) H9 s9:=I9.pins_of λ p hp=>absurd hp (by simp)
     exact I9'.turned (it:=Da) (λ b ob hb e=>(GP _ _ (Ne.symm hb)).trans e) dn9 hDL (.inr hsD) (λ y c e z=>by
      obtain⟨w',oc,hoc,_⟩:=I2.cell y c (clsub y c e);have:=F6 hoc;rw[z] at this;exact absurd this (Nat.not_lt.mpr hsD)) (λ p hp=>absurd (show p∈([]:List (Addr×Obj)) from hp) (by simp))
    ·exact T.keep _ _ _ tn9 λ b hb ob e=>(GP _ _ (λ z=>hDfp (by rw[z];exact hb))).trans e
    ·have q:=Iy ob9 (λ a=>a.push uv)
     exact⟨its++[uv],_,by simpa using q,rv.append (.cons r9 .nil)⟩
    ·rw[C9,Ds];have:=A.few;omega
    ·exact A.ext.trans (xm.trans (x8.trans x9))
    ·exact(A.rp.same ((xm.vv.trans x8.vv).trans x9.vv)).append (.cons rp9 .nil)
    ·intro z
     rw[C3] at z;refine((A.fr z.1).same (Hnew.mono (.refl _) ((xm.hh.trans x8.hh).trans x9.hh))).append (.cons ((n9 z.2).same (Hnew.mono ((A.ext.hh.trans xm.hh).trans x8.hh) (.refl _))) .nil)
   ·-- the item is left out
    refine Ge (pt _ s7 _ H7 (λ b H'=>b=false/\∃ Hvq,Ext Hvm H7 Hvq H') I7 (qt _ H7 Hvm (des.map some++Dv.pick ρ is) _ er7 xm.vh ?_)) (λ okb s8 h8=>?_) λ _ _ z=>z
    ·rw[hcond]
     intro v Hv' H' xx rpb _;unfold Rp at rpb;exact⟨false,rpb,rfl,Hv',xx⟩
    obtain⟨H8,I8,rfl,Hv8,x8⟩:=h8;rw[if_neg Dj];obtain⟨tn8,fpn8,ob8,dn8⟩:=back I8;refine⟨ds.length-(i+1),⋯,i+1,ws.map some,vs,xs1,f1,xs2,fr2,H8,Hv8,rfl,⟨hlt,by simp[hwl],I8.pins_of λ p hp=>absurd hp (by simp),tn8,fpn8,⟨its,ne,ob8,rv⟩,dn8,Nat.le_succ_of_le A.few,A.ext.trans (xm.trans x8),A.rp.same (xm.vv.trans x8.vv),λ z=>(A.fr z).same (Hnew.mono (.refl _) (xm.hh.trans x8.hh))⟩,hrest,hxs,hfr⟩
  ·have ei:i=ds.length:=Nat.le_antisymm A.le ⋯
   refine Ge (T.done (bW C.X (ts++fs) scope cl L s2 H1 fp) rfl rfl rfl hcalm i _ s _ Hn (λ _ _=>False) I1 (hfp Hn A.fpn) A.at_ (w2 ei)) (λ r s5 h5=>?_) λ _ _ z=>z
   obtain⟨rfl,I5⟩:=h5;refine hT s5 ?_
   obtain⟨m5,hn5,_⟩:=I5.loc;rw[ei,E4] at hg2;cases hg2;rw[DT] at hxs;rw[C2] at hfr;subst hxs hfr;have ob5:=(I5.pin (Da,{ cls:=.type "list",data:=.seq its.toArray ne }) (Dl _ (by simp))).1;refine⟨⟨m5,hn5⟩,λ z=>absurd I2.lt (by rw[<- z];exact Nat.not_lt.mpr hsL),λ y c e z=>?_,DJ I2.sz hsL,λ p hp z=>?_,upd Hn Da (.lst vs),?_,?_,λ h' sb=>?_⟩
   ·obtain⟨w',oc,hoc,_⟩:=I2.cell y c e
    exact absurd (F6 hoc) (by rw[z];exact Nat.not_lt.mpr hsL)
   ·exact absurd (F6 (I2.pin p hp).1) (by rw[z];exact Nat.not_lt.mpr hsL)
   ·rw[ah (Ne.symm hDL)];exact A.inv.free
   ·exact Ok.newL okE (x1.trans A.ext) A.rp (λ z=>(A.fr z).same (Hnew.mono x1.hh (.refl _))) Da A.dn
   ·exact sg I2 f2 eD.symm (by rw[hL,eD]) (I5.pins_of λ p hp=>absurd hp (by simp)) ob5 rv A.dn (by have:=A.few;have:=A.le;have:=dH hz;omega) sb
 refine codeAny_compStart_list (loop _ _ (λ s' h=>hfin Da L s' h) start) ?_
 exact T.self _ 0 _ _ _ start.at_ (loop _ _ (λ s' h=>hfin Da L s' h) start)
theorem ma (S:CompNamesT C.X scope ts fs is)(hG:TgR C tg ts fs scope bn T0)(hi:SI C tg iter fi)(he:∀ cl L s₀ H₀ ex,SE (bE C (ts++fs) scope cl L s₀ H₀ ex) elt fe)(hc:∀ cl L s₀ H₀ ex,STs (bE C (ts++fs) scope cl L s₀ H₀ ex) ifs fc)
  (hs:autoParam (∀ v,foldedSetIterable iter C.X.env v=pure v) ZE._auto_1) (hclm:autoParam (C.X.calm=true) ZF._auto_1):SE C (.ListComp elt [⟨tg,iter,ifs,0⟩] scope pos) (Dv.eCompG bn fe fc is fi):=by
 refine⟨λ σ H Q=>∃ Hv ρ,EnvR C.X.K Hv ρ σ/\Same Hv H/\Ok C.X.K Hv H (C.W σ) C.cls (Dv.eCompG bn fe fc is fi ρ) Q,?_,λ σ H Hv ρ Q e s q=>⟨Hv,ρ,e,s,q⟩⟩;intro pins s σ H Q I ⟨Hv,ρ,er,sv,ok⟩;rw[eval_ListComp];refine jD (use:=none) hclm S hG hi he hc hs I er sv ok λ Da L s5 h=>?_
 obtain⟨⟨m,hn⟩,_,_,_,_,H',hL,q,iv⟩:=h;exact⟨m,hn,λ h' sb=>⟨.ref Da,H',iv h' λ b hb=>sb.2 b hb,rfl,q⟩⟩
theorem iq {i:Nat}{y:Str}{py spos:Pos}(S:CompNamesT C.X scope ts fs is)(hG:TgR C tg ts fs scope bn T0)(hi:SI C tg iter fi)(he:∀ cl L s₀ H₀ ex,SE (bE C (ts++fs) scope cl L s₀ H₀ ex) elt fe)(hc:∀ cl L s₀ H₀ ex,STs (bE C (ts++fs) scope cl L s₀ H₀ ex) ifs fc)
  (hN:C.X.N.Nodup) (hy:C.X.N[i]?=some y) (hl:C.X.env.scope.names.lookup y=some .local) (hsw:swapsWith (.ListComp elt [⟨tg,iter,ifs,0⟩] scope pos) (some (.Name y py)) spos.line C.X.env=pure true) (hs:∀ v,foldedSetIterable iter C.X.env v=pure v) (hclm:C.X.calm=true):
  PS C.X (.Assign [.Name y py] (.ListComp elt [⟨tg,iter,ifs,0⟩] scope pos) spos) (λ E σ H=>∃ Hv ρ,EnvR C.X.K Hv ρ σ/\Same Hv H/\Ok C.X.K Hv H (C.W σ) C.cls (Dv.eCompG bn fe fc is fi ρ) λ v H'=>E.nx (σ.set i (some v)) H'):=by
 intro pins s σ H E I ⟨Hv,ρ,er,sv,ok⟩;rw[exec_Assign_Name_used _ _ _ _ hsw];refine F9 (GY (F9 ?_));show wpAny _ _ (do let _ <- comprehension (.ListComp elt [⟨tg,iter,ifs,0⟩] scope pos) scope C.X.env _ (newList []) false (eval iter C.X.env) (some (assign (.Name y py) C.X.env))) _ _ s
 refine F9 (Ge (jD (use:=some (assign (.Name y py) C.X.env)) (Q':=λ _ s'=>∃ σ' H',Inv C.X pins σ' H' s'/\E.nx σ' H') hclm S hG hi he hc hs I er sv ok λ Da L s5 h=>?_) (λ _ s' hq=>Gc (Gc hq)) λ _ _ e=>e);obtain⟨⟨m,hn⟩,h1,h2,h3,h4,H',hL,q,iv⟩:=h;have I5:Inv C.X pins σ H' s5:=iv s5.heap λ b _=>rfl
 show wpAny _ _ (assign (.Name y py) C.X.env (.ref Da)) _ _ s5
 refine wpAny_assign_Name (kB (v:=.ref Da) I5 hN hy (.inl hl) rfl (λ s6 I6 ⟨a,sb,ha⟩=>?_) (.inr hl));have hLa:L≠a:=by
  rcases ha with rfl|ha
  ·exact h1
  ·exact λ z=>h2 y a ha z.symm
 refine⟨m,hn.sameBut sb hLa,λ h' sb'=>⟨_,H',?_,q⟩⟩;exact I6.turned (t':=s6.toks) (it:=L) (λ b o hb e=>(sb'.2 b hb).trans e) hL h1 (.inr h3) h2 h4
theorem lZ {i:Nat}{y:Str}{py spos:Pos}(S:CompNamesT C.X scope ts fs is)(hG:TgR C tg ts fs scope bn T0)(hi:SI C tg iter fi)(he:∀ cl L s₀ H₀ ex,SE (bE C (ts++fs) scope cl L s₀ H₀ ex) elt fe)(hc:∀ cl L s₀ H₀ ex,STs (bE C (ts++fs) scope cl L s₀ H₀ ex) ifs fc)
  (hN:C.X.N.Nodup) (hy:C.X.N[i]?=some y) (hl:C.X.env.scope.names.lookup y=some .local) (hsw:autoParam (swapsWith (.ListComp elt [⟨tg,iter,ifs,0⟩] scope pos) (some (.Name y py)) spos.line C.X.env=pure true) ZF._auto_1) (hs:autoParam (∀ v,foldedSetIterable iter C.X.env v=pure v) ZE._auto_1) (hclm:autoParam (C.X.calm=true) ZF._auto_1):
  SSt C (.Assign [.Name y py] (.ListComp elt [⟨tg,iter,ifs,0⟩] scope pos) spos) (Dv.sSet i (Dv.eCompG bn fe fc is fi)):=
 ⟨_,iq S hG hi he hc hN hy hl hsw hs hclm,λ Hv₀ H₀ E σ H st r w=>pV (f:=Dv.eCompG bn fe fc is fi) (t:=λ σ H Q=>∃ Hv ρ,EnvR C.X.K Hv ρ σ/\Same Hv H/\Ok C.X.K Hv H (C.W σ) C.cls (Dv.eCompG bn fe fc is fi ρ) Q) (λ σ H Hv ρ Q e s q=>⟨Hv,ρ,e,s,q⟩) i r w⟩
end
section
variable {C:Ctx}{elt iter:Expr}{x:Str}{px pos:Pos}{ifs:List Expr}{scope:Scope}{fs:List Str}{is:List Nat}{fi:EI}{fe fc:EE}
theorem nY (S:CompNamesT C.X scope [x] fs is):TgR C (.Name x px) [x] fs scope Dv.bn1 (dS 0):=
  ⟨λ cl L s₀ H₀ ex=>gy (X:=bW C.X ([x]++fs) scope cl L s₀ H₀ ex) (pos:=px) (i:=0) (x:=x) S.nd rfl (.inl (G6 (S.tgt x (by simp)))) (.inr (G6 (S.tgt x (by simp)))),
   λ {K d des Hv H xv os fr Q} e l _ r h=>by
    cases e
    match os,l with
    | [o],_=>exact h [xv] rfl (.cons r .nil)⟩
theorem AG {es:List Expr}{ts:List Str}{kt:Nat}(hcl:C.X.calm=true)(S:CompNamesT C.X scope ts fs is)(na:NamesAre es ts)(hn:∀ env,(assignEach es env).length=es.length)(hst:∀ env,(assignEach es env).findIdx? (·.1)=none):TgR C (.Tuple es kt px) ts fs scope (Dv.bnT ts.length) (BF C.X.K es.length (tgN 0 es.length)):=by
 have hesl:es.length=ts.length:=na.length;refine⟨λ cl L s₀ H₀ ex=>o2 (X:=bW C.X (ts++fs) scope cl L s₀ H₀ ex) (pos:=px) (k:=kt) hcl (sA (X:=bW C.X (ts++fs) scope cl L s₀ H₀ ex) S.nd na 0 (λ j t ht=>⟨by
  show (ts++fs)[0+j]?=some t
  rw[EN,Dq (List.getElem?_eq_some_iff.mp ht).1];exact ht,G6 (S.tgt t (DI ht))⟩)) (hn _) (hst _),λ {K d des Hv H xv os fr Q} e l sm r h=>?_⟩
 cases d with
 | tup es'=>
  by_cases hdl:es'.length=ts.length
  ·have e':es'=des:=by simpa[Dv.bnT,hdl] using e
   subst e';unfold Rp at r;obtain⟨ta,ws,rfl,hta,hws⟩:=r;have hwl:ws.length=ts.length:=by rw[hws.length,hdl]
   refine⟨ta,ws,rfl,.inl (Rd.same sm hta),by rw[hwl,hesl],?_⟩;rw[hesl];have:=vQ ts.length 0 ws [] os fr H Q hwl l rfl (by simpa using h ws hwl hws);simpa using this
  ·simp[Dv.bnT,hdl] at e
 | _=>cases e
theorem bD (S:CompNamesT C.X scope [x] fs is)(hi:SI C (.Name x px) iter fi)(he:∀ cl L s₀ H₀ ex,SE (bE C ([x]++fs) scope cl L s₀ H₀ ex) elt fe)(hc:∀ cl L s₀ H₀ ex,STs (bE C ([x]++fs) scope cl L s₀ H₀ ex) ifs fc)
  (hs:autoParam (∀ v,foldedSetIterable iter C.X.env v=pure v) ZE._auto_1) (hclm:autoParam (C.X.calm=true) ZF._auto_1):SE C (.ListComp elt [⟨.Name x px,iter,ifs,0⟩] scope pos) (Dv.eComp fe fc is fi):=by
 rw[<- Dv.eC1];exact ma S (nY S) hi he hc hs hclm
theorem uR {es:List Expr}{ts:List Str}{kt:Nat}(S:CompNamesT C.X scope ts fs is)(na:NamesAre es ts)(hn:∀ env,(assignEach es env).length=es.length)(hst:∀ env,(assignEach es env).findIdx? (·.1)=none)(hi:SI C (.Tuple es kt px) iter fi)(he:∀ cl L s₀ H₀ ex,SE (bE C (ts++fs) scope cl L s₀ H₀ ex) elt fe)(hc:∀ cl L s₀ H₀ ex,STs (bE C (ts++fs) scope cl L s₀ H₀ ex) ifs fc)
  (hs:autoParam (∀ v,foldedSetIterable iter C.X.env v=pure v) ZE._auto_1) (hclm:autoParam (C.X.calm=true) ZF._auto_1):SE C (.ListComp elt [⟨.Tuple es kt px,iter,ifs,0⟩] scope pos) (Dv.eCompT ts.length fe fc is fi):=by
 rw[<- Dv.eCT];exact ma S (AG hclm S na hn hst) hi he hc hs hclm
theorem o6 {i:Nat}{y:Str}{py spos:Pos}(S:CompNamesT C.X scope [x] fs is)(hi:SI C (.Name x px) iter fi)(he:∀ cl L s₀ H₀ ex,SE (bE C ([x]++fs) scope cl L s₀ H₀ ex) elt fe)(hc:∀ cl L s₀ H₀ ex,STs (bE C ([x]++fs) scope cl L s₀ H₀ ex) ifs fc)
  (hN:C.X.N.Nodup) (hy:C.X.N[i]?=some y) (hl:C.X.env.scope.names.lookup y=some .local) (hsw:swapsWith (.ListComp elt [⟨.Name x px,iter,ifs,0⟩] scope pos) (some (.Name y py)) spos.line C.X.env=pure true) (hs:∀ v,foldedSetIterable iter C.X.env v=pure v) (hclm:C.X.calm=true):
  PS C.X (.Assign [.Name y py] (.ListComp elt [⟨.Name x px,iter,ifs,0⟩] scope pos) spos) (λ E σ H=>∃ Hv ρ,EnvR C.X.K Hv ρ σ/\Same Hv H/\Ok C.X.K Hv H (C.W σ) C.cls (Dv.eComp fe fc is fi ρ) λ v H'=>E.nx (σ.set i (some v)) H'):=by
 rw[<- Dv.eC1];exact iq S (nY S) hi he hc hN hy hl hsw hs hclm
theorem gj {i:Nat}{y:Str}{py spos:Pos}(S:CompNamesT C.X scope [x] fs is)(hi:SI C (.Name x px) iter fi)(he:∀ cl L s₀ H₀ ex,SE (bE C ([x]++fs) scope cl L s₀ H₀ ex) elt fe)(hc:∀ cl L s₀ H₀ ex,STs (bE C ([x]++fs) scope cl L s₀ H₀ ex) ifs fc)
  (hN:C.X.N.Nodup) (hy:C.X.N[i]?=some y) (hl:C.X.env.scope.names.lookup y=some .local) (hsw:autoParam (swapsWith (.ListComp elt [⟨.Name x px,iter,ifs,0⟩] scope pos) (some (.Name y py)) spos.line C.X.env=pure true) ZF._auto_1) (hs:autoParam (∀ v,foldedSetIterable iter C.X.env v=pure v) ZE._auto_1) (hclm:autoParam (C.X.calm=true) ZF._auto_1):
  SSt C (.Assign [.Name y py] (.ListComp elt [⟨.Name x px,iter,ifs,0⟩] scope pos) spos) (Dv.sSet i (Dv.eComp fe fc is fi)):=by
 rw[<- Dv.eC1];exact lZ S (nY S) hi he hc hN hy hl hsw hs hclm
end
section
variable {C:Ctx}{a b c e k:Expr}{f g h:EE}{F G:SS}{pos pos':Pos}{E:Ends}
theorem Aj {l:List Int}{i:Nat}(h:i<l.length):l.getD i 0∈l:=by
 rw[C6,Dg h];exact EB h
theorem Aq {l:List Int}{a:Int}(h:a∈l):∃ j,j<l.length/\l.getD j 0=a:=by
 obtain⟨j,hj,rfl⟩:=EV h;exact⟨j,hj,by rw[C6,Dg hj];rfl⟩
theorem tT {X:Cx}(hc:X.calm=true):dY X (.builtin "min") (λ xs H Q=>∃ p,∃ ns:List Int,xs=[.ref p]/\SqX X.K H p (ns.map V.int)/\0<ns.length/\∀ M,M∈ns->(∀ a∈ns,M<=a)->Q (.int M) H):=by
 intro pins s σ H xs us Q I r h;obtain⟨p,ns,rfl,hq,hne,q⟩:=h;obtain⟨u,rfl,rx⟩:=vals1 r;cases rx;obtain⟨its,n,rv,e,z⟩:=Inv.listX I hq;have hi:=intsAre_of rv;obtain⟨xs,ex⟩:=hi.allInts.items;have hns:ns=xs.toList.map (·.1):=by rw[<- hi.numsOf,<- nums_intItems,<- ex]
 have hsz:0<xs.size:=by
  have h3:=hne;rw[hns,CY,GL] at h3;exact h3
 have hl':s.heap.IsList p (intItems xs):=ex▸⟨_,e,rfl,n,rfl⟩;refine min_intList (I.ok.hd hc) hl' hsz λ v h' tk hv hk=>?_
 obtain⟨t,rfl⟩:=intItems_at hv;obtain⟨h1,h2⟩:=argBest_lt (numAt xs) (xs.size-1);refine⟨.int _,H,I.kept hk,⟨t,rfl⟩,q _ ?_ λ a ha=>?_⟩
 ·rw[hns,numAt_eq]
  refine Aj ?_
  rw[CY,GL];omega
 ·rw[hns] at ha
  obtain⟨j,hj,rfl⟩:=Aq ha;rw[CY,GL] at hj;rw[<- numAt_eq];exact h2 j ⋯
theorem kX:∀ (r:List Int) (a:Int),Dv.minI a r∈a::r/\∀ b∈a::r,Dv.minI a r<=b
 | [],a=>⟨CS ..,λ b hb=>by simp at hb;subst hb;exact F1 _⟩
 | x::r,a=>by
  unfold Dv.minI;by_cases hx:x<a
  ·rw[if_pos hx]
   obtain⟨h1,h2⟩:=kX r x;refine⟨CV _ h1,λ b hb=>?_⟩;have h0:=h2 _ (CS ..)
   rcases List.mem_cons.mp hb with rfl|hb
   ·omega
   ·exact h2 b hb
  ·rw[if_neg hx]
   obtain⟨h1,h2⟩:=kX r a;refine⟨?_,λ b hb=>?_⟩
   ·rcases List.mem_cons.mp h1 with h|h
    ·rw[h];exact CS ..
    ·exact CV _ (CV _ h)
   ·have h0:=h2 _ (CS ..)
    rcases List.mem_cons.mp hb with rfl|hb
    ·exact h0
    ·rcases List.mem_cons.mp hb with rfl|hb
     ·omega
     ·exact h2 b (CV _ hb)
theorem wR (hc:C.X.calm=true):C1S C (.builtin "min") Dv.minLD:=by
 refine⟨_,tT hc,λ x d fr H Hv H1 Hv1 W Q e rx n q=>?_⟩;cases d with
 | lst ds=>
  simp only[Dv.minLD] at q;cases hi:Dv.intsOf ds with
  | none=>rw[hi] at q;exact Zf q
  | some ns=>
   rw[hi] at q;cases ns with
   | nil=>exact Zf q
   | cons m ns=>
    unfold Rp at rx;obtain⟨l,vs,rfl,h1,h2⟩:=rx;have e1:=RpL.ints hi h2;subst e1;refine⟨l,m::ns,rfl,h1.same e.vh,by simp,λ M hM hle=>?_⟩;obtain⟨k1,k2⟩:=kX ns m;have:M=Dv.minI m ns:=FQ (hle _ k1) (k2 _ hM);rw[this];exact Ok.at (d:=.int (Dv.minI m ns)) (fr:=true) q e bK rfl
 | _=>exact Zf q
theorem yp {p:Pos}(hm:C.X.mg "min"=none)(hg:Gl C.X "min")(ha:SE C a f)(he:autoParam (starEach [a] C.X.env=[(false,eval a C.X.env)]) ZF._auto_1)(hcl:autoParam (C.X.calm=true) ZF._auto_1):SE C (.Call (.Name "min" p) [a] [] pos) (Dv.eB1 Dv.minLD f):=
 pY (wR hcl) hg hm (by decide +kernel) ha (by decide) (by decide) he
end
end Sd
namespace Dv
def dninD:D->D->R
 | .int j,.dct ks ds=>.ok (.bl (!(look ks ds j).isSome)) true
 | _,_=>.bad
def eDnin (k a:EE):EE:=λ ρ=>(k ρ).bind λ x _=>(a ρ).bind λ y _=>dninD x y
end Dv
namespace Sd
open PySem PySem.Spec PyProof.Rows L2
open Dv (D R RL EE EL EI RI Sl Out SS)
section
variable {C:Ctx}{a b c e k:Expr}{f g h:EE}{F G:SS}{pos pos':Pos}{E:Ends}
theorem sX:OpR C.X (compareOp .NotIn) (λ x y H Q=>∃ a o,y=.ref a/\nX H a x o/\Q (.bl (!o.isSome)) H):=by
 intro pins s σ H x y v u Q I rx ry h;obtain⟨a,o,rfl,g,q⟩:=h;obtain rfl:u=Gh a:=ry;exact wK (nk C) I g rx λ s3 I3=>⟨.bl (!o.isSome),H,I3,rfl,q⟩
theorem tO:OpS C (compareOp .NotIn) Dv.dninD:=by
 refine⟨_,sX,λ x y d d' H Hv H1 Hv1 W Q e rx ry q=>?_⟩;cases d with
 | int j=>
  cases d' with
  | dct ks ds=>
   unfold Rp at rx;have ry':=ry;unfold Rp at ry';obtain⟨a,vs,rfl,hl,h1,h2⟩:=ry';cases hk:Dv.look ks ds j with
   | none=>
    have q:Ok C.X.K Hv H W C.cls (.ok (.bl true) true) Q:=by have:=q;simp only[Dv.dninD,hk] at this;exact this
    refine⟨a,none,rfl,.inl ⟨_,Sum.inl j,Rd.same e.vh h1,rx,(gU hl h2 hk).symm⟩,?_⟩;exact q.at (v:=.bl (!(none:Option V).isSome)) e cn rfl
   | some d0=>
    have q:Ok C.X.K Hv H W C.cls (.ok (.bl false) true) Q:=by have:=q;simp only[Dv.dninD,hk] at this;exact this
    obtain⟨v0,e1,e2⟩:=bU h2 hk;refine⟨a,some v0,rfl,.inl ⟨_,Sum.inl j,Rd.same e.vh h1,rx,e1.symm⟩,?_⟩;exact q.at (v:=.bl (!(some v0).isSome)) e cn rfl
  | _=>exact Zf q
 | _=>exact Zf q
theorem sd (ha:SE C a f)(hb:SE C b g)(hm:autoParam (behindInMarks .NotIn b=false) ZL._auto_1):SC C (.Compare a [.NotIn] [b] pos) (Dv.eDnin f g):=dj tO ha hb hm
end
end Sd
namespace Dv
def iRev (a:EE):EI:=λ ρ=>match a ρ with
 | .ok (.lst xs) _=>.ok xs.reverse true
 | .exc c=>.exc c
 | _=>.bad
def inG (neg:Bool):D->D->R
 | a,.lst ds=>if decide (depthL ds<=8)&&decide (depthD a<=8)&&decide (ds.length<=mx) then match eqsD ds a with
   | some bs=>.ok (.bl (if neg then !(bs.any id) else bs.any id)) true
   | none=>.bad
  else .bad
 | _,_=>.bad
def sUnpackL (is:List Nat)(xs:List Nat)(e:EE):SS:=λ st=>match e (open_ (give is st)) with
 | .ok (.lst ds) _=>if ds.length=xs.length then .nx (setAll xs ds (give is st)) else .bad
 | .exc c=>.exc c st
 | _=>.bad
end Dv
namespace Sd
open PySem PySem.Spec PyProof.Rows L2
open Dv (D R RL EE EL EI RI Sl Out SS)
section
variable {C:Ctx}{a b c e:Expr}{f g h:EE}{F:SS}{pos pos':Pos}
theorem qX:∀ {ds:List D} {d:D} {bs:List Bool},Dv.eqsD ds d=some bs->(pdL ds).any (λ y=>Gu y (pd d))=bs.any id
 | [],d,bs,h=>by simp[Dv.eqsD] at h;subst h;simp[pdL]
 | x::r,d,bs,h=>by
  unfold Dv.eqsD at h;cases h1:Dv.eqD x d with
  | none=>rw[h1] at h;cases h
  | some p=>
   cases h2:Dv.eqsD r d with
   | none=>rw[h1,h2] at h;cases h
   | some q=>
    rw[h1,h2] at h;cases h;simp only[pdL,Ee,ia x d p h1,qX h2,id]
def Bz (K:F5)(neg:Bool):R2:=λ x y H Q=>∃ d ds bs,Rp K H d x/\Rp K H (.lst ds) y/\Dv.depthD d<=8/\Dv.depthL ds<=8/\Dv.eqsD ds d=some bs/\Q (.bl (if neg then !(bs.any id) else bs.any id)) H
theorem sE (hu:C.X.A.units+64<cLine):OpR C.X (compareOp .NotIn) (Bz C.X.K true):=by
 intro pins s σ H x y v u Q I rx ry h;obtain⟨d,ds,bs,h1,h2,z1,z2,e,q⟩:=h;obtain⟨as,ra⟩:=bQ I d x v h1 rx ⋯;obtain⟨bs',rb⟩:=bQ I (.lst ds) y u h2 ry (by unfold Dv.depthD;omega);unfold pd at rb;refine SeqAt.notIn_list_reads rb ra (iK ds) (cN d) ?_ ⟨.bl _,H,I,?_,q⟩
 ·have:=fD ds
  have:=EJ (G5 (pdL ds)) (pd d).depth;omega
 ·rw[qX e];rfl
theorem vG {neg:Bool}{x y:V}{d d':D}{H Hv H1 Hv1:Hp}{W:XK}{Q:VK}(e:Ext Hv H Hv1 H1)(rx:Rp C.X.K Hv1 d x)(ry:Rp C.X.K Hv1 d' y)(q:Ok C.X.K Hv H W C.cls (Dv.inG neg d d') Q):Bz C.X.K neg x y H1 Q:=by
 cases d' with
 | lst ds=>
  simp only[Dv.inG] at q;by_cases hz:(decide (Dv.depthL ds<=8)&&decide (Dv.depthD d<=8)&&decide (ds.length<=Dv.mx))=true
  ·simp only[hz,if_true] at q
   simp only[C3,decide_eq_true_eq] at hz;cases he:Dv.eqsD ds d with
   | none=>rw[he] at q;exact Zf q
   | some bs=>
    rw[he] at q;exact⟨d,ds,bs,rx.same e.vh,ry.same e.vh,hz.1.2,hz.1.1,he,Ok.at (d:=.bl _) (fr:=true) q e cn rfl⟩
  ·simp only[hz] at q
   exact Zf q
 | _=>exact Zf q
theorem sW:OpS C (compareOp .NotIn) (Dv.inG true):=⟨_,sE C.un,λ x y d d' H Hv H1 Hv1 W Q e rx ry q=>vG e rx ry q⟩
theorem tR (ha:SE C a f)(hb:SE C b g)(hm:autoParam (behindInMarks .NotIn b=false) ZL._auto_1):SC C (.Compare a [.NotIn] [b] pos) (Dv.eB2 (Dv.inG true) f g):=dj sW ha hb hm
end
section
variable {prog:Program}{w:World}{A:Around}{E:Value->Shared->Prop}
theorem ke {it t:Addr}{items:Array Value}(hne:t≠it):∀ (n i:Nat) (s:Shared) (Q:List Value->Shared->Prop),s.heap.IsListIter it t i->s.heap.IsList t items->i+n<=items.size ->
  (∀ h',h'.IsListIter it t (i+n)->G0 it s.heap h'->Q ((items.toList.drop i).take n) { s with heap:=h' })->wpAny (model prog w) A (draw (.ref it) n) Q E s
 | 0,i,s,Q,hit,_,_,hQ=>by
  show wpAny _ _ (pure []) Q E s
  exact Gc (by simpa using hQ s.heap hit (Heap.SameBut.refl ..))
 | n+1,i,s,Q,hit,ht,hle,hQ=>by
  have hlt:i<items.size:=⋯
  show wpAny _ _ (pyNext (.ref it) >>= _) Q E s
  refine F9 (Hy hit ht (x:=items[i]) (by simp[hlt]) λ h₁ hit₁ hs₁=>?_);refine F9 (GG (ke hne n (i+1) _ _ hit₁ (ht.at λ o e=>(hs₁.2 t hne).trans e) ⋯ λ h₂ hit₂ hs₂=>Gc ?_));have hd:items.toList.drop i=items[i]::items.toList.drop (i+1):=by simp[D8,hlt]
  have:=hQ h₂ (by rw[show i+(n+1)=i+1+n by omega];exact hit₂) (hs₁.trans hs₂);rw[hd,List.take_succ_cons] at this;exact this
theorem gN {s:Shared}{t:Addr}{items:Array Value}{Q:List Value->Shared->Prop}(hh:A.handled=none)(ht:s.heap.IsList t items)
  (hQ:∀ h',Heap.ExtBut s.heap.objs.size s.heap h'->Q items.toList { s with heap:=h' }):wpAny (model prog w) A (unpackItems (.ref t) items.size none) Q E s:=by
 have hlt:t≠s.heap.objs.size:=by obtain⟨o,ho,_⟩:=ht;exact De (F6 ho)
 unfold unpackItems;refine F9 ?_
 ·unfold notIterableAtAll
  refine F9 (wpAny_specialOf ht.typeIs slot_list_iter.lookup ?_);refine Gc ?_
  simp only[DH,if_false];refine F9 (GG (Hj ht ?_));refine F9 (GG (ke hlt items.size 0 _ _ ⟨_,Gd _ rfl,rfl,rfl⟩ (ht.at λ o e=>F8 _ e) ⋯ λ h₁ hit₁ hs₁=>?_));have hall:List.take items.size (List.drop 0 items.toList)=items.toList:=by
   rw[En];exact D2 (by simp)
  rw[hall];rw[if_neg (by simp)];have ht₁:h₁.IsList t items:=ht.at λ o e=>(hs₁.2 t hlt).trans (F8 _ e)
  refine F9 (GG (HH hh hit₁ ht₁ (by simp) λ h₂ he₂=>?_));simp only[Option.isSome_none,DH,if_false];refine Gc (hQ h₂ λ b o hb e=>he₂ b o hb (hs₁.extBut b o hb (F8 _ e)))
theorem gr {s:Shared}{env:Gg}{elts:List Expr}{x1}{pos:Pos}{t:Addr}{items:Array Value}{Q:Unit->Shared->Prop}(hh:A.handled=none)(ht:s.heap.IsList t items)
  (hn:(assignEach elts env).length=items.size) (hstar:(assignEach elts env).findIdx? (·.1)=none)
  (h:∀ h',Heap.ExtBut s.heap.objs.size s.heap h'->wpAny (model prog w) A (assignInOrder ((assignEach elts env).map (·.2)) items.toList) Q E { s with heap:=h' }):
  wpAny (model prog w) A (assign (.Tuple elts x1 pos) env (.ref t)) Q E s:=by
 rw[assign_Tuple];refine F9 (GY ?_);unfold unpack;rw[hn,hstar];exact F9 (GG (gN hh ht h))
end
def Cj (K:F5)(n:Nat)(t:TGs):TG:=λ v σ H Q=>∃ a xs,v=.ref a/\SqL K H a xs/\xs.length=n/\t xs σ H Q
theorem zr {X:Cx}{es:List Expr}{k:Nat}{t:TGs}{n:Nat}{pos:Pos}(hc:X.calm=true)(h:PGs X es t)
  (hn:autoParam ((assignEach es X.env).length=n) ZF._auto_1) (hst:autoParam ((assignEach es X.env).findIdx? (·.1)=none) ZF._auto_1):PG X (.Tuple es k pos) (Cj X.K n t):=by
 intro pins s σ H v u Q I r hw;obtain⟨a,xs,e1,hq,hl,hw⟩:=hw;subst e1;cases r;obtain⟨its,rv,ht,hz⟩:=I.list hq;refine gr (I.ok.hd hc) ht.isList (by simp[hn,<- hl,rv.length]) hst λ h' hx=>?_
 have I1:Inv X pins σ H { s with heap:=h' }:=I.kept (t':=s.toks) λ b o e=>hx b o (De (F6 e)) e
 exact h pins _ σ H xs _ Q I1 (by simpa using rv) hw
section
variable {C:Ctx}{e:Expr}{f:EE}{pos:Pos}
theorem oX (is:List Nat){ts:List Expr}{xs:List Nat}{kt:Nat}{tpos:Pos}(he:SE C e f)(hg:SGs C ts xs)(hl:ts.length=xs.length)(hn:autoParam ((assignEach ts C.X.env).length=ts.length) ZF._auto_1)(hst:autoParam ((assignEach ts C.X.env).findIdx? (·.1)=none) ZF._auto_1)
  (hs:autoParam (swapsWithSole [.Tuple ts kt tpos] e pos.line C.X.env=pure false) ZF._auto_1) (hw:autoParam (swappedStores [.Tuple ts kt tpos] e C.X.env=pure none) ZF._auto_1) (h1:autoParam ((assignEach [.Tuple ts kt tpos] C.X.env).map (·.2)=[assign (.Tuple ts kt tpos) C.X.env]) ZF._auto_1) (hcl:autoParam (C.X.calm=true) ZF._auto_1):
  SSt C (.Assign [.Tuple ts kt tpos] e pos) (Dv.sUnpackL is xs f):=by
 obtain⟨t,p,q⟩:=he;obtain⟨g,pg,qg⟩:=hg;refine⟨_,lu p (zr hcl pg hn hst) hs hw h1,λ Hv₀ H₀ E σ H st ⟨Hc0,O0,r0⟩ w=>?_⟩;obtain⟨Hc,O,_,r⟩:=r0.give is;unfold Dv.sUnpackL at w;refine q.open r (λ c hf Hc' H' x=>?_) (λ hf=>?_) λ d fr v Hc' H' hf x r' rp=>?_
 ·simp only[hf] at w;exact w σ H' ⟨Hc0,O0,r0.grow x.hh x.nf⟩
 ·simp only[hf] at w;exact w
 ·simp only[hf] at w
  cases d with
  | lst ds=>
   by_cases hz:ds.length=xs.length
   ·simp only[hz,if_true] at w
    unfold Rp at rp;obtain⟨a,vs,rfl,h2,h3⟩:=rp;exact⟨a,vs,rfl,(h2.same x.vh).seq,by rw[h3.length,hz,hl],qg Hv₀ H₀ Hc' O H' σ _ ds vs _ r' h3 hz λ σ' r2=>w σ' H' ⟨Hc',O,r2⟩⟩
   ·simp only[hz,if_false] at w;exact Zf w
  | _=>exact Zf w
end
end Sd
namespace Dv
def lookS:List String->List D->String->Option D
 | k::ks,d::ds,n=>if k=n then some d else lookS ks ds n
 | _,_,_=>none
def fldD (n:String):D->R
 | .ins ns ds=>match lookS ns ds n with
  | some d=>.ok d (scal d)
  | none=>.bad
 | _=>.bad
def eFld (n:String)(a:EE):EE:=λ ρ=>(a ρ).bind λ x _=>fldD n x
def CJ:D->Bool->R
 | .dct ks _,_=>.ok (.int ks.length) true
 | _,_=>.bad
def Bc (i j:Nat):SS:=λ st=>match st[i]? with
 | some (.dp (.lst ds))=>match uA ds with
  | some m=>if decide (m<2000)&&decide (ds.length<=2000)&&decide (i≠j)&&decide (j<st.length) then .nx ((st.set j .no).set i .no) else .bad
  | none=>.bad
 | _=>.bad
def dinD:D->D->R
 | .int j,.dct ks ds=>.ok (.bl (look ks ds j).isSome) true
 | _,_=>.bad
structure Wy where
 st:D
 pl:List Int
def Wy.d (w:Wy):D:=.tup [w.st,.lst (w.pl.map .int)]
def wyL (ws:List Wy):D:=.lst (ws.map Wy.d)
def wysD (ws:List (List Wy)):D:=.lst (ws.map wyL)
inductive An where
 | non
 | twi (p:Int)
 | row (k:Nat)
def twiC:List Nat:=[116,119,105,99,101]
def rowC:List Nat:=[114,111,119]
def An.d:An->D
 | .non=>.non
 | .twi p=>.tup [.str twiC,.int p]
 | .row k=>.tup [.str rowC,.int k]
structure Cs where
 laid:List Wy
 ix:Nat
 at_:Nat
structure Ws where
 wys:List (List Wy)
 wait:List Cs
 rows:List (Int×Nat)
 sto:List (List An)
 gone:Nat
inductive WR where
 | many
 | bad
 | full (w:Ws) (d:D) (fr:Bool)
 | row (w:Ws)
structure Wk where
 fp:List D->R
 fs:EE
 fl:EE
 ft:EE
def rowGo (k:Wk)(l:List Wy)(fd:D):List Wy->List An->List (List Wy×Nat)->Option (List An×List (List Wy×Nat))
 | [],as,f=>some (as,f)
 | w::r,as,f=>match k.ft [none,none,some fd,none,none,none,some w.d] with
  | .ok (.lst []) _=>rowGo k l fd r (as++[.non]) (f++[(l++[w],as.length)])
  | .ok (.lst (.int p::_)) _=>rowGo k l fd r (as++[.twi p]) f
  | _=>none
def w0 (wys:List (List Wy))(laid:List Wy):Ws:=⟨wys,[⟨laid,0,0⟩],[],[[.non]],0⟩
def rowW (k:Wk)(w:Ws)(l:List Wy)(fd:D):WR:=
 match k.fl [some (.ins ["ways"] [wysD w.wys]),some (wyL l),some fd] with
 | .ok (.int (.ofNat m)) _=>match w.wys[m]? with
  | some ws=>match rowGo k l fd ws [] [] with
   | some (as,f)=>if decide (l.length<mx)&&decide (ws.length<mx)&&decide (w.rows.length<mx)&&decide (w.wait.length+f.length<=mx) then
     .row { w with rows:=w.rows++[((m:Int),w.sto.length)],sto:=w.sto++[as],wait:=w.wait++f.reverse.map λ p=>⟨p.1,w.sto.length,p.2⟩ }
    else .bad
   | none=>.bad
  | none=>.bad
 | _=>.bad
def stepW (k:Wk)(w:Ws):WR:=
 if w.gone=2000 then .many else
 match w.wait.getLast? with
 | none=>.bad
 | some c=>match k.fp [wyL c.laid] with
  | .ok (.dct ks ds) _=>if ks.length=w.wys.length then match k.fs [none,some (.ins ["laid"] [wyL c.laid]),some (.dct ks ds)] with
    | .ok d fr=>.full { w with gone:=w.gone+1,wait:=w.wait.dropLast } d fr
    | _=>.bad
   else match w.sto[c.ix]? with
    | some as=>if c.at_<as.length then rowW k { w with gone:=w.gone+1,wait:=w.wait.dropLast,sto:=w.sto.set c.ix (as.set c.at_ (.row w.rows.length)) } c.laid (.dct ks ds) else .bad
    | none=>.bad
  | _=>.bad
def firstGo (k:Wk):Nat->Ws->WR
 | 0,_=>.bad
 | n+1,w=>if w.wait.isEmpty then .row w else match stepW k w with
  | .many=>.many
  | .bad=>.bad
  | .full w' d fr=>match d with
   | .lst es=>.full w' (.lst es) fr
   | _=>.bad
  | .row w'=>firstGo k n w'
def deW:D->Option Wy
 | .tup [s,.lst ps]=>match intsOf ps with
  | some ns=>some ⟨s,ns⟩
  | none=>none
 | _=>none
def deWL:List D->Option (List Wy)
 | []=>some []
 | d::r=>match deW d,deWL r with
  | some w,some ws=>some (w::ws)
  | _,_=>none
def deL:D->Option (List Wy)
 | .lst ds=>deWL ds
 | _=>none
def deLL:List D->Option (List (List Wy))
 | []=>some []
 | d::r=>match deL d,deLL r with
  | some w,some ws=>some (w::ws)
  | _,_=>none
def deWs:D->Option (List (List Wy))
 | .lst ds=>deLL ds
 | _=>none
inductive PR where
 | ok (wys:List (List Wy)) (laid:List Wy)
 | exc (c:String)
 | bad
def pwR (fw fl:EE)(ds:List D):PR:=match fw (ds.map some) with
 | .exc c=>.exc c
 | .bad=>.bad
 | .ok dw _=>match fl (ds.map some) with
  | .exc c=>.exc c
  | .bad=>.bad
  | .ok dl _=>match deWs dw,deL dl with
   | some wys,some laid=>.ok wys laid
   | _,_=>.bad
end Dv
namespace Sd
open PySem PySem.Spec PyProof.Rows L2
open Dv (D R RL EE EL EI RI Sl Out SS Wy An Cs Ws WR Wk)
section
variable {C:Ctx}{a e:Expr}{f:EE}{pos:Pos}
theorem kx {K:F5}{H:Hp}{n:String}{d:D}:∀ {ns:List String} {ds:List D} {vs:List V},Dv.lookS ns ds n=some d->RpL K H ds vs->∃ u,(n,u)∈ns.zip vs/\Rp K H d u
 | [],_,_,h,_=>by simp[Dv.lookS] at h
 | _::_,[],_,h,_=>by simp[Dv.lookS] at h
 | k::ks,x::xs,vs,h,r=>by
  unfold RpL at r;obtain⟨v,ws,rfl,h1,h2⟩:=r;simp only[Dv.lookS] at h;by_cases q:k=n
  ·rw[if_pos q] at h;cases h;subst q
   exact⟨v,by simp,h1⟩
  ·rw[if_neg q] at h
   obtain⟨u,hu,hr⟩:=kx h h2;exact⟨u,CV _ hu,hr⟩
theorem nS {n:String}(he:SE C e f)(hb:autoParam (attributeBase e (Gq n) C.X.env (eval e C.X.env)=eval e C.X.env) ZF._auto_1):SE C (.Attribute e (Gq n) pos) (Dv.eFld n f):=by
 obtain⟨t,p,q⟩:=he;refine⟨_,cv p hb,λ σ H Hv ρ Q er s w=>?_⟩;refine q.step er (.refl s) w λ v d fr Hv1 H1 _ x1 _ rx n1 q1=>?_
 cases d with
 | ins ns ds=>
  simp only[Dv.fldD] at q1;cases hl:Dv.lookS ns ds n with
  | none=>rw[hl] at q1;exact Zf q1
  | some d'=>
   rw[hl] at q1;unfold Rp at rx;obtain⟨a,C0,dx,fs,vs,rfl,h2,h3,h4,h5,h6⟩:=rx;obtain⟨u,hu,ru⟩:=kx hl h6;obtain⟨na,lk⟩:=h5 n u hu;exact⟨a,C0,dx,fs,u,rfl,x1.vh _ _ h2,h3,na,lk,q1 u Hv1 H1 x1 ru λ z=>ru.scal z⟩
 | _=>exact Zf q1
theorem oK {X:Cx}:dY X (.builtin "len") (λ xs H Q=>∃ a kvs,xs=[V.ref a]/\Rd H a (.dK kvs)/\Q (.int kvs.length) H):=by
 intro pins s σ H xs us Q I r h;obtain⟨a,kvs,rfl,ha,q⟩:=h;obtain⟨u,rfl,ru⟩:=vals1 r;cases ru;exact BM I ha λ t s' I'=>⟨.int kvs.length,H,I',⟨t,rfl⟩,q⟩
end
def wf (wa wl rl:Addr)(g:Int):List (Str×V):=[("ways",.ref wa),("waiting",.ref wl),("rows",.ref rl),("gone",.int g)]
def cf (lb b:Addr)(t:Int):List (Str×V):=[("laid",.ref lb),("answers",.ref b),("at",.int t)]
section
variable {wa wl rl lb b:Addr}{g t:Int}
theorem k8:(wf wa wl rl g).lookup ("ways":Str)=some (V.ref wa):=rfl
theorem gc:(wf wa wl rl g).lookup ("waiting":Str)=some (V.ref wl):=rfl
theorem lz:(wf wa wl rl g).lookup ("rows":Str)=some (V.ref rl):=rfl
theorem qF:(wf wa wl rl g).lookup ("gone":Str)=some (V.int g):=rfl
theorem Bi:(wf wa wl rl g).lookup ("go_on":Str)=none:=rfl
theorem t6:(wf wa wl rl g).lookup ("write_row":Str)=none:=rfl
theorem qG:(cf lb b t).lookup ("laid":Str)=some (V.ref lb):=rfl
theorem nV:(cf lb b t).lookup ("answers":Str)=some (V.ref b):=rfl
theorem B4:(cf lb b t).lookup ("at":Str)=some (V.int t):=rfl
theorem Bo:aM "gone" (.int g) (aM "rows" (.ref rl) (aM "waiting" (.ref wl) (aM "ways" (.ref wa) [])))=wf wa wl rl g:=rfl
end
structure WkT (K:F5)(CW CC:Addr):Prop where
 clW:Cls K CW
 clC:Cls K CC
 nWays:NoAttr K CW "ways"
 nWaiting:NoAttr K CW "waiting"
 nRows:NoAttr K CW "rows"
 nGone:NoAttr K CW "gone"
 nLaid:NoAttr K CC "laid"
 nAnswers:NoAttr K CC "answers"
 nAt:NoAttr K CC "at"
def xJ:Str:="twice"
def xk:Str:="row"
def AnAt (Hs H₀:Hp):An->V->Prop
 | .non,v=>v=.non
 | .twi p,v=>∃ q,v=.ref q/\Hs q=some (.tup [.str xJ,.int p])/\H₀ q=none
 | .row k,v=>∃ q,v=.ref q/\Hs q=some (.tup [.str xk,.int k])/\H₀ q=none
def RowAt (Hs H₀:Hp)(an:List Addr)(p:Int×Nat)(v:V):Prop:=∃ r b,v=.ref r/\Hs r=some (.tup [.int p.1,.ref b])/\H₀ r=none/\an[p.2]?=some b
def CsAt (K:F5)(CC:Addr)(Hs:Hp)(an:List Addr)(c:Cs)(v:V):Prop:=∃ x dc lb b,v=.ref x/\Hs x=some (.ins CC dc (cf lb b c.at_))/\Rp K Hs (Dv.wyL c.laid) (.ref lb)/\an[c.ix]?=some b
def Cy (Hs H₀ H:Hp)(l:List An)(b:Addr):Prop:=∃ vs,H b=some (.lst vs)/\Paired (AnAt Hs H₀) l vs
structure WkAt (K:F5)(CW CC:Addr)(Hs H H₀:Hp)(a wl rl:Addr)(an:List Addr)(w:Ws):Prop where
 sv:Same Hs H
 oh:Same H₀ H
 nd:(a::wl::rl::an).Nodup
 no:∀ b∈a::wl::rl::an,Hs b=none/\H₀ b=none
 slf:∃ dx wa,H a=some (.ins CW dx (wf wa wl rl w.gone))/\Rp K Hs (Dv.wysD w.wys) (.ref wa)
 wai:∃ vs,H wl=some (.lst vs)/\Paired (CsAt K CC Hs an) w.wait vs
 row:∃ vs,H rl=some (.lst vs)/\Paired (RowAt Hs H₀ an) w.rows vs
 sto:Paired (Cy Hs H₀ H) w.sto an
theorem AnAt.same {Hs Hs' H₀:Hp}(e:Same Hs Hs'){x:An}{v:V}(h:AnAt Hs H₀ x v):AnAt Hs' H₀ x v:=by
 cases x with
 | non=>exact h
 | twi p=>obtain⟨q,h1,h2,h3⟩:=h;exact⟨q,h1,e _ _ h2,h3⟩
 | row p=>obtain⟨q,h1,h2,h3⟩:=h;exact⟨q,h1,e _ _ h2,h3⟩
theorem RowAt.same {Hs Hs' H₀:Hp}{an an':List Addr}(e:Same Hs Hs')(ea:∀ (i:Nat) b,an[i]?=some b->an'[i]?=some b){x:Int×Nat}{v:V}(h:RowAt Hs H₀ an x v):RowAt Hs' H₀ an' x v:=by
 obtain⟨r,b,h1,h2,h3,h4⟩:=h;exact⟨r,b,h1,e _ _ h2,h3,ea _ _ h4⟩
theorem CsAt.same {K:F5}{CC:Addr}{Hs Hs':Hp}{an an':List Addr}(e:Same Hs Hs')(ea:∀ (i:Nat) b,an[i]?=some b->an'[i]?=some b){x:Cs}{v:V}(h:CsAt K CC Hs an x v):CsAt K CC Hs' an' x v:=by
 obtain⟨x,dc,lb,b,h1,h2,h3,h4⟩:=h;exact⟨x,dc,lb,b,h1,e _ _ h2,h3.same e,ea _ _ h4⟩
theorem Paired.memR {α β:Type}{F:α->β->Prop}{l:List α}{r:List β}(h:Paired F l r):∀ b∈r,∃ a∈l,F a b:=by
 induction h with
 | nil=>intro b hb;cases hb
 | cons x _ ih=>
  intro b hb
  rcases List.mem_cons.mp hb with rfl|hb
  ·exact⟨_,CS,x⟩
  ·obtain⟨a,h1,h2⟩:=ih b hb
   exact⟨a,CV _ h1,h2⟩
section
variable {K:F5}{CW CC:Addr}{Hs Hs' H H' H₀:Hp}{a wl rl:Addr}{an:List Addr}{w:Ws}
theorem Paired.mapM {α β:Type}{F G:α->β->Prop}{l:List α}{r:List β}(h:Paired F l r)(f:∀ a b,b∈r->F a b->G a b):Paired G l r:=by
 induction h with
 | nil=>exact .nil
 | cons x _ ih=>exact .cons (f _ _ CS x) (ih λ a b hb q=>f a b (CV _ hb) q)
theorem WkAt.grow (x:WkAt K CW CC Hs H H₀ a wl rl an w)(s:Same Hs Hs')(sv:Same Hs' H')(oh:Same H₀ H')(hh:∀ b∈a::wl::rl::an,∀ o,H b=some o->H' b=some o)(no:∀ b∈a::wl::rl::an,Hs' b=none):WkAt K CW CC Hs' H' H₀ a wl rl an w:=by
 refine⟨sv,oh,x.nd,λ b hb=>⟨no b hb,(x.no b hb).2⟩,?_,?_,?_,?_⟩
 ·obtain⟨dx,wa,h1,h2⟩:=x.slf
  exact⟨dx,wa,hh _ (by simp) _ h1,h2.same s⟩
 ·obtain⟨vs,h1,h2⟩:=x.wai
  exact⟨vs,hh _ (by simp) _ h1,Paired.mapM h2 λ _ _ _ q=>q.same s λ _ _ e=>e⟩
 ·obtain⟨vs,h1,h2⟩:=x.row
  exact⟨vs,hh _ (by simp) _ h1,Paired.mapM h2 λ _ _ _ q=>q.same s λ _ _ e=>e⟩
 ·exact Paired.mapM x.sto λ l b hb ⟨vs,h1,h2⟩=>⟨vs,hh _ (by simp[hb]) _ h1,Paired.mapM h2 λ _ _ _ q=>q.same s⟩
theorem WkAt.has (x:WkAt K CW CC Hs H H₀ a wl rl an w):∀ b∈a::wl::rl::an,∃ o,H b=some o:=by
 intro b hb
 rcases List.mem_cons.mp hb with rfl|hb
 ·obtain⟨_,_,h,_⟩:=x.slf;exact⟨_,h⟩
 rcases List.mem_cons.mp hb with rfl|hb
 ·obtain⟨_,h,_⟩:=x.wai;exact⟨_,h⟩
 rcases List.mem_cons.mp hb with rfl|hb
 ·obtain⟨_,h,_⟩:=x.row;exact⟨_,h⟩
 ·obtain⟨_,_,_,h,_⟩:=Paired.memR x.sto b hb;exact⟨_,h⟩
theorem WkAt.ext (x:WkAt K CW CC Hs H H₀ a wl rl an w)(e:Ext Hs H Hs' H'):WkAt K CW CC Hs' H' H₀ a wl rl an w:=by
 refine x.grow e.vv e.vh (x.oh.trans e.hh) (λ b _ o q=>e.hh b o q) λ b hb=>?_
 cases q:Hs' b with
 | none=>rfl
 | some o=>
  obtain⟨u,hu⟩:=x.has b hb;rw[e.new b o q (x.no b hb).1] at hu;cases hu
theorem WkAt.hext (x:WkAt K CW CC Hs H H₀ a wl rl an w)(e:Same H H'):WkAt K CW CC Hs H' H₀ a wl rl an w:=
 x.grow (.refl _) (x.sv.trans e) (x.oh.trans e) (λ b _ o q=>e b o q) λ b hb=>(x.no b hb).1
end
structure Stp (Hs H:Hp)(M:List Addr)(Hs' H':Hp)(M':List Addr):Prop where
 ss:Same Hs Hs'
 nw:∀ b o,Hs' b=some o->Hs b=none->H b=none
 kp:∀ b o,H b=some o->b∉M->H' b=some o
 dm:∀ b o,H b=some o->∃ o',H' b=some o'
 fz:∀ b o u,H' b=some (.frz o u)->H b=some (.frz o u)
 mm:∀ b∈M',b∈M\/H b=none
section
variable {Hs H Hs1 H1 Hs2 H2:Hp}{M M1 M2:List Addr}
theorem Stp.refl:Stp Hs H M Hs H M:=⟨.refl _,λ b o h n=>(by rw[n] at h;cases h),λ b o h _=>h,λ b o h=>⟨o,h⟩,λ _ _ _ h=>h,λ b h=>.inl h⟩
theorem Stp.trans (x:Stp Hs H M Hs1 H1 M1)(y:Stp Hs1 H1 M1 Hs2 H2 M2):Stp Hs H M Hs2 H2 M2:=by
 refine⟨x.ss.trans y.ss,λ b o h n=>?_,λ b o h n=>?_,λ b o h=>?_,λ b o u h=>x.fz b o u (y.fz b o u h),λ b h=>?_⟩
 ·cases q:Hs1 b with
  | some u=>exact x.nw b u q n
  | none=>
   have h1:=y.nw b o h q;cases z:H b with
   | none=>rfl
   | some u=>obtain⟨u',hu⟩:=x.dm b u z;rw[h1] at hu;cases hu
 ·refine y.kp b o (x.kp b o h n) λ z=>?_
  rcases x.mm b z with z|z
  ·exact n z
  ·rw[z] at h;cases h
 ·obtain⟨u,hu⟩:=x.dm b o h
  exact y.dm b u hu
 ·rcases y.mm b h with h|h
  ·exact x.mm b h
  ·refine .inr ?_
   cases z:H b with
   | none=>rfl
   | some u=>obtain⟨u',hu⟩:=x.dm b u z;rw[h] at hu;cases hu
theorem Stp.write {m:Addr}{o:HO}(hm:m∈M)(ho:∀ a u,o≠.frz a u):Stp Hs H M Hs (upd H m o) M:=by
 refine⟨.refl _,λ b o h n=>(by rw[n] at h;cases h),λ b o' h n=>?_,λ b o' h=>?_,λ b o' u h=>?_,λ b h=>.inl h⟩
 ·rw[ah (show b≠m from λ e=>n (by rw[e];exact hm))];exact h
 ·by_cases e:b=m
  ·subst e;exact⟨o,aq⟩
  ·exact⟨o',by rw[ah e];exact h⟩
 ·by_cases e:b=m
  ·subst e;rw[aq] at h;exact absurd (Option.some.inj h) (ho _ _)
  ·rw[ah e] at h;exact h
theorem Stp.ext (e:Ext Hs H Hs1 H1):Stp Hs H M Hs1 H1 M:=
 ⟨e.vv,e.new,λ b o h _=>e.hh b o h,λ b o h=>⟨o,e.hh b o h⟩,λ b o u h=>(by
  cases q:H b with
  | none=>exact absurd h (e.nf b o u q)
  | some z=>rw[e.hh b z q] at h;exact h),λ b h=>.inl h⟩
theorem Stp.hext (e:Same H H1)(nf:∀ b o u,H b=none->H1 b≠some (.frz o u)):Stp Hs H M Hs H1 M:=
 ⟨.refl _,λ b o h n=>(by rw[n] at h;cases h),λ b o h _=>e b o h,λ b o h=>⟨o,e b o h⟩,λ b o u h=>(by
  cases q:H b with
  | none=>exact absurd h (nf b o u q)
  | some z=>rw[e b z q] at h;exact h),λ b h=>.inl h⟩
theorem Stp.newM {p:Addr}{o:HO}(hp:H p=none)(ho:∀ a u,o≠.frz a u)(hM:∀ b∈M1,b∈M\/b=p):Stp Hs H M Hs (upd H p o) M1:=by
 refine⟨.refl _,λ b o h n=>(by rw[n] at h;cases h),λ b o' h n=>?_,λ b o' h=>?_,λ b o' u h=>?_,λ b h=>?_⟩
 ·rw[ah (ax h hp)];exact h
 ·exact⟨o',by rw[ah (ax h hp)];exact h⟩
 ·by_cases e:b=p
  ·subst e;rw[aq] at h;exact absurd (Option.some.inj h) (ho _ _)
  ·rw[ah e] at h;exact h
 ·rcases hM b h with h|rfl
  ·exact .inl h
  ·exact .inr hp
end
theorem bc {H:Hp}{a b:Addr}{o:HO}(h:upd H a o b=none):b≠a/\H b=none:=by
 by_cases e:b=a
 ·subst e;rw[aq] at h;cases h
 ·rw[ah e] at h;exact⟨e,h⟩
def mE (CC:Addr):Sp:=λ vs H Q _=>∃ (x dx l b:Addr) (t:Int),vs=[.ref x,.ref l,.ref b,.int t]/\H x=some (.ins CC dx [])/\Q .non (upd H x (.ins CC dx (cf l b t)))
theorem ua {CC:Addr}(vs:List V)(H:Hp)(Q:VK)(E:XK)(h:mE CC vs H Q E):vs.length=4:=by
 obtain⟨_,_,_,_,_,rfl,_⟩:=h;rfl
def tCI (K:F5):TS:=du (mZ K (bo 0) (bo 1) "laid") (du (mZ K (bo 0) (bo 2) "answers") (mZ K (bo 0) (bo 3) "at"))
theorem wW {K:F5}{CW CC:Addr}{vs:List V}{H:Hp}{Q:VK}{E:XK}(T:WkT K CW CC)(h:mE CC vs H Q E):
  tCI K { nx:=λ _ H'=>Q .non H',rt:=Q } (L2.start ["self","laid","answers","at"] vs) H:=by
 obtain⟨x,dx,l,b,t,rfl,hx,q⟩:=h;refine⟨_,rfl,_,rfl,x,CC,dx,[],rfl,hx,T.clC,T.nLaid,(by decide),?_⟩;refine⟨_,rfl,_,rfl,x,CC,dx,_,rfl,aq,T.clC,T.nAnswers,(by show 1<1000;decide),?_⟩;refine⟨_,rfl,_,rfl,x,CC,dx,_,rfl,aq,T.clC,T.nAt,(by show 2<1000;decide),?_⟩;rw[iQ,iQ];exact q
def pj (K:F5)(CW CC:Addr):Sp:=λ vs H Q _=>∃ (x dx wa lb:Addr) (Hs H₀:Hp) (wys:List (List Wy)) (laid:List Wy),vs=[.ref x,.ref wa,.ref lb]/\H x=some (.ins CW dx [])/\Same Hs H/\Hs x=none/\Same H₀ H/\H₀ x=none /\
 Rp K Hs (Dv.wysD wys) (.ref wa)/\Rp K Hs (Dv.wyL laid) (.ref lb)/\∀ Hs' H' wl rl an,WkAt K CW CC Hs' H' H₀ x wl rl an (Dv.w0 wys laid)->Stp Hs H [x] Hs' H' (x::wl::rl::an)->Q .non H'
theorem uN {K:F5}{CW CC:Addr}(vs:List V)(H:Hp)(Q:VK)(E:XK)(h:pj K CW CC vs H Q E):vs.length=3:=by
 obtain⟨_,_,_,_,_,_,_,_,rfl,_⟩:=h;rfl
def tWI (K:F5)(CC:Addr)(E:XK):TS:=du (mZ K (bo 0) (bo 1) "ways") (du (mZ K (bo 0) (ot (bg (qo CC (mE CC) [] E (bg (bo 2) (bg (ot (bg (tC .non) cg)) (bg (tC (.int 0)) cg)))) cg)) "waiting") (du (mZ K (bo 0) (ot cg) "rows") (mZ K (bo 0) (tC (.int 0)) "gone")))
theorem wU {K:F5}{CW CC:Addr}{vs:List V}{H:Hp}{Q:VK}{E:XK}(T:WkT K CW CC)(h:pj K CW CC vs H Q E):
  tWI K CC E { nx:=λ _ H'=>Q .non H',rt:=Q } (L2.start ["self","ways","laid"] vs) H:=by
 obtain⟨x,dx,wa,lb,Hs,H₀,wys,laid,rfl,hx,sv,hsx,s0,h0x,rw_,rl_,q⟩:=h;refine⟨_,rfl,_,rfl,x,CW,dx,[],rfl,hx,T.clW,T.nWays,(by decide),?_⟩;refine⟨_,rfl,(by show 1<=sizeLine;decide),λ p hp=>?_⟩;intro c dc hc hdc hne;refine⟨c,dc,lb,p,0,rfl,aq,rfl,(by show 1<=sizeLine;decide),λ wl hwl=>?_⟩;obtain⟨px,hp⟩:=bc hp;obtain⟨cp,hc⟩:=bc hc;obtain⟨cx,hc⟩:=bc hc;obtain⟨dp,hdc⟩:=bc hdc;obtain⟨dxx,hdc⟩:=bc hdc;obtain⟨wc,hwl⟩:=bc hwl;obtain⟨_,hwl⟩:=bc hwl;obtain⟨wd,hwl⟩:=bc hwl;obtain⟨wp,hwl⟩:=bc hwl;obtain⟨wx,hwl⟩:=bc hwl;have e1:upd (upd (upd (upd (upd H x (.ins CW dx (aM "ways" (.ref wa) []))) p (.lst [.non])) dc (.own c)) c (.ins CC dc [])) c (.ins CC dc (cf lb p 0))=upd (upd (upd (upd H x (.ins CW dx (aM "ways" (.ref wa) []))) p (.lst [.non])) dc (.own c)) c (.ins CC dc (cf lb p 0)):=iQ;refine⟨_,rfl,x,CW,dx,aM "ways" (.ref wa) [],rfl,?_,T.clW,T.nWaiting,(by show 1<1000;decide),?_⟩
 ·rw[e1,ah (Ne.symm wx),ah (Ne.symm cx),ah (Ne.symm dxx),ah (Ne.symm px),aq]
 refine⟨(by show 0<=sizeLine;decide),λ rl hrl=>?_⟩;obtain⟨rx,hrl⟩:=bc hrl;obtain⟨rw',hrl⟩:=bc hrl;obtain⟨rc,hrl⟩:=bc hrl;obtain⟨_,hrl⟩:=bc hrl;obtain⟨rd,hrl⟩:=bc hrl;obtain⟨rp,hrl⟩:=bc hrl;obtain⟨_,hrl⟩:=bc hrl;refine⟨_,rfl,x,CW,dx,aM "waiting" (.ref wl) (aM "ways" (.ref wa) []),rfl,?_,T.clW,T.nRows,(by show 2<1000;decide),?_⟩
 ·rw[ah (Ne.symm rx),aq]
 refine⟨_,rfl,x,CW,dx,_,rfl,aq,T.clW,T.nGone,(by show 3<1000;decide),?_⟩;rw[e1];show Q .non _
 rw[show aM "gone" (V.int 0) (aM "rows" (V.ref rl) (aM "waiting" (V.ref wl) (aM "ways" (V.ref wa) [])))=wf wa wl rl 0 from Bo];have oth:∀ b,b≠x->b≠p->b≠dc->b≠c->b≠wl->b≠rl->upd (upd (upd (upd (upd (upd (upd (upd (upd H x (.ins CW dx (aM "ways" (.ref wa) []))) p (.lst [.non])) dc (.own c)) c (.ins CC dc (cf lb p 0))) wl (.lst [.ref c])) x (.ins CW dx (aM "waiting" (.ref wl) (aM "ways" (.ref wa) [])))) rl (.lst [])) x (.ins CW dx (aM "rows" (.ref rl) (aM "waiting" (.ref wl) (aM "ways" (.ref wa) []))))) x (.ins CW dx (wf wa wl rl 0)) b=H b:=by
  intro b h1 h2 h3 h4 h5 h6;rw[ah h1,ah h1,ah h6,ah h1,ah h5,ah h4,ah h3,ah h2,ah h1]
 have aX:upd (upd (upd (upd (upd (upd (upd (upd (upd H x (.ins CW dx (aM "ways" (.ref wa) []))) p (.lst [.non])) dc (.own c)) c (.ins CC dc (cf lb p 0))) wl (.lst [.ref c])) x (.ins CW dx (aM "waiting" (.ref wl) (aM "ways" (.ref wa) [])))) rl (.lst [])) x (.ins CW dx (aM "rows" (.ref rl) (aM "waiting" (.ref wl) (aM "ways" (.ref wa) []))))) x (.ins CW dx (wf wa wl rl 0)) x=some (.ins CW dx (wf wa wl rl 0)):=aq;have aP:upd (upd (upd (upd (upd (upd (upd (upd (upd H x (.ins CW dx (aM "ways" (.ref wa) []))) p (.lst [.non])) dc (.own c)) c (.ins CC dc (cf lb p 0))) wl (.lst [.ref c])) x (.ins CW dx (aM "waiting" (.ref wl) (aM "ways" (.ref wa) [])))) rl (.lst [])) x (.ins CW dx (aM "rows" (.ref rl) (aM "waiting" (.ref wl) (aM "ways" (.ref wa) []))))) x (.ins CW dx (wf wa wl rl 0)) p=some (.lst [.non]):=by
  rw[ah px,ah px,ah (Ne.symm rp),ah px,ah (Ne.symm wp),ah (Ne.symm cp),ah (Ne.symm dp),aq]
 have aC:upd (upd (upd (upd (upd (upd (upd (upd (upd H x (.ins CW dx (aM "ways" (.ref wa) []))) p (.lst [.non])) dc (.own c)) c (.ins CC dc (cf lb p 0))) wl (.lst [.ref c])) x (.ins CW dx (aM "waiting" (.ref wl) (aM "ways" (.ref wa) [])))) rl (.lst [])) x (.ins CW dx (aM "rows" (.ref rl) (aM "waiting" (.ref wl) (aM "ways" (.ref wa) []))))) x (.ins CW dx (wf wa wl rl 0)) c=some (.ins CC dc (cf lb p 0)):=by
  rw[ah cx,ah cx,ah (Ne.symm rc),ah cx,ah (Ne.symm wc),aq]
 have aW:upd (upd (upd (upd (upd (upd (upd (upd (upd H x (.ins CW dx (aM "ways" (.ref wa) []))) p (.lst [.non])) dc (.own c)) c (.ins CC dc (cf lb p 0))) wl (.lst [.ref c])) x (.ins CW dx (aM "waiting" (.ref wl) (aM "ways" (.ref wa) [])))) rl (.lst [])) x (.ins CW dx (aM "rows" (.ref rl) (aM "waiting" (.ref wl) (aM "ways" (.ref wa) []))))) x (.ins CW dx (wf wa wl rl 0)) wl=some (.lst [.ref c]):=by
  rw[ah wx,ah wx,ah (Ne.symm rw'),ah wx,aq]
 have aR:upd (upd (upd (upd (upd (upd (upd (upd (upd H x (.ins CW dx (aM "ways" (.ref wa) []))) p (.lst [.non])) dc (.own c)) c (.ins CC dc (cf lb p 0))) wl (.lst [.ref c])) x (.ins CW dx (aM "waiting" (.ref wl) (aM "ways" (.ref wa) [])))) rl (.lst [])) x (.ins CW dx (aM "rows" (.ref rl) (aM "waiting" (.ref wl) (aM "ways" (.ref wa) []))))) x (.ins CW dx (wf wa wl rl 0)) rl=some (.lst []):=by
  rw[ah rx,ah rx,aq]
 have aD:upd (upd (upd (upd (upd (upd (upd (upd (upd H x (.ins CW dx (aM "ways" (.ref wa) []))) p (.lst [.non])) dc (.own c)) c (.ins CC dc (cf lb p 0))) wl (.lst [.ref c])) x (.ins CW dx (aM "waiting" (.ref wl) (aM "ways" (.ref wa) [])))) rl (.lst [])) x (.ins CW dx (aM "rows" (.ref rl) (aM "waiting" (.ref wl) (aM "ways" (.ref wa) []))))) x (.ins CW dx (wf wa wl rl 0)) dc=some (.own c):=by
  rw[ah dxx,ah dxx,ah (Ne.symm rd),ah dxx,ah (Ne.symm wd),ah hne,aq]
 revert oth aX aP aC aW aR aD;generalize upd (upd (upd (upd (upd (upd (upd (upd (upd H x (.ins CW dx (aM "ways" (.ref wa) []))) p (.lst [.non])) dc (.own c)) c (.ins CC dc (cf lb p 0))) wl (.lst [.ref c])) x (.ins CW dx (aM "waiting" (.ref wl) (aM "ways" (.ref wa) [])))) rl (.lst [])) x (.ins CW dx (aM "rows" (.ref rl) (aM "waiting" (.ref wl) (aM "ways" (.ref wa) []))))) x (.ins CW dx (wf wa wl rl 0))=Hz;intro oth aX aP aC aW aR aD;have hsc:Hs c=none:=sv.free hc;have sC:Same Hs (upd Hs c (.ins CC dc (cf lb p 0))):=iX hsc _;have far:∀ b o,H b=some o->b≠x->b≠p/\b≠dc/\b≠c/\b≠wl/\b≠rl:=λ b o e _=>⟨ax e hp,ax e hdc,ax e hc,ax e hwl,ax e hrl⟩
 have keep:∀ b o,H b=some o->b≠x->Hz b=some o:=λ b o e hb=>by
  obtain⟨h2,h3,h4,h5,h6⟩:=far b o e hb;rw[oth b hb h2 h3 h4 h5 h6];exact e
 have hsv:Same (upd Hs c (.ins CC dc (cf lb p 0))) Hz:=λ b o e=>by
  by_cases z:b=c
  ·subst z;rw[aq] at e;cases e;exact aC
  ·rw[ah z] at e
   exact keep b o (sv b o e) λ z=>by subst z;rw[hsx] at e;cases e
 have mem:∀ {P:Addr->Prop},P x->P wl->P rl->P p->∀ b∈[x,wl,rl,p],P b:=by
  intro P h1 h2 h3 h4 b hb;simp only[Dw,Dt,or_false] at hb
  rcases hb with rfl|rfl|rfl|rfl <;>assumption
 refine q (upd Hs c (.ins CC dc (cf lb p 0))) Hz wl rl [p] ⟨hsv,λ b o e=>keep b o (s0 b o e) (λ z=>by subst z;rw[h0x] at e;cases e),?_,?_,⟨dx,wa,aX,rw_.same sC⟩,⟨_,aW,.cons ⟨c,dc,lb,p,rfl,aq,rl_.same sC,rfl⟩ .nil⟩,⟨_,aR,.nil⟩,.cons ⟨_,aP,.cons rfl .nil⟩ .nil⟩
  ⟨sC,λ b o e n=>?_,λ b o e n=>keep b o e (by simpa using n),λ b o e=>?_,λ b o u e=>?_,?_⟩
 ·simp only[Fd,Dw,Dt,or_false,not_or,not_false_eq_true,FV,and_true]
  exact⟨⟨Ne.symm wx,Ne.symm rx,Ne.symm px⟩,⟨Ne.symm rw',wp⟩,rp⟩
 ·refine mem ?_ ?_ ?_ ?_
  ·exact⟨by rw[ah (Ne.symm cx)];exact hsx,h0x⟩
  ·exact⟨by rw[ah wc];exact sv.free hwl,s0.free hwl⟩
  ·exact⟨by rw[ah rc];exact sv.free hrl,s0.free hrl⟩
  ·exact⟨by rw[ah (Ne.symm cp)];exact sv.free hp,s0.free hp⟩
 ·by_cases z:b=c
  ·subst z;exact hc
  ·rw[ah z,n] at e;cases e
 ·by_cases z:b=x
  ·subst z;exact⟨_,aX⟩
  ·exact⟨o,keep b o e z⟩
 ·by_cases z:b=x
  ·subst z;rw[aX] at e;cases e
  by_cases z2:b=p
  ·subst z2;rw[aP] at e;cases e
  by_cases z3:b=dc
  ·subst z3;rw[aD] at e;cases e
  by_cases z4:b=c
  ·subst z4;rw[aC] at e;cases e
  by_cases z5:b=wl
  ·subst z5;rw[aW] at e;cases e
  by_cases z6:b=rl
  ·subst z6;rw[aR] at e;cases e
  rw[oth b z z2 z3 z4 z5 z6] at e;exact e
 ·exact mem (.inl (by simp)) (.inr hwl) (.inr hrl) (.inr hp)
theorem Paired.gets {α β:Type}{F:α->β->Prop}{l:List α}{r:List β}(h:Paired F l r):∀ {i:Nat} {x:α},l[i]?=some x->∃ y,r[i]?=some y/\F x y:=by
 induction h with
 | nil=>intro i x e;simp at e
 | cons q _ ih=>
  intro i x e;cases i with
  | zero=>simp at e;subst e;exact⟨_,rfl,q⟩
  | succ i=>obtain⟨y,h1,h2⟩:=ih (by simpa using e);exact⟨y,by simpa using h1,h2⟩
theorem Paired.append {α β:Type}{F:α->β->Prop}{l l':List α}{r r':List β}(h:Paired F l r)(g:Paired F l' r'):Paired F (l++l') (r++r'):=by
 induction h with
 | nil=>exact g
 | cons q _ ih=>exact .cons q ih
theorem Paired.rev {α β:Type}{F:α->β->Prop}{l:List α}{r:List β}(h:Paired F l r):Paired F l.reverse r.reverse:=by
 induction h with
 | nil=>exact .nil
 | cons q _ ih=>rw[D9,D9];exact Paired.append ih (.cons q .nil)
theorem Paired.dropLast {α β:Type}{F:α->β->Prop}{l:List α}{r:List β}(h:Paired F l r):Paired F l.dropLast r.dropLast:=by
 induction h with
 | nil=>exact .nil
 | cons q t ih=>
  cases t with
  | nil=>exact .nil
  | cons q' t'=>exact .cons q ih
theorem Paired.set {α β:Type}{F:α->β->Prop}{l:List α}{r:List β}{x:α}{y:β}(q:F x y)(h:Paired F l r):∀ i:Nat,Paired F (l.set i x) (r.set i y):=by
 induction h with
 | nil=>intro i;exact .nil
 | cons z t ih=>
  intro i;cases i with
  | zero=>exact .cons q t
  | succ i=>exact .cons z (ih i)
theorem Paired.maps {α β γ:Type}{F:α->β->Prop}{G:γ->β->Prop}{l:List α}{r:List β}{f:α->γ}(h:Paired F l r)(q:∀ a b,F a b->G (f a) b):Paired G (l.map f) r:=by
 induction h with
 | nil=>exact .nil
 | cons z _ ih=>exact .cons (q _ _ z) ih
def FdAt (K:F5)(CC:Addr)(Hs:Hp)(ab:Addr)(p:List Wy×Nat)(v:V):Prop:=∃ x dc lb,v=.ref x/\Hs x=some (.ins CC dc (cf lb ab p.2))/\Rp K Hs (Dv.wyL p.1) (.ref lb)
structure LpAt (K:F5)(CW CC:Addr)(Hs H H₀:Hp)(a wl rl:Addr)(an:List Addr)(w:Ws)(ab fb:Addr)(as:List An)(fnd:List (List Wy×Nat)):Prop where
 wk:WkAt K CW CC Hs H H₀ a wl rl an w
 na:Hs ab=none/\H₀ ab=none/\ab∉a::wl::rl::an
 nf:Hs fb=none/\H₀ fb=none/\fb∉a::wl::rl::an/\fb≠ab
 ha:∃ avs,H ab=some (.lst avs)/\Paired (AnAt Hs H₀) as avs
 hf:∃ fvs,H fb=some (.lst fvs)/\Paired (FdAt K CC Hs ab) fnd fvs
section
variable {K:F5}{CW CC:Addr}{Hs Hs' H H' H₀:Hp}{a wl rl ab fb:Addr}{an:List Addr}{w:Ws}{as:List An}{fnd:List (List Wy×Nat)}
theorem FdAt.same (e:Same Hs Hs'){x:List Wy×Nat}{v:V}(h:FdAt K CC Hs ab x v):FdAt K CC Hs' ab x v:=by
 obtain⟨x,dc,lb,h1,h2,h3⟩:=h;exact⟨x,dc,lb,h1,e _ _ h2,h3.same e⟩
theorem WkAt.other (x:WkAt K CW CC Hs H H₀ a wl rl an w){b:Addr}{o:HO}(h1:Hs b=none)(h0:H₀ b=none)(h2:b∉a::wl::rl::an):WkAt K CW CC Hs (upd H b o) H₀ a wl rl an w:=
 x.grow (.refl _) (λ c u e=>by rw[ah (show c≠b from λ z=>by subst z;rw[h1] at e;cases e)];exact x.sv c u e)
  (λ c u e=>by rw[ah (show c≠b from λ z=>by subst z;rw[h0] at e;cases e)];exact x.oh c u e) (λ c hc u e=>by rw[ah (show c≠b from λ z=>by subst z;exact h2 hc)];exact e) λ c hc=>(x.no c hc).1
theorem m8 (e:Ext Hs H Hs' H'){b:Addr}{o:HO}(h1:Hs b=none)(h2:H b=some o):Hs' b=none:=by
 cases q:Hs' b with
 | none=>rfl
 | some u=>rw[e.new b u q h1] at h2;cases h2
theorem LpAt.ext (x:LpAt K CW CC Hs H H₀ a wl rl an w ab fb as fnd)(e:Ext Hs H Hs' H'):LpAt K CW CC Hs' H' H₀ a wl rl an w ab fb as fnd:=by
 obtain⟨avs,h1,h2⟩:=x.ha;obtain⟨fvs,h3,h4⟩:=x.hf;exact⟨x.wk.ext e,⟨m8 e x.na.1 h1,x.na.2⟩,⟨m8 e x.nf.1 h3,x.nf.2⟩,⟨avs,e.hh _ _ h1,Paired.mapM h2 λ _ _ _ q=>q.same e.vv⟩,⟨fvs,e.hh _ _ h3,Paired.mapM h4 λ _ _ _ q=>q.same e.vv⟩⟩
theorem LpAt.setA (x:LpAt K CW CC Hs H H₀ a wl rl an w ab fb as fnd){as':List An}{avs:List V}(h:Paired (AnAt Hs H₀) as' avs):LpAt K CW CC Hs (upd H ab (.lst avs)) H₀ a wl rl an w ab fb as' fnd:=by
 obtain⟨fvs,h3,h4⟩:=x.hf;exact⟨x.wk.other x.na.1 x.na.2.1 x.na.2.2,x.na,x.nf,⟨avs,aq,h⟩,⟨fvs,by rw[ah x.nf.2.2.2];exact h3,h4⟩⟩
theorem LpAt.setF (x:LpAt K CW CC Hs H H₀ a wl rl an w ab fb as fnd){fnd':List (List Wy×Nat)}{fvs:List V}(h:Paired (FdAt K CC Hs ab) fnd' fvs):LpAt K CW CC Hs (upd H fb (.lst fvs)) H₀ a wl rl an w ab fb as fnd':=by
 obtain⟨avs,h3,h4⟩:=x.ha;exact⟨x.wk.other x.nf.1 x.nf.2.1 x.nf.2.2.1,x.na,x.nf,⟨avs,by rw[ah (Ne.symm x.nf.2.2.2)];exact h3,h4⟩,⟨fvs,aq,h⟩⟩
end
abbrev vP (K:F5):List V->Hp->VK->Prop:=λ xs H Q=>∃ p ys,xs=[.ref p]/\(SqL K H p ys\/SqT K H p ys)/\Q (.int ys.length) H
abbrev Cv (K:F5)(t:TE)(ts:TO):TE:=λ σ H Q=>t σ H λ x H1=>ts σ H1 λ l H2=>∃ b xs,l=some (-1)/\x=.ref b/\SqX K H2 b xs/\∀ p,H2 p=none->Q (.ref p) (upd H2 p (.lst xs.reverse))
abbrev Bn (C:Ctx)(i:Nat)(ft:EE):TS:=λ E σ H=>∃ Hv ρ,EnvR C.X.K Hv ρ σ/\Same Hv H/\Ok C.X.K Hv H (C.W σ) C.cls (ft ρ) λ v H'=>E.nx (σ.set i (some v)) H'
def zP (C:Ctx)(CC:Addr)(E:XK)(ft:EE):TS:=du (Bn C 7 ft)
 (rM (mP (tOp (rI0 λ i j=>.bl (decide (j<i))) (tCB (vP C.X.K) (bg (bo 7) cg)) (tC (.int 0))))
  (iV (tBM C.X.K "list" gF (bo 4) (bg (tj (bg (tC (.str xJ)) (bg (tOp (AB C.X.K) (bo 7) (tC (.int 0))) cg))) cg)))
  (du (iV (tBM C.X.K "list" gF (bo 5) (bg (qo CC (mE CC) [] E (bg (tOp (zk C.X.K) (bo 1) (ot (bg (bo 6) cg))) (bg (bo 4) (bg (tCB (vP C.X.K) (bg (bo 4) cg)) cg)))) cg)))
   (iV (tBM C.X.K "list" gF (bo 4) (bg (tC .non) cg)))))
def tWR (C:Ctx)(CC:Addr)(E:XK)(tl tn:TE)(ft:EE):TS:=
 du (jR tl (dS 3)) (du (jR (ot cg) (dS 4)) (du (jR (ot cg) (dS 5)) (du
  (B5 (zf C.X.K (tOp (AB C.X.K) (gQ C.X.K (bo 0) "ways") (bo 3))) (dS 6) (zP C CC E ft))
  (du (iV (tBM C.X.K "list" gF (gQ C.X.K (bo 0) "rows") (bg (tj (bg (bo 3) (bg (bo 4) cg))) cg)))
   (iV (tBM C.X.K "list" pT (gQ C.X.K (bo 0) "waiting") (bg (Cv C.X.K (bo 5) (yW tn)) cg)))))))
def sY (K:F5)(CW CC:Addr)(k:Wk):Sp:=λ vs H Q _=>∃ (a wl rl:Addr) (an:List Addr) (v1 v2:V) (Hs H₀:Hp) (w:Ws) (l:List Wy) (fd:D) (w':Ws),vs=[.ref a,v1,v2]/\WkAt K CW CC Hs H H₀ a wl rl an w/\Rp K Hs (Dv.wyL l) v1/\Rp K Hs fd v2 /\
 Dv.rowW k w l fd=.row w'/\∀ Hs' H' an',WkAt K CW CC Hs' H' H₀ a wl rl an' w'->Stp Hs H (a::wl::rl::an) Hs' H' (a::wl::rl::an')->Q .non H'
theorem u5 {K:F5}{CW CC:Addr}{k:Wk}(vs:List V)(H:Hp)(Q:VK)(E:XK)(h:sY K CW CC k vs H Q E):vs.length=3:=by
 obtain⟨_,_,_,_,_,_,_,_,_,_,_,_,rfl,_⟩:=h;rfl
theorem oi {K:F5}{H:Hp}{l:List Wy}{v:V}(h:Rp K H (Dv.wyL l) v):∃ b vs,v=.ref b/\SqX K H b vs/\RpL K H (l.map Wy.d) vs:=by
 unfold Dv.wyL Rp at h;exact h
theorem A1 {K:F5}{H:Hp}{l:List Wy}{b:Addr}{vs:List V}(h:SqX K H b vs)(r:RpL K H (l.map Wy.d) vs):Rp K H (Dv.wyL l) (.ref b):=by
 unfold Dv.wyL Rp;exact⟨b,vs,rfl,h,r⟩
theorem Cn {K:F5}{H:Hp}{d0 d1 d2:D}{v0 v1 v2:V}{r:St}(h0:Rp K H d0 v0)(h1:Rp K H d1 v1)(h2:Rp K H d2 v2):EnvR K H [some d0,some d1,some d2] (some v0::some v1::some v2::r):=by
 intro i d e
 match i with
 | 0=>simp at e;subst e;exact⟨v0,rfl,h0⟩
 | 1=>simp at e;subst e;exact⟨v1,rfl,h1⟩
 | 2=>simp at e;subst e;exact⟨v2,rfl,h2⟩
 | i+3=>simp at e
theorem rC {K:F5}{CW CC:Addr}{Hs H H₀:Hp}{a wl rl:Addr}{an:List Addr}{w:Ws}(T:WkT K CW CC)(x:WkAt K CW CC Hs H H₀ a wl rl an w):Rp K H (.ins ["ways"] [Dv.wysD w.wys]) (.ref a):=by
 obtain⟨dx,wa,h1,h2⟩:=x.slf;unfold Rp;refine⟨a,CW,dx,_,[.ref wa],rfl,h1,T.clW,rfl,λ n u hn=>?_,.cons (h2.same x.sv) .nil⟩;simp only[D5,Fy,DE] at hn;cases hn;exact⟨T.nWays,k8⟩
theorem B8 {K:F5}{H:Hp}{d2 d6:D}{v2 v6:V}{a0 a1 a3 a4 a5:Option V}{r:St}(h2:Rp K H d2 v2)(h6:Rp K H d6 v6):EnvR K H [none,none,some d2,none,none,none,some d6] (a0::a1::some v2::a3::a4::a5::some v6::r):=by
 intro i d e
 match i with
 | 0=>simp at e
 | 1=>simp at e
 | 2=>simp at e;subst e;exact⟨v2,rfl,h2⟩
 | 3=>simp at e
 | 4=>simp at e
 | 5=>simp at e
 | 6=>simp at e;subst e;exact⟨v6,rfl,h6⟩
 | i+7=>simp at e
theorem j0 {A B:Prop}{c:Bool}(h:c=false)(b:B):if c=true then A else B:=by rw[if_neg (by rw[h];decide)];exact b
theorem gK {A B:Prop}{c:Bool}(h:c=true)(b:A):if c=true then A else B:=by rw[if_pos h];exact b
theorem gu {n:Nat}(h:n<Dv.mx):n<sizeLine:=by
 unfold Dv.mx at h;rw[GC];omega
theorem xV {C:Ctx}{CW CC:Addr}{E:XK}{k:Wk}{Hs Hc H₀:Hp}{a wl rl ab fb:Addr}{an:List Addr}{w:Ws}{as:List An}{fnd:List (List Wy×Nat)}{v1 v2 y:V}{vm:Option V}{vt:Option V}{l:List Wy}{fd:D}{wy:Wy}{r:List Wy}
  {res:List An×List (List Wy×Nat)} {D:Ends} (L:LpAt C.X.K CW CC Hs Hc H₀ a wl rl an w ab fb as fnd) (r1:Rp C.X.K Hs (Dv.wyL l) v1) (r2:Rp C.X.K Hs fd v2) (ry:Rp C.X.K Hs wy.d y) (hgo:Dv.rowGo k l fd (wy::r) as fnd=some res)
  (b1:as.length<Dv.mx) (b2:fnd.length<Dv.mx) (b3:l.length<Dv.mx)
  (next:∀ Hs' Hc' as' fnd' vt',LpAt C.X.K CW CC Hs' Hc' H₀ a wl rl an w ab fb as' fnd'->Stp Hs Hc (fb::ab::a::wl::rl::an) Hs' Hc' (fb::ab::a::wl::rl::an)->Dv.rowGo k l fd r as' fnd'=some res->as'.length=as.length+1->fnd'.length<=fnd.length+1 ->
   D.nx [some (.ref a),some v1,some v2,vm,some (.ref ab),some (.ref fb),some y,vt'] Hc'):
  zP C CC E k.ft D [some (.ref a),some v1,some v2,vm,some (.ref ab),some (.ref fb),some y,vt] Hc:=by
 unfold zP;refine⟨Hs,[none,none,some fd,none,none,none,some wy.d],B8 r2 ry,L.wk.sv,?_⟩;simp only[Dv.rowGo] at hgo;have mab:ab∈fb::ab::a::wl::rl::an:=by simp
 have mfb:fb∈fb::ab::a::wl::rl::an:=by simp
 split at hgo
 ·rename_i fr h
  rw[h];intro v Hv' H' x rp nn;unfold Rp at rp;obtain⟨pt,tvs,rfl,hq,hl⟩:=rp;unfold RpL at hl;subst hl;have L1:=L.ext x;have r1':=r1.same x.vv;obtain⟨avs,hA,pA⟩:=L1.ha;obtain⟨fvs,hF,pF⟩:=L1.hf;have la:=pA.length;have lf:=pF.length;obtain⟨lb,lvs,rfl,hlq,hll⟩:=oi r1';have ll:=hll.length;rw[CY] at ll;refine⟨_,rfl,pt,[],rfl,.inl (hq.same x.vh).seq,_,_,rfl,rfl,_,rfl,?_⟩;refine j0 (by simp) ?_
  refine⟨_,rfl,.inl ⟨rfl,_,SqL.of hF⟩,?_⟩;refine⟨_,rfl,_,rfl,(by show 1<=sizeLine;decide),λ p1 hp1=>?_⟩;have e1:=Ext.new1 x.vh hp1 (.lst [y]);have L2:=L1.ext e1;refine⟨lb,p1,lvs,[y],rfl,rfl,(hlq.same e1.vv).same e1.vh,SqX.of aq,?_,λ p2 hp2=>?_⟩
  ·have:=gu b3;show lvs.length+1<=sizeLine;omega
  have e2:=Ext.new1 e1.vh hp2 (.lst (lvs++[y]));have L3:=L2.ext e2;refine⟨_,rfl,_,rfl,ab,avs,rfl,.inl (SqL.of (e2.hh _ _ (e1.hh _ _ hA))),?_⟩;intro c dc hc hdc hne;have e3:=Ext.new1 e2.vh hdc (.own c);have hc':upd (upd (upd H' p1 (.lst [y])) p2 (.lst (lvs++[y]))) dc (.own c) c=none:=by rw[ah (Ne.symm hne)];exact hc
  have e4:=Ext.new1 e3.vh hc' (.ins CC dc (cf p2 ab avs.length));have L5:=(L3.ext e3).ext e4;refine⟨c,dc,p2,ab,avs.length,rfl,aq,rfl,?_⟩;rw[iQ];have hF5:=e4.hh _ _ (e3.hh _ _ (e2.hh _ _ (e1.hh _ _ hF)));refine⟨fb,fvs,.ref c,rfl,rfl,hF5,by have:=gu b2;omega,?_⟩;have sK:Same Hv' (upd (upd (upd (upd Hv' p1 (.lst [y])) p2 (.lst (lvs++[y]))) dc (.own c)) c (.ins CC dc (cf p2 ab avs.length))):=e1.vv.trans (e2.vv.trans (e3.vv.trans e4.vv));have pF':Paired (FdAt C.X.K CC (upd (upd (upd (upd Hv' p1 (.lst [y])) p2 (.lst (lvs++[y]))) dc (.own c)) c (.ins CC dc (cf p2 ab avs.length))) ab) (fnd++[(l++[wy],as.length)]) (fvs++[.ref c]):=by
   refine Paired.append (Paired.mapM pF λ _ _ _ q=>q.same sK) (.cons ⟨c,dc,p2,rfl,?_,?_⟩ .nil)
   ·rw[aq,<- la]
   ·refine A1 (SqX.of (e4.vv _ _ (e3.vv _ _ aq))) ?_
    rw[D6];exact(hll.same sK).append (.cons ((ry.same x.vv).same sK) .nil)
  have L6:=L5.setF pF';have hA6:upd (upd (upd (upd (upd H' p1 (.lst [y])) p2 (.lst (lvs++[y]))) dc (.own c)) c (.ins CC dc (cf p2 ab avs.length))) fb (.lst (fvs++[.ref c])) ab=some (.lst avs):=by
   rw[ah (Ne.symm L.nf.2.2.2)];exact e4.hh _ _ (e3.hh _ _ (e2.hh _ _ (e1.hh _ _ hA)))
  refine⟨_,rfl,.inl ⟨rfl,_,SqL.of hA6⟩,ab,avs,.non,rfl,rfl,hA6,by have:=gu b1;omega,?_⟩;have L7:=L6.setA (as':=as++[.non]) (avs:=avs++[.non]) (Paired.append (Paired.mapM pA λ _ _ _ q=>q.same sK) (.cons (show AnAt _ _ An.non V.non from rfl) .nil));exact next _ _ _ _ (some (.ref pt)) L7 ((Stp.ext x).trans ((Stp.ext e1).trans ((Stp.ext e2).trans ((Stp.ext e3).trans ((Stp.ext e4).trans ((Stp.write mfb (by intro _ _ z;cases z)).trans (Stp.write mab (by intro _ _ z;cases z)))))))) hgo (by simp) (by simp)
 ·rename_i p dr fr h
  rw[h];intro v Hv' H' x rp nn;unfold Rp at rp;obtain⟨pt,tvs,rfl,hq,hl⟩:=rp;unfold RpL at hl;obtain⟨u,ws,rfl,hu,_⟩:=hl;unfold Rp at hu;subst hu;have L1:=L.ext x;obtain⟨avs,hA,pA⟩:=L1.ha;have la:=pA.length;have sq:=(hq.same x.vh).seq;refine⟨_,rfl,pt,.int p::ws,rfl,.inl sq,_,_,rfl,rfl,_,rfl,?_⟩;refine gK (by simp) ?_
  refine⟨_,rfl,.inl ⟨rfl,_,SqL.of hA⟩,?_⟩;refine⟨_,rfl,pt,.int p::ws,0,.int p,rfl,rfl,sq,p5 (j:=0) rfl,(by show 2<=sizeLine;decide),λ q hq2=>?_⟩;have e1:=Ext.new1 x.vh hq2 (.tup [.str xJ,.int p]);have L2:=L1.ext e1;refine⟨ab,avs,.ref q,rfl,rfl,e1.hh _ _ hA,by have:=gu b1;omega,?_⟩;have hq0:H₀ q=none:=L1.wk.oh.free hq2;have L3:=L2.setA (as':=as++[.twi p]) (avs:=avs++[.ref q]) (Paired.append (Paired.mapM pA λ _ _ _ q=>q.same e1.vv) (.cons (show AnAt _ _ (An.twi p) (V.ref q) from ⟨q,rfl,aq,hq0⟩) .nil));exact next _ _ _ _ (some (.ref pt)) L3 ((Stp.ext x).trans ((Stp.ext e1).trans (Stp.write mab (by intro _ _ z;cases z)))) hgo (by simp) (by simp)
 ·cases hgo
theorem Stp.less {Hs H Hs1 H1:Hp}{M M1 M2:List Addr}(x:Stp Hs H M Hs1 H1 M1)(h:∀ b∈M2,b∈M1):Stp Hs H M Hs1 H1 M2:=⟨x.ss,x.nw,x.kp,x.dm,x.fz,λ b hb=>x.mm b (h b hb)⟩
section
variable {K:F5}{CW CC:Addr}{Hs Hs' H H' H₀:Hp}{a wl rl ab fb:Addr}{an:List Addr}{w:Ws}{as:List An}{fnd:List (List Wy×Nat)}
theorem WkAt.ne (x:WkAt K CW CC Hs H H₀ a wl rl an w):a≠wl/\a≠rl/\wl≠rl/\a∉an/\wl∉an/\rl∉an/\an.Nodup:=by
 have h:=x.nd;simp only[Fd,Dw,not_or] at h;exact⟨h.1.1,h.1.2.1,h.2.1.1,h.1.2.2,h.2.1.2,h.2.2.1,h.2.2.2⟩
theorem cI {Hs H:Hp}{m:Addr}{o:HO}(s:Same Hs H)(h:Hs m=none):Same Hs (upd H m o):=λ b u e=>by
 rw[ah (show b≠m from λ z=>by subst z;rw[h] at e;cases e)];exact s b u e
theorem WkAt.setWait (x:WkAt K CW CC Hs H H₀ a wl rl an w){cs:List Cs}{vs:List V}(h:Paired (CsAt K CC Hs an) cs vs):WkAt K CW CC Hs (upd H wl (.lst vs)) H₀ a wl rl an { w with wait:=cs }:=by
 obtain⟨n1,n2,n3,n4,n5,n6,n7⟩:=x.ne;have nn:=x.no wl (by simp);refine⟨cI x.sv nn.1,cI x.oh nn.2,x.nd,x.no,?_,⟨vs,aq,h⟩,?_,?_⟩
 ·obtain⟨dx,wa,h1,h2⟩:=x.slf
  exact⟨dx,wa,by rw[ah n1];exact h1,h2⟩
 ·obtain⟨rs,h1,h2⟩:=x.row
  exact⟨rs,by rw[ah (Ne.symm n3)];exact h1,h2⟩
 ·exact Paired.mapM x.sto λ l b hb ⟨zs,h1,h2⟩=>⟨zs,by rw[ah (show b≠wl from λ z=>by subst z;exact n5 hb)];exact h1,h2⟩
theorem WkAt.setGone (x:WkAt K CW CC Hs H H₀ a wl rl an w){dx wa:Addr}{g:Nat}(h:H a=some (.ins CW dx (wf wa wl rl w.gone))):WkAt K CW CC Hs (upd H a (.ins CW dx (wf wa wl rl g))) H₀ a wl rl an { w with gone:=g }:=by
 obtain⟨n1,n2,n3,n4,n5,n6,n7⟩:=x.ne;have nn:=x.no a (by simp);refine⟨cI x.sv nn.1,cI x.oh nn.2,x.nd,x.no,?_,?_,?_,?_⟩
 ·obtain⟨dx',wa',h1,h2⟩:=x.slf
  rw[h] at h1;have e:=Option.some.inj h1;injection e with e1 e2 e3
  unfold wf at e3;injection e3 with e4
  injection e4 with e5 e6
  injection e6 with e7
  subst e7;exact⟨dx,wa,aq,h2⟩
 ·obtain⟨rs,h1,h2⟩:=x.wai
  exact⟨rs,by rw[ah (Ne.symm n1)];exact h1,h2⟩
 ·obtain⟨rs,h1,h2⟩:=x.row
  exact⟨rs,by rw[ah (Ne.symm n2)];exact h1,h2⟩
 ·exact Paired.mapM x.sto λ l b hb ⟨zs,h1,h2⟩=>⟨zs,by rw[ah (show b≠a from λ z=>by subst z;exact n4 hb)];exact h1,h2⟩
theorem Paired.setAt {α:Type}{F G:α->Addr->Prop}{l:List α}{r:List Addr}{x:α}{i:Nat}{b:Addr}(h:Paired F l r)(nd:r.Nodup)(hb:r[i]?=some b)(q:G x b)(o:∀ y c,c≠b->F y c->G y c):Paired G (l.set i x) r:=by
 induction h generalizing i with
 | nil=>simp at hb
 | cons z t ih=>
  obtain⟨n1,n2⟩:=List.nodup_cons.mp nd;cases i with
  | zero=>
   simp at hb;subst hb;exact .cons q (Paired.mapM t λ y c hc f=>o y c (λ e=>by subst e;exact n1 hc) f)
  | succ i=>
   simp at hb;exact .cons (o _ _ (λ e=>by subst e;exact n1 (DI hb)) z) (ih n2 hb)
theorem WkAt.setSto (x:WkAt K CW CC Hs H H₀ a wl rl an w){i:Nat}{b:Addr}{as:List An}{vs:List V}(hb:an[i]?=some b)(h:Paired (AnAt Hs H₀) as vs):WkAt K CW CC Hs (upd H b (.lst vs)) H₀ a wl rl an { w with sto:=w.sto.set i as }:=by
 obtain⟨n1,n2,n3,n4,n5,n6,n7⟩:=x.ne;have mb:=DI hb;have nn:=x.no b (by simp[mb]);refine⟨cI x.sv nn.1,cI x.oh nn.2,x.nd,x.no,?_,?_,?_,?_⟩
 ·obtain⟨dx,wa,h1,h2⟩:=x.slf
  exact⟨dx,wa,by rw[ah (show a≠b from λ z=>by subst z;exact n4 mb)];exact h1,h2⟩
 ·obtain⟨rs,h1,h2⟩:=x.wai
  exact⟨rs,by rw[ah (show wl≠b from λ z=>by subst z;exact n5 mb)];exact h1,h2⟩
 ·obtain⟨rs,h1,h2⟩:=x.row
  exact⟨rs,by rw[ah (show rl≠b from λ z=>by subst z;exact n6 mb)];exact h1,h2⟩
 ·exact Paired.setAt x.sto n7 hb ⟨vs,aq,h⟩ λ y c hc ⟨zs,h1,h2⟩=>⟨zs,by rw[ah hc];exact h1,h2⟩
theorem mY {α:Type}{l:List α}{b:α}:∀ (i:Nat) c,l[i]?=some c->(l++[b])[i]?=some c:=λ i c h=>by
 rw[Dq (List.getElem?_eq_some_iff.mp h).1];exact h
theorem LpAt.done (L:LpAt K CW CC Hs H H₀ a wl rl an w ab fb as fnd){m:Int}{r:Addr}{rvs:List V}(hr:Hs r=some (.tup [.int m,.ref ab]))(h0:H₀ r=none)(hR:H rl=some (.lst rvs)):
  WkAt K CW CC Hs (upd H rl (.lst (rvs++[.ref r]))) H₀ a wl rl (an++[ab]) { w with rows:=w.rows++[(m,w.sto.length)],sto:=w.sto++[as] }:=by
 have x:=L.wk;obtain⟨n1,n2,n3,n4,n5,n6,n7⟩:=x.ne;have nn:=x.no rl (by simp);have na:=L.na.2.2;simp only[Dw,not_or] at na;have hl:an[w.sto.length]?=none:=by rw[x.sto.length];simp
 have hab:(an++[ab])[w.sto.length]?=some ab:=by rw[x.sto.length];simp
 refine⟨cI x.sv nn.1,cI x.oh nn.2,?_,λ b hb=>?_,?_,?_,?_,?_⟩
 ·show (a::wl::rl::(an++[ab])).Nodup
  simp only[Fd,Dw,not_or,Eu,Dt,or_false,not_false_eq_true,List.nodup_append,FV,and_true,true_and];refine⟨⟨n1,n2,n4,Ne.symm na.1⟩,⟨n3,n5,Ne.symm na.2.1⟩,⟨n6,Ne.symm na.2.2.1⟩,n7,λ y hy z hz e=>?_⟩;rw[hz] at e;subst e;exact na.2.2.2 hy
 ·have hb':b∈a::wl::rl::an\/b=ab:=by
   simp only[Dw,Eu,Dt,or_false] at hb ⊢
   rcases hb with h|h|h|h|h
   ·exact .inl (.inl h)
   ·exact .inl (.inr (.inl h))
   ·exact .inl (.inr (.inr (.inl h)))
   ·exact .inl (.inr (.inr (.inr h)))
   ·exact .inr h
  rcases hb' with h|rfl
  ·exact x.no b h
  ·exact⟨L.na.1,L.na.2.1⟩
 ·obtain⟨dx,wa,h1,h2⟩:=x.slf
  exact⟨dx,wa,by rw[ah n2];exact h1,h2⟩
 ·obtain⟨vs,h1,h2⟩:=x.wai
  exact⟨vs,by rw[ah n3];exact h1,Paired.mapM h2 λ _ _ _ q=>q.same (.refl _) mY⟩
 ·obtain⟨vs,h1,h2⟩:=x.row
  rw[hR] at h1;cases h1;exact⟨_,aq,Paired.append (Paired.mapM h2 λ _ _ _ q=>q.same (.refl _) mY) (.cons ⟨r,ab,rfl,hr,h0,hab⟩ .nil)⟩
 ·obtain⟨avs,hA,pA⟩:=L.ha
  refine Paired.append (Paired.mapM x.sto λ l b hb ⟨zs,h1,h2⟩=>⟨zs,by rw[ah (show b≠rl from λ z=>by subst z;exact n6 hb)];exact h1,h2⟩) (.cons ⟨avs,?_,pA⟩ .nil);rw[ah na.2.2.1];exact hA
end
theorem xZ {C:Ctx}{CW CC:Addr}{E E':XK}{tl tn:TE}{k:Wk}{vs:List V}{H:Hp}{Q:VK}(T:WkT C.X.K CW CC)(ql:Tak C tl k.fl)(qn:Tak C tn (Dv.eNeg (Dv.eInt 1)))(h:sY C.X.K CW CC k vs H Q E'):
  tWR C CC E tl tn k.ft { nx:=λ _ H'=>Q .non H',rt:=Q } (L2.start ["self","laid","filled","least","answers","found","way","twice"] vs) H:=by
 obtain⟨a,wl,rl,an,v1,v2,Hs,H₀,w,l,fd,w',rfl,W,r1,r2,hrow,q⟩:=h;unfold Dv.rowW at hrow
 split at hrow
 ·rename_i m fr hfl
  split at hrow
  ·rename_i ws hws
   split at hrow
   ·rename_i as' f' hgo
    split at hrow
    ·rename_i hb
     cases hrow;simp only[C3,decide_eq_true_eq] at hb;obtain⟨⟨⟨b1,b2⟩,b3⟩,b4⟩:=hb;refine ql _ H H _ _ (Cn (rC T W) (r1.same W.sv) (r2.same W.sv)) (.refl _) ?_
     rw[hfl];intro v Hv' H1 x rp nn;unfold Rp at rp;subst rp;have W1:=W.hext x.hh;refine⟨(by show 0<=sizeLine;decide),λ ab hab=>?_⟩;refine⟨(by show 0<=sizeLine;decide),λ fb hfb=>?_⟩;obtain⟨nfa,hfb⟩:=bc hfb;have nab:ab∉a::wl::rl::an:=λ z=>by obtain⟨o,ho⟩:=W1.has ab z;rw[hab] at ho;cases ho
     have nfb:fb∉a::wl::rl::an:=λ z=>by obtain⟨o,ho⟩:=W1.has fb z;rw[hfb] at ho;cases ho
     have L0:LpAt C.X.K CW CC Hs (upd (upd H1 ab (.lst [])) fb (.lst [])) H₀ a wl rl an w ab fb [] []:=
      ⟨(W1.other (W1.sv.free hab) (W1.oh.free hab) nab).other (W1.sv.free hfb) (W1.oh.free hfb) nfb,⟨W1.sv.free hab,W1.oh.free hab,nab⟩,⟨W1.sv.free hfb,W1.oh.free hfb,nfb,nfa⟩,⟨[],by rw[ah (Ne.symm nfa),aq],.nil⟩,⟨[],aq,.nil⟩⟩
     have S0:Stp Hs H (a::wl::rl::an) Hs (upd (upd H1 ab (.lst [])) fb (.lst [])) (fb::ab::a::wl::rl::an):=
      (Stp.hext x.hh x.nf).trans ((Stp.newM (M1:=ab::a::wl::rl::an) hab (by intro _ _ z;cases z) λ b hb=>(List.mem_cons.mp hb).symm).trans
       (Stp.newM (M1:=fb::ab::a::wl::rl::an) (by rw[ah nfa];exact hfb) (by intro _ _ z;cases z) λ b hb=>(List.mem_cons.mp hb).symm))
     obtain⟨dx,wa,hWa,rW⟩:=L0.wk.slf;unfold Dv.wysD Rp at rW;obtain⟨wa',wvs,e,hwq,hwl⟩:=rW;cases e;obtain⟨u,hu,ru⟩:=hwl.get (i:=m) (d:=Dv.wyL ws) (by rw[Dc,hws];rfl);obtain⟨wb,yvs,rfl,hbq,hbl⟩:=oi ru;have yl:=hbl.length;rw[CY] at yl;refine⟨_,rfl,a,CW,dx,_,_,rfl,hWa,T.clW,T.nWays,k8,_,rfl,wa,wvs,(m:Int),.ref wb,rfl,rfl,(hwq.same L0.wk.sv).seq,p5 hu,wb,rfl,⟨_,(hbq.same L0.wk.sv).seq⟩,?_⟩;refine vE (K:=C.X.K) (a:=wb) (xs:=yvs) (λ i σ Hc=>∃ Hs1 as fnd vw vt,σ=[some (.ref a),some v1,some v2,some (.int (m:Int)),some (.ref ab),some (.ref fb),vw,vt]/\LpAt C.X.K CW CC Hs1 Hc H₀ a wl rl an w ab fb as fnd /\
      Stp Hs H (a::wl::rl::an) Hs1 Hc (fb::ab::a::wl::rl::an)/\Dv.rowGo k l fd (ws.drop i) as fnd=some (as',f')/\as.length=i/\fnd.length<=i) ?h0 ?hl ?hs ?hd
     case h0=>exact⟨Hs,[],[],none,none,rfl,L0,S0,by simpa using hgo,rfl,Dh _⟩
     case hl=>
      rintro i σ Hc hi ⟨Hs1,as,fnd,vw,vt,rfl,L,S,hg,h1,h2⟩
      exact((hbq.same S.ss).same L.wk.sv).seq
     case hs=>
      rintro i y σ Hc hy ⟨Hs1,as,fnd,vw,vt,rfl,L,S,hg,h1,h2⟩
      have hi:i<yvs.length:=(List.getElem?_eq_some_iff.mp hy).1;have hiw:i<ws.length:=⋯
      have hwy:ws[i]?=some ws[i]:=Dg hiw
      obtain⟨y',hy',ry⟩:=hbl.get (i:=i) (d:=(ws[i]).d) (by rw[Dc,hwy];rfl);rw[hy] at hy';cases hy';rw[D8 hiw] at hg;exact xV L (r1.same S.ss) (r2.same S.ss) (ry.same S.ss) hg ⋯ ⋯ b1 λ Hs' Hc' as2 fnd2 vt' L' S' hg' h1' h2'=>⟨Hs',as2,fnd2,some y,vt',rfl,L',S.trans S',hg',⋯,⋯⟩
     case hd=>
      rintro σ Hc ⟨Hs1,as,fnd,vw,vt,rfl,L,S,hg,h1,h2⟩
      rw[yl,E4] at hg;simp only[Dv.rowGo,Option.some.injEq,Prod.mk.injEq] at hg;obtain⟨rfl,rfl⟩:=hg;obtain⟨rvs,hR,pR⟩:=L.wk.row;obtain⟨dx2,wa2,hA2,rA2⟩:=L.wk.slf;have lr:=pR.length;refine⟨_,rfl,a,CW,dx2,_,_,rfl,hA2,T.clW,T.nRows,lz,.inl ⟨rfl,_,SqL.of hR⟩,_,rfl,_,rfl,(by show 2<=sizeLine;decide),λ r hr=>?_⟩;have e1:=Ext.new1 L.wk.sv hr (.tup [.int (m:Int),.ref ab]);have L2:=L.ext e1;refine⟨rl,rvs,.ref r,rfl,rfl,e1.hh _ _ hR,by have:=gu b3;omega,?_⟩;have W3:=L2.done (m:=(m:Int)) (r:=r) aq (L.wk.oh.free hr) (e1.hh _ _ hR);have S3:=S.trans ((Stp.ext e1).trans (Stp.write (m:=rl) (o:=.lst (rvs++[.ref r])) (by simp) (by intro _ _ z;cases z)));obtain⟨fvs,hF,pF⟩:=L2.hf;have lf:=pF.length;have nfr:fb≠rl:=λ z=>L.nf.2.2.1 (by simp[z])
      obtain⟨dx3,wa3,hA3,rA3⟩:=W3.slf;obtain⟨cvs,hC3,pC3⟩:=W3.wai;refine⟨_,rfl,a,CW,dx3,_,_,rfl,hA3,T.clW,T.nWaiting,gc,.inl ⟨rfl,_,SqL.of hC3⟩,_,rfl,?_⟩;refine qn _ _ (upd Hs1 r (.tup [.int (m:Int),.ref ab])) [] _ (λ i d z=>by simp at z) W3.sv ?_
      intro v4 Hv4 H4 x4 rp4 nn4;unfold Rp at rp4;subst rp4;refine⟨-1,rfl,fb,fvs,rfl,rfl,SqX.of (x4.hh _ _ (by rw[ah nfr];exact hF)),λ p hp=>?_⟩;have W4:=W3.ext x4;have e5:=Ext.new1 x4.vh hp (.lst fvs.reverse);have W5:=W4.ext e5;have hC5:=e5.hh _ _ (x4.hh _ _ hC3);have lc:=pC3.length;refine⟨wl,p,cvs,fvs.reverse,rfl,rfl,hC5,aq,?_,?_⟩
      ·rw[EU]
       have:=dH b4;show cvs.length+fvs.length<=sizeLine
       simp only at lc;omega
      have sK:Same (upd Hs1 r (.tup [.int (m:Int),.ref ab])) (upd Hv4 p (.lst fvs.reverse)):=x4.vv.trans e5.vv;have hab':(an++[ab])[w.sto.length]?=some ab:=by rw[L.wk.sto.length];simp
      have W6:=W5.setWait (cs:=w.wait++fnd.reverse.map λ p=>⟨p.1,w.sto.length,p.2⟩) (vs:=cvs++fvs.reverse)
       (Paired.append (Paired.mapM pC3 λ _ _ _ z=>z.same sK λ _ _ z=>z) (Paired.maps (Paired.rev pF) λ pp v ⟨x,dc,lb,z1,z2,z3⟩=>⟨x,dc,lb,ab,z1,sK _ _ z2,z3.same sK,hab'⟩))
      have S6:=S3.trans ((Stp.ext x4).trans ((Stp.ext e5).trans (Stp.write (m:=wl) (o:=.lst (cvs++fvs.reverse)) (by simp) (by intro _ _ z;cases z))));exact q _ _ _ W6 (S6.less λ b hb=>by
       simp only[Dw,Eu,Dt,or_false] at hb ⊢
       rcases hb with h|h|h|h|h <;>simp[h])
    ·cases hrow
   ·cases hrow
  ·cases hrow
 ·cases hrow
abbrev BW:List V->Hp->VK->Prop:=λ xs H Q=>∃ a kvs,xs=[V.ref a]/\Rd H a (.dK kvs)/\Q (.int kvs.length) H
def tGo (C:Ctx)(CW CC Ca:Addr)(E:XK)(k:Wk)(tp ts:TE):TS:=
 du (rM (mP (tOp rEq (gQ C.X.K (bo 0) "gone") (tC (.int 2000)))) (λ _ _ H1=>E (.ref Ca) none H1) ny)
 (du (pX C.X.K (bo 0) (tC (.int 1)) By "gone")
 (du (jR (BC C.X.K "list" Br (gQ C.X.K (bo 0) "waiting")) (dS 1))
 (du (jR tp (dS 2))
 (du (rM (mP (tOp rEq (tCB BW (bg (bo 2) cg)) (tCB (vP C.X.K) (bg (gQ C.X.K (bo 0) "ways") cg)))) (my ts) ny)
 (du (jR (tj (bg (tC (.str xk)) (bg (tCB (vP C.X.K) (bg (gQ C.X.K (bo 0) "rows") cg)) cg))) (Bk (gQ C.X.K (bo 1) "answers") (gQ C.X.K (bo 1) "at") zh))
 (du (iV (qD CW "write_row" (sY C.X.K CW CC k) [] E (bo 0) (bg (gQ C.X.K (bo 1) "laid") (bg (bo 2) cg))))
 (my (tC .non))))))))
def OkW (K:F5)(CW CC:Addr)(cls:String->Value)(Hs H H₀:Hp)(a wl rl:Addr)(an:List Addr)(r:WR)(Q:VK)(E:XK):Prop:=match r with
 | .many=>∀ Hs' H' an',(∃ w',WkAt K CW CC Hs' H' H₀ a wl rl an' w')->Stp Hs H (a::wl::rl::an) Hs' H' (a::wl::rl::an')->E (cls "TooMany") none H'
 | .bad=>False
 | .full w' d fr=>∀ v Hs' H' an',WkAt K CW CC Hs' H' H₀ a wl rl an' w'->Stp Hs H (a::wl::rl::an) Hs' H' (a::wl::rl::an')->Rp K Hs' d v->(fr=true->Rp [] (Hnew H Hs') d v)->Q v H'
 | .row w'=>∀ Hs' H' an',WkAt K CW CC Hs' H' H₀ a wl rl an' w'->Stp Hs H (a::wl::rl::an) Hs' H' (a::wl::rl::an')->Q .non H'
def sI (K:F5)(CW CC:Addr)(cls:String->Value)(k:Wk):Sp:=λ vs H Q E=>∃ (a wl rl:Addr) (an:List Addr) (Hs H₀:Hp) (w:Ws),vs=[.ref a]/\WkAt K CW CC Hs H H₀ a wl rl an w/\OkW K CW CC cls Hs H H₀ a wl rl an (Dv.stepW k w) Q E
theorem vD {K:F5}{CW CC:Addr}{cls:String->Value}{k:Wk}(vs:List V)(H:Hp)(Q:VK)(E:XK)(h:sI K CW CC cls k vs H Q E):vs.length=1:=by
 obtain⟨_,_,_,_,_,_,_,rfl,_⟩:=h;rfl
theorem kb {K:F5}{CW CC:Addr}{H:Hp}{x dc lb b:Addr}{t:Int}{l:List Wy}(T:WkT K CW CC)(h1:H x=some (.ins CC dc (cf lb b t)))(h2:Rp K H (Dv.wyL l) (.ref lb)):Rp K H (.ins ["laid"] [Dv.wyL l]) (.ref x):=by
 unfold Rp;refine⟨x,CC,dc,_,[.ref lb],rfl,h1,T.clC,rfl,λ n u hn=>?_,.cons h2 .nil⟩;simp only[D5,Fy,DE] at hn;cases hn;exact⟨T.nLaid,qG⟩
theorem Cq {K:F5}{H:Hp}{d1:D}{v1:V}{a0:Option V}{r:St}(h1:Rp K H d1 v1):EnvR K H [none,some d1] (a0::some v1::r):=by
 intro i d e
 match i with
 | 0=>simp at e
 | 1=>simp at e;subst e;exact⟨v1,rfl,h1⟩
 | i+2=>simp at e
theorem BI {K:F5}{H:Hp}{d1 d2:D}{v1 v2:V}{a0:Option V}{r:St}(h1:Rp K H d1 v1)(h2:Rp K H d2 v2):EnvR K H [none,some d1,some d2] (a0::some v1::some v2::r):=by
 intro i d e
 match i with
 | 0=>simp at e
 | 1=>simp at e;subst e;exact⟨v1,rfl,h1⟩
 | 2=>simp at e;subst e;exact⟨v2,rfl,h2⟩
 | i+3=>simp at e
theorem yt {n j:Nat}(h:j<n):ixN n (j:Int)=some j:=by
 unfold ixN;rw[if_pos ⋯,if_pos ⋯];simp
theorem wA {α:Type}{l:List α}{c:α}(h:l.getLast?=some c):l[l.length-1]?=some c:=by
 rw[List.getLast?_eq_getElem?] at h;exact h
theorem oe (k:Wk)(w:Ws)(l:List Wy)(fd:D):Dv.rowW k w l fd=.bad\/∃ w',Dv.rowW k w l fd=.row w':=by
 unfold Dv.rowW
 split
 ·split
  ·split
   ·split
    ·exact .inr ⟨_,rfl⟩
    ·exact .inl rfl
   ·exact .inl rfl
  ·exact .inl rfl
 ·exact .inl rfl
theorem xI {C:Ctx}{CW CC Ca:Addr}{E:XK}{tp ts:TE}{k:Wk}{vs:List V}{H:Hp}{Q:VK}(T:WkT C.X.K CW CC)(hcls:C.cls "TooMany"=.ref Ca)(qp:Tak C tp (Dv.eCall k.fp (Dv.lCons (Dv.eFld "laid" (Dv.eVar 1)) Dv.lNil)))(qs:Tak C ts k.fs)
  (h:sI C.X.K CW CC C.cls k vs H Q E):tGo C CW CC Ca E k tp ts { nx:=λ _ H'=>Q .non H',rt:=Q } (L2.start ["self","case","filled"] vs) H:=by
 obtain⟨a,wl,rl,an,Hs,H₀,w,rfl,W,hst⟩:=h;unfold Dv.stepW at hst;obtain⟨dx,wa,hA,rW⟩:=W.slf;refine⟨_,rfl,a,CW,dx,_,_,rfl,hA,T.clW,T.nGone,qF,rfl,_,rfl,?_⟩;by_cases hg:w.gone=2000
 ·rw[if_pos hg] at hst
  refine gK (by simp[hg]) ?_
  rw[<- hcls];exact hst Hs H an ⟨w,W⟩ .refl
 rw[if_neg hg] at hst;refine j0 (by simp;omega) ?_
 refine⟨_,rfl,a,CW,dx,_,_,rfl,hA,T.clW,T.nGone,qF,_,_,rfl,rfl,dx,_,hA,(by show 4<1000;decide),?_⟩;have W1:=W.setGone hA (g:=w.gone+1);have S1:Stp Hs H (a::wl::rl::an) Hs (upd H a (.ins CW dx (wf wa wl rl ((w.gone+1:Nat):Int)))) (a::wl::rl::an):=Stp.write (by simp) (by intro _ _ z;cases z);cases hl:w.wait.getLast? with
 | none=>simp only[hl] at hst;exact Zf hst
 | some c=>
  simp only[hl] at hst;obtain⟨cvs,hC,pC⟩:=W1.wai;have hlen:=pC.length;obtain⟨y,hy,cy⟩:=Paired.gets pC (wA hl);obtain⟨cx,dc,lb,b,rfl,hcx,rl1,hb⟩:=cy;simp only at hlen;rw[hlen] at hy;refine⟨_,rfl,a,CW,dx,_,_,rfl,aq,T.clW,T.nWaiting,gc,.inl ⟨rfl,_,SqL.of hC⟩,wl,cvs,.ref cx,rfl,rfl,hC,hy,?_⟩;have W2:=W1.setWait (Paired.dropLast pC);have S2:=S1.trans (Stp.write (Hs:=Hs) (m:=wl) (o:=.lst cvs.dropLast) (by simp) (by intro _ _ z;cases z));refine qp _ _ Hs [none,some (.ins ["laid"] [Dv.wyL c.laid])] _ (Cq (kb T hcx rl1)) W2.sv ?_
  have hev:Dv.eCall k.fp (Dv.lCons (Dv.eFld "laid" (Dv.eVar 1)) Dv.lNil) [none,some (.ins ["laid"] [Dv.wyL c.laid])]=k.fp [Dv.wyL c.laid]:=by
   simp[Dv.eCall,Dv.lCons,Dv.eFld,Dv.eVar,Dv.fldD,Dv.lookS,Dv.lNil,Dv.R.bind,Dv.RL.bind,Dv.R.bindL,Dv.RL.bindL]
  rw[hev];cases hfp:k.fp [Dv.wyL c.laid] with
  | bad=>simp only[hfp] at hst;exact Zf hst
  | exc e=>simp only[hfp] at hst;exact Zf hst
  | ok d fr0=>
   cases d with
   | dct ks ds=>
    simp only[hfp] at hst;intro v Hv3 H3 x3 rp3 nn3;have W3:=W2.ext x3;have S3:=S2.trans (Stp.ext x3);have hcx3:=x3.vv _ _ hcx;have rl3:=rl1.same x3.vv;have rp3':=rp3;unfold Rp at rp3';obtain⟨fa,fvs,rfl,hk1,hk2,hk3⟩:=rp3';obtain⟨dx3,wa3,hA3,rW3⟩:=W3.slf;have rW3':=rW3;unfold Dv.wysD Rp at rW3';obtain⟨wa',wvs,e,hwq,hwl⟩:=rW3';cases e;have wl3:=hwl.length;rw[CY] at wl3;have kl:((ks.map (Sum.inl:Int->Key)).zip fvs).length=ks.length:=by
     rw[EK,CY,hk3.length,hk1,Nat.min_self]
    refine⟨_,rfl,fa,_,rfl,Rd.same x3.vh hk2,_,rfl,a,CW,dx3,_,_,rfl,hA3,T.clW,T.nWays,k8,wa3,wvs,rfl,.inl (hwq.same W3.sv).seq,rfl,_,rfl,?_⟩;rw[kl,wl3];by_cases hfull:ks.length=w.wys.length
    ·rw[if_pos hfull] at hst
     refine gK (by simp[hfull]) ?_
     refine qs _ _ Hv3 [none,some (.ins ["laid"] [Dv.wyL c.laid]),some (.dct ks ds)] _ (BI (kb T hcx3 rl3) rp3) W3.sv ?_
     cases hfs:k.fs [none,some (.ins ["laid"] [Dv.wyL c.laid]),some (.dct ks ds)] with
     | bad=>simp only[hfs] at hst;exact Zf hst
     | exc e=>simp only[hfs] at hst;exact Zf hst
     | ok d fr=>
      simp only[hfs] at hst;intro v5 Hv5 H5 x5 rp5 nn5;refine hst v5 Hv5 H5 an (W3.ext x5) (S3.trans (Stp.ext x5)) rp5 λ z=>(nn5 z).same λ b o hbo=>?_
      have hb3:H3 b=none:=by
       cases q:H3 b with
       | none=>rfl
       | some u=>unfold Hnew at hbo;rw[q] at hbo;cases hbo
      have hbH:H b=none:=by
       cases q:H b with
       | none=>rfl
       | some u=>obtain⟨u',hu⟩:=S3.dm b u q;rw[hb3] at hu;cases hu
      unfold Hnew;rw[hbH];show Hv5 b=some o
      rw[x5.all b hb3];exact Hnew.sub b o hbo
    ·rw[if_neg hfull] at hst
     refine j0 (by simp;omega) ?_
     cases hs:w.sto[c.ix]? with
     | none=>simp only[hs] at hst;exact Zf hst
     | some as=>
      simp only[hs] at hst;by_cases hat:c.at_<as.length
      ·rw[if_pos hat] at hst
       obtain⟨rvs,hR,pR⟩:=W3.row;have lr:=pR.length;simp only at lr;refine⟨_,rfl,a,CW,dx3,_,_,rfl,hA3,T.clW,T.nRows,lz,rl,rvs,rfl,.inl (SqL.of hR),(by show 2<=sizeLine;decide),λ t ht=>?_⟩;have e4:=Ext.new1 x3.vh ht (.tup [.str xk,.int rvs.length]);have W4:=W3.ext e4;have S4:=S3.trans (Stp.ext e4);have hcx4:=e4.vv _ _ hcx3;obtain⟨b',hb',avs,hB,pA⟩:=Paired.gets W4.sto hs;rw[hb] at hb';cases hb';have la:=pA.length;refine⟨_,rfl,cx,CC,dc,_,_,rfl,W4.sv _ _ hcx4,T.clC,T.nAnswers,nV,_,rfl,cx,CC,dc,_,_,rfl,W4.sv _ _ hcx4,T.clC,T.nAt,B4,b,avs,(c.at_:Int),c.at_,rfl,rfl,hB,yt ⋯,?_⟩;have ht0:H₀ t=none:=W3.oh.free ht;have W5:=W4.setSto (as:=as.set c.at_ (.row w.rows.length)) (vs:=avs.set c.at_ (.ref t)) hb (Paired.set (show AnAt _ _ (An.row w.rows.length) (V.ref t) from ⟨t,rfl,by rw[aq,lr],ht0⟩) pA c.at_);have S5:=S4.trans (Stp.write (m:=b) (o:=.lst (avs.set c.at_ (.ref t))) (by simp[DI hb]) (by intro _ _ z;cases z));obtain⟨dx5,wa5,hA5,rW5⟩:=W5.slf;generalize hrw:Dv.rowW k { w with gone:=w.gone+1,wait:=w.wait.dropLast,sto:=w.sto.set c.ix (as.set c.at_ (.row w.rows.length)) } c.laid (.dct ks ds)=rr at hst;have hrr:∃ w',rr=.row w':=by
        rcases oe k { w with gone:=w.gone+1,wait:=w.wait.dropLast,sto:=w.sto.set c.ix (as.set c.at_ (.row w.rows.length)) } c.laid (.dct ks ds) with z|⟨w',z⟩
        ·rw[hrw] at z;subst z;exact Zf hst
        ·exact⟨w',hrw.symm.trans z⟩
       obtain⟨w',rfl⟩:=hrr;refine⟨_,rfl,a,dx5,_,rfl,hA5,t6,_,rfl,cx,CC,dc,_,_,rfl,W5.sv _ _ hcx4,T.clC,T.nLaid,qG,_,rfl,?_⟩;exact⟨a,wl,rl,an,_,_,_,H₀,_,c.laid,.dct ks ds,w',rfl,W5,rl3.same e4.vv,rp3.same e4.vv,hrw,λ Hs' H' an' W' S'=>hst Hs' H' an' W' (S5.trans S')⟩
      ·rw[if_neg hat] at hst;exact Zf hst
   | _=>simp only[hfp] at hst;exact Zf hst
structure Bs (Hv₀ H₀ Hs H:Hp):Prop where
 vv:Same Hv₀ Hs
 nw:∀ b o,Hs b=some o->Hv₀ b=none->H₀ b=none
 nf:∀ b o u,H₀ b=none->H b≠some (.frz o u)
theorem Bs.stp {Hv₀ H₀ Hs H Hs' H':Hp}{M M':List Addr}(x:Bs Hv₀ H₀ Hs H)(oh:Same H₀ H)(s:Stp Hs H M Hs' H' M'):Bs Hv₀ H₀ Hs' H':=by
 refine⟨x.vv.trans s.ss,λ b o h n=>?_,λ b o u h z=>x.nf b o u h (s.fz b o u z)⟩;cases q:Hs b with
 | some u=>exact x.nw b u q n
 | none=>exact oh.free (s.nw b o h q)
theorem Bs.fin {Hv₀ H₀ Hs H:Hp}(x:Bs Hv₀ H₀ Hs H)(oh:Same H₀ H)(sv:Same Hs H):∃ Hv2,Ext Hv₀ H₀ Hv2 H/\Same Hs Hv2/\∀ b,H₀ b=none->Hv2 b=H b:=by
 let Hv2:Hp:=λ b=>match H₀ b with
  | none=>H b
  | some _=>Hs b
 have a1:∀ b,H₀ b=none->Hv2 b=H b:=λ b h=>by show (match H₀ b with|none=>H b|some _=>Hs b)=_;rw[h]
 have a2:∀ b o,H₀ b=some o->Hv2 b=Hs b:=λ b o h=>by show (match H₀ b with|none=>H b|some _=>Hs b)=_;rw[h]
 have a3:Same Hs Hv2:=λ b o h=>by
  cases q:H₀ b with
  | none=>rw[a1 b q];exact sv b o h
  | some u=>rw[a2 b u q];exact h
 refine⟨Hv2,⟨oh,x.vv.trans a3,λ b o h=>?_,λ b o h n=>?_,a1,x.nf⟩,a3,a1⟩
 ·cases q:H₀ b with
  | none=>rw[a1 b q] at h;exact h
  | some u=>rw[a2 b u q] at h;exact sv b o h
 ·cases q:H₀ b with
  | none=>rfl
  | some u=>rw[a2 b u q] at h;rw[x.nw b o h n] at q;cases q
abbrev BK (K:F5):TT:=mP (tOp (rI0 λ i j=>.bl (decide (j<i))) (tCB (vP K) (bg (gQ K (bo 0) "waiting") cg)) (tC (.int 0)))
def Ae (K:F5)(CW CC:Addr)(cls:String->Value)(k:Wk)(E:XK):TS:=
 du (uS (BK K) (du (jR (qD CW "go_on" (sI K CW CC cls k) [] E (bo 0) cg) (dS 1)) (rM (tB (za (bo 1))) (my (bo 1)) ny))) (my (tC .non))
def gE (K:F5)(CW CC:Addr)(cls:String->Value)(k:Wk):Sp:=λ vs H Q E=>∃ (a wl rl:Addr) (an:List Addr) (Hs H₀:Hp) (w:Ws),vs=[.ref a]/\WkAt K CW CC Hs H H₀ a wl rl an w/\OkW K CW CC cls Hs H H₀ a wl rl an (Dv.firstGo k 2002 w) Q E
theorem nD {K:F5}{CW CC:Addr}{cls:String->Value}{k:Wk}(vs:List V)(H:Hp)(Q:VK)(E:XK)(h:gE K CW CC cls k vs H Q E):vs.length=1:=by
 obtain⟨_,_,_,_,_,_,_,rfl,_⟩:=h;rfl
theorem OkW.later {K:F5}{CW CC:Addr}{cls:String->Value}{Hs H Hs1 H1 H₀:Hp}{a wl rl:Addr}{an an1:List Addr}{r:WR}{Q:VK}{E:XK}(s:Stp Hs H (a::wl::rl::an) Hs1 H1 (a::wl::rl::an1))(h:OkW K CW CC cls Hs H H₀ a wl rl an r Q E):OkW K CW CC cls Hs1 H1 H₀ a wl rl an1 r Q E:=by
 cases r with
 | many=>exact λ Hs' H' an' w S=>h Hs' H' an' w (s.trans S)
 | bad=>exact h
 | full w' d fr=>
  intro v Hs' H' an' w S rp nn;refine h v Hs' H' an' w (s.trans S) rp λ z=>(nn z).same λ b o q=>?_
  unfold Hnew at q ⊢;cases q1:H1 b with
  | some u=>rw[q1] at q;cases q
  | none=>
   rw[q1] at q;cases q2:H b with
   | some u=>obtain⟨u',hu⟩:=s.dm b u q2;rw[q1] at hu;cases hu
   | none=>exact q
 | row w'=>exact λ Hs' H' an' w S=>h Hs' H' an' w (s.trans S)
theorem nR {K:F5}{CW CC:Addr}{cls:String->Value}{k:Wk}{E:XK}{vs:List V}{H:Hp}{Q:VK}(T:WkT K CW CC)(h:gE K CW CC cls k vs H Q E):
  Ae K CW CC cls k E { nx:=λ _ H'=>Q .non H',rt:=Q } (L2.start ["walk","found"] vs) H:=by
 obtain⟨a,wl,rl,an,Hs,H₀,w,rfl,W,ok⟩:=h;refine⟨λ m σ Hc=>∃ Hs1 an1 w1 vf,σ=[some (.ref a),vf]/\WkAt K CW CC Hs1 Hc H₀ a wl rl an1 w1/\OkW K CW CC cls Hs1 Hc H₀ a wl rl an1 (Dv.firstGo k m w1) Q E,⟨2002,Hs,an,w,none,rfl,W,ok⟩,?_⟩
 rintro m σ Hc ⟨Hs1,an1,w1,vf,rfl,W1,ok1⟩
 cases m with
 | zero=>exact Zf ok1
 | succ n=>
  obtain⟨dx,wa,hA,rW⟩:=W1.slf;obtain⟨cvs,hC,pC⟩:=W1.wai;have lc:=pC.length;refine⟨_,rfl,a,CW,dx,_,_,rfl,hA,T.clW,T.nWaiting,gc,wl,cvs,rfl,.inl (SqL.of hC),_,_,rfl,rfl,_,rfl,?_⟩;rw[<- lc];unfold Dv.firstGo at ok1;cases hw:w1.wait with
  | nil=>
   rw[hw] at ok1;simp only[List.isEmpty_nil,if_true] at ok1;refine j0 (by simp) ?_
   exact ok1 Hs1 Hc an1 W1 .refl
  | cons c0 cr=>
   rw[hw] at ok1;simp only[List.isEmpty_cons,DH,if_false] at ok1;refine gK (by simp) ?_
   refine⟨λ σ' H'=>∃ Hs1 an1 w1 vf,σ'=[some (.ref a),vf]/\WkAt K CW CC Hs1 H' H₀ a wl rl an1 w1/\OkW K CW CC cls Hs1 H' H₀ a wl rl an1 (Dv.firstGo k n w1) Q E,λ σ' H' h=>⟨n,D1 _,h⟩,?_⟩;refine⟨_,rfl,a,dx,_,rfl,hA,Bi,a,wl,rl,an1,Hs1,H₀,w1,rfl,W1,?_⟩;cases hs:Dv.stepW k w1 with
   | many=>simp only[hs] at ok1;exact ok1
   | bad=>simp only[hs] at ok1;exact Zf ok1
   | row w'=>
    simp only[hs] at ok1;intro Hs' H' an' W' S';refine⟨_,rfl,_,rfl,?_⟩;refine j0 (by simp) ?_
    exact⟨Hs',an',w',_,rfl,W',ok1.later S'⟩
   | full w' d fr0=>
    simp only[hs] at ok1;cases d with
    | lst es=>
     simp only at ok1;intro v Hs' H' an' W' S' rp nn;have rp':=rp;unfold Rp at rp';obtain⟨p,pvs,rfl,_,_⟩:=rp';refine⟨_,rfl,_,rfl,?_⟩;refine gK (by simp) ?_
     exact⟨_,rfl,ok1 (.ref p) Hs' H' an' W' S' rp nn⟩
    | _=>exact Zf ok1
open Dv (D R RL EE EL EI RI Sl Out SS Wy An Cs Ws WR Wk PR)
structure Mf (K:F5)(x qual:Str)(st:Stmt)(ps:List Str)(f:Addr)(fd:FuncData):Prop where
 ex:∃ (oc:Value) (od:Option Addr) (dV kV doc pm:Value) (an:Option Addr) (cdv ct:Value) (osl:Array (Option Value)),
  fd=Ga x qual (be st) (aO st) (af st) dV kV doc pm an cdv ct/\K.lookup f=some ⟨oc,od,.func fd,osl⟩/\Gy K cdv qual=true
 bd:Binds K fd ps []
section
variable {P:Program}{w:World}{K:F5}{mg:Str->Option Value}{base:Heap}{CX:CXT}
theorem rf {x qual:Str}{st:Stmt}{ps:List Str}{f:Addr}{oc:Value}{od an:Option Addr}{osl:Array (Option Value)}{dV kV doc pm cdv ct:Value}(l:K.lookup f=some ⟨oc,od,.func (Ga x qual (be st) (aO st) (af st) dV kV doc pm an cdv ct),osl⟩)
  (c:Gy K cdv qual=true)
  (h:∀ (kV doc pm:Value) (an:Option Addr) (cdv ct:Value) (us:List Value),us.length=ps.length->bindArgs (Ga x qual (be st) (aO st) (af st) dV kV doc pm an cdv ct) ⟨us,[]⟩=pure (ps.zip us)):
  Mf K x qual st ps f (Ga x qual (be st) (aO st) (af st) dV kV doc pm an cdv ct):=⟨⟨oc,od,dV,kV,doc,pm,an,cdv,ct,osl,rfl,l,c⟩,.all (h kV doc pm an cdv ct)⟩
theorem Mf.okL {x qual:Str}{st:Stmt}{f:Addr}{fd:FuncData}{ps:List Str}{sp:Sp}(N:List Str)(k:Nat)(d:Mf K x qual st ps f fd)(S:FnScope N ps (af st))(len:∀ vs H Q E,sp vs H Q E->vs.length=ps.length)
  (hbody:∀ (cdv:Value) (A:Around) (outer:List Gg) (s:Shared) (H:Hp) (vs:List V) (Q:VK) (E:XK) (hr:Room k (A.deeper (envOfC qual (af st) s.heap.objs.size f cdv))),sp vs H Q E ->
   ∃ t,PSs (cK CX P w K mg base N qual (af st) f cdv A outer s H E) (aO st) t/\t { nx:=λ _ H'=>Q .non H',rt:=Q } (L2.start N vs) H):FnOk P w K mg base CX (k+1) f fd ps sp:=by
 obtain⟨oc,od,dV,kV,doc,pm,an,cdv,ct,osl,rfl,lk,hcd⟩:=d.ex;exact p9 lk hcd S len λ A outer s H vs Q E hr hsp=>hbody cdv A outer s H vs Q E hr hsp
theorem Df.okL {x:Str}{st:Stmt}{f:Addr}{fd:FuncData}{ps:List Str}{sp:Sp}(N:List Str)(k:Nat)(d:Df K mg x st ps f fd)(S:FnScope N ps (af st))(len:∀ vs H Q E,sp vs H Q E->vs.length=ps.length)
  (hbody:∀ (cdv:Value) (A:Around) (outer:List Gg) (s:Shared) (H:Hp) (vs:List V) (Q:VK) (E:XK) (hr:Room k (A.deeper (envOfC x (af st) s.heap.objs.size f cdv))),sp vs H Q E ->
   ∃ t,PSs (cK CX P w K mg base N x (af st) f cdv A outer s H E) (aO st) t/\t { nx:=λ _ H'=>Q .non H',rt:=Q } (L2.start N vs) H):FnOk P w K mg base CX (k+1) f fd ps sp:=by
 obtain⟨oc,od,dV,kV,doc,pm,an,cdv,ct,osl,rfl,lk,hcd⟩:=d.ex;exact p9 lk hcd S len λ A outer s H vs Q E hr hsp=>hbody cdv A outer s H vs Q E hr hsp
end
theorem pN:∀ {ds:List D} {ns:List Int},Dv.intsOf ds=some ns->ds=ns.map .int
 | [],ns,h=>by simp[Dv.intsOf] at h;subst h;rfl
 | d::r,ns,h=>by
  cases d with
  | int i=>
   simp only[Dv.intsOf,Eg] at h;obtain⟨ms,h1,rfl⟩:=h;rw[pN h1];rfl
  | _=>simp[Dv.intsOf] at h
theorem A8 {d:D}{w:Wy}(h:Dv.deW d=some w):d=w.d:=by
 unfold Dv.deW at h
 split at h
 ·split at h
  ·rename_i s ps ns hn
   cases h;rw[pN hn];rfl
  ·cases h
 ·cases h
theorem p0:∀ {ds:List D} {l:List Wy},Dv.deWL ds=some l->ds=l.map Wy.d
 | [],l,h=>by simp[Dv.deWL] at h;subst h;rfl
 | d::r,l,h=>by
  unfold Dv.deWL at h
  split at h
  ·rename_i w ws h1 h2
   cases h;rw[A8 h1,p0 h2];rfl
  ·cases h
theorem u7 {d:D}{l:List Wy}(h:Dv.deL d=some l):d=Dv.wyL l:=by
 unfold Dv.deL at h
 split at h
 ·rw[p0 h];rfl
 ·cases h
theorem qd:∀ {ds:List D} {l:List (List Wy)},Dv.deLL ds=some l->ds=l.map Dv.wyL
 | [],l,h=>by simp[Dv.deLL] at h;subst h;rfl
 | d::r,l,h=>by
  unfold Dv.deLL at h
  split at h
  ·rename_i w ws h1 h2
   cases h;rw[u7 h1,qd h2];rfl
  ·cases h
theorem wI {d:D}{l:List (List Wy)}(h:Dv.deWs d=some l):d=Dv.wysD l:=by
 unfold Dv.deWs at h
 split at h
 ·rw[qd h];rfl
 ·cases h
def OkP (K:F5)(CW CC:Addr)(cls:String->Value)(Hv H:Hp)(r:PR)(Q:VK)(E:XK):Prop:=match r with
 | .exc c=>∀ Hv' H',Ext Hv H Hv' H'->E (cls c) none H'
 | .bad=>False
 | .ok wys laid=>∀ a wl rl an Hs' H',WkAt K CW CC Hs' H' H a wl rl an (Dv.w0 wys laid)->Bs Hv H Hs' H'->Q (.ref a) H'
def ub (K:F5)(CW CC:Addr)(cls:String->Value)(F:List D->PR)(n:Nat):Sp:=λ vs H Q E=>∃ (ds:List D) (Hv:Hp),ds.length=n/\Same Hv H/\RpL K Hv ds vs/\OkP K CW CC cls Hv H (F ds) Q E
theorem wm {K:F5}{CW CC:Addr}{cls:String->Value}{F:List D->PR}{n:Nat}(vs:List V)(H:Hp)(Q:VK)(E:XK)(h:ub K CW CC cls F n vs H Q E):vs.length=n:=by
 obtain⟨ds,Hv,h1,_,h3,_⟩:=h;rw[h3.length];exact h1
theorem mI {K:F5}{Hv:Hp}{ds:List D}{vs:List V}{N:List Str}(r:RpL K Hv ds vs):EnvR K Hv (ds.map some) (L2.start N vs):=λ i d h=>by
 rw[Dc] at h;cases q:ds[i]? with
 | none=>rw[q] at h;cases h
 | some d'=>
  rw[q] at h;cases h;obtain⟨v,h1,h2⟩:=r.get q;exact⟨v,kF h1,h2⟩
theorem sS {K:F5}{CW CC:Addr}{Hv H Hv2 H2:Hp}{wa lb:Addr}{wys:List (List Wy)}{laid:List Wy}{Q:VK}{E:XK}(x2:Ext Hv H Hv2 H2)(r1:Rp K Hv2 (Dv.wysD wys) (.ref wa))(r2:Rp K Hv2 (Dv.wyL laid) (.ref lb))
  (h:∀ a wl rl an Hs' H',WkAt K CW CC Hs' H' H a wl rl an (Dv.w0 wys laid)->Bs Hv H Hs' H'->Q (.ref a) H'):
  ∀ x dx,H2 x=none->H2 dx=none->dx≠x->pj K CW CC (.ref x::([.ref wa,.ref lb]++[])) (upd (upd H2 dx (.own x)) x (.ins CW dx [])) (λ v H3=>v=.non/\Q (.ref x) H3) E:=by
 intro x dx hx hdx hne;have s1:∀ {Ha:Hp},Same Ha H2->Same Ha (upd (upd H2 dx (.own x)) x (.ins CW dx [])):=λ {Ha} s b o e=>by
  rw[ah (ax e (s.free hx)),ah (ax e (s.free hdx))];exact s b o e
 refine⟨x,dx,wa,lb,Hv2,H,wys,laid,rfl,aq,s1 x2.vh,x2.vh.free hx,s1 x2.hh,x2.hh.free hx,r1,r2,λ Hs' H' wl rl an W S=>⟨rfl,h x wl rl an Hs' H' W ⟨x2.vv.trans S.ss,λ b o q n=>?_,λ b o u q z=>?_⟩⟩⟩
 ·cases q2:Hv2 b with
  | some u=>exact x2.new b u q2 n
  | none=>
   have h3:=S.nw b o q q2;obtain⟨_,h4⟩:=bc h3;obtain⟨_,h5⟩:=bc h4;exact x2.hh.free h5
 ·have z2:=S.fz b o u z
  by_cases e:b=x
  ·subst e;rw[aq] at z2;cases z2
  rw[ah e] at z2;by_cases e2:b=dx
  ·subst e2;rw[aq] at z2;cases z2
  rw[ah e2] at z2;exact x2.nf b o u q z2
theorem ye {C:Ctx}{CW CC:Addr}{E:XK}{tw tl:TE}{fw fl:EE}{N:List Str}{n:Nat}{vs:List V}{H:Hp}{Q:VK}(hW:∀ σ,C.W σ=E)(qw:Tak C tw fw)(ql:Tak C tl fl)(h:ub C.X.K CW CC C.cls (Dv.pwR fw fl) n vs H Q E):
  my (qo CW (pj C.X.K CW CC) [] E (bg tw (bg tl cg))) { nx:=λ _ H'=>Q .non H',rt:=Q } (L2.start N vs) H:=by
 obtain⟨ds,Hv,hl,sv,rp,ok⟩:=h;unfold Dv.pwR at ok;refine qw _ H Hv (ds.map some) _ (mI rp) sv ?_
 rw[hW];cases hf:fw (ds.map some) with
 | bad=>simp only[hf] at ok;exact ok
 | exc c=>simp only[hf] at ok;exact ok
 | ok dw fr=>
  simp only[hf] at ok;intro v1 Hv1 H1 x1 rp1 nn1;refine ql _ H1 Hv1 (ds.map some) _ (mI (rp.same x1.vv)) x1.vh ?_
  rw[hW];cases hg:fl (ds.map some) with
  | bad=>simp only[hg] at ok;exact ok
  | exc c=>simp only[hg] at ok;exact λ Hv' H' y=>ok Hv' H' (x1.trans y)
  | ok dl fr2=>
   simp only[hg] at ok;intro v2 Hv2 H2 x2 rp2 nn2
   split at ok
   ·rename_i wys laid h1 h2
    rw[wI h1] at rp1;rw[u7 h2] at rp2;have rp1':=rp1;have rp2':=rp2;unfold Dv.wysD Rp at rp1';obtain⟨wa,_,rfl,_,_⟩:=rp1';obtain⟨lb,_,rfl,_,_⟩:=oi rp2';exact sS (x1.trans x2) (rp1.same x2.vv) rp2 ok
   ·exact Zf ok
open PySem PySem.W PyProof.Rows
def ev {α:Type}(c:Nat->Nat->Bool):KasT α->α
 | .ret a=>a
 | .ask i j k=>ev c (k (c i j))
section
variable {key:Nat->Int}{n:Nat}
def Pm (n:Nat)(p:Array Nat):Prop:=p.size=n/\p.toList.Perm (List.range n)
theorem Pm.lt {p:Array Nat}(h:Pm n p){k:Nat}(hk:k<n):p.getD k 0<n:=by
 have hs:k<p.size:=by rw[h.1];exact hk
 have e:p.getD k 0=p[k]:=by simp[Array.getD,hs]
 rw[e];have:p[k]∈p.toList:=by simp
 exact List.mem_range.mp (h.2.mem_iff.mp this)
end
open PySem PySem.W PySem.Calls PyProof.Rows
end Sd
namespace Dv
theorem lex_irr:∀ a:List Int,lexLt a a=false
 | []=>rfl
 | x::a=>by simp[lexLt,lex_irr a]
theorem lP:∀ {a b:List Int},lexLt a b=false->lexLt b a=false->a=b
 | [],[],_,_=>rfl
 | [],_::_,h,_=>by simp[lexLt] at h
 | _::_,[],_,h=>by simp[lexLt] at h
 | x::a,y::b,h,g=>by
  simp only[lexLt] at h g;by_cases e:x=y
  ·subst e
   simp only[if_true] at h g;rw[lP h g]
  ·rw[if_neg e] at h
   rw[if_neg (Ne.symm e)] at g;simp at h g;omega
theorem lex_trans:∀ {a b c:List Int},lexLt a b=true->lexLt b c=true->lexLt a c=true
 | [],[],_,h,_=>by simp[lexLt] at h
 | [],_::_,[],_,g=>by simp[lexLt] at g
 | [],_::_,_::_,_,_=>rfl
 | _::_,[],_,h,_=>by simp[lexLt] at h
 | _::_,_::_,[],_,g=>by simp[lexLt] at g
 | x::a,y::b,z::c,h,g=>by
  simp only[lexLt] at h g ⊢;by_cases e1:x=y
  ·subst e1
   simp only[if_true] at h;by_cases e2:x=z
   ·subst e2
    simp only[if_true] at g ⊢;exact lex_trans h g
   ·rw[if_neg e2] at g ⊢;exact g
  ·rw[if_neg e1] at h
   simp at h;by_cases e2:y=z
   ·subst e2
    rw[if_neg e1];simpa using h
   ·rw[if_neg e2] at g
    simp at g;rw[if_neg ⋯];simp;omega
def lexLe (a b:List Int):Prop:=lexLt b a=false
theorem le_trans {a b c:List Int}(h:lexLe a b)(g:lexLe b c):lexLe a c:=by
 unfold lexLe at *;cases q:lexLt c a with
 | false=>rfl
 | true=>
  by_cases e:lexLt a b=true
  ·rw[lex_trans q e] at g;cases g
  ·have:a=b:=lP (by simpa using e) h
   subst this;rw[q] at g;cases g
theorem lt_le {a b:List Int}(h:lexLt a b=true):lexLe a b:=by
 unfold lexLe;cases q:lexLt b a with
 | false=>rfl
 | true=>have:=lex_trans h q;rw[lex_irr] at this;cases this
def oH (x:List Int):List (List Int)->List (List Int)
 | []=>[x]
 | y::r=>if lexLt y x then y::oH x r else x::y::r
def lsort:List (List Int)->List (List Int)
 | []=>[]
 | x::r=>oH x (lsort r)
theorem g7 (x:List Int):∀ l,(oH x l).Perm (x::l)
 | []=>.refl _
 | y::r=>by
  unfold oH
  split
  ·exact((g7 x r).cons y).trans (.swap x y r)
  ·exact .refl _
theorem lsort_perm:∀ l,(lsort l).Perm l
 | []=>.refl _
 | x::r=>(g7 x _).trans ((lsort_perm r).cons x)
theorem iD (x:List Int):∀ l,l.Pairwise lexLe->(oH x l).Pairwise lexLe
 | [],_=>by simp[oH]
 | y::r,h=>by
  unfold oH;have h':=List.pairwise_cons.mp h
  split
  ·rename_i q
   refine List.pairwise_cons.mpr ⟨λ z hz=>?_,iD x r h'.2⟩
   rcases List.mem_cons.mp ((g7 x r).mem_iff.mp hz) with rfl|hz
   ·exact lt_le q
   ·exact h'.1 z hz
  ·rename_i q
   have q':lexLe x y:=by unfold lexLe;simpa using q
   refine List.pairwise_cons.mpr ⟨λ z hz=>?_,h⟩
   rcases List.mem_cons.mp hz with rfl|hz
   ·exact q'
   ·exact le_trans q' (h'.1 z hz)
theorem lsort_sorted:∀ l,(lsort l).Pairwise lexLe
 | []=>.nil
 | x::r=>iD x _ (lsort_sorted r)
theorem sorted_one:∀ {a b:List (List Int)},a.Perm b->a.Pairwise lexLe->b.Pairwise lexLe->a=b
 | [],b,p,_,_=>by simpa using p.symm.eq_nil
 | x::a,[],p,_,_=>absurd p.eq_nil (by simp)
 | x::a,y::b,p,ha,hb=>by
  have h1:=List.pairwise_cons.mp ha;have h2:=List.pairwise_cons.mp hb;have e:x=y:=by
   have hx:x∈y::b:=p.mem_iff.mp CS;have hy:y∈x::a:=p.mem_iff.mpr CS
   rcases List.mem_cons.mp hx with e|hx
   ·exact e
   rcases List.mem_cons.mp hy with e|hy
   ·exact e.symm
   exact lP (h2.1 x hx) (h1.1 y hy)
  subst e;rw[sorted_one ((FU x).mp p) h1.2 h2.2]
end Dv
namespace Sd
open PySem PySem.Spec PySem.W PySem.Calls PyProof.Rows L2
open Dv (D R RL EE EL EI RI Sl Out SS)
open PySem PySem.Spec PyProof.Rows L2
open Dv (D R RL EE EL EI RI Sl Out SS Wy An Cs Ws WR Wk PR)
section
variable {C:Ctx}{a b c e k:Expr}{f g h:EE}{pos:Pos}
theorem zy:OpR C.X (compareOp .In) (λ x y H Q=>∃ a o,y=.ref a/\nX H a x o/\Q (.bl o.isSome) H):=by
 intro pins s σ H x y v u Q I rx ry h;obtain⟨a,o,rfl,g,q⟩:=h;obtain rfl:u=Gh a:=ry;exact Ct (nk C) I g rx λ s3 I3=>⟨.bl o.isSome,H,I3,rfl,q⟩
theorem zQ:OpS C (compareOp .In) Dv.dinD:=by
 refine⟨_,zy,λ x y d d' H Hv H1 Hv1 W Q e rx ry q=>?_⟩;cases d with
 | int j=>
  cases d' with
  | dct ks ds=>
   unfold Rp at rx;have ry':=ry;unfold Rp at ry';obtain⟨a,vs,rfl,hl,h1,h2⟩:=ry';cases hk:Dv.look ks ds j with
   | none=>
    have q:Ok C.X.K Hv H W C.cls (.ok (.bl false) true) Q:=by have:=q;simp only[Dv.dinD,hk] at this;exact this
    refine⟨a,none,rfl,.inl ⟨_,Sum.inl j,Rd.same e.vh h1,rx,(gU hl h2 hk).symm⟩,?_⟩;exact q.at (v:=.bl (none:Option V).isSome) e cn rfl
   | some d0=>
    have q:Ok C.X.K Hv H W C.cls (.ok (.bl true) true) Q:=by have:=q;simp only[Dv.dinD,hk] at this;exact this
    obtain⟨v0,e1,e2⟩:=bU h2 hk;refine⟨a,some v0,rfl,.inl ⟨_,Sum.inl j,Rd.same e.vh h1,rx,e1.symm⟩,?_⟩;exact q.at (v:=.bl (some v0).isSome) e cn rfl
  | _=>exact Zf q
 | _=>exact Zf q
theorem Ax (ha:SE C a f)(hb:SE C b g)(hm:autoParam (behindInMarks .In b=false) ZL._auto_1):SC C (.Compare a [.In] [b] pos) (Dv.eB2 Dv.dinD f g):=dj zQ ha hb hm
theorem hZ {R:Prop}(h:SE C e f)(k:∀ t,PE C.X e t->Tak C t f->R):R:=let ⟨t,p,q⟩:=h;k t p q
end
theorem mT {P:Program}{w:World}{K:F5}{mg:Str->Option Value}{base:Heap}{N:List Str}{qual:Str}{scope:Scope}{f:Addr}{cd:Value}{A:Around}{outer:List Gg}{s:Shared}{H:Hp}{E:XK}:
  g8 (CXe P w) (cK (CXe P w) P w K mg base N qual scope f cd A outer s H E) E:=λ pins σ H1 s1 e s' I h=>(cxe_ok (P:=P) (w:=w)).leave K mg base N qual scope f cd A outer s H E pins σ H1 s1 e s' I h
end Sd
namespace Dv
def barC:List Nat:=[98,97,114,114,101,100]
def staC:List Nat:=[115,116,97,114,116,115]
def rowsD (w:Ws):D:=.lst (w.rows.map λ p=>.tup [.int p.1,.lst (((w.sto[p.2]?).getD []).map An.d)])
def sSought (k:Wk)(F:List D->PR)(a:EL)(i j:Nat):SS:=λ st=>if decide (i<st.length)&&decide (j<st.length) then match a (all st) with
 | .bad=>.bad
 | .exc c=>.exc c st
 | .ok ds _=>match F ds with
  | .bad=>.bad
  | .exc c=>.exc c st
  | .ok wys laid=>match firstGo k 2002 (w0 wys laid) with
   | .bad=>.bad
   | .many=>.exc "TooMany" (st.set i .no)
   | .full _ d _=>match d with
    | .lst es=>.ret (.tup [.str staC,.lst es]) false
    | _=>.bad
   | .row w=>.ret (.tup [.str barC,rowsD w]) false
 else .bad
def eqSD:D->D->R
 | .lst a,.str _=>if decide (depthL a<=8) then .ok (.bl false) true else .bad
 | a,b=>cmD .eq a b
def sBrk:SS:=λ st=>.brk st
end Dv
namespace Sd
open PySem PySem.Spec PyProof.Rows L2
open Dv (D R RL EE EL EI RI Sl Out SS Wy An Cs Ws WR Wk PR)
def Bb:Str:="barred"
def zm:Str:="starts"
theorem lY {x:Str}{l:List Nat}(h:x.cps.toList=Dv.clipS l):x=⟨(Dv.clipS l).toArray⟩:=by
 cases x;simp only at h;rw[<- h]
theorem zL:xJ=⟨(Dv.clipS Dv.twiC).toArray⟩:=lY (by decide +kernel)
theorem A0:xk=⟨(Dv.clipS Dv.rowC).toArray⟩:=lY (by decide +kernel)
theorem Ao:Bb=⟨(Dv.clipS Dv.barC).toArray⟩:=lY (by decide +kernel)
theorem zo:zm=⟨(Dv.clipS Dv.staC).toArray⟩:=lY (by decide +kernel)
section
variable {K:F5}{CW CC:Addr}{Hs H H₀:Hp}{a wl rl:Addr}{an:List Addr}{w:Ws}
theorem oM {Hv:Hp}{α:Type}{f:α->D}{F:α->V->Prop}(q:∀ x v,F x v->Rp K Hv (f x) v):∀ {l:List α} {vs:List V},Paired F l vs->RpL K Hv (l.map f) vs
 | _,_,.nil=>by unfold RpL;rfl
 | _,_,.cons h t=>by rw[CN];exact .cons (q _ _ h) (oM q t)
theorem BJ {Hv:Hp}(s:Same Hs Hv){x:An}{v:V}(h:AnAt Hs H₀ x v):Rp K Hv x.d v:=by
 cases x with
 | non=>unfold An.d Rp;exact h
 | twi p=>
  obtain⟨q,h1,h2,_⟩:=h;unfold An.d Rp;exact⟨q,_,h1,.inl (s _ _ h2),.cons (by unfold Rp;rw[zL]) (.cons (by unfold Rp;rfl) .nil)⟩
 | row p=>
  obtain⟨q,h1,h2,_⟩:=h;unfold An.d Rp;exact⟨q,_,h1,.inl (s _ _ h2),.cons (by unfold Rp;rw[A0]) (.cons (by unfold Rp;rfl) .nil)⟩
theorem WkAt.rowsRp {Hv:Hp}(W:WkAt K CW CC Hs H H₀ a wl rl an w)(s:Same Hs Hv)(e:∀ b,H₀ b=none->Hv b=H b):Rp K Hv (Dv.rowsD w) (.ref rl):=by
 obtain⟨vs,h1,h2⟩:=W.row;unfold Dv.rowsD Rp;refine⟨rl,vs,rfl,SqX.of (by rw[e rl (W.no rl (by simp)).2];exact h1),oM (F:=RowAt Hs H₀ an) (λ p v hp=>?_) h2⟩;obtain⟨r,b,rfl,g2,_,g4⟩:=hp;unfold Rp;refine⟨r,_,rfl,.inl (s _ _ g2),.cons (by unfold Rp;rfl) (.cons ?_ .nil)⟩;have hb:b∈an:=DI g4;have hl:=W.sto.length;have hi:p.2<w.sto.length:=by rw[hl];exact(List.getElem?_eq_some_iff.mp g4).1
 obtain⟨b',k1,ys,k2,k3⟩:=Paired.gets W.sto (Dg hi);rw[g4] at k1;cases k1;rw[Dg hi];unfold Rp;exact⟨b,ys,rfl,SqX.of (by rw[e b (W.no b (by simp[hb])).2];exact k2),oM (F:=AnAt Hs H₀) (λ x v hx=>BJ s hx) k3⟩
end
section
variable {C:Ctx}{pos:Pos}
def CB (K:F5):R2:=λ x y H Q=>∃ d d',Rp K H d x/\Rp K H d' y/\Dv.depthD d<=9/\Dv.depthD d'<=9/\Q (.bl (Gu (pd d) (pd d'))) H
theorem zH (hu:C.X.A.units+64<cLine):OpR C.X (compareOp .Eq) (CB C.X.K):=by
 intro pins s σ H x y v u Q I rx ry h;obtain⟨d,d',h1,h2,z1,z2,q⟩:=h;obtain⟨as,ra⟩:=bQ I d x v h1 rx z1;obtain⟨bs,rb⟩:=bQ I d' y u h2 ry z2;refine HK ra rb (cN d) (cN d') ?_ ⟨.bl _,H,I,rfl,q⟩
 have:=cF d;have:=cF d';have:=EJ (pd d).depth (pd d').depth;omega
theorem zT:OpS C (compareOp .Eq) Dv.eqSD:=by
 refine⟨_,zH C.un,λ x y d d' H Hv H1 Hv1 W Q e rx ry q=>?_⟩;unfold Dv.eqSD at q
 split at q
 ·rename_i a t
  split at q
  ·rename_i hz
   simp only[decide_eq_true_eq] at hz;refine⟨_,_,rx.same e.vh,ry.same e.vh,by unfold Dv.depthD;omega,by simp[Dv.depthD],?_⟩;have:Gu (pd (.lst a)) (pd (.str t))=false:=by simp[pd,Gu]
   rw[this];exact Ok.at (d:=.bl false) (fr:=true) q e cn rfl
  ·exact Zf q
 ·simp only[Dv.cmD_eq,Dv.cmD_ne,Dv.cmD_lt,Dv.cmD_le,Dv.cmD_gt,Dv.cmD_ge,Dv.cmD_in,Dv.cmD_ni,Dv.cmD_it,Dv.cmD_nt] at q
  by_cases hz:(decide (Dv.depthD d<=9)&&decide (Dv.depthD d'<=9))=true
  ·rw[if_pos hz] at q
   simp only[C3,decide_eq_true_eq] at hz;cases he:Dv.eqD d d' with
   | none=>rw[he] at q;exact Zf q
   | some b=>
    rw[he] at q;refine⟨d,d',rx.same e.vh,ry.same e.vh,hz.1,hz.2,?_⟩;rw[ia _ _ _ he];exact Ok.at (d:=.bl b) (fr:=true) q e cn rfl
  ·rw[if_neg hz] at q;exact Zf q
theorem uC {a b:Expr}{f g:EE}(ha:SE C a f)(hb:SE C b g):SE C (.Compare a [.Eq] [b] pos) (Dv.eB2 Dv.eqSD f g):=n8 zT ha hb (nomark _)
theorem uW:SSt C (.Break pos) Dv.sBrk:=⟨_,ue,λ Hv₀ H₀ E σ H st r q=>q σ H r⟩
theorem rm {CW CC:Addr}{k:Wk}{F:List D->PR}{e:Expr}{es:List Expr}{fl:EL}{m jF jP iw is:Nat}{fF fP:Addr}{fdF fdP:FuncData}{sF sP:Stmt}{ps:List Str}{xF xP xw:Str}{pF pP pw posF posP:Pos}{s1 s2 s3 s4:Stmt}
  (T:WkT C.X.K CW CC)
  (dF:Df C.X.K C.X.mg xF sF ["walk"] fF fdF) (oF:FnOk C.X.prog C.X.w C.X.K C.X.mg C.X.base C.CX jF fF fdF ["walk"] (gE C.X.K CW CC C.cls k)) (dP:Df C.X.K C.X.mg xP sP ps fP fdP) (oP:FnOk C.X.prog C.X.w C.X.K C.X.mg C.X.base C.CX jP fP fdP ps (ub C.X.K CW CC C.cls F ps.length))
  (hr:Room m C.X.A) (hjF:jF<=m) (hjP:jP<=m) (hgF:Gl C.X xF) (hgP:Gl C.X xP) (ha:SL C (e::es) fl)
  (hv:PE C.X (.Name xw pw) (bo iw))
  (h1:∀ t,PE C.X (.Call (.Name xP pP) (e::es) [] posP) t->PS C.X s1 (jR t (dS iw))) (h2:∀ t,PE C.X (.Call (.Name xF pF) [.Name xw pw] [] posF) t->PS C.X s2 (jR t (dS is)))
  (h3:PS C.X s3 (rM (tB (BD (bo is))) (my (tj (bg (tC (.str Bb)) (bg (gQ C.X.K (bo iw) "rows") cg)))) ny))
  (h4:PS C.X s4 (my (tj (bg (tC (.str zm)) (bg (bo is) cg)))))
  (hne:iw≠is)
  (hlen:autoParam ((e::es).length=ps.length) ZF._auto_1) (hdF:autoParam ((xF == ("__debug__":Str))=false) ZC._auto_1) (hdP:autoParam ((xP == ("__debug__":Str))=false) ZC._auto_1)
  (heF:autoParam (starEach [.Name xw pw] C.X.env=(false,eval (.Name xw pw) C.X.env)::starEach [] C.X.env) ZF._auto_1) (hplF:autoParam ((backTo posF (starEach [] C.X.env)).any (·.1)=false) ZF._auto_1)
  (heP:autoParam (starEach (e::es) C.X.env=(false,eval e C.X.env)::starEach es C.X.env) ZF._auto_1) (hplP:autoParam ((backTo posP (starEach es C.X.env)).any (·.1)=false) ZF._auto_1):
  SSs C [s1,s2,s3,s4] (Dv.sSought k F fl iw is):=by
 obtain⟨t,pa,qa,hl⟩:=ha;refine⟨_,aN (h1 _ (ju (W:=C.W) (oP.mono hjP) hr hgP dP.m dP.kp dP.bd .nil C.pass pa hdP heP hplP)) (aN (h2 _ (ju (W:=C.W) (oF.mono hjF) hr hgF dF.m dF.kp dF.bd .nil C.pass (av hv aF heF) hdF heF hplF)) (aN h3 (bz h4))),λ Hv₀ H₀ E σ H st ⟨Hc,O,r⟩ w=>?_⟩;unfold Dv.sSought at w;by_cases hlw:(decide (iw<st.length)&&decide (is<st.length))=true
 case neg=>rw[if_neg hlw] at w;exact Zf w
 rw[if_pos hlw] at w;simp only[C3,decide_eq_true_eq,r.len] at hlw;obtain⟨lw,ls⟩:=hlw;refine qa σ H (ff Hc O H) (Dv.all st) _ r.envAll r.allH ?_
 cases hf:fl (Dv.all st) with
 | bad=>rw[hf] at w;exact w
 | exc c=>rw[hf] at w;exact λ Hv' H' x=>w σ H' ⟨Hc,O,r.grow x.hh x.nf⟩
 | ok ds fr=>
  simp only[hf] at w;intro vs Hv1 H1 x1 rp _;refine⟨ds,Hv1,by rw[hl _ ds fr hf];exact hlen,x1.vh,by rw[DT];exact rp,?_⟩;cases hF:F ds with
  | exc c=>simp only[hF] at w;exact λ Hv' H' y=>w σ H' ⟨Hc,O,r.grow (x1.trans y).hh (x1.trans y).nf⟩
  | bad=>simp only[hF] at w;exact w
  | ok wys laid=>
   simp only[hF] at w;intro a wl rl an Hs H2 W B;have g1:(σ.set iw (some (V.ref a)))[iw]?=some (some (V.ref a)):=Dp lw
   refine⟨_,g1,a,wl,rl,an,Hs,H1,_,rfl,W,?_⟩;cases hG:Dv.firstGo k 2002 (Dv.w0 wys laid) with
   | bad=>simp only[hG] at w;exact w
   | many=>
    simp only[hG] at w
    rintro Hs' H' an' ⟨w',W'⟩ S'
    obtain⟨Hv2,x2,_⟩:=(B.stp W.oh S').fin W'.oh W'.sv;exact w _ H' ⟨Hc,O,(r.grow (x1.trans x2).hh (x1.trans x2).nf).setNo⟩
   | full w' d fr0=>
    simp only[hG] at w;cases d with
    | lst es0=>
     simp only at w;intro v Hs' H' an' W' S' rp2 _;obtain⟨Hv2,x2,s2,a2⟩:=(B.stp W.oh S').fin W'.oh W'.sv;have rp3:=rp2;unfold Rp at rp3;obtain⟨p,pvs,rfl,_,_⟩:=rp3;have g2:((σ.set iw (some (V.ref a))).set is (some (V.ref p)))[is]?=some (some (V.ref p)):=Dp (by rw[Dk];exact ls)
     refine⟨_,g2,_,rfl,?_⟩;refine j0 (by simp) ?_
     refine⟨_,g2,(by show 2<=sizeLine;decide),λ q hq=>?_⟩;have x3:=Ext.new1 x2.vh hq (.tup [.str zm,.ref p]);obtain⟨Hv3,x4,s4⟩:=r.ret ((x1.trans x2).trans x3);refine w (.ref q) Hv3 _ x4 (Rp.same s4 ?_) (by intro z;cases z);unfold Rp;exact⟨q,_,rfl,.inl aq,.cons (by unfold Rp;rw[zo]) (.cons ((rp2.same s2).same x3.vv) .nil)⟩
    | _=>exact Zf w
   | row w'=>
    simp only[hG] at w;intro Hs' H' an' W' S';obtain⟨Hv2,x2,s2,a2⟩:=(B.stp W.oh S').fin W'.oh W'.sv;have g2:((σ.set iw (some (V.ref a))).set is (some V.non))[is]?=some (some V.non):=Dp (by rw[Dk];exact ls)
    refine⟨_,g2,_,rfl,?_⟩;refine gK (by simp) ?_
    have g3:((σ.set iw (some (V.ref a))).set is (some V.non))[iw]?=some (some (V.ref a)):=by rw[DB (Ne.symm hne)];exact g1
    obtain⟨dx,wa,hA,_⟩:=W'.slf;refine⟨_,g3,a,CW,dx,_,_,rfl,hA,T.clW,T.nRows,lz,(by show 2<=sizeLine;decide),λ q hq=>?_⟩;have x3:=Ext.new1 x2.vh hq (.tup [.str Bb,.ref rl]);obtain⟨Hv3,x4,s4⟩:=r.ret ((x1.trans x2).trans x3);refine w (.ref q) Hv3 _ x4 (Rp.same s4 ?_) (by intro z;cases z);unfold Rp;exact⟨q,_,rfl,.inl aq,.cons (by unfold Rp;rw[Ao]) (.cons ((W'.rowsRp s2 a2).same x3.vv) .nil)⟩
end
open Dv (D R)
structure Fo (P:Program)(w:World)(K:F5)(mg:Str->Option Value)(base:Heap)(n:Str)(st:Stmt)(ps:List Str)(k:Nat)(S:Sp) where
 f:Addr
 fd:FuncData
 d:Df K mg n st ps f fd
 o:FnOk P w K mg base (CXe P w) k f fd ps S
abbrev Fu (n:Str)(st:Stmt)(ps:List Str)(k:Nat)(F:List D->R)(m:Nat)(P:Program)(w:World)(K:F5)(mg:Str->Option Value)(base:Heap)(ad:String->Option Addr):=Fo P w K mg base n st ps k (spD K (aG ad) F m)
abbrev hD (K:F5)(n:Str)(s:Stmt):Prop:=∃ (f:Addr) (oc:Value) (od:Option Addr) (kV dc pm:Value) (an:Option Addr) (cd ct:Value) (sl:Array (Option Value)),Gb K mainGlobals n=some (some (.ref f)) /\
 K.lookup f=some ⟨oc,od,.func (Ga n n (be s) (aO s) (af s) .none kV dc pm an cd ct),sl⟩/\Gy K cd n=true/\Gn K (.ref f)=true
theorem dfE {K:F5}{h:Heap}{mg:Str->Option Value}{n:Str}{st:Stmt}{ps:List Str}(X:K.In h)(G:h.Ns mainGlobals mg)(q:hD K n st)
  (b:∀ (kV doc pm:Value) (an:Option Addr) (cdv ct:Value) (us:List Value),us.length=ps.length->bindArgs (Ga n n (be st) (aO st) (af st) .none kV doc pm an cdv ct) ⟨us,[]⟩=pure (ps.zip us)):∃ f fd,Df K mg n st ps f fd:=
 let ⟨f,_,_,_,_,_,_,_,_,_,a,l,c,k⟩:=q
 ⟨f,_,yL (Gk X G a) l c k b⟩
end Sd
namespace Cw
open Dv (eAnd eB1 eB2 eBl eCall eCm eComp eCompT eDict0 eDix eDnin eFld eIndex eInt eIx eLst eNeg eNot eOp eOr eSlice eStr eTup eVar iDown iEnum iRange iRange2 iSeq iZip lCons lNil sApp sAppG sAug sAugIx sBrk sCons sDMove sDPut sExpr sFor sForR sForT sIf sNil sPar sPut sRaise sRet sRetO sRetT sSet sSetD sSetG sSought sUnpack sUnpackL sWhile)
open Dv (D R)
def b_Q03:Dv.SS:=
 (sIf (eOr (eCm .lt (eVar 0) (eInt 1)) (eCm .gt (eVar 0) (eInt 60))) (sRaise "NoWheel") sNil)
def F_Q03:List D->R:=Dv.fn 1 b_Q03
def b_Q02_l1:Dv.SS:=
 (sCons (sIf (eOr (eCm .le (eVar 3) (eVar 2)) (eCm .ge (eVar 3) (eVar 1))) (sRaise "NoBeat") sNil) (sSetG [3] 2 (eVar 3)))
def b_Q02_t2:Dv.SS:=
 (sFor [0] 3 (iSeq (eVar 0)) b_Q02_l1)
def b_Q02_t1:Dv.SS:=
 (sCons (sSet 2 (eNeg (eInt 1))) b_Q02_t2)
def b_Q02:Dv.SS:=
 (sCons (sIf (eCm .eq (eB1 Dv.lenD (eVar 0)) (eInt 0)) (sRaise "NoBeat") sNil) b_Q02_t1)
def F_Q02:List D->R:=Dv.fn 4 b_Q02
def b_Q01_t1:Dv.SS:=
 (sExpr (eCall F_Q02 (lCons (eVar 1) (lCons (eVar 0) lNil))))
def b_Q01:Dv.SS:=
 (sCons (sExpr (eCall F_Q03 (lCons (eVar 0) lNil))) b_Q01_t1)
def F_Q01:List D->R:=Dv.fn 2 b_Q01
def b_Q0V:Dv.SS:=
 (sRet (eAnd (eB1 Dv.isIntD (eVar 0)) (eNot (eB1 Dv.isBoolD (eVar 0)))))
def F_Q0V:List D->R:=Dv.fn 1 b_Q0V
def b_Q0D_l1:Dv.SS:=
 (sIf (eOr (eNot (eCall F_Q0V (lCons (eVar 2) lNil))) (eCm .ne (eVar 2) (eVar 3))) (sRet (eBl false)) sNil)
def b_Q0D_t2:Dv.SS:=
 (sRet (eBl true))
def b_Q0D_t1:Dv.SS:=
 (sCons (sForT [0,1] (Dv.tupTo [2,3]) (iZip (eVar 0) (eVar 1)) b_Q0D_l1) b_Q0D_t2)
def b_Q0D:Dv.SS:=
 (sCons (sIf (eOr (eNot (eB1 Dv.isListD (eVar 0))) (eCm .ne (eB1 Dv.lenD (eVar 0)) (eB1 Dv.lenD (eVar 1)))) (sRet (eBl false)) sNil) b_Q0D_t1)
def F_Q0D:List D->R:=Dv.fn 4 b_Q0D
def b_Q0S_l1:Dv.SS:=
 (sCons (sSet 7 (eOp .mod (eOp .shr (eVar 3) (eVar 6)) (eInt 2))) (sCons (sIf (eCm .eq (eVar 4) (eInt 3)) (sSet 7 (eOp .mul (eVar 7) (eOp .mod (eOp .shr (eVar 3) (eOp .mod (eOp .add (eVar 6) (eInt 7)) (eInt 61))) (eInt 2)))) sNil) (sCons (sIf (eCm .eq (eVar 4) (eInt 4)) (sSet 7 (eB2 Dv.max2D (eVar 7) (eOp .mod (eOp .shr (eVar 3) (eOp .mod (eOp .add (eVar 6) (eInt 7)) (eInt 61))) (eInt 2)))) sNil) (sIf (eCm .eq (eVar 7) (eInt 1)) (sApp 5 (eVar 6)) sNil))))
def c_Q0U_1:Dv.EE:=(eComp (eOp .mod (eOp .add (eVar 0) (eVar 2)) (eVar 1)) (eBl true) [0,2] (iSeq (eVar 1)))
def b_Q0U:Dv.SS:=
 (sRet (eB1 Dv.sortedD c_Q0U_1))
def F_Q0U:List D->R:=Dv.fn 3 b_Q0U
def c_Q0B_1:Dv.EE:=(eComp (eOp .add (eVar 0) (eOp .mul (eVar 1) (eVar 2))) (eBl true) [4,0] (iSeq (eVar 1)))
def b_Q0B_l1:Dv.SS:=
 (sSet 3 (eOp .add (eVar 3) c_Q0B_1))
def b_Q0B_t2:Dv.SS:=
 (sRetO 3)
def b_Q0B_t1:Dv.SS:=
 (sCons (sFor [] 4 (iRange (eVar 2)) b_Q0B_l1) b_Q0B_t2)
def b_Q0B:Dv.SS:=
 (sCons (sSet 3 (eLst lNil)) b_Q0B_t1)
def F_Q0B:List D->R:=Dv.fn 5 b_Q0B
def c_Q0X_1:Dv.EE:=(eComp (eOp .mod (eVar 0) (eVar 1)) (eBl true) [0] (iSeq (eVar 1)))
def b_Q0X_t3:Dv.SS:=
 (sRetO 2)
def b_Q0X_t2:Dv.SS:=
 (sCons (sExpr (eCall F_Q01 (lCons (eVar 0) (lCons (eVar 2) lNil)))) b_Q0X_t3)
def b_Q0X_t1:Dv.SS:=
 (sCons (sSet 2 (eB1 Dv.sortedD c_Q0X_1)) b_Q0X_t2)
def b_Q0X:Dv.SS:=
 (sCons (sExpr (eCall F_Q03 (lCons (eVar 0) lNil))) b_Q0X_t1)
def F_Q0X:List D->R:=Dv.fn 3 b_Q0X
def c_Q17_1:Dv.EE:=(eComp (eOp .add (eVar 0) (eVar 1)) (eBl true) [2] (iSeq (eVar 1)))
def b_Q17_t1:Dv.SS:=
 (sRet (eCall F_Q0X (lCons (eVar 0) (lCons c_Q17_1 lNil))))
def b_Q17:Dv.SS:=
 (sCons (sExpr (eCall F_Q01 (lCons (eVar 0) (lCons (eVar 1) lNil)))) b_Q17_t1)
def F_Q17:List D->R:=Dv.fn 3 b_Q17
def b_Q0I_l1:Dv.SS:=
 (sCons (sSet 5 (eOp .mod (eVar 4) (eB1 Dv.lenD (eVar 2)))) (sIf (eOr (eCm .ge (eIx (eVar 2) (eVar 5)) (eOp .pow (eInt 10) (eInt 30))) (eCm .lt (eIx (eVar 2) (eVar 5)) (eOp .sub (eInt 0) (eOp .pow (eInt 10) (eInt 30))))) (sCons (sApp 3 (eOp .mod (eIx (eVar 2) (eVar 5)) (eOp .pow (eInt 10) (eInt 30)))) (sPut 2 (eVar 5) (eOp .fdiv (eIx (eVar 2) (eVar 5)) (eOp .pow (eInt 10) (eInt 30))))) (sCons (sSet 6 (eOp .mod (eOp .add (eOp .add (eOp .add (eOp .mul (eIx (eVar 2) (eVar 5)) (eInt 48271)) (eOp .mul (eOp .mul (eVar 4) (eVar 4)) (eInt 16807))) (eOp .mul (eInt 7919) (eVar 4))) (eInt 5)) (eInt 2147483647))) (sCons (sSet 7 (eOp .mod (eOp .add (eOp .mul (eVar 6) (eVar 6)) (eOp .mul (eVar 4) (eInt 39373))) (eInt 2147483629))) (sApp 3 (eOp .add (eOp .mul (eOp .mod (eOp .mul (eVar 6) (eVar 7)) (eInt 2147483587)) (eInt 2147483629)) (eVar 7)))))))
def b_Q0I_t3:Dv.SS:=
 (sRetO 3)
def b_Q0I_t2:Dv.SS:=
 (sCons (sFor [] 4 (iRange (eVar 1)) b_Q0I_l1) b_Q0I_t3)
def b_Q0I_t1:Dv.SS:=
 (sCons (sSet 3 (eLst lNil)) b_Q0I_t2)
def b_Q0I:Dv.SS:=
 (sCons (sSet 2 (eOp .add (eSlice (eVar 0) none (some (eInt 63))) (eOp .mul (eLst (lCons (eInt 0) lNil)) (eB1 Dv.intD (eCm .eq (eVar 0) (eLst lNil)))))) b_Q0I_t1)
def F_Q0I:List D->R:=Dv.fn 8 b_Q0I
def b_Q0H:Dv.SS:=
 (sRet (eIx (eVar 0) (eVar 1)))
def F_Q0H:List D->R:=Dv.fn 2 b_Q0H
def b_Q0J_l1:Dv.SS:=
 (sCons (sSet 6 (eOp .mod (eOp .add (eVar 4) (eVar 5)) (eVar 0))) (sPut 3 (eVar 6) (eOp .add (eIx (eVar 3) (eVar 6)) (eInt 1))))
def b_Q0J_l2:Dv.SS:=
 (sFor [1] 5 (iSeq (eVar 1)) b_Q0J_l1)
def b_Q0J_t2:Dv.SS:=
 (sRet (eCm .eq (eVar 3) (eOp .mul (eLst (lCons (eInt 1) lNil)) (eVar 0))))
def b_Q0J_t1:Dv.SS:=
 (sCons (sFor [2] 4 (iSeq (eVar 2)) b_Q0J_l2) b_Q0J_t2)
def b_Q0J:Dv.SS:=
 (sCons (sSet 3 (eOp .mul (eLst (lCons (eInt 0) lNil)) (eVar 0))) b_Q0J_t1)
def F_Q0J:List D->R:=Dv.fn 7 b_Q0J
def b_Q00_l1:Dv.SS:=
 (sPut 1 (eVar 2) (eInt 1))
def b_Q00_t3:Dv.SS:=
 (sRetO 1)
def b_Q00_t2:Dv.SS:=
 (sCons (sFor [0] 2 (iSeq (eVar 0)) b_Q00_l1) b_Q00_t3)
def b_Q00_t1:Dv.SS:=
 (sCons (sSet 1 (eOp .mul (eLst (lCons (eInt 0) lNil)) (eOp .add (eIx (eVar 0) (eNeg (eInt 1))) (eInt 1)))) b_Q00_t2)
def b_Q00:Dv.SS:=
 (sCons (sIf (eCm .eq (eB1 Dv.lenD (eVar 0)) (eInt 0)) (sRet (eLst lNil)) sNil) b_Q00_t1)
def F_Q00:List D->R:=Dv.fn 3 b_Q00
def b_Q19_l1:Dv.SS:=
 (sAug 1 .sub (eInt 1))
def b_Q19_t2:Dv.SS:=
 (sRet (eSlice (eVar 0) none (some (eVar 1))))
def b_Q19_t1:Dv.SS:=
 (sCons (sWhile 100000 (eAnd (eCm .gt (eVar 1) (eInt 0)) (eCm .eq (eIx (eVar 0) (eOp .sub (eVar 1) (eInt 1))) (eInt 0))) b_Q19_l1) b_Q19_t2)
def b_Q19:Dv.SS:=
 (sCons (sSet 1 (eB1 Dv.lenD (eVar 0))) b_Q19_t1)
def F_Q19:List D->R:=Dv.fn 2 b_Q19
def b_Q16_l1:Dv.SS:=
 (sAugIx 3 .sub (eOp .add (eVar 5) (eVar 6)) (eOp .mul (eIx (eVar 4) (eVar 5)) (eVar 7)))
def b_Q16_l2:Dv.SS:=
 (sCons (sPut 4 (eVar 5) (eIx (eVar 3) (eOp .add (eVar 5) (eVar 2)))) (sForT [1] (Dv.tupTo [6,7]) (iEnum (eVar 1)) b_Q16_l1))
def b_Q16_t5:Dv.SS:=
 (sRetT 4 (eCall F_Q19 (lCons (eSlice (eVar 3) none (some (eVar 2))) lNil)))
def b_Q16_t4:Dv.SS:=
 (sCons (sForR 5 (iDown (eOp .sub (eB1 Dv.lenD (eVar 4)) (eInt 1)) (eNeg (eInt 1))) b_Q16_l2) b_Q16_t5)
def b_Q16_t3:Dv.SS:=
 (sCons (sSet 4 (eOp .mul (eLst (lCons (eInt 0) lNil)) (eOp .sub (eB1 Dv.lenD (eVar 0)) (eVar 2)))) b_Q16_t4)
def b_Q16_t2:Dv.SS:=
 (sCons (sSet 3 (eB1 Dv.listD (eVar 0))) b_Q16_t3)
def b_Q16_t1:Dv.SS:=
 (sCons (sSet 2 (eOp .sub (eB1 Dv.lenD (eVar 1)) (eInt 1))) b_Q16_t2)
def b_Q16:Dv.SS:=
 (sCons (sIf (eOr (eCm .eq (eB1 Dv.lenD (eVar 1)) (eInt 0)) (eCm .ne (eIx (eVar 1) (eNeg (eInt 1))) (eInt 1))) (sRaise "NoPart") sNil) b_Q16_t1)
def F_Q16:List D->R:=Dv.fn 8 b_Q16
def c_Q05_1:Dv.EE:=(eComp (eVar 0) (eCm .eq (eOp .mod (eVar 1) (eVar 0)) (eInt 0)) [0] (iRange2 (eInt 1) (eOp .add (eVar 0) (eInt 1))))
def b_Q05_t1:Dv.SS:=
 (sRet c_Q05_1)
def b_Q05:Dv.SS:=
 (sCons (sIf (eOr (eCm .lt (eVar 0) (eInt 1)) (eCm .gt (eVar 0) (eInt 60))) (sRaise "NoPart") sNil) b_Q05_t1)
def F_Q05:List D->R:=Dv.fn 1 b_Q05
def b_Q10_l1:Dv.SS:=
 (sSet 3 (eIx (eCall F_Q16 (lCons (eVar 3) (lCons (eDix (eVar 1) (eVar 4)) lNil))) (eInt 0)))
def b_Q10_l2:Dv.SS:=
 (sCons (sSet 3 (eOp .add (eOp .add (eLst (lCons (eNeg (eInt 1)) lNil)) (eOp .mul (eLst (lCons (eInt 0) lNil)) (eOp .sub (eVar 2) (eInt 1)))) (eLst (lCons (eInt 1) lNil)))) (sCons (sFor [2] 4 (iSeq (eSlice (eCall F_Q05 (lCons (eVar 2) lNil)) none (some (eNeg (eInt 1))))) b_Q10_l1) (sDMove 1 3 (eVar 2))))
def b_Q10_t2:Dv.SS:=
 (sRetO 1)
def b_Q10_t1:Dv.SS:=
 (sCons (sFor [0] 2 (iSeq (eCall F_Q05 (lCons (eVar 0) lNil))) b_Q10_l2) b_Q10_t2)
def b_Q10:Dv.SS:=
 (sCons (sSetD 1 eDict0) b_Q10_t1)
def F_Q10:List D->R:=Dv.fn 5 b_Q10
def b_Q0W:Dv.SS:=
 (sRet (eCm .eq (eIx (eCall F_Q16 (lCons (eCall F_Q00 (lCons (eVar 0) lNil)) (lCons (eVar 1) lNil))) (eInt 1)) (eLst lNil)))
def F_Q0W:List D->R:=Dv.fn 2 b_Q0W
def c_Q0Z_1:Dv.EE:=(eComp (eVar 0) (eCall F_Q0W (lCons (eVar 1) (lCons (eDix (eVar 2) (eVar 0)) lNil))) [1,2] (iSeq (eSlice (eCall F_Q05 (lCons (eVar 0) lNil)) (some (eInt 1)) none)))
def b_Q0Z_t2:Dv.SS:=
 (sRet c_Q0Z_1)
def b_Q0Z_t1:Dv.SS:=
 (sCons (sSetD 2 (eCall F_Q10 (lCons (eVar 0) lNil))) b_Q0Z_t2)
def b_Q0Z:Dv.SS:=
 (sCons (sExpr (eCall F_Q01 (lCons (eVar 0) (lCons (eVar 1) lNil)))) b_Q0Z_t1)
def F_Q0Z:List D->R:=Dv.fn 3 b_Q0Z
def b_Q13:Dv.SS:=
 (sRet (eIx (eCall F_Q05 (lCons (eVar 0) lNil)) (eInt 1)))
def F_Q13:List D->R:=Dv.fn 1 b_Q13
def c_Q09_1:Dv.EE:=(eComp (eCm .eq (eOp .mod (eVar 0) (eVar 1)) (eInt 0)) (eBl true) [1] (iSeq (eSlice (eCall F_Q05 (lCons (eVar 0) lNil)) (some (eInt 1)) none)))
def b_Q09_t1:Dv.SS:=
 (sRet (eB1 Dv.allD c_Q09_1))
def b_Q09:Dv.SS:=
 (sCons (sSet 1 (eCall F_Q13 (lCons (eVar 0) lNil))) b_Q09_t1)
def F_Q09:List D->R:=Dv.fn 2 b_Q09
def c_Q14_1:Dv.EE:=(eComp (eVar 0) (eCall F_Q09 (lCons (eVar 0) lNil)) [] (iSeq (eSlice (eCall F_Q05 (lCons (eVar 0) lNil)) (some (eInt 1)) none)))
def b_Q14_t1:Dv.SS:=
 (sRet c_Q14_1)
def b_Q14:Dv.SS:=
 (sCons (sExpr (eCall F_Q03 (lCons (eVar 0) lNil))) b_Q14_t1)
def F_Q14:List D->R:=Dv.fn 1 b_Q14
def b_Q0T_l1:Dv.SS:=
 (sCons (sSet 7 (eOp .mod (eOp .shr (eVar 3) (eVar 6)) (eInt 2))) (sCons (sIf (eCm .eq (eVar 4) (eInt 3)) (sSet 7 (eOp .mul (eVar 7) (eOp .mod (eOp .shr (eVar 3) (eOp .mod (eOp .add (eVar 6) (eInt 7)) (eInt 61))) (eInt 2)))) sNil) (sCons (sIf (eCm .eq (eVar 4) (eInt 4)) (sSet 7 (eB2 Dv.max2D (eVar 7) (eOp .mod (eOp .shr (eVar 3) (eOp .mod (eOp .add (eVar 6) (eInt 7)) (eInt 61))) (eInt 2)))) sNil) (sIf (eCm .eq (eVar 7) (eInt 1)) (sApp 5 (eVar 6)) sNil))))
def b_Q0T_t5:Dv.SS:=
 (sRetO 5)
def b_Q0T_t4:Dv.SS:=
 (sCons (sIf (eCm .eq (eVar 5) (eLst lNil)) (sApp 5 (eOp .mod (eOp .fdiv (eCall F_Q0H (lCons (eVar 0) (lCons (eOp .add (eVar 1) (eInt 1)) lNil))) (eInt 5)) (eVar 2))) sNil) b_Q0T_t5)
def b_Q0T_t3:Dv.SS:=
 (sCons (sFor [] 6 (iRange (eVar 2)) b_Q0T_l1) b_Q0T_t4)
def b_Q0T_t2:Dv.SS:=
 (sCons (sSet 5 (eLst lNil)) b_Q0T_t3)
def b_Q0T_t1:Dv.SS:=
 (sCons (sSet 4 (eOp .mod (eCall F_Q0H (lCons (eVar 0) (lCons (eOp .add (eVar 1) (eInt 1)) lNil))) (eInt 5))) b_Q0T_t2)
def b_Q0T:Dv.SS:=
 (sCons (sSet 3 (eOp .mod (eOp .mul (eCall F_Q0H (lCons (eVar 0) (lCons (eVar 1) lNil))) (eInt 618970019642690137449562111)) (eInt 2305843009213693951))) b_Q0T_t1)
def F_Q0T:List D->R:=Dv.fn 8 b_Q0T
def c_Q12_1:Dv.EE:=(eComp (eVar 0) (eCm .isin (eVar 0) (eVar 1)) [2] (iSeq (eCall F_Q14 (lCons (eVar 0) lNil))))
def b_Q12_t1:Dv.SS:=
 (sRet c_Q12_1)
def b_Q12:Dv.SS:=
 (sCons (sSet 2 (eCall F_Q0Z (lCons (eVar 0) (lCons (eVar 1) lNil)))) b_Q12_t1)
def F_Q12:List D->R:=Dv.fn 3 b_Q12
def b_Q06_l1:Dv.SS:=
 (sAug 2 .mul (eCall F_Q13 (lCons (eVar 3) lNil)))
def b_Q06_t2:Dv.SS:=
 (sRet (eCm .eq (eVar 2) (eB1 Dv.lenD (eVar 1))))
def b_Q06_t1:Dv.SS:=
 (sCons (sFor [0,1] 3 (iSeq (eCall F_Q12 (lCons (eVar 0) (lCons (eVar 1) lNil)))) b_Q06_l1) b_Q06_t2)
def b_Q06:Dv.SS:=
 (sCons (sSet 2 (eInt 1)) b_Q06_t1)
def F_Q06:List D->R:=Dv.fn 4 b_Q06
def b_Q0L_l1:Dv.SS:=
 (sCons (sSet 6 (eOp .mod (eOp .add (eVar 4) (eVar 5)) (eVar 0))) (sPut 3 (eVar 6) (eOp .add (eIx (eVar 3) (eVar 6)) (eInt 1))))
def b_Q0L_l2:Dv.SS:=
 (sFor [1] 5 (iSeq (eVar 1)) b_Q0L_l1)
def b_Q0L_t2:Dv.SS:=
 (sRet (eCm .eq (eVar 3) (eOp .mul (eLst (lCons (eInt 1) lNil)) (eVar 0))))
def b_Q0L_t1:Dv.SS:=
 (sCons (sFor [2] 4 (iSeq (eVar 2)) b_Q0L_l2) b_Q0L_t2)
def b_Q0L:Dv.SS:=
 (sCons (sSet 3 (eOp .mul (eLst (lCons (eInt 0) lNil)) (eVar 0))) b_Q0L_t1)
def F_Q0L:List D->R:=Dv.fn 7 b_Q0L
def b_Q11_l1:Dv.SS:=
 (sDPut [] 1 (eVar 4) (eBl true))
def b_Q11_l2:Dv.SS:=
 (sFor [3] 4 (iSeq (eVar 3)) b_Q11_l1)
def b_Q11_t2:Dv.SS:=
 (sRetO 1)
def b_Q11_t1:Dv.SS:=
 (sCons (sForT [0] (Dv.tupTo [2,3]) (iSeq (eVar 0)) b_Q11_l2) b_Q11_t2)
def b_Q11:Dv.SS:=
 (sCons (sSet 1 eDict0) b_Q11_t1)
def F_Q11:List D->R:=Dv.fn 5 b_Q11
def c_Q18_1:Dv.EE:=(eComp (eCall F_Q17 (lCons (eVar 1) (lCons (eVar 2) (lCons (eVar 0) lNil)))) (eBl true) [0,1] (iRange (eVar 0)))
def c_Q18_2:Dv.EE:=(eComp (eOp .mod (eOp .sub (eVar 2) (eVar 0)) (eVar 1)) (eBl true) [0,4] (iSeq (eVar 1)))
def c_Q18_3:Dv.EE:=(eComp (eTup (lCons (eVar 0) (lCons (eIx (eVar 1) (eVar 0)) lNil))) (eBl true) [2] (iSeq (eVar 5)))
def b_Q18_l1:Dv.SS:=
 (sCons (sSet 5 c_Q18_2) (sAppG [2,5] 3 c_Q18_3))
def b_Q18_t3:Dv.SS:=
 (sRetO 3)
def b_Q18_t2:Dv.SS:=
 (sCons (sFor [] 4 (iRange (eVar 0)) b_Q18_l1) b_Q18_t3)
def b_Q18_t1:Dv.SS:=
 (sCons (sSet 3 (eLst lNil)) b_Q18_t2)
def b_Q18:Dv.SS:=
 (sCons (sSetG [0,1] 2 c_Q18_1) b_Q18_t1)
def F_Q18:List D->R:=Dv.fn 6 b_Q18
def b_Q04_t1:Dv.SS:=
 (sRet (eCm .eq (eOp .mod (eVar 0) (eB1 Dv.lenD (eVar 1))) (eInt 0)))
def b_Q04:Dv.SS:=
 (sCons (sExpr (eCall F_Q01 (lCons (eVar 0) (lCons (eVar 1) lNil)))) b_Q04_t1)
def F_Q04:List D->R:=Dv.fn 2 b_Q04
def c_Q0C_1:Dv.EE:=(eComp (eOp .add (eVar 1) (eLst (lCons (eVar 0) lNil))) (eBl true) [5] (iRange2 (eOp .add (eIx (eVar 5) (eNeg (eInt 1))) (eInt 1)) (eVar 0)))
def c_Q0C_2:Dv.EE:=(eComp (eVar 0) (eCall F_Q0L (lCons (eVar 1) (lCons (eVar 2) (lCons (eVar 0) lNil)))) [0,1] (iSeq (eVar 2)))
def b_Q0C_l1:Dv.SS:=
 (sSetG [0,4,5] 4 (eOp .add (eVar 4) c_Q0C_1))
def b_Q0C_l2:Dv.SS:=
 (sCons (sSetG [] 4 (eLst lNil)) (sCons (sFor [2] 5 (iSeq (eVar 2)) b_Q0C_l1) (sSetG [4] 2 (eVar 4))))
def b_Q0C_t3:Dv.SS:=
 (sRet c_Q0C_2)
def b_Q0C_t2:Dv.SS:=
 (sCons (sFor [1] 3 (iRange (eOp .sub (eOp .fdiv (eVar 0) (eB1 Dv.lenD (eVar 1))) (eInt 1))) b_Q0C_l2) b_Q0C_t3)
def b_Q0C_t1:Dv.SS:=
 (sCons (sSetG [] 2 (eLst (lCons (eLst (lCons (eInt 0) lNil)) lNil))) b_Q0C_t2)
def b_Q0C:Dv.SS:=
 (sCons (sIf (eCm .ne (eOp .mod (eVar 0) (eB1 Dv.lenD (eVar 1))) (eInt 0)) (sRet (eLst lNil)) sNil) b_Q0C_t1)
def F_Q0C:List D->R:=Dv.fn 6 b_Q0C
def eF:Dv.EE:=(eComp (eVar 0) (eDnin (eVar 0) (eVar 1)) [2] (iRange (eB1 Dv.lenD (eFld "ways" (eVar 0)))))
def f9:Dv.EE:=(eComp (eVar 0) (eB2 Dv.dinD (eVar 0) (eVar 1)) [2] (iSeq (eIx (eVar 6) (eInt 1))))
def fI:Dv.EE:=(eCompT 2 (eVar 0) (eBl true) [] (iSeq (eFld "laid" (eVar 1))))
def kW:Dv.Wk:=⟨F_Q11,(eB1 Dv.sortedD fI),(eB1 Dv.minLD eF),f9⟩
def su:Dv.EE:=(eCall F_Q18 (lCons (eVar 0) (lCons (eVar 1) lNil)))
def rF:Dv.EE:=(eLst (lCons (eTup (lCons (eInt 0) (lCons (eVar 1) lNil))) lNil))
def c_Q0R_1:Dv.EE:=(eComp (eOp .add (eOp .mul (eVar 0) (eVar 2)) (eVar 1)) (eBl true) [10,7] (iSeq (eVar 3)))
def c_Q0R_2:Dv.EE:=(eComp (eOp .mul (eVar 0) (eVar 1)) (eBl true) [7] (iSeq (eVar 4)))
def b_Q0R_l1:Dv.SS:=
 (sSet 9 (eOp .add (eVar 9) c_Q0R_1))
def b_Q0R_l2:Dv.SS:=
 (sCons (sSet 6 (eOp .mod (eOp .mul (eCall F_Q0H (lCons (eVar 0) (lCons (eOp .add (eVar 1) (eVar 5)) lNil))) (eInt 48271)) (eInt 2147483647))) (sCons (sSet 7 (eIx (eLst (lCons (eInt 2) (lCons (eInt 3) (lCons (eInt 2) (lCons (eInt 5) (lCons (eInt 2) (lCons (eInt 3) (lCons (eInt 7) lNil)))))))) (eOp .mod (eVar 6) (eInt 7)))) (sCons (sSet 8 (eOp .mod (eOp .fdiv (eVar 6) (eInt 7)) (eInt 4))) (sCons (sIf (eCm .le (eOp .mul (eVar 2) (eVar 7)) (eInt 12)) (sCons (sIf (eCm .lt (eVar 8) (eInt 2)) (sSet 3 (eCall F_Q0B (lCons (eVar 2) (lCons (eVar 3) (lCons (eVar 7) lNil))))) (sCons (sSet 9 (eLst lNil)) (sCons (sFor [] 10 (iRange (eVar 7)) b_Q0R_l1) (sCons (sSet 3 (eB1 Dv.sortedD (eVar 9))) (sSet 4 c_Q0R_2))))) (sSet 2 (eOp .mul (eVar 2) (eVar 7)))) sNil) (sIf (eCm .eq (eOp .mod (eOp .fdiv (eVar 6) (eInt 28)) (eInt 2)) (eInt 1)) (sPar [3,4] 3 4 (eVar 4) (eVar 3)) sNil)))))
def b_Q0R_t5:Dv.SS:=
 (sRet (eTup (lCons (eVar 2) (lCons (eVar 3) (lCons (eCall F_Q0U (lCons (eVar 2) (lCons (eVar 4) (lCons (eOp .mod (eCall F_Q0H (lCons (eVar 0) (lCons (eOp .add (eVar 1) (eInt 7)) lNil))) (eVar 2)) lNil)))) lNil)))))
def b_Q0R_t4:Dv.SS:=
 (sCons (sSet 3 (eCall F_Q0U (lCons (eVar 2) (lCons (eVar 3) (lCons (eOp .mod (eCall F_Q0H (lCons (eVar 0) (lCons (eOp .add (eVar 1) (eInt 6)) lNil))) (eVar 2)) lNil))))) b_Q0R_t5)
def b_Q0R_t3:Dv.SS:=
 (sCons (sFor [] 5 (iRange (eInt 6)) b_Q0R_l2) b_Q0R_t4)
def b_Q0R_t2:Dv.SS:=
 (sCons (sSet 4 (eLst (lCons (eInt 0) lNil))) b_Q0R_t3)
def b_Q0R_t1:Dv.SS:=
 (sCons (sSet 3 (eLst (lCons (eInt 0) lNil))) b_Q0R_t2)
def b_Q0R:Dv.SS:=
 (sCons (sSet 2 (eInt 1)) b_Q0R_t1)
def F_Q0R:List D->R:=Dv.fn 11 b_Q0R
def b_Q0F_t4:Dv.SS:=
 (sRet (eLst (lCons (eVar 1) (lCons (eVar 2) lNil))))
def b_Q0F_t3:Dv.SS:=
 (sCons (sIf (eCm .eq (eVar 4) (eInt 2)) (sCons (sSet 5 (eOp .mod (eOp .fdiv (eCall F_Q0H (lCons (eVar 0) (lCons (eInt 0) lNil))) (eInt 4)) (eVar 1))) (sIf (eCm .notin (eVar 5) (eVar 2)) (sSet 2 (eB1 Dv.sortedD (eOp .add (eSlice (eVar 2) (some (eInt 1)) none) (eLst (lCons (eVar 5) lNil))))) sNil)) sNil) b_Q0F_t4)
def b_Q0F_t2:Dv.SS:=
 (sCons (sIf (eCm .eq (eVar 4) (eInt 1)) (sCons (sSet 1 (eOp .add (eInt 1) (eOp .mod (eOp .fdiv (eCall F_Q0H (lCons (eVar 0) (lCons (eInt 0) lNil))) (eInt 4)) (eInt 10)))) (sSet 2 (eCall F_Q0T (lCons (eVar 0) (lCons (eInt 9) (lCons (eVar 1) lNil)))))) sNil) b_Q0F_t3)
def b_Q0F_t1:Dv.SS:=
 (sCons (sSet 4 (eOp .mod (eCall F_Q0H (lCons (eVar 0) (lCons (eInt 0) lNil))) (eInt 4))) b_Q0F_t2)
def b_Q0F:Dv.SS:=
 (sCons (sUnpack [0] [1,2,3] (eCall F_Q0R (lCons (eVar 0) (lCons (eInt 1) lNil)))) b_Q0F_t1)
def F_Q0F:List D->R:=Dv.fn 6 b_Q0F
def b_Q0K_l1:Dv.SS:=
 (sPut 3 (eOp .mod (eOp .add (eVar 4) (eVar 5)) (eVar 0)) (eBl true))
def b_Q0K_l2:Dv.SS:=
 (sFor [1] 5 (iSeq (eVar 1)) b_Q0K_l1)
def b_Q0K_t2:Dv.SS:=
 (sRetO 3)
def b_Q0K_t1:Dv.SS:=
 (sCons (sFor [2] 4 (iSeq (eVar 2)) b_Q0K_l2) b_Q0K_t2)
def b_Q0K:Dv.SS:=
 (sCons (sSet 3 (eOp .mul (eLst (lCons (eBl false) lNil)) (eVar 0))) b_Q0K_t1)
def F_Q0K:List D->R:=Dv.fn 6 b_Q0K
def c_Q0P_1:Dv.EE:=(eComp (eVar 0) (eCm .notin (eVar 0) (eVar 1)) [2] (iSeq (eVar 1)))
def b_Q0P_l1:Dv.SS:=
 (sIf (eCm .eq c_Q0P_1 (eLst lNil)) (sRet (eBl false)) sNil)
def b_Q0P_t1:Dv.SS:=
 (sRet (eBl true))
def b_Q0P:Dv.SS:=
 (sCons (sFor [0] 2 (iSeq (eVar 0)) b_Q0P_l1) b_Q0P_t1)
def F_Q0P:List D->R:=Dv.fn 3 b_Q0P
def c_Q0N_1:Dv.EE:=(eComp (eInt 1) (eIx (eVar 1) (eOp .mod (eOp .add (eVar 3) (eVar 0)) (eVar 2))) [5,0,8] (iSeq (eVar 1)))
def b_Q0N_l1:Dv.SS:=
 (sCons (sSet 8 (eOp .mod (eOp .sub (eVar 6) (eVar 7)) (eVar 0))) (sCons (sIf (eCm .isin (eVar 8) (eVar 2)) (sCons (sApp 4 (eVar 8)) sBrk) sNil) (sCons (sSet 9 c_Q0N_1) (sIf (eAnd (eCm .eq (eVar 9) (eLst lNil)) (eNot (eCall F_Q0P (lCons (eVar 3) (lCons (eOp .add (eVar 4) (eLst (lCons (eVar 8) lNil))) lNil))))) (sRet (eBl false)) sNil))))
def b_Q0N_l2:Dv.SS:=
 (sCons (sSet 5 (eCall F_Q0K (lCons (eVar 0) (lCons (eVar 1) (lCons (eVar 4) lNil))))) (sCons (sSet 6 (eIndex (eVar 5) (eBl false))) (sFor [1] 7 (iSeq (eVar 1)) b_Q0N_l1)))
def b_Q0N_t2:Dv.SS:=
 (sRet (eCm .eq (eB1 Dv.sortedD (eVar 4)) (eVar 2)))
def b_Q0N_t1:Dv.SS:=
 (sCons (sWhile 100000 (eCm .lt (eB1 Dv.lenD (eVar 4)) (eB1 Dv.lenD (eVar 2))) b_Q0N_l2) b_Q0N_t2)
def b_Q0N:Dv.SS:=
 (sCons (sSet 4 (eLst (lCons (eInt 0) lNil))) b_Q0N_t1)
def F_Q0N:List D->R:=Dv.fn 10 b_Q0N
def b_Q15_t2:Dv.SS:=
 (sSought kW (Dv.pwR su rF) (lCons (eVar 0) (lCons (eVar 1) lNil)) 2 3)
def b_Q15_t1:Dv.SS:=
 (sCons (sIf (eNot (eCall F_Q06 (lCons (eVar 0) (lCons (eVar 1) lNil)))) (sRet (eTup (lCons (eStr [98,97,114,114,101,100]) (lCons (eStr [112,97,114,116,115]) lNil)))) sNil) b_Q15_t2)
def b_Q15:Dv.SS:=
 (sCons (sIf (eNot (eCall F_Q04 (lCons (eVar 0) (lCons (eVar 1) lNil)))) (sRet (eTup (lCons (eStr [98,97,114,114,101,100]) (lCons (eStr [99,111,117,110,116]) lNil)))) sNil) b_Q15_t1)
def F_Q15:List D->R:=Dv.fn 4 b_Q15
def b_Q0O_t7:Dv.SS:=
 (sRet (eCall F_Q0N (lCons (eVar 1) (lCons (eVar 2) (lCons (eIx (eVar 5) (eInt 1)) (lCons (eVar 3) lNil))))))
def b_Q0O_t6:Dv.SS:=
 (sCons (sIf (eOr (eCm .ne (eIx (eVar 5) (eInt 0)) (eStr [115,116,97,114,116,115])) (eOr (eB2 (Dv.inG true) (eIx (eVar 5) (eInt 1)) (eVar 3)) (eNot (eCall F_Q0D (lCons (eIx (eVar 5) (eInt 1)) (lCons (eB1 Dv.sortedD (eIx (eVar 5) (eInt 1))) lNil)))))) (sRet (eBl false)) sNil) b_Q0O_t7)
def b_Q0O_t5:Dv.SS:=
 (sCons (sIf (eCm .eq (eVar 3) (eLst lNil)) (sRet (eAnd (eB2 Dv.eqSD (eIx (eVar 5) (eInt 0)) (eStr [98,97,114,114,101,100])) (eCm .eq (eB2 Dv.eqSD (eIx (eVar 5) (eInt 1)) (eStr [99,111,117,110,116])) (eCm .ne (eOp .mod (eVar 1) (eB1 Dv.lenD (eVar 2))) (eInt 0))))) sNil) b_Q0O_t6)
def b_Q0O_t4:Dv.SS:=
 (sCons (sIf (eOr (eNot (eB1 Dv.isTupD (eVar 5))) (eOr (eCm .ne (eB1 Dv.lenD (eVar 5)) (eInt 2)) (eCm .ne (eVar 4) (eVar 2)))) (sRet (eBl false)) sNil) b_Q0O_t5)
def b_Q0O_t3:Dv.SS:=
 (sCons (sSetG [1,4] 5 (eCall F_Q15 (lCons (eVar 1) (lCons (eVar 4) lNil)))) b_Q0O_t4)
def b_Q0O_t2:Dv.SS:=
 (sCons (sSet 4 (eB1 Dv.listD (eVar 2))) b_Q0O_t3)
def b_Q0O_t1:Dv.SS:=
 (sCons (sSetG [1,2] 3 (eCall F_Q0C (lCons (eVar 1) (lCons (eVar 2) lNil)))) b_Q0O_t2)
def b_Q0O:Dv.SS:=
 (sCons (sUnpackL [0] [1,2] (eCall F_Q0F (lCons (eCall F_Q0I (lCons (eVar 0) (lCons (eInt 11) lNil))) lNil))) b_Q0O_t1)
def F_Q0O:List D->R:=Dv.fn 6 b_Q0O
end Cw
namespace Lk42
open PySem PySem.Spec PyProof.Rows L2 Sd Cw
open Dv (D R RL EE EL EI RI Sl Out SS)
def top (i:Nat):Stmt:=PySem.Challenge.pw_canonwheel_k42_whole_sought.main.body.getD i (.Pass ⟨0,0,0,0⟩)
section
variable {P:Program}{w:World}{K:F5}{mg:Str->Option Value}{base:Heap}{ad:String->Option Addr}
abbrev s_Q03:Stmt:=top 8
theorem sc_check_wheel:FnScope ["length"] ["length"] (af s_Q03):=by constructor<;>first|rfl|decide +kernel
theorem ok_Q03 {f:Addr}{fd:FuncData}(d:Df K mg "check_wheel" s_Q03 ["length"] f fd)(xa:XAll K mg ad){C_3:Addr}(h_2:ad "NoWheel"=some C_3){t_LONGEST:Tok}(n_LONGEST:mg "LONGEST"=some (.int 60 t_LONGEST)):
  FnOk P w K mg base (CXe P w) 1 f fd ["length"] (spD K (aG ad) F_Q03 1):=by
 have nd:=sc_check_wheel.nd;refine Df.is cxe_ok ["length"] 0 b_Q03 d sc_check_wheel rfl rfl rfl λ cdv A outer s H E hr=>?_
 exact(au (bC (jg (eX (mL (aa 0) ai) (dh _ (wC (aa 0) (u3 rfl n_LONGEST))))) (fg (xa.cl _ _ h_2).1 (dO h_2) rfl) bj))
abbrev cD:=Fu "check_wheel" s_Q03 ["length"] 1 F_Q03 1
abbrev s_Q02:Stmt:=top 9
theorem sc_check_rising:FnScope ["numbers","end","before","number"] ["numbers","end"] (af s_Q02):=by constructor<;>first|rfl|decide +kernel
theorem ok_Q02 {f:Addr}{fd:FuncData}(d:Df K mg "check_rising" s_Q02 ["numbers","end"] f fd)(xa:XAll K mg ad){C_1:Addr}(h_0:ad "NoBeat"=some C_1)(z_len:mg "len"=none):
  FnOk P w K mg base (CXe P w) 1 f fd ["numbers","end"] (spD K (aG ad) F_Q02 2):=by
 have nd:=sc_check_rising.nd;refine Df.is cxe_ok ["numbers","end","before","number"] 0 b_Q02 d sc_check_rising rfl rfl rfl λ cdv A outer s H E hr=>?_
 exact(aj (bC (c8 (bL z_len rfl (aa 0)) ai) (fg (xa.cl _ _ h_0).1 (dO h_0) rfl) bj) (aj (ay (i:=2) (eC ai) nd rfl (Or.inl rfl)) (au (bG [0] (i:=3) (aL (aa 0)) (aj (bC (jg (eX (yS (aa 3) (aa 2)) (dh _ (yO (aa 3) (aa 1))))) (fg (xa.cl _ _ h_0).1 (dO h_0) rfl) bj) (au (dv [3] (i:=2) (aa 3) nd rfl (Or.inl rfl)))) nd rfl (Or.inl rfl)))))
abbrev e8:=Fu "check_rising" s_Q02 ["numbers","end"] 1 F_Q02 2
abbrev s_Q01:Stmt:=top 10
theorem sc_check_beat:FnScope ["length","beat"] ["length","beat"] (af s_Q01):=by constructor<;>first|rfl|decide +kernel
theorem ok_Q01 {f:Addr}{fd:FuncData}(d:Df K mg "check_beat" s_Q01 ["length","beat"] f fd)(q_check_wheel:cD P w K mg base ad)(q_check_rising:e8 P w K mg base ad):
  FnOk P w K mg base (CXe P w) 2 f fd ["length","beat"] (spD K (aG ad) F_Q01 2):=by
 have nd:=sc_check_beat.nd;refine Df.is cxe_ok ["length","beat"] 1 b_Q01 d sc_check_beat rfl rfl rfl λ cdv A outer s H E hr=>?_
 exact(aj (dE (aH q_check_wheel.d q_check_wheel.o hr (by decide) rfl (ae (aa 0) ao))) (au (dE (aH q_check_rising.d q_check_rising.o hr (by decide) rfl (ae (aa 1) (ae (aa 0) ao))))))
abbrev cm:=Fu "check_beat" s_Q01 ["length","beat"] 2 F_Q01 2
abbrev s_Q0X:Stmt:=top 11
theorem sc_made_beat:FnScope ["length","numbers","beat"] ["length","numbers"] (af s_Q0X):=by constructor<;>first|rfl|decide +kernel
theorem ok_Q0X {f:Addr}{fd:FuncData}(d:Df K mg "made_beat" s_Q0X ["length","numbers"] f fd)(q_check_wheel:cD P w K mg base ad)(q_check_beat:cm P w K mg base ad)(z_sorted:mg "sorted"=none):
  FnOk P w K mg base (CXe P w) 3 f fd ["length","numbers"] (spD K (aG ad) F_Q0X 2):=by
 have nd:=sc_made_beat.nd;refine Df.is cxe_ok ["length","numbers","beat"] 2 b_Q0X d sc_made_beat rfl rfl rfl λ cdv A outer s H E hr=>?_
 exact(aj (dE (aH q_check_wheel.d q_check_wheel.o hr (by decide) rfl (ae (aa 0) ao))) (aj (ay (i:=2) (cA z_sorted rfl (bD (fs:=["length"]) (is:=[0]) (fe:=(Dv.eOp .mod (Dv.eVar 0) (Dv.eVar 1))) (fc:=(Dv.eBl true)) (aA (fsc:=af s_Q0X) (N:=["length","numbers","beat"]) rfl rfl (by decide +kernel)) (aL (aa 1)) (λ cl L s₀ H₀ ex=>(aY (aa 0) (aa 1))) (λ cl L s₀ H₀ ex=>cM))) nd rfl (Or.inl rfl)) (aj (dE (aH q_check_beat.d q_check_beat.o hr (by decide) rfl (ae (aa 0) (ae (aa 2) ao)))) (au (cU 2)))))
abbrev iE:=Fu "made_beat" s_Q0X ["length","numbers"] 3 F_Q0X 2
abbrev s_Q00:Stmt:=top 13
theorem sc_beat_sum:FnScope ["beat","numbers","place"] ["beat"] (af s_Q00):=by constructor<;>first|rfl|decide +kernel
theorem ok_Q00 {f:Addr}{fd:FuncData}(d:Df K mg "beat_sum" s_Q00 ["beat"] f fd)(z_len:mg "len"=none):
  FnOk P w K mg base (CXe P w) 1 f fd ["beat"] (spD K (aG ad) F_Q00 1):=by
 have nd:=sc_beat_sum.nd;refine Df.is cxe_ok ["beat","numbers","place"] 0 b_Q00 d sc_beat_sum rfl rfl rfl λ cdv A outer s H E hr=>?_
 exact(aj (bC (c8 (bL z_len rfl (aa 0)) ai) (au (aZ (aV ao))) bj) (aj (ay (i:=1) (br (aV (ae ai ao)) (aU (bF (aa 0) (eC ai)) ai)) nd rfl (Or.inl rfl)) (aj (bG [0] (i:=2) (aL (aa 0)) (au (je (i:=1) ai (aa 2))) nd rfl (Or.inl rfl)) (au (cU 1)))))
abbrev jB:=Fu "beat_sum" s_Q00 ["beat"] 1 F_Q00 1
abbrev s_Q19:Stmt:=top 14
theorem sc_without_last_noughts:FnScope ["numbers","size"] ["numbers"] (af s_Q19):=by constructor<;>first|rfl|decide +kernel
theorem ok_Q19 {f:Addr}{fd:FuncData}(d:Df K mg "without_last_noughts" s_Q19 ["numbers"] f fd)(z_len:mg "len"=none):
  FnOk P w K mg base (CXe P w) 1 f fd ["numbers"] (spD K (aG ad) F_Q19 1):=by
 have nd:=sc_without_last_noughts.nd;refine Df.is cxe_ok ["numbers","size"] 0 b_Q19 d sc_without_last_noughts rfl rfl rfl λ cdv A outer s H E hr=>?_
 exact(aj (ay (i:=1) (bL z_len rfl (aa 0)) nd rfl (Or.inl rfl)) (aj (nN 100000 (jg (vS (wC (aa 1) ai) (dh _ (c8 (bF (aa 0) (eA (aa 1) ai)) ai)))) (au (sx (i:=1) ai nd rfl (Or.inl rfl)))) (au (aZ (cH (aa 0) dB (dA (aa 1)))))))
abbrev ck:=Fu "without_last_noughts" s_Q19 ["numbers"] 1 F_Q19 1
abbrev s_Q16:Stmt:=top 15
theorem sc_sum_divided:FnScope ["one","other","last","rest","share","low","high","number"] ["one","other"] (af s_Q16):=by constructor<;>first|rfl|decide +kernel
theorem ok_Q16 {f:Addr}{fd:FuncData}(d:Df K mg "sum_divided" s_Q16 ["one","other"] f fd)(q_without_last_noughts:ck P w K mg base ad)(xa:XAll K mg ad){C_2:Addr}(h_1:ad "NoPart"=some C_2)(z_len:mg "len"=none)(z_list:mg "list"=none)(z_range:mg "range"=none)(z_enumerate:mg "enumerate"=none):
  FnOk P w K mg base (CXe P w) 2 f fd ["one","other"] (spD K (aG ad) F_Q16 2):=by
 have nd:=sc_sum_divided.nd;refine Df.is cxe_ok ["one","other","last","rest","share","low","high","number"] 1 b_Q16 d sc_sum_divided rfl rfl rfl λ cdv A outer s H E hr=>?_
 exact(aj (bC (jg (eX (c8 (bL z_len rfl (aa 1)) ai) (dh _ (js (bF (aa 1) (eC ai)) ai)))) (fg (xa.cl _ _ h_1).1 (dO h_1) rfl) bj) (aj (ay (i:=2) (eA (bL z_len rfl (aa 1)) ai) nd rfl (Or.inl rfl)) (aj (ay (i:=3) (p8 z_list rfl (aa 0)) nd rfl (Or.inl rfl)) (aj (ay (i:=4) (br (aV (ae ai ao)) (eA (bL z_len rfl (aa 0)) (aa 2))) nd rfl (Or.inl rfl)) (aj (xp (i:=5) (yj rfl z_range (eA (bL z_len rfl (aa 4)) ai) (eC ai) (eC ai)) (aj (je (i:=4) (bF (aa 3) (aU (aa 5) (aa 2))) (aa 5)) (au (iO [1] (xM rfl z_enumerate (aa 1)) (pH (xs:=[6,7]) (cb (i:=6) (cb (i:=7) jd nd rfl (Or.inl rfl)) nd rfl (Or.inl rfl)) rfl) (au (rD (i:=3) (br (bF (aa 4) (aa 5)) (aa 7)) (aU (aa 5) (aa 6))))))) nd rfl (Or.inl rfl)) (au (yb (i:=4) (aH q_without_last_noughts.d q_without_last_noughts.o hr (by decide) rfl (ae (cH (aa 3) dB (dA (aa 2))) ao)))))))))
abbrev dI:=Fu "sum_divided" s_Q16 ["one","other"] 2 F_Q16 2
abbrev s_Q05:Stmt:=top 18
theorem sc_divisors:FnScope ["number"] ["number"] (af s_Q05):=by constructor<;>first|rfl|decide +kernel
theorem ok_Q05 {f:Addr}{fd:FuncData}(d:Df K mg "divisors" s_Q05 ["number"] f fd)(xa:XAll K mg ad){C_2:Addr}(h_1:ad "NoPart"=some C_2)(z_range:mg "range"=none){t_LAST_PART:Tok}(n_LAST_PART:mg "LAST_PART"=some (.int 60 t_LAST_PART)):
  FnOk P w K mg base (CXe P w) 1 f fd ["number"] (spD K (aG ad) F_Q05 1):=by
 have nd:=sc_divisors.nd;refine Df.is cxe_ok ["number"] 0 b_Q05 d sc_divisors rfl rfl rfl λ cdv A outer s H E hr=>?_
 exact(aj (bC (jg (eX (mL (aa 0) ai) (dh _ (wC (aa 0) (u3 rfl n_LAST_PART))))) (fg (xa.cl _ _ h_1).1 (dO h_1) rfl) bj) (au (aZ (bD (fs:=["number"]) (is:=[0]) (fe:=(Dv.eVar 0)) (fc:=(Dv.eCm .eq (Dv.eOp .mod (Dv.eVar 1) (Dv.eVar 0)) (Dv.eInt 0))) (aA (fsc:=af s_Q05) (N:=["number"]) rfl rfl (by decide +kernel)) (kT rfl z_range ai (aU (aa 0) ai)) (λ cl L s₀ H₀ ex=>(aa 0)) (λ cl L s₀ H₀ ex=>(eu (c8 (aY (aa 1) (aa 0)) ai)))))))
abbrev cz:=Fu "divisors" s_Q05 ["number"] 1 F_Q05 1
abbrev s_Q10:Stmt:=top 19
theorem sc_parts_of_divisors:FnScope ["number","found","divisor","left","ahead"] ["number"] (af s_Q10):=by constructor<;>first|rfl|decide +kernel
theorem ok_Q10 {f:Addr}{fd:FuncData}(d:Df K mg "parts_of_divisors" s_Q10 ["number"] f fd)(q_divisors:cz P w K mg base ad)(q_sum_divided:dI P w K mg base ad):
  FnOk P w K mg base (CXe P w) 3 f fd ["number"] (spD K (aG ad) F_Q10 1):=by
 have nd:=sc_parts_of_divisors.nd;refine Df.is cxe_ok ["number","found","divisor","left","ahead"] 2 b_Q10 d sc_parts_of_divisors rfl rfl rfl λ cdv A outer s H E hr=>?_
 exact(aj (pZ (i:=1) mV nd rfl (Or.inl rfl)) (aj (bG [0] (i:=2) (aL (aH q_divisors.d q_divisors.o hr (by decide) rfl (ae (aa 0) ao))) (aj (ay (i:=3) (aU (aU (aV (ae (eC ai) ao)) (br (aV (ae ai ao)) (eA (aa 2) ai))) (aV (ae ai ao))) nd rfl (Or.inl rfl)) (aj (bG [2] (i:=4) (aL (cH (aH q_divisors.d q_divisors.o hr (by decide) rfl (ae (aa 2) ao)) dB (dA (eC ai)))) (au (ay (i:=3) (bF (aH q_sum_divided.d q_sum_divided.o hr (by decide) rfl (ae (aa 3) (ae (vZ (aa 1) (aa 4)) ao))) ai) nd rfl (Or.inl rfl))) nd rfl (Or.inl rfl)) (au (ve (i:=1) (y:=3) (aa 2))))) nd rfl (Or.inl rfl)) (au (cU 1))))
abbrev cP:=Fu "parts_of_divisors" s_Q10 ["number"] 3 F_Q10 1
abbrev s_Q0W:Stmt:=top 20
theorem sc_leaves_nought:FnScope ["beat","divisor"] ["beat","divisor"] (af s_Q0W):=by constructor<;>first|rfl|decide +kernel
theorem ok_Q0W {f:Addr}{fd:FuncData}(d:Df K mg "leaves_nought" s_Q0W ["beat","divisor"] f fd)(q_sum_divided:dI P w K mg base ad)(q_beat_sum:jB P w K mg base ad):
  FnOk P w K mg base (CXe P w) 3 f fd ["beat","divisor"] (spD K (aG ad) F_Q0W 2):=by
 have nd:=sc_leaves_nought.nd;refine Df.is cxe_ok ["beat","divisor"] 2 b_Q0W d sc_leaves_nought rfl rfl rfl λ cdv A outer s H E hr=>?_
 exact(au (aZ (ig (bF (aH q_sum_divided.d q_sum_divided.o hr (by decide) rfl (ae (aH q_beat_sum.d q_beat_sum.o hr (by decide) rfl (ae (aa 0) ao)) (ae (aa 1) ao))) ai) (aV ao))))
abbrev eG:=Fu "leaves_nought" s_Q0W ["beat","divisor"] 3 F_Q0W 2
abbrev s_Q0Z:Stmt:=top 21
theorem sc_parts_had:FnScope ["length","beat","found"] ["length","beat"] (af s_Q0Z):=by constructor<;>first|rfl|decide +kernel
theorem ok_Q0Z {f:Addr}{fd:FuncData}(d:Df K mg "parts_had" s_Q0Z ["length","beat"] f fd)(q_check_beat:cm P w K mg base ad)(q_parts_of_divisors:cP P w K mg base ad)(q_divisors:cz P w K mg base ad)(q_leaves_nought:eG P w K mg base ad):
  FnOk P w K mg base (CXe P w) 4 f fd ["length","beat"] (spD K (aG ad) F_Q0Z 2):=by
 have nd:=sc_parts_had.nd;refine Df.is cxe_ok ["length","beat","found"] 3 b_Q0Z d sc_parts_had rfl rfl rfl λ cdv A outer s H E hr=>?_
 exact(aj (dE (aH q_check_beat.d q_check_beat.o hr (by decide) rfl (ae (aa 0) (ae (aa 1) ao)))) (aj (pZ (i:=2) (aH q_parts_of_divisors.d q_parts_of_divisors.o hr (by decide) rfl (ae (aa 0) ao)) nd rfl (Or.inr rfl)) (au (aZ (bD (fs:=["beat","found"]) (is:=[1,2]) (fe:=(Dv.eVar 0)) (fc:=(Dv.eCall F_Q0W (Dv.lCons (Dv.eVar 1) (Dv.lCons (Dv.eDix (Dv.eVar 2) (Dv.eVar 0)) Dv.lNil)))) (aA (fsc:=af s_Q0Z) (N:=["length","beat","found"]) rfl rfl (by decide +kernel)) (aL (cH (aH q_divisors.d q_divisors.o hr (by decide) rfl (ae (aa 0) ao)) (dA ai) dB)) (λ cl L s₀ H₀ ex=>(aa 0)) (λ cl L s₀ H₀ ex=>(eu (cX (aH q_leaves_nought.d q_leaves_nought.o hr (by decide) rfl (ae (aa 1) (ae (vZ (aa 2) (aa 0)) ao)))))))))))
abbrev iz:=Fu "parts_had" s_Q0Z ["length","beat"] 4 F_Q0Z 2
abbrev s_Q13:Stmt:=top 23
theorem sc_prime_of:FnScope ["number"] ["number"] (af s_Q13):=by constructor<;>first|rfl|decide +kernel
theorem ok_Q13 {f:Addr}{fd:FuncData}(d:Df K mg "prime_of" s_Q13 ["number"] f fd)(q_divisors:cz P w K mg base ad):
  FnOk P w K mg base (CXe P w) 2 f fd ["number"] (spD K (aG ad) F_Q13 1):=by
 have nd:=sc_prime_of.nd;refine Df.is cxe_ok ["number"] 1 b_Q13 d sc_prime_of rfl rfl rfl λ cdv A outer s H E hr=>?_
 exact(au (aZ (bF (aH q_divisors.d q_divisors.o hr (by decide) rfl (ae (aa 0) ao)) ai)))
abbrev gh:=Fu "prime_of" s_Q13 ["number"] 2 F_Q13 1
abbrev s_Q09:Stmt:=top 24
theorem sc_has_one_prime:FnScope ["number","prime"] ["number"] (af s_Q09):=by constructor<;>first|rfl|decide +kernel
theorem ok_Q09 {f:Addr}{fd:FuncData}(d:Df K mg "has_one_prime" s_Q09 ["number"] f fd)(q_prime_of:gh P w K mg base ad)(q_divisors:cz P w K mg base ad)(z_all:mg "all"=none):
  FnOk P w K mg base (CXe P w) 3 f fd ["number"] (spD K (aG ad) F_Q09 1):=by
 have nd:=sc_has_one_prime.nd;refine Df.is cxe_ok ["number","prime"] 2 b_Q09 d sc_has_one_prime rfl rfl rfl λ cdv A outer s H E hr=>?_
 exact(aj (ay (i:=1) (aH q_prime_of.d q_prime_of.o hr (by decide) rfl (ae (aa 0) ao)) nd rfl (Or.inr rfl)) (au (aZ (zE z_all rfl (bD (fs:=["prime"]) (is:=[1]) (fe:=(Dv.eCm .eq (Dv.eOp .mod (Dv.eVar 0) (Dv.eVar 1)) (Dv.eInt 0))) (fc:=(Dv.eBl true)) (aA (fsc:=af s_Q09) (N:=["number","prime"]) rfl rfl (by decide +kernel)) (aL (cH (aH q_divisors.d q_divisors.o hr (by decide) rfl (ae (aa 0) ao)) (dA ai) dB)) (λ cl L s₀ H₀ ex=>(ig (aY (aa 0) (aa 1)) ai)) (λ cl L s₀ H₀ ex=>cM))))))
abbrev eN:=Fu "has_one_prime" s_Q09 ["number"] 3 F_Q09 1
abbrev s_Q14:Stmt:=top 25
theorem sc_prime_powers:FnScope ["length"] ["length"] (af s_Q14):=by constructor<;>first|rfl|decide +kernel
theorem ok_Q14 {f:Addr}{fd:FuncData}(d:Df K mg "prime_powers" s_Q14 ["length"] f fd)(q_check_wheel:cD P w K mg base ad)(q_divisors:cz P w K mg base ad)(q_has_one_prime:eN P w K mg base ad):
  FnOk P w K mg base (CXe P w) 4 f fd ["length"] (spD K (aG ad) F_Q14 1):=by
 have nd:=sc_prime_powers.nd;refine Df.is cxe_ok ["length"] 3 b_Q14 d sc_prime_powers rfl rfl rfl λ cdv A outer s H E hr=>?_
 exact(aj (dE (aH q_check_wheel.d q_check_wheel.o hr (by decide) rfl (ae (aa 0) ao))) (au (aZ (bD (fs:=[]) (is:=[]) (fe:=(Dv.eVar 0)) (fc:=(Dv.eCall F_Q09 (Dv.lCons (Dv.eVar 0) Dv.lNil))) (aA (fsc:=af s_Q14) (N:=["length"]) rfl rfl (by decide +kernel)) (aL (cH (aH q_divisors.d q_divisors.o hr (by decide) rfl (ae (aa 0) ao)) (dA ai) dB)) (λ cl L s₀ H₀ ex=>(aa 0)) (λ cl L s₀ H₀ ex=>(eu (cX (aH q_has_one_prime.d q_has_one_prime.o hr (by decide) rfl (ae (aa 0) ao)))))))))
abbrev eU:=Fu "prime_powers" s_Q14 ["length"] 4 F_Q14 1
abbrev s_Q12:Stmt:=top 27
theorem sc_powers_had:FnScope ["length","beat","had"] ["length","beat"] (af s_Q12):=by constructor<;>first|rfl|decide +kernel
theorem ok_Q12 {f:Addr}{fd:FuncData}(d:Df K mg "powers_had" s_Q12 ["length","beat"] f fd)(q_parts_had:iz P w K mg base ad)(q_prime_powers:eU P w K mg base ad):
  FnOk P w K mg base (CXe P w) 5 f fd ["length","beat"] (spD K (aG ad) F_Q12 2):=by
 have nd:=sc_powers_had.nd;refine Df.is cxe_ok ["length","beat","had"] 4 b_Q12 d sc_powers_had rfl rfl rfl λ cdv A outer s H E hr=>?_
 exact(aj (ay (i:=2) (aH q_parts_had.d q_parts_had.o hr (by decide) rfl (ae (aa 0) (ae (aa 1) ao))) nd rfl (Or.inr rfl)) (au (aZ (bD (fs:=["had"]) (is:=[2]) (fe:=(Dv.eVar 0)) (fc:=(Dv.eCm .isin (Dv.eVar 0) (Dv.eVar 1))) (aA (fsc:=af s_Q12) (N:=["length","beat","had"]) rfl rfl (by decide +kernel)) (aL (aH q_prime_powers.d q_prime_powers.o hr (by decide) rfl (ae (aa 0) ao))) (λ cl L s₀ H₀ ex=>(aa 0)) (λ cl L s₀ H₀ ex=>(eu (zb (aa 0) (aa 1))))))))
abbrev gk:=Fu "powers_had" s_Q12 ["length","beat"] 5 F_Q12 2
abbrev s_Q06:Stmt:=top 28
theorem sc_first_rule:FnScope ["length","beat","product","power"] ["length","beat"] (af s_Q06):=by constructor<;>first|rfl|decide +kernel
theorem ok_Q06 {f:Addr}{fd:FuncData}(d:Df K mg "first_rule" s_Q06 ["length","beat"] f fd)(q_powers_had:gk P w K mg base ad)(q_prime_of:gh P w K mg base ad)(z_len:mg "len"=none):
  FnOk P w K mg base (CXe P w) 6 f fd ["length","beat"] (spD K (aG ad) F_Q06 2):=by
 have nd:=sc_first_rule.nd;refine Df.is cxe_ok ["length","beat","product","power"] 5 b_Q06 d sc_first_rule rfl rfl rfl λ cdv A outer s H E hr=>?_
 exact(aj (ay (i:=2) ai nd rfl (Or.inl rfl)) (aj (bG [0,1] (i:=3) (aL (aH q_powers_had.d q_powers_had.o hr (by decide) rfl (ae (aa 0) (ae (aa 1) ao)))) (au (rk (i:=2) (aH q_prime_of.d q_prime_of.o hr (by decide) rfl (ae (aa 3) ao)) nd rfl (Or.inl rfl))) nd rfl (Or.inl rfl)) (au (aZ (ig (aa 2) (bL z_len rfl (aa 1)))))))
abbrev gm:=Fu "first_rule" s_Q06 ["length","beat"] 6 F_Q06 2
abbrev s_Q17:Stmt:=top 30
theorem sc_turned:FnScope ["length","beat","by"] ["length","beat","by"] (af s_Q17):=by constructor<;>first|rfl|decide +kernel
theorem ok_Q17 {f:Addr}{fd:FuncData}(d:Df K mg "turned" s_Q17 ["length","beat","by"] f fd)(q_check_beat:cm P w K mg base ad)(q_made_beat:iE P w K mg base ad):
  FnOk P w K mg base (CXe P w) 4 f fd ["length","beat","by"] (spD K (aG ad) F_Q17 3):=by
 have nd:=sc_turned.nd;refine Df.is cxe_ok ["length","beat","by"] 3 b_Q17 d sc_turned rfl rfl rfl λ cdv A outer s H E hr=>?_
 exact(aj (dE (aH q_check_beat.d q_check_beat.o hr (by decide) rfl (ae (aa 0) (ae (aa 1) ao)))) (au (aZ (aH q_made_beat.d q_made_beat.o hr (by decide) rfl (ae (aa 0) (ae (bD (fs:=["by"]) (is:=[2]) (fe:=(Dv.eOp .add (Dv.eVar 0) (Dv.eVar 1))) (fc:=(Dv.eBl true)) (aA (fsc:=af s_Q17) (N:=["length","beat","by"]) rfl rfl (by decide +kernel)) (aL (aa 1)) (λ cl L s₀ H₀ ex=>(aU (aa 0) (aa 1))) (λ cl L s₀ H₀ ex=>cM)) ao))))))
abbrev m7:=Fu "turned" s_Q17 ["length","beat","by"] 4 F_Q17 3
abbrev s_Q11:Stmt:=top 35
theorem sc_places_filled:FnScope ["laid","filled","start","places","place"] ["laid"] (af s_Q11):=by constructor<;>first|rfl|decide +kernel
theorem ok_Q11 {f:Addr}{fd:FuncData}(d:Df K mg "places_filled" s_Q11 ["laid"] f fd):
  FnOk P w K mg base (CXe P w) 1 f fd ["laid"] (spD K (aG ad) F_Q11 1):=by
 have nd:=sc_places_filled.nd;refine Df.is cxe_ok ["laid","filled","start","places","place"] 0 b_Q11 d sc_places_filled rfl rfl rfl λ cdv A outer s H E hr=>?_
 exact(aj (ay (i:=1) mV nd rfl (Or.inl rfl)) (aj (iO [0] (aL (aa 0)) (pH (xs:=[2,3]) (cb (i:=2) (cb (i:=3) jd nd rfl (Or.inl rfl)) nd rfl (Or.inl rfl)) rfl) (au (bG [3] (i:=4) (aL (aa 3)) (au (wJ [] (i:=1) eJ (aa 4))) nd rfl (Or.inl rfl)))) (au (cU 1))))
abbrev eO:=Fu "places_filled" s_Q11 ["laid"] 1 F_Q11 1
abbrev s_Q18:Stmt:=top 36
theorem sc_ways_of:FnScope ["length","beat","falls","ways","place","starts"] ["length","beat"] (af s_Q18):=by constructor<;>first|rfl|decide +kernel
theorem ok_Q18 {f:Addr}{fd:FuncData}(d:Df K mg "ways_of" s_Q18 ["length","beat"] f fd)(q_turned:m7 P w K mg base ad)(z_range:mg "range"=none):
  FnOk P w K mg base (CXe P w) 5 f fd ["length","beat"] (spD K (aG ad) F_Q18 2):=by
 have nd:=sc_ways_of.nd;refine Df.is cxe_ok ["length","beat","falls","ways","place","starts"] 4 b_Q18 d sc_ways_of rfl rfl rfl λ cdv A outer s H E hr=>?_
 exact(aj (dv [0,1] (i:=2) (bD (fs:=["length","beat"]) (is:=[0,1]) (fe:=(Dv.eCall F_Q17 (Dv.lCons (Dv.eVar 1) (Dv.lCons (Dv.eVar 2) (Dv.lCons (Dv.eVar 0) Dv.lNil))))) (fc:=(Dv.eBl true)) (aA (fsc:=af s_Q18) (N:=["length","beat","falls","ways","place","starts"]) rfl rfl (by decide +kernel)) (cj rfl z_range (aa 0)) (λ cl L s₀ H₀ ex=>(aH q_turned.d q_turned.o hr (by decide) rfl (ae (aa 1) (ae (aa 2) (ae (aa 0) ao))))) (λ cl L s₀ H₀ ex=>cM)) nd rfl (Or.inr rfl)) (aj (ay (i:=3) (aV ao) nd rfl (Or.inl rfl)) (aj (bG [] (i:=4) (cj rfl z_range (aa 0)) (aj (gj (i:=5) (fs:=["length","place"]) (is:=[0,4]) (fe:=(Dv.eOp .mod (Dv.eOp .sub (Dv.eVar 2) (Dv.eVar 0)) (Dv.eVar 1))) (fc:=(Dv.eBl true)) (aA (fsc:=af s_Q18) (N:=["length","beat","falls","ways","place","starts"]) rfl rfl (by decide +kernel)) (aL (aa 1)) (λ cl L s₀ H₀ ex=>(aY (eA (aa 2) (aa 0)) (aa 1))) (λ cl L s₀ H₀ ex=>cM) nd rfl rfl) (au (ya [2,5] (i:=3) (bD (fs:=["falls"]) (is:=[2]) (fe:=(Dv.eTup (Dv.lCons (Dv.eVar 0) (Dv.lCons (Dv.eIx (Dv.eVar 1) (Dv.eVar 0)) Dv.lNil)))) (fc:=(Dv.eBl true)) (aA (fsc:=af s_Q18) (N:=["length","beat","falls","ways","place","starts"]) rfl rfl (by decide +kernel)) (aL (aa 5)) (λ cl L s₀ H₀ ex=>(jm (ae (aa 0) (ae (bF (aa 1) (aa 0)) ao)))) (λ cl L s₀ H₀ ex=>cM))))) nd rfl (Or.inr rfl)) (au (cU 3)))))
abbrev j1:=Fu "ways_of" s_Q18 ["length","beat"] 5 F_Q18 2
abbrev s_Q04:Stmt:=top 39
theorem sc_count_divides:FnScope ["length","beat"] ["length","beat"] (af s_Q04):=by constructor<;>first|rfl|decide +kernel
theorem ok_Q04 {f:Addr}{fd:FuncData}(d:Df K mg "count_divides" s_Q04 ["length","beat"] f fd)(q_check_beat:cm P w K mg base ad)(z_len:mg "len"=none):
  FnOk P w K mg base (CXe P w) 3 f fd ["length","beat"] (spD K (aG ad) F_Q04 2):=by
 have nd:=sc_count_divides.nd;refine Df.is cxe_ok ["length","beat"] 2 b_Q04 d sc_count_divides rfl rfl rfl λ cdv A outer s H E hr=>?_
 exact(aj (dE (aH q_check_beat.d q_check_beat.o hr (by decide) rfl (ae (aa 0) (ae (aa 1) ao)))) (au (aZ (ig (aY (aa 0) (bL z_len rfl (aa 1))) ai))))
abbrev eK:=Fu "count_divides" s_Q04 ["length","beat"] 3 F_Q04 2
abbrev s_Q0I:Stmt:=top 42
theorem sc_law_draws:FnScope ["_law_script","_law_many","_law_left","_law_found","_law_k","_law_at","_law_one","_law_other"] ["_law_script","_law_many"] (af s_Q0I):=by constructor<;>first|rfl|decide +kernel
theorem ok_Q0I {f:Addr}{fd:FuncData}(d:Df K mg "_law_draws" s_Q0I ["_law_script","_law_many"] f fd)(z_int:mg "int"=none)(z_range:mg "range"=none)(z_len:mg "len"=none):
  FnOk P w K mg base (CXe P w) 1 f fd ["_law_script","_law_many"] (spD K (aG ad) F_Q0I 2):=by
 have nd:=sc_law_draws.nd;refine Df.is cxe_ok ["_law_script","_law_many","_law_left","_law_found","_law_k","_law_at","_law_one","_law_other"] 0 b_Q0I d sc_law_draws rfl rfl rfl λ cdv A outer s H E hr=>?_
 exact(aj (ay (i:=2) (aU (cH (aa 0) dB (dA ai)) (br (aV (ae ai ao)) (yz z_int rfl (ig (aa 0) (aV ao))))) nd rfl (Or.inl rfl)) (aj (ay (i:=3) (aV ao) nd rfl (Or.inl rfl)) (aj (bG [] (i:=4) (cj rfl z_range (aa 1)) (aj (ay (i:=5) (aY (aa 4) (bL z_len rfl (aa 2))) nd rfl (Or.inl rfl)) (au (bC (jg (eX (yO (bF (aa 2) (aa 5)) (lD ai ai)) (dh _ (mL (bF (aa 2) (aa 5)) (eA ai (lD ai ai)))))) (aj (jr (i:=3) (aY (bF (aa 2) (aa 5)) (lD ai ai))) (au (je (i:=2) (d8 (bF (aa 2) (aa 5)) (lD ai ai)) (aa 5)))) (aj (ay (i:=6) (aY (aU (aU (aU (br (bF (aa 2) (aa 5)) ai) (br (br (aa 4) (aa 4)) ai)) (br ai (aa 4))) ai) ai) nd rfl (Or.inl rfl)) (aj (ay (i:=7) (aY (aU (br (aa 6) (aa 6)) (br (aa 4) ai)) ai) nd rfl (Or.inl rfl)) (au (jr (i:=3) (aU (br (aY (br (aa 6) (aa 7)) ai) ai) (aa 7))))))))) nd rfl (Or.inl rfl)) (au (cU 3)))))
abbrev ir:=Fu "_law_draws" s_Q0I ["_law_script","_law_many"] 1 F_Q0I 2
abbrev s_Q0G:Stmt:=top 43
theorem sc_law_cell:FnScope ["_law_draws_here","_law_k"] ["_law_draws_here","_law_k"] (af s_Q0G):=by constructor<;>first|rfl|decide +kernel
theorem ok_Q0G {f:Addr}{fd:FuncData}(d:Df K mg "_law_cell" s_Q0G ["_law_draws_here","_law_k"] f fd):
  FnOk P w K mg base (CXe P w) 1 f fd ["_law_draws_here","_law_k"] (spD K (aG ad) F_Q0H 2):=by
 have nd:=sc_law_cell.nd;refine Df.is cxe_ok ["_law_draws_here","_law_k"] 0 b_Q0H d sc_law_cell rfl rfl rfl λ cdv A outer s H E hr=>?_
 exact(au (aZ (bF (aa 0) (aa 1))))
abbrev d9:=Fu "_law_cell" s_Q0G ["_law_draws_here","_law_k"] 1 F_Q0H 2
abbrev s_Q0V:Stmt:=top 44
theorem sc_law_whole:FnScope ["_law_found"] ["_law_found"] (af s_Q0V):=by constructor<;>first|rfl|decide +kernel
theorem ok_Q0V {f:Addr}{fd:FuncData}(d:Df K mg "_law_whole" s_Q0V ["_law_found"] f fd)(z_isinstance:mg "isinstance"=none)(z_int:mg "int"=none)(z_bool:mg "bool"=none):
  FnOk P w K mg base (CXe P w) 1 f fd ["_law_found"] (spD K (aG ad) F_Q0V 1):=by
 have nd:=sc_law_whole.nd;refine Df.is cxe_ok ["_law_found"] 0 b_Q0V d sc_law_whole rfl rfl rfl λ cdv A outer s H E hr=>?_
 exact(au (aZ (vO (vC z_isinstance z_int rfl rfl (aa 0)) (vp (Ab (rO z_isinstance z_bool rfl rfl (aa 0)))))))
abbrev ip:=Fu "_law_whole" s_Q0V ["_law_found"] 1 F_Q0V 1
abbrev s_Q0D:Stmt:=top 45
theorem sc_law_beat_is:FnScope ["_law_found","_law_due","_law_one","_law_other"] ["_law_found","_law_due"] (af s_Q0D):=by constructor<;>first|rfl|decide +kernel
theorem ok_Q0D {f:Addr}{fd:FuncData}(d:Df K mg "_law_beat_is" s_Q0D ["_law_found","_law_due"] f fd)(q_law_whole:ip P w K mg base ad)(z_isinstance:mg "isinstance"=none)(z_list:mg "list"=none)(z_len:mg "len"=none)(z_zip:mg "zip"=none):
  FnOk P w K mg base (CXe P w) 2 f fd ["_law_found","_law_due"] (spD K (aG ad) F_Q0D 2):=by
 have nd:=sc_law_beat_is.nd;refine Df.is cxe_ok ["_law_found","_law_due","_law_one","_law_other"] 1 b_Q0D d sc_law_beat_is rfl rfl rfl λ cdv A outer s H E hr=>?_
 exact(aj (bC (jg (eX (fU (cX (tP z_isinstance z_list rfl rfl (aa 0)))) (dh _ (js (bL z_len rfl (aa 0)) (bL z_len rfl (aa 1)))))) (au (aZ eJ)) bj) (aj (iO [0,1] (Am rfl z_zip (aa 0) (aa 1)) (pH (xs:=[2,3]) (cb (i:=2) (cb (i:=3) jd nd rfl (Or.inl rfl)) nd rfl (Or.inl rfl)) rfl) (au (bC (jg (eX (fU (cX (aH q_law_whole.d q_law_whole.o hr (by decide) rfl (ae (aa 2) ao)))) (dh _ (js (aa 2) (aa 3))))) (au (aZ eJ)) bj))) (au (aZ eJ))))
abbrev fK:=Fu "_law_beat_is" s_Q0D ["_law_found","_law_due"] 2 F_Q0D 2
abbrev s_Q0S:Stmt:=top 46
theorem sc_law_some:FnScope ["_law_script","_law_start","_law_length","_law_bits","_law_share","_law_found","_law_place","_law_bit"] ["_law_script","_law_start","_law_length"] (af s_Q0S):=by constructor<;>first|rfl|decide +kernel
theorem ok_Q0S {f:Addr}{fd:FuncData}(d:Df K mg "_law_some" s_Q0S ["_law_script","_law_start","_law_length"] f fd)(q_law_cell:d9 P w K mg base ad)(z_range:mg "range"=none)(z_max:mg "max"=none):
  FnOk P w K mg base (CXe P w) 2 f fd ["_law_script","_law_start","_law_length"] (spD K (aG ad) F_Q0T 3):=by
 have nd:=sc_law_some.nd;refine Df.is cxe_ok ["_law_script","_law_start","_law_length","_law_bits","_law_share","_law_found","_law_place","_law_bit"] 1 b_Q0T d sc_law_some rfl rfl rfl λ cdv A outer s H E hr=>?_
 exact(aj (ay (i:=3) (aY (br (aH q_law_cell.d q_law_cell.o hr (by decide) rfl (ae (aa 0) (ae (aa 1) ao))) ai) ai) nd rfl (Or.inl rfl)) (aj (ay (i:=4) (aY (aH q_law_cell.d q_law_cell.o hr (by decide) rfl (ae (aa 0) (ae (aU (aa 1) ai) ao))) ai) nd rfl (Or.inl rfl)) (aj (ay (i:=5) (aV ao) nd rfl (Or.inl rfl)) (aj (bG [] (i:=6) (cj rfl z_range (aa 2)) (aj (ay (i:=7) (aY (pE (aa 3) (aa 6)) ai) nd rfl (Or.inl rfl)) (aj (bC (c8 (aa 4) ai) (au (ay (i:=7) (br (aa 7) (aY (pE (aa 3) (aY (aU (aa 6) ai) ai)) ai)) nd rfl (Or.inl rfl))) bj) (aj (bC (c8 (aa 4) ai) (au (ay (i:=7) (wH z_max rfl (aa 7) (aY (pE (aa 3) (aY (aU (aa 6) ai) ai)) ai)) nd rfl (Or.inl rfl))) bj) (au (bC (c8 (aa 7) ai) (au (jr (i:=5) (aa 6))) bj))))) nd rfl (Or.inl rfl)) (aj (bC (c8 (aa 5) (aV ao)) (au (jr (i:=5) (aY (d8 (aH q_law_cell.d q_law_cell.o hr (by decide) rfl (ae (aa 0) (ae (aU (aa 1) ai) ao))) ai) (aa 2)))) bj) (au (cU 5)))))))
abbrev jA:=Fu "_law_some" s_Q0S ["_law_script","_law_start","_law_length"] 2 F_Q0T 3
abbrev s_Q0U:Stmt:=top 47
theorem sc_law_turned:FnScope ["_law_length","_law_beat","_law_by"] ["_law_length","_law_beat","_law_by"] (af s_Q0U):=by constructor<;>first|rfl|decide +kernel
theorem ok_Q0U {f:Addr}{fd:FuncData}(d:Df K mg "_law_turned" s_Q0U ["_law_length","_law_beat","_law_by"] f fd)(z_sorted:mg "sorted"=none):
  FnOk P w K mg base (CXe P w) 1 f fd ["_law_length","_law_beat","_law_by"] (spD K (aG ad) F_Q0U 3):=by
 have nd:=sc_law_turned.nd;refine Df.is cxe_ok ["_law_length","_law_beat","_law_by"] 0 b_Q0U d sc_law_turned rfl rfl rfl λ cdv A outer s H E hr=>?_
 exact(au (aZ (cA z_sorted rfl (bD (fs:=["_law_length","_law_by"]) (is:=[0,2]) (fe:=(Dv.eOp .mod (Dv.eOp .add (Dv.eVar 0) (Dv.eVar 2)) (Dv.eVar 1))) (fc:=(Dv.eBl true)) (aA (fsc:=af s_Q0U) (N:=["_law_length","_law_beat","_law_by"]) rfl rfl (by decide +kernel)) (aL (aa 1)) (λ cl L s₀ H₀ ex=>(aY (aU (aa 0) (aa 2)) (aa 1))) (λ cl L s₀ H₀ ex=>cM)))))
abbrev gB:=Fu "_law_turned" s_Q0U ["_law_length","_law_beat","_law_by"] 1 F_Q0U 3
abbrev s_Q0B:Stmt:=top 48
theorem sc_law_again:FnScope ["_law_length","_law_beat","_law_times","_law_found","_law_k"] ["_law_length","_law_beat","_law_times"] (af s_Q0B):=by constructor<;>first|rfl|decide +kernel
theorem ok_Q0B {f:Addr}{fd:FuncData}(d:Df K mg "_law_again" s_Q0B ["_law_length","_law_beat","_law_times"] f fd)(z_range:mg "range"=none):
  FnOk P w K mg base (CXe P w) 1 f fd ["_law_length","_law_beat","_law_times"] (spD K (aG ad) F_Q0B 3):=by
 have nd:=sc_law_again.nd;refine Df.is cxe_ok ["_law_length","_law_beat","_law_times","_law_found","_law_k"] 0 b_Q0B d sc_law_again rfl rfl rfl λ cdv A outer s H E hr=>?_
 exact(aj (ay (i:=3) (aV ao) nd rfl (Or.inl rfl)) (aj (bG [] (i:=4) (cj rfl z_range (aa 2)) (au (ay (i:=3) (aU (aa 3) (bD (fs:=["_law_k","_law_length"]) (is:=[4,0]) (fe:=(Dv.eOp .add (Dv.eVar 0) (Dv.eOp .mul (Dv.eVar 1) (Dv.eVar 2)))) (fc:=(Dv.eBl true)) (aA (fsc:=af s_Q0B) (N:=["_law_length","_law_beat","_law_times","_law_found","_law_k"]) rfl rfl (by decide +kernel)) (aL (aa 1)) (λ cl L s₀ H₀ ex=>(aU (aa 0) (br (aa 1) (aa 2)))) (λ cl L s₀ H₀ ex=>cM))) nd rfl (Or.inl rfl))) nd rfl (Or.inr rfl)) (au (cU 3))))
abbrev ic:=Fu "_law_again" s_Q0B ["_law_length","_law_beat","_law_times"] 1 F_Q0B 3
abbrev s_Q0Q:Stmt:=top 49
theorem sc_law_pair:FnScope ["_law_script","_law_start","_law_length","_law_one","_law_other","_law_k","_law_number","_law_times","_law_kind","_law_more","_law_j"] ["_law_script","_law_start"] (af s_Q0Q):=by constructor<;>first|rfl|decide +kernel
theorem ok_Q0Q {f:Addr}{fd:FuncData}(d:Df K mg "_law_pair" s_Q0Q ["_law_script","_law_start"] f fd)(q_law_cell:d9 P w K mg base ad)(q_law_again:ic P w K mg base ad)(q_law_turned:gB P w K mg base ad)(z_range:mg "range"=none)(z_sorted:mg "sorted"=none):
  FnOk P w K mg base (CXe P w) 2 f fd ["_law_script","_law_start"] (spD K (aG ad) F_Q0R 2):=by
 have nd:=sc_law_pair.nd;refine Df.is cxe_ok ["_law_script","_law_start","_law_length","_law_one","_law_other","_law_k","_law_number","_law_times","_law_kind","_law_more","_law_j"] 1 b_Q0R d sc_law_pair rfl rfl rfl λ cdv A outer s H E hr=>?_
 exact(aj (ay (i:=2) ai nd rfl (Or.inl rfl)) (aj (ay (i:=3) (aV (ae ai ao)) nd rfl (Or.inl rfl)) (aj (ay (i:=4) (aV (ae ai ao)) nd rfl (Or.inl rfl)) (aj (bG [] (i:=5) (cj rfl z_range ai) (aj (ay (i:=6) (aY (br (aH q_law_cell.d q_law_cell.o hr (by decide) rfl (ae (aa 0) (ae (aU (aa 1) (aa 5)) ao))) ai) ai) nd rfl (Or.inl rfl)) (aj (ay (i:=7) (bF (aV (ae ai (ae ai (ae ai (ae ai (ae ai (ae ai (ae ai ao)))))))) (aY (aa 6) ai)) nd rfl (Or.inr rfl)) (aj (ay (i:=8) (aY (d8 (aa 6) ai) ai) nd rfl (Or.inl rfl)) (aj (bC (yS (br (aa 2) (aa 7)) ai) (aj (bC (mL (aa 8) ai) (au (ay (i:=3) (aH q_law_again.d q_law_again.o hr (by decide) rfl (ae (aa 2) (ae (aa 3) (ae (aa 7) ao)))) nd rfl (Or.inl rfl))) (aj (ay (i:=9) (aV ao) nd rfl (Or.inl rfl)) (aj (bG [] (i:=10) (cj rfl z_range (aa 7)) (au (ay (i:=9) (aU (aa 9) (bD (fs:=["_law_j","_law_times"]) (is:=[10,7]) (fe:=(Dv.eOp .add (Dv.eOp .mul (Dv.eVar 0) (Dv.eVar 2)) (Dv.eVar 1))) (fc:=(Dv.eBl true)) (aA (fsc:=af s_Q0Q) (N:=["_law_script","_law_start","_law_length","_law_one","_law_other","_law_k","_law_number","_law_times","_law_kind","_law_more","_law_j"]) rfl rfl (by decide +kernel)) (aL (aa 3)) (λ cl L s₀ H₀ ex=>(aU (br (aa 0) (aa 2)) (aa 1))) (λ cl L s₀ H₀ ex=>cM))) nd rfl (Or.inl rfl))) nd rfl (Or.inr rfl)) (aj (ay (i:=3) (cA z_sorted rfl (aa 9)) nd rfl (Or.inl rfl)) (au (gj (i:=4) (fs:=["_law_times"]) (is:=[7]) (fe:=(Dv.eOp .mul (Dv.eVar 0) (Dv.eVar 1))) (fc:=(Dv.eBl true)) (aA (fsc:=af s_Q0Q) (N:=["_law_script","_law_start","_law_length","_law_one","_law_other","_law_k","_law_number","_law_times","_law_kind","_law_more","_law_j"]) rfl rfl (by decide +kernel)) (aL (aa 4)) (λ cl L s₀ H₀ ex=>(br (aa 0) (aa 1))) (λ cl L s₀ H₀ ex=>cM) nd rfl rfl)))))) (au (ay (i:=2) (br (aa 2) (aa 7)) nd rfl (Or.inl rfl)))) bj) (au (bC (c8 (aY (d8 (aa 6) ai) ai) ai) (au (AZ [3,4] (i:=3) (j:=4) (aa 4) (aa 3) nd rfl rfl (by decide) rfl rfl)) bj)))))) nd rfl (Or.inl rfl)) (aj (ay (i:=3) (aH q_law_turned.d q_law_turned.o hr (by decide) rfl (ae (aa 2) (ae (aa 3) (ae (aY (aH q_law_cell.d q_law_cell.o hr (by decide) rfl (ae (aa 0) (ae (aU (aa 1) ai) ao))) (aa 2)) ao)))) nd rfl (Or.inl rfl)) (au (aZ (jm (ae (aa 2) (ae (aa 3) (ae (aH q_law_turned.d q_law_turned.o hr (by decide) rfl (ae (aa 2) (ae (aa 4) (ae (aY (aH q_law_cell.d q_law_cell.o hr (by decide) rfl (ae (aa 0) (ae (aU (aa 1) ai) ao))) (aa 2)) ao)))) ao)))))))))))
abbrev jc:=Fu "_law_pair" s_Q0Q ["_law_script","_law_start"] 2 F_Q0R 2
abbrev s_Q0L:Stmt:=top 50
theorem sc_law_fills:FnScope ["_law_length","_law_beat","_law_starts","_law_counts","_law_start","_law_place","_law_at"] ["_law_length","_law_beat","_law_starts"] (af s_Q0L):=by constructor<;>first|rfl|decide +kernel
theorem ok_Q0L {f:Addr}{fd:FuncData}(d:Df K mg "_law_fills" s_Q0L ["_law_length","_law_beat","_law_starts"] f fd):
  FnOk P w K mg base (CXe P w) 1 f fd ["_law_length","_law_beat","_law_starts"] (spD K (aG ad) F_Q0L 3):=by
 have nd:=sc_law_fills.nd;refine Df.is cxe_ok ["_law_length","_law_beat","_law_starts","_law_counts","_law_start","_law_place","_law_at"] 0 b_Q0L d sc_law_fills rfl rfl rfl λ cdv A outer s H E hr=>?_
 exact(aj (ay (i:=3) (br (aV (ae ai ao)) (aa 0)) nd rfl (Or.inl rfl)) (aj (bG [2] (i:=4) (aL (aa 2)) (au (bG [1] (i:=5) (aL (aa 1)) (aj (ay (i:=6) (aY (aU (aa 4) (aa 5)) (aa 0)) nd rfl (Or.inl rfl)) (au (je (i:=3) (aU (bF (aa 3) (aa 6)) ai) (aa 6)))) nd rfl (Or.inl rfl))) nd rfl (Or.inl rfl)) (au (aZ (ig (aa 3) (br (aV (ae ai ao)) (aa 0)))))))
abbrev iB:=Fu "_law_fills" s_Q0L ["_law_length","_law_beat","_law_starts"] 1 F_Q0L 3
abbrev s_Q0C:Stmt:=top 51
theorem sc_law_all:FnScope ["_law_length","_law_beat","_law_rows","_law_k","_law_longer","_law_row"] ["_law_length","_law_beat"] (af s_Q0C):=by constructor<;>first|rfl|decide +kernel
theorem ok_Q0C {f:Addr}{fd:FuncData}(d:Df K mg "_law_all" s_Q0C ["_law_length","_law_beat"] f fd)(q_law_fills:iB P w K mg base ad)(z_len:mg "len"=none)(z_range:mg "range"=none):
  FnOk P w K mg base (CXe P w) 2 f fd ["_law_length","_law_beat"] (spD K (aG ad) F_Q0C 2):=by
 have nd:=sc_law_all.nd;refine Df.is cxe_ok ["_law_length","_law_beat","_law_rows","_law_k","_law_longer","_law_row"] 1 b_Q0C d sc_law_all rfl rfl rfl λ cdv A outer s H E hr=>?_
 exact(aj (bC (js (aY (aa 0) (bL z_len rfl (aa 1))) ai) (au (aZ (aV ao))) bj) (aj (dv [] (i:=2) (aV (ae (aV (ae ai ao)) ao)) nd rfl (Or.inl rfl)) (aj (bG [1] (i:=3) (cj rfl z_range (eA (d8 (aa 0) (bL z_len rfl (aa 1))) ai)) (aj (dv [] (i:=4) (aV ao) nd rfl (Or.inl rfl)) (aj (bG [2] (i:=5) (aL (aa 2)) (au (dv [0,4,5] (i:=4) (aU (aa 4) (bD (fs:=["_law_row"]) (is:=[5]) (fe:=(Dv.eOp .add (Dv.eVar 1) (Dv.eLst (Dv.lCons (Dv.eVar 0) Dv.lNil)))) (fc:=(Dv.eBl true)) (aA (fsc:=af s_Q0C) (N:=["_law_length","_law_beat","_law_rows","_law_k","_law_longer","_law_row"]) rfl rfl (by decide +kernel)) (kT rfl z_range (aU (bF (aa 5) (eC ai)) ai) (aa 0)) (λ cl L s₀ H₀ ex=>(aU (aa 1) (aV (ae (aa 0) ao)))) (λ cl L s₀ H₀ ex=>cM))) nd rfl (Or.inl rfl))) nd rfl (Or.inr rfl)) (au (dv [4] (i:=2) (aa 4) nd rfl (Or.inl rfl))))) nd rfl (Or.inl rfl)) (au (aZ (bD (fs:=["_law_length","_law_beat"]) (is:=[0,1]) (fe:=(Dv.eVar 0)) (fc:=(Dv.eCall F_Q0L (Dv.lCons (Dv.eVar 1) (Dv.lCons (Dv.eVar 2) (Dv.lCons (Dv.eVar 0) Dv.lNil))))) (aA (fsc:=af s_Q0C) (N:=["_law_length","_law_beat","_law_rows","_law_k","_law_longer","_law_row"]) rfl rfl (by decide +kernel)) (aL (aa 2)) (λ cl L s₀ H₀ ex=>(aa 0)) (λ cl L s₀ H₀ ex=>(eu (cX (aH q_law_fills.d q_law_fills.o hr (by decide) rfl (ae (aa 1) (ae (aa 2) (ae (aa 0) ao)))))))))))))
abbrev kg:=Fu "_law_all" s_Q0C ["_law_length","_law_beat"] 2 F_Q0C 2
abbrev s_Q0E:Stmt:=top 52
theorem sc_law_case:FnScope ["_law_script","_law_length","_law_beat","_law_starts","_law_kind","_law_place"] ["_law_script"] (af s_Q0E):=by constructor<;>first|rfl|decide +kernel
theorem ok_Q0E {f:Addr}{fd:FuncData}(d:Df K mg "_law_case" s_Q0E ["_law_script"] f fd)(q_law_pair:jc P w K mg base ad)(q_law_cell:d9 P w K mg base ad)(q_law_some:jA P w K mg base ad)(z_sorted:mg "sorted"=none):
  FnOk P w K mg base (CXe P w) 3 f fd ["_law_script"] (spD K (aG ad) F_Q0F 1):=by
 have nd:=sc_law_case.nd;refine Df.is cxe_ok ["_law_script","_law_length","_law_beat","_law_starts","_law_kind","_law_place"] 2 b_Q0F d sc_law_case rfl rfl rfl λ cdv A outer s H E hr=>?_
 exact(aj (r6 [0] (xs:=[1,2,3]) (aH q_law_pair.d q_law_pair.o hr (by decide) rfl (ae (aa 0) (ae ai ao))) (cb (i:=1) (cb (i:=2) (cb (i:=3) jd nd rfl (Or.inl rfl)) nd rfl (Or.inl rfl)) nd rfl (Or.inl rfl)) rfl) (aj (ay (i:=4) (aY (aH q_law_cell.d q_law_cell.o hr (by decide) rfl (ae (aa 0) (ae ai ao))) ai) nd rfl (Or.inl rfl)) (aj (bC (c8 (aa 4) ai) (aj (ay (i:=1) (aU ai (aY (d8 (aH q_law_cell.d q_law_cell.o hr (by decide) rfl (ae (aa 0) (ae ai ao))) ai) ai)) nd rfl (Or.inl rfl)) (au (ay (i:=2) (aH q_law_some.d q_law_some.o hr (by decide) rfl (ae (aa 0) (ae ai (ae (aa 1) ao)))) nd rfl (Or.inl rfl)))) bj) (aj (bC (c8 (aa 4) ai) (aj (ay (i:=5) (aY (d8 (aH q_law_cell.d q_law_cell.o hr (by decide) rfl (ae (aa 0) (ae ai ao))) ai) (aa 1)) nd rfl (Or.inl rfl)) (au (bC (mO (aa 5) (aa 2)) (au (ay (i:=2) (cA z_sorted rfl (aU (cH (aa 2) (dA ai) dB) (aV (ae (aa 5) ao)))) nd rfl (Or.inl rfl))) bj))) bj) (au (aZ (aV (ae (aa 1) (ae (aa 2) ao)))))))))
abbrev jM:=Fu "_law_case" s_Q0E ["_law_script"] 3 F_Q0F 1
abbrev s_Q0J:Stmt:=top 53
theorem sc_law_filled:FnScope ["_law_length","_law_beat","_law_starts","_law_found","_law_start","_law_place"] ["_law_length","_law_beat","_law_starts"] (af s_Q0J):=by constructor<;>first|rfl|decide +kernel
theorem ok_Q0J {f:Addr}{fd:FuncData}(d:Df K mg "_law_filled" s_Q0J ["_law_length","_law_beat","_law_starts"] f fd):
  FnOk P w K mg base (CXe P w) 1 f fd ["_law_length","_law_beat","_law_starts"] (spD K (aG ad) F_Q0K 3):=by
 have nd:=sc_law_filled.nd;refine Df.is cxe_ok ["_law_length","_law_beat","_law_starts","_law_found","_law_start","_law_place"] 0 b_Q0K d sc_law_filled rfl rfl rfl λ cdv A outer s H E hr=>?_
 exact(aj (ay (i:=3) (br (aV (ae eJ ao)) (aa 0)) nd rfl (Or.inl rfl)) (aj (bG [2] (i:=4) (aL (aa 2)) (au (bG [1] (i:=5) (aL (aa 1)) (au (je (i:=3) eJ (aY (aU (aa 4) (aa 5)) (aa 0)))) nd rfl (Or.inl rfl))) nd rfl (Or.inl rfl)) (au (cU 3))))
abbrev gw:=Fu "_law_filled" s_Q0J ["_law_length","_law_beat","_law_starts"] 1 F_Q0K 3
abbrev s_Q0P:Stmt:=top 54
theorem sc_law_none:FnScope ["_law_some_here","_law_starts","_law_row"] ["_law_some_here","_law_starts"] (af s_Q0P):=by constructor<;>first|rfl|decide +kernel
theorem ok_Q0P {f:Addr}{fd:FuncData}(d:Df K mg "_law_none" s_Q0P ["_law_some_here","_law_starts"] f fd):
  FnOk P w K mg base (CXe P w) 1 f fd ["_law_some_here","_law_starts"] (spD K (aG ad) F_Q0P 2):=by
 have nd:=sc_law_none.nd;refine Df.is cxe_ok ["_law_some_here","_law_starts","_law_row"] 0 b_Q0P d sc_law_none rfl rfl rfl λ cdv A outer s H E hr=>?_
 exact(aj (bG [0] (i:=2) (aL (aa 0)) (au (bC (c8 (bD (fs:=["_law_row"]) (is:=[2]) (fe:=(Dv.eVar 0)) (fc:=(Dv.eCm .notin (Dv.eVar 0) (Dv.eVar 1))) (aA (fsc:=af s_Q0P) (N:=["_law_some_here","_law_starts","_law_row"]) rfl rfl (by decide +kernel)) (aL (aa 1)) (λ cl L s₀ H₀ ex=>(aa 0)) (λ cl L s₀ H₀ ex=>(eu (mO (aa 0) (aa 1))))) (aV ao)) (au (aZ eJ)) bj)) nd rfl (Or.inr rfl)) (au (aZ eJ)))
abbrev iT:=Fu "_law_none" s_Q0P ["_law_some_here","_law_starts"] 1 F_Q0P 2
abbrev s_Q0M:Stmt:=top 55
theorem sc_law_first:FnScope ["_law_length","_law_beat","_law_starts","_law_some_here","_law_done","_law_filled_here","_law_place","_law_own","_law_start","_law_twice"] ["_law_length","_law_beat","_law_starts","_law_some_here"] (af s_Q0M):=by constructor<;>first|rfl|decide +kernel
theorem ok_Q0M {f:Addr}{fd:FuncData}(d:Df K mg "_law_first" s_Q0M ["_law_length","_law_beat","_law_starts","_law_some_here"] f fd)(q_law_filled:gw P w K mg base ad)(q_law_none:iT P w K mg base ad)(z_len:mg "len"=none)(z_sorted:mg "sorted"=none):
  FnOk P w K mg base (CXe P w) 2 f fd ["_law_length","_law_beat","_law_starts","_law_some_here"] (spD K (aG ad) F_Q0N 4):=by
 have nd:=sc_law_first.nd;refine Df.is cxe_ok ["_law_length","_law_beat","_law_starts","_law_some_here","_law_done","_law_filled_here","_law_place","_law_own","_law_start","_law_twice"] 1 b_Q0N d sc_law_first rfl rfl rfl λ cdv A outer s H E hr=>?_
 exact(aj (ay (i:=4) (aV (ae ai ao)) nd rfl (Or.inl rfl)) (aj (nN 100000 (mL (bL z_len rfl (aa 4)) (bL z_len rfl (aa 2))) (aj (ay (i:=5) (aH q_law_filled.d q_law_filled.o hr (by decide) rfl (ae (aa 0) (ae (aa 1) (ae (aa 4) ao)))) nd rfl (Or.inr rfl)) (aj (ay (i:=6) (vU (aa 5) eJ) nd rfl (Or.inl rfl)) (au (bG [1] (i:=7) (aL (aa 1)) (aj (ay (i:=8) (aY (eA (aa 6) (aa 7)) (aa 0)) nd rfl (Or.inr rfl)) (aj (bC (zb (aa 8) (aa 2)) (aj (jr (i:=4) (aa 8)) (au uW)) bj) (aj (gj (i:=9) (fs:=["_law_filled_here","_law_length","_law_start"]) (is:=[5,0,8]) (fe:=(Dv.eInt 1)) (fc:=(Dv.eIx (Dv.eVar 1) (Dv.eOp .mod (Dv.eOp .add (Dv.eVar 3) (Dv.eVar 0)) (Dv.eVar 2)))) (aA (fsc:=af s_Q0M) (N:=["_law_length","_law_beat","_law_starts","_law_some_here","_law_done","_law_filled_here","_law_place","_law_own","_law_start","_law_twice"]) rfl rfl (by decide +kernel)) (aL (aa 1)) (λ cl L s₀ H₀ ex=>ai) (λ cl L s₀ H₀ ex=>(eu (cX (bF (aa 1) (aY (aU (aa 3) (aa 0)) (aa 2)))))) nd rfl rfl) (au (bC (jg (vS (c8 (aa 9) (aV ao)) (dh _ (fU (cX (aH q_law_none.d q_law_none.o hr (by decide) rfl (ae (aa 3) (ae (aU (aa 4) (aV (ae (aa 8) ao))) ao)))))))) (au (aZ eJ)) bj))))) nd rfl (Or.inl rfl)))))) (au (aZ (ig (cA z_sorted rfl (aa 4)) (aa 2))))))
abbrev iC:=Fu "_law_first" s_Q0M ["_law_length","_law_beat","_law_starts","_law_some_here"] 2 F_Q0N 4
abbrev bJ:Stmt:=L2.inClass (top 33) 0
abbrev bO:Stmt:=L2.inClass (top 34) 0
abbrev s_Q08:Stmt:=L2.inClass (top 34) 1
abbrev s_Q1A:Stmt:=L2.inClass (top 34) 2
theorem lL:FnScope ["self","laid","answers","at"] ["self","laid","answers","at"] (af bJ):=by constructor<;>first|rfl|decide +kernel
theorem k7:FnScope ["self","ways","laid"] ["self","ways","laid"] (af bO):=by constructor<;>first|rfl|decide +kernel
theorem sc_go_on:FnScope ["self","case","filled"] ["self"] (af s_Q08):=by constructor<;>first|rfl|decide +kernel
theorem sc_write_row:FnScope ["self","laid","filled","least","answers","found","way","twice"] ["self","laid","filled"] (af s_Q1A):=by constructor<;>first|rfl|decide +kernel
theorem lK {CW CC f:Addr}{fd:FuncData}(d:Mf K "__init__" "Case.__init__" bJ ["self","laid","answers","at"] f fd)(T:WkT K CW CC):FnOk P w K mg base (CXe P w) 1 f fd ["self","laid","answers","at"] (mE CC):=
 d.okL ["self","laid","answers","at"] 0 lL ua λ cdv A outer s H vs Q E hr h=>⟨_,aN (gd (pv 0) (pv 1) rfl) (aN (gd (pv 0) (pv 2) rfl) (bz (gd (pv 0) (pv 3) rfl))),wW T h⟩
theorem lM {CW CC f:Addr}{fd:FuncData}(d:Mf K "__init__" "Walk.__init__" bO ["self","ways","laid"] f fd)(T:WkT K CW CC){fC:Addr}{fdC:FuncData}(dC:Mf K "__init__" "Case.__init__" bJ ["self","laid","answers","at"] fC fdC)(oC:FnOk P w K mg base (CXe P w) 1 fC fdC ["self","laid","answers","at"] (mE CC))(MC:Mk K CC fC)(aC:mg "Case"=some (.ref CC)):FnOk P w K mg base (CXe P w) 3 f fd ["self","ways","laid"] (pj K CW CC):=
 d.okL ["self","ways","laid"] 2 k7 uN λ cdv A outer s H vs Q E hr h=>⟨_,aN (gd (pv 0) (pv 1) rfl) (aN (gd (pv 0) (fV (av (lG MC oC hr rfl aC dC.bd .nil mT (av (pv 2) (av (fV (av lU aF)) (av fZ aF)))) aF)) rfl) (aN (gd (pv 0) (fV aF) rfl) (bz (gd (pv 0) fZ rfl)))),wU T h⟩
theorem ok_Q1A {CW CC f:Addr}{fd:FuncData}(d:Mf K "write_row" "Walk.write_row" s_Q1A ["self","laid","filled"] f fd)(T:WkT K CW CC){fC:Addr}{fdC:FuncData}(dC:Mf K "__init__" "Case.__init__" bJ ["self","laid","answers","at"] fC fdC)(oC:FnOk P w K mg base (CXe P w) 1 fC fdC ["self","laid","answers","at"] (mE CC))(MC:Mk K CC fC)(aC:mg "Case"=some (.ref CC))(z_min:mg "min"=none)(z_range:mg "range"=none)(z_len:mg "len"=none):FnOk P w K mg base (CXe P w) 3 f fd ["self","laid","filled"] (sY K CW CC kW):=by
 have nd:=sc_write_row.nd;refine d.okL ["self","laid","filled","least","answers","found","way","twice"] 2 sc_write_row u5 λ cdv A outer s H vs Q E hr h=>?_
 exact hZ (C:=cZ (cxe_ok (P:=P) (w:=w)) (aG (λ _=>none)) K mg base ["self","laid","filled","least","answers","found","way","twice"] "Walk.write_row" (af s_Q1A) f cdv A outer s H E hr) (yp z_min rfl (bD (fs:=["filled"]) (is:=[2]) (fe:=(Dv.eVar 0)) (fc:=(Dv.eDnin (Dv.eVar 0) (Dv.eVar 1))) (aA (fsc:=af s_Q1A) (N:=["self","laid","filled","least","answers","found","way","twice"]) rfl rfl (by decide +kernel)) (cj rfl z_range (bL z_len rfl (nS (aa 0)))) (λ cl L s₀ H₀ ex=>(aa 0)) (λ cl L s₀ H₀ ex=>(eu (sd (aa 0) (aa 1)))))) λ tl pl ql=>hZ (C:=cZ (cxe_ok (P:=P) (w:=w)) (aG (λ _=>none)) K mg base ["self","laid","filled","least","answers","found","way","twice"] "Walk.write_row" (af s_Q1A) f cdv A outer s H E hr) (eC ai) λ tn pn qn=>⟨_,aN (dq (i:=3) nd rfl (Or.inl rfl) pl) (aN (dq (i:=4) nd rfl (Or.inl rfl) (fV aF)) (aN (dq (i:=5) nd rfl (Or.inl rfl) (fV aF)) (aN (nZ Hl rfl (pQ (vn ix_list (cv (pv 0) rfl) (pv 3) (λ _ _=>rfl))) (gy (i:=6) nd rfl (Or.inl rfl)) (aN (o6 (C:=cZ (cxe_ok (P:=P) (w:=w)) (aG (λ _=>none)) K mg base ["self","laid","filled","least","answers","found","way","twice"] "Walk.write_row" (af s_Q1A) f cdv A outer s H E hr) (i:=7) (fs:=["filled"]) (is:=[2]) (fe:=(Dv.eVar 0)) (fc:=(Dv.eB2 Dv.dinD (Dv.eVar 0) (Dv.eVar 1))) (aA (fsc:=af s_Q1A) (N:=["self","laid","filled","least","answers","found","way","twice"]) rfl rfl (by decide +kernel)) (aL (bF (aa 6) ai)) (λ cl L s₀ H₀ ex=>(aa 0)) (λ cl L s₀ H₀ ex=>(eu (Ax (aa 0) (aa 1)))) nd rfl rfl rfl (λ _=>rfl) rfl) (bz (kh (gH uD (b8 bT rfl z_len GI (av (pv 7) aF)) fZ (nomark _)) (bz (cS (iu Gi Gv Gw cV (pv 4) (av (gi (av gL (av (vn ix_list (pv 7) fZ (λ _ _=>rfl)) aF))) aF)))) (aN (cS (iu Gi Gv Gw cV (pv 5) (av (lG MC oC hr rfl aC dC.bd .nil mT (av (yU pO (pv 1) (fV (av (pv 6) aF))) (av (pv 4) (av (b8 bT rfl z_len GI (av (pv 4) aF)) aF)))) aF))) (bz (cS (iu Gi Gv Gw cV (pv 4) (av lU aF))))))))) (aN (cS (iu Gi Gv Gw cV (cv (pv 0) rfl) (av (gi (av (pv 3) (av (pv 4) aF))) aF))) (bz (cS (iu Gi PySem.F.slot_list_extend PySem.F.type_list_extend tf (cv (pv 0) rfl) (av (zC (pv 5) (qk pn)) aF)))))))),xZ (C:=cZ (cxe_ok (P:=P) (w:=w)) (aG (λ _=>none)) K mg base ["self","laid","filled","least","answers","found","way","twice"] "Walk.write_row" (af s_Q1A) f cdv A outer s H E hr) (k:=kW) T ql qn h⟩
theorem ok_Q08 {CW CC f:Addr}{fd:FuncData}(d:Mf K "go_on" "Walk.go_on" s_Q08 ["self"] f fd)(T:WkT K CW CC){fR:Addr}{fdR:FuncData}(dR:Mf K "write_row" "Walk.write_row" s_Q1A ["self","laid","filled"] fR fdR)(oR:FnOk P w K mg base (CXe P w) 3 fR fdR ["self","laid","filled"] (sY K CW CC kW))(mR:Meth K CW "write_row" fR)(q_places_filled:eO P w K mg base ad)(xa:XAll K mg ad){C_4:Addr}(h_3:ad "TooMany"=some C_4)(z_sorted:mg "sorted"=none)(z_len:mg "len"=none){t_MOST_CASES:Tok}(n_MOST_CASES:mg "MOST_CASES"=some (.int 2000 t_MOST_CASES)):FnOk P w K mg base (CXe P w) 4 f fd ["self"] (sI K CW CC (aG ad) kW):=by
 have nd:=sc_go_on.nd;refine d.okL ["self","case","filled"] 3 sc_go_on vD λ cdv A outer s H vs Q E hr h=>?_
 exact hZ (C:=cZ (cxe_ok (P:=P) (w:=w)) (aG ad) K mg base ["self","case","filled"] "Walk.go_on" (af s_Q08) f cdv A outer s H E hr) (aH q_places_filled.d q_places_filled.o hr (by decide) rfl (ae (nS (aa 1)) ao)) λ tp pp qp=>hZ (C:=cZ (cxe_ok (P:=P) (w:=w)) (aG ad) K mg base ["self","case","filled"] "Walk.go_on" (af s_Q08) f cdv A outer s H E hr) (cA z_sorted rfl (uR (ts:=["start","places"]) (fs:=[]) (is:=[]) (fe:=(Dv.eVar 0)) (fc:=(Dv.eBl true)) (aA (fsc:=af s_Q08) (N:=["self","case","filled"]) rfl rfl (by decide +kernel)) (.cons (.cons .nil)) (λ _=>rfl) (λ _=>rfl) (aL (nS (aa 1))) (λ cl L s₀ H₀ ex=>(aa 0)) (λ cl L s₀ H₀ ex=>cM))) λ ts pz qs=>⟨_,aN (kh (gH zc (cv (pv 0) rfl) (lx (v:=.int 2000) rfl n_MOST_CASES ⟨_,rfl⟩) (nomark _)) (bz (nB (xa.cl _ _ h_3).1 rfl (by decide) hr.hd)) gI) (aN (tz (pv 0) fZ Ba) (aN (dq (i:=1) nd rfl (Or.inl rfl) (zS Gi PySem.F.slot_list_pop PySem.F.type_list_pop AE (cv (pv 0) rfl))) (aN (dq (i:=2) nd rfl (Or.inl rfl) pp) (aN (kh (gH zc (b8 oK rfl z_len GI (av (pv 2) aF)) (b8 bT rfl z_len GI (av (cv (pv 0) rfl) aF)) (nomark _)) (bz (dJ pz)) gI) (aN (lu (gi (av gL (av (b8 bT rfl z_len GI (av (cv (pv 0) rfl) aF)) aF))) (uZ (cv (pv 1) rfl) (cv (pv 1) rfl) set_list)) (aN (cS (xc (pv 0) T.clW mR oR (hr.mono (by decide)) dR.bd .nil mT (av (cv (pv 1) rfl) (av (pv 2) aF)))) (bz (dJ lU)))))))),xI (C:=cZ (cxe_ok (P:=P) (w:=w)) (aG ad) K mg base ["self","case","filled"] "Walk.go_on" (af s_Q08) f cdv A outer s H E hr) (k:=kW) T (dO h_3) qp qs h⟩
abbrev s_Q07:Stmt:=top 37
theorem sc_first_that_fills:FnScope ["walk","found"] ["walk"] (af s_Q07):=by constructor<;>first|rfl|decide +kernel
theorem ok_Q07 {CW CC f:Addr}{fd:FuncData}(d:Df K mg "first_that_fills" s_Q07 ["walk"] f fd)(T:WkT K CW CC){fG:Addr}{fdG:FuncData}(dG:Mf K "go_on" "Walk.go_on" s_Q08 ["self"] fG fdG)(oG:FnOk P w K mg base (CXe P w) 4 fG fdG ["self"] (sI K CW CC (aG ad) kW))(mG:Meth K CW "go_on" fG)(z_len:mg "len"=none):FnOk P w K mg base (CXe P w) 5 f fd ["walk"] (gE K CW CC (aG ad) kW):=by
 have nd:=sc_first_that_fills.nd;exact d.okL ["walk","found"] 4 sc_first_that_fills nD λ cdv A outer s H vs Q E hr h=>⟨_,aN (nF Hl (gH uD (b8 bT rfl z_len GI (av (cv (pv 0) rfl) aF)) fZ (nomark _)) (aN (dq (i:=1) nd rfl (Or.inl rfl) (uF (pv 0) T.clW mG oG (hr.mono (by decide)) dG.bd .nil mT)) (bz (kh (wz (wZ (pv 1))) (bz (dJ (pv 1))) gI)))) (bz (dJ lU)),nR T h⟩
abbrev dg (P:Program)(w:World)(K:F5)(mg:Str->Option Value)(base:Heap)(ad:String->Option Addr)(CW CC:Addr):=Fo P w K mg base "first_that_fills" s_Q07 ["walk"] 5 (gE K CW CC (aG ad) kW)
abbrev s_Q0Y:Stmt:=top 38
theorem sc_partner_walk:FnScope ["length","beat"] ["length","beat"] (af s_Q0Y):=by constructor<;>first|rfl|decide +kernel
theorem ok_Q0Y {CW CC f:Addr}{fd:FuncData}(d:Df K mg "partner_walk" s_Q0Y ["length","beat"] f fd){fW:Addr}{fdW:FuncData}(dW:Mf K "__init__" "Walk.__init__" bO ["self","ways","laid"] fW fdW)(oW:FnOk P w K mg base (CXe P w) 3 fW fdW ["self","ways","laid"] (pj K CW CC))(MW:Mk K CW fW)(aW:mg "Walk"=some (.ref CW))(q_ways_of:j1 P w K mg base ad):FnOk P w K mg base (CXe P w) 6 f fd ["length","beat"] (ub K CW CC (aG ad) (Dv.pwR su rF) 2):=by
 have nd:=sc_partner_walk.nd;refine d.okL ["length","beat"] 5 sc_partner_walk wm λ cdv A outer s H vs Q E hr h=>?_
 exact hZ (C:=cZ (cxe_ok (P:=P) (w:=w)) (aG ad) K mg base ["length","beat"] "partner_walk" (af s_Q0Y) f cdv A outer s H E hr) (aH q_ways_of.d q_ways_of.o hr (by decide) rfl (ae (aa 0) (ae (aa 1) ao))) λ tw pw qw=>hZ (C:=cZ (cxe_ok (P:=P) (w:=w)) (aG ad) K mg base ["length","beat"] "partner_walk" (af s_Q0Y) f cdv A outer s H E hr) (aV (ae (jm (ae ai (ae (aa 1) ao))) ao)) λ tl pl ql=>⟨_,bz (dJ (lG MW oW (hr.mono (by decide)) rfl aW dW.bd .nil mT (av pw (av pl aF)))),ye (C:=cZ (cxe_ok (P:=P) (w:=w)) (aG ad) K mg base ["length","beat"] "partner_walk" (af s_Q0Y) f cdv A outer s H E hr) (λ _=>rfl) qw ql h⟩
abbrev fq (P:Program)(w:World)(K:F5)(mg:Str->Option Value)(base:Heap)(ad:String->Option Addr)(CW CC:Addr):=Fo P w K mg base "partner_walk" s_Q0Y ["length","beat"] 6 (ub K CW CC (aG ad) (Dv.pwR su rF) 2)
abbrev s_Q15:Stmt:=top 40
theorem sc_sought_partner:FnScope ["length","beat","walk","starts"] ["length","beat"] (af s_Q15):=by constructor<;>first|rfl|decide +kernel
theorem ok_Q15 {f:Addr}{fd:FuncData}(d:Df K mg "sought_partner" s_Q15 ["length","beat"] f fd){CW CC:Addr}(T:WkT K CW CC)(q_count_divides:eK P w K mg base ad)(q_first_rule:gm P w K mg base ad)(q_partner_walk:fq P w K mg base ad CW CC)(q_first_that_fills:dg P w K mg base ad CW CC):
  FnOk P w K mg base (CXe P w) 7 f fd ["length","beat"] (spD K (aG ad) F_Q15 2):=by
 have nd:=sc_sought_partner.nd;refine Df.is cxe_ok ["length","beat","walk","starts"] 6 b_Q15 d sc_sought_partner rfl rfl rfl λ cdv A outer s H E hr=>?_
 exact(aj (bC (fU (cX (aH q_count_divides.d q_count_divides.o hr (by decide) rfl (ae (aa 0) (ae (aa 1) ao))))) (au (aZ (jm (ae gb (ae gb ao))))) bj) (aj (bC (fU (cX (aH q_first_rule.d q_first_rule.o hr (by decide) rfl (ae (aa 0) (ae (aa 1) ao))))) (au (aZ (jm (ae gb (ae gb ao))))) bj) (rm (iw:=2) (is:=3) T q_first_that_fills.d q_first_that_fills.o q_partner_walk.d q_partner_walk.o hr (by decide) (by decide) rfl rfl (ae (aa 0) (ae (aa 1) ao)) (pv 2) (λ _ p=>dq (i:=2) nd rfl (Or.inl rfl) p) (λ _ p=>dq (i:=3) nd rfl (Or.inl rfl) p) (kh (wz (zR (pv 3))) (bz (dJ (gi (av gL (av (cv (pv 2) rfl) aF))))) gI) (dJ (gi (av gL (av (pv 3) aF)))) (by decide))))
abbrev dZ:=Fu "sought_partner" s_Q15 ["length","beat"] 7 F_Q15 2
abbrev s_Q0A:Stmt:=top 56
theorem sc_law:FnScope ["_law_script","_law_length","_law_beat","_law_some_here","_law_handed","_law_found"] ["_law_script"] (af s_Q0A):=by constructor<;>first|rfl|decide +kernel
theorem ok_Q0A {f:Addr}{fd:FuncData}(d:Df K mg "law" s_Q0A ["_law_script"] f fd)(q_law_case:jM P w K mg base ad)(q_law_draws:ir P w K mg base ad)(q_law_all:kg P w K mg base ad)(q_sought_partner:dZ P w K mg base ad)(q_law_beat_is:fK P w K mg base ad)(q_law_first:iC P w K mg base ad)(z_list:mg "list"=none)(z_isinstance:mg "isinstance"=none)(z_tuple:mg "tuple"=none)(z_len:mg "len"=none)(z_sorted:mg "sorted"=none):
  FnOk P w K mg base (CXe P w) 8 f fd ["_law_script"] (spD K (aG ad) F_Q0O 1):=by
 have nd:=sc_law.nd;refine Df.is cxe_ok ["_law_script","_law_length","_law_beat","_law_some_here","_law_handed","_law_found"] 7 b_Q0O d sc_law rfl rfl rfl λ cdv A outer s H E hr=>?_
 exact(aj (oX [0] (xs:=[1,2]) (aH q_law_case.d q_law_case.o hr (by decide) rfl (ae (aH q_law_draws.d q_law_draws.o hr (by decide) rfl (ae (aa 0) (ae ai ao))) ao)) (cb (i:=1) (cb (i:=2) jd nd rfl (Or.inl rfl)) nd rfl (Or.inl rfl)) rfl) (aj (dv [1,2] (i:=3) (aH q_law_all.d q_law_all.o hr (by decide) rfl (ae (aa 1) (ae (aa 2) ao))) nd rfl (Or.inl rfl)) (aj (ay (i:=4) (p8 z_list rfl (aa 2)) nd rfl (Or.inl rfl)) (aj (dv [1,4] (i:=5) (aH q_sought_partner.d q_sought_partner.o hr (by decide) rfl (ae (aa 1) (ae (aa 4) ao))) nd rfl (Or.inl rfl)) (aj (bC (jg (eX (fU (cX (wq z_isinstance z_tuple rfl rfl (aa 5)))) (eX (js (bL z_len rfl (aa 5)) ai) (dh _ (js (aa 4) (aa 2)))))) (au (aZ eJ)) bj) (aj (bC (c8 (aa 3) (aV ao)) (au (aZ (vO (uC (bF (aa 5) ai) gb) (vp (ig (uC (bF (aa 5) ai) gb) (Bj (aY (aa 1) (bL z_len rfl (aa 2))) ai)))))) bj) (aj (bC (jg (eX (js (bF (aa 5) ai) gb) (eX (tR (bF (aa 5) ai) (aa 3)) (dh _ (fU (cX (aH q_law_beat_is.d q_law_beat_is.o hr (by decide) rfl (ae (bF (aa 5) ai) (ae (cA z_sorted rfl (bF (aa 5) ai)) ao))))))))) (au (aZ eJ)) bj) (au (aZ (aH q_law_first.d q_law_first.o hr (by decide) rfl (ae (aa 1) (ae (aa 2) (ae (bF (aa 5) ai) (ae (aa 3) ao))))))))))))))
end
theorem ka {P:List Value->Prop}(h:P []):∀ us:List Value,us.length=0->P us:=λ us hl=>(DA hl)▸h
theorem bY {P:List Value->Prop}{k:Nat}(h:∀ a (us:List Value),us.length=k->P (a::us)):∀ us:List Value,us.length=k+1->P us:=by
 intro us hl;cases us with
 | nil=>exact absurd hl (Nat.succ_ne_zero k).symm
 | cons a r=>exact h a r (Nat.succ.inj hl)
theorem dz {P:List Value->Prop}(h:∀ a0,P [a0]):∀ us:List Value,us.length=1->P us:=bY (P:=P) λ a0=>ka (P:=λ us=>P (a0:: us)) (h a0)
theorem cq {P:List Value->Prop}(h:∀ a0 a1,P [a0,a1]):∀ us:List Value,us.length=2->P us:=bY (P:=P) λ a0=>bY (P:=λ us=>P (a0:: us)) λ a1=>ka (P:=λ us=>P (a0::a1:: us)) (h a0 a1)
theorem jI {P:List Value->Prop}(h:∀ a0 a1 a2,P [a0,a1,a2]):∀ us:List Value,us.length=3->P us:=bY (P:=P) λ a0=>bY (P:=λ us=>P (a0:: us)) λ a1=>bY (P:=λ us=>P (a0::a1:: us)) λ a2=>ka (P:=λ us=>P (a0::a1::a2:: us)) (h a0 a1 a2)
theorem yI {P:List Value->Prop}(h:∀ a0 a1 a2 a3,P [a0,a1,a2,a3]):∀ us:List Value,us.length=4->P us:=bY (P:=P) λ a0=>bY (P:=λ us=>P (a0:: us)) λ a1=>bY (P:=λ us=>P (a0::a1:: us)) λ a2=>bY (P:=λ us=>P (a0::a1::a2:: us)) λ a3=>ka (P:=λ us=>P (a0::a1::a2::a3:: us)) (h a0 a1 a2 a3)
theorem CL {P:List Value->Prop}(h:∀ a0 a1 a2 a3 a4,P [a0,a1,a2,a3,a4]):∀ us:List Value,us.length=5->P us:=bY (P:=P) λ a0=>bY (P:=λ us=>P (a0:: us)) λ a1=>bY (P:=λ us=>P (a0::a1:: us)) λ a2=>bY (P:=λ us=>P (a0::a1::a2:: us)) λ a3=>bY (P:=λ us=>P (a0::a1::a2::a3:: us)) λ a4=>ka (P:=λ us=>P (a0::a1::a2::a3::a4:: us)) (h a0 a1 a2 a3 a4)
theorem CK {P:List Value->Prop}(h:∀ a0 a1 a2 a3 a4 a5,P [a0,a1,a2,a3,a4,a5]):∀ us:List Value,us.length=6->P us:=bY (P:=P) λ a0=>bY (P:=λ us=>P (a0:: us)) λ a1=>bY (P:=λ us=>P (a0::a1:: us)) λ a2=>bY (P:=λ us=>P (a0::a1::a2:: us)) λ a3=>bY (P:=λ us=>P (a0::a1::a2::a3:: us)) λ a4=>bY (P:=λ us=>P (a0::a1::a2::a3::a4:: us)) λ a5=>ka (P:=λ us=>P (a0::a1::a2::a3::a4::a5:: us)) (h a0 a1 a2 a3 a4 a5)
abbrev adA (a0 a1 a2 a3 a4:Addr):=wu [("WheelError",a0),("NoWheel",a1),("NoBeat",a2),("NoPart",a3),("TooMany",a4)]
abbrev hA (K:F5)(n:Str)(f:Addr):Prop:=Gb K mainGlobals n=some (some (.ref f))
abbrev hL (K:F5)(n:Str)(s:Stmt)(f:Addr)(oc:Value)(od:Option Addr)(kV dc pm:Value)(an:Option Addr)(cd ct:Value)(sl:Array (Option Value)):Prop:=K.lookup f=some ⟨oc,od,.func (Ga n n (be s) (aO s) (af s) .none kV dc pm an cd ct),sl⟩
abbrev hC (K:F5)(c:Value)(n:Str):Prop:=Gy K c n=true
abbrev hK (K:F5)(f:Addr):Prop:=Gn K (.ref f)=true
abbrev hS (K:F5)(a b:Addr)(v:Bool):Prop:=Gj K (.ref a) (.ref b)=some v
theorem all_mk {l:PySem.W.OpenLaw}{w:World}{K:F5}{h:Heap}{mg:Str->Option Value}{fa:Addr}(X:K.In h)(G:h.Ns mainGlobals mg)(hfa:mg "law"=some (.ref fa))
    {T_turned f_Q17 f_Q0A C_5 C_0 f_Case_init f_Walk_init f_Q1A f_Q08 C_6 e3_4 C_3 e3_2 C_1 e3_0 C_2 e3_1 C_4 e3_3:Addr}{toc_turned oc_Q17 kV_Q17 dc_Q17 pm_Q17 cd_Q17 ct_Q17 oc_Q0A kV_Q0A dc_Q0A pm_Q0A cd_Q0A ct_Q0A oc_Case_init kV_Case_init dc_Case_init pm_Case_init cd_Case_init ct_Case_init oc_Walk_init kV_Walk_init dc_Walk_init pm_Walk_init cd_Walk_init ct_Walk_init oc_Q1A kV_Q1A dc_Q1A pm_Q1A cd_Q1A ct_Q1A oc_Q08 kV_Q08 dc_Q08 pm_Q08 cd_Q08 ct_Q08:Value}{tod_turned od_Q17 an_Q17 od_Q0A an_Q0A od_Case_init an_Case_init od_Walk_init an_Walk_init od_Q1A an_Q1A od_Q08 an_Q08 eB_4 eB_2 eB_0 eB_1 eB_3:Option Addr}{tn_turned:Nat}{tsl_turned sl_Q17 sl_Q0A sl_Case_init sl_Walk_init sl_Q1A sl_Q08:Array (Option Value)}{tt0_turned t_LONGEST t_LAST_PART t_MOST_CASES:Tok}{e1_4 e2_4 e1_2 e2_2 e1_0 e2_0 e1_1 e2_1 e1_3 e2_3:Str}{e4_4 e5_4 e8_4 e4_2 e5_2 e8_2 e4_0 e5_0 e8_0 e4_1 e5_1 e8_1 e4_3 e5_3 e8_3:List Value}{e6_4 e9_4 e6_2 e9_2 e6_0 e9_0 e6_1 e9_1 e6_3 e9_3:Bool}{e7_4 e7_2 e7_0 e7_1 e7_3:List Str}{eA_4 eA_2 eA_0 eA_1 eA_3:Option Bool}{eC_4 eD_4 eE_4 eF_4 eG_4 eC_2 eD_2 eE_2 eF_2 eG_2 eC_0 eD_0 eE_0 eF_0 eG_0 eC_1 eD_1 eE_1 eF_1 eG_1 eC_3 eD_3 eE_3 eF_3 eG_3:Option Value}
    (D_check_wheel:hD K "check_wheel" s_Q03) (D_check_rising:hD K "check_rising" s_Q02) (D_check_beat:hD K "check_beat" s_Q01) (D_made_beat:hD K "made_beat" s_Q0X) (D_beat_sum:hD K "beat_sum" s_Q00) (D_without_last_noughts:hD K "without_last_noughts" s_Q19) (D_sum_divided:hD K "sum_divided" s_Q16) (D_divisors:hD K "divisors" s_Q05) (D_parts_of_divisors:hD K "parts_of_divisors" s_Q10) (D_leaves_nought:hD K "leaves_nought" s_Q0W) (D_parts_had:hD K "parts_had" s_Q0Z) (D_prime_of:hD K "prime_of" s_Q13) (D_has_one_prime:hD K "has_one_prime" s_Q09) (D_prime_powers:hD K "prime_powers" s_Q14) (D_powers_had:hD K "powers_had" s_Q12) (D_first_rule:hD K "first_rule" s_Q06) (a_Q17:hA K "turned" f_Q17) (l_Q17:K.lookup f_Q17=some ⟨oc_Q17,od_Q17,.func (Ga "turned" "turned" (be s_Q17) (aO s_Q17) (af s_Q17) (.ref T_turned) kV_Q17 dc_Q17 pm_Q17 an_Q17 cd_Q17 ct_Q17),sl_Q17⟩) (c_Q17:hC K cd_Q17 "turned") (k_Q17:hK K f_Q17)
    (t_turned:K.lookup T_turned=some ⟨toc_turned,tod_turned,.seq #[.int 1 tt0_turned] tn_turned,tsl_turned⟩) (D_places_filled:hD K "places_filled" s_Q11) (D_ways_of:hD K "ways_of" s_Q18) (D_count_divides:hD K "count_divides" s_Q04) (D_law_draws:hD K "_law_draws" s_Q0I) (D_law_cell:hD K "_law_cell" s_Q0G) (D_law_whole:hD K "_law_whole" s_Q0V) (D_law_beat_is:hD K "_law_beat_is" s_Q0D) (D_law_some:hD K "_law_some" s_Q0S) (D_law_turned:hD K "_law_turned" s_Q0U) (D_law_again:hD K "_law_again" s_Q0B) (D_law_pair:hD K "_law_pair" s_Q0Q) (D_law_fills:hD K "_law_fills" s_Q0L) (D_law_all:hD K "_law_all" s_Q0C) (D_law_case:hD K "_law_case" s_Q0E) (D_law_filled:hD K "_law_filled" s_Q0J) (D_law_none:hD K "_law_none" s_Q0P) (D_law_first:hD K "_law_first" s_Q0M) (D_first_that_fills:hD K "first_that_fills" s_Q07) (D_partner_walk:hD K "partner_walk" s_Q0Y) (D_sought_partner:hD K "sought_partner" s_Q15) (a_Q0A:hA K "law" f_Q0A) (l_Q0A:hL K "law" s_Q0A f_Q0A oc_Q0A od_Q0A kV_Q0A dc_Q0A pm_Q0A an_Q0A cd_Q0A ct_Q0A sl_Q0A) (c_Q0A:hC K cd_Q0A "law") (k_Q0A:hK K f_Q0A)
    (z_len:Gb K mainGlobals "len"=some none) (z_sorted:Gb K mainGlobals "sorted"=some none) (z_list:Gb K mainGlobals "list"=some none) (z_range:Gb K mainGlobals "range"=some none) (z_enumerate:Gb K mainGlobals "enumerate"=some none) (z_all:Gb K mainGlobals "all"=some none) (z_int:Gb K mainGlobals "int"=some none) (z_isinstance:Gb K mainGlobals "isinstance"=some none) (z_bool:Gb K mainGlobals "bool"=some none) (z_zip:Gb K mainGlobals "zip"=some none) (z_max:Gb K mainGlobals "max"=some none) (z_min:Gb K mainGlobals "min"=some none) (z_tuple:Gb K mainGlobals "tuple"=some none) (n_LONGEST:Gb K mainGlobals "LONGEST"=some (some (.int 60 t_LONGEST))) (n_LAST_PART:Gb K mainGlobals "LAST_PART"=some (some (.int 60 t_LAST_PART))) (n_MOST_CASES:Gb K mainGlobals "MOST_CASES"=some (some (.int 2000 t_MOST_CASES)))
   (a_Walk:hA K "Walk" C_5) (pg_Walk:GJ K C_5 IC=true) (hd_Walk:GQ K C_5=true) (po_Walk:GX K C_5=true) (sa_Walk:F7 K (.ref C_5) "__setattr__"=some (some (.builtin "object.__setattr__"))) (mk_Walk:G3 K C_5=true) (kc_Walk:Gn K (.ref C_5)=true) (na_Walk_ways:F7 K (.ref C_5) "ways"=some none) (na_Walk_waiting:F7 K (.ref C_5) "waiting"=some none) (na_Walk_rows:F7 K (.ref C_5) "rows"=some none) (na_Walk_gone:F7 K (.ref C_5) "gone"=some none)
   (a_Case:hA K "Case" C_0) (pg_Case:GJ K C_0 IC=true) (hd_Case:GQ K C_0=true) (po_Case:GX K C_0=true) (sa_Case:F7 K (.ref C_0) "__setattr__"=some (some (.builtin "object.__setattr__"))) (mk_Case:G3 K C_0=true) (kc_Case:Gn K (.ref C_0)=true) (na_Case_laid:F7 K (.ref C_0) "laid"=some none) (na_Case_answers:F7 K (.ref C_0) "answers"=some none) (na_Case_at:F7 K (.ref C_0) "at"=some none)
   (a_Case_init:F7 K (.ref C_0) "__init__"=some (some (.ref f_Case_init))) (i_Case_init:GR K (.ref f_Case_init)=true) (l_Case_init:K.lookup f_Case_init=some ⟨oc_Case_init,od_Case_init,.func (Ga "__init__" "Case.__init__" (be bJ) (aO bJ) (af bJ) .none kV_Case_init dc_Case_init pm_Case_init an_Case_init cd_Case_init ct_Case_init),sl_Case_init⟩) (c_Case_init:hC K cd_Case_init "Case.__init__") (k_Case_init:hK K f_Case_init)
   (a_Walk_init:F7 K (.ref C_5) "__init__"=some (some (.ref f_Walk_init))) (i_Walk_init:GR K (.ref f_Walk_init)=true) (l_Walk_init:K.lookup f_Walk_init=some ⟨oc_Walk_init,od_Walk_init,.func (Ga "__init__" "Walk.__init__" (be bO) (aO bO) (af bO) .none kV_Walk_init dc_Walk_init pm_Walk_init an_Walk_init cd_Walk_init ct_Walk_init),sl_Walk_init⟩) (c_Walk_init:hC K cd_Walk_init "Walk.__init__") (k_Walk_init:hK K f_Walk_init)
   (a_Q1A:F7 K (.ref C_5) "write_row"=some (some (.ref f_Q1A))) (i_write_row:GR K (.ref f_Q1A)=true) (l_Q1A:K.lookup f_Q1A=some ⟨oc_Q1A,od_Q1A,.func (Ga "write_row" "Walk.write_row" (be s_Q1A) (aO s_Q1A) (af s_Q1A) .none kV_Q1A dc_Q1A pm_Q1A an_Q1A cd_Q1A ct_Q1A),sl_Q1A⟩) (c_Q1A:hC K cd_Q1A "Walk.write_row") (k_Q1A:hK K f_Q1A)
   (a_Q08:F7 K (.ref C_5) "go_on"=some (some (.ref f_Q08))) (i_go_on:GR K (.ref f_Q08)=true) (l_Q08:K.lookup f_Q08=some ⟨oc_Q08,od_Q08,.func (Ga "go_on" "Walk.go_on" (be s_Q08) (aO s_Q08) (af s_Q08) .none kV_Q08 dc_Q08 pm_Q08 an_Q08 cd_Q08 ct_Q08),sl_Q08⟩) (c_Q08:hC K cd_Q08 "Walk.go_on") (k_Q08:hK K f_Q08)
   (a_4:hA K "WheelError" C_6) (x_4:GB K C_6 [.type "ValueError",.type "Exception",.type "BaseException",.type "object"] "ValueError.__new__"=true) (g1_4:F7 K (.ref C_6) "__getattribute__"=some (some (.builtin "BaseException.__getattribute__"))) (g2_4:F7 K (.ref C_6) "__getattr__"=some none) (g3_4:F7 K (.ref C_6) "__class__"=some (some (.builtin "object.__class__"))) (v_4:Gj K (.ref C_6) (.type "ValueError")=some true) (y_4:K.lookup C_6=some (excClassObj e1_4 e2_4 C_6 e3_4 e4_4 e5_4 e6_4 e7_4 e8_4 e9_4 eA_4 eB_4 eC_4 eD_4 eE_4 eF_4 eG_4 "ValueError.__new__"))
   (a_2:hA K "NoWheel" C_3) (x_2:GB K C_3 [.type "ValueError",.type "Exception",.type "BaseException",.type "object"] "ValueError.__new__"=true) (g1_2:F7 K (.ref C_3) "__getattribute__"=some (some (.builtin "BaseException.__getattribute__"))) (g2_2:F7 K (.ref C_3) "__getattr__"=some none) (g3_2:F7 K (.ref C_3) "__class__"=some (some (.builtin "object.__class__"))) (v_2:Gj K (.ref C_3) (.type "ValueError")=some true) (y_2:K.lookup C_3=some (excClassObj e1_2 e2_2 C_3 e3_2 e4_2 e5_2 e6_2 e7_2 e8_2 e9_2 eA_2 eB_2 eC_2 eD_2 eE_2 eF_2 eG_2 "ValueError.__new__"))
   (a_0:hA K "NoBeat" C_1) (x_0:GB K C_1 [.type "ValueError",.type "Exception",.type "BaseException",.type "object"] "ValueError.__new__"=true) (g1_0:F7 K (.ref C_1) "__getattribute__"=some (some (.builtin "BaseException.__getattribute__"))) (g2_0:F7 K (.ref C_1) "__getattr__"=some none) (g3_0:F7 K (.ref C_1) "__class__"=some (some (.builtin "object.__class__"))) (v_0:Gj K (.ref C_1) (.type "ValueError")=some true) (y_0:K.lookup C_1=some (excClassObj e1_0 e2_0 C_1 e3_0 e4_0 e5_0 e6_0 e7_0 e8_0 e9_0 eA_0 eB_0 eC_0 eD_0 eE_0 eF_0 eG_0 "ValueError.__new__"))
   (a_1:hA K "NoPart" C_2) (x_1:GB K C_2 [.type "ValueError",.type "Exception",.type "BaseException",.type "object"] "ValueError.__new__"=true) (g1_1:F7 K (.ref C_2) "__getattribute__"=some (some (.builtin "BaseException.__getattribute__"))) (g2_1:F7 K (.ref C_2) "__getattr__"=some none) (g3_1:F7 K (.ref C_2) "__class__"=some (some (.builtin "object.__class__"))) (v_1:Gj K (.ref C_2) (.type "ValueError")=some true) (y_1:K.lookup C_2=some (excClassObj e1_1 e2_1 C_2 e3_1 e4_1 e5_1 e6_1 e7_1 e8_1 e9_1 eA_1 eB_1 eC_1 eD_1 eE_1 eF_1 eG_1 "ValueError.__new__"))
   (a_3:hA K "TooMany" C_4) (x_3:GB K C_4 [.type "ValueError",.type "Exception",.type "BaseException",.type "object"] "ValueError.__new__"=true) (g1_3:F7 K (.ref C_4) "__getattribute__"=some (some (.builtin "BaseException.__getattribute__"))) (g2_3:F7 K (.ref C_4) "__getattr__"=some none) (g3_3:F7 K (.ref C_4) "__class__"=some (some (.builtin "object.__class__"))) (v_3:Gj K (.ref C_4) (.type "ValueError")=some true) (y_3:K.lookup C_4=some (excClassObj e1_3 e2_3 C_4 e3_3 e4_3 e5_3 e6_3 e7_3 e8_3 e9_3 eA_3 eB_3 eC_3 eD_3 eE_3 eF_3 eG_3 "ValueError.__new__"))
   (s_44:hS K C_6 C_6 true)
   (s_42:hS K C_6 C_3 false)
   (s_40:hS K C_6 C_1 false)
   (s_41:hS K C_6 C_2 false)
   (s_43:hS K C_6 C_4 false)
   (s_24:hS K C_3 C_6 true)
   (s_22:hS K C_3 C_3 true)
   (s_20:hS K C_3 C_1 false)
   (s_21:hS K C_3 C_2 false)
   (s_23:hS K C_3 C_4 false)
   (s_04:hS K C_1 C_6 true)
   (s_02:hS K C_1 C_3 false)
   (s_00:hS K C_1 C_1 true)
   (s_01:hS K C_1 C_2 false)
   (s_03:hS K C_1 C_4 false)
   (s_14:hS K C_2 C_6 true)
   (s_12:hS K C_2 C_3 false)
   (s_10:hS K C_2 C_1 false)
   (s_11:hS K C_2 C_2 true)
   (s_13:hS K C_2 C_4 false)
   (s_34:hS K C_4 C_6 true)
   (s_32:hS K C_4 C_3 false)
   (s_30:hS K C_4 C_1 false)
   (s_31:hS K C_4 C_2 false)
   (s_33:hS K C_4 C_4 true):∃ (fd:FuncData) (cls:String->Value),(∀ (s:Shared) (v:Value),BindsTo s fd ⟨[v],[]⟩ [("_law_script",v)])/\∀ base:Heap,K.In base->base.Ns mainGlobals mg->FnOk l.prog w K mg base (CXe l.prog w) 8 fa fd ["_law_script"] (spD K cls F_Q0O 1):=by
  have e:=hfa.symm.trans (Gk X G a_Q0A);cases e;have T:WkT K C_5 C_0:=⟨⟨pg_Walk,hd_Walk,po_Walk,sa_Walk⟩,⟨pg_Case,hd_Case,po_Case,sa_Case⟩,na_Walk_ways,na_Walk_waiting,na_Walk_rows,na_Walk_gone,na_Case_laid,na_Case_answers,na_Case_at⟩;have d_Case_init:=rf (st:=bJ) (ps:=["self","laid","answers","at"]) l_Case_init c_Case_init λ _ _ _ _ _ _=>yI λ _ _ _ _=>rfl
  have d_Walk_init:=rf (st:=bO) (ps:=["self","ways","laid"]) l_Walk_init c_Walk_init λ _ _ _ _ _ _=>jI λ _ _ _=>rfl
  have d_Q1A:=rf (st:=s_Q1A) (ps:=["self","laid","filled"]) l_Q1A c_Q1A λ _ _ _ _ _ _=>jI λ _ _ _=>rfl
  have d_Q08:=rf (st:=s_Q08) (ps:=["self"]) l_Q08 c_Q08 λ _ _ _ _ _ _=>dz λ _=>rfl
  have M_Case:Mk K C_0 f_Case_init:=⟨mk_Case,a_Case_init,i_Case_init,kc_Case⟩;have M_Walk:Mk K C_5 f_Walk_init:=⟨mk_Walk,a_Walk_init,i_Walk_init,kc_Walk⟩;have m_write_row:Meth K C_5 "write_row" f_Q1A:=⟨a_Q1A,i_write_row,k_Q1A⟩;have m_go_on:Meth K C_5 "go_on" f_Q08:=⟨a_Q08,i_go_on,k_Q08⟩;obtain⟨f_Q03,fd_check_wheel,d_Q03⟩:=dfE (st:=s_Q03) (ps:=["length"]) X G D_check_wheel λ _ _ _ _ _ _=>dz λ _=>rfl
  obtain⟨f_Q02,fd_check_rising,d_Q02⟩:=dfE (st:=s_Q02) (ps:=["numbers","end"]) X G D_check_rising λ _ _ _ _ _ _=>cq λ _ _=>rfl
  obtain⟨f_Q01,fd_check_beat,d_Q01⟩:=dfE (st:=s_Q01) (ps:=["length","beat"]) X G D_check_beat λ _ _ _ _ _ _=>cq λ _ _=>rfl
  obtain⟨f_Q0X,fd_made_beat,d_Q0X⟩:=dfE (st:=s_Q0X) (ps:=["length","numbers"]) X G D_made_beat λ _ _ _ _ _ _=>cq λ _ _=>rfl
  obtain⟨f_Q00,fd_beat_sum,d_Q00⟩:=dfE (st:=s_Q00) (ps:=["beat"]) X G D_beat_sum λ _ _ _ _ _ _=>dz λ _=>rfl
  obtain⟨f_Q19,fd_without_last_noughts,d_Q19⟩:=dfE (st:=s_Q19) (ps:=["numbers"]) X G D_without_last_noughts λ _ _ _ _ _ _=>dz λ _=>rfl
  obtain⟨f_Q16,fd_sum_divided,d_Q16⟩:=dfE (st:=s_Q16) (ps:=["one","other"]) X G D_sum_divided λ _ _ _ _ _ _=>cq λ _ _=>rfl
  obtain⟨f_Q05,fd_divisors,d_Q05⟩:=dfE (st:=s_Q05) (ps:=["number"]) X G D_divisors λ _ _ _ _ _ _=>dz λ _=>rfl
  obtain⟨f_Q10,fd_parts_of_divisors,d_Q10⟩:=dfE (st:=s_Q10) (ps:=["number"]) X G D_parts_of_divisors λ _ _ _ _ _ _=>dz λ _=>rfl
  obtain⟨f_Q0W,fd_leaves_nought,d_Q0W⟩:=dfE (st:=s_Q0W) (ps:=["beat","divisor"]) X G D_leaves_nought λ _ _ _ _ _ _=>cq λ _ _=>rfl
  obtain⟨f_Q0Z,fd_parts_had,d_Q0Z⟩:=dfE (st:=s_Q0Z) (ps:=["length","beat"]) X G D_parts_had λ _ _ _ _ _ _=>cq λ _ _=>rfl
  obtain⟨f_Q13,fd_prime_of,d_Q13⟩:=dfE (st:=s_Q13) (ps:=["number"]) X G D_prime_of λ _ _ _ _ _ _=>dz λ _=>rfl
  obtain⟨f_Q09,fd_has_one_prime,d_Q09⟩:=dfE (st:=s_Q09) (ps:=["number"]) X G D_has_one_prime λ _ _ _ _ _ _=>dz λ _=>rfl
  obtain⟨f_Q14,fd_prime_powers,d_Q14⟩:=dfE (st:=s_Q14) (ps:=["length"]) X G D_prime_powers λ _ _ _ _ _ _=>dz λ _=>rfl
  obtain⟨f_Q12,fd_powers_had,d_Q12⟩:=dfE (st:=s_Q12) (ps:=["length","beat"]) X G D_powers_had λ _ _ _ _ _ _=>cq λ _ _=>rfl
  obtain⟨f_Q06,fd_first_rule,d_Q06⟩:=dfE (st:=s_Q06) (ps:=["length","beat"]) X G D_first_rule λ _ _ _ _ _ _=>cq λ _ _=>rfl
  have d_Q17:=AC (st:=s_Q17) (ps:=["length","beat","by"]) (Gk X G a_Q17) l_Q17 c_Q17 k_Q17 λ s us Y hl=>by
    rw[DT] at hl ⊢
    match us,hl with
    | [_,_,_],_=>exact Ib rfl (Y _ _ t_turned) rfl rfl rfl
  have bD_turned:Binds K (Ga "turned" "turned" (be s_Q17) (aO s_Q17) (af s_Q17) (.ref T_turned) kV_Q17 dc_Q17 pm_Q17 an_Q17 cd_Q17 ct_Q17) ["length","beat","by"] [.int 1 tt0_turned]:=λ s us Y hl=>by
    have hl:=Nat.succ.inj ((C9 (as:=us)).symm.trans hl)
    match us,hl with
    | [_,_],_=>exact Ib rfl (Y _ _ t_turned) rfl rfl rfl
  obtain⟨f_Q11,fd_places_filled,d_Q11⟩:=dfE (st:=s_Q11) (ps:=["laid"]) X G D_places_filled λ _ _ _ _ _ _=>dz λ _=>rfl
  obtain⟨f_Q18,fd_ways_of,d_Q18⟩:=dfE (st:=s_Q18) (ps:=["length","beat"]) X G D_ways_of λ _ _ _ _ _ _=>cq λ _ _=>rfl
  obtain⟨f_Q04,fd_count_divides,d_Q04⟩:=dfE (st:=s_Q04) (ps:=["length","beat"]) X G D_count_divides λ _ _ _ _ _ _=>cq λ _ _=>rfl
  obtain⟨f_Q0I,fd_law_draws,d_Q0I⟩:=dfE (st:=s_Q0I) (ps:=["_law_script","_law_many"]) X G D_law_draws λ _ _ _ _ _ _=>cq λ _ _=>rfl
  obtain⟨f_Q0G,fd_law_cell,d_Q0G⟩:=dfE (st:=s_Q0G) (ps:=["_law_draws_here","_law_k"]) X G D_law_cell λ _ _ _ _ _ _=>cq λ _ _=>rfl
  obtain⟨f_Q0V,fd_law_whole,d_Q0V⟩:=dfE (st:=s_Q0V) (ps:=["_law_found"]) X G D_law_whole λ _ _ _ _ _ _=>dz λ _=>rfl
  obtain⟨f_Q0D,fd_law_beat_is,d_Q0D⟩:=dfE (st:=s_Q0D) (ps:=["_law_found","_law_due"]) X G D_law_beat_is λ _ _ _ _ _ _=>cq λ _ _=>rfl
  obtain⟨f_Q0S,fd_law_some,d_Q0S⟩:=dfE (st:=s_Q0S) (ps:=["_law_script","_law_start","_law_length"]) X G D_law_some λ _ _ _ _ _ _=>jI λ _ _ _=>rfl
  obtain⟨f_Q0U,fd_law_turned,d_Q0U⟩:=dfE (st:=s_Q0U) (ps:=["_law_length","_law_beat","_law_by"]) X G D_law_turned λ _ _ _ _ _ _=>jI λ _ _ _=>rfl
  obtain⟨f_Q0B,fd_law_again,d_Q0B⟩:=dfE (st:=s_Q0B) (ps:=["_law_length","_law_beat","_law_times"]) X G D_law_again λ _ _ _ _ _ _=>jI λ _ _ _=>rfl
  obtain⟨f_Q0Q,fd_law_pair,d_Q0Q⟩:=dfE (st:=s_Q0Q) (ps:=["_law_script","_law_start"]) X G D_law_pair λ _ _ _ _ _ _=>cq λ _ _=>rfl
  obtain⟨f_Q0L,fd_law_fills,d_Q0L⟩:=dfE (st:=s_Q0L) (ps:=["_law_length","_law_beat","_law_starts"]) X G D_law_fills λ _ _ _ _ _ _=>jI λ _ _ _=>rfl
  obtain⟨f_Q0C,fd_law_all,d_Q0C⟩:=dfE (st:=s_Q0C) (ps:=["_law_length","_law_beat"]) X G D_law_all λ _ _ _ _ _ _=>cq λ _ _=>rfl
  obtain⟨f_Q0E,fd_law_case,d_Q0E⟩:=dfE (st:=s_Q0E) (ps:=["_law_script"]) X G D_law_case λ _ _ _ _ _ _=>dz λ _=>rfl
  obtain⟨f_Q0J,fd_law_filled,d_Q0J⟩:=dfE (st:=s_Q0J) (ps:=["_law_length","_law_beat","_law_starts"]) X G D_law_filled λ _ _ _ _ _ _=>jI λ _ _ _=>rfl
  obtain⟨f_Q0P,fd_law_none,d_Q0P⟩:=dfE (st:=s_Q0P) (ps:=["_law_some_here","_law_starts"]) X G D_law_none λ _ _ _ _ _ _=>cq λ _ _=>rfl
  obtain⟨f_Q0M,fd_law_first,d_Q0M⟩:=dfE (st:=s_Q0M) (ps:=["_law_length","_law_beat","_law_starts","_law_some_here"]) X G D_law_first λ _ _ _ _ _ _=>yI λ _ _ _ _=>rfl
  obtain⟨f_Q07,fd_first_that_fills,d_Q07⟩:=dfE (st:=s_Q07) (ps:=["walk"]) X G D_first_that_fills λ _ _ _ _ _ _=>dz λ _=>rfl
  obtain⟨f_Q0Y,fd_partner_walk,d_Q0Y⟩:=dfE (st:=s_Q0Y) (ps:=["length","beat"]) X G D_partner_walk λ _ _ _ _ _ _=>cq λ _ _=>rfl
  obtain⟨f_Q15,fd_sought_partner,d_Q15⟩:=dfE (st:=s_Q15) (ps:=["length","beat"]) X G D_sought_partner λ _ _ _ _ _ _=>cq λ _ _=>rfl
  have d_Q0A:=yL (st:=s_Q0A) (ps:=["_law_script"]) (Gk X G a_Q0A) l_Q0A c_Q0A k_Q0A λ _ _ _ _ _ _=>dz λ _=>rfl
  have z_len:=Gf X G z_len;have z_sorted:=Gf X G z_sorted;have z_list:=Gf X G z_list;have z_range:=Gf X G z_range;have z_enumerate:=Gf X G z_enumerate;have z_all:=Gf X G z_all;have z_int:=Gf X G z_int;have z_isinstance:=Gf X G z_isinstance;have z_bool:=Gf X G z_bool;have z_zip:=Gf X G z_zip;have z_max:=Gf X G z_max;have z_min:=Gf X G z_min;have z_tuple:=Gf X G z_tuple;have n_LONGEST:=Gk X G n_LONGEST;have n_LAST_PART:=Gk X G n_LAST_PART;have n_MOST_CASES:=Gk X G n_MOST_CASES;have xa:XAll K mg (adA C_6 C_3 C_1 C_2 C_4):=xC _ (az ⟨⟨Gk X G a_4,a_4,x_4,⟨_,_,_,_,_,_,_,_,_,_,_,_,_,_,_,_,y_4⟩⟩,⟨x_4,⟨_,_,_,_,_,_,_,_,_,_,_,_,_,_,_,_,y_4⟩,g1_4,g2_4,g3_4⟩,v_4⟩ (az ⟨⟨Gk X G a_2,a_2,x_2,⟨_,_,_,_,_,_,_,_,_,_,_,_,_,_,_,_,y_2⟩⟩,⟨x_2,⟨_,_,_,_,_,_,_,_,_,_,_,_,_,_,_,_,y_2⟩,g1_2,g2_2,g3_2⟩,v_2⟩ (az ⟨⟨Gk X G a_0,a_0,x_0,⟨_,_,_,_,_,_,_,_,_,_,_,_,_,_,_,_,y_0⟩⟩,⟨x_0,⟨_,_,_,_,_,_,_,_,_,_,_,_,_,_,_,_,y_0⟩,g1_0,g2_0,g3_0⟩,v_0⟩ (az ⟨⟨Gk X G a_1,a_1,x_1,⟨_,_,_,_,_,_,_,_,_,_,_,_,_,_,_,_,y_1⟩⟩,⟨x_1,⟨_,_,_,_,_,_,_,_,_,_,_,_,_,_,_,_,y_1⟩,g1_1,g2_1,g3_1⟩,v_1⟩ (az ⟨⟨Gk X G a_3,a_3,x_3,⟨_,_,_,_,_,_,_,_,_,_,_,_,_,_,_,_,y_3⟩⟩,⟨x_3,⟨_,_,_,_,_,_,_,_,_,_,_,_,_,_,_,_,y_3⟩,g1_3,g2_3,g3_3⟩,v_3⟩ (eT)))))) (az (az s_44 (az s_42 (az s_40 (az s_41 (az s_43 (eT)))))) (az (az s_24 (az s_22 (az s_20 (az s_21 (az s_23 (eT)))))) (az (az s_04 (az s_02 (az s_00 (az s_01 (az s_03 (eT)))))) (az (az s_14 (az s_12 (az s_10 (az s_11 (az s_13 (eT)))))) (az (az s_34 (az s_32 (az s_30 (az s_31 (az s_33 (eT)))))) (eT))))));have h_4:(adA C_6 C_3 C_1 C_2 C_4) "WheelError"=some C_6:=rfl;have h_2:(adA C_6 C_3 C_1 C_2 C_4) "NoWheel"=some C_3:=rfl;have h_0:(adA C_6 C_3 C_1 C_2 C_4) "NoBeat"=some C_1:=rfl;have h_1:(adA C_6 C_3 C_1 C_2 C_4) "NoPart"=some C_2:=rfl;have h_3:(adA C_6 C_3 C_1 C_2 C_4) "TooMany"=some C_4:=rfl;have hkn:∀ c∈(["WheelError","NoWheel","NoBeat","NoPart","TooMany"]:List String),∃ Ca,(adA C_6 C_3 C_1 C_2 C_4) c=some Ca:=az ⟨C_6,rfl⟩ (az ⟨C_3,rfl⟩ (az ⟨C_1,rfl⟩ (az ⟨C_2,rfl⟩ (az ⟨C_4,rfl⟩ (eT)))));refine⟨Ga "law" "law" (be s_Q0A) (aO s_Q0A) (af s_Q0A) .none kV_Q0A dc_Q0A pm_Q0A an_Q0A cd_Q0A ct_Q0A,aG (adA C_6 C_3 C_1 C_2 C_4),λ s v=>.of_eq rfl,λ base _ _=>?_⟩;have q_check_wheel:cD l.prog w K mg base (adA C_6 C_3 C_1 C_2 C_4):=⟨_,_,d_Q03,ok_Q03 d_Q03  xa h_2  n_LONGEST⟩;have q_check_rising:e8 l.prog w K mg base (adA C_6 C_3 C_1 C_2 C_4):=⟨_,_,d_Q02,ok_Q02 d_Q02  xa h_0 z_len ⟩;have q_check_beat:cm l.prog w K mg base (adA C_6 C_3 C_1 C_2 C_4):=⟨_,_,d_Q01,ok_Q01 d_Q01 q_check_wheel q_check_rising  ⟩;have q_made_beat:iE l.prog w K mg base (adA C_6 C_3 C_1 C_2 C_4):=⟨_,_,d_Q0X,ok_Q0X d_Q0X q_check_wheel q_check_beat z_sorted ⟩;have q_beat_sum:jB l.prog w K mg base (adA C_6 C_3 C_1 C_2 C_4):=⟨_,_,d_Q00,ok_Q00 d_Q00  z_len ⟩;have q_without_last_noughts:ck l.prog w K mg base (adA C_6 C_3 C_1 C_2 C_4):=⟨_,_,d_Q19,ok_Q19 d_Q19  z_len ⟩;have q_sum_divided:dI l.prog w K mg base (adA C_6 C_3 C_1 C_2 C_4):=⟨_,_,d_Q16,ok_Q16 d_Q16 q_without_last_noughts xa h_1 z_len z_list z_range z_enumerate ⟩;have q_divisors:cz l.prog w K mg base (adA C_6 C_3 C_1 C_2 C_4):=⟨_,_,d_Q05,ok_Q05 d_Q05  xa h_1 z_range n_LAST_PART⟩;have q_parts_of_divisors:cP l.prog w K mg base (adA C_6 C_3 C_1 C_2 C_4):=⟨_,_,d_Q10,ok_Q10 d_Q10 q_divisors q_sum_divided  ⟩;have q_leaves_nought:eG l.prog w K mg base (adA C_6 C_3 C_1 C_2 C_4):=⟨_,_,d_Q0W,ok_Q0W d_Q0W q_sum_divided q_beat_sum  ⟩;have q_parts_had:iz l.prog w K mg base (adA C_6 C_3 C_1 C_2 C_4):=⟨_,_,d_Q0Z,ok_Q0Z d_Q0Z q_check_beat q_parts_of_divisors q_divisors q_leaves_nought  ⟩;have q_prime_of:gh l.prog w K mg base (adA C_6 C_3 C_1 C_2 C_4):=⟨_,_,d_Q13,ok_Q13 d_Q13 q_divisors  ⟩;have q_has_one_prime:eN l.prog w K mg base (adA C_6 C_3 C_1 C_2 C_4):=⟨_,_,d_Q09,ok_Q09 d_Q09 q_prime_of q_divisors z_all ⟩;have q_prime_powers:eU l.prog w K mg base (adA C_6 C_3 C_1 C_2 C_4):=⟨_,_,d_Q14,ok_Q14 d_Q14 q_check_wheel q_divisors q_has_one_prime  ⟩;have q_powers_had:gk l.prog w K mg base (adA C_6 C_3 C_1 C_2 C_4):=⟨_,_,d_Q12,ok_Q12 d_Q12 q_parts_had q_prime_powers  ⟩;have q_first_rule:gm l.prog w K mg base (adA C_6 C_3 C_1 C_2 C_4):=⟨_,_,d_Q06,ok_Q06 d_Q06 q_powers_had q_prime_of z_len ⟩;have q_turned:m7 l.prog w K mg base (adA C_6 C_3 C_1 C_2 C_4):=⟨_,_,d_Q17,ok_Q17 d_Q17 q_check_beat q_made_beat  ⟩;have q_places_filled:eO l.prog w K mg base (adA C_6 C_3 C_1 C_2 C_4):=⟨_,_,d_Q11,ok_Q11 d_Q11   ⟩;have q_ways_of:j1 l.prog w K mg base (adA C_6 C_3 C_1 C_2 C_4):=⟨_,_,d_Q18,ok_Q18 d_Q18 q_turned z_range ⟩;have q_count_divides:eK l.prog w K mg base (adA C_6 C_3 C_1 C_2 C_4):=⟨_,_,d_Q04,ok_Q04 d_Q04 q_check_beat z_len ⟩;have q_law_draws:ir l.prog w K mg base (adA C_6 C_3 C_1 C_2 C_4):=⟨_,_,d_Q0I,ok_Q0I d_Q0I  z_int z_range z_len ⟩;have q_law_cell:d9 l.prog w K mg base (adA C_6 C_3 C_1 C_2 C_4):=⟨_,_,d_Q0G,ok_Q0G d_Q0G   ⟩;have q_law_whole:ip l.prog w K mg base (adA C_6 C_3 C_1 C_2 C_4):=⟨_,_,d_Q0V,ok_Q0V d_Q0V  z_isinstance z_int z_bool ⟩;have q_law_beat_is:fK l.prog w K mg base (adA C_6 C_3 C_1 C_2 C_4):=⟨_,_,d_Q0D,ok_Q0D d_Q0D q_law_whole z_isinstance z_list z_len z_zip ⟩;have q_law_some:jA l.prog w K mg base (adA C_6 C_3 C_1 C_2 C_4):=⟨_,_,d_Q0S,ok_Q0S d_Q0S q_law_cell z_range z_max ⟩;have q_law_turned:gB l.prog w K mg base (adA C_6 C_3 C_1 C_2 C_4):=⟨_,_,d_Q0U,ok_Q0U d_Q0U  z_sorted ⟩;have q_law_again:ic l.prog w K mg base (adA C_6 C_3 C_1 C_2 C_4):=⟨_,_,d_Q0B,ok_Q0B d_Q0B  z_range ⟩;have q_law_pair:jc l.prog w K mg base (adA C_6 C_3 C_1 C_2 C_4):=⟨_,_,d_Q0Q,ok_Q0Q d_Q0Q q_law_cell q_law_again q_law_turned z_range z_sorted ⟩;have q_law_fills:iB l.prog w K mg base (adA C_6 C_3 C_1 C_2 C_4):=⟨_,_,d_Q0L,ok_Q0L d_Q0L   ⟩;have q_law_all:kg l.prog w K mg base (adA C_6 C_3 C_1 C_2 C_4):=⟨_,_,d_Q0C,ok_Q0C d_Q0C q_law_fills z_len z_range ⟩;have q_law_case:jM l.prog w K mg base (adA C_6 C_3 C_1 C_2 C_4):=⟨_,_,d_Q0E,ok_Q0E d_Q0E q_law_pair q_law_cell q_law_some z_sorted ⟩;have q_law_filled:gw l.prog w K mg base (adA C_6 C_3 C_1 C_2 C_4):=⟨_,_,d_Q0J,ok_Q0J d_Q0J   ⟩;have q_law_none:iT l.prog w K mg base (adA C_6 C_3 C_1 C_2 C_4):=⟨_,_,d_Q0P,ok_Q0P d_Q0P   ⟩;have q_law_first:iC l.prog w K mg base (adA C_6 C_3 C_1 C_2 C_4):=⟨_,_,d_Q0M,ok_Q0M d_Q0M q_law_filled q_law_none z_len z_sorted ⟩;have o_Case_init:FnOk l.prog w K mg base (CXe l.prog w) 1 f_Case_init _ ["self","laid","answers","at"] (mE C_0):=lK d_Case_init T;have o_Walk_init:FnOk l.prog w K mg base (CXe l.prog w) 3 f_Walk_init _ ["self","ways","laid"] (pj K C_5 C_0):=lM d_Walk_init T d_Case_init o_Case_init M_Case (Gk X G a_Case);have o_Q1A:FnOk l.prog w K mg base (CXe l.prog w) 3 f_Q1A _ ["self","laid","filled"] (sY K C_5 C_0 kW):=ok_Q1A d_Q1A T d_Case_init o_Case_init M_Case (Gk X G a_Case)  z_min z_range z_len;have o_Q08:FnOk l.prog w K mg base (CXe l.prog w) 4 f_Q08 _ ["self"] (sI K C_5 C_0 (aG (adA C_6 C_3 C_1 C_2 C_4)) kW):=ok_Q08 d_Q08 T d_Q1A o_Q1A m_write_row q_places_filled xa h_3 z_sorted z_len n_MOST_CASES;have q_first_that_fills:dg l.prog w K mg base (adA C_6 C_3 C_1 C_2 C_4) C_5 C_0:=⟨_,_,d_Q07,ok_Q07 d_Q07 T d_Q08 o_Q08 m_go_on  z_len ⟩;have q_partner_walk:fq l.prog w K mg base (adA C_6 C_3 C_1 C_2 C_4) C_5 C_0:=⟨_,_,d_Q0Y,ok_Q0Y d_Q0Y d_Walk_init o_Walk_init M_Walk (Gk X G a_Walk) q_ways_of  ⟩;have q_sought_partner:dZ l.prog w K mg base (adA C_6 C_3 C_1 C_2 C_4):=⟨_,_,d_Q15,ok_Q15 d_Q15 T q_count_divides q_first_rule q_partner_walk q_first_that_fills  ⟩;exact ok_Q0A d_Q0A q_law_case q_law_draws q_law_all q_sought_partner q_law_beat_is q_law_first z_list z_isinstance z_tuple z_len z_sorted
end Lk42
namespace Bt
open Dv (ins isort)
theorem c9 (i:Int):∀ l:List Int,(ins i l).Perm (i::l)
 | []=>.refl _
 | j::r=>by
  unfold ins
  split
  ·exact .refl _
  ·exact((c9 i r).cons j).trans (.swap _ _ _)
theorem aJ:∀ l:List Int,(isort l).Perm l
 | []=>.refl _
 | i::r=>(c9 i _).trans ((aJ r).cons i)
theorem dk (i:Int):∀ l:List Int,l.Pairwise (·<=·)->(ins i l).Pairwise (·<=·)
 | [],_=>by unfold ins;simp
 | j::r,h=>by
  unfold ins;obtain⟨h1,h2⟩:=List.pairwise_cons.mp h
  split
  ·rename_i hij
   refine List.pairwise_cons.mpr ⟨λ a ha=>?_,h⟩
   rcases List.mem_cons.mp ha with rfl|ha
   ·exact hij
   ·have:=h1 a ha;omega
  ·rename_i hij
   refine List.pairwise_cons.mpr ⟨λ a ha=>?_,dk i r h2⟩
   rcases List.mem_cons.mp ((c9 i r).mem_iff.mp ha) with rfl|ha
   ·omega
   ·exact h1 a ha
theorem bp:∀ l:List Int,(isort l).Pairwise (·<=·)
 | []=>.nil
 | i::r=>dk i _ (bp r)
theorem b7:∀ {a b:List Int},a.Perm b->a.Pairwise (·<=·)->b.Pairwise (·<=·)->a=b
 | [],b,p,_,_=>(List.Perm.nil_eq p)
 | x::a,[],p,_,_=>(nomatch p.length_eq)
 | x::a,y::b,p,ha,hb=>by
  obtain⟨a1,a2⟩:=List.pairwise_cons.mp ha;obtain⟨b1,b2⟩:=List.pairwise_cons.mp hb;have hx:x∈y::b:=p.mem_iff.mp (CS ..);have hy:y∈x::a:=p.mem_iff.mpr (CS ..);have e:x=y:=by
   rcases List.mem_cons.mp hx with e|hx
   ·exact e
   ·rcases List.mem_cons.mp hy with e|hy
    ·exact e.symm
    ·have:=a1 y hy;have:=b1 x hx;omega
  subst e;rw[b7 (List.Perm.cons_inv p) a2 b2]
theorem cW (l:List Int):(isort l).length=l.length:=(aJ l).length_eq
theorem fN {a b:List Int}(h:a.Perm b):isort a=isort b:=b7 ((aJ a).trans (h.trans (aJ b).symm)) (bp a) (bp b)
theorem vd {l:List Int}(h:l.Pairwise (·<=·)):isort l=l:=b7 (aJ l) (bp l) h
structure Beat (n:Int)(xs:List Int):Prop where
 ne:xs≠[]
 up:xs.Pairwise (·<·)
 rg:∀ x∈xs,0<=x/\x<n
theorem Beat.nd {n:Int}{xs:List Int}(h:Beat n xs):xs.Nodup:=h.up.imp λ {a b} h e=>⋯
theorem oQ:∀ {xs:List Int} {lo hi:Int},xs.Pairwise (·<·)->(∀ x∈xs,lo<=x/\x<hi)->(xs.length:Int)<=max 0 (hi-lo)
 | [],lo,hi,_,_=>by simp;omega
 | x::r,lo,hi,h,g=>by
  obtain⟨h1,h2⟩:=List.pairwise_cons.mp h;have gx:=g x (CS ..);have:=oQ (lo:=x+1) (hi:=hi) h2 λ y hy=>⟨h1 y hy,(g y (CV _ hy)).2⟩
  rw[CQ];omega
theorem Beat.len {n:Int}{xs:List Int}(h:Beat n xs):(xs.length:Int)<=n:=by
 have:=oQ h.up h.rg;obtain⟨x,hx⟩:=Es xs h.ne;have:=h.rg x hx;omega
theorem Beat.pos {n:Int}{xs:List Int}(h:Beat n xs):1<=n:=by
 obtain⟨x,hx⟩:=Es xs h.ne;have:=h.rg x hx;omega
theorem Beat.len1 {n:Int}{xs:List Int}(h:Beat n xs):1<=xs.length:=by
 cases xs with
 | nil=>exact absurd rfl h.ne
 | cons a r=>simp
theorem yT {l:List Int}(h1:l.Pairwise (·<=·))(h2:l.Nodup):l.Pairwise (·<·):=by
 induction l with
 | nil=>exact .nil
 | cons a r ih=>
  obtain⟨a1,a2⟩:=List.pairwise_cons.mp h1;obtain⟨b1,b2⟩:=List.nodup_cons.mp h2;refine List.pairwise_cons.mpr ⟨λ x hx=>?_,ih a2 b2⟩;have:=a1 x hx;have:a≠x:=λ e=>b1 (e▸hx)
  omega
theorem fH {n:Int}{xs:List Int}(ne:xs≠[])(nd:xs.Nodup)(rg:∀ x∈xs,0<=x/\x<n):Beat n (isort xs) where
 ne:=λ e=>ne (by have:=cW xs;rw[e] at this;exact DA this.symm)
 up:=yT (bp xs) ((aJ xs).nodup_iff.mpr nd)
 rg:=λ x hx=>rg x ((aJ xs).mem_iff.mp hx)
theorem Beat.sorted {n:Int}{xs:List Int}(h:Beat n xs):isort xs=xs:=vd (h.up.imp λ {a b} h=>Int.le_of_lt h)
theorem dX {f:Int->Int}:∀ {xs:List Int},xs.Nodup->(∀ x∈xs,∀ y∈xs,f x=f y->x=y)->(xs.map f).Nodup
 | [],_,_=>by simp
 | x::r,h,g=>by
  obtain⟨h1,h2⟩:=List.nodup_cons.mp h;refine List.nodup_cons.mpr ⟨λ m=>?_,dX h2 λ a ha b hb=>g a (CV _ ha) b (CV _ hb)⟩;obtain⟨y,hy,e⟩:=List.mem_map.mp m;exact h1 (g y (CV _ hy) x (CS ..) e▸hy)
theorem gS {n k d:Int}(hn:0<n)(e:d=n*k)(h1:-n<d)(h2:d<n):d=0:=by
 rcases Int.lt_trichotomy k 0 with h|h|h
 ·have:n*k<=n*(-1):=DV ⋯ ⋯
  omega
 ·subst h;omega
 ·have:n*1<=n*k:=DV ⋯ ⋯
  omega
theorem mod_eq_iff {n a b:Int}:a%n=b%n ↔ ∃ k,a-b=n*k:=by
 constructor
 ·intro h
  have:=Int.emod_emod_of_dvd a (Int.dvd_refl n);have h1:(a-b)%n=0:=(Et).mp h;exact Ed h1
 ·rintro ⟨k,h⟩
  exact(Et).mpr (Ex ⟨k,h⟩)
theorem gv {n x y b:Int}(hn:0<n)(hx:0<=x/\x<n)(hy:0<=y/\y<n)(h:(x+b)%n=(y+b)%n):x=y:=by
 obtain⟨k,e⟩:=mod_eq_iff.mp h;have:=gS (d:=x-y) (k:=k) hn ⋯ ⋯ ⋯;omega
theorem bu {n a:Int}(hn:0<n):0<=a%n/\a%n<n:=⟨FR _ ⋯,Fz _ hn⟩
theorem ki {n b:Int}{xs:List Int}(h:Beat n xs):Beat n (isort (xs.map λ x=>(x+b)%n)):=by
 have hp:=h.pos;refine fH (by simpa using h.ne) (dX h.nd λ x hx y hy e=>gv ⋯ (h.rg x hx) (h.rg y hy) e) λ x hx=>?_
 obtain⟨y,_,rfl⟩:=List.mem_map.mp hx;exact bu ⋯
def again (n:Int)(xs:List Int):Nat->List Int
 | 0=>[]
 | t+1=>again n xs t++xs.map (·+t*n)
theorem i3 {n:Int}{xs:List Int}(h:∀ x∈xs,0<=x/\x<n)(hn:0<=n):∀ (t:Nat),∀ x∈again n xs t,0<=x/\x<n*t
 | 0,x,hx=>by simp[again] at hx
 | t+1,x,hx=>by
  have e:n*((t+1:Nat):Int)=n*t+n:=by rw[E5,Fj,FL]
  unfold again at hx
  rcases List.mem_append.mp hx with hx|hx
  ·have:=i3 h hn t x hx;omega
  ·obtain⟨y,hy,rfl⟩:=List.mem_map.mp hx
   have:=h y hy;have e2:(t:Int)*n=n*t:=EO _ _;have:0<=n*(t:Int):=Fp hn ⋯;simp only[e2];omega
theorem l9 {n:Int}{xs:List Int}(h:xs.Pairwise (·<·))(g:∀ x∈xs,0<=x/\x<n)(hn:0<=n):∀ (t:Nat),(again n xs t).Pairwise (·<·)
 | 0=>.nil
 | t+1=>by
  unfold again;refine List.pairwise_append.mpr ⟨l9 h g hn t,?_,λ a ha b hb=>?_⟩
  ·exact List.pairwise_map.mpr (h.imp λ {a b} h=>⋯)
  ·have:=i3 g hn t a ha
   obtain⟨y,hy,rfl⟩:=List.mem_map.mp hb;have:=g y hy;have e2:(t:Int)*n=n*t:=EO _ _;simp only[e2];omega
theorem oq {n:Int}{xs:List Int}(h:Beat n xs){t:Nat}(ht:1<=t):Beat (n*t) (again n xs t) where
 ne:=by
  cases t with
  | zero=>omega
  | succ t=>unfold again;have:=h.ne;simp[this]
 up:=l9 h.up h.rg (by have:=h.pos;omega) t
 rg:=i3 h.rg (by have:=h.pos;omega) t
theorem mo {n t:Int}{xs:List Int}(h:Beat n xs)(ht:1<=t):Beat (n*t) (xs.map (·*t)) where
 ne:=by simpa using h.ne
 up:=List.pairwise_map.mpr (h.up.imp λ {a b} h=>EX h ⋯)
 rg:=λ x hx=>by
  obtain⟨y,hy,rfl⟩:=List.mem_map.mp hx;have:=h.rg y hy;exact⟨Fp this.1 ⋯,EX this.2 ⋯⟩
def mix (xs:List Int)(t:Int):Nat->List Int
 | 0=>[]
 | j+1=>mix xs t j++xs.map (·*t+j)
theorem mix_mem {xs:List Int}{t:Int}:∀ {j:Nat} {x:Int},x∈mix xs t j ↔ ∃ y∈xs,∃ i:Nat,i<j/\x=y*t+i
 | 0,x=>by simp[mix]
 | j+1,x=>by
  unfold mix;rw[Eu,mix_mem,Eo]
  constructor
  ·rintro (⟨y,hy,i,hi,rfl⟩|⟨y,hy,rfl⟩)
   ·exact⟨y,hy,i,⋯,rfl⟩
   ·exact⟨y,hy,j,⋯,rfl⟩
  ·rintro ⟨y,hy,i,hi,rfl⟩
   by_cases e:i=j
   ·subst e;exact .inr ⟨y,hy,rfl⟩
   ·exact .inl ⟨y,hy,i,⋯,rfl⟩
theorem digits {t y z i j:Int}(ht:0<t)(hi:0<=i/\i<t)(hj:0<=j/\j<t)(e:y*t+i=z*t+j):y=z/\i=j:=by
 have h1:i-j=t*(z-y):=by rw[Int.mul_sub,EO t z,EO t y];omega
 have h2:=gS ht h1 ⋯ ⋯;have h3:y*t=z*t:=⋯
 exact⟨Int.eq_of_mul_eq_mul_right ⋯ h3,⋯⟩
theorem vg {xs:List Int}{t:Int}(h:xs.Nodup)(ht:0<t):∀ {j:Nat},(j:Int)<=t->(mix xs t j).Nodup
 | 0,_=>by simp[mix]
 | j+1,hj=>by
  unfold mix;refine List.nodup_append.mpr ⟨vg h ht ⋯,dX h λ x _ y _ e=>(digits ht (i:=j) (j:=j) ⋯ ⋯ e).1,λ a ha b hb e=>?_⟩;subst e;obtain⟨y,hy,i,hi,rfl⟩:=mix_mem.mp ha;obtain⟨z,hz,e⟩:=List.mem_map.mp hb;have:=(digits ht (i:=j) (j:=i) ⋯ ⋯ e).2;omega
theorem mf {n:Int}{xs:List Int}(h:Beat n xs){t:Nat}(ht:1<=t):Beat (n*t) (isort (mix xs t t)):=by
 refine fH ?_ (vg h.nd ⋯ ⋯) λ x hx=>?_
 ·obtain⟨x,hx⟩:=Es xs h.ne
  exact FA (mix_mem.mpr ⟨x,hx,0,⋯,rfl⟩)
 ·obtain⟨y,hy,i,hi,rfl⟩:=mix_mem.mp hx
  have h1:=h.rg y hy;have h2:0<=y*(t:Int):=Fp h1.1 ⋯;have h3:(y+1)*(t:Int)<=n*t:=Int.mul_le_mul_of_nonneg_right ⋯ ⋯;rw[FN,F2] at h3;omega
def hits (n:Int)(beat starts:List Int):List Int:=starts.flatMap λ s=>beat.map λ b=>(b+s)%n
def bump (c:List Int)(p:Int):List Int:=c.set p.toNat (c.getD p.toNat 0+1)
def tally (n:Nat)(ps:List Int):List Int:=ps.foldl bump (List.replicate n 0)
theorem jj (c:List Int)(p:Int):(bump c p).length=c.length:=by unfold bump;rw[Dk]
theorem df:∀ (ps:List Int) (c:List Int),(ps.foldl bump c).length=c.length
 | [],c=>rfl
 | p::r,c=>by rw[C7,df,jj]
theorem kq (n:Nat)(ps:List Int):(tally n ps).length=n:=by unfold tally;rw[df,DD]
theorem eV:∀ (ps:List Int) (c:List Int) (i:Nat),i<c.length->(∀ p∈ps,0<=p)->(ps.foldl bump c)[i]?.getD 0=c[i]?.getD 0+(ps.count (i:Int):Nat)
 | [],c,i,_,_=>by simp
 | p::r,c,i,h,g=>by
  rw[C7,eV r (bump c p) i (by rw[jj];exact h) λ q hq=>g q (CV _ hq)];have gp:=g p (CS ..);unfold bump;rw[List.getElem?_set];by_cases e:p.toNat=i
  ·have e2:p=(i:Int):=⋯
   subst e2;simp[h,C6];omega
  ·have e2:¬ p=(i:Int):=⋯
   have e3:¬ (i:Int)=p:=⋯
   simp[e,e2,List.count_cons]
theorem jo (n:Nat){ps:List Int}(g:∀ p∈ps,0<=p):tally n ps=(List.range n).map λ (i:Nat)=>((ps.count (i:Int):Nat):Int):=by
 apply El;intro i;by_cases h:i<n
 ·have h1:=eV ps (List.replicate n 0) i (by simpa using h) g
  have hl:i<(tally n ps).length:=by rw[kq];exact h
  have h2:(tally n ps)[i]?=some ((tally n ps)[i]?.getD 0):=by rw[Dg hl];rfl
  rw[h2];show some ((ps.foldl bump (List.replicate n 0))[i]?.getD 0)=_
  rw[h1];simp[h]
 ·rw[Dm (by rw[kq];omega),Dm (by simp;omega)]
theorem ej {n:Int}(hn:0<n){beat starts:List Int}:∀ p∈hits n beat starts,0<=p/\p<n:=λ p hp=>by
 unfold hits at hp;obtain⟨s,_,h⟩:=List.mem_flatMap.mp hp;obtain⟨b,_,rfl⟩:=List.mem_map.mp h;exact bu hn
structure Fill (n:Int)(a b:List Int):Prop where
 one:Beat n a
 oth:Beat n b
 len:((a.length*b.length:Nat):Int)=n
 inj:∀ x∈a,∀ y∈a,∀ s∈b,∀ t∈b,(x+s)%n=(y+t)%n->x=y/\s=t
theorem wg {a b:List Int}(p:a.Perm b){x:Int}(h:x∈a):x∈b:=p.mem_iff.mp h
theorem fT {n:Int}{a:List Int}(ha:a.Nodup):∀ {b:List Int},b.Nodup->(∀ x∈a,∀ y∈a,∀ s∈b,∀ t∈b,(x+s)%n=(y+t)%n->x=y/\s=t)->(hits n a b).Nodup
 | [],_,_=>by simp[hits]
 | s::r,hb,inj=>by
  obtain⟨h1,h2⟩:=List.nodup_cons.mp hb;have e:hits n a (s::r)=(a.map λ b=>(b+s)%n)++hits n a r:=by simp[hits]
  rw[e];refine List.nodup_append.mpr ⟨dX ha λ x hx y hy q=>(inj x hx y hy s (CS ..) s (CS ..) q).1,fT ha h2 λ x hx y hy u hu v hv=>inj x hx y hy u (CV _ hu) v (CV _ hv),λ p hp q hq z=>?_⟩;subst z;obtain⟨x,hx,rfl⟩:=List.mem_map.mp hp;unfold hits at hq;obtain⟨t,ht,hq⟩:=List.mem_flatMap.mp hq;obtain⟨y,hy,e2⟩:=List.mem_map.mp hq;have:=(inj x hx y hy s (CS ..) t (CV _ ht) e2.symm).2;exact h1 (this▸ht)
theorem eQ (n:Int)(a:List Int):∀ b:List Int,(hits n a b).length=a.length*b.length
 | []=>by simp[hits]
 | s::r=>by
  have e:hits n a (s::r)=(a.map λ b=>(b+s)%n)++hits n a r:=by simp[hits]
  rw[e,C9,CY,eQ n a r,CQ,Nat.mul_succ,FF]
theorem uL:∀ {xs:List Int} {lo:Int},xs.Pairwise (·<·)->(∀ x∈xs,lo<=x/\x<lo+xs.length)->xs=(List.range xs.length).map λ (i:Nat)=>lo+(i:Int)
 | [],_,_,_=>rfl
 | x::r,lo,h,g=>by
  obtain⟨h1,h2⟩:=List.pairwise_cons.mp h;have gx:=g x (CS ..);have l:=oQ (lo:=x+1) (hi:=lo+((x::r).length:Int)) h2 λ y hy=>⟨h1 y hy,(g y (CV _ hy)).2⟩
  rw[CQ] at l gx;have ex:x=lo:=by
   rw[Fe] at l gx;omega
  subst ex;rw[CQ,Ff,CN,DY];have:=uL (xs:=r) (lo:=x+1) h2 λ y hy=>by
   have g1:=g y (CV _ hy);have g2:=h1 y hy;rw[CQ,Fe] at g1;omega
  conv=>lhs;rw[this]
  simp only[FO,FG,List.cons.injEq,true_and];apply Ec;intro i _;simp only[HX,E5];omega
theorem nu {n:Nat}{ps:List Int}(nd:ps.Nodup)(rg:∀ p∈ps,0<=p/\p<n)(hl:ps.length=n):ps.Perm ((List.range n).map λ (i:Nat)=>(i:Int)):=by
 have h1:=yT (bp ps) ((aJ ps).nodup_iff.mpr nd);have h2:=uL (lo:=0) h1 λ x hx=>by
  have:=rg x (wg (aJ ps) hx);rw[cW,hl];omega
 rw[cW,hl] at h2;have h3:=(aJ ps).symm;rw[h2] at h3;simpa using h3
theorem Fill.perm {n:Int}{a b:List Int}(h:Fill n a b):(hits n a b).Perm ((List.range n.toNat).map λ (i:Nat)=>(i:Int)):=by
 have hp:=h.one.pos;refine nu (fT h.one.nd h.oth.nd h.inj) (λ p hq=>?_) ?_
 ·have:=ej (n:=n) ⋯ p hq;omega
 ·have:=eQ n a b;have:=h.len;omega
theorem count_range (n i:Nat)(h:i<n):((List.range n).map λ (i:Nat)=>(i:Int)).count (i:Int)=1:=by
 have nd:((List.range n).map λ (i:Nat)=>(i:Int)).Nodup:=List.pairwise_map.mpr (List.pairwise_lt_range.imp λ {a b} h=>⋯);have h1:=(List.nodup_iff_count.mp nd) (i:Int);have h2:=List.count_pos_iff.mpr (List.mem_map.mpr ⟨i,List.mem_range.mpr h,rfl⟩:(i:Int)∈(List.range n).map λ (i:Nat)=>(i:Int));omega
theorem Fill.tally {n:Int}{a b:List Int}(h:Fill n a b):tally n.toNat (hits n a b)=List.replicate n.toNat 1:=by
 have hp:=h.one.pos;rw[jo _ λ p hq=>(ej ⋯ p hq).1];apply El;intro i;by_cases hi:i<n.toNat
 ·simp[hi,h.perm.count_eq,count_range _ _ hi]
 ·rw[Dm (by simp;omega),Dm (by simp;omega)]
theorem qN {n:Int}{a b:List Int}(ha:Beat n a)(hb:Beat n b)(h:tally n.toNat (hits n a b)=List.replicate n.toNat 1):Fill n a b:=by
 have hp:=ha.pos;rw[jo _ λ p hq=>(ej ⋯ p hq).1] at h;have cnt:∀ p:Int,0<=p->p<n->(hits n a b).count p=1:=λ p h0 h1=>by
  have e:=congrArg (λ l=>l[p.toNat]?) h;have hi:p.toNat<n.toNat:=⋯
  simp[hi] at e;have e2:((p.toNat:Nat):Int)=p:=⋯
  have e3:max p 0=p:=⋯
  first
   | (rw[e2] at e;omega)
   | (rw[e3] at e;omega)
 have nd:(hits n a b).Nodup:=by
  rw[List.nodup_iff_count];intro p;by_cases hm:p∈hits n a b
  ·have:=ej (n:=n) ⋯ p hm
   rw[cnt p this.1 this.2];omega
  ·rw[Eh hm];omega
 have pm:(hits n a b).Perm ((List.range n.toNat).map λ (i:Nat)=>(i:Int)):=by
  refine(List.perm_iff_count).mpr λ p=>?_
  by_cases hr:0<=p/\p<n
  ·rw[cnt p hr.1 hr.2]
   have:=count_range n.toNat p.toNat ⋯;rw[show ((p.toNat:Nat):Int)=p by omega] at this;exact this.symm
  ·rw[Eh λ hm=>hr (ej ⋯ p hm),Eh]
   intro hm;obtain⟨i,hi,rfl⟩:=List.mem_map.mp hm;have:=List.mem_range.mp hi;omega
 refine⟨ha,hb,?_,?_⟩
 ·have:=pm.length_eq
  rw[eQ,CY,FJ] at this;omega
 ·-- two ways to one place would count twice
  have aux:∀ {b:List Int},(hits n a b).Nodup->b.Nodup->∀ x∈a,∀ y∈a,∀ s∈b,∀ t∈b,(x+s)%n=(y+t)%n->x=y/\s=t:=by
   intro b
   induction b with
   | nil=>intro _ _ x _ y _ s hs;simp at hs
   | cons u r ih=>
    intro nd nb x hx y hy s hs t ht e;have eh:hits n a (u::r)=(a.map λ b=>(b+u)%n)++hits n a r:=by simp[hits]
    rw[eh] at nd;obtain⟨n1,n2,n3⟩:=List.nodup_append.mp nd;have inr:∀ z∈a,∀ v∈r,(z+v)%n∈hits n a r:=λ z hz v hv=>List.mem_flatMap.mpr ⟨v,hv,List.mem_map.mpr ⟨z,hz,rfl⟩⟩
    rcases List.mem_cons.mp hs with e1|hs'
    ·rcases List.mem_cons.mp ht with e2|ht'
     ·subst e1 e2
      exact⟨gv ⋯ (ha.rg x hx) (ha.rg y hy) e,rfl⟩
     ·subst e1
      exact absurd e (n3 _ (List.mem_map.mpr ⟨x,hx,rfl⟩) _ (inr y hy t ht'))
    ·rcases List.mem_cons.mp ht with e2|ht'
     ·subst e2
      exact absurd e.symm (n3 _ (List.mem_map.mpr ⟨y,hy,rfl⟩) _ (inr x hx s hs'))
     ·exact ih n2 (List.nodup_cons.mp nb).2 x hx y hy s hs' t ht' e
  exact aux nd hb.nd
end Bt
namespace Wm
open Bt
open Dv (isort)
section
variable {n:Int}{A:List Int}
def Tf (n:Int)(A:List Int)(s:Int):List Int:=isort (A.map λ x=>(x+s)%n)
theorem mem_T {p s:Int}:p∈Tf n A s ↔ ∃ x∈A,(x+s)%n=p:=by
 unfold Tf;rw[(aJ _).mem_iff,Eo]
theorem AX (h:Beat n A):Tf n A 0=A:=by
 unfold Tf;have e:A.map (λ x=>(x+0)%n)=A:=by
  have:A.map (λ x=>(x+0)%n)=A.map id:=Ec λ x hx=>by
   have:=h.rg x hx;rw[FG];exact Em this.1 this.2
  rw[this,List.map_id]
 rw[e];exact h.sorted
theorem rV {ks:List Int}{j p:Int}:p∈Dv.putKs ks j ↔ p∈ks\/p=j:=by
 unfold Dv.putKs
 split
 ·rename_i h
  constructor
  ·exact .inl
  ·rintro (h' | rfl)
   ·exact h'
   ·exact h
 ·simp
theorem u9 {ks:List Int}{j:Int}(h:ks.Nodup):(Dv.putKs ks j).Nodup:=by
 unfold Dv.putKs
 split
 ·exact h
 ·rename_i q
  exact List.nodup_append.mpr ⟨h,by simp,λ a ha b hb e=>by simp at hb;subst hb;subst e;exact q ha⟩
theorem nq:∀ (ps ks:List Int) {p:Int},p∈ps.foldl Dv.putKs ks ↔ p∈ks\/p∈ps
 | [],ks,p=>by simp
 | q::r,ks,p=>by
  rw[C7,nq r,rV,Dw]
  constructor
  ·rintro ((h|h)|h)
   ·exact .inl h
   ·exact .inr (.inl h)
   ·exact .inr (.inr h)
  ·rintro (h|h|h)
   ·exact .inl (.inl h)
   ·exact .inl (.inr h)
   ·exact .inr h
theorem qv:∀ (ps ks:List Int),ks.Nodup->(ps.foldl Dv.putKs ks).Nodup
 | [],ks,h=>h
 | q::r,ks,h=>qv r _ (u9 h)
def kz (n:Int)(A S:List Int):List Int:=(S.flatMap (Tf n A)).foldl Dv.putKs []
theorem mem_kz {S:List Int}{p:Int}:p∈kz n A S ↔ ∃ s∈S,∃ x∈A,(x+s)%n=p:=by
 unfold kz;rw[nq,EC]
 constructor
 ·rintro (h|⟨s,hs,h⟩)
  ·simp at h
  ·exact⟨s,hs,mem_T.mp h⟩
 ·rintro ⟨s,hs,h⟩
  exact .inr ⟨s,hs,mem_T.mpr h⟩
theorem iy (S:List Int):(kz n A S).Nodup:=qv _ _ .nil
theorem jn (hn:0<n){S:List Int}:∀ p∈kz n A S,0<=p/\p<n:=λ p hp=>by
 obtain⟨s,_,x,_,rfl⟩:=mem_kz.mp hp;exact bu hn
structure Good (n:Int)(A S:List Int):Prop where
 rg:∀ s∈S,0<=s/\s<n
 nd:S.Nodup
 inj:∀ x∈A,∀ y∈A,∀ s∈S,∀ t∈S,(x+s)%n=(y+t)%n->x=y/\s=t
theorem Good.less {S S':List Int}(h:Good n A S)(nd:S'.Nodup)(sub:∀ s∈S',s∈S):Good n A S':=
 ⟨λ s hs=>h.rg s (sub s hs),nd,λ x hx y hy s hs t ht=>h.inj x hx y hy s (sub s hs) t (sub t ht)⟩
theorem Good.len {S:List Int}(h:Good n A S)(hA:A.Nodup):(kz n A S).length=A.length*S.length:=by
 have p:(kz n A S).Perm (hits n A S):=(DN (iy S) (fT hA h.nd h.inj)).mpr λ q=>by
  rw[mem_kz];unfold hits;rw[EC]
  constructor
  ·rintro ⟨s,hs,x,hx,e⟩
   exact⟨s,hs,List.mem_map.mpr ⟨x,hx,e⟩⟩
  ·rintro ⟨s,hs,e⟩
   obtain⟨x,hx,e⟩:=List.mem_map.mp e;exact⟨s,hs,x,hx,e⟩
 rw[p.length_eq,eQ]
def fre (n:Int)(ks:List Int):List Int:=((List.range n.toNat).map λ (i:Nat)=>(i:Int)).filter λ p=>!decide (p∈ks)
theorem mem_fre {ks:List Int}{p:Int}:p∈fre n ks ↔ (0<=p/\p<n)/\p∉ks:=by
 unfold fre;rw[D7,Eo]
 constructor
 ·rintro ⟨⟨i,hi,rfl⟩,h⟩
  have:=List.mem_range.mp hi;exact⟨⋯,by simpa using h⟩
 ·rintro ⟨h,q⟩
  exact⟨⟨p.toNat,List.mem_range.mpr ⋯,⋯⟩,by simpa using q⟩
theorem wG (ks:List Int):(fre n ks).Pairwise (·<·):=by
 unfold fre;refine List.Pairwise.filter _ (List.pairwise_map.mpr ?_);exact List.pairwise_lt_range.imp λ h=>⋯
theorem fu (hn:0<n){ks:List Int}(nd:ks.Nodup)(rg:∀ p∈ks,0<=p/\p<n):fre n ks=[] ↔ (ks.length:Int)=n:=by
 constructor
 ·intro h
  have p:ks.Perm ((List.range n.toNat).map λ (i:Nat)=>(i:Int)):=by
   refine(DN nd ?_).mpr λ q=>⟨λ hq=>?_,λ hq=>?_⟩
   ·exact(List.pairwise_map.mpr (List.pairwise_lt_range.imp λ h=>⋯)).imp λ {a b} (h:a<b)=>⋯
   ·have:=rg q hq
    exact List.mem_map.mpr ⟨q.toNat,List.mem_range.mpr ⋯,⋯⟩
   ·obtain⟨i,hi,rfl⟩:=List.mem_map.mp hq
    have hi:=List.mem_range.mp hi;by_cases z:(i:Int)∈ks
    ·exact z
    ·have:(i:Int)∈fre n ks:=mem_fre.mpr ⟨⋯,z⟩
     rw[h] at this;cases this
  have:=p.length_eq;rw[CY,FJ] at this;omega
 ·intro h
  have p:=nu (n:=n.toNat) nd (λ p hp=>by have:=rg p hp;omega) ⋯;cases q:fre n ks with
  | nil=>rfl
  | cons m r=>
   have hm:m∈fre n ks:=by rw[q];exact CS ..
   obtain⟨h1,h2⟩:=mem_fre.mp hm;exact absurd (p.mem_iff.mpr (List.mem_map.mpr ⟨m.toNat,List.mem_range.mpr ⋯,⋯⟩)) h2
def kids (n:Int)(A S:List Int)(m:Int):List Int:=(A.map λ x=>(m-x)%n).filter λ s=>(Tf n A s).all λ p=>!decide (p∈kz n A S)
theorem mem_kids {S:List Int}{m s:Int}:s∈kids n A S m ↔ (∃ x∈A,(m-x)%n=s)/\∀ x∈A,(x+s)%n∉kz n A S:=by
 unfold kids;rw[D7,Eo,DP];refine and_congr Iff.rfl ⟨λ h x hx=>?_,λ h p hp=>?_⟩
 ·simpa using h _ (mem_T.mpr ⟨x,hx,rfl⟩)
 ·obtain⟨x,hx,rfl⟩:=mem_T.mp hp
  simpa using h x hx
theorem i4 {x m:Int}(hm:0<=m/\m<n):(x+(m-x)%n)%n=m:=by
 have:(x+(m-x)%n)%n=m%n:=mod_eq_iff.mpr ⟨-((m-x)/n),by
  have:=ED (m-x) n;rw[FP];omega⟩
 rw[this];exact Em hm.1 hm.2
theorem yi (h:Beat n A){S:List Int}{m:Int}:(kids n A S m).Nodup:=by
 unfold kids;refine List.Pairwise.filter _ (dX h.nd λ x hx y hy e=>?_);have h1:=h.rg x hx;have h2:=h.rg y hy;obtain⟨k,e⟩:=mod_eq_iff.mp e;have:=gS (d:=y-x) (k:=k) (n:=n) ⋯ ⋯ ⋯ ⋯;omega
theorem jT (S:List Int)(m:Int):(kids n A S m).length<=A.length:=by
 unfold kids;exact DJ (DQ _ _) (by rw[CY];exact Dh _)
theorem Good.kid (h:Beat n A){S:List Int}{m s:Int}(g:Good n A S)(hm:m∈fre n (kz n A S))(hs:s∈kids n A S m):Good n A (S++[s])/\∃ x∈A,(x+s)%n=m:=by
 have hp:=h.pos;obtain⟨hm1,hm2⟩:=mem_fre.mp hm;obtain⟨⟨x,hx,rfl⟩,hfr⟩:=mem_kids.mp hs;have hsr:0<=(m-x)%n/\(m-x)%n<n:=bu ⋯;have hxm:(x+(m-x)%n)%n=m:=i4 hm1;have hnot:(m-x)%n∉S:=λ z=>hm2 (mem_kz.mpr ⟨_,z,x,hx,hxm⟩)
 refine⟨⟨λ t ht=>?_,List.nodup_append.mpr ⟨g.nd,by simp,λ a ha b hb e=>?_⟩,λ y hy z hz t ht u hu e=>?_⟩,x,hx,hxm⟩
 ·rcases List.mem_append.mp ht with ht|ht
  ·exact g.rg t ht
  ·simp at ht;subst ht;exact hsr
 ·simp at hb;subst hb;subst e;exact hnot ha
 ·rcases List.mem_append.mp ht with ht|ht <;>rcases List.mem_append.mp hu with hu|hu
  ·exact g.inj y hy z hz t ht u hu e
  ·simp at hu;subst hu
   exact absurd (mem_kz.mpr ⟨t,ht,y,hy,e⟩) (hfr z hz)
  ·simp at ht;subst ht
   exact absurd (mem_kz.mpr ⟨u,hu,z,hz,e.symm⟩) (hfr y hy)
  ·simp at ht hu;subst ht;subst hu
   exact⟨gv ⋯ (h.rg y hy) (h.rg z hz) e,rfl⟩
def dfs (n:Int)(A:List Int):Nat->List Int->List (List Int)
 | 0,_=>[]
 | d+1,S=>match fre n (kz n A S) with
  | []=>[isort S]
  | m::_=>(kids n A S m).flatMap λ s=>dfs n A d (S++[s])
def cas (n:Int)(A:List Int):Nat->List Int->Nat
 | 0,_=>0
 | d+1,S=>match fre n (kz n A S) with
  | []=>1
  | m::_=>1+((kids n A S m).map λ s=>cas n A d (S++[s])).sum
theorem Good.fill (h:Beat n A){S:List Int}(g:Good n A S)(ne:S≠[])(hf:fre n (kz n A S)=[]):Fill n A (isort S):=by
 have hp:=h.pos;have hl:=(fu ⋯ (iy S) (jn ⋯)).mp hf;rw[g.len h.nd] at hl;refine⟨h,fH ne g.nd g.rg,by rw[cW];exact hl,λ x hx y hy s hs t ht e=>?_⟩;exact g.inj x hx y hy s ((aJ S).mem_iff.mp hs) t ((aJ S).mem_iff.mp ht) e
theorem bV (h:Beat n A):∀ (d:Nat) (S:List Int),Good n A S->S≠[]->∀ B∈dfs n A d S,Fill n A B/\∀ s∈S,s∈B
 | 0,S,_,_,B,hB=>by simp[dfs] at hB
 | d+1,S,g,ne,B,hB=>by
  unfold dfs at hB
  split at hB
  ·rename_i hf
   simp at hB;subst hB;exact⟨g.fill h ne hf,λ s hs=>(aJ S).mem_iff.mpr hs⟩
  ·rename_i m r hf
   obtain⟨s,hs,hB⟩:=List.mem_flatMap.mp hB;have hm:m∈fre n (kz n A S):=by rw[hf];exact CS ..
   obtain⟨f1,f2⟩:=bV h d (S++[s]) (g.kid h hm hs).1 (by simp) B hB;exact⟨f1,λ t ht=>f2 t (DC _ ht)⟩
theorem j5 {B:List Int}(f:Fill n A B):Good n A B:=⟨f.oth.rg,f.oth.nd,f.inj⟩
theorem bX {S B:List Int}(nd:S.Nodup)(sub:∀ s∈S,s∈B):S.length<=B.length:=nd.length_le_of_subset sub
theorem lj {B:List Int}(f:Fill n A B):∀ (d:Nat) (S:List Int),S.Nodup->(∀ s∈S,s∈B)->S≠[]->B.length-S.length<d->B∈dfs n A d S
 | 0,S,_,_,_,hd=>⋯
 | d+1,S,nd,sub,ne,hd=>by
  have h:=f.one;have hp:=h.pos;have g:Good n A S:=(j5 f).less nd sub;unfold dfs;cases hf:fre n (kz n A S) with
  | nil=>
   have hl:=(fu ⋯ (iy S) (jn ⋯)).mp hf;rw[g.len h.nd] at hl;have hlB:=f.len;have e1:A.length*S.length=A.length*B.length:=⋯
   have e2:S.length=B.length:=DR h.len1 e1;have p:S.Perm B:=(DN nd f.oth.nd).mpr λ x=>⟨sub x,λ hx=>by
    by_cases z:x∈S
    ·exact z
    ·have:=bX (S:=x::S) (B:=B) (List.nodup_cons.mpr ⟨z,nd⟩) (λ s hs=>by
      rcases List.mem_cons.mp hs with rfl|hs
      ·exact hx
      ·exact sub s hs)
     rw[CQ] at this;omega⟩
   simp only[DE];rw[fN p,f.oth.sorted]
  | cons m r=>
   have hm:m∈fre n (kz n A S):=by rw[hf];exact CS ..
   obtain⟨hm1,hm2⟩:=mem_fre.mp hm;have hcov:m∈hits n A B:=f.perm.mem_iff.mpr (List.mem_map.mpr ⟨m.toNat,List.mem_range.mpr ⋯,⋯⟩);unfold hits at hcov;obtain⟨b,hb,hcov⟩:=List.mem_flatMap.mp hcov;obtain⟨x,hx,hxm⟩:=List.mem_map.mp hcov;have hbr:=f.oth.rg b hb;have hbS:b∉S:=λ z=>hm2 (mem_kz.mpr ⟨b,z,x,hx,hxm⟩)
   have hbk:(m-x)%n=b:=by
    have:(m-x)%n=b%n:=by
     rw[<- hxm];refine mod_eq_iff.mpr ⟨-((x+b)/n),?_⟩;have:=ED (x+b) n;rw[FP];omega
    rw[this];exact Em hbr.1 hbr.2
   have hk:b∈kids n A S m:=mem_kids.mpr ⟨⟨x,hx,hbk⟩,λ y hy z=>by
    obtain⟨t,ht,w,hw,e⟩:=mem_kz.mp z;exact hbS ((f.inj y hy w hw b hb t (sub t ht) e.symm).2▸ht)⟩
   refine List.mem_flatMap.mpr ⟨b,hk,?_⟩;have nd':(S++[b]).Nodup:=List.nodup_append.mpr ⟨nd,by simp,λ a ha c hc e=>by simp at hc;subst hc;subst e;exact hbS ha⟩;have sub':∀ s∈S++[b],s∈B:=λ s hs=>by
    rcases List.mem_append.mp hs with hs|hs
    ·exact sub s hs
    ·simp at hs;subst hs;exact hb
   have:=bX nd' sub';rw[C9,Ds] at this;exact lj f d (S++[b]) nd' sub' (by simp) (by rw[C9,Ds];omega)
theorem wo (h:Beat n A):∀ (d:Nat) (S:List Int),Good n A S->S≠[]->(dfs n A d S).Nodup
 | 0,S,_,_=>by simp[dfs]
 | d+1,S,g,ne=>by
  unfold dfs
  split
  ·simp
  ·rename_i m r hf
   have hm:m∈fre n (kz n A S):=by rw[hf];exact CS ..
   show List.Pairwise _ _
   rw[List.pairwise_flatMap];refine⟨λ s hs=>wo h d (S++[s]) (g.kid h hm hs).1 (by simp),?_⟩;have key:∀ s∈kids n A S m,∀ t∈kids n A S m,s≠t->∀ x∈dfs n A d (S++[s]),∀ y∈dfs n A d (S++[t]),x≠y:=by
    intro s hs t ht hst x hx y hy e;subst e;obtain⟨g1,u,hu,e1⟩:=g.kid h hm hs;obtain⟨g2,v,hv,e2⟩:=g.kid h hm ht;obtain⟨f1,f2⟩:=bV h d _ g1 (by simp) x hx;obtain⟨_,f3⟩:=bV h d _ g2 (by simp) x hy;exact hst (f1.inj u hu v hv s (f2 s (by simp)) t (f3 t (by simp)) (e1.trans e2.symm)).2
   have nd:=yi h (S:=S) (m:=m);generalize kids n A S m=ks at key nd;clear hf hm g
   induction ks with
   | nil=>exact .nil
   | cons a r ih=>
    obtain⟨n1,n2⟩:=List.nodup_cons.mp nd;refine List.pairwise_cons.mpr ⟨λ b hb x hx y hy=>key a (CS ..) b (CV _ hb) (λ e=>n1 (e▸hb)) x hx y hy,ih (λ s hs t ht=>key s (CV _ hs) t (CV _ ht)) n2⟩
def bnd (a:Nat):Nat->Nat
 | 0=>1
 | r+1=>1+a*bnd a r
theorem jJ {f:Int->Nat}{b:Nat}:∀ (l:List Int),(∀ s∈l,f s<=b)->(l.map f).sum<=l.length*b
 | [],_=>by simp
 | s::r,h=>by
  have:=jJ r λ t ht=>h t (CV _ ht)
  have:=h s (CS ..);rw[CN,FX,CQ,DK];omega
theorem vX (h:Beat n A):∀ (d:Nat) (S:List Int),cas n A d S<=bnd A.length (d-1)
 | 0,S=>by simp[cas,bnd]
 | d+1,S=>by
  unfold cas
  split
  ·show 1<=bnd A.length d
   cases d <;>simp[bnd]
  ·rename_i m r _
   cases d with
   | zero=>
    have:=jJ (f:=λ s=>cas n A 0 (S++[s])) (b:=0) (kids n A S m) λ s _=>Dh _
    show 1+_<=1
    omega
   | succ d=>
    have:=jJ (f:=λ s=>cas n A (d+1) (S++[s])) (b:=bnd A.length d) (kids n A S m) λ s _=>vX h (d+1) (S++[s])
    have h2:=EG (bnd A.length d) (jT (n:=n) (A:=A) S m);show 1+_<=1+A.length*bnd A.length d
    omega
theorem qY (h:Beat n A):∀ (d:Nat) (S:List Int),(dfs n A d S).length<=A.length ^ (d-1)
 | 0,S=>by simp[dfs]
 | d+1,S=>by
  unfold dfs
  split
  ·show 1<=A.length ^ d
   exact Nat.one_le_pow _ _ h.len1
  ·rename_i m r _
   cases d with
   | zero=>
    rw[Ft];have:=jJ (f:=λ s=>(dfs n A 0 (S++[s])).length) (b:=0) (kids n A S m) λ s _=>Dh _
    simp only[EN,FZ,Nat.pow_zero];omega
   | succ d=>
    rw[Ft];have:=jJ (f:=λ s=>(dfs n A (d+1) (S++[s])).length) (b:=A.length ^ d) (kids n A S m) λ s _=>qY h (d+1) (S++[s])
    have h2:=EG (A.length ^ d) (jT (n:=n) (A:=A) S m);show _<=A.length ^ (d+1)
    rw[FH,EM];omega
end
end Wm
namespace Cw
open Dv (Out R RL cmD bR eAnd eB1 eB2 eBl eCall eCm eComp eCompT eDict0 eDnin eFld eInt eIx eLst eNeg eNot eOp eOr eTup eVar forGo iRange iSeq iZip keepD lCons lNil opD rngOk sApp sAppG sCons sDPut sExpr sFor sForT sIf sNil sPut sRet sRetO sSet sSetG)
open Dv (D R RL EE EL EI RI Sl Out SS St)
open Bt
abbrev L (xs:List Int):D:=.lst (xs.map .int)
theorem lh:∀ xs:List Int,Dv.intsOf (xs.map .int)=some xs
 | []=>rfl
 | x::r=>by simp[Dv.intsOf,lh r]
theorem bq:∀ xs:List Int,Dv.flatL (xs.map .int)=true
 | []=>rfl
 | x::r=>by simp[Dv.flatL,Dv.scal,bq r]
theorem As (i:Int):∀ xs:List Int,Dv.inD i (xs.map .int)=some (decide (i∈xs))
 | []=>by simp[Dv.inD]
 | x::r=>by
  rw[CN];unfold Dv.inD;rw[As i r];by_cases h:x=i
  ·subst h;simp
  ·have h2:¬ i=x:=λ e=>h e.symm
   simp[h,h2]
theorem yP:∀ a b:List Int,Dv.eqDL (a.map .int) (b.map .int)=some (decide (a=b))
 | [],[]=>rfl
 | [],_::_=>rfl
 | _::_,[]=>rfl
 | x::a,y::b=>by
  show (match (some (decide (x=y)):Option Bool),Dv.eqDL (a.map .int) (b.map .int) with|some p,some q=>some (p&&q)|_,_=>none)=_
  rw[yP a b];show some (decide (x=y)&&decide (a=b))=_
  by_cases h:x=y <;>by_cases h2:a=b <;>simp[h,h2]
theorem AH (a b:List Int):Dv.eqD (L a) (L b)=some (decide (a=b)):=yP a b
theorem eq_int (a b:Int):Dv.eqD (.int a) (.int b)=some (decide (a=b)):=rfl
theorem yQ (a b:Bool):Dv.eqD (.bl a) (.bl b)=some (a == b):=rfl
theorem yR:∀ xs:List Int,Dv.depthL (xs.map .int)=0
 | []=>by simp[Dv.depthL]
 | x::r=>by rw[CN];unfold Dv.depthL;rw[yR r];simp[Dv.depthD]
theorem hU (xs:List Int):Dv.depthD (L xs)=1:=by unfold Dv.depthD;rw[yR]
theorem iN (i:Int):Dv.depthD (.int i)=0:=by unfold Dv.depthD;rfl
theorem lA (i:Bool):Dv.depthD (.bl i)=0:=by unfold Dv.depthD;rfl
theorem yr {s:List Int}{k:Int}(h:0<=k)(h2:k<s.length):Dv.at? (s.map .int) k=some (.int (s.getD k.toNat 0)):=by
 unfold Dv.at?;rw[if_pos h];have:k.toNat<s.length:=⋯
 simp[Dc,C6,Dg this]
theorem g9 (a b:List Int):cmD .eq (L a) (L b)=.ok (.bl (decide (a=b))) true:=by
 simp only[Dv.cmD_eq,Dv.cmD_ne,Dv.cmD_lt,Dv.cmD_le,Dv.cmD_gt,Dv.cmD_ge,Dv.cmD_in,Dv.cmD_ni,Dv.cmD_it,Dv.cmD_nt,hU,hU,AH,Dv.optB,DW];rfl
theorem l8 (a b:List Int):cmD .ne (L a) (L b)=.ok (.bl (!decide (a=b))) true:=by
 simp only[Dv.cmD_eq,Dv.cmD_ne,Dv.cmD_lt,Dv.cmD_le,Dv.cmD_gt,Dv.cmD_ge,Dv.cmD_in,Dv.cmD_ni,Dv.cmD_it,Dv.cmD_nt,hU,hU,AH,Dv.optB,DW];rfl
theorem bI (a b:Int):cmD .eq (.int a) (.int b)=.ok (.bl (decide (a=b))) true:=by
 simp only[Dv.cmD_eq,Dv.cmD_ne,Dv.cmD_lt,Dv.cmD_le,Dv.cmD_gt,Dv.cmD_ge,Dv.cmD_in,Dv.cmD_ni,Dv.cmD_it,Dv.cmD_nt,iN,iN,eq_int,Dv.optB,DW];rfl
theorem da (a b:Int):cmD .ne (.int a) (.int b)=.ok (.bl (!decide (a=b))) true:=by
 simp only[Dv.cmD_eq,Dv.cmD_ne,Dv.cmD_lt,Dv.cmD_le,Dv.cmD_gt,Dv.cmD_ge,Dv.cmD_in,Dv.cmD_ni,Dv.cmD_it,Dv.cmD_nt,iN,iN,eq_int,Dv.optB,DW];rfl
theorem oA (a b:Bool):cmD .eq (.bl a) (.bl b)=.ok (.bl (a == b)) true:=by
 simp only[Dv.cmD_eq,Dv.cmD_ne,Dv.cmD_lt,Dv.cmD_le,Dv.cmD_gt,Dv.cmD_ge,Dv.cmD_in,Dv.cmD_ni,Dv.cmD_it,Dv.cmD_nt,lA,lA,yQ,Dv.optB,DW];rfl
theorem f6 (a:List Int):cmD .eq (L a) (.lst [])=.ok (.bl (decide (a=[]))) true:=g9 a []
theorem pK (i:Int)(b:List Int):cmD .isin (.int i) (L b)=.ok (.bl (decide (i∈b))) true:=by
 simp only[Dv.cmD_eq,Dv.cmD_ne,Dv.cmD_lt,Dv.cmD_le,Dv.cmD_gt,Dv.cmD_ge,Dv.cmD_in,Dv.cmD_ni,Dv.cmD_it,Dv.cmD_nt,As,Dv.optB,DW]
theorem jN (i:Int)(b:List Int):cmD .notin (.int i) (L b)=.ok (.bl (!decide (i∈b))) true:=by
 simp only[Dv.cmD_eq,Dv.cmD_ne,Dv.cmD_lt,Dv.cmD_le,Dv.cmD_gt,Dv.cmD_ge,Dv.cmD_in,Dv.cmD_ni,Dv.cmD_it,Dv.cmD_nt,As,Dv.optB,DW]
theorem gJ (x:List Nat):Dv.scal (.str x)=true:=rfl
theorem fL (a b:Int):cmD .lt (.int a) (.int b)=.ok (.bl (decide (a<b))) true:=rfl
theorem qq (a b:Int):cmD .le (.int a) (.int b)=.ok (.bl (decide (a<=b))) true:=rfl
theorem kL (a b:Int):cmD .gt (.int a) (.int b)=.ok (.bl (decide (b<a))) true:=rfl
theorem qE (a b:Int):cmD .ge (.int a) (.int b)=.ok (.bl (decide (b<=a))) true:=rfl
theorem eo {i j:Int}(h:-(2 ^ 64)<i)(h2:i<2 ^ 64):Dv.mulOk i j=true:=by
 have:Dv.bits i<=64:=by
  unfold Dv.bits
  split
  ·omega
  ·have h3:i.natAbs<2 ^ 64:=⋯
   have:=(Fk ⋯).mpr h3;omega
 simp[Dv.mulOk,this]
theorem cR {i j:Int}(h:-(2 ^ 64)<j)(h2:j<2 ^ 64):Dv.mulOk i j=true:=by
 have:Dv.bits j<=64:=by
  unfold Dv.bits
  split
  ·omega
  ·have h3:j.natAbs<2 ^ 64:=⋯
   have:=(Fk ⋯).mpr h3;omega
 simp[Dv.mulOk,this]
theorem xO {i j:Int}(h:Dv.bits i<=1048576)(h2:Dv.bits j<=1048576):Dv.mulOk i j=true:=by
 simp[Dv.mulOk,h,h2]
theorem yv {i:Int}{k:Nat}(hk:0<k)(h:-(2 ^ k)<i)(h2:i<2 ^ k):Dv.bits i<=k:=by
 unfold Dv.bits
 split
 ·omega
 ·have h3:i.natAbs<2 ^ k:=by
   have e:((2 ^ k:Nat):Int)=2 ^ k:=by norm_cast
   omega
  have:=(Fk ⋯).mpr h3;omega
theorem bN {i j:Int}(h:Dv.mulOk i j=true):opD .mul (.int i) (.int j)=.ok (.int (i*j)) true:=by
 simp[Dv.opD_ai,Dv.opD_al,Dv.opD_su,Dv.opD_mi,Dv.opD_ml,Dv.opD_mo,Dv.opD_fd,Dv.opD_po,Dv.opD_ba,Dv.opD_sh,h]
theorem aB {i j:Int}(h:0<j):opD .mod (.int i) (.int j)=.ok (.int (i%j)) true:=by
 simp[Dv.opD_ai,Dv.opD_al,Dv.opD_su,Dv.opD_mi,Dv.opD_ml,Dv.opD_mo,Dv.opD_fd,Dv.opD_po,Dv.opD_ba,Dv.opD_sh,h]
theorem hI {i j:Int}(h:0<=j):opD .shr (.int i) (.int j)=.ok (.int (i/2 ^ j.toNat)) true:=by
 simp[Dv.opD_ai,Dv.opD_al,Dv.opD_su,Dv.opD_mi,Dv.opD_ml,Dv.opD_mo,Dv.opD_fd,Dv.opD_po,Dv.opD_ba,Dv.opD_sh,h]
theorem vT {j:Int}(h:0<j)(h2:j<2 ^ 200):Dv.divOk j=true:=by
 have h3:j.natAbs<2 ^ 200:=⋯
 have:=(Fk ⋯).mpr h3;simp only[Dv.divOk,C3,decide_eq_true_eq];omega
theorem cC {i j:Int}(h:0<j)(h2:j<2 ^ 200):opD .fdiv (.int i) (.int j)=.ok (.int (i/j)) true:=by
 simp[Dv.opD_ai,Dv.opD_al,Dv.opD_su,Dv.opD_mi,Dv.opD_ml,Dv.opD_mo,Dv.opD_fd,Dv.opD_po,Dv.opD_ba,Dv.opD_sh,vT h h2]
theorem bH (i j:Int):opD .add (.int i) (.int j)=.ok (.int (i+j)) true:=rfl
theorem cu (i j:Int):opD .sub (.int i) (.int j)=.ok (.int (i-j)) true:=rfl
theorem gf {a b:List Int}(h:a.length+b.length<=100000):opD .add (L a) (L b)=.ok (L (a++b)) true:=by
 simp[Dv.opD_ai,Dv.opD_al,Dv.opD_su,Dv.opD_mi,Dv.opD_ml,Dv.opD_mo,Dv.opD_fd,Dv.opD_po,Dv.opD_ba,Dv.opD_sh,Dv.mx,h,bq]
theorem p4 {x n:Int}(h:-100000<=n)(h2:n<=100000):opD .mul (.lst [.int x]) (.int n)=.ok (L (List.replicate n.toNat x)) true:=by
 have h3:n.toNat<=100000:=⋯
 have e:(List.replicate n.toNat [D.int x]).flatten=(List.replicate n.toNat x).map D.int:=by
  generalize n.toNat=k
  induction k with
  | zero=>rfl
  | succ k ih=>rw[Du,DL,ih,Du,CN];rfl
 simp[Dv.opD_ai,Dv.opD_al,Dv.opD_su,Dv.opD_mi,Dv.opD_ml,Dv.opD_mo,Dv.opD_fd,Dv.opD_po,Dv.opD_ba,Dv.opD_sh,Dv.mx,h,h2,h3,e,Dv.flatL,Dv.scal,L]
theorem gW {x n:Int}(h:0<=n)(h2:n<=100000):opD .mul (.lst [.int x]) (.int n)=.ok (L (List.replicate n.toNat x)) true:=p4 ⋯ h2
theorem eB {xs:List Int}(h:xs.length<64)(f:Bool):Dv.sortedD (L xs) f=.ok (L (Dv.isort xs)) true:=by
 unfold Dv.sortedD;simp only[lh];rw[if_pos h]
theorem bf:Sl.get .no=none:=rfl
theorem o8 (d:D):Sl.get (.dp d)=some d:=rfl
theorem kj (d:D):Sl.shared (.dp d)=none:=rfl
theorem ar (d:D):Sl.get (.sh d)=some d:=rfl
theorem aQ (d:D):Sl.get (.ow d)=some d:=rfl
theorem aK (d:D):Sl.give (.sh d)=.sh d:=rfl
theorem fA (d:D):Sl.give (.ow d)=.sh d:=rfl
theorem aE:Sl.shared .no=none:=rfl
theorem aw (d:D):Sl.shared (.sh d)=some d:=rfl
theorem aS (d:D):Sl.shared (.ow d)=none:=rfl
theorem ag (i:Int):Dv.scal (.int i)=true:=rfl
theorem pS (i:Bool):Dv.scal (.bl i)=true:=rfl
theorem ak (i:List D):Dv.scal (.lst i)=false:=rfl
theorem gs (i:List D):Dv.scal (.tup i)=false:=rfl
theorem aI (i:Int)(f:Bool):keepD (.int i) f=some (.sh (.int i)):=rfl
theorem keep_nil:keepD (.lst []) true=some (.ow (.lst [])):=rfl
theorem mw (i:Int):keepD (.lst [.int i]) true=some (.ow (.lst [.int i])):=rfl
theorem bB (xs:List Int):keepD (L xs) true=some (.ow (L xs)):=by simp[keepD,bq]
theorem oY {elt cond:EE}{free:Dv.Env}{c:Int->Bool}{g:Int->Int}:∀ {xs:List Int},(∀ x∈xs,cond (some (.int x)::free)=.ok (.bl (c x)) true)->(∀ x∈xs,c x=true->elt (some (.int x)::free)=.ok (.int (g x)) true) ->
  bR elt cond free (xs.map .int)=.ok (((xs.filter c).map g).map .int) true
 | [],_,_=>rfl
 | x::r,h,k=>by
  rw[CN];unfold bR;rw[h x (CS ..),oY (c:=c) (g:=g) (λ y hy=>h y (CV _ hy)) λ y hy=>k y (CV _ hy)];cases e:c x with
  | true=>rw[k x (CS ..) e];simp[e]
  | false=>simp[e]
theorem vk {elt:EE}{free:Dv.Env}{g:Int->Int}{xs:List Int}(k:∀ x∈xs,elt (some (.int x)::free)=.ok (.int (g x)) true):
  bR elt (eBl true) free (xs.map .int)=.ok ((xs.map g).map .int) true:=by
 rw[oY (c:=λ _=>true) (g:=g) (λ _ _=>rfl) λ x hx _=>k x hx,List.filter_eq_self.mpr (λ _ _=>rfl)]
theorem cB {elt:EE}{is:List Nat}{it:EI}{ρ:Dv.Env}{g:Int->Int}{xs:List Int}{f:Bool}(hi:it ρ=.ok (xs.map .int) f)(hl:xs.length<=100000)(k:∀ x∈xs,elt (some (.int x)::Dv.pick ρ is)=.ok (.int (g x)) true):
  eComp elt (eBl true) is it ρ=.ok (L (xs.map g)) true:=by
 unfold eComp;rw[hi];simp only[CY,Dv.mx,hl,if_true,vk k]
theorem cG {elt cond:EE}{is:List Nat}{it:EI}{ρ:Dv.Env}{c:Int->Bool}{g:Int->Int}{xs:List Int}{f:Bool}(hi:it ρ=.ok (xs.map .int) f)(hl:xs.length<=100000)(h:∀ x∈xs,cond (some (.int x)::Dv.pick ρ is)=.ok (.bl (c x)) true)
  (k:∀ x∈xs,c x=true->elt (some (.int x)::Dv.pick ρ is)=.ok (.int (g x)) true):eComp elt cond is it ρ=.ok (L ((xs.filter c).map g)) true:=by
 unfold eComp;rw[hi];simp only[CY,Dv.mx,hl,if_true,oY h k]
def upto (n:Nat):List Int:=(List.range n).map λ (i:Nat)=>(i:Int)
theorem gR (lo:Int):∀ n:Nat,Dv.rangeL lo n=((List.range n).map λ (i:Nat)=>lo+(i:Int)).map D.int
 | 0=>rfl
 | n+1=>by
  unfold Dv.rangeL;rw[gR (lo+1) n,Ff,CN,CN,DY,DY,DY];simp only[FO,FG,List.cons.injEq,true_and];apply Ec;intro i _;simp only[HX,E5];congr 1;omega
theorem bA (n:Nat):Dv.rangeL 0 n=(upto n).map .int:=by rw[gR];simp[upto]
theorem kD (n:Nat):upto (n+1)=upto n++[(n:Int)]:=by unfold upto;rw[List.range_succ,D6];rfl
theorem upto_len (n:Nat):(upto n).length=n:=by simp[upto]
theorem mem_upto {n:Nat}{x:Int}:x∈upto n ↔ 0<=x/\x<n:=by
 unfold upto;rw[Eo]
 constructor
 ·rintro ⟨i,hi,rfl⟩;have:=List.mem_range.mp hi;omega
 ·intro h;exact⟨x.toNat,List.mem_range.mpr ⋯,⋯⟩
theorem ba {x:Nat}{body:SS}{d:D}{r:List D}{st st':St}(h:body (st.set x (.sh d))=.nx st'):forGo x body (d::r) st=forGo x body r st':=by
 conv=>lhs;unfold forGo
 rw[h]
theorem tS {x:Nat}{body:SS}{d:D}{r:List D}{st:St}{v:D}{f:Bool}(h:body (st.set x (.sh d))=.ret v f):forGo x body (d::r) st=.ret v f:=by
 conv=>lhs;unfold forGo
 rw[h]
theorem gZ {tgt:D->St->Option St}{body:SS}{d:D}{r:List D}{st st1 st':St}(h0:tgt d st=some st1)(h:body st1=.nx st'):Dv.forGoT tgt body (d::r) st=Dv.forGoT tgt body r st':=by
 conv=>lhs;unfold Dv.forGoT
 rw[h0];simp only[h]
theorem oV {tgt:D->St->Option St}{body:SS}{d:D}{r:List D}{st st1:St}{v:D}{f:Bool}(h0:tgt d st=some st1)(h:body st1=.ret v f):Dv.forGoT tgt body (d::r) st=.ret v f:=by
 conv=>lhs;unfold Dv.forGoT
 rw[h0];simp only[h]
theorem fj {n:Int}(h:1<=n)(h2:n<=60):F_Q03 [.int n]=.ok .non true:=by
 simp only[F_Q03,b_Q03,Dv.fn,sNil,sIf,eOr,eCm,eVar,eInt,Dv.all,R.bind,RL.bind,Out.bind,ar,ag,CN,CP,CQ,C4,List.replicate,CZ,C1,CM,Nat.reduceAdd,Nat.reduceSub,fL,kL,decide_eq_false (show ¬ n<1 by omega),decide_eq_false (show ¬ 60<n by omega)]
def eZ (b n:Int):List Int->Bool
 | []=>true
 | x::r=>decide (b<x)&&decide (x<n)&&eZ x n r
theorem jC:∀ {xs:List Int} {b n:Int},eZ b n xs=true ↔ xs.Pairwise (·<·)/\∀ x∈xs,b<x/\x<n
 | [],b,n=>by simp[eZ]
 | x::r,b,n=>by
  unfold eZ;rw[C3,C3,decide_eq_true_eq,decide_eq_true_eq,jC,List.pairwise_cons]
  constructor
  ·rintro ⟨⟨h1,h2⟩,h3,h4⟩
   refine⟨⟨λ y hy=>(h4 y hy).1,h3⟩,λ y hy=>?_⟩
   rcases List.mem_cons.mp hy with rfl|hy
   ·exact⟨h1,h2⟩
   ·have:=h4 y hy;omega
  ·rintro ⟨⟨h1,h2⟩,h3⟩
   have:=h3 x (CS ..);exact⟨this,h2,λ y hy=>⟨h1 y hy,(h3 y (CV _ hy)).2⟩⟩
theorem beat_iff {n:Int}{xs:List Int}:Beat n xs ↔ xs≠[]/\eZ (-1) n xs=true:=by
 rw[jC]
 constructor
 ·intro h;exact⟨h.ne,h.up,λ x hx=>by have:=h.rg x hx;omega⟩
 ·rintro ⟨h1,h2,h3⟩;exact⟨h1,h2,λ x hx=>by have:=h3 x hx;omega⟩
theorem eM (n:Int)(A:D):∀ (xs:List Int) (b:Int) (z:Sl),eZ b n xs=true->∃ st',forGo 3 b_Q02_l1 (xs.map .int) [.sh A,.sh (.int n),.sh (.int b),z]=.nx st'
 | [],b,z,_=>⟨_,rfl⟩
 | x::r,b,z,hu=>by
  unfold eZ at hu;rw[C3,C3,decide_eq_true_eq,decide_eq_true_eq] at hu;obtain⟨⟨h1,h2⟩,h3⟩:=hu;obtain⟨st',h⟩:=eM n A r x (.sh (.int x)) h3;refine⟨st',?_⟩;rw[CN,ba (st':=[.sh A,.sh (.int n),.sh (.int x),.sh (.int x)]),h];simp only[b_Q02_l1,sCons,sNil,sSetG,Dv.give,Dv.open_,aK,aw,sIf,eOr,eCm,eVar,Dv.all,R.bind,RL.bind,Out.bind,ar,ag,CN,CP,CM,CO,CT,CU,C7,C8,C5,qq,qE,decide_eq_false (show ¬ x<=b by omega),decide_eq_false (show ¬ n<=x by omega)]
theorem iI {n:Int}{xs:List Int}(h1:xs≠[])(h:eZ (-1) n xs=true):F_Q02 [L xs,.int n]=.ok .non true:=by
 obtain⟨st',e⟩:=eM n (L xs) xs (-1) .no h;have h1:¬ ((xs.length:Int)=0):=by
  have:=List.length_pos_iff.mpr h1;omega
 simp only[F_Q02,b_Q02,b_Q02_t2,b_Q02_t1,Dv.fn,sCons,sNil,sSet,aI,Dv.give,Dv.open_,aK,aE,aw,sIf,sFor,iSeq,eB1,Dv.lenD,eNeg,eCm,eVar,eInt,Dv.all,R.bind,RL.bind,Out.bind,bf,ar,ak,CN,CP,CQ,C4,List.replicate,CZ,C1,CM,CT,CU,C7,C8,C5,Nat.reduceAdd,Nat.reduceSub,bI,CY,decide_eq_false h1,e]
theorem cE {n:Int}{xs:List Int}(hn:n<=60)(h:Beat n xs):F_Q01 [.int n,L xs]=.ok .non true:=by
 have e:=iI h.ne (beat_iff.mp h).2;simp only[F_Q01,b_Q01,b_Q01_t1,Dv.fn,sCons,sExpr,eVar,lNil,lCons,eCall,Dv.all,R.bind,RL.bind,Dv.R.bindL,Dv.RL.bindL,Out.bind,ar,ag,ak,CN,CP,CQ,C4,List.replicate,CZ,C1,CM,CO,C2,Nat.reduceAdd,Nat.reduceSub,fj h.pos hn,e]
theorem getD_mem {s:List Int}{i:Nat}(h:i<s.length):s.getD i 0∈s:=by
 rw[C6,Dg h];exact EB h
theorem ni (x:Int):F_Q0V [.int x]=.ok (.bl true) true:=by
 simp only[F_Q0V,b_Q0V,Dv.fn,sRet,eB1,Dv.isIntD,Dv.isBoolD,eAnd,eNot,eVar,Dv.all,R.bind,RL.bind,Out.bind,ar,ag,CN,CP,CQ,C4,List.replicate,CZ,C1,CM,D4,Nat.reduceAdd,Nat.reduceSub]
theorem gG:∀ (xs ys:List Int) (A B:D) (y z:Sl),xs.length=ys.length->∃ st',Dv.forGoT (Dv.tupTo [2,3]) b_Q0D_l1 (List.zipWith (λ x y=>D.tup [x,y]) (xs.map .int) (ys.map .int)) [.sh A,.sh B,y,z]=if xs=ys then .nx st' else .ret (.bl false) true
 | [],[],A,B,y,z,_=>⟨_,rfl⟩
 | [],_::_,A,B,y,z,h=>by simp at h
 | _::_,[],A,B,y,z,h=>by simp at h
 | x::xs,w::ys,A,B,y,z,h=>by
  obtain⟨st',e⟩:=gG xs ys A B (.sh (.int x)) (.sh (.int w)) (by simpa using h);refine⟨st',?_⟩;have h0:Dv.tupTo [2,3] (.tup [.int x,.int w]) [.sh A,.sh B,y,z]=some [.sh A,.sh B,.sh (.int x),.sh (.int w)]:=rfl;rw[CN,CN,List.zipWith_cons_cons];by_cases hxw:x=w
  ·rw[gZ h0 (st':=[.sh A,.sh B,.sh (.int x),.sh (.int w)]),e]
   ·simp[hxw]
   ·simp only[b_Q0D_l1,sNil,sIf,eOr,eNot,eCm,eVar,lNil,lCons,eCall,Dv.all,R.bind,RL.bind,Dv.R.bindL,Dv.RL.bindL,Out.bind,ar,ag,CN,CP,CM,CO,C2,Dx,da,ni,decide_eq_true hxw]
  ·rw[oV h0 (v:=.bl false) (f:=true)]
   ·simp[hxw]
   ·simp only[b_Q0D_l1,sIf,sRet,eOr,eNot,eCm,eVar,eBl,lNil,lCons,eCall,Dv.all,R.bind,RL.bind,Dv.R.bindL,Dv.RL.bindL,Out.bind,ar,ag,CN,CP,CM,CO,C2,Dx,D4,da,ni,decide_eq_false hxw]
theorem pq (xs ys:List Int):F_Q0D [L xs,L ys]=.ok (.bl (decide (xs=ys))) true:=by
 by_cases h:xs.length=ys.length
 ·obtain⟨st',e⟩:=gG xs ys (L xs) (L ys) .no .no h
  have h1:(xs.length:Int)=ys.length:=⋯
  simp only[F_Q0D,b_Q0D,b_Q0D_t2,b_Q0D_t1,Dv.fn,sCons,sNil,Dv.give,Dv.open_,aK,aE,aw,sIf,sRet,sForT,iZip,eB1,Dv.lenD,Dv.isListD,eOr,eNot,eCm,eVar,eBl,Dv.all,R.bind,RL.bind,Out.bind,bf,ar,ak,CN,CP,CQ,C4,List.replicate,CZ,C1,CM,CO,CT,CU,C7,C8,C5,Dx,Nat.reduceAdd,Nat.reduceSub,decide_true,da,CY,h1,e];by_cases h2:xs=ys
  ·simp[h2]
  ·simp[h2]
 ·have h1:¬ (xs.length:Int)=ys.length:=⋯
  have h2:¬ xs=ys:=λ z=>h (by rw[z])
  simp only[F_Q0D,b_Q0D,b_Q0D_t2,b_Q0D_t1,Dv.fn,sCons,sIf,sRet,eB1,Dv.lenD,Dv.isListD,eOr,eNot,eCm,eVar,eBl,Dv.all,R.bind,RL.bind,Out.bind,bf,ar,ak,CN,CP,CQ,C4,List.replicate,CZ,C1,CM,CO,Dx,D4,Nat.reduceAdd,Nat.reduceSub,da,CY,decide_eq_false h1,decide_eq_false h2]
theorem qy (xs:List Int)(p:Int):xs.map D.int++[.int p]=(xs++[p]).map D.int:=by simp
def dU (bits share p:Int):Int:=
 if share=4 then (if bits/2 ^ ((p+7)%61).toNat%2 > bits/2 ^ p.toNat%2 then bits/2 ^ ((p+7)%61).toNat%2 else bits/2 ^ p.toNat%2)
 else if share=3 then bits/2 ^ p.toNat%2*(bits/2 ^ ((p+7)%61).toNat%2) else bits/2 ^ p.toNat%2
theorem sf {bits share p:Int}(hp:0<=p){found:List Int}(hl:found.length<=1000)(A B C:D)(z:Sl):
  ∃ z',b_Q0S_l1 [.sh A,.sh B,.sh C,.sh (.int bits),.sh (.int share),.ow (L found),.sh (.int p),z]=.nx [.sh A,.sh B,.sh C,.sh (.int bits),.sh (.int share),.ow (L (if dU bits share p=1 then found++[p] else found)),.sh (.int p),z']:=by
 have hm:=bu (n:=61) (a:=p+7) ⋯;have hx:found.length<Dv.mx:=by unfold Dv.mx;omega
 have h2:(0:Int)<2:=⋯
 have hb:=bu (n:=2) (a:=bits/2 ^ p.toNat) ⋯;have go:∀ b:Int,dU bits share p=b->(∃ z',sIf (eCm .eq (eVar 7) (eInt 1)) (sApp 5 (eVar 6)) sNil [.sh A,.sh B,.sh C,.sh (.int bits),.sh (.int share),.ow (L found),.sh (.int p),.sh (.int b)]=.nx [.sh A,.sh B,.sh C,.sh (.int bits),.sh (.int share),.ow (L (if dU bits share p=1 then found++[p] else found)),.sh (.int p),z']):=by
  intro b e;refine⟨.sh (.int b),?_⟩;rw[e];by_cases h1:b=1
  ·simp only[sIf,sApp,eCm,eVar,eInt,Dv.all,R.bind,RL.bind,Out.bind,ar,aQ,ag,CN,CP,CM,CO,CT,CU,C2,if_true,bI,CY,decide_eq_true h1,decide_eq_true hx,if_pos h1,qy,L]
  ·simp only[sNil,sIf,eCm,eVar,eInt,Dv.all,R.bind,RL.bind,Out.bind,ar,aQ,ag,CN,CP,CM,CO,bI,decide_eq_false h1,if_neg h1,L]
 by_cases h3:share=3
 ·have h4:¬ share=4:=⋯
  obtain⟨z',e⟩:=go (bits/2 ^ p.toNat%2*(bits/2 ^ ((p+7)%61).toNat%2)) (by simp[dU,h3]);refine⟨z',e▸?_⟩;simp only[b_Q0S_l1,sCons,sNil,sSet,aI,sIf,sApp,eCm,eOp,eVar,eInt,Dv.all,R.bind,RL.bind,Out.bind,ar,aQ,ag,CN,CP,CM,CO,CT,CU,Fv,bH,bI,CY,hI hp,hI hm.1,aB h2,aB (j:=61) (by decide),decide_eq_true h3,decide_eq_false h4,bN (eo (i:=bits/2 ^ p.toNat%2) ⋯ ⋯)]
 ·by_cases h4:share=4
  ·obtain⟨z',e⟩:=go (if bits/2 ^ ((p+7)%61).toNat%2 > bits/2 ^ p.toNat%2 then bits/2 ^ ((p+7)%61).toNat%2 else bits/2 ^ p.toNat%2) (by simp[dU,h4])
   refine⟨z',e▸?_⟩;simp only[b_Q0S_l1,sCons,sNil,sSet,aI,sIf,sApp,eB2,Dv.max2D,eCm,eOp,eVar,eInt,Dv.all,R.bind,RL.bind,Out.bind,ar,aQ,ag,CN,CP,CM,CO,CT,CU,Fv,bH,bI,CY,hI hp,hI hm.1,aB h2,aB (j:=61) (by decide),decide_eq_false h3,decide_eq_true h4]
  ·obtain⟨z',e⟩:=go (bits/2 ^ p.toNat%2) (by simp[dU,h3,h4])
   refine⟨z',e▸?_⟩;simp only[b_Q0S_l1,sCons,sNil,sSet,aI,sIf,sApp,eCm,eOp,eVar,eInt,Dv.all,R.bind,RL.bind,Out.bind,ar,aQ,ag,CN,CP,CM,CO,CT,CU,Fv,bI,CY,hI hp,hI hm.1,aB h2,aB (j:=61) (by decide),decide_eq_false h3,decide_eq_false h4]
theorem kC {bits share:Int}(A B C:D):∀ (xs found:List Int) (y z:Sl),(∀ x∈xs,0<=x)->xs.length+found.length<=1000 ->
  ∃ y' z',forGo 6 b_Q0S_l1 (xs.map .int) [.sh A,.sh B,.sh C,.sh (.int bits),.sh (.int share),.ow (L found),y,z]=.nx [.sh A,.sh B,.sh C,.sh (.int bits),.sh (.int share),.ow (L (found++xs.filter λ p=>decide (dU bits share p=1))),y',z']
 | [],found,y,z,_,_=>⟨y,z,by simp[forGo]⟩
 | p::r,found,y,z,h,hl=>by
  rw[CQ] at hl;obtain⟨z1,e⟩:=sf (bits:=bits) (share:=share) (h p (CS ..)) (found:=found) ⋯ A B C z;have hlen:(if dU bits share p=1 then found++[p] else found).length<=found.length+1:=by split <;>simp
  obtain⟨y',z',e2⟩:=kC A B C r (if dU bits share p=1 then found++[p] else found) (.sh (.int p)) z1 (λ x hx=>h x (CV _ hx)) ⋯;refine⟨y',z',?_⟩;rw[CN,ba (st':=[.sh A,.sh B,.sh C,.sh (.int bits),.sh (.int share),.ow (L (if dU bits share p=1 then found++[p] else found)),.sh (.int p),z1]),e2]
  ·by_cases hb:dU bits share p=1
   ·simp[hb,D3]
   ·simp[hb,D3]
  ·simp only[CU,CT];exact e
theorem xu (n:Nat):(upto n).Pairwise (·<·):=by
 unfold upto;exact List.pairwise_map.mpr (List.pairwise_lt_range.imp λ {a b} h=>⋯)
theorem me {n:Nat}:∀ x∈upto n,(0:Int)<=x:=λ x hx=>(mem_upto.mp hx).1
theorem de {n:Int}(h:0<=n)(h2:n<=1000):rngOk n=true:=by
 simp only[rngOk,C3,decide_eq_true_eq];omega
theorem j7 {n by_:Int}{xs:List Int}(hn:0<n)(hl:xs.length<64):F_Q0U [.int n,L xs,.int by_]=.ok (L (Dv.isort (xs.map λ x=>(x+by_)%n))) true:=by
 have hc:c_Q0U_1 [some (.int n),some (L xs),some (.int by_)]=.ok (L (xs.map λ x=>(x+by_)%n)) true:=by
  unfold c_Q0U_1;exact cB (f:=false) rfl ⋯ λ x hx=>by simp only[eOp,eVar,Dv.pick,R.bind,RL.bind,Out.bind,ag,CN,CP,CM,CO,C5,bH,aB hn]
 simp only[F_Q0U,b_Q0U,Dv.fn,sRet,eB1,Dv.all,R.bind,RL.bind,Out.bind,ar,CN,CP,CQ,C4,List.replicate,CZ,C1,Nat.reduceAdd,Nat.reduceSub,hc,eB (xs:=xs.map λ x=>(x+by_)%n) (by simpa using hl)]
theorem jv (n:Int)(xs:List Int):∀ t:Nat,(upto t).foldl (λ a k=>a++xs.map (·+k*n)) []=again n xs t
 | 0=>rfl
 | t+1=>by rw[kD,Ea,jv n xs t];rfl
theorem jO {n t:Int}{xs:List Int}:∀ (ks found:List Int) (z:Sl),(∀ k∈ks,0<=k/\k<=1000)->found.length+ks.length*xs.length<=100000 ->
  ∃ z',forGo 4 b_Q0B_l1 (ks.map .int) [.sh (.int n),.sh (L xs),.sh (.int t),.ow (L found),z]=.nx [.sh (.int n),.sh (L xs),.sh (.int t),.ow (L (ks.foldl (λ a k=>a++xs.map (·+k*n)) found)),z']
 | [],found,z,_,_=>⟨z,rfl⟩
 | k::r,found,z,h,hl=>by
  rw[CQ,DK] at hl;have hk:=h k (CS ..);have hc:c_Q0B_1 [some (.int n),some (L xs),some (.int t),some (L found),some (.int k)]=.ok (L (xs.map (·+k*n))) true:=by
   unfold c_Q0B_1;exact cB (f:=false) rfl ⋯ λ x hx=>by simp only[eOp,eVar,Dv.pick,R.bind,RL.bind,Out.bind,ag,CN,CP,CM,CO,C5,bH,bN (eo (i:=k) (j:=n) ⋯ ⋯)]
  obtain⟨z',e⟩:=jO (n:=n) (t:=t) (xs:=xs) r (found++xs.map (·+k*n)) (.sh (.int k)) (λ x hx=>h x (CV _ hx)) (by rw[C9,CY];omega);refine⟨z',?_⟩;rw[CN,ba (st':=[.sh (.int n),.sh (L xs),.sh (.int t),.ow (L (found++xs.map (·+k*n))),.sh (.int k)]),e]
  ·rfl
  ·simp only[b_Q0B_l1,sSet,bB,eOp,eVar,Dv.all,R.bind,RL.bind,Out.bind,ar,aQ,ak,CN,CP,CM,CO,CT,CU,CY,hc,gf (a:=found) (b:=xs.map (·+k*n)) (by rw[CY];omega)]
theorem uJ {n t:Int}{xs:List Int}(ht:0<=t)(ht2:t<=1000)(hl:xs.length<=60):F_Q0B [.int n,L xs,.int t]=.ok (L (again n xs t.toNat)) true:=by
 obtain⟨z,e⟩:=jO (n:=n) (t:=t) (xs:=xs) (upto t.toNat) [] .no (λ k hk=>by have:=mem_upto.mp hk;omega) (by
  rw[upto_len];have:t.toNat*xs.length<=1000*60:=EY ⋯ hl;simp;omega)
 rw[jv] at e;simp only[CP,L] at e;simp only[F_Q0B,b_Q0B,b_Q0B_t2,b_Q0B_t1,Dv.fn,sCons,sSet,keep_nil,Dv.give,Dv.open_,aE,aw,aS,sRetO,sFor,iRange,eVar,eLst,lNil,R.bind,RL.bind,Out.bind,ag,CN,CP,CQ,C4,List.replicate,CZ,C1,CM,CO,CT,CU,C8,if_true,Nat.reduceAdd,Nat.reduceSub,bq,Dv.flatL,de ht ht2,bA,e]
theorem b9 {a r:SS}{st st1:St}(h:a st=.nx st1):sCons a r st=r st1:=by
 unfold sCons;rw[h]
def Hs (s:Sl)(a:List Int):Prop:=s=.sh (L a)\/s=.ow (L a)
theorem Hs.get {s:Sl}{a:List Int}(h:Hs s a):s.get=some (L a):=by rcases h with h|h <;>(subst h;rfl)
theorem Hs.give {s:Sl}{a:List Int}(h:Hs s a):s.give=.sh (L a):=by rcases h with h|h <;>(subst h;rfl)
structure PairP (P:Int->List Int->List Int->Prop):Prop where
 one:P 1 [0] [0]
 beat:∀ {n a b},P n a b->Beat n a/\Beat n b
 again:∀ {n a b} {t:Nat},1<=t->P n a b->P (n*t) (again n a t) b
 mix:∀ {n a b} {t:Nat},1<=t->P n a b->P (n*t) (Dv.isort (mix a t t)) (b.map (·*(t:Int)))
 swap:∀ {n a b},P n a b->P n b a
 turn:∀ {n a b} (c:Int),P n a b->P n (Dv.isort (a.map λ x=>(x+c)%n)) b
theorem t4:PairP (λ n a b=>Beat n a/\Beat n b) where
 one:=⟨⟨by simp,by simp,by simp⟩,⟨by simp,by simp,by simp⟩⟩
 beat:=λ h=>h
 again:=λ {n a b t} ht h=>⟨oq h.1 ht,h.2.ne,h.2.up,λ x hx=>by
  have h1:=h.2.rg x hx;have h2:n*1<=n*(t:Int):=DV ⋯ (by have:=h.2.pos;omega);omega⟩
 mix:=λ {n a b t} ht h=>⟨mf h.1 ht,mo h.2 ⋯⟩
 swap:=λ h=>⟨h.2,h.1⟩
 turn:=λ c h=>⟨ki h.1,h.2⟩
theorem nL (xs:List Int)(t:Int):∀ j:Nat,(upto j).foldl (λ a k=>a++xs.map (·*t+k)) []=mix xs t j
 | 0=>rfl
 | j+1=>by rw[kD,Ea,nL xs t j];rfl
theorem v8 (r:Int)(h:0<=r)(h2:r<7):∃ t:Nat,Dv.at? [.int 2,.int 3,.int 2,.int 5,.int 2,.int 3,.int 7] r=some (.int t)/\2<=t/\t<=7:=by
 have:r=0\/r=1\/r=2\/r=3\/r=4\/r=5\/r=6:=⋯
 rcases this with rfl|rfl|rfl|rfl|rfl|rfl|rfl
 ·exact⟨2,rfl,⋯,⋯⟩
 ·exact⟨3,rfl,⋯,⋯⟩
 ·exact⟨2,rfl,⋯,⋯⟩
 ·exact⟨5,rfl,⋯,⋯⟩
 ·exact⟨2,rfl,⋯,⋯⟩
 ·exact⟨3,rfl,⋯,⋯⟩
 ·exact⟨7,rfl,⋯,⋯⟩
theorem lQ {n:Int}{xs:List Int}(hn:1<=n)(hn2:n<=60)(hl:xs.length<64)(hb:Beat n (Dv.isort (xs.map (·%n)))):F_Q0X [.int n,L xs]=.ok (L (Dv.isort (xs.map (·%n)))) true:=by
 have hc:c_Q0X_1 [some (.int n),some (L xs),none]=.ok (L (xs.map (·%n))) true:=by
  unfold c_Q0X_1;exact cB (f:=false) rfl ⋯ λ x hx=>by simp only[eOp,eVar,Dv.pick,R.bind,RL.bind,Out.bind,ag,CN,CP,CM,CO,C5,aB (show (0:Int)<n by omega)]
 simp only[F_Q0X,b_Q0X,b_Q0X_t3,b_Q0X_t2,b_Q0X_t1,Dv.fn,sCons,sSet,bB,sRetO,sExpr,eB1,eVar,lNil,lCons,eCall,Dv.all,R.bind,RL.bind,Dv.R.bindL,Dv.RL.bindL,Out.bind,bf,ar,aQ,ag,ak,CN,CP,CQ,C4,List.replicate,CZ,C1,CM,CO,CT,CU,C2,Di,Nat.reduceAdd,Nat.reduceSub,bq,fj hn hn2,hc,eB (xs:=xs.map (·%n)) (by simpa using hl),cE hn2 hb]
theorem mj {n c:Int}{xs:List Int}(hn:n<=60)(h:Beat n xs):F_Q17 [.int n,L xs,.int c]=.ok (L (Dv.isort (xs.map λ x=>(x+c)%n))) true:=by
 have hl:=h.len;have hc:c_Q17_1 [some (.int n),some (L xs),some (.int c)]=.ok (L (xs.map (·+c))) true:=by
  unfold c_Q17_1;exact cB (f:=false) rfl ⋯ λ x hx=>by simp only[eOp,eVar,Dv.pick,R.bind,RL.bind,Out.bind,ag,CN,CP,CM,CO,C5,bH]
 have e:(xs.map (·+c)).map (·%n)=xs.map λ x=>(x+c)%n:=by rw[DY];rfl
 have hm:=lQ (n:=n) (xs:=xs.map (·+c)) h.pos hn (by simp;omega) (by rw[e];exact ki h);rw[e] at hm;simp only[F_Q17,b_Q17,b_Q17_t1,Dv.fn,sCons,sRet,sExpr,eVar,lNil,lCons,eCall,Dv.all,R.bind,RL.bind,Dv.R.bindL,Dv.RL.bindL,Out.bind,ar,ag,ak,CN,CP,CQ,C4,List.replicate,CZ,C1,CM,CO,C2,Di,Nat.reduceAdd,Nat.reduceSub,cE hn h,hc,hm]
theorem sD {n:Int}(hn:0<n)(A B:D)(s:Int)(beat:List Int)(c:List Int)(hc:c.length=n.toNat)(z y:Sl):∃ z' y',forGo 5 b_Q0J_l1 (beat.map .int) [.sh (.int n),.sh A,.sh B,.ow (L c),.sh (.int s),z,y] =
  .nx [.sh (.int n),.sh A,.sh B,.ow (L ((beat.map λ b=>(b+s)%n).foldl bump c)),.sh (.int s),z',y']:=by
 induction beat generalizing c z y with
 | nil=>exact⟨z,y,rfl⟩
 | cons b r ih=>
  have hm:=bu (n:=n) (a:=s+b) hn;have hcm:(s+b)%n=(b+s)%n:=by rw[ER]
  have hk:(s+b)%n<(c.length:Int):=⋯
  obtain⟨z',y',e⟩:=ih (bump c ((b+s)%n)) (by rw[jj];exact hc) (.sh (.int b)) (.sh (.int ((s+b)%n)));refine⟨z',y',?_⟩;have e2:(c.map D.int).set ((s+b)%n).toNat (.int (c.getD ((s+b)%n).toNat 0+1))=(bump c ((b+s)%n)).map D.int:=by
   unfold bump;rw[E9,hcm]
  rw[CN,CN,C7,ba (st':=[.sh (.int n),.sh A,.sh B,.ow (L (bump c ((b+s)%n))),.sh (.int s),.sh (.int b),.sh (.int ((s+b)%n))])]
  ·exact e
  ·simp only[b_Q0J_l1,sCons,sSet,aI,sPut,eIx,Dv.ixD,eOp,eVar,eInt,Dv.all,R.bind,RL.bind,Out.bind,ar,aQ,ag,ak,CN,CP,CM,CO,CT,CU,Dn,C2,if_true,bH,CY,aB hn,yr hm.1 hk,decide_eq_true hm.1,decide_eq_true hk,e2]
theorem og {n:Int}(hn:0<n)(B:D)(beat:List Int)(starts:List Int)(c:List Int)(hc:c.length=n.toNat)(z y x:Sl):∃ z' y' x',forGo 4 b_Q0J_l2 (starts.map .int) [.sh (.int n),.sh (L beat),.sh B,.ow (L c),z,y,x] =
  .nx [.sh (.int n),.sh (L beat),.sh B,.ow (L ((hits n beat starts).foldl bump c)),z',y',x']:=by
 induction starts generalizing c z y x with
 | nil=>exact⟨z,y,x,rfl⟩
 | cons s r ih=>
  obtain⟨y1,x1,e1⟩:=sD hn (L beat) B s beat c hc y x;obtain⟨z',y',x',e⟩:=ih ((beat.map λ b=>(b+s)%n).foldl bump c) (by rw[df];exact hc) (.sh (.int s)) y1 x1;refine⟨z',y',x',?_⟩;have e3:hits n beat (s::r)=(beat.map λ b=>(b+s)%n)++hits n beat r:=by simp[hits]
  rw[e3,Ea,CN];rw[ba (st':=[.sh (.int n),.sh (L beat),.sh B,.ow (L ((beat.map λ b=>(b+s)%n).foldl bump c)),.sh (.int s),y1,x1])]
  ·exact e
  ·simp only[b_Q0J_l2,Dv.give,Dv.open_,aK,aw,aS,sFor,iSeq,eVar,ak,CN,CP,CM,CO,CT,CU,C7,C8,C5,e1]
theorem sZ {n:Int}{beat starts:List Int}(hn:0<n)(hn2:n<=60):F_Q0J [.int n,L beat,L starts]=.ok (.bl (decide (tally n.toNat (hits n beat starts)=List.replicate n.toNat 1))) true:=by
 obtain⟨z,y,x,e⟩:=og (n:=n) hn (L starts) beat starts (List.replicate n.toNat 0) (by simp) .no .no .no;simp only[F_Q0J,b_Q0J,b_Q0J_t2,b_Q0J_t1,Dv.fn,sCons,sSet,bB,Dv.give,Dv.open_,aK,aE,aw,aS,sRet,sFor,iSeq,eCm,eOp,eVar,eInt,eLst,lNil,lCons,Dv.all,R.bind,RL.bind,Dv.R.bindL,Dv.RL.bindL,Out.bind,bf,ar,aQ,ag,ak,CN,CP,CQ,C4,List.replicate,CZ,C1,CM,CO,CT,CU,C7,C8,C5,C2,Nat.reduceAdd,Nat.reduceSub,g9,gW (x:=0) (show 0<=n by omega) (show n<=100000 by omega),gW (x:=1) (show 0<=n by omega) (show n<=100000 by omega),e]
 all_goals rfl
open Dv (D R RL EE EL EI RI Sl Out SS St Wy An Cs Ws WR Wk)
open Bt Wm
section
variable {n:Int}{A:List Int}
def wy (n:Int)(A:List Int)(s:Int):Wy:=⟨.int s,Tf n A s⟩
theorem xg (s:Int):(wy n A s).d=.tup [.int s,L (Tf n A s)]:=rfl
theorem nh:∀ (ks:List Int) (ds:List D) (j:Int) (x:D),(Dv.replL ks ds j x).length=ds.length
 | [],ds,j,x=>by unfold Dv.replL;rfl
 | _::_,[],j,x=>by unfold Dv.replL;rfl
 | k::ks,d::ds,j,x=>by unfold Dv.replL;simp[nh ks ds j x]
theorem xD {ks:List Int}{ds:List D}{j:Int}{x:D}(h:ks.length=ds.length):(Dv.putKs ks j).length=(Dv.putL ks ds j x).length:=by
 unfold Dv.putKs Dv.putL
 split
 ·rw[nh];exact h
 ·simp[h]
theorem ug (ks:List Int)(j:Int):(Dv.putKs ks j).length<=ks.length+1:=by
 unfold Dv.putKs
 split <;>simp
theorem qM {a b:D}{c:Sl}:∀ (ps ks:List Int) (ds:List D) (z:Sl),ks.length=ds.length->ks.length+ps.length<100000 ->
  ∃ ds' z',forGo 4 b_Q11_l1 (ps.map .int) [.sh a,.ow (.dct ks ds),.sh b,c,z]=.nx [.sh a,.ow (.dct (ps.foldl Dv.putKs ks) ds'),.sh b,c,z']/\(ps.foldl Dv.putKs ks).length=ds'.length
 | [],ks,ds,z,h,_=>⟨ds,z,rfl,h⟩
 | p::r,ks,ds,z,h,hl=>by
  rw[CQ] at hl;have:=ug ks p;obtain⟨ds',z',e,h'⟩:=qM r (Dv.putKs ks p) (Dv.putL ks ds p (.bl true)) (.sh (.int p)) (xD h) ⋯;refine⟨ds',z',?_,h'⟩;rw[CN,ba (st':=[.sh a,.ow (.dct (Dv.putKs ks p) (Dv.putL ks ds p (.bl true))),.sh b,c,.sh (.int p)]),e]
  ·rfl
  ·have hb:(decide (ks.length<Dv.mx)&&decide (ks.length=ds.length))=true:=by
    rw[C3];exact⟨decide_eq_true (by unfold Dv.mx;omega),decide_eq_true h⟩
   simp only[b_Q11_l1,Dv.give,Dv.open_,aw,aS,eVar,eBl,ag,CN,CP,CM,CO,CT,CU,C8,if_true,sDPut,hb]
theorem zi (s:Int):(Tf n A s).length=A.length:=by unfold Tf;rw[cW,CY]
theorem nK {a:D}:∀ (S ks:List Int) (ds:List D) (z2 z3 z4:Sl),ks.length=ds.length->ks.length+S.length*A.length<100000 ->
  ∃ ds' y2 y3 y4,Dv.forGoT (Dv.tupTo [2,3]) b_Q11_l2 ((S.map (wy n A)).map Wy.d) [.sh a,.ow (.dct ks ds),z2,z3,z4]=.nx [.sh a,.ow (.dct ((S.flatMap (Tf n A)).foldl Dv.putKs ks) ds'),y2,y3,y4]/\((S.flatMap (Tf n A)).foldl Dv.putKs ks).length=ds'.length
 | [],ks,ds,z2,z3,z4,h,_=>⟨ds,z2,z3,z4,rfl,h⟩
 | s::r,ks,ds,z2,z3,z4,h,hl=>by
  rw[CQ,DK] at hl;have tl:=zi (n:=n) (A:=A) s;obtain⟨ds1,z',e1,h1⟩:=qM (a:=a) (b:=.int s) (c:=.sh (L (Tf n A s))) (Tf n A s) ks ds z4 h ⋯;have fl:∀ (ps ks:List Int),(ps.foldl Dv.putKs ks).length<=ks.length+ps.length:=by
   intro ps
   induction ps with
   | nil=>intro ks;simp
   | cons p r ih=>intro ks;have:=ih (Dv.putKs ks p);have:=ug ks p;rw[C7,CQ];omega
  have:=fl (Tf n A s) ks;obtain⟨ds2,y2,y3,y4,e2,h2⟩:=nK r ((Tf n A s).foldl Dv.putKs ks) ds1 (.sh (.int s)) (.sh (L (Tf n A s))) z' h1 ⋯;refine⟨ds2,y2,y3,y4,?_,?_⟩
  ·rw[CN,CN,xg,gZ (st1:=[.sh a,.ow (.dct ks ds),.sh (.int s),.sh (L (Tf n A s)),z4]) (st':=[.sh a,.ow (.dct ((Tf n A s).foldl Dv.putKs ks) ds1),.sh (.int s),.sh (L (Tf n A s)),z']) rfl,e2,DM,Ea]
   simp only[L] at e1;simp only[b_Q11_l2,Dv.give,Dv.open_,aK,aw,aS,sFor,iSeq,eVar,ak,CN,CP,CM,CO,CT,CU,C7,C8,C5,L,e1]
  ·rw[DM,Ea];exact h2
theorem j9 {S:List Int}(hl:S.length*A.length<100000):∃ ds,F_Q11 [Dv.wyL (S.map (wy n A))]=.ok (.dct (kz n A S) ds) false/\(kz n A S).length=ds.length:=by
 obtain⟨ds,y2,y3,y4,e,h⟩:=nK (n:=n) (A:=A) (a:=Dv.wyL (S.map (wy n A))) S [] [] .no .no .no rfl (by simpa using hl);refine⟨ds,?_,h⟩;have kp:keepD (.dct [] []) true=some (.ow (.dct [] [])):=rfl;simp only[Dv.wyL] at e;simp only[F_Q11,b_Q11,b_Q11_t1,b_Q11_t2,Dv.fn,sCons,sSet,Dv.give,Dv.open_,aK,aE,aw,aS,sRetO,sForT,iSeq,eVar,R.bind,RL.bind,Out.bind,eDict0,ak,CN,CP,CQ,C4,List.replicate,CZ,C1,CM,CO,CT,CU,C7,C8,C5,Nat.reduceAdd,Nat.reduceSub,kp,Dv.wyL,e];rfl
theorem bU:∀ {ks:List Int} {ds:List D} {p:Int},ks.length=ds.length->(Dv.look ks ds p).isSome=decide (p∈ks)
 | [],ds,p,_=>by simp[Dv.look]
 | k::ks,[],p,h=>by simp at h
 | k::ks,d::ds,p,h=>by
  unfold Dv.look;by_cases e:k=p
  ·subst e;simp
  ·rw[if_neg e,bU (by simpa using h)]
   have:(p=k)=False:=by simp;omega
   simp[this]
theorem Cc {S:List Int}{d:D}(hl:S.length<64):kW.fs [none,some (.ins ["laid"] [Dv.wyL (S.map (wy n A))]),some d]=.ok (L (Dv.isort S)) true:=by
 have go:∀ S:List Int,Dv.compGoT 2 (eVar 0) (eBl true) (Dv.pick [none,some (.ins ["laid"] [Dv.wyL (S.map (wy n A))]),some d] []) ((S.map (wy n A)).map Wy.d)=.ok (S.map .int) true:=by
  intro S0;generalize Dv.pick _ _=fr
  induction S0 with
  | nil=>rfl
  | cons s r ih=>
   rw[CN,CN,xg];simp only[Dv.compGoT,CQ,C4,if_true,CN,CP,eVar,eBl,ag,CN,CP,CQ,C4,CZ,C1,CM,C2,if_true,Nat.reduceAdd,ih]
 have hit:iSeq (eFld "laid" (eVar 1)) [none,some (.ins ["laid"] [Dv.wyL (S.map (wy n A))]),some d]=.ok ((S.map (wy n A)).map Wy.d) false:=by
  simp[iSeq,eFld,eVar,Dv.fldD,Dv.lookS,R.bind,Dv.wyL,Dv.scal]
 have hlen:((S.map (wy n A)).map Wy.d).length<=Dv.mx:=by rw[CY,CY];unfold Dv.mx;omega
 have hc:fI [none,some (.ins ["laid"] [Dv.wyL (S.map (wy n A))]),some d]=.ok (L S) true:=by
  have:=go S;simp only[fI,eCompT,hit,hlen,if_true,this]
  try rfl
 show eB1 Dv.sortedD fI _=_
 simp only[eB1,hc,R.bind];exact eB hl true
theorem pU:∀ {r:List Int} {m:Int},(∀ x∈r,m<x)->Dv.minI m r=m
 | [],m,_=>rfl
 | x::r,m,h=>by
  unfold Dv.minI;have:=h x (CS ..);rw[if_neg ⋯];exact pU λ y hy=>h y (CV _ hy)
theorem Ce {wys:List (List Wy)}{ks:List Int}{ds:List D}{d1:D}{m:Int}{r:List Int}(hw:(wys.length:Int)=n)(hn:0<n)(hn2:n<=60)(hk:ks.length=ds.length)(hf:fre n ks=m::r):
  kW.fl [some (.ins ["ways"] [Dv.wysD wys]),some d1,some (.dct ks ds)]=.ok (.int m) true:=by
 have hit:iRange (eB1 Dv.lenD (eFld "ways" (eVar 0))) [some (.ins ["ways"] [Dv.wysD wys]),some d1,some (.dct ks ds)]=.ok ((upto n.toNat).map .int) true:=by
  have e1:eB1 Dv.lenD (eFld "ways" (eVar 0)) [some (.ins ["ways"] [Dv.wysD wys]),some d1,some (.dct ks ds)]=.ok (.int n) true:=by
   simp[eB1,eFld,eVar,Dv.fldD,Dv.lookS,R.bind,Dv.wysD,Dv.lenD,hw]
  simp only[iRange,e1,de (n:=n) ⋯ ⋯,if_true,bA]
 have hc:eF [some (.ins ["ways"] [Dv.wysD wys]),some d1,some (.dct ks ds)]=.ok (L (fre n ks)) true:=by
  unfold eF;have:=cG (elt:=eVar 0) (cond:=eDnin (eVar 0) (eVar 1)) (is:=[2]) (it:=iRange (eB1 Dv.lenD (eFld "ways" (eVar 0)))) (ρ:=[some (.ins ["ways"] [Dv.wysD wys]),some d1,some (.dct ks ds)]) (c:=λ p=>!decide (p∈ks)) (g:=λ p=>p) (xs:=upto n.toNat) hit (by rw[upto_len];omega)
   (λ x _=>by simp[eDnin,eVar,Dv.dninD,R.bind,Dv.pick,bU hk]) (λ x _ _=>rfl)
  rw[this];simp[fre,upto]
 show eB1 Dv.minLD eF _=_
 have up:=wG (n:=n) ks;rw[hf] at hc up;simp only[eB1,hc,R.bind,Dv.minLD,L];rw[lh];simp only;rw[pU (List.pairwise_cons.mp up).1]
theorem BA {ks:List Int}{ds:List D}{s:Int}(hk:ks.length=ds.length)(hA:A.length<=1000):
  kW.ft [none,none,some (.dct ks ds),none,none,none,some (wy n A s).d]=.ok (L ((Tf n A s).filter λ p=>decide (p∈ks))) true:=by
 have hit:iSeq (eIx (eVar 6) (eInt 1)) [none,none,some (.dct ks ds),none,none,none,some (wy n A s).d]=.ok ((Tf n A s).map .int) false:=by
  rw[xg];simp[iSeq,eIx,eVar,eInt,R.bind,Dv.ixD,Dv.at?,L,Dv.scal]
 have ek:kW.ft=f9:=rfl;rw[ek];unfold f9;have:=cG (elt:=eVar 0) (cond:=eB2 Dv.dinD (eVar 0) (eVar 1)) (is:=[2]) (it:=iSeq (eIx (eVar 6) (eInt 1))) (ρ:=[none,none,some (.dct ks ds),none,none,none,some (wy n A s).d]) (c:=λ p=>decide (p∈ks)) (g:=λ p=>p) (xs:=Tf n A s) hit (by rw[zi];omega)
  (λ x _=>by simp[eB2,eVar,Dv.dinD,R.bind,Dv.pick,bU hk]) (λ x _ _=>rfl)
 rw[this];simp
end
section
variable {n:Int}{A:List Int}
def cY (n:Int)(A:List Int):List (List Wy):=(upto n.toNat).map λ p=>A.map λ x=>wy n A ((p-x)%n)
def Valid (w:Ws):Prop:=∀ c∈w.wait,c.at_<(w.sto.getD c.ix []).length
theorem jw {ks:List Int}{ds:List D}{l:List Wy}(hk:ks.length=ds.length)(hA:A.length<=1000):∀ (ss:List Int) (as:List An) (f:List (List Wy×Nat)),
  ∃ as' cs,Dv.rowGo kW l (.dct ks ds) (ss.map (wy n A)) as f=some (as',f++cs)/\as'.length=as.length+ss.length/\cs.map (·.1)=(ss.filter λ s=>(Tf n A s).all λ p=>!decide (p∈ks)).map (λ s=>l++[wy n A s])/\∀ c∈cs,c.2<as'.length
 | [],as,f=>⟨as,[],by simp[Dv.rowGo],rfl,rfl,λ c hc=>by cases hc⟩
 | s::r,as,f=>by
  rw[CN];unfold Dv.rowGo;rw[BA hk hA];cases hq:(Tf n A s).filter λ p=>decide (p∈ks) with
  | nil=>
   have hall:((Tf n A s).all λ p=>!decide (p∈ks))=true:=by
    rw[DP];intro p hp;have:p∉(Tf n A s).filter λ p=>decide (p∈ks):=by rw[hq];simp
    rw[D7] at this;simpa[hp] using this
   obtain⟨as',cs,e,h1,h2,h3⟩:=jw hk hA r (as++[.non]) (f++[(l++[wy n A s],as.length)]);refine⟨as',(l++[wy n A s],as.length)::cs,?_,?_,?_,λ c hc=>?_⟩
   ·show Dv.rowGo kW l (.dct ks ds) (r.map (wy n A)) (as++[.non]) (f++[(l++[wy n A s],as.length)])=_
    rw[e];simp
   ·rw[h1];simp;omega
   ·rw[CN,D3,if_pos hall,CN,h2]
   ·rcases List.mem_cons.mp hc with rfl|hc
    ·rw[h1];simp;omega
    ·exact h3 c hc
  | cons p q=>
   have hall:((Tf n A s).all λ p=>!decide (p∈ks))=false:=by
    have hp:p∈(Tf n A s).filter λ p=>decide (p∈ks):=by rw[hq];exact CS ..
    obtain⟨h1,h2⟩:=List.mem_filter.mp hp;cases z:(Tf n A s).all λ p=>!decide (p∈ks) with
    | false=>rfl
    | true=>
     have:=List.all_eq_true.mp z p h1;rw[h2] at this;simp at this
   obtain⟨as',cs,e,h1,h2,h3⟩:=jw hk hA r (as++[.twi p]) f;refine⟨as',cs,?_,?_,?_,h3⟩
   ·show Dv.rowGo kW l (.dct ks ds) (r.map (wy n A)) (as++[.twi p]) f=_
    exact e
   ·rw[h1];simp;omega
   ·rw[D3,if_neg (by rw[hall];simp),h2]
theorem Good.small (h:Beat n A){S:List Int}(g:Good n A S):(S.length:Int)<=n:=by
 have:=g.nd.length_le_of_subset (l₂:=upto n.toNat) λ s hs=>mem_upto.mpr (by have:=g.rg s hs;omega)
 rw[upto_len] at this;have:=h.pos;omega
theorem l3:(cY n A).length=n.toNat:=by unfold cY;rw[CY,upto_len]
theorem zV {m:Int}(hm:0<=m/\m<n):(cY n A)[m.toNat]?=some ((A.map λ x=>(m-x)%n).map (wy n A)):=by
 unfold cY;rw[Dc];have:(upto n.toNat)[m.toNat]?=some m:=by
  unfold upto;rw[Dc,D0 ⋯];simp;omega
 rw[this];simp
theorem j4 {α:Type}(l:List α)(c:α):(l++[c]).getLast?=some c:=by simp
theorem j3 {α:Type}(l:List α)(c:α):(l++[c]).dropLast=l:=by simp
theorem tE (h:Beat n A)(n2:n<=60){S:List Int}{w:Ws}{pre:List Cs}{c:Cs}(g:Good n A S)(hw:w.wait=pre++[c])(hc:c.laid=S.map (wy n A))(ht:w.wys=cY n A)(hg:w.gone≠2000)(hf:fre n (kz n A S)=[]):
  Dv.stepW kW w=.full { w with gone:=w.gone+1,wait:=pre } (L (Dv.isort S)) true:=by
 have hp:=h.pos;have hs:=Good.small h g;have hl:=h.len;obtain⟨ds,e1,e2⟩:=j9 (n:=n) (A:=A) (S:=S) (by
  have:S.length*A.length<=60*60:=EY ⋯ ⋯;omega)
 have hfull:(kz n A S).length=w.wys.length:=by
  have:=(fu ⋯ (iy S) (jn ⋯)).mp hf;rw[ht,l3];omega
 unfold Dv.stepW;rw[if_neg hg,hw,j4];simp only;rw[show kW.fp [Dv.wyL c.laid]=F_Q11 [Dv.wyL (S.map (wy n A))] by rw[hc];rfl,e1];simp only;rw[if_pos hfull,hc,Cc ⋯,j3]
theorem uf (h:Beat n A)(n2:n<=60){S:List Int}{w:Ws}{pre:List Cs}{c:Cs}{m:Int}{r:List Int}(g:Good n A S)(hw:w.wait=pre++[c])(hc:c.laid=S.map (wy n A))(ht:w.wys=cY n A)(hv:Valid w)(hg:w.gone≠2000)(hf:fre n (kz n A S)=m::r)
  (b1:w.rows.length<50000) (b2:pre.length+A.length<=50000):
  ∃ (w':Ws) (cs:List Cs),Dv.stepW kW w=.row w'/\w'.wait=pre++cs.reverse/\cs.map (·.laid)=(kids n A S m).map (λ s=>(S++[s]).map (wy n A))/\w'.wys=cY n A/\w'.gone=w.gone+1/\w'.rows.length=w.rows.length+1/\Valid w':=by
 have hp:=h.pos;have hs:=Good.small h g;have hl:=h.len;have hm:m∈fre n (kz n A S):=by rw[hf];exact CS ..
 obtain⟨hm1,hm2⟩:=mem_fre.mp hm;obtain⟨ds,e1,e2⟩:=j9 (n:=n) (A:=A) (S:=S) (by
  have:S.length*A.length<=60*60:=EY ⋯ ⋯;omega)
 have hnf:¬ (kz n A S).length=w.wys.length:=by
  intro z;rw[ht,l3] at z;have:=(fu (n:=n) ⋯ (iy (n:=n) (A:=A) S) (jn ⋯)).mpr ⋯;rw[this] at hf;cases hf
 have hcv:=hv c (by rw[hw];simp);obtain⟨as,has,hat⟩:∃ as,w.sto[c.ix]?=some as/\c.at_<as.length:=by
  rw[C6] at hcv;cases q:w.sto[c.ix]? with
  | none=>rw[q] at hcv;simp at hcv
  | some as=>rw[q] at hcv;exact⟨as,rfl,hcv⟩
 obtain⟨as',cs0,r1,r2,r3,r4⟩:=jw (n:=n) (A:=A) (l:=S.map (wy n A)) e2 ⋯ (A.map λ x=>(m-x)%n) [] [];rw[C1] at r1;have cl:cs0.length<=A.length:=by
  have:=congrArg List.length r3;rw[CY,CY] at this;have h2:=DQ (λ s=>(Tf n A s).all λ p=>!decide (p∈kz n A S)) (A.map λ x=>(m-x)%n);rw[CY] at h2;omega
 let sto1:=w.sto.set c.ix (as.set c.at_ (.row w.rows.length))
 refine⟨{ w with gone:=w.gone+1,wait:=pre++cs0.reverse.map (λ p=>⟨p.1,sto1.length,p.2⟩),rows:=w.rows++[(m,sto1.length)],sto:=sto1++[as'] },cs0.map (λ p=>⟨p.1,sto1.length,p.2⟩),?_,?_,?_,ht,rfl,?_,?_⟩
 ·unfold Dv.stepW
  rw[if_neg hg,hw,j4];simp only;rw[show kW.fp [Dv.wyL c.laid]=F_Q11 [Dv.wyL (S.map (wy n A))] by rw[hc];rfl,e1];simp only;rw[if_neg hnf,has];simp only;rw[if_pos hat,j3];unfold Dv.rowW;simp only;have hn:m=Int.ofNat m.toNat:=by show m=((m.toNat:Nat):Int);omega
  rw[hc,ht,Ce (n:=n) (wys:=cY n A) (by rw[l3];omega) ⋯ n2 e2 hf];rw[hn];simp only;rw[zV hm1];simp only;rw[r1];simp only;rw[if_pos]
  ·have:((m.toNat:Nat):Int)=Int.ofNat m.toNat:=rfl
   simp only[this];rfl
  ·simp only[C3,decide_eq_true_eq,CY]
   unfold Dv.mx;refine⟨⟨⟨?_,?_⟩,?_⟩,?_⟩ <;>omega
 ·simp[List.map_reverse]
 ·rw[DY]
  have:(λ (x:Cs)=>x.laid) ∘ (λ (p:List Wy×Nat)=>(⟨p.1,sto1.length,p.2⟩:Cs))=λ p=>p.1:=rfl
  rw[this,r3];unfold kids;refine Ec λ s _=>?_
  rw[D6];rfl
 ·simp
 ·intro c' hc'
  have hc':c'∈pre++cs0.reverse.map (λ p=>(⟨p.1,sto1.length,p.2⟩:Cs)):=hc';show c'.at_<((sto1++[as']).getD c'.ix []).length
  rcases List.mem_append.mp hc' with hc' | hc'
  ·have h0:=hv c' (by rw[hw];exact DC _ hc')
   have hix:c'.ix<w.sto.length:=by
    by_cases z:c'.ix<w.sto.length
    ·exact z
    ·rw[C6,Dm ⋯] at h0;simp at h0
   have h1:(sto1++[as']).getD c'.ix []=sto1.getD c'.ix []:=by
    rw[C6,C6,Dq (by show c'.ix<(w.sto.set _ _).length;rw[Dk];exact hix)]
   rw[h1];show c'.at_<((w.sto.set c.ix (as.set c.at_ (.row w.rows.length))).getD c'.ix []).length
   rw[C6];by_cases z:c.ix=c'.ix
   ·rw[<- z,Dp (by rw[z];exact hix)]
    rw[C6,<- z,has] at h0;show c'.at_<(as.set c.at_ _).length
    rw[Dk];exact h0
   ·rw[DB z]
    rw[C6] at h0;exact h0
  ·obtain⟨p,hp,rfl⟩:=List.mem_map.mp hc'
   have:=r4 p (List.mem_reverse.mp hp);show p.2<((sto1++[as']).getD sto1.length []).length
   rw[C6];simpa using this
end
def LL (rows:List (List Int)):D:=.lst (rows.map L)
theorem nt {elt:EE}{free:Dv.Env}{g:Int->D}{f:Bool}:∀ {xs:List Int},(∀ x∈xs,elt (some (.int x)::free)=.ok (g x) f)->∃ f',bR elt (eBl true) free (xs.map .int)=.ok (xs.map g) f'/\(f=true->f'=true)
 | [],_=>⟨true,rfl,λ _=>rfl⟩
 | x::r,h=>by
  obtain⟨f',e,hf⟩:=nt (xs:=r) λ y hy=>h y (CV _ hy)
  refine⟨f&&f',?_,λ z=>by rw[z,hf z];rfl⟩;rw[CN];unfold bR;have:(eBl true) (some (D.int x)::free)=.ok (.bl true) true:=rfl;rw[this];simp only;rw[h x (CS ..),e];rfl
theorem lF {elt:EE}{is:List Nat}{it:EI}{ρ:Dv.Env}{g:Int->D}{xs:List Int}{f f0:Bool}(hi:it ρ=.ok (xs.map .int) f0)(hl:xs.length<=100000)(k:∀ x∈xs,elt (some (.int x)::Dv.pick ρ is)=.ok (g x) f):
  ∃ f',eComp elt (eBl true) is it ρ=.ok (.lst (xs.map g)) f'/\(f=true->f'=true):=by
 obtain⟨f',e,hf⟩:=nt k;refine⟨f',?_,hf⟩;unfold eComp;rw[hi];simp only[CY,Dv.mx,hl,if_true,e]
section
variable {n:Int}{A:List Int}
def dN (n:Int)(A:List Int):D:=.lst ((upto n.toNat).map λ s=>L (Tf n A s))
theorem va {s:Int}(hs:0<=s/\s<n):Dv.at? ((upto n.toNat).map λ s=>L (Tf n A s)) s=some (L (Tf n A s)):=by
 unfold Dv.at?;rw[if_pos hs.1,Dc];have:(upto n.toNat)[s.toNat]?=some s:=by
  unfold upto;rw[Dc,D0 ⋯];simp;omega
 rw[this];rfl
theorem tU (h:Beat n A)(n2:n<=60){p:Int}{ws:List D}(hw:ws.length<1000){z5:Sl}:
  b_Q18_l1 [.sh (.int n),.sh (L A),.sh (dN n A),.ow (.lst ws),.sh (.int p),z5]=.nx [.sh (.int n),.sh (L A),.sh (dN n A),.ow (.lst (ws++[Dv.wyL ((A.map λ x=>(p-x)%n).map (wy n A))])),.sh (.int p),.sh (L (A.map λ x=>(p-x)%n))]:=by
 have hp:=h.pos;have hl:=h.len;have c2:∀ a2 a3 a5:Option D,c_Q18_2 [some (.int n),some (L A),a2,a3,some (.int p),a5]=.ok (L (A.map λ x=>(p-x)%n)) true:=λ a2 a3 a5=>by
  unfold c_Q18_2;exact cB (f:=false) rfl ⋯ λ x hx=>by simp only[eOp,eVar,Dv.pick,R.bind,RL.bind,Out.bind,ag,CN,CP,CM,CO,C5,cu,aB (show 0<n by omega)]
 have c3:∃ f,c_Q18_3 [some (.int n),some (L A),some (dN n A),none,some (.int p),some (L (A.map λ x=>(p-x)%n))]=.ok (Dv.wyL ((A.map λ x=>(p-x)%n).map (wy n A))) f:=by
  obtain⟨f,e,_⟩:=lF (elt:=eTup (lCons (eVar 0) (lCons (eIx (eVar 1) (eVar 0)) lNil))) (is:=[2]) (it:=iSeq (eVar 5)) (ρ:=[some (.int n),some (L A),some (dN n A),none,some (.int p),some (L (A.map λ x=>(p-x)%n))]) (g:=λ s=>(wy n A s).d) (xs:=A.map λ x=>(p-x)%n) (f:=false) (f0:=false) rfl (by rw[CY];omega)
   (λ s hs=>by
    obtain⟨x,_,rfl⟩:=List.mem_map.mp hs;have hr:=bu (n:=n) (a:=p-x) ⋯;rw[xg];simp only[eIx,Dv.ixD,eVar,eTup,lNil,lCons,Dv.pick,R.bind,RL.bind,Dv.R.bindL,Dv.RL.bindL,Out.bind,ag,ak,CN,CP,CM,CO,C5,C2,Ei,Di,dN,va hr,L,Ei])
  refine⟨f,?_⟩;unfold c_Q18_3;rw[e];simp[Dv.wyL]
 obtain⟨f,c3⟩:=c3;have hb:decide (ws.length<Dv.mx)=true:=decide_eq_true (by unfold Dv.mx;omega);unfold b_Q18_l1;rw[b9 (st1:=[.sh (.int n),.sh (L A),.sh (dN n A),.ow (.lst ws),.sh (.int p),.ow (L (A.map λ x=>(p-x)%n))])]
 ·simp only[sAppG,Dv.give,Dv.open_,aK,fA,aw,aS,CN,CP,CM,CO,CT,CU,C7,C8,C5,if_true,c3,hb]
 ·simp only[sSet,bB,Dv.all,ar,aQ,CN,CP,CT,CU,c2]
theorem kI (h:Beat n A)(n2:n<=60):∀ (ps:List Int) (ws:List D) (z4 z5:Sl),ws.length+ps.length<1000 ->
  ∃ y4 y5,forGo 4 b_Q18_l1 (ps.map .int) [.sh (.int n),.sh (L A),.sh (dN n A),.ow (.lst ws),z4,z5]=.nx [.sh (.int n),.sh (L A),.sh (dN n A),.ow (.lst (ws++(ps.map λ p=>Dv.wyL ((A.map λ x=>(p-x)%n).map (wy n A))))),y4,y5]
 | [],ws,z4,z5,_=>⟨z4,z5,by simp[forGo]⟩
 | p::r,ws,z4,z5,hl=>by
  rw[CQ] at hl;obtain⟨y4,y5,e⟩:=kI h n2 r (ws++[Dv.wyL ((A.map λ x=>(p-x)%n).map (wy n A))]) (.sh (.int p)) (.sh (L (A.map λ x=>(p-x)%n))) (by rw[C9,Ds];omega);refine⟨y4,y5,?_⟩;rw[CN,ba (st':=[.sh (.int n),.sh (L A),.sh (dN n A),.ow (.lst (ws++[Dv.wyL ((A.map λ x=>(p-x)%n).map (wy n A))])),.sh (.int p),.sh (L (A.map λ x=>(p-x)%n))]),e]
  ·rw[CN,Ek];rfl
  ·simp only[CU,CT]
   exact tU h n2 ⋯
theorem xh (h:Beat n A)(n2:n<=60):∃ f,F_Q18 [.int n,L A]=.ok (Dv.wysD (cY n A)) f:=by
 have hp:=h.pos;have c1:∃ f,c_Q18_1 [some (.int n),some (L A),none,none,none,none]=.ok (dN n A) f:=by
  obtain⟨f,e,_⟩:=lF (elt:=eCall F_Q17 (lCons (eVar 1) (lCons (eVar 2) (lCons (eVar 0) lNil)))) (is:=[0,1]) (it:=iRange (eVar 0)) (ρ:=[some (.int n),some (L A),none,none,none,none]) (g:=λ s=>L (Tf n A s)) (xs:=upto n.toNat) (f:=true) (f0:=true)
   (by simp only[iRange,eVar,ag,CM,if_true,de (n:=n) ⋯ ⋯,bA]) (by rw[upto_len];omega) (λ s _=>by simp only[eVar,lNil,lCons,eCall,Dv.pick,R.bind,RL.bind,Dv.R.bindL,Dv.RL.bindL,Out.bind,ag,ak,CN,CP,CM,CO,C5,C2,Di,mj n2 h];rfl)
  exact⟨f,e⟩
 obtain⟨f,c1⟩:=c1;obtain⟨y4,y5,e⟩:=kI h n2 (upto n.toNat) [] .no .no (by rw[upto_len];simp;omega);rw[C1] at e;have et:(upto n.toNat).map (λ p=>Dv.wyL ((A.map λ x=>(p-x)%n).map (wy n A)))=(cY n A).map Dv.wyL:=by
  unfold cY;rw[DY];refine Ec λ p _=>?_
  show Dv.wyL _=Dv.wyL _
  rw[DY];rfl
 rw[et] at e;refine⟨Dv.flatL ((cY n A).map Dv.wyL),?_⟩;simp only[F_Q18,b_Q18,b_Q18_t1,b_Q18_t2,b_Q18_t3,Dv.fn,sCons,sSet,sSetG,keep_nil,Dv.give,Dv.open_,aK,aE,aw,aS,sRetO,sFor,iRange,eVar,eLst,lNil,R.bind,RL.bind,Out.bind,ag,CN,CP,CQ,C4,List.replicate,CZ,C1,CM,CO,CT,CU,C7,C8,C5,if_true,Nat.reduceAdd,Nat.reduceSub,c1,de (n:=n) ⋯ ⋯,bA,e];rfl
theorem rP (ns:List Int):Dv.intsOf (ns.map .int)=some ns:=lh ns
theorem yJ:∀ l:List Wy,Dv.deWL (l.map Wy.d)=some l
 | []=>rfl
 | w::r=>by
  rw[CN];unfold Dv.deWL;rw[yJ r];have:Dv.deW w.d=some w:=by
   unfold Wy.d Dv.deW;simp only[rP]
  rw[this]
theorem Bv (l:List Wy):Dv.deL (Dv.wyL l)=some l:=yJ l
theorem zg:∀ l:List (List Wy),Dv.deLL (l.map Dv.wyL)=some l
 | []=>rfl
 | w::r=>by
  rw[CN];unfold Dv.deLL;rw[zg r,Bv]
theorem Bu (l:List (List Wy)):Dv.deWs (Dv.wysD l)=some l:=zg l
theorem Cb (h:Beat n A)(n2:n<=60):Dv.pwR su rF [.int n,L A]=.ok (cY n A) [wy n A 0]:=by
 obtain⟨f,e⟩:=xh h n2;have e1:su ([.int n,L A].map some)=.ok (Dv.wysD (cY n A)) f:=by
  unfold su;simp only[eVar,lNil,lCons,eCall,R.bind,RL.bind,Dv.R.bindL,Dv.RL.bindL,Out.bind,ag,ak,CN,CP,CM,CO,C2,Di,e]
 have e2:rF ([.int n,L A].map some)=.ok (Dv.wyL [wy n A 0]) false:=by
  unfold rF wy Dv.wyL;rw[AX h];rfl
 unfold Dv.pwR;rw[e1,e2];simp only;rw[Bu,Bv]
theorem gY (h:Beat n A):Good n A [0]:=by
 have hp:=h.pos;refine⟨λ s hs=>by simp at hs;omega,by simp,λ x hx y hy s hs t ht e=>?_⟩;simp at hs ht;subst hs;subst ht;exact⟨gv ⋯ (h.rg x hx) (h.rg y hy) e,rfl⟩
theorem d7 (h:Beat n A)(n2:n<=60):F_Q04 [.int n,L A]=.ok (.bl (decide (n%(A.length:Int)=0))) true:=by
 have hl:=h.len1;simp only[F_Q04,b_Q04,b_Q04_t1,Dv.fn,sCons,sRet,sExpr,eB1,Dv.lenD,eCm,eOp,eVar,eInt,lNil,lCons,eCall,Dv.all,R.bind,RL.bind,Dv.R.bindL,Dv.RL.bindL,Out.bind,ar,ag,ak,CN,CP,CQ,C4,List.replicate,CZ,C1,CM,CO,C2,Di,Nat.reduceAdd,Nat.reduceSub,bI,CY,cE n2 h,L,aB (j:=(A.length:Int)) ⋯]
end
end Cw
namespace Wm
open Bt
open Dv (lexLt lexLe upL)
def G:Nat->Nat->List Int->Int->List (List Int)
 | 0,_,r,_=>[r]
 | _+1,0,_,_=>[]
 | k+1,m+1,r,p=>G k m (r++[p]) (p+1)++G (k+1) m r (p+1)
theorem wj:∀ (k m:Nat) (r:List Int) (p:Int),(G k m r p).length<=2 ^ m
 | 0,m,r,p=>by simp only[G,Ds];exact Nat.one_le_two_pow
 | k+1,0,r,p=>by simp[G]
 | k+1,m+1,r,p=>by
  have h1:=wj k m (r++[p]) (p+1);have h2:=wj (k+1) m r (p+1);simp only[G,C9];rw[FH];omega
theorem kP:∀ (k m:Nat) (r:List Int) (p:Int) {B:List Int},B∈G k m r p ↔ ∃ t,B=r++t/\t.length=k/\t.Pairwise (·<·)/\∀ x∈t,p<=x/\x<p+m
 | 0,m,r,p,B=>by
  simp only[G,DE]
  constructor
  ·rintro rfl;exact⟨[],by simp,rfl,.nil,λ x h=>by cases h⟩
  ·rintro ⟨t,rfl,h,_⟩
   have:t=[]:=DA h;subst this;simp
 | k+1,0,r,p,B=>by
  simp only[G,Dt,false_iff]
  rintro ⟨t,rfl,h,_,hr⟩
  cases t with
  | nil=>simp at h
  | cons x t=>have:=hr x (CS ..);omega
 | k+1,m+1,r,p,B=>by
  simp only[G,Eu];rw[kP k m,kP (k+1) m]
  constructor
  ·rintro (⟨t,rfl,h1,h2,h3⟩|⟨t,rfl,h1,h2,h3⟩)
   ·refine⟨p::t,by simp,by simp[h1],List.pairwise_cons.mpr ⟨λ x hx=>by have:=h3 x hx;omega,h2⟩,λ x hx=>?_⟩
    rcases List.mem_cons.mp hx with rfl|hx
    ·omega
    ·have:=h3 x hx;omega
   ·exact⟨t,rfl,h1,h2,λ x hx=>by have:=h3 x hx;omega⟩
  ·rintro ⟨t,rfl,h1,h2,h3⟩
   cases t with
   | nil=>simp at h1
   | cons x t=>
    obtain⟨q1,q2⟩:=List.pairwise_cons.mp h2;have hx:=h3 x (CS ..);by_cases e:x=p
    ·subst e
     exact .inl ⟨t,by simp,by simpa using h1,q2,λ y hy=>by have:=q1 y hy;have:=h3 y (CV _ hy);omega⟩
    ·refine .inr ⟨x::t,rfl,h1,h2,λ y hy=>?_⟩
     have:=h3 y hy
     rcases List.mem_cons.mp hy with rfl|hy
     ·omega
     ·have:=q1 y hy;omega
theorem qj:∀ (r a b:List Int),lexLt (r++a) (r++b)=lexLt a b
 | [],a,b=>rfl
 | x::r,a,b=>by simp only[CZ,lexLt,if_true];exact qj r a b
theorem A3:∀ (k m:Nat) (r:List Int) (p:Int),(G k m r p).Pairwise λ a b=>lexLt a b=true
 | 0,m,r,p=>by simp[G]
 | k+1,0,r,p=>by simp[G]
 | k+1,m+1,r,p=>by
  simp only[G];refine List.pairwise_append.mpr ⟨A3 k m _ _,A3 (k+1) m _ _,λ a ha b hb=>?_⟩;obtain⟨t,rfl,_,_,_⟩:=(kP k m _ _).mp ha;obtain⟨u,rfl,h1,_,h3⟩:=(kP (k+1) m _ _).mp hb;cases u with
  | nil=>simp at h1
  | cons x u=>
   have:=h3 x (CS ..);rw[Ek,qj];simp only[List.singleton_append,lexLt];rw[if_neg ⋯];simp;omega
def ext (n:Int)(R:List (List Int)):List (List Int):=R.flatMap λ r=>(upL (r.getLastD 0+1) (n-(r.getLastD 0+1)).toNat).map λ p=>r++[p]
def itr (n:Int):Nat->List (List Int)->List (List Int)
 | 0,R=>R
 | k+1,R=>itr n k (ext n R)
theorem yK {n:Int}{k:Nat}{r:List Int}:∀ (m:Nat) (p:Int),p+m=n->((upL p m).flatMap λ q=>G k (n-(q+1)).toNat (r++[q]) (q+1))=G (k+1) m r p
 | 0,p,_=>by simp[upL,G]
 | m+1,p,h=>by
  have ih:=yK (n:=n) (k:=k) (r:=r) m (p+1) ⋯;unfold upL;rw[DM,ih,show (n-(p+1)).toNat=m by omega];rfl
theorem yV {n:Int}:∀ (k:Nat) (R:List (List Int)),itr n k R=R.flatMap λ r=>G k (n-(r.getLastD 0+1)).toNat r (r.getLastD 0+1)
 | 0,R=>by
  unfold itr;have:(R.flatMap λ r=>G 0 (n-(r.getLastD 0+1)).toNat r (r.getLastD 0+1))=R.flatMap λ r=>[r]:=by
   congr 1;funext r;simp[G]
  rw[this,List.flatMap_singleton']
 | k+1,R=>by
  unfold itr;rw[yV k];unfold ext;rw[List.flatMap_assoc];congr 1;funext r;rw[List.flatMap_map];have e:(λ q=>G k (n-((r++[q]).getLastD 0+1)).toNat (r++[q]) ((r++[q]).getLastD 0+1))=λ q=>G k (n-(q+1)).toNat (r++[q]) (q+1):=by
   funext q;simp
  show ((upL _ _).flatMap λ q=>G k (n-((r++[q]).getLastD 0+1)).toNat (r++[q]) ((r++[q]).getLastD 0+1))=_
  rw[e];by_cases z:r.getLastD 0+1<=n
  ·exact yK _ _ ⋯
  ·rw[show (n-(r.getLastD 0+1)).toNat=0 by omega]
   rfl
theorem qV {n:Int}:∀ (k:Nat) (R:List (List Int)),itr n k (ext n R)=ext n (itr n k R)
 | 0,R=>rfl
 | k+1,R=>by unfold itr;rw[qV k]
def bM (n:Int)(k:Nat):List (List Int):=G k (n-1).toNat [0] 1
theorem kQ {n:Int}(k:Nat):itr n k [[0]]=bM n k:=by
 rw[yV];simp[bM]
theorem jq {n:Int}(k:Nat):ext n (bM n k)=bM n (k+1):=by
 rw[<- kQ,<- kQ,<- qV];rfl
theorem ko {n:Int}(hn:n<=12)(k:Nat):(bM n k).length<=2048:=by
 have h1:=wj k (n-1).toNat [0] 1;have h2:2 ^ (n-1).toNat<=2 ^ 11:=EH ⋯ ⋯;unfold bM;omega
theorem kJ {n:Int}(hn:1<=n){k:Nat}{B:List Int}:B∈bM n k ↔ Beat n B/\0∈B/\B.length=k+1:=by
 unfold bM;rw[kP]
 constructor
 ·rintro ⟨t,rfl,h1,h2,h3⟩
  refine⟨⟨by simp,?_,λ x hx=>?_⟩,by simp,by simp[h1]⟩
  ·exact List.pairwise_cons.mpr ⟨λ x hx=>by have:=h3 x hx;omega,h2⟩
  ·rcases List.mem_cons.mp hx with rfl|hx
   ·omega
   ·have:=h3 x hx;omega
 ·rintro ⟨b,h0,hl⟩
  cases B with
  | nil=>exact absurd rfl b.ne
  | cons x t=>
   obtain⟨q1,q2⟩:=List.pairwise_cons.mp b.up;have hx:x=0:=by
    rcases List.mem_cons.mp h0 with e|h0
    ·exact e.symm
    ·have:=q1 0 h0;have:=b.rg x (CS ..);omega
   subst hx;exact⟨t,rfl,by simpa using hl,q2,λ y hy=>by have:=q1 y hy;have:=b.rg y (CV _ hy);omega⟩
def nW (n:Int)(A:List Int)(k:Nat):List (List Int):=(bM n k).filter λ B=>decide (tally n.toNat (hits n A B)=List.replicate n.toNat 1)
theorem xH {n:Int}{A:List Int}(h:Beat n A){k:Nat}(hQ:((A.length*(k+1):Nat):Int)=n):Dv.lsort (dfs n A (k+1) [0])=nW n A k:=by
 have hp:=h.pos;have g0:Good n A [0]:=by
  refine⟨λ s hs=>by simp at hs;omega,by simp,λ x hx y hy s hs t ht e=>?_⟩;simp at hs ht;subst hs;subst ht;exact⟨gv ⋯ (h.rg x hx) (h.rg y hy) e,rfl⟩
 have up:(nW n A k).Pairwise λ a b=>lexLt a b=true:=List.Pairwise.filter _ (A3 _ _ _ _)
 have nd:(nW n A k).Nodup:=up.imp λ {a b} q e=>by subst e;rw[Dv.lex_irr] at q;cases q
 refine Dv.sorted_one ((Dv.lsort_perm _).trans ((DN (wo h _ _ g0 (by simp)) nd).mpr λ B=>?_)) (Dv.lsort_sorted _) (up.imp λ q=>Dv.lt_le q);unfold nW;rw[D7,kJ hp,decide_eq_true_eq]
 constructor
 ·intro hB
  obtain⟨f,sub⟩:=bV h _ _ g0 (by simp) B hB;refine⟨⟨f.oth,sub 0 (by simp),?_⟩,f.tally⟩;have:=f.len;have e:A.length*B.length=A.length*(k+1):=⋯
  exact DR h.len1 e
 ·rintro ⟨⟨b,h0,hl⟩,ht⟩
  exact lj (qN h b ht) (k+1) [0] (by simp) (λ s hs=>by simp at hs;subst hs;exact h0) (by simp) (by simp;omega)
end Wm
namespace Cw
open Dv (Out R RL bR eB1 eCall eCm eComp eInt eIx eLst eNeg eOp eOr eVar forGo iRange iRange2 iSeq lCons lNil opD sCons sFor sIf sNil sPut sRaise sRet sRetO sSet sSetG)
open Dv (D R RL EE EL EI RI Sl Out SS St)
open Bt
theorem jH (n:Int):F_Q03 [.int n]=if 1<=n/\n<=60 then .ok .non true else .exc "NoWheel":=by
 by_cases h1:n<1
 ·have h3:¬ (1<=n/\n<=60):=⋯
  simp only[F_Q03,b_Q03,Dv.fn,sIf,eOr,eCm,eVar,eInt,Dv.all,R.bind,RL.bind,Out.bind,ar,ag,CN,CP,CQ,C4,List.replicate,CZ,C1,CM,Nat.reduceAdd,Nat.reduceSub,fL,decide_eq_true h1,if_neg h3,sRaise]
 ·by_cases h2:60<n
  ·have h3:¬ (1<=n/\n<=60):=⋯
   simp only[F_Q03,b_Q03,Dv.fn,sIf,eOr,eCm,eVar,eInt,Dv.all,R.bind,RL.bind,Out.bind,ar,ag,CN,CP,CQ,C4,List.replicate,CZ,C1,CM,Nat.reduceAdd,Nat.reduceSub,fL,kL,decide_eq_true h2,decide_eq_false h1,if_neg h3,sRaise]
  ·have h3:1<=n/\n<=60:=⋯
   simp only[F_Q03,b_Q03,Dv.fn,sNil,sIf,eOr,eCm,eVar,eInt,Dv.all,R.bind,RL.bind,Out.bind,ar,ag,CN,CP,CQ,C4,List.replicate,CZ,C1,CM,Nat.reduceAdd,Nat.reduceSub,fL,kL,decide_eq_false h2,decide_eq_false h1,if_pos h3,sRaise]
theorem l4 {xs:List Int}(h:xs≠[]):Dv.at? (xs.map D.int) (-1)=some (.int (xs.getLast h)):=by
 have hl:0<xs.length:=List.length_pos_iff.mpr h;unfold Dv.at?;rw[if_neg ⋯,if_pos (by simp;omega)];have:((-1:Int)+((xs.map D.int).length:Int)).toNat=xs.length-1:=by simp;omega
 rw[this,Dc,Dg ⋯,Ey];rfl
theorem vo (c:List Int)(i:Nat)(x:Int):(c.map D.int).set i (.int x)=(c.set i x).map D.int:=by
 rw[E9]
def ones (c:List Int)(xs:List Int):List Int:=xs.foldl (λ c x=>c.set x.toNat 1) c
theorem mn:∀ (xs c:List Int),(ones c xs).length=c.length
 | [],c=>rfl
 | x::r,c=>by unfold ones;rw[C7];have:=mn r (c.set x.toNat 1);unfold ones at this;rw[this,Dk]
theorem nr:∀ (xs c:List Int) (i:Nat),(∀ x∈xs,0<=x)->i<c.length->(ones c xs)[i]?=if (i:Int)∈xs then some 1 else c[i]?
 | [],c,i,_,_=>by simp[ones]
 | x::r,c,i,h,hi=>by
  have e:ones c (x::r)=ones (c.set x.toNat 1) r:=rfl;have hx:=h x (CS ..);rw[e,nr r _ i (λ y hy=>h y (CV _ hy)) (by rw[Dk];exact hi)];by_cases h1:(i:Int)∈r
  ·rw[if_pos h1,if_pos (CV _ h1)]
  ·rw[if_neg h1]
   by_cases h2:(i:Int)=x
   ·rw[if_pos (by rw[h2];exact CS ..)]
    have:x.toNat=i:=⋯
    rw[this,Dp hi]
   ·rw[if_neg (by simp[h1,h2]),DB ⋯]
theorem xS {xs:List Int}{m:Nat}(h:∀ x∈xs,0<=x):ones (List.replicate m 0) xs=(upto m).map λ i=>if i∈xs then 1 else 0:=by
 apply El;intro i;by_cases hi:i<m
 ·rw[nr xs _ i h (by simpa using hi)]
  unfold upto;rw[DY,Dc,D0 hi,DX];simp only[DW,HX,if_pos hi]
  split <;>rfl
 ·rw[Dm (by rw[mn];simpa using hi),Dm (by simp[upto_len];omega)]
def bsum (xs:List Int):List Int:=if h:xs=[] then [] else (upto (xs.getLast h+1).toNat).map λ i=>if i∈xs then 1 else 0
theorem mC:bsum []=[]:=by simp[bsum]
theorem lH:F_Q00 [.lst []]=.ok (.lst []) true:=rfl
theorem fM (A:D):∀ (xs c:List Int) (z:Sl),(∀ x∈xs,0<=x/\x<c.length)->∃ z',forGo 2 b_Q00_l1 (xs.map .int) [.sh A,.ow (L c),z]=.nx [.sh A,.ow (L (ones c xs)),z']
 | [],c,z,_=>⟨z,rfl⟩
 | x::r,c,z,h=>by
  obtain⟨h1,h2⟩:=h x (CS ..);obtain⟨z',e⟩:=fM A r (c.set x.toNat 1) (.sh (.int x)) (λ y hy=>by rw[Dk];exact h y (CV _ hy));refine⟨z',?_⟩;rw[CN,ba (st':=[.sh A,.ow (L (c.set x.toNat 1)),.sh (.int x)]),e]
  ·rfl
  ·simp only[b_Q00_l1,sPut,eVar,eInt,Dv.all,ar,aQ,ag,CN,CP,CM,CO,CT,CU,C2,if_true,CY,decide_eq_true h1,decide_eq_true h2,vo]
structure Up (m:Int)(xs:List Int):Prop where
 up:xs.Pairwise (·<·)
 rg:∀ x∈xs,0<=x/\x<m
theorem Up.last {m:Int}{xs:List Int}(h:Up m xs)(ne:xs≠[]):∀ x∈xs,x<=xs.getLast ne:=λ x hx=>by
 obtain⟨i,hi,rfl⟩:=List.mem_iff_getElem.mp hx;rw[Ey];by_cases e:i=xs.length-1
 ·subst e;omega
 ·have:=List.pairwise_iff_getElem.mp h.up i (xs.length-1) hi ⋯ ⋯
  omega
theorem nE {m:Int}{xs:List Int}(h:Up m xs)(hm:m<=1000):F_Q00 [L xs]=.ok (L (bsum xs)) true:=by
 by_cases ne:xs=[]
 ·subst ne;rw[mC];exact lH
 ·have hl:¬ ((xs.length:Int)=0):=by
   have:0<xs.length:=List.length_pos_iff.mpr ne;omega
  have hla:=h.rg (xs.getLast ne) (EF ne);have hb:bsum xs=(upto (xs.getLast ne+1).toNat).map λ i=>if i∈xs then 1 else 0:=by unfold bsum;rw[dif_neg ne]
  rw[hb];have hat:=l4 ne;obtain⟨z,e⟩:=fM (L xs) xs (List.replicate (xs.getLast ne+1).toNat 0) .no (λ x hx=>by
   have:=h.last ne x hx;have:=(h.rg x hx).1;simp;omega)
  rw[xS λ x hx=>(h.rg x hx).1] at e;have hre:=gW (x:=0) (n:=xs.getLast ne+1) ⋯ ⋯;simp only[F_Q00,b_Q00,b_Q00_t3,b_Q00_t2,b_Q00_t1,Dv.fn,sCons,sNil,sSet,bB,Dv.give,Dv.open_,aK,aE,aw,aS,sIf,sRetO,sFor,iSeq,eB1,Dv.lenD,eIx,Dv.ixD,eNeg,eCm,eOp,eVar,eInt,eLst,lNil,lCons,Dv.all,R.bind,RL.bind,Dv.R.bindL,Dv.RL.bindL,Out.bind,bf,ar,ag,ak,CN,CP,CQ,C4,List.replicate,CZ,C1,CM,CO,CT,CU,C7,C8,C5,Dn,C2,Nat.reduceAdd,Nat.reduceSub,bH,bI,bq,CY,decide_eq_false hl,hat,hre,e]
open Bt Wm
theorem km (lo:Int):∀ m:Nat,Dv.rangeL lo m=(Dv.upL lo m).map .int
 | 0=>rfl
 | m+1=>by unfold Dv.rangeL Dv.upL;rw[km (lo+1) m];rfl
theorem qS (lo:Int):∀ m:Nat,(Dv.upL lo m).length=m
 | 0=>rfl
 | m+1=>by unfold Dv.upL;rw[CQ,qS]
theorem oI {r:List Int}(h:r≠[]):r.getLastD 0=r.getLast h:=by
 cases r with
 | nil=>exact absurd rfl h
 | cons a t=>simp[List.getLastD]
section
variable {n:Int}{A:List Int}
theorem zw {r:List Int}(hr:r≠[])(hl:r.length<=100)(b1:0<=r.getLastD 0)(b2:r.getLastD 0<n)(n2:n<=60){a1 a2 a3 a4:Option D}:
  ∃ f,c_Q0C_1 [some (.int n),a1,a2,a3,a4,some (L r)]=.ok (LL ((Dv.upL (r.getLastD 0+1) (n-(r.getLastD 0+1)).toNat).map λ p=>r++[p])) f:=by
 have hit:iRange2 (eOp .add (eIx (eVar 5) (eNeg (eInt 1))) (eInt 1)) (eVar 0) [some (.int n),a1,a2,a3,a4,some (L r)]=.ok ((Dv.upL (r.getLastD 0+1) (n-(r.getLastD 0+1)).toNat).map .int) true:=by
  have e1:=l4 hr;rw[<- oI hr] at e1;simp only[iRange2,eIx,Dv.ixD,eNeg,eOp,eVar,eInt,R.bind,RL.bind,Out.bind,ag,ak,CM,CO,Dn,C2,if_true,bH,L,e1,de (n:=n) ⋯ ⋯,de (n:=r.getLastD 0+1) ⋯ ⋯,km]
 obtain⟨f,e,_⟩:=lF (elt:=eOp .add (eVar 1) (eLst (lCons (eVar 0) lNil))) (is:=[5]) (g:=λ p=>L (r++[p])) (f:=true) hit (by rw[qS];omega) (λ p _=>by
  have:=gf (a:=r) (b:=[p]) (by simp;omega);simp only[L,CN,CP] at this;simp only[eOp,eVar,eLst,lNil,lCons,Dv.pick,R.bind,RL.bind,Dv.R.bindL,Dv.RL.bindL,Out.bind,ag,ak,CN,CP,CM,CO,C5,C2,L,this])
 refine⟨f,?_⟩;unfold c_Q0C_1;rw[e];unfold LL;rw[DY];rfl
theorem zD {a b:List (List Int)}(h:a.length+b.length<=100000):∃ f,opD .add (LL a) (LL b)=.ok (LL (a++b)) f:=by
 unfold LL opD;simp only[CY];rw[if_pos (by unfold Dv.mx;exact h)];exact⟨_,by rw[D6]⟩
def BP (n:Int)(r:List Int):Prop:=r≠[]/\r.length<=100/\0<=r.getLastD 0/\r.getLastD 0<n
theorem uj (n2:n<=60){a1 a2:D}{z3:Sl}:∀ (RR acc:List (List Int)) (z5:Sl),(∀ r∈RR,BP n r)->acc.length+(ext n RR).length<=100000 ->
  ∃ y5,forGo 5 b_Q0C_l1 (RR.map L) [.sh (.int n),.sh a1,.sh a2,z3,.sh (LL acc),z5]=.nx [.sh (.int n),.sh a1,.sh a2,z3,.sh (LL (acc++ext n RR)),y5]
 | [],acc,z5,_,_=>⟨z5,by simp[forGo,ext]⟩
 | r::RR,acc,z5,hr,hl=>by
  obtain⟨h1,h2,h3,h4⟩:=hr r (CS ..);have e0:ext n (r::RR)=(Dv.upL (r.getLastD 0+1) (n-(r.getLastD 0+1)).toNat).map (λ p=>r++[p])++ext n RR:=by unfold ext;rw[DM]
  rw[e0,C9] at hl;obtain⟨f,c1⟩:=zw (n:=n) (r:=r) h1 h2 h3 h4 n2 (a1:=some a1) (a2:=some a2) (a3:=z3.shared) (a4:=some (LL acc));obtain⟨f2,c2⟩:=zD (a:=acc) (b:=(Dv.upL (r.getLastD 0+1) (n-(r.getLastD 0+1)).toNat).map (λ p=>r++[p])) ⋯;obtain⟨y5,e⟩:=uj n2 (a1:=a1) (a2:=a2) (z3:=z3) RR (acc++(Dv.upL (r.getLastD 0+1) (n-(r.getLastD 0+1)).toNat).map (λ p=>r++[p])) (.sh (L r)) (λ x hx=>hr x (CV _ hx)) (by rw[C9];omega);refine⟨y5,?_⟩;rw[CN,ba (st':=[.sh (.int n),.sh a1,.sh a2,z3,.sh (LL (acc++(Dv.upL (r.getLastD 0+1) (n-(r.getLastD 0+1)).toNat).map (λ p=>r++[p]))),.sh (L r)]),e,e0,Ek];simp only[CU,CT];unfold b_Q0C_l1;simp only[sSetG,Dv.give,Dv.open_,aK,aw,eOp,eVar,R.bind,RL.bind,Out.bind,CN,CP,CM,CO,CT,CU,C7,C8,C5,c1,c2]
theorem yx {k:Nat}(hn:1<=n)(n2:n<=60):∀ r∈bM n k,BP n r:=λ r hr=>by
 obtain⟨b,_,hl⟩:=(kJ hn).mp hr;have h1:=b.rg (r.getLast b.ne) (EF _);have h2:=b.len;exact⟨b.ne,⋯,by rw[oI b.ne];omega,by rw[oI b.ne];omega⟩
theorem pW (hn:1<=n)(n2:n<=12){a1:D}:∀ (ks:List Int) (k:Nat) (z3 z4 z5:Sl),
  ∃ y3 y4 y5,forGo 3 b_Q0C_l2 (ks.map .int) [.sh (.int n),.sh a1,.sh (LL (bM n k)),z3,z4,z5]=.nx [.sh (.int n),.sh a1,.sh (LL (bM n (k+ks.length))),y3,y4,y5]
 | [],k,z3,z4,z5=>⟨z3,z4,z5,rfl⟩
 | j::ks,k,z3,z4,z5=>by
  have hlen:=ko n2 (k+1);obtain⟨w5,e1⟩:=uj (n:=n) ⋯ (a1:=a1) (a2:=LL (bM n k)) (z3:=.sh (.int j)) (bM n k) [] z5 (yx hn ⋯) (by rw[jq];simp;omega);rw[C1,jq] at e1;obtain⟨y3,y4,y5,e⟩:=pW hn n2 (a1:=a1) ks (k+1) (.sh (.int j)) (.sh (LL (bM n (k+1)))) w5;refine⟨y3,y4,y5,?_⟩;rw[CN,ba (st':=[.sh (.int n),.sh a1,.sh (LL (bM n (k+1))),.sh (.int j),.sh (LL (bM n (k+1))),w5]),e]
  ·rw[CQ,show k+1+ks.length=k+(ks.length+1) by omega]
  ·simp only[CU,CT]
   unfold b_Q0C_l2;have e2:LL ([]:List (List Int))=.lst []:=rfl;rw[e2] at e1;unfold LL at e1 ⊢;simp only[sCons,sSetG,Dv.give,Dv.open_,aK,aw,sFor,iSeq,eVar,eLst,lNil,R.bind,RL.bind,Out.bind,ak,CN,CP,CM,CO,CT,CU,C7,C8,C5,e1]
theorem vL:F_Q0L=F_Q0J:=rfl
theorem kN {cond:EE}{free:Dv.Env}{c:List Int->Bool}:∀ {R:List (List Int)},(∀ r∈R,cond (some (L r)::free)=.ok (.bl (c r)) true)->∃ f,bR (eVar 0) cond free (R.map L)=.ok ((R.filter c).map L) f
 | [],_=>⟨true,rfl⟩
 | r::R,h=>by
  obtain⟨f,e⟩:=kN (R:=R) λ x hx=>h x (CV _ hx)
  rw[CN];unfold bR;rw[h r (CS ..),D3];cases q:c r with
  | true=>
   have:(eVar 0) (some (L r)::free)=.ok (L r) false:=rfl;simp only[this,e,if_true];exact⟨_,rfl⟩
  | false=>
   simp only[e,DH,if_false];exact⟨_,rfl⟩
theorem oa (h:Beat n A)(n2:n<=12){k:Nat}(hQ:((A.length*(k+1):Nat):Int)=n):∃ f,F_Q0C [.int n,L A]=.ok (LL (nW n A k)) f:=by
 have hp:=h.pos;have hl:=h.len1;have hle:=h.len;have hz:n%(A.length:Int)=0:=by
  rw[<- hQ,Ej];exact FB ..
 have hdv:n/(A.length:Int)-1=(k:Int):=by
  have:n/(A.length:Int)=((k+1:Nat):Int):=by
   rw[<- hQ,Ej];exact Int.mul_ediv_cancel_left _ ⋯
  omega
 obtain⟨y3,y4,y5,e⟩:=pW hp n2 (a1:=L A) (upto k) 0 .no .no .no;rw[upto_len,EN] at e;have e0:bM n 0=[[0]]:=by simp[bM,G]
 rw[e0] at e;have hk:k<=12:=by
  have:A.length*(k+1)<=12:=⋯
  have:=Fg (k+1) hl;omega
 obtain⟨f,c2⟩:∃ f,c_Q0C_2 [some (.int n),some (L A),some (LL (bM n k)),y3.get,y4.get,y5.get]=.ok (LL (nW n A k)) f:=by
  have hlen:=ko n2 k;obtain⟨f,e⟩:=kN (cond:=eCall F_Q0L (lCons (eVar 1) (lCons (eVar 2) (lCons (eVar 0) lNil)))) (free:=[some (.int n),some (L A)]) (c:=λ B=>decide (tally n.toNat (hits n A B)=List.replicate n.toNat 1)) (R:=bM n k) (λ r _=>by
   rw[vL];simp only[eVar,lNil,lCons,eCall,R.bind,RL.bind,Dv.R.bindL,Dv.RL.bindL,Out.bind,ag,ak,CM,CO,C2,Di,sZ (show 0<n by omega) (show n<=60 by omega)])
  refine⟨f,?_⟩;unfold c_Q0C_2 eComp;have hi:iSeq (eVar 2) [some (.int n),some (L A),some (LL (bM n k)),y3.get,y4.get,y5.get]=.ok ((bM n k).map L) false:=rfl;rw[hi];simp only;rw[if_pos (by rw[CY];unfold Dv.mx;omega)];have hpk:Dv.pick [some (.int n),some (L A),some (LL (bM n k)),y3.get,y4.get,y5.get] [0,1]=[some (.int n),some (L A)]:=rfl;rw[hpk,e];rfl
 refine⟨f,?_⟩;have e1:LL [[0]]=.lst [.lst [.int 0]]:=rfl;rw[e1] at e;simp only[F_Q0C,b_Q0C,b_Q0C_t1,b_Q0C_t2,b_Q0C_t3,Dv.fn,sCons,sNil,sSetG,Dv.give,Dv.open_,aK,aE,aw,sIf,sRet,sFor,iRange,eB1,Dv.lenD,eCm,eOp,eVar,eInt,eLst,lNil,lCons,Dv.all,R.bind,RL.bind,Dv.R.bindL,Dv.RL.bindL,Out.bind,bf,ar,ag,ak,CN,CP,CQ,C4,List.replicate,CZ,C1,CM,CO,CT,CU,C7,C8,C5,C2,Dx,if_true,Nat.reduceAdd,Nat.reduceSub,decide_true,cu,da,CY,L,aB (j:=(A.length:Int)) ⋯,hz,decide_true,cC (i:=n) (j:=(A.length:Int)) ⋯ ⋯,hdv,de (n:=(k:Int)) ⋯ ⋯,DG,bA];simp only[L] at e c2;simp only[ar,CN,CP,e,c2]
theorem oy (h:Beat n A)(hz:n%(A.length:Int)≠0):F_Q0C [.int n,L A]=.ok (LL []) true:=by
 have hl:=h.len1;simp only[F_Q0C,b_Q0C,b_Q0C_t3,b_Q0C_t2,b_Q0C_t1,Dv.fn,sCons,sIf,sRet,eB1,Dv.lenD,eCm,eOp,eVar,eInt,eLst,lNil,Dv.all,R.bind,RL.bind,Out.bind,bf,ar,ag,ak,CN,CP,CQ,C4,List.replicate,CZ,C1,CM,CO,D4,Nat.reduceAdd,Nat.reduceSub,da,CY,L,aB (j:=(A.length:Int)) ⋯,decide_eq_false hz];rfl
end
end Cw
namespace Pl
def co (a:List Int)(i:Nat):Int:=a.getD i 0
theorem co_nil (i:Nat):co [] i=0:=by simp[co]
theorem co_zero (x:Int)(r:List Int):co (x::r) 0=x:=rfl
theorem co_succ (x:Int)(r:List Int)(i:Nat):co (x::r) (i+1)=co r i:=by simp[co]
theorem co_over {a:List Int}{i:Nat}(h:a.length<=i):co a i=0:=by
 unfold co;rw[C6,Dm h];rfl
theorem co_get {a:List Int}{i:Nat}(h:i<a.length):co a i=a[i]:=by
 unfold co;rw[C6,Dg h];rfl
def sh (f:Nat->Int):Nat->Int
 | 0=>0
 | p+1=>f p
def cf:List Int->(Nat->Int)->Nat->Int
 | [],_,_=>0
 | x::r,g,p=>x*g p+sh (cf r g) p
theorem cf_nil (g:Nat->Int)(p:Nat):cf [] g p=0:=rfl
theorem cf_z (x:Int)(r:List Int)(g:Nat->Int):cf (x::r) g 0=x*g 0:=by simp[cf,sh]
theorem cf_s (x:Int)(r:List Int)(g:Nat->Int)(p:Nat):cf (x::r) g (p+1)=x*g (p+1)+cf r g p:=by simp[cf,sh]
theorem cf_congr {g h:Nat->Int}:∀ (a:List Int) (p:Nat),(∀ i,i<=p->g i=h i)->cf a g p=cf a h p
 | [],p,_=>rfl
 | x::r,0,e=>by rw[cf_z,cf_z,e 0 (Dh _)]
 | x::r,p+1,e=>by rw[cf_s,cf_s,e _ (Dh _),cf_congr r p λ i hi=>e i ⋯]
theorem vq (g h:Nat->Int):∀ (a:List Int) (p:Nat),cf a (λ i=>g i+h i) p=cf a g p+cf a h p
 | [],p=>by simp[cf]
 | x::r,0=>by rw[cf_z,cf_z,cf_z,Fj]
 | x::r,p+1=>by rw[cf_s,cf_s,cf_s,vq g h r p,Fj];omega
theorem pL (c:Int)(g:Nat->Int):∀ (a:List Int) (p:Nat),cf a (λ i=>c*g i) p=c*cf a g p
 | [],p=>by simp[cf]
 | x::r,0=>by rw[cf_z,cf_z,FK]
 | x::r,p+1=>by rw[cf_s,cf_s,pL c g r p,Fj,FK]
theorem cf_zero:∀ (a:List Int) (p:Nat),cf a (λ _=>0) p=0
 | [],p=>rfl
 | x::r,0=>by rw[cf_z,FI]
 | x::r,p+1=>by rw[cf_s,cf_zero r p,FI];rfl
theorem lg (x:Int)(r:List Int):∀ (b:List Int) (p:Nat),cf b (co (x::r)) p=x*co b p+sh (cf b (co r)) p
 | [],0=>by simp[cf,co,sh]
 | [],p+1=>by simp[cf,co,sh]
 | y::s,0=>by rw[cf_z,co_zero,co_zero,EO];simp[sh]
 | y::s,p+1=>by
  rw[cf_s,lg x r s p,co_succ,co_succ];show y*co r p+(x*co s p+sh (cf s (co r)) p)=x*co s p+cf (y::s) (co r) p
  have:cf (y::s) (co r) p=y*co r p+sh (cf s (co r)) p:=rfl;rw[this];omega
theorem cf_comm:∀ (a b:List Int) (p:Nat),cf a (co b) p=cf b (co a) p
 | [],b,p=>by
  rw[cf_nil];have:cf b (co []) p=cf b (λ _=>0) p:=cf_congr b p λ i _=>co_nil i
  rw[this,cf_zero]
 | x::r,b,0=>by rw[cf_z,lg];simp[sh]
 | x::r,b,p+1=>by rw[cf_s,lg];show _=_+cf b (co r) p;rw[cf_comm r b p]
theorem q8:∀ {a b:List Int} {p:Nat},a.length+b.length<=p+1->cf a (co b) p=0
 | [],b,p,_=>rfl
 | x::r,b,0,h=>by
  have:b=[]:=DA (by simp at h;omega);subst this;rw[cf_z,co_nil,FI]
 | x::r,b,p+1,h=>by
  simp only[CQ] at h;rw[cf_s,co_over ⋯,q8 (a:=r) (b:=b) (p:=p) ⋯];simp
theorem nT:∀ {a b:List Int},a≠[]->b≠[]->cf a (co b) (a.length+b.length-2)=co a (a.length-1)*co b (b.length-1)
 | [],_,h,_=>absurd rfl h
 | [x],b,_,hb=>by
  have:0<b.length:=List.length_pos_iff.mpr hb;have e:[x].length+b.length-2=b.length-1:=by simp;omega
  rw[e];show x*co b (b.length-1)+sh (cf [] (co b)) (b.length-1)=_
  have:sh (cf [] (co b)) (b.length-1)=0:=by cases b.length-1 <;>rfl
  rw[this];simp[co]
 | x::y::r,b,_,hb=>by
  have hl:0<b.length:=List.length_pos_iff.mpr hb;have e:(x::y::r).length+b.length-2=((y::r).length+b.length-2)+1:=by simp;omega
  rw[e,cf_s,co_over (by simp;omega),nT (a:=y::r) (by simp) hb];simp[co]
theorem ext_co {a b:List Int}(hl:a.length=b.length)(h:∀ i,i<a.length->co a i=co b i):a=b:=by
 apply List.ext_getElem hl;intro i h1 h2;have:=h i h1;rw[co_get h1,co_get h2] at this;exact this
def Tr (a:List Int):Prop:=a=[]\/co a (a.length-1)≠0
theorem tr_ext {a b:List Int}(ha:Tr a)(hb:Tr b)(h:∀ i,co a i=co b i):a=b:=by
 have hl:a.length=b.length:=by
  rcases Nat.lt_trichotomy a.length b.length with hh|hh|hh
  ·exfalso
   rcases hb with hb|hb
   ·subst hb;simp at hh
   ·exact hb (by rw[<- h,co_over ⋯])
  ·exact hh
  ·exfalso
   rcases ha with ha|ha
   ·subst ha;simp at hh
   ·exact ha (by rw[h,co_over ⋯])
 exact ext_co hl λ i _=>h i
def upto (n:Nat)(f:Nat->Int):List Int:=(List.range n).map f
theorem upto_len (n:Nat)(f:Nat->Int):(upto n f).length=n:=by simp[upto]
theorem co_upto {n:Nat}{f:Nat->Int}{i:Nat}(h:i<n):co (upto n f) i=f i:=by
 rw[co_get (by rw[upto_len];exact h)];simp[upto]
def mul (a b:List Int):List Int:=if a=[]\/b=[] then [] else upto (a.length+b.length-1) (cf a (co b))
theorem iP (a:List Int):mul a []=[]:=by simp[mul]
theorem lN (a:List Int):mul [] a=[]:=by simp[mul]
theorem mul_len {a b:List Int}(ha:a≠[])(hb:b≠[]):(mul a b).length=a.length+b.length-1:=by
 unfold mul;rw[if_neg (by simp[ha,hb]),upto_len]
theorem co_mul (a b:List Int)(p:Nat):co (mul a b) p=cf a (co b) p:=by
 by_cases ha:a=[]
 ·subst ha;rw[lN,co_nil];rfl
 by_cases hb:b=[]
 ·subst hb;rw[iP,co_nil,cf_comm];rfl
 have h1:0<a.length:=List.length_pos_iff.mpr ha;have h2:0<b.length:=List.length_pos_iff.mpr hb;by_cases hp:p<a.length+b.length-1
 ·unfold mul;rw[if_neg (by simp[ha,hb]),co_upto hp]
 ·rw[co_over (by rw[mul_len ha hb];omega),q8 ⋯]
theorem mul_comm (a b:List Int):mul a b=mul b a:=by
 by_cases ha:a=[]
 ·subst ha;rw[lN,iP]
 by_cases hb:b=[]
 ·subst hb;rw[lN,iP]
 refine ext_co (by rw[mul_len ha hb,mul_len hb ha];omega) λ i _=>?_
 rw[co_mul,co_mul,cf_comm]
theorem one_mul (a:List Int):mul [1] a=a:=by
 by_cases ha:a=[]
 ·subst ha;rw[iP]
 refine ext_co (by rw[mul_len (by simp) ha];simp) λ i _=>?_
 rw[co_mul];show 1*co a i+sh (cf [] (co a)) i=co a i
 have:sh (cf [] (co a)) i=0:=by cases i <;>rfl
 rw[this];omega
theorem mul_one (a:List Int):mul a [1]=a:=by rw[mul_comm,one_mul]
structure Mo (o:List Int):Prop where
 ne:o≠[]
 top:co o (o.length-1)=1
theorem Mo.mul {a b:List Int}(ha:Mo a)(hb:Mo b):Mo (mul a b):=by
 have h1:0<a.length:=List.length_pos_iff.mpr ha.ne;have h2:0<b.length:=List.length_pos_iff.mpr hb.ne;have hl:=mul_len ha.ne hb.ne;refine⟨by intro h;rw[h] at hl;simp at hl;omega,?_⟩;rw[hl,co_mul];have:a.length+b.length-1-1=a.length+b.length-2:=⋯
 rw[this,nT ha.ne hb.ne,ha.top,hb.top];rfl
theorem zM {o:List Int}(ho:Mo o):∀ {q:List Int},(∀ p,o.length-1<=p->cf q (co o) p=0)->∀ i,co q i=0:=by
 intro q;generalize hn:q.length=n
 induction n generalizing q with
 | zero=>intro _ i;exact co_over ⋯
 | succ n ih=>
  intro h i;have hq:q≠[]:=by intro z;rw[z] at hn;simp at hn
  have ho1:0<o.length:=List.length_pos_iff.mpr ho.ne;have top:=h (q.length+o.length-2) ⋯;rw[nT hq ho.ne,ho.top,FL] at top;have e:∀ i,co (q.take n) i=co q i:=λ i=>by
   by_cases hi:i<n
   ·unfold co;rw[C6,C6,Ew hi]
   ·rw[co_over (by rw[Ep];omega)]
    by_cases hi2:i=n
    ·have e1:q.length-1=n:=⋯
     rw[hi2,<- e1];exact top.symm
    ·rw[co_over ⋯]
  rw[<- e i];refine ih (q:=q.take n) (by rw[Ep];omega) (λ p hp=>?_) i;rw[cf_comm,cf_congr o p λ j _=>e j,cf_comm];exact h p hp
theorem AV (a:List Int)(g h:Nat->Int)(p:Nat):cf a (λ i=>g i-h i) p=cf a g p-cf a h p:=by
 have e:(λ i=>g i-h i)=λ i=>g i+(-1)*h i:=by funext i;omega
 rw[e,vq,pL];omega
theorem div_one {o q q':List Int}{r r':Nat->Int}(ho:Mo o)(hr:∀ i,o.length-1<=i->r i=0)(hr':∀ i,o.length-1<=i->r' i=0)(h:∀ p,cf q (co o) p+r p=cf q' (co o) p+r' p):
  (∀ i,co q i=co q' i)/\∀ i,r i=r' i:=by
 let d:=upto (max q.length q'.length) λ i=>co q i-co q' i
 have hd:∀ i,co d i=co q i-co q' i:=λ i=>by
  by_cases hi:i<max q.length q'.length
  ·exact co_upto hi
  ·rw[co_over (by rw[upto_len];omega),co_over (a:=q) ⋯,co_over (a:=q') ⋯];rfl
 have hc:∀ p,cf d (co o) p=cf q (co o) p-cf q' (co o) p:=λ p=>by
  rw[cf_comm,cf_congr o p λ j _=>hd j,AV,cf_comm o q,cf_comm o q']
 have z:=zM ho (q:=d) λ p hp=>by
  rw[hc];have:=h p;rw[hr p hp,hr' p hp] at this;omega
 have e1:∀ i,co q i=co q' i:=λ i=>by have:=hd i;rw[z i] at this;omega
 refine⟨e1,λ i=>?_⟩;have e2:cf q (co o) i=cf q' (co o) i:=by rw[cf_comm,cf_congr o i λ j _=>e1 j,cf_comm]
 have:=h i;omega
end Pl
namespace Cw
open Dv (Out R RL bR eAnd eB1 eBl eCall eCm eDict0 eDix eInt eIx eLst eNeg eOp eOr ePart eSlice eVar forGo iDown iEnum iRange2 iSeq lCons lNil opD rngOk sAug sAugIx sCons sDMove sExpr sFor sForR sForT sIf sNil sPut sRet sRetO sRetT sSet sSetD sWhile whileGo)
open Dv (D R RL EE EL EI RI Sl Out SS St)
open Bt
open Pl (co cf sh)
theorem mq {s:List Int}{k:Int}(h:0<=k)(h2:k<s.length):Dv.at? (s.map .int) k=some (.int (co s k.toNat)):=yr h h2
def cJ (c:List Int)(i:Nat)(x:Int):List Int->List Int
 | []=>c
 | y::r=>cJ (c.set i (co c i+x*y)) (i+1) x r
theorem eE (x:Int):∀ (b:List Int) (c:List Int) (i:Nat),(cJ c i x b).length=c.length
 | [],c,i=>rfl
 | y::r,c,i=>by unfold cJ;rw[eE x r,Dk]
theorem lX {c:List Int}{i:Nat}{x:Int}(h:i<c.length)(p:Nat):co (c.set i x) p=if p=i then x else co c p:=by
 unfold co;rw[C6,C6];by_cases e:p=i
 ·subst e;rw[Dp h,if_pos rfl];rfl
 ·rw[DB (Ne.symm e),if_neg e]
theorem ku (x:Int):∀ (b:List Int) (c:List Int) (i:Nat),i+b.length<=c.length->∀ p,co (cJ c i x b) p=co c p+if i<=p then x*co b (p-i) else 0
 | [],c,i,_,p=>by
  unfold cJ;rw[Pl.co_nil];simp
 | y::r,c,i,h,p=>by
  rw[CQ] at h;unfold cJ;rw[ku x r _ (i+1) (by rw[Dk];omega) p,lX ⋯];by_cases e:p=i
  ·subst e
   rw[if_pos rfl,if_neg ⋯,if_pos (Dh _),FZ,Pl.co_zero];omega
  ·rw[if_neg e]
   by_cases hp:i<=p
   ·rw[if_pos ⋯,if_pos hp]
    have:p-i=(p-(i+1))+1:=⋯
    rw[this,Pl.co_succ]
   ·rw[if_neg ⋯,if_neg hp]
theorem se (k:Nat)(x:Int)(r:List Int):Dv.enumL k ((x::r).map .int)=.tup [.int k,.int x]::Dv.enumL (k+1) (r.map .int):=rfl
def trim (a:List Int):List Int:=(a.reverse.dropWhile λ x=>decide (x=0)).reverse
theorem dQ (b:List Int)(x:Int):trim (b++[x])=if x=0 then trim b else b++[x]:=by
 unfold trim;rw[List.reverse_append,D9,List.reverse_nil,C1,CZ,C1,List.dropWhile_cons];by_cases h:x=0
 ·simp[h]
 ·simp[h]
theorem l5 {a:List Int}(h:a≠[]):a.dropLast++[a.getLast h]=a:=List.dropLast_concat_getLast h
theorem gq {P:List Int->Prop}(h0:P [])(h1:∀ b x,P b->P (b++[x])):∀ a,P a:=by
 intro a;generalize hn:a.length=n
 induction n generalizing a with
 | zero=>rw[DA hn];exact h0
 | succ n ih=>
  have ne:a≠[]:=by intro z;rw[z] at hn;simp at hn
  rw[<- l5 ne];exact h1 _ _ (ih _ (by rw[Fq];omega))
theorem jh:∀ a:List Int,(trim a).length<=a.length:=gq (by simp[trim]) λ b x ih=>by
 rw[dQ];split
 ·simp;omega
 ·exact Dh _
theorem kU (b:List Int)(x:Int)(i:Nat):co (b++[x]) i=if i=b.length then x else co b i:=by
 unfold co;rw[C6,C6];by_cases h:i<b.length
 ·rw[Dq h,if_neg ⋯]
 ·by_cases e:i=b.length
  ·subst e;simp
  ·rw[Dm (by simp;omega),Dm ⋯,if_neg e]
theorem xn:∀ a:List Int,∀ i,co (trim a) i=co a i:=gq (λ i=>rfl) λ b x ih i=>by
 rw[dQ];by_cases h:x=0
 ·rw[if_pos h,ih,kU]
  split
  ·rename_i e;rw[Pl.co_over ⋯,h]
  ·rfl
 ·rw[if_neg h]
theorem xA:∀ a:List Int,Pl.Tr (trim a):=gq (.inl rfl) λ b x ih=>by
 rw[dQ];by_cases h:x=0
 ·rw[if_pos h];exact ih
 ·rw[if_neg h]
  refine .inr ?_
  rw[kU,if_pos (by simp)];exact h
theorem rZ:∀ a:List Int,a.take (trim a).length=trim a:=gq rfl λ b x ih=>by
 rw[dQ];by_cases h:x=0
 ·rw[if_pos h,List.take_append_of_le_length (jh b)];exact ih
 ·rw[if_neg h,E6]
theorem take_snoc {xs:List Int}{n:Nat}(h:n<xs.length):xs.take (n+1)=xs.take n++[co xs n]:=by
 rw[Pl.co_get h,List.take_succ_eq_append_getElem h]
theorem fQ (xs:List Int):∀ (n m:Nat),n<=xs.length->n<m->whileGo (eAnd (eCm .gt (eVar 1) (eInt 0)) (eCm .eq (eIx (eVar 0) (eOp .sub (eVar 1) (eInt 1))) (eInt 0))) b_Q19_l1 m [.sh (L xs),.sh (.int n)]=.nx [.sh (L xs),.sh (.int (trim (xs.take n)).length)]
 | 0,m+1,_,_=>by
  rw[whileGo];simp only[eIx,Dv.ixD,eAnd,eCm,eOp,eVar,eInt,Dv.all,R.bind,RL.bind,Out.bind,ar,ag,ak,CN,CP,CM,CO,DO,cu,Dv.cmD_eq,Dv.cmD_ne,Dv.cmD_lt,Dv.cmD_le,Dv.cmD_gt,Dv.cmD_ge,Dv.cmD_in,Dv.cmD_ni,Dv.cmD_it,Dv.cmD_nt];rfl
 | n+1,m+1,h,hm=>by
  have hat:=mq (s:=xs) (k:=(n:Int)) ⋯ ⋯;rw[DG] at hat;have e1:(((n+1:Nat):Int)-1)=(n:Int):=⋯
  have h0:(0:Int)<((n+1:Nat):Int):=⋯
  have ih:=fQ xs n m ⋯ ⋯;rw[whileGo,take_snoc ⋯,dQ];by_cases hz:co xs n=0
  ·rw[if_pos hz]
   simp only[eIx,Dv.ixD,eAnd,eCm,eOp,eVar,eInt,Dv.all,R.bind,RL.bind,Out.bind,ar,sAug,ag,ak,CN,CP,CM,CO,CT,CU,Dn,cu,kL,bI,decide_eq_true h0,e1,hat,decide_eq_true hz,b_Q19_l1];exact ih
  ·rw[if_neg hz]
   have hl:(xs.take n++[co xs n]).length=n+1:=by simp;omega
   simp only[eIx,Dv.ixD,eAnd,eCm,eOp,eVar,eInt,Dv.all,R.bind,RL.bind,Out.bind,ar,ag,ak,CN,CP,CM,CO,Dn,cu,kL,bI,decide_eq_true h0,e1,hat,decide_eq_false hz,hl]
theorem mJ {α:Type}(ds:List α)(n:Nat)(h:n<=ds.length):Dv.cutL ds none (some (n:Int))=ds.take n:=by
 unfold Dv.cutL Dv.cutI;have h1:¬ ((n:Int)<0):=⋯
 simp only[h1,if_false,En,DG,Fb];rw[FS h]
theorem sQ {α:Type}(ds:List α)(n:Nat):Dv.cutL ds none (some (n:Int))=ds.take n:=by
 by_cases h:n<=ds.length
 ·exact mJ ds n h
 ·unfold Dv.cutL Dv.cutI
  have h1:¬ ((n:Int)<0):=⋯
  simp only[h1,if_false,En,DG,Fb];rw[Nat.min_eq_right ⋯,E6,D2 ⋯]
theorem oZ {xs:List Int}(h:xs.length<99999):F_Q19 [L xs]=.ok (L (trim xs)) true:=by
 have w:=fQ xs xs.length 100000 (Dh _) ⋯;rw[E6] at w;have hc:Dv.cutL (xs.map D.int) none (some ((trim xs).length:Int))=(trim xs).map D.int:=by
  rw[mJ _ _ (by rw[CY];exact jh xs),<- Fw,rZ]
 simp only[F_Q19,b_Q19,b_Q19_t2,b_Q19_t1,Dv.fn,sCons,sSet,aI,sRet,sWhile,eB1,Dv.lenD,eVar,eSlice,ePart,Dv.all,R.bind,RL.bind,Out.bind,bf,ar,ag,ak,CN,CP,CQ,C4,List.replicate,CZ,C1,CM,CO,CT,CU,Dn,Nat.reduceAdd,Nat.reduceSub,bq,CY,w,Dv.sliceD,hc]
theorem oN (n i:Nat):co (List.replicate n 0) i=0:=by
 unfold co;rw[C6,DX];split <;>rfl
def eI (o:List Int)(m:Nat):Nat->List Int->List Int->List Int×List Int
 | 0,rest,share=>(rest,share)
 | n+1,rest,share=>eI o m n (cJ rest n (-(co rest (n+m))) o) (share.set n (co rest (n+m)))
theorem kf (o:List Int)(m:Nat):∀ (n:Nat) (rest share:List Int),(eI o m n rest share).1.length=rest.length/\(eI o m n rest share).2.length=share.length
 | 0,rest,share=>⟨rfl,rfl⟩
 | n+1,rest,share=>by
  unfold eI;have:=kf o m n (cJ rest n (-(co rest (n+m))) o) (share.set n (co rest (n+m)));rw[eE,Dk] at this;exact this
theorem qL (o:Nat->Int):∀ (q:List Int) (n:Nat) (x:Int),n<q.length->co q n=0->∀ p,cf (q.set n x) o p=cf q o p+if n<=p then x*o (p-n) else 0
 | [],n,x,h,_,p=>by simp at h
 | y::r,0,x,_,hz,p=>by
  have hy:y=0:=hz;rw[CT,if_pos (Ez _),Fb];show x*o p+sh (cf r o) p=y*o p+sh (cf r o) p+x*o p
  rw[hy];omega
 | y::r,n+1,x,h,hz,0=>by
  rw[CU,Pl.cf_z,Pl.cf_z,if_neg ⋯];omega
 | y::r,n+1,x,h,hz,p+1=>by
  rw[CU,Pl.cf_s,Pl.cf_s,qL o r n x (by simpa using h) (by rw[Pl.co_succ] at hz;exact hz) p];by_cases hp:n<=p
  ·rw[if_pos hp,if_pos ⋯]
   have:p+1-(n+1)=p-n:=⋯
   rw[this];omega
  ·rw[if_neg hp,if_neg ⋯];omega
theorem mh {o:List Int}{m:Nat}(hm:o.length=m+1)(ho:co o m=1):∀ (n:Nat) (rest share:List Int),(0<n->n+m<=rest.length)->n<=share.length->(∀ i,i<n->co share i=0)->(∀ p,n+m<=p->co rest p=0) ->
  (∀ p,cf (eI o m n rest share).2 (co o) p+co (eI o m n rest share).1 p=cf share (co o) p+co rest p)/\(∀ p,m<=p->co (eI o m n rest share).1 p=0)/\∀ i,n<=i->co (eI o m n rest share).2 i=co share i
 | 0,rest,share,_,_,_,hz=>⟨λ p=>rfl,λ p hp=>hz p ⋯,λ i _=>rfl⟩
 | n+1,rest,share,h1,h2,h3,h4=>by
  have h1:=h1 ⋯;unfold eI;have hr:=ku (-(co rest (n+m))) o rest n ⋯;have ih:=mh hm ho n (cJ rest n (-(co rest (n+m))) o) (share.set n (co rest (n+m))) (λ _=>by rw[eE];omega) (by rw[Dk];omega)
   (λ i hi=>by rw[lX ⋯,if_neg ⋯];exact h3 i ⋯)
   (λ p hp=>by
    rw[hr,if_pos ⋯];by_cases e:p=n+m
    ·subst e
     have:n+m-n=m:=⋯
     rw[this,ho];omega
    ·rw[h4 p ⋯,Pl.co_over (a:=o) ⋯];simp)
  refine⟨λ p=>?_,ih.2.1,λ i hi=>?_⟩
  ·rw[ih.1 p,hr,qL (co o) share n _ ⋯ (h3 n ⋯)]
   split
   ·rw[F3];omega
   ·omega
  ·rw[ih.2.2 i ⋯,lX ⋯,if_neg ⋯]
def Few (o:List Int):Prop:=∀ y∈o,-(2 ^ 64)<y/\y<2 ^ 64
theorem vH {x:Int}{r:List Int}(h:Few (x::r)):(-(2 ^ 64)<x/\x<2 ^ 64)/\Few r:=⟨h x (CS ..),λ y hy=>h y (CV _ hy)⟩
theorem we (A B M:D)(low:Nat)(share:List Int)(hlow:low<share.length):∀ (o c:List Int) (k:Nat) (y z:Sl),Few o->low+k+o.length<=c.length ->
  ∃ y' z',Dv.forGoT (Dv.tupTo [6,7]) b_Q16_l1 (Dv.enumL k (o.map .int)) [.sh A,.sh B,.sh M,.ow (L c),.ow (L share),.sh (.int low),y,z]=.nx [.sh A,.sh B,.sh M,.ow (L (cJ c (low+k) (-(co share low)) o)),.ow (L share),.sh (.int low),y',z']
 | [],c,k,y,z,_,_=>⟨y,z,rfl⟩
 | w::r,c,k,y,z,hs,hl=>by
  obtain⟨⟨h1,h1'⟩,h2⟩:=vH hs;rw[CQ] at hl;have hval:co c (low+k)-co share low*w=co c (low+k) + -(co share low)*w:=by rw[F3];omega
  obtain⟨y',z',e⟩:=we A B M low share hlow r (c.set (low+k) (co c (low+k) + -(co share low)*w)) (k+1) (.sh (.int k)) (.sh (.int w)) h2 (by rw[Dk];omega);refine⟨y',z',?_⟩;have hat:=mq (s:=c) (k:=(low:Int)+(k:Int)) ⋯ ⋯;have hat2:=mq (s:=share) (k:=(low:Int)) ⋯ ⋯;have ht:((low:Int)+(k:Int)).toNat=low+k:=⋯
  have h0:(0:Int)<=(low:Int)+(k:Int):=⋯
  have hm:=bN (cR (i:=co share low) h1 h1');rw[ht] at hat;rw[DG] at hat2;rw[se,gZ (st1:=[.sh A,.sh B,.sh M,.ow (L c),.ow (L share),.sh (.int low),.sh (.int k),.sh (.int w)]) (st':=[.sh A,.sh B,.sh M,.ow (L (c.set (low+k) (co c (low+k) + -(co share low)*w))),.ow (L share),.sh (.int low),.sh (.int k),.sh (.int w)])]
  ·have:low+(k+1)=low+k+1:=⋯
   rw[this] at e;exact e
  ·rfl
  ·simp only[b_Q16_l1,sAugIx,eIx,Dv.ixD,eOp,eVar,Dv.all,R.bind,RL.bind,Out.bind,ar,aQ,ag,ak,CN,CP,CM,CO,CT,CU,Dn,bH,cu,if_pos h0,hat,hat2,hm,ht,vo,hval]
theorem rN (n:Nat):Dv.downL (n:Int) (n+1)=.int n::Dv.downL ((n:Int)-1) n:=rfl
theorem qO {o:List Int}(hf:Few o){m:Nat}(hm:o.length=m+1)(A:D):∀ (n:Nat) (rest share:List Int) (x y z:Sl),(0<n->n+m<=rest.length)->n<=share.length ->
  ∃ x' y' z',forGo 5 b_Q16_l2 (Dv.downL ((n:Int)-1) n) [.sh A,.sh (L o),.sh (.int m),.ow (L rest),.ow (L share),x,y,z]=.nx [.sh A,.sh (L o),.sh (.int m),.ow (L (eI o m n rest share).1),.ow (L (eI o m n rest share).2),x',y',z']
 | 0,rest,share,x,y,z,_,_=>⟨x,y,z,rfl⟩
 | n+1,rest,share,x,y,z,h1,h2=>by
  have h1:=h1 ⋯;have hat:=mq (s:=rest) (k:=(n:Int)+(m:Int)) ⋯ ⋯;have ht:((n:Int)+(m:Int)).toNat=n+m:=⋯
  rw[ht] at hat;obtain⟨y1,z1,e1⟩:=we A (L o) (.int m) n (share.set n (co rest (n+m))) (by rw[Dk];omega) o rest 0 y z hf ⋯;rw[lX ⋯,if_pos rfl] at e1;obtain⟨x',y',z',e⟩:=qO hf hm A n (cJ rest n (-(co rest (n+m))) o) (share.set n (co rest (n+m))) (.sh (.int n)) y1 z1 (λ _=>by rw[eE];omega) (by rw[Dk];omega);refine⟨x',y',z',?_⟩;have e2:(((n+1:Nat):Int)-1)=(n:Int):=⋯
  have hs0:(0:Int)<=(n:Int):=⋯
  have hs1:(n:Int)<(share.length:Int):=⋯
  simp only[F0] at e1;rw[e2,rN,ba (st':=[.sh A,.sh (L o),.sh (.int m),.ow (L (cJ rest n (-(co rest (n+m))) o)),.ow (L (share.set n (co rest (n+m)))),.sh (.int n),y1,z1]),e]
  ·rfl
  ·simp only[b_Q16_l2,sCons,Dv.give,Dv.open_,aK,aw,aS,sPut,sForT,eIx,Dv.ixD,eOp,eVar,Dv.all,R.bind,RL.bind,Out.bind,ar,aQ,iEnum,ag,ak,CN,CP,CM,CO,CT,CU,C7,C8,C5,Dn,C2,if_true,bH,CY,hat,decide_eq_true hs0,decide_eq_true hs1,DG,vo,e1]
theorem eW {a o:List Int}(ho:Pl.Mo o)(hf:Few o)(ha:a.length<=1000)(hlo:o.length<=1000):
  ∃ q r,F_Q16 [L a,L o]=.ok (.tup [L q,L r]) true/\q.length=a.length-(o.length-1)/\Pl.Tr r/\r.length<=o.length-1/\∀ p,co a p=cf q (co o) p+co r p:=by
 have hol:0<o.length:=List.length_pos_iff.mpr ho.ne;obtain⟨m,hm⟩:∃ m,o.length=m+1:=⟨o.length-1,⋯⟩;have htop:co o m=1:=by have:=ho.top;rw[hm] at this;exact this
 have n1:¬ ((o.length:Int)=0):=⋯
 have hat:Dv.at? (o.map D.int) (-1)=some (.int 1):=by
  rw[l4 ho.ne,Ey,<- Pl.co_get ⋯,ho.top]
 have hsub:(o.length:Int)-1=(m:Int):=⋯
 have hre:=p4 (x:=0) (n:=(a.length:Int)-(m:Int)) ⋯ ⋯;have ht:((a.length:Int)-(m:Int)).toNat=a.length-m:=⋯
 rw[ht] at hre;obtain⟨x,y,z,e⟩:=qO hf hm (L a) (a.length-m) a (List.replicate (a.length-m) 0) .no .no .no ⋯ (by simp);obtain⟨d1,d2,d3⟩:=mh hm htop (a.length-m) a (List.replicate (a.length-m) 0) ⋯ (by simp) (λ i _=>oN _ i) (λ p hp=>Pl.co_over ⋯);obtain⟨l1,l2⟩:=kf o m (a.length-m) a (List.replicate (a.length-m) 0);generalize eI o m (a.length-m) a (List.replicate (a.length-m) 0)=qr at *;obtain⟨rest,share⟩:=qr;simp only[DD] at l2;have hrng:(rngOk (((a.length-m:Nat):Int)-1)&&rngOk (-1))=true:=by simp only[rngOk,C3,decide_eq_true_eq];omega
 have htn:((((a.length-m:Nat):Int)-1)-(-1)).toNat=a.length-m:=⋯
 have hc:Dv.cutL (rest.map D.int) none (some (m:Int))=(rest.take m).map D.int:=by rw[sQ,<- Fw]
 have hw:=oZ (xs:=rest.take m) (by simp;omega);have hfl:Dv.listD (L a) false=.ok (L a) true:=by simp[Dv.listD,bq]
 refine⟨share,trim (rest.take m),?_,by rw[l2,hm];omega,xA _,?_,λ p=>?_⟩
 ·have hrl:((List.replicate (a.length-m) (0:Int)).length:Int)=((a.length-m:Nat):Int):=by simp
  simp only[F_Q16,b_Q16,b_Q16_t5,b_Q16_t4,b_Q16_t3,b_Q16_t2,b_Q16_t1,Dv.fn,sCons,sNil,sSet,aI,bB,sIf,eB1,Dv.lenD,Dv.listD,eIx,Dv.ixD,eOr,eNeg,eCm,eOp,eVar,eInt,eLst,lNil,lCons,eCall,eSlice,ePart,Dv.all,R.bind,RL.bind,Dv.R.bindL,Dv.RL.bindL,Out.bind,bf,ar,aQ,sForR,iDown,ag,ak,CN,CP,CQ,C4,List.replicate,CZ,C1,CM,CO,CT,CU,Dn,C2,Dx,if_true,Nat.reduceAdd,Nat.reduceSub,decide_true,cu,bI,da,bq,CY,decide_eq_false n1,hat,hsub,hre,hrl,hrng,htn,e,sRetT,Dv.sliceD,hc,hw,Dx,decide_true]
 ·have:=jh (rest.take m)
  simp at this;omega
 ·have h1:=d1 p
  have z0:cf (List.replicate (a.length-m) 0) (co o) p=0:=by
   rw[Pl.cf_comm,Pl.cf_congr o p (λ i _=>oN _ i),Pl.cf_zero]
  rw[z0] at h1;rw[xn];have h2:co (rest.take m) p=co rest p:=by
   by_cases hp:p<m
   ·unfold co;rw[C6,C6,Ew hp]
   ·rw[Pl.co_over (by simp;omega),d2 p ⋯]
  rw[h2];simp only at h1;omega
theorem jW {q o:List Int}(ho:Pl.Mo o)(hq:q≠[])(hf:Few o)(hl:q.length+o.length<=900):F_Q16 [L (Pl.mul q o),L o]=.ok (.tup [L q,.lst []]) true:=by
 have hol:0<o.length:=List.length_pos_iff.mpr ho.ne;have hql:0<q.length:=List.length_pos_iff.mpr hq;have hml:=Pl.mul_len hq ho.ne;obtain⟨q',r,e,l1,t,l2,h⟩:=eW (a:=Pl.mul q o) ho hf ⋯ ⋯;have key:=Pl.div_one (o:=o) (q:=q') (q':=q) (r:=co r) (r':=λ _=>0) ho (λ i hi=>Pl.co_over ⋯) (λ _ _=>rfl) (λ p=>by rw[<- h p,Pl.co_mul];simp);have e1:q'=q:=Pl.ext_co ⋯ λ i _=>key.1 i
 have e2:r=[]:=Pl.tr_ext t (.inl rfl) λ i=>by rw[key.2 i,Pl.co_nil]
 rw[e,e1,e2];rfl
def phiT:List (List Int):=[
 [],
 [-1,1],
 [1,1],
 [1,1,1],
 [1,0,1],
 [1,1,1,1,1],
 [1,-1,1],
 [1,1,1,1,1,1,1],
 [1,0,0,0,1],
 [1,0,0,1,0,0,1],
 [1,-1,1,-1,1],
 [1,1,1,1,1,1,1,1,1,1,1],
 [1,0,-1,0,1],
 [1,1,1,1,1,1,1,1,1,1,1,1,1],
 [1,-1,1,-1,1,-1,1],
 [1,-1,0,1,-1,1,0,-1,1],
 [1,0,0,0,0,0,0,0,1],
 [1,1,1,1,1,1,1,1,1,1,1,1,1,1,1,1,1],
 [1,0,0,-1,0,0,1],
 [1,1,1,1,1,1,1,1,1,1,1,1,1,1,1,1,1,1,1],
 [1,0,-1,0,1,0,-1,0,1],
 [1,-1,0,1,-1,0,1,0,-1,1,0,-1,1],
 [1,-1,1,-1,1,-1,1,-1,1,-1,1],
 [1,1,1,1,1,1,1,1,1,1,1,1,1,1,1,1,1,1,1,1,1,1,1],
 [1,0,0,0,-1,0,0,0,1],
 [1,0,0,0,0,1,0,0,0,0,1,0,0,0,0,1,0,0,0,0,1],
 [1,-1,1,-1,1,-1,1,-1,1,-1,1,-1,1],
 [1,0,0,0,0,0,0,0,0,1,0,0,0,0,0,0,0,0,1],
 [1,0,-1,0,1,0,-1,0,1,0,-1,0,1],
 [1,1,1,1,1,1,1,1,1,1,1,1,1,1,1,1,1,1,1,1,1,1,1,1,1,1,1,1,1],
 [1,1,0,-1,-1,-1,0,1,1],
 [1,1,1,1,1,1,1,1,1,1,1,1,1,1,1,1,1,1,1,1,1,1,1,1,1,1,1,1,1,1,1],
 [1,0,0,0,0,0,0,0,0,0,0,0,0,0,0,0,1],
 [1,-1,0,1,-1,0,1,-1,0,1,-1,1,0,-1,1,0,-1,1,0,-1,1],
 [1,-1,1,-1,1,-1,1,-1,1,-1,1,-1,1,-1,1,-1,1],
 [1,-1,0,0,0,1,-1,1,-1,0,1,-1,1,-1,1,0,-1,1,-1,1,0,0,0,-1,1],
 [1,0,0,0,0,0,-1,0,0,0,0,0,1],
 [1,1,1,1,1,1,1,1,1,1,1,1,1,1,1,1,1,1,1,1,1,1,1,1,1,1,1,1,1,1,1,1,1,1,1,1,1],
 [1,-1,1,-1,1,-1,1,-1,1,-1,1,-1,1,-1,1,-1,1,-1,1],
 [1,-1,0,1,-1,0,1,-1,0,1,-1,0,1,0,-1,1,0,-1,1,0,-1,1,0,-1,1],
 [1,0,0,0,-1,0,0,0,1,0,0,0,-1,0,0,0,1],
 [1,1,1,1,1,1,1,1,1,1,1,1,1,1,1,1,1,1,1,1,1,1,1,1,1,1,1,1,1,1,1,1,1,1,1,1,1,1,1,1,1],
 [1,1,0,-1,-1,0,1,0,-1,-1,0,1,1],
 [1,1,1,1,1,1,1,1,1,1,1,1,1,1,1,1,1,1,1,1,1,1,1,1,1,1,1,1,1,1,1,1,1,1,1,1,1,1,1,1,1,1,1],
 [1,0,-1,0,1,0,-1,0,1,0,-1,0,1,0,-1,0,1,0,-1,0,1],
 [1,0,0,-1,0,0,0,0,0,1,0,0,-1,0,0,1,0,0,0,0,0,-1,0,0,1],
 [1,-1,1,-1,1,-1,1,-1,1,-1,1,-1,1,-1,1,-1,1,-1,1,-1,1,-1,1],
 [1,1,1,1,1,1,1,1,1,1,1,1,1,1,1,1,1,1,1,1,1,1,1,1,1,1,1,1,1,1,1,1,1,1,1,1,1,1,1,1,1,1,1,1,1,1,1],
 [1,0,0,0,0,0,0,0,-1,0,0,0,0,0,0,0,1],
 [1,0,0,0,0,0,0,1,0,0,0,0,0,0,1,0,0,0,0,0,0,1,0,0,0,0,0,0,1,0,0,0,0,0,0,1,0,0,0,0,0,0,1],
 [1,0,0,0,0,-1,0,0,0,0,1,0,0,0,0,-1,0,0,0,0,1],
 [1,-1,0,1,-1,0,1,-1,0,1,-1,0,1,-1,0,1,-1,1,0,-1,1,0,-1,1,0,-1,1,0,-1,1,0,-1,1],
 [1,0,-1,0,1,0,-1,0,1,0,-1,0,1,0,-1,0,1,0,-1,0,1,0,-1,0,1],
 [1,1,1,1,1,1,1,1,1,1,1,1,1,1,1,1,1,1,1,1,1,1,1,1,1,1,1,1,1,1,1,1,1,1,1,1,1,1,1,1,1,1,1,1,1,1,1,1,1,1,1,1,1],
 [1,0,0,0,0,0,0,0,0,-1,0,0,0,0,0,0,0,0,1],
 [1,-1,0,0,0,1,-1,0,0,0,1,0,-1,0,0,1,0,-1,0,0,1,0,0,-1,0,1,0,0,-1,0,1,0,0,0,-1,1,0,0,0,-1,1],
 [1,0,0,0,-1,0,0,0,1,0,0,0,-1,0,0,0,1,0,0,0,-1,0,0,0,1],
 [1,-1,0,1,-1,0,1,-1,0,1,-1,0,1,-1,0,1,-1,0,1,0,-1,1,0,-1,1,0,-1,1,0,-1,1,0,-1,1,0,-1,1],
 [1,-1,1,-1,1,-1,1,-1,1,-1,1,-1,1,-1,1,-1,1,-1,1,-1,1,-1,1,-1,1,-1,1,-1,1],
 [1,1,1,1,1,1,1,1,1,1,1,1,1,1,1,1,1,1,1,1,1,1,1,1,1,1,1,1,1,1,1,1,1,1,1,1,1,1,1,1,1,1,1,1,1,1,1,1,1,1,1,1,1,1,1,1,1,1,1],
 [1,0,1,0,0,0,-1,0,-1,0,-1,0,0,0,1,0,1]]
def phi (n:Int):List Int:=phiT.getD n.toNat []
def fJ:List Int->List Int->List Int
 | [],b=>b
 | a,[]=>a
 | x::a,y::b=>(x+y)::fJ a b
theorem ly:∀ (a b:List Int) (i:Nat),co (fJ a b) i=co a i+co b i
 | [],b,i=>by unfold fJ;rw[Pl.co_nil];omega
 | x::a,[],i=>by unfold fJ;rw[Pl.co_nil];omega
 | x::a,y::b,0=>rfl
 | x::a,y::b,i+1=>by unfold fJ;rw[Pl.co_succ,Pl.co_succ,Pl.co_succ,ly a b i]
theorem jU:∀ (a b:List Int),(fJ a b).length=max a.length b.length
 | [],b=>by unfold fJ;simp
 | x::a,[]=>by unfold fJ;simp
 | x::a,y::b=>by unfold fJ;rw[CQ,jU a b,CQ,CQ];omega
def fmul:List Int->List Int->List Int
 | [],_=>[]
 | x::r,b=>fJ (b.map (x*·)) (0::fmul r b)
theorem pD (x:Int):∀ (b:List Int) (i:Nat),co (b.map (x*·)) i=x*co b i
 | [],i=>by simp[co]
 | y::b,0=>rfl
 | y::b,i+1=>by rw[CN,Pl.co_succ,Pl.co_succ,pD x b i]
theorem lR:∀ (a b:List Int) (p:Nat),co (fmul a b) p=cf a (co b) p
 | [],b,p=>by unfold fmul;rw[Pl.co_nil];rfl
 | x::r,b,0=>by unfold fmul;rw[ly,pD,Pl.cf_z];show _+0=_;omega
 | x::r,b,p+1=>by unfold fmul;rw[ly,pD,Pl.cf_s,Pl.co_succ,lR r b p]
theorem mB:∀ (a b:List Int),a≠[]->b≠[]->(fmul a b).length=a.length+b.length-1
 | [],b,h,_=>absurd rfl h
 | [x],b,_,hb=>by
  have:0<b.length:=List.length_pos_iff.mpr hb;unfold fmul fmul;rw[jU];simp;omega
 | x::y::r,b,_,hb=>by
  have:0<b.length:=List.length_pos_iff.mpr hb;unfold fmul;rw[jU,CQ,mB (y::r) b (by simp) hb];simp;omega
theorem yk {a b:List Int}(ha:a≠[])(hb:b≠[]):Pl.mul a b=fmul a b:=Pl.ext_co (by rw[Pl.mul_len ha hb,mB a b ha hb]) λ i _=>by rw[Pl.co_mul,lR]
def cQ (f:Int->List Int):List Int->List Int
 | []=>[1]
 | d::r=>Pl.mul (f d) (cQ f r)
def fprod (f:Int->List Int):List Int->List Int
 | []=>[1]
 | d::r=>fmul (f d) (fprod f r)
theorem iY {f:Int->List Int}:∀ {ds:List Int},(∀ d∈ds,Pl.Mo (f d))->Pl.Mo (cQ f ds)
 | [],_=>⟨by simp[cQ],rfl⟩
 | d::r,h=>(h d (CS ..)).mul (iY λ x hx=>h x (CV _ hx))
theorem mM {f:Int->List Int}:∀ {ds:List Int},(∀ d∈ds,Pl.Mo (f d))->cQ f ds=fprod f ds
 | [],_=>rfl
 | d::r,h=>by
  have hr:∀ x∈r,Pl.Mo (f x):=λ x hx=>h x (CV _ hx)
  unfold cQ fprod;rw[<- mM hr,yk (h d (CS ..)).ne (iY hr).ne]
def fY (n:Int):List Int:=(List.range n.toNat).map λ (i:Nat)=>1+(i:Int)
def divs (n:Int):List Int:=(fY n).filter λ d=>decide (n%d=0)
def xn1 (n:Int):List Int:=[-1]++List.replicate (n-1).toNat 0++[1]
theorem vW:((List.range 61).all λ k=>decide (k=0) || (fprod phi (divs k) == xn1 k))=true:=by decide +kernel
theorem uu:((List.range 61).all λ k=>decide (k=0) || ((phi k).all (λ x=>decide (-2<x)&&decide (x<3))&&decide ((phi k).length<=61)&&decide (phi k≠[])&&decide (co (phi k) ((phi k).length-1)=1)))=true:=by decide +kernel
theorem uc {P:Nat->Bool}(h:(List.range 61).all P=true){n:Int}(h1:1<=n)(h2:n<=60):P n.toNat=true:=List.all_eq_true.mp h _ (List.mem_range.mpr ⋯)
theorem uM {n:Int}(h1:1<=n):((n.toNat:Nat):Int)=n:=⋯
theorem gO {n:Int}(h1:1<=n)(h2:n<=60):Pl.Mo (phi n)/\Few (phi n)/\(phi n).length<=61/\∀ x∈phi n,-2<x/\x<3:=by
 have:=uc uu h1 h2;rw[uM h1] at this;have hz:¬ n.toNat=0:=⋯
 simp only[DU,C3,decide_eq_true_eq,DP,hz,false_or] at this;obtain⟨⟨⟨a1,a2⟩,a3⟩,a4⟩:=this;exact⟨⟨a3,a4⟩,λ y hy=>by have:=a1 y hy;omega,a2,a1⟩
theorem mem_divs {n d:Int}:d∈divs n ↔ 1<=d/\d<=n/\n%d=0:=by
 unfold divs fY;rw[D7,Eo]
 constructor
 ·rintro ⟨⟨i,hi,rfl⟩,h⟩
  have:=List.mem_range.mp hi;simp at h;exact⟨⋯,⋯,h⟩
 ·rintro ⟨h1,h2,h3⟩
  exact⟨⟨(d-1).toNat,List.mem_range.mpr ⋯,⋯⟩,by simp[h3]⟩
theorem wO {n:Int}(h2:n<=60):∀ d∈divs n,Pl.Mo (phi d):=λ d hd=>(gO (mem_divs.mp hd).1 (by have:=mem_divs.mp hd;omega)).1
theorem o7 {n:Int}(h1:1<=n)(h2:n<=60):cQ phi (divs n)=xn1 n:=by
 have:=uc vW h1 h2;rw[uM h1] at this;have hz:¬ n.toNat=0:=⋯
 simp only[DU,decide_eq_true_eq,hz,false_or,beq_iff_eq] at this;rw[mM (wO h2),this]
theorem xU (n:Int):(fY n).Pairwise (·<·):=by
 unfold fY;exact List.pairwise_map.mpr (List.pairwise_lt_range.imp λ {a b} h=>⋯)
theorem iM (n:Int):(divs n).Pairwise (·<·):=(xU n).filter _
theorem tL {n:Int}(h1:1<=n):∃ l,divs n=l++[n]/\∀ d∈l,1<=d/\d<n/\n%d=0:=by
 have hn:n∈divs n:=mem_divs.mpr ⟨h1,F1 _,Int.emod_self⟩;have ne:divs n≠[]:=FA hn;have hl:(divs n).getLast ne=n:=by
  have up:Up (n+1) (divs n):=⟨iM n,λ x hx=>by have:=mem_divs.mp hx;omega⟩;have a:=up.last ne n hn;have b:=(mem_divs.mp (EF ne)).2.1;omega
 refine⟨(divs n).dropLast,?_,λ d hd=>?_⟩
 ·conv=>lhs;rw[<- l5 ne,hl]
 ·have hd':=List.dropLast_subset _ hd
  have hm:=mem_divs.mp hd';refine⟨hm.1,?_,hm.2.2⟩;have pw:=iM n;rw[<- l5 ne,hl] at pw;exact(List.pairwise_append.mp pw).2.2 d hd n (by simp)
theorem Ay (n:Int)(h:1<=n):Dv.rangeL 1 (n+1-1).toNat=(fY n).map .int:=by
 rw[gR];unfold fY;have:(n+1-1).toNat=n.toNat:=⋯
 rw[this]
theorem b0 {n:Int}(h1:1<=n)(h2:n<=60):F_Q05 [.int n]=.ok (L (divs n)) true:=by
 have hc:c_Q05_1 [some (.int n)]=.ok (L (divs n)) true:=by
  have hr:(rngOk 1&&rngOk (n+1))=true:=by simp only[rngOk,C3,decide_eq_true_eq];omega
  have:=cG (elt:=eVar 0) (cond:=eCm .eq (eOp .mod (eVar 1) (eVar 0)) (eInt 0)) (is:=[0]) (it:=iRange2 (eInt 1) (eOp .add (eVar 0) (eInt 1))) (ρ:=[some (.int n)]) (c:=λ d=>decide (n%d=0)) (g:=λ d=>d) (xs:=fY n) (f:=true)
   (by simp only[iRange2,eOp,eVar,eInt,R.bind,RL.bind,Out.bind,ag,CM,if_true,bH,hr,Ay n h1]) (by unfold fY;simp;omega) (λ d hd=>by
    have:0<d:=by unfold fY at hd;obtain⟨i,_,rfl⟩:=List.mem_map.mp hd;omega
    simp only[eCm,eOp,eVar,eInt,Dv.pick,R.bind,RL.bind,Out.bind,ag,CN,CP,CM,CO,C5,bI,aB this]) (λ d hd _=>by simp only[eVar,Dv.pick,ag,CN,CP,CM,C5])
  simp only[ES] at this;exact this
 have n1:¬ n<1:=⋯
 have n2:¬ 60<n:=⋯
 simp only[F_Q05,b_Q05,b_Q05_t1,Dv.fn,sCons,sNil,sIf,sRet,eOr,eCm,eVar,eInt,Dv.all,R.bind,RL.bind,Out.bind,ar,ag,CN,CP,CQ,C4,List.replicate,CZ,C1,CM,Nat.reduceAdd,Nat.reduceSub,fL,kL,decide_eq_false n1,decide_eq_false n2,hc]
theorem jz {f:Int->D}{j:Int}:∀ {ks:List Int},j∈ks->Dv.look ks (ks.map f) j=some (f j)
 | [],h=>by simp at h
 | k::ks,h=>by
  rw[CN];unfold Dv.look;by_cases e:k=j
  ·rw[if_pos e,e]
  ·rw[if_neg e]
   exact jz ((List.mem_cons.mp h).resolve_left (λ z=>e z.symm))
theorem md:∀ ks:List Int,Dv.lstsFlat (ks.map λ d=>L (phi d))=true
 | []=>rfl
 | k::ks=>by rw[CN];unfold Dv.lstsFlat;rw[bq,md ks];rfl
theorem mW {n:D}{ks:List Int}{d:Int}(hd:1<=d/\d<=60):∀ (l:List Int) (z:Sl),(∀ a∈l,a∈ks/\1<=a/\a<=60)->l.length<=60->(cQ phi (l++[d])).length<=200 ->
  ∃ z',forGo 4 b_Q10_l1 (l.map .int) [.sh n,.dp (.dct ks (ks.map λ d=>L (phi d))),.sh (.int d),.ow (L (cQ phi (l++[d]))),z]=.nx [.sh n,.dp (.dct ks (ks.map λ d=>L (phi d))),.sh (.int d),.ow (L (phi d)),z']
 | [],z,_,_,_=>⟨z,by simp only[C1,cQ,Pl.mul_one];rfl⟩
 | a::l,z,h,hl,hp=>by
  obtain⟨h1,h2,h3⟩:=h a (CS ..);rw[CQ] at hl;have hm:∀ x∈l++[d],Pl.Mo (phi x):=λ x hx=>by
   rcases List.mem_append.mp hx with hx|hx
   ·have:=h x (CV _ hx);exact(gO this.2.1 this.2.2).1
   ·simp at hx;subst hx;exact(gO hd.1 hd.2).1
  have po:=gO h2 h3;have pm:=iY hm;have e:cQ phi (a::l++[d])=Pl.mul (cQ phi (l++[d])) (phi a):=by
   rw[CZ];show Pl.mul (phi a) (cQ phi (l++[d]))=_
   exact Pl.mul_comm _ _
  have hlen:(cQ phi (l++[d])).length<=200:=by
   rw[e,Pl.mul_len pm.ne po.1.ne] at hp;have:0<(phi a).length:=List.length_pos_iff.mpr po.1.ne;omega
  obtain⟨z',ih⟩:=mW hd l (.sh (.int a)) (λ x hx=>h x (CV _ hx)) ⋯ hlen;refine⟨z',?_⟩;have ex:=jW po.1 pm.ne po.2.1 (by have:=po.2.2.1;omega);have a0:Dv.at? [L (cQ phi (l++[d])),.lst []] 0=some (L (cQ phi (l++[d]))):=rfl;rw[CN,ba (st':=[.sh n,.dp (.dct ks (ks.map λ d=>L (phi d))),.sh (.int d),.ow (L (cQ phi (l++[d]))),.sh (.int a)]),ih];rw[e];simp only[b_Q10_l1,sSet,bB,eIx,Dv.ixD,eVar,eInt,lNil,lCons,eCall,Dv.all,R.bind,RL.bind,Dv.R.bindL,Dv.RL.bindL,Out.bind,ar,aQ,o8,ag,ak,CN,CP,CM,CO,CT,CU,C2,Ei,EW,eDix,jz h1,ex,a0]
theorem kr {n:D}:∀ (l ks:List Int) (x y z:Sl),(∀ d∈l,(1<=d/\d<=60)/\d∉ks/\∀ a,1<=a->a<d->d%a=0->a∈ks\/a∈l)->l.Pairwise (·<·)->ks.length+l.length<=1000 ->
  ∃ x' y' z',forGo 2 b_Q10_l2 (l.map .int) [.sh n,.dp (.dct ks (ks.map λ d=>L (phi d))),x,y,z]=.nx [.sh n,.dp (.dct (ks++l) ((ks++l).map λ d=>L (phi d))),x',y',z']
 | [],ks,x,y,z,_,_,_=>⟨x,y,z,by rw[DT];rfl⟩
 | d::l,ks,x,y,z,h,hp,hl=>by
  rw[CQ] at hl;obtain⟨hd,hk,ha⟩:=h d (CS ..);obtain⟨l0,e0,h0⟩:=tL hd.1;have hin:∀ a∈l0,a∈ks/\1<=a/\a<=60:=λ a ha'=>by
   have:=h0 a ha';refine⟨?_,this.1,⋯⟩
   rcases ha a this.1 this.2.1 this.2.2 with q|q
   ·exact q
   ·rcases List.mem_cons.mp q with q|q
    ·omega
    ·have:=(List.pairwise_cons.mp hp).1 a q;omega
  have hpp:=o7 hd.1 hd.2;rw[e0] at hpp;have hdl:(divs d).length<=60:=by
   have:(divs d).length<=(fY d).length:=DQ _ _;unfold fY at this;simp at this;omega
  have hxl:(xn1 d).length<=200:=by unfold xn1;simp;omega
  obtain⟨z1,e1⟩:=mW (n:=n) hd l0 z hin (by rw[e0] at hdl;simp at hdl;omega) (by rw[hpp];exact hxl);rw[hpp] at e1;obtain⟨x',y',z',ih⟩:=kr (n:=n) l (ks++[d]) (.sh (.int d)) .no z1 (λ b hb=>by
   obtain⟨q1,q2,q3⟩:=h b (CV _ hb);refine⟨q1,λ hb2=>?_,λ a a1 a2 a3=>?_⟩
   ·rcases List.mem_append.mp hb2 with hb2|hb2
    ·exact q2 hb2
    ·simp at hb2;have:=(List.pairwise_cons.mp hp).1 b hb;omega
   ·rcases q3 a a1 a2 a3 with q|q
    ·exact .inl (DC _ q)
    ·rcases List.mem_cons.mp q with q|q
     ·exact .inl (by rw[q];simp)
     ·exact .inr q) (List.pairwise_cons.mp hp).2 (by simp;omega)
  refine⟨x',y',z',?_⟩;have hdo:=b0 hd.1 hd.2;have hcut:Dv.cutL ((divs d).map D.int) none (some (-1))=l0.map D.int:=by
   rw[e0];unfold Dv.cutL Dv.cutI;simp;have:(-1+((l0.length:Int)+1)).toNat=l0.length:=⋯
   rw[this];exact List.take_left' (by simp)
  have hre:=gW (x:=0) (n:=d-1) ⋯ ⋯;have hadd1:opD .add (.lst [.int (-1)]) (L (List.replicate (d-1).toNat 0))=.ok (L (-1::List.replicate (d-1).toNat 0)) true:=by
   have hle:([D.int (-1)].length+((List.replicate (d-1).toNat (0:Int)).map D.int).length<=Dv.mx):=by simp[Dv.mx];omega
   simp only[Dv.opD_ai,Dv.opD_al,Dv.opD_su,Dv.opD_mi,Dv.opD_ml,Dv.opD_mo,Dv.opD_fd,Dv.opD_po,Dv.opD_ba,Dv.opD_sh,L,if_pos hle,bq];rfl
  have hadd2:opD .add (L (-1::List.replicate (d-1).toNat 0)) (.lst [.int 1])=.ok (L (xn1 d)) true:=by
   have hle:(((-1::List.replicate (d-1).toNat (0:Int)).map D.int).length+[D.int 1].length<=Dv.mx):=by simp[Dv.mx];omega
   simp only[Dv.opD_ai,Dv.opD_al,Dv.opD_su,Dv.opD_mi,Dv.opD_ml,Dv.opD_mo,Dv.opD_fd,Dv.opD_po,Dv.opD_ba,Dv.opD_sh,L,if_pos hle,bq,xn1];simp[Dv.flatL,Dv.scal]
  have hpk:Dv.putKs ks d=ks++[d]:=by unfold Dv.putKs;rw[if_neg hk]
  have hpl:Dv.putL ks (ks.map λ d=>L (phi d)) d (L (phi d))=(ks++[d]).map λ d=>L (phi d):=by unfold Dv.putL;rw[if_neg hk];simp
  have h100:ks.length<Dv.mx:=by unfold Dv.mx;omega
  have h13:decide ((1:Nat)≠3)=true:=by decide
  rw[CN,ba (st':=[.sh n,.dp (.dct (ks++[d]) ((ks++[d]).map λ d=>L (phi d))),.sh (.int d),.no,z1]),ih]
  ·simp
  ·simp only[b_Q10_l2,sCons,sSet,bB,Dv.give,Dv.open_,aK,aw,aS,sFor,iSeq,eNeg,eOp,eVar,eInt,eLst,lNil,lCons,eCall,eSlice,ePart,Dv.all,R.bind,RL.bind,Dv.R.bindL,Dv.RL.bindL,Out.bind,ar,aQ,o8,kj,ag,CN,CP,CM,CO,CT,CU,C7,C8,C5,Dn,C2,if_true,decide_true,cu,bq,CY,hre,hadd1,hadd2,hdo,Dv.sliceD,hcut,e1,sDMove,md,decide_eq_true h100,h13,hpk,hpl]
theorem uG {n:Int}(h1:1<=n)(h2:n<=60):F_Q10 [.int n]=.ok (.dct (divs n) ((divs n).map λ d=>L (phi d))) true:=by
 have hdl:(divs n).length<=60:=by
  have:(divs n).length<=(fY n).length:=DQ _ _;unfold fY at this;simp at this;omega
 obtain⟨x,y,z,e⟩:=kr (n:=.int n) (divs n) [] .no .no .no (λ d hd=>by
  have:=mem_divs.mp hd;refine⟨⟨this.1,⋯⟩,by simp,λ a a1 a2 a3=>.inr (mem_divs.mpr ⟨a1,⋯,?_⟩)⟩;exact Ex (Int.dvd_trans (Ed a3) (Ed this.2.2))) (iM n) (by simp;omega)
 simp only[C1,CP] at e;simp only[F_Q10,b_Q10,b_Q10_t2,b_Q10_t1,Dv.fn,sCons,Dv.give,Dv.open_,aK,aE,aw,sRetO,sFor,iSeq,eVar,lNil,lCons,eCall,R.bind,RL.bind,Dv.R.bindL,Dv.RL.bindL,Out.bind,kj,sSetD,eDict0,ag,CN,CP,CQ,C4,List.replicate,CZ,C1,CM,CO,CT,CU,C7,C8,C5,C2,Nat.reduceAdd,Nat.reduceSub,b0 h1 h2,e]
theorem qK (g:Nat->Int):∀ (a b:List Int) (p:Nat),cf (fJ a b) g p=cf a g p+cf b g p
 | [],b,p=>by unfold fJ;rw[Pl.cf_nil];omega
 | x::a,[],p=>by unfold fJ;rw[Pl.cf_nil];omega
 | x::a,y::b,0=>by unfold fJ;rw[Pl.cf_z,Pl.cf_z,Pl.cf_z,FN]
 | x::a,y::b,p+1=>by unfold fJ;rw[Pl.cf_s,Pl.cf_s,Pl.cf_s,qK g a b p,FN];omega
theorem mi (g:Nat->Int):∀ (n:Nat) (l:List Int) (p:Nat),cf (List.replicate n 0++l) g p=if n<=p then cf l g (p-n) else 0
 | 0,l,p=>by simp
 | n+1,l,0=>by rw[Du,CZ,Pl.cf_z,if_neg ⋯];simp
 | n+1,l,p+1=>by
  rw[Du,CZ,Pl.cf_s,mi g n l p];by_cases h:n<=p
  ·rw[if_pos h,if_pos ⋯]
   have:p+1-(n+1)=p-n:=⋯
   rw[this];simp
  ·rw[if_neg h,if_neg ⋯];simp
def Dvd (o:List Int)(f:Nat->Int):Prop:=∃ q:List Int,∀ i,f i=cf q (co o) i
theorem nj {a o q r:List Int}(ho:Pl.Mo o)(hr:r.length<=o.length-1)(h:∀ p,co a p=cf q (co o) p+co r p):Dvd o (co a) ↔ ∀ i,co r i=0:=by
 constructor
 ·rintro ⟨q',h'⟩
  exact(Pl.div_one (o:=o) (q:=q) (q':=q') (r:=co r) (r':=λ _=>0) ho (λ i hi=>Pl.co_over ⋯) (λ _ _=>rfl) (λ p=>by rw[<- h p,h' p];simp)).2
 ·intro hz
  exact⟨q,λ i=>by rw[h i,hz i];simp⟩
open Classical in
def hasB (xs:List Int)(d:Int):Bool:=decide (Dvd (phi d) (co (bsum xs)))
open Classical in
theorem nH {xs:List Int}{d:Int}:hasB xs d=true ↔ Dvd (phi d) (co (bsum xs)):=by unfold hasB;exact decide_eq_true_iff
theorem wF {m:Int}{xs:List Int}(h:Up m xs)(hm:m<=200):(bsum xs).length<=200:=by
 unfold bsum
 split
 ·simp
 ·rename_i ne
  have:=h.rg (xs.getLast ne) (EF ne);rw[CY,upto_len];omega
theorem tY {m d:Int}{xs:List Int}(h:Up m xs)(hm:m<=200)(d1:1<=d)(d2:d<=60):F_Q0W [L xs,L (phi d)]=.ok (.bl (hasB xs d)) true:=by
 obtain⟨po,pf,pl,_⟩:=gO d1 d2;have hbl:=wF h hm;obtain⟨q,r,e,l1,tr,l2,hr⟩:=eW (a:=bsum xs) po pf ⋯ ⋯;have bs:=nE h ⋯;have a1:∀ x y:D,Dv.at? [x,y] 1=some y:=λ _ _=>rfl
 have hbool:decide (r=[])=hasB xs d:=by
  have:=nj (a:=bsum xs) po l2 hr;rw[<- nH] at this;rw[DS,decide_eq_true_eq,this]
  constructor
  ·intro z i;rw[z,Pl.co_nil]
  ·intro z;exact Pl.tr_ext tr (.inl rfl) λ i=>by rw[z i,Pl.co_nil]
 have q0:=f6 r;rw[hbool] at q0;simp only[F_Q0W,b_Q0W,Dv.fn,sRet,eIx,Dv.ixD,eCm,eVar,eInt,eLst,lNil,lCons,eCall,Dv.all,R.bind,RL.bind,Dv.R.bindL,Dv.RL.bindL,Out.bind,ar,ak,CN,CP,CQ,C4,List.replicate,CZ,C1,CM,CO,C2,Ei,Di,Nat.reduceAdd,Nat.reduceSub,bs,e,a1,q0]
theorem rX {n:Int}(h:1<=n):∃ l,divs n=1::l/\∀ d∈l,1<d/\d<=n/\n%d=0:=by
 have h1:(1:Int)∈divs n:=mem_divs.mpr ⟨⋯,h,Int.emod_one n⟩;have up:=iM n;cases hd:divs n with
 | nil=>rw[hd] at h1;simp at h1
 | cons x l=>
  rw[hd] at h1 up;have hx:=mem_divs.mp (show x∈divs n by rw[hd];exact CS ..);have e:x=1:=by
   rcases List.mem_cons.mp h1 with h1|h1
   ·exact h1.symm
   ·have:=(List.pairwise_cons.mp up).1 1 h1;omega
  subst e;refine⟨l,rfl,λ d hdl=>?_⟩;have h2:=(List.pairwise_cons.mp up).1 d hdl;have h3:=mem_divs.mp (show d∈divs n by rw[hd];exact CV _ hdl);exact⟨h2,h3.2.1,h3.2.2⟩
def bP (n:Int):List Int:=(divs n).drop 1
theorem gM {n d:Int}(h:1<=n):d∈bP n ↔ 1<d/\d<=n/\n%d=0:=by
 obtain⟨l,e,hl⟩:=rX h;unfold bP;rw[e]
 constructor
 ·exact λ hd=>hl d hd
 ·rintro ⟨h1,h2,h3⟩
  have:=mem_divs.mpr ⟨show 1<=d by omega,h2,h3⟩;rw[e] at this
  rcases List.mem_cons.mp this with h4|h4
  ·omega
  ·exact h4
theorem sk (ds:List D):Dv.cutL ds (some 1) none=ds.drop 1:=by
 unfold Dv.cutL Dv.cutI;have h1:¬ ((1:Int)<0):=⋯
 have t1:(1:Int).toNat=1:=rfl;simp only[h1,if_false,t1];by_cases h:1<=ds.length
 ·rw[FS h,D2 (by simp)]
 ·have:ds=[]:=DA ⋯
  subst this;rfl
theorem o3 (n:Int):Dv.cutL ((divs n).map D.int) (some 1) none=(bP n).map D.int:=by rw[sk,<- FY];rfl
theorem fE {n:Int}(h2:n<=60):(bP n).length<=60:=by
 have:(divs n).length<=(fY n).length:=DQ _ _;unfold fY at this;simp at this;unfold bP;simp;omega
theorem qx {n:Int}{xs:List Int}(h:Beat n xs):Up n xs:=⟨h.up,h.rg⟩
theorem AS {n:Int}{xs:List Int}(n2:n<=60)(h:Beat n xs):F_Q0Z [.int n,L xs]=.ok (L ((bP n).filter λ d=>hasB xs d)) true:=by
 have n1:=h.pos;have hc:c_Q0Z_1 [some (.int n),some (L xs),some (.dct (divs n) ((divs n).map λ d=>L (phi d)))]=.ok (L ((bP n).filter λ d=>hasB xs d)) true:=by
  have:=cG (elt:=eVar 0) (cond:=eCall F_Q0W (lCons (eVar 1) (lCons (eDix (eVar 2) (eVar 0)) lNil))) (is:=[1,2]) (it:=iSeq (eSlice (eCall F_Q05 (lCons (eVar 0) lNil)) (some (eInt 1)) none)) (ρ:=[some (.int n),some (L xs),some (.dct (divs n) ((divs n).map λ d=>L (phi d)))]) (c:=λ d=>hasB xs d) (g:=λ d=>d) (xs:=bP n) (f:=true)
   (by simp only[iSeq,eVar,eInt,lNil,lCons,eCall,eSlice,ePart,R.bind,RL.bind,Dv.R.bindL,Dv.RL.bindL,Out.bind,ag,CM,Dn,C2,bq,b0 n1 n2,Dv.sliceD,o3]) (by have:=fE n2;omega) (λ d hd=>by
    have hd':=(gM n1).mp hd;have hk:d∈divs n:=mem_divs.mpr ⟨⋯,hd'.2.1,hd'.2.2⟩;simp only[eVar,lNil,lCons,eCall,Dv.pick,R.bind,RL.bind,Dv.R.bindL,Dv.RL.bindL,Out.bind,ag,ak,CN,CP,CM,CO,C5,C2,Ei,EW,eDix,jz hk,tY (qx h) (show n<=200 by omega) (show 1<=d by omega) (show d<=60 by omega)]) (λ d hd _=>by simp only[eVar,Dv.pick,ag,CN,CP,CM,CO,C5])
  simp only[ES] at this;exact this
 simp only[F_Q0Z,b_Q0Z,b_Q0Z_t2,b_Q0Z_t1,Dv.fn,sCons,sRet,sExpr,eVar,lNil,lCons,eCall,Dv.all,R.bind,RL.bind,Dv.R.bindL,Dv.RL.bindL,Out.bind,bf,ar,o8,sSetD,ag,ak,CN,CP,CQ,C4,List.replicate,CZ,C1,CM,CO,CT,CU,C2,Di,Nat.reduceAdd,Nat.reduceSub,cE n2 h,uG n1 n2,hc]
theorem i8 {elt:EE}{free:Dv.Env}{g:Int->D}:∀ {xs:List Int},(∀ x∈xs,elt (some (.int x)::free)=.ok (g x) true)->bR elt (eBl true) free (xs.map .int)=.ok (xs.map g) true
 | [],_=>rfl
 | x::r,h=>by
  rw[CN];unfold bR;simp only[eBl,h x (CS ..),i8 λ y hy=>h y (CV _ hy),CN,Bool.and_self]
def row (a b:List Int)(d:Int):D:=.tup [.int d,.bl (hasB a d),.bl (hasB b d)]
theorem ym {n d:Int}{xs:List Int}(hd:d∈bP n):decide (d∈(bP n).filter λ d=>hasB xs d)=hasB xs d:=by
 rw[DS,decide_eq_true_eq,D7];exact⟨λ h=>h.2,λ h=>⟨hd,h⟩⟩
end Cw
namespace Bt
open Dv (ins isort)
def T (A:List Int)(g:Int->Int):Int->Int:=λ s=>(A.map λ a=>g (s-a)).sum
theorem uX (a:Int)(A:List Int)(g:Int->Int)(s:Int):T (a::A) g s=g (s-a)+T A g s:=by unfold T;simp
theorem yH (g:Int->Int)(s:Int):T [] g s=0:=by simp[T]
def cnt (n:Int)(B:List Int)(s:Int):Int:=(B.map λ b=>if (s-b)%n=0 then (1:Int) else 0).sum
end Bt
namespace Cw
open Dv (Out R RL cmD eAnd eB1 eB2 eBl eCall eCm eComp eIndex eInt eIx eLst eNot eOp eOr ePart eSlice eStr eTup eVar forGo iRange iSeq keepD lCons lNil opD rngOk sApp sAug sBrk sCons sExpr sFor sIf sNil sPar sPut sRet sRetO sSet sSetG sSought sUnpack sUnpackL whileGo)
open Bt (T uX yH hits Fill aJ Beat)
open Pl (co cf)
def sl {α:Type}(l:List α)(f:α->Int):Int:=(l.map f).sum
theorem ao {α:Type}(f:α->Int):sl [] f=0:=rfl
theorem ae {α:Type}(x:α)(l:List α)(f:α->Int):sl (x::l) f=f x+sl l f:=by unfold sl;simp
open Dv (D R RL EE EL EI RI Sl Out SS St)
open Bt
open Pl (co cf sh)
def mono (i:Nat):Nat->Int:=λ j=>if j=i then 1 else 0
theorem cw {o:List Int}{f g:Nat->Int}(h:Dvd o f)(e:∀ i,f i=g i):Dvd o g:=by
 obtain⟨q,hq⟩:=h;exact⟨q,λ i=>by rw[<- e,hq]⟩
theorem dvd_zero (o:List Int):Dvd o (λ _=>0):=⟨[],λ i=>rfl⟩
theorem dvd_add {o:List Int}{f g:Nat->Int}(h1:Dvd o f)(h2:Dvd o g):Dvd o (λ i=>f i+g i):=by
 obtain⟨a,ha⟩:=h1;obtain⟨b,hb⟩:=h2;exact⟨fJ a b,λ i=>by rw[qK,<- ha,<- hb]⟩
theorem zO {o:List Int}{f:Nat->Int}(h:Dvd o f):Dvd o (sh f):=by
 obtain⟨q,hq⟩:=h;refine⟨0::q,λ i=>?_⟩;cases i with
 | zero=>rw[Pl.cf_z];simp[sh]
 | succ i=>rw[Pl.cf_s,<- hq];simp[sh]
theorem mr {o:List Int}{q:Nat}(h:Dvd o (λ j=>mono q j-mono 0 j)):∀ i:Nat,Dvd o (λ j=>mono (i+q) j-mono i j)
 | 0=>cw h λ j=>by rw[EN]
 | i+1=>cw (zO (mr h i)) λ j=>by
  cases j with
  | zero=>simp[sh,mono];omega
  | succ j=>
   have e:i+1+q=i+q+1:=⋯
   simp only[sh,mono,e,Nat.add_right_cancel_iff]
theorem wX {o:List Int}{q:Nat}(hq:0<q)(h:Dvd o (λ j=>mono q j-mono 0 j)):∀ i:Nat,Dvd o (λ j=>mono i j-mono (i%q) j):=by
 intro i
 induction i using Nat.strongRecOn with
 | ind i ih=>
  by_cases hi:i<q
  ·rw[Er hi];exact cw (dvd_zero o) λ j=>⋯
  ·have h1:=ih (i-q) ⋯
   have h2:=mr h (i-q);have e1:i-q+q=i:=⋯
   have e2:(i-q)%q=i%q:=by rw[<- FC ⋯]
   rw[e1] at h2;rw[e2] at h1;exact cw (dvd_add h2 h1) λ j=>⋯
def fs:List Int->Nat->Int
 | [],_=>0
 | x::r,j=>mono x.toNat j+fs r j
theorem nG {o:List Int}{q:Nat}(hq:0<q)(h:Dvd o (λ j=>mono q j-mono 0 j)):∀ xs:List Int,(∀ x∈xs,0<=x)->Dvd o (λ j=>fs xs j-fs (xs.map (·%(q:Int))) j)
 | [],_=>cw (dvd_zero o) λ j=>by simp[fs]
 | x::r,hx=>by
  have h1:=wX hq h x.toNat;have h2:=nG hq h r λ y hy=>hx y (CV _ hy)
  have h0:=hx x (CS ..);have e:(x%(q:Int)).toNat=x.toNat%q:=by
   have:=Int.toNat_emod h0 (by omega:(0:Int)<=(q:Int));rw[this,DG]
  exact cw (dvd_add h1 h2) λ j=>by
   simp only[CN,fs,e];omega
def cnt (xs:List Int)(q r:Int):Int:=((xs.filter λ x=>decide (x%q=r)).length:Nat)
theorem cnt_cons (x:Int)(xs:List Int)(q r:Int):cnt (x::xs) q r=(if x%q=r then 1 else 0)+cnt xs q r:=by
 unfold cnt;rw[D3];by_cases h:x%q=r
 ·rw[if_pos (by simp[h]),if_pos h,CQ];omega
 ·rw[if_neg (by simp[h]),if_neg h];omega
theorem uI {q:Int}(hq:0<q):∀ (xs:List Int) (j:Nat),fs (xs.map (·%q)) j=cnt xs q j
 | [],j=>rfl
 | x::r,j=>by
  have h0:=FR x (by omega:q≠0);rw[CN,cnt_cons,<- uI hq r j];show mono (x%q).toNat j+_=_
  unfold mono;by_cases h:x%q=j
  ·rw[if_pos ⋯,if_pos h]
  ·rw[if_neg ⋯,if_neg h]
theorem uz {xs:List Int}{q r:Int}(hq:0<q)(h:q<=r):cnt xs q r=0:=by
 unfold cnt;have:xs.filter (λ x=>decide (x%q=r))=[]:=by
  rw[List.filter_eq_nil_iff];intro x _;have:=Fz x hq;simp;omega
 rw[this];rfl
def comb (m:Nat):Nat->List Int
 | 0=>[]
 | 1=>[1]
 | p+2=>1::(List.replicate (m-1) 0++comb m (p+1))
theorem m9 {m:Nat}(hm:0<m):∀ p,(comb m (p+1)).length=p*m+1
 | 0=>by simp[comb]
 | p+1=>by
  unfold comb;rw[CQ,C9,DD,m9 hm p,DK];omega
theorem p7 {m:Nat}(hm:0<m){gl:List Int}(hl:gl.length=m):∀ (p j:Nat),cf (comb m (p+1)) (co gl) j=if j<(p+1)*m then co gl (j%m) else 0
 | 0,j=>by
  show 1*co gl j+sh (cf [] (co gl)) j=_
  have:sh (cf [] (co gl)) j=0:=by cases j <;>rfl
  rw[this,EN,Nat.one_mul];by_cases h:j<m
  ·rw[if_pos h,Er h];omega
  ·rw[if_neg h,Pl.co_over ⋯];rfl
 | p+1,j=>by
  have hc:comb m (p+1+1)=1::(List.replicate (m-1) 0++comb m (p+1)):=rfl;rw[hc];have hs:sh (cf (List.replicate (m-1) 0++comb m (p+1)) (co gl)) j=if m<=j then cf (comb m (p+1)) (co gl) (j-m) else 0:=by
   cases j with
   | zero=>rw[if_neg ⋯];rfl
   | succ j=>
    show cf _ _ j=_
    rw[mi];by_cases h:m-1<=j
    ·rw[if_pos h,if_pos ⋯]
     have:j-(m-1)=j+1-m:=⋯
     rw[this]
    ·rw[if_neg h,if_neg ⋯]
  show 1*co gl j+sh (cf (List.replicate (m-1) 0++comb m (p+1)) (co gl)) j=_
  rw[hs];by_cases h:m<=j
  ·rw[if_pos h,p7 hm hl p (j-m),Pl.co_over ⋯,<- FC h]
   have e:(p+1+1)*m=(p+1)*m+m:=by rw[DK]
   by_cases h2:j-m<(p+1)*m
   ·rw[if_pos h2,if_pos ⋯];omega
   ·rw[if_neg h2,if_neg ⋯];omega
  ·rw[if_neg h,Er ⋯,if_pos (by rw[DK];omega)];omega
theorem iL:∀ {xs:List Int} {j:Nat},(∀ x∈xs,0<=x)->(j:Int)∉xs->fs xs j=0
 | [],j,_,_=>rfl
 | x::r,j,h0,hj=>by
  have:=h0 x (CS ..);have hx:¬ j=x.toNat:=λ e=>hj (List.mem_cons.mpr (.inl ⋯))
  show mono x.toNat j+fs r j=0
  rw[iL (λ y hy=>h0 y (CV _ hy)) λ hm=>hj (CV _ hm)];unfold mono;rw[if_neg hx];rfl
theorem uq:∀ {xs:List Int} {j:Nat},(∀ x∈xs,0<=x)->xs.Pairwise (·<·)->(j:Int)∈xs->fs xs j=1
 | [],j,_,_,hm=>nomatch hm
 | x::r,j,h0,hu,hm=>by
  obtain⟨hu1,hu2⟩:=List.pairwise_cons.mp hu;have hr:∀ y∈r,0<=y:=λ y hy=>h0 y (CV _ hy)
  have h1:=h0 x (CS ..);show mono x.toNat j+fs r j=1
  unfold mono
  rcases List.mem_cons.mp hm with e|hmr
  ·rw[if_pos ⋯,iL hr λ hm=>by have:=hu1 _ hm;omega];rfl
  ·have:=hu1 _ hmr
   rw[if_neg ⋯,uq hr hu2 hmr];rfl
theorem wN {m:Int}{xs:List Int}(h:Up m xs)(j:Nat):co (bsum xs) j=fs xs j:=by
 have h0:∀ x∈xs,0<=x:=λ x hx=>(h.rg x hx).1
 by_cases ne:xs=[]
 ·subst ne;rw[mC,Pl.co_nil];rfl
 have hb:bsum xs=(upto (xs.getLast ne+1).toNat).map λ i=>if i∈xs then 1 else 0:=by unfold bsum;rw[dif_neg ne]
 have hl:(bsum xs).length=(xs.getLast ne+1).toNat:=by rw[hb];simp[upto]
 by_cases hj:j<(bsum xs).length
 ·rw[Pl.co_get hj]
  have e:(bsum xs)[j]=if (j:Int)∈xs then 1 else 0:=by
   simp only[hb,upto,List.getElem_map,List.getElem_range]
  rw[e];by_cases hm:(j:Int)∈xs
  ·rw[if_pos hm,uq h0 h.up hm]
  ·rw[if_neg hm,iL h0 hm]
 ·rw[Pl.co_over ⋯,iL h0 λ hm=>?_]
  have:=h.last ne _ hm;omega
def Ev (xs:List Int)(p m:Nat):Prop:=∀ r k:Nat,r<m->k<p->cnt xs ((p*m:Nat):Int) ((r+k*m:Nat):Int)=cnt xs ((p*m:Nat):Int) (r:Int)
theorem yy {m p:Nat}(hm:0<m){M:Int}{xs:List Int}(h:Up M xs)(ho:Pl.Mo (comb m (p+1)))(hq:Dvd (comb m (p+1)) (co (xn1 (((p+1)*m:Nat):Int)))):Dvd (comb m (p+1)) (co (bsum xs)) ↔ Ev xs (p+1) m:=by
 generalize hqq:(p+1)*m=q at *;have q0:0<q:=by rw[<- hqq,DK];omega
 have qe:q=p*m+m:=by rw[<- hqq,DK]
 have hx:∀ j,co (xn1 (q:Int)) j=mono q j-mono 0 j:=by
  intro j;have e:xn1 (q:Int)=-1::(List.replicate (q-1) 0++[1]):=by
   unfold xn1;have:((q:Int)-1).toNat=q-1:=⋯
   rw[this];rfl
  rw[e];cases j with
  | zero=>rw[Pl.co_zero];simp[mono];omega
  | succ j=>
   rw[Pl.co_succ,kU,oN,DD];unfold mono;by_cases hj:j=q-1
   ·rw[if_pos hj,if_pos ⋯,if_neg ⋯];rfl
   ·rw[if_neg hj,if_neg ⋯,if_neg ⋯];rfl
 have hf:=nG q0 (cw hq hx) xs λ x hx=>(h.rg x hx).1
 let G:Nat->Int:=λ j=>cnt xs (q:Int) j
 let R:List Int:=Pl.upto (p*m) λ s=>G s-G (p*m+s%m)
 let gl:List Int:=Pl.upto m λ r=>G (p*m+r)
 have hgl:gl.length=m:=Pl.upto_len _ _;have hRl:R.length=p*m:=Pl.upto_len _ _;have h2:Dvd (comb m (p+1)) (λ j=>G j-co R j):=by
  refine⟨gl,λ j=>?_⟩;show G j-co R j=_
  rw[Pl.cf_comm,p7 hm hgl,hqq];by_cases hj:j<q
  ·rw[if_pos hj]
   have hjm:j%m<m:=FT _ hm;have e1:co gl (j%m)=G (p*m+j%m):=Pl.co_upto hjm;rw[e1];by_cases hj2:j<p*m
   ·have e2:co R j=G j-G (p*m+j%m):=Pl.co_upto hj2
    rw[e2];omega
   ·rw[Pl.co_over ⋯]
    have e3:p*m+j%m=j:=by
     have:j=(j-p*m)+p*m:=⋯
     have h4:j%m=(j-p*m)%m:=by conv=>lhs;rw[this,E0]
     rw[h4,Er ⋯];omega
    rw[e3];omega
  ·rw[if_neg hj,Pl.co_over ⋯]
   show cnt xs (q:Int) j-0=0
   rw[uz ⋯ ⋯];rfl
 obtain⟨Q,hQ⟩:=dvd_add hf h2;have key:∀ j,co (bsum xs) j=cf Q (co (comb m (p+1))) j+co R j:=λ j=>by
  rw[<- hQ j,wN h];have:=uI (q:=(q:Int)) ⋯ xs j;show _=(fs xs j-fs (xs.map (·%(q:Int))) j)+(cnt xs (q:Int) j-co R j)+co R j
  omega
 rw[nj ho (by rw[hRl,m9 hm];omega) key];unfold Ev;rw[hqq]
 constructor
 ·intro hz
  have hall:∀ r k:Nat,r<m->k<p+1->cnt xs (q:Int) ((r+k*m:Nat):Int)=G (p*m+r):=by
   intro r k hr hk;by_cases hkp:k=p
   ·subst hkp
    show G (r+k*m)=_
    rw[FF]
   ·have hlt:r+k*m<p*m:=by
     have:(k+1)*m<=p*m:=EG m ⋯;rw[DK] at this;omega
    have e2:co R (r+k*m)=G (r+k*m)-G (p*m+(r+k*m)%m):=Pl.co_upto hlt;rw[hz,E0,Er hr] at e2;show G (r+k*m)=_
    omega
  intro r k hr hk;rw[hall r k hr hk];have:=hall r 0 hr ⋯;rw[Nat.zero_mul,F0] at this;rw[this]
 ·intro he i
  by_cases hi:i<p*m
  ·have e2:co R i=G i-G (p*m+i%m):=Pl.co_upto hi
   have hmm:i%m<m:=FT _ hm;have hdm:i/m<p+1:=by
    have:i/m<p:=(Nat.div_lt_iff_lt_mul hm).mpr hi;omega
   have a1:=he (i%m) (i/m) hmm hdm;have a2:=he (i%m) p hmm ⋯;have e3:i%m+i/m*m=i:=by rw[EM];exact Nat.mod_add_div i m
   have e4:i%m+p*m=p*m+i%m:=⋯
   rw[e3] at a1;rw[e4] at a2;rw[e2];show cnt xs (q:Int) i-cnt xs (q:Int) ((p*m+i%m:Nat):Int)=0
   omega
  ·exact Pl.co_over ⋯
def ie (p:Nat):Bool:=decide (2<=p)&&(List.range p).all λ j=>decide (j<2) || decide (p%j≠0)
theorem uo:((List.range 61).all λ p=>(List.range 6).all λ a=>!ie p || !decide (p ^ (a+1)<=60) || (comb (p ^ a) p == phi ((p ^ (a+1):Nat):Int)&&fmul (xn1 ((p ^ a:Nat):Int)) (phi ((p ^ (a+1):Nat):Int)) == xn1 ((p ^ (a+1):Nat):Int)))=true:=by decide +kernel
theorem Af {p a:Nat}(hp:ie p=true)(hq:p ^ (a+1)<=60){M:Int}{xs:List Int}(h:Up M xs):hasB xs ((p ^ (a+1):Nat):Int)=true ↔ Ev xs p (p ^ a):=by
 have hp2:2<=p:=by unfold ie at hp;simp at hp;exact hp.1
 have p60:p<=60:=by
  have h1:p ^ 1<=p ^ (a+1):=EH ⋯ ⋯;rw[Nat.pow_one] at h1;omega
 have a6:a<6:=by
  by_cases ha:a<6
  ·exact ha
  ·exfalso
   have h1:2 ^ (a+1)<=p ^ (a+1):=Nat.pow_le_pow_left hp2 _;have h2:2 ^ 7<=2 ^ (a+1):=EH ⋯ ⋯;omega
 have ht:=List.all_eq_true.mp (List.all_eq_true.mp uo p (List.mem_range.mpr ⋯)) a (List.mem_range.mpr a6);rw[hp,decide_eq_true hq] at ht;simp only[Dx,DO,C3,beq_iff_eq] at ht;obtain⟨t1,t2⟩:=ht;have q1:1<=p ^ (a+1):=F4 ⋯;have m1:0<p ^ a:=F4 ⋯;have ph:=gO (n:=((p ^ (a+1):Nat):Int)) ⋯ ⋯;rw[nH];obtain⟨p',rfl⟩:∃ p',p=p'+1:=⟨p-1,⋯⟩;have hpm:(p'+1) ^ (a+1)=(p'+1)*(p'+1) ^ a:=by rw[FH,EM]
 rw[<- t1];rw[<- t1] at ph t2;refine yy m1 h ph.1 ?_
 rw[<- hpm,<- t2];exact⟨_,λ i=>lR _ _ i⟩
def us (d:Nat):List Nat:=(List.range d).filter λ k=>Nat.gcd k d == 1
theorem Bf (xs:List Int)(lo hi:Option Int):Dv.cutL (xs.map D.int) lo hi=(Dv.cutL xs lo hi).map D.int:=by
 unfold Dv.cutL;rw[CY,Fw,FY]
theorem xR (xs:List Int)(f:Bool)(lo hi:Option Int):Dv.sliceD (L xs) f lo hi=.ok (L (Dv.cutL xs lo hi)) true:=by
 unfold Dv.sliceD;simp only[Bf,bq,Dn]
theorem om:opD .pow (.int 10) (.int 30)=.ok (.int 1000000000000000000000000000000) true:=by
 simp[Dv.opD_ai,Dv.opD_al,Dv.opD_su,Dv.opD_mi,Dv.opD_ml,Dv.opD_mo,Dv.opD_fd,Dv.opD_po,Dv.opD_ba,Dv.opD_sh]
theorem pJ {s:List Int}{m k:Int}{lf fd:List Int}(hk:0<=k)(hk2:k<=1000)(hl:0<lf.length)(hf:fd.length<=1000)(z5 z6 z7:Sl):
  ∃ lf' d y5 y6 y7,b_Q0I_l1 [.sh (L s),.sh (.int m),.ow (L lf),.ow (L fd),.sh (.int k),z5,z6,z7]=.nx [.sh (L s),.sh (.int m),.ow (L lf'),.ow (L (fd++[d])),.sh (.int k),y5,y6,y7]/\lf'.length=lf.length/\0<=d/\d<1000000000000000000000000000000:=by
 have hl':(0:Int)<(lf.length:Int):=⋯
 have hat:=bu (n:=(lf.length:Int)) (a:=k) hl';generalize hx:lf.getD (k%(lf.length:Int)).toNat 0=x;have hmx:fd.length<Dv.mx:=by unfold Dv.mx;omega
 have h0:=yr hat.1 hat.2;rw[hx] at h0;by_cases hb:x ≥ 1000000000000000000000000000000\/x<0-1000000000000000000000000000000
 ·have hm:=bu (n:=1000000000000000000000000000000) (a:=x) ⋯
  refine⟨lf.set (k%(lf.length:Int)).toNat (x/1000000000000000000000000000000),x%1000000000000000000000000000000,.sh (.int (k%(lf.length:Int))),z6,z7,?_,by rw[Dk],hm.1,hm.2⟩;have e2:(lf.map D.int).set (k%(lf.length:Int)).toNat (.int (x/1000000000000000000000000000000))=(lf.set (k%(lf.length:Int)).toNat (x/1000000000000000000000000000000)).map D.int:=by rw[E9]
  by_cases h1:1000000000000000000000000000000<=x
  ·simp only[b_Q0I_l1,sCons,sSet,aI,sIf,sApp,sPut,eB1,Dv.lenD,eIx,Dv.ixD,eOr,eCm,eOp,eVar,eInt,Dv.all,R.bind,RL.bind,Out.bind,ar,aQ,ag,ak,CN,CP,CM,CO,CT,CU,Dn,C2,if_true,qE,CY,aB hl',h0,om,decide_eq_true h1,aB (j:=1000000000000000000000000000000) (by decide),decide_eq_true hmx,cC (j:=1000000000000000000000000000000) (by decide) (by decide),decide_eq_true hat.1,decide_eq_true hat.2,e2,qy]
  ·have h2:x<0-1000000000000000000000000000000:=⋯
   simp only[b_Q0I_l1,sCons,sSet,aI,sIf,sApp,sPut,eB1,Dv.lenD,eIx,Dv.ixD,eOr,eCm,eOp,eVar,eInt,Dv.all,R.bind,RL.bind,Out.bind,ar,aQ,ag,ak,CN,CP,CM,CO,CT,CU,Dn,C2,if_true,cu,fL,qE,CY,aB hl',h0,om,decide_eq_false h1,decide_eq_true h2,aB (j:=1000000000000000000000000000000) (by decide),decide_eq_true hmx,cC (j:=1000000000000000000000000000000) (by decide) (by decide),decide_eq_true hat.1,decide_eq_true hat.2,e2,qy]
 ·have h1:¬ 1000000000000000000000000000000<=x:=⋯
  have h2:¬ x<0-1000000000000000000000000000000:=⋯
  have m1:=bu (n:=2147483647) (a:=x*48271+k*k*16807+7919*k+5) ⋯;generalize ho:(x*48271+k*k*16807+7919*k+5)%2147483647=one at m1;have m2:=bu (n:=2147483629) (a:=one*one+k*39373) ⋯;generalize ht:(one*one+k*39373)%2147483629=other at m2;have m3:=bu (n:=2147483587) (a:=one*other) ⋯;refine⟨lf,one*other%2147483587*2147483629+other,.sh (.int (k%(lf.length:Int))),.sh (.int one),.sh (.int other),?_,rfl,⋯,⋯⟩;simp only[b_Q0I_l1,sCons,sSet,aI,sIf,sApp,eB1,Dv.lenD,eIx,Dv.ixD,eOr,eCm,eOp,eVar,eInt,Dv.all,R.bind,RL.bind,Out.bind,ar,aQ,ag,ak,CN,CP,CM,CO,CT,CU,Dn,C2,if_true,bH,cu,fL,qE,CY,aB hl',h0,om,decide_eq_false h1,decide_eq_false h2,bN (cR (j:=48271) (by decide) (by decide)),bN (eo (i:=k) (j:=k) ⋯ ⋯),bN (cR (j:=16807) (by decide) (by decide)),bN (eo (i:=7919) (by decide) (by decide)),aB (j:=2147483647) (by decide),ho,bN (eo (i:=one) (j:=one) ⋯ ⋯),bN (cR (j:=39373) (by decide) (by decide)),aB (j:=2147483629) (by decide),ht,bN (eo (i:=one) (j:=other) ⋯ ⋯),aB (j:=2147483587) (by decide),bN (cR (j:=2147483629) (by decide) (by decide)),decide_eq_true hmx,qy]
theorem jS {s:List Int}{m:Int}:∀ (ks lf fd:List Int) (z4 z5 z6 z7:Sl),(∀ k∈ks,0<=k/\k<=1000)->0<lf.length->fd.length+ks.length<=1000->(∀ d∈fd,0<=d/\d<1000000000000000000000000000000) ->
  ∃ lf' fd' y4 y5 y6 y7,forGo 4 b_Q0I_l1 (ks.map .int) [.sh (L s),.sh (.int m),.ow (L lf),.ow (L fd),z4,z5,z6,z7]=.nx [.sh (L s),.sh (.int m),.ow (L lf'),.ow (L fd'),y4,y5,y6,y7]/\fd'.length=fd.length+ks.length/\∀ d∈fd',0<=d/\d<1000000000000000000000000000000
 | [],lf,fd,z4,z5,z6,z7,_,_,_,h=>⟨lf,fd,z4,z5,z6,z7,rfl,by simp,h⟩
 | k::r,lf,fd,z4,z5,z6,z7,hk,hl,hf,h=>by
  rw[CQ] at hf;have hk0:=hk k (CS ..);obtain⟨lf1,d,y5,y6,y7,e1,l1,d0,d1⟩:=pJ (s:=s) (m:=m) (fd:=fd) hk0.1 hk0.2 hl ⋯ z5 z6 z7;obtain⟨lf2,fd2,x4,x5,x6,x7,e2,l2,h2⟩:=jS (s:=s) (m:=m) r lf1 (fd++[d]) (.sh (.int k)) y5 y6 y7 (λ x hx=>hk x (CV _ hx)) ⋯ (by simp;omega) (λ x hx=>by
   rcases List.mem_append.mp hx with hx|hx
   ·exact h x hx
   ·rw[DE] at hx;subst hx;exact⟨d0,d1⟩)
  refine⟨lf2,fd2,x4,x5,x6,x7,?_,by rw[l2];simp;omega,h2⟩;rw[CN,ba (st':=[.sh (L s),.sh (.int m),.ow (L lf1),.ow (L (fd++[d])),.sh (.int k),y5,y6,y7])]
  ·exact e2
  ·simp only[CU,CT];exact e1
theorem ui {s:List Int}(hs:s.length<=63){m:Int}(hm:0<=m)(hm2:m<=900):∃ ds,F_Q0I [L s,.int m]=.ok (L ds) true/\(ds.length:Int)=m/\∀ d∈ds,0<=d/\d<1000000000000000000000000000000:=by
 have hcut:Dv.cutL s none (some 63)=s:=by
  unfold Dv.cutL Dv.cutI;simp only[En,Fb];exact D2 (by simp;omega)
 have hsl:=xR s false none (some 63);rw[hcut] at hsl;have hleft:∃ lf:List Int,0<lf.length/\F_Q0I [L s,.int m]=(match b_Q0I_t1 [.sh (L s),.sh (.int m),.ow (L lf),.no,.no,.no,.no,.no] with | .nx _=>.ok .non true | .ret d f=>.ok d f | .exc c _=>.exc c|_=>.bad):=by
  by_cases hz:s=[]
  ·subst hz
   refine⟨[0],by simp,?_⟩;have q:cmD .eq (.lst []) (.lst [])=.ok (.bl true) true:=g9 [] [];have c:=gf (a:=[]) (b:=[0]) (by simp);have r1:=gW (x:=0) (n:=1) ⋯ ⋯;simp only[L,CP,CN,C1,Int.toNat_one,List.replicate] at q c r1 hsl;simp only[F_Q0I,b_Q0I,b_Q0I_t3,b_Q0I_t2,b_Q0I_t1,b_Q0I,Dv.fn,sCons,sSet,keep_nil,Dv.give,Dv.open_,aE,aw,aS,sRetO,sFor,iRange,eB1,Dv.intD,eCm,eOp,eVar,eInt,eLst,lNil,lCons,eSlice,ePart,Dv.all,R.bind,RL.bind,Dv.R.bindL,Dv.RL.bindL,Out.bind,bf,ar,ag,ak,CN,CP,CQ,C4,List.replicate,CZ,C1,CM,CO,CT,CU,C8,C2,if_true,Nat.reduceAdd,Nat.reduceSub,decide_true,f6,hsl,q,r1,c]
   all_goals rfl
  ·refine⟨s,List.length_pos_iff.mpr hz,?_⟩
   have c:=gf (a:=s) (b:=[]) (by simp;omega);have r1:=gW (x:=0) (n:=0) ⋯ ⋯;rw[DT] at c;simp only[L,CP,Int.toNat_zero,List.replicate] at c r1;simp only[F_Q0I,b_Q0I,b_Q0I_t3,b_Q0I_t2,b_Q0I_t1,Dv.fn,sCons,sSet,bB,keep_nil,Dv.give,Dv.open_,aE,aw,aS,sRetO,sFor,iRange,eB1,Dv.intD,eCm,eOp,eVar,eInt,eLst,lNil,lCons,eSlice,ePart,Dv.all,R.bind,RL.bind,Dv.R.bindL,Dv.RL.bindL,Out.bind,bf,ar,ag,ak,CN,CP,CQ,C4,List.replicate,CZ,C1,CM,CO,CT,CU,C8,C2,if_false,Nat.reduceAdd,Nat.reduceSub,DH,f6,hsl,decide_eq_false hz,DH,if_false,r1,c]
   all_goals rfl
 obtain⟨lf,hlf,e0⟩:=hleft;obtain⟨lf',ds,y4,y5,y6,y7,e,l,h⟩:=jS (s:=s) (m:=m) (upto m.toNat) lf [] .no .no .no .no (λ k hk=>by have:=mem_upto.mp hk;omega) hlf (by rw[upto_len];simp;omega) (by simp);refine⟨ds,?_,by rw[l,upto_len];simp;omega,h⟩;simp only[CP,L] at e;rw[e0];simp only[b_Q0I_t1,b_Q0I_t2,b_Q0I_t3,sCons,sSet,keep_nil,Dv.give,Dv.open_,aE,aw,aS,sRetO,sFor,iRange,eVar,eLst,lNil,R.bind,RL.bind,Out.bind,ag,CN,CP,CM,CO,CT,CU,C8,if_true,bq,Dv.flatL,de (n:=m) ⋯ ⋯,bA,e]
structure Fu (n:Int)(a b:List Int):Prop where
 nd:b.Nodup
 rg:∀ x∈b,0<=x/\x<n
 fl:Fill n a (Dv.isort b)
def bh (s:List Int)(k:Int):Int:=s.getD k.toNat 0
theorem c7 {s:List Int}{k:Int}(h:0<=k)(h2:k<s.length):F_Q0H [L s,.int k]=.ok (.int (bh s k)) true:=by
 simp only[F_Q0H,b_Q0H,Dv.fn,sRet,eIx,Dv.ixD,eVar,Dv.all,R.bind,RL.bind,Out.bind,ar,ag,ak,CN,CP,CQ,C4,List.replicate,CZ,C1,CM,CO,Dn,Nat.reduceAdd,Nat.reduceSub,yr h h2,bh]
def eqB (xs:List Int)(p m:Nat)(r:Int):Bool:=(upto p).all λ k=>decide (cnt xs ((p*m:Nat):Int) (r+k*(m:Int))=cnt xs ((p*m:Nat):Int) r)
theorem zI {xs:List Int}{p m:Nat}:((upto m).all (eqB xs p m))=true ↔ Ev xs p m:=by
 unfold Ev eqB;simp only[DP,decide_eq_true_eq]
 constructor
 ·intro h r k hr hk
  have:=h (r:Int) (mem_upto.mpr ⋯) (k:Int) (mem_upto.mpr ⋯);rw[<- this];congr 1
 ·intro h r hr k hk
  have hr:=mem_upto.mp hr;have hk:=mem_upto.mp hk;have:=h r.toNat k.toNat ⋯ ⋯;have e1:((r.toNat:Nat):Int)=r:=⋯
  have e2:((k.toNat:Nat):Int)=k:=⋯
  rw[e1] at this;rw[<- this];congr 1;rw[Fe,Ej,e1,e2]
def lpf (d:Nat):Nat:=((List.range 61).find? λ p=>decide (2<=p)&&decide (d%p=0)).getD 0
def lq (d:Nat):Bool:=decide (2<=d)&&(List.range 6).any λ a=>decide (lpf d ^ (a+1)=d)
def jb:List Nat->Nat
 | []=>1
 | x::r=>x*jb r
theorem tq:((List.range 61).all λ d=>decide (d<2) || (ie (lpf d)&&(decide (d%lpf d=0)&&(List.range (lpf d)).all λ j=>decide (j<2) || decide (d%j≠0))))=true:=by decide +kernel
theorem AD {d:Nat}(h2:2<=d)(h:d<=60):ie (lpf d)=true/\d%lpf d=0/\∀ j,2<=j->j<lpf d->d%j≠0:=by
 have:=List.all_eq_true.mp tq d (List.mem_range.mpr ⋯);rw[decide_eq_false ⋯,DO,C3,C3,decide_eq_true_eq] at this;refine⟨this.1,this.2.1,λ j j2 jl=>?_⟩;have h3:=List.all_eq_true.mp this.2.2 j (List.mem_range.mpr jl);rw[decide_eq_false ⋯,DO,decide_eq_true_eq] at h3;exact h3
theorem sT {p:Nat}(h:ie p=true):2<=p:=by unfold ie at h;simp at h;exact h.1
def had (n:Int)(xs:List Int):List Int:=(bP n).filter λ d=>hasB xs d
def ppI (n:Int):List Int:=(bP n).filter λ d=>lq d.toNat
theorem rS:((List.range 61).all λ k=>decide (k<2) || (decide (co (divs (k:Int)) 1=(lpf k:Int))&&(decide (1<(divs (k:Int)).length)&&(((bP (k:Int)).all λ x=>decide (x%(lpf k:Int)=0)) == lq k))))=true:=by decide +kernel
theorem rj {d:Int}(h2:2<=d)(h:d<=60):co (divs d) 1=(lpf d.toNat:Int)/\1<(divs d).length/\((bP d).all λ x=>decide (x%(lpf d.toNat:Int)=0))=lq d.toNat:=by
 have:=List.all_eq_true.mp rS d.toNat (List.mem_range.mpr ⋯);have e:((d.toNat:Nat):Int)=d:=⋯
 rw[decide_eq_false ⋯,DO,e,C3,C3,decide_eq_true_eq,decide_eq_true_eq,beq_iff_eq] at this;exact this
theorem uQ {d:Int}(h2:2<=d)(h:d<=60):2<=(lpf d.toNat:Int)/\(lpf d.toNat:Int)<=d/\d%(lpf d.toNat:Int)=0:=by
 obtain⟨h1,h3,_⟩:=AD (d:=d.toNat) ⋯ ⋯;have h4:=sT h1;have h5:=Nat.le_of_dvd ⋯ (Fh h3);refine⟨⋯,⋯,?_⟩;have e:((d.toNat:Nat):Int)=d:=⋯
 have h6:((lpf d.toNat:Nat):Int) ∣ ((d.toNat:Nat):Int):=Int.natCast_dvd_natCast.mpr (Fh h3);rw[e] at h6;exact Ex h6
theorem ik {d:Int}(h2:2<=d)(h:d<=60):F_Q13 [.int d]=.ok (.int (lpf d.toNat)) true:=by
 obtain⟨t1,t2,_⟩:=rj h2 h;have hat:=mq (s:=divs d) (k:=1) ⋯ ⋯;have e1:(1:Int).toNat=1:=rfl;rw[e1,t1] at hat;simp only[F_Q13,b_Q13,Dv.fn,sRet,eIx,Dv.ixD,eVar,eInt,lNil,lCons,eCall,Dv.all,R.bind,RL.bind,Dv.R.bindL,Dv.RL.bindL,Out.bind,ar,ag,CN,CP,CQ,C4,List.replicate,CZ,C1,CM,Dn,C2,Nat.reduceAdd,Nat.reduceSub,b0 (show 1<=d by omega) h,hat]
theorem qz (f:Int->Bool):∀ xs:List Int,Dv.blsOf (xs.map λ x=>D.bl (f x))=some (xs.map f)
 | []=>rfl
 | x::r=>by rw[CN,CN];show (Dv.blsOf (r.map _)).map (f x::·)=_;rw[qz f r];rfl
theorem kZ {d:Int}(h2:2<=d)(h:d<=60):F_Q09 [.int d]=.ok (.bl (lq d.toNat)) true:=by
 obtain⟨_,_,t3⟩:=rj h2 h;have hp:=uQ h2 h;have hc:c_Q09_1 [some (.int d),some (.int (lpf d.toNat))]=.ok (.lst ((bP d).map λ x=>D.bl (decide (x%(lpf d.toNat:Int)=0)))) true:=by
  unfold c_Q09_1 eComp;have hl:=fE h;have hle:(bP d).length<=Dv.mx:=by unfold Dv.mx;omega
  have hg:=i8 (elt:=(eCm .eq (eOp .mod (eVar 0) (eVar 1)) (eInt 0))) (free:=[some (.int (lpf d.toNat))]) (g:=λ x=>D.bl (decide (x%(lpf d.toNat:Int)=0))) (xs:=bP d) (λ x hx=>by
   simp only[eCm,eOp,eVar,eInt,R.bind,RL.bind,Out.bind,ag,CM,CO,bI,aB (show (0:Int)<(lpf d.toNat:Int) by omega)])
  simp only[iSeq,eVar,eInt,lNil,lCons,eCall,Dv.pick,eSlice,ePart,R.bind,RL.bind,Dv.R.bindL,Dv.RL.bindL,Out.bind,ag,CN,CP,CM,CO,C5,Dn,C2,bq,CY,b0 (show 1<=d by omega) h,Dv.sliceD,o3,if_pos hle,hg]
 have hall:∀ f,Dv.allD (.lst ((bP d).map λ x=>D.bl (decide (x%(lpf d.toNat:Int)=0)))) f=.ok (.bl (lq d.toNat)) true:=λ f=>by
  unfold Dv.allD;simp only[qz,List.all_map];rw[<- t3];rfl
 simp only[F_Q09,b_Q09,b_Q09_t1,Dv.fn,sCons,sSet,aI,sRet,eB1,eVar,lNil,lCons,eCall,Dv.all,R.bind,RL.bind,Dv.R.bindL,Dv.RL.bindL,Out.bind,bf,ar,ag,CN,CP,CQ,C4,List.replicate,CZ,C1,CM,CT,CU,C2,Nat.reduceAdd,Nat.reduceSub,ik h2 h,hc,hall]
theorem iH {n:Int}(h1:1<=n)(h:n<=60):F_Q14 [.int n]=.ok (L (ppI n)) true:=by
 have hc:c_Q14_1 [some (.int n)]=.ok (L (ppI n)) true:=by
  have:=cG (elt:=eVar 0) (cond:=(eCall F_Q09 (lCons (eVar 0) lNil))) (is:=[]) (it:=(iSeq (eSlice (eCall F_Q05 (lCons (eVar 0) lNil)) (some (eInt 1)) none))) (ρ:=[some (.int n)]) (c:=λ d=>lq d.toNat) (g:=λ d=>d) (xs:=bP n) (f:=true)
   (by simp only[iSeq,eVar,eInt,lNil,lCons,eCall,eSlice,ePart,R.bind,RL.bind,Dv.R.bindL,Dv.RL.bindL,Out.bind,ag,CM,Dn,C2,bq,b0 h1 h,Dv.sliceD,o3]) (by have:=fE h;omega) (λ d hd=>by
    have hd:=(gM h1).mp hd;simp only[eVar,lNil,lCons,eCall,Dv.pick,R.bind,RL.bind,Dv.R.bindL,Dv.RL.bindL,Out.bind,ag,CP,CM,C2,kZ (show 2<=d by omega) (show d<=60 by omega)]) (λ d hd _=>by simp only[eVar,Dv.pick,ag,CP,CM])
  simp only[ES] at this;exact this
 have hw:F_Q03 [.int n]=.ok .non true:=by rw[jH,if_pos ⟨h1,h⟩]
 simp only[F_Q14,b_Q14,b_Q14_t1,Dv.fn,sCons,sRet,sExpr,eVar,lNil,lCons,eCall,Dv.all,R.bind,RL.bind,Dv.R.bindL,Dv.RL.bindL,Out.bind,ar,ag,CN,CP,CQ,C4,List.replicate,CZ,C1,CM,C2,Nat.reduceAdd,Nat.reduceSub,hw,hc]
theorem jX {n:Int}{xs:List Int}(n2:n<=60)(h:Beat n xs):F_Q12 [.int n,L xs]=.ok (L ((ppI n).filter λ d=>hasB xs d)) true:=by
 have n1:=h.pos;have hc:c_Q12_1 [some (.int n),some (L xs),some (L ((bP n).filter λ d=>hasB xs d))]=.ok (L ((ppI n).filter λ d=>hasB xs d)) true:=by
  have:=cG (elt:=eVar 0) (cond:=(eCm .isin (eVar 0) (eVar 1))) (is:=[2]) (it:=(iSeq (eCall F_Q14 (lCons (eVar 0) lNil)))) (ρ:=[some (.int n),some (L xs),some (L ((bP n).filter λ d=>hasB xs d))]) (c:=λ d=>hasB xs d) (g:=λ d=>d) (xs:=ppI n) (f:=true)
   (by simp only[iSeq,eVar,lNil,lCons,eCall,R.bind,RL.bind,Dv.R.bindL,Dv.RL.bindL,Out.bind,ag,CM,C2,iH n1 n2]) (by have:=DQ (λ d:Int=>lq d.toNat) (bP n);have:=fE n2;unfold ppI;omega) (λ d hd=>by
    have hd1:d∈bP n:=(List.mem_filter.mp hd).1;simp only[eCm,eVar,Dv.pick,R.bind,RL.bind,Out.bind,ag,ak,CN,CP,CM,CO,C5,pK,ym hd1]) (λ d hd _=>by simp only[eVar,Dv.pick,ag,CN,CP,CM,CO,C5])
  simp only[ES] at this;exact this
 simp only[F_Q12,b_Q12,b_Q12_t1,Dv.fn,sCons,sSet,bB,sRet,eVar,lNil,lCons,eCall,Dv.all,R.bind,RL.bind,Dv.R.bindL,Dv.RL.bindL,Out.bind,bf,ar,aQ,ag,ak,CN,CP,CQ,C4,List.replicate,CZ,C1,CM,CO,CT,CU,C2,Di,Nat.reduceAdd,Nat.reduceSub,AS n2 h,hc]
theorem jL {n:Int}{A:D}:∀ (ds:List Int) (x:Int) (z:Sl),(∀ d∈ds,2<=d/\d<=60) ->
  ∃ z',forGo 3 b_Q06_l1 (ds.map .int) [.sh (.int n),.sh A,.sh (.int x),z]=.nx [.sh (.int n),.sh A,.sh (.int (x*((jb (ds.map λ d=>lpf d.toNat):Nat):Int))),z']
 | [],x,z,_=>⟨z,by simp[jb,forGo]⟩
 | d::r,x,z,h=>by
  obtain⟨d1,d2⟩:=h d (CS ..);have lr:=uQ d1 d2;obtain⟨z',e⟩:=jL (n:=n) (A:=A) r (x*lpf d.toNat) (.sh (.int d)) (λ y hy=>h y (CV _ hy));refine⟨z',?_⟩;rw[CN,ba (st':=[.sh (.int n),.sh A,.sh (.int (x*lpf d.toNat)),.sh (.int d)]),e]
  ·rw[CN,jb,Ej,Int.mul_assoc]
  ·simp only[b_Q06_l1,eVar,lNil,lCons,eCall,Dv.all,R.bind,RL.bind,Dv.R.bindL,Dv.RL.bindL,Out.bind,ar,sAug,ag,CN,CP,CM,CO,CT,CU,C2,ik d1 d2,bN (cR (i:=x) (j:=(lpf d.toNat:Int)) ⋯ ⋯)]
open Bt (T uX yH hits Fill aJ Beat tally jo ej qN eQ)
def frB (n:Int)(A:List Int):Bool:=decide (((jb (((ppI n).filter λ d=>hasB A d).map λ d=>lpf d.toNat):Nat):Int)=(A.length:Int))
theorem nM {n d:Int}(n1:1<=n)(h:d∈ppI n):2<=d/\d<=n/\n%d=0/\lq d.toNat=true:=by
 have h1:=(gM n1).mp (List.mem_filter.mp h).1;have h2:=(List.mem_filter.mp h).2;exact⟨⋯,⋯,h1.2.2,h2⟩
theorem dM {n:Int}{A:List Int}(n2:n<=60)(h:Beat n A):F_Q06 [.int n,L A]=.ok (.bl (frB n A)) true:=by
 have n1:=h.pos;obtain⟨z,e⟩:=jL (n:=n) (A:=L A) ((ppI n).filter λ d=>hasB A d) 1 .no (λ d hd=>by
  have h1:=nM n1 (List.mem_filter.mp hd).1;omega)
 rw[F2] at e;have hq:decide (((jb (((ppI n).filter λ d=>hasB A d).map λ d=>lpf d.toNat):Nat):Int)=(A.length:Int))=frB n A:=rfl;simp only[F_Q06,b_Q06,b_Q06_t2,b_Q06_t1,Dv.fn,sCons,sSet,aI,Dv.give,Dv.open_,aK,aE,aw,sRet,sFor,iSeq,eB1,Dv.lenD,eCm,eVar,eInt,lNil,lCons,eCall,Dv.all,R.bind,RL.bind,Dv.R.bindL,Dv.RL.bindL,Out.bind,ar,ag,ak,CN,CP,CQ,C4,List.replicate,CZ,C1,CM,CO,CT,CU,C7,C8,C5,C2,Di,Nat.reduceAdd,Nat.reduceSub,bI,CY,jX n2 h,e,hq]
open Dv (D R RL EE EL EI RI Sl Out SS St Wy An Cs Ws WR Wk)
open Bt Wm
section
variable {n:Int}{A:List Int}
theorem qu (h:Beat n A){S:List Int}{d:Nat}{m:Int}
  (ih:∀ (s:Int) (w:Ws) (pre:List Cs) (c:Cs) (f:Nat),s∈kids n A S m->w.wait=pre++[c]->c.laid=(S++[s]).map (wy n A)->w.wys=cY n A->Valid w->w.gone+cas n A d (S++[s])<=2000->w.rows.length<=w.gone->pre.length+d*A.length<=50000 ->
   (dfs n A d (S++[s])=[]/\∃ w',Dv.firstGo kW (f+cas n A d (S++[s])) w=Dv.firstGo kW f w'/\w'.wait=pre/\w'.wys=cY n A/\Valid w'/\w'.gone=w.gone+cas n A d (S++[s])/\w'.rows.length<=w'.gone) \/
   ∃ B RR w',dfs n A d (S++[s])=B::RR/\Dv.firstGo kW (f+cas n A d (S++[s])) w=.full w' (L B) true):
  ∀ (ss:List Int) (cs:List Cs) (w:Ws) (pre:List Cs) (f:Nat),(∀ s∈ss,s∈kids n A S m)->cs.map (·.laid)=ss.map (λ s=>(S++[s]).map (wy n A))->w.wait=pre++cs.reverse->w.wys=cY n A->Valid w->w.gone+(ss.map λ s=>cas n A d (S++[s])).sum<=2000->w.rows.length<=w.gone ->
   pre.length+ss.length+d*A.length<=50000 ->
   ((ss.flatMap λ s=>dfs n A d (S++[s]))=[]/\∃ w',Dv.firstGo kW (f+(ss.map λ s=>cas n A d (S++[s])).sum) w=Dv.firstGo kW f w'/\w'.wait=pre/\w'.wys=cY n A/\Valid w'/\w'.gone=w.gone+(ss.map λ s=>cas n A d (S++[s])).sum/\w'.rows.length<=w'.gone) \/
   ∃ B RR w',(ss.flatMap λ s=>dfs n A d (S++[s]))=B::RR/\Dv.firstGo kW (f+(ss.map λ s=>cas n A d (S++[s])).sum) w=.full w' (L B) true
 | [],cs,w,pre,f,_,hcs,hw,ht,hv,hb,hr,_=>by
  have:cs=[]:=by simpa using hcs
  subst this;exact .inl ⟨rfl,w,by simp,by simpa using hw,ht,hv,by simp,hr⟩
 | s::ss,cs,w,pre,f,hk,hcs,hw,ht,hv,hb,hr,hp=>by
  cases cs with
  | nil=>simp at hcs
  | cons c cs=>
   rw[CN,CN] at hcs;obtain⟨hc1,hc2⟩:=List.cons.inj hcs;have hcl:cs.length=ss.length:=by have:=congrArg List.length hc2;simpa using this
   rw[CN,FX] at hb ⊢;rw[DM];rw[CQ] at hp;have hw':w.wait=(pre++cs.reverse)++[c]:=by rw[hw,D9,Ek]
   have ef:f+(cas n A d (S++[s])+(ss.map λ s=>cas n A d (S++[s])).sum)=f+(ss.map λ s=>cas n A d (S++[s])).sum+cas n A d (S++[s]):=⋯
   rcases ih s w (pre++cs.reverse) c (f+(ss.map λ s=>cas n A d (S++[s])).sum) (hk s (CS ..)) hw' hc1 ht hv ⋯ hr (by rw[C9,EU];omega) with ⟨e0,w1,e1,g1,g2,g3,g4,g5⟩|⟨B,RR,w1,e0,e1⟩
   ·rw[e0,C1]
    rcases qu h ih ss cs w1 pre f (λ t ht=>hk t (CV _ ht)) hc2 g1 g2 g3 ⋯ g5 ⋯ with ⟨k0,w2,e2,k1,k2,k3,k4,k5⟩|⟨B,RR,w2,k0,e2⟩
    ·exact .inl ⟨k0,w2,by rw[ef,e1,e2],k1,k2,k3,⋯,k5⟩
    ·exact .inr ⟨B,RR,w2,k0,by rw[ef,e1,e2]⟩
   ·exact .inr ⟨B,RR++(ss.flatMap λ s=>dfs n A d (S++[s])),w1,by rw[e0];rfl,by rw[ef,e1]⟩
theorem vN (h:Beat n A)(n2:n<=60){Q:Nat}(hQ:((A.length*Q:Nat):Int)=n):∀ (d:Nat) (S:List Int) (w:Ws) (pre:List Cs) (c:Cs) (f:Nat),Good n A S->w.wait=pre++[c]->c.laid=S.map (wy n A)->w.wys=cY n A->Valid w->w.gone+cas n A d S<=2000->w.rows.length<=w.gone->Q-S.length<d ->
  pre.length+d*A.length<=50000 ->
  (dfs n A d S=[]/\∃ w',Dv.firstGo kW (f+cas n A d S) w=Dv.firstGo kW f w'/\w'.wait=pre/\w'.wys=cY n A/\Valid w'/\w'.gone=w.gone+cas n A d S/\w'.rows.length<=w'.gone) \/
  ∃ B RR w',dfs n A d S=B::RR/\Dv.firstGo kW (f+cas n A d S) w=.full w' (L B) true
 | 0,S,w,pre,c,f,_,_,_,_,_,_,_,hd,_=>⋯
 | d+1,S,w,pre,c,f,g,hw,hc,ht,hv,hb,hr,hd,hp=>by
  have hne:w.wait.isEmpty=false:=by rw[hw];simp
  unfold cas at hb ⊢;unfold dfs;cases hf:fre n (kz n A S) with
  | nil=>
   rw[hf] at hb;simp only at hb ⊢;refine .inr ⟨Dv.isort S,[],{ w with gone:=w.gone+1,wait:=pre },rfl,?_⟩
   conv=>lhs;unfold Dv.firstGo
   rw[hne,tE h n2 g hw hc ht ⋯ hf];simp only[DH,if_false,L]
  | cons m r=>
   rw[hf] at hb;simp only at hb ⊢;have hm:m∈fre n (kz n A S):=by rw[hf];exact CS ..
   rw[DK] at hp;obtain⟨w1,cs,e1,g1,g2,g3,g4,g5,g6⟩:=uf h n2 g hw hc ht hv ⋯ hf ⋯ ⋯;have hpos:=h.pos;have hlt:S.length<Q:=by
    by_cases z:S.length<Q
    ·exact z
    ·exfalso
     have z2:A.length*Q<=A.length*S.length:=Nat.mul_le_mul_left _ ⋯;have hk:=g.len h.nd;have hle:(kz n A S).length<=n.toNat:=by
      have:=(iy (n:=n) (A:=A) S).length_le_of_subset (l₂:=upto n.toNat) λ p hp=>mem_upto.mpr (by have:=jn (A:=A) (S:=S) (show 0<n by omega) p hp;omega)
      rwa [upto_len] at this
     have:=(fu (n:=n) ⋯ (iy (n:=n) (A:=A) S) (jn ⋯)).mpr ⋯;rw[this] at hf;cases hf
   have efo:Dv.firstGo kW (f+(1+((kids n A S m).map λ s=>cas n A d (S++[s])).sum)) w=Dv.firstGo kW (f+((kids n A S m).map λ s=>cas n A d (S++[s])).sum) w1:=by
    rw[show f+(1+((kids n A S m).map λ s=>cas n A d (S++[s])).sum)=f+((kids n A S m).map λ s=>cas n A d (S++[s])).sum+1 by omega]
    conv=>lhs;unfold Dv.firstGo
    rw[hne,e1];simp only[DH,if_false]
   rw[efo]
   rcases qu h (S:=S) (d:=d) (m:=m) (λ s w pre c f hs hw hc ht hv hb hr hp=>vN h n2 hQ d (S++[s]) w pre c f (g.kid h hm hs).1 hw hc ht hv hb hr (by rw[C9,Ds];omega) hp)
    (kids n A S m) cs w1 pre f (λ s hs=>hs) g2 g1 g3 g6 ⋯ ⋯ (by have:=jT (n:=n) (A:=A) S m;omega) with ⟨k0,w2,e2,k1,k2,k3,k4,k5⟩|k
   ·exact .inl ⟨k0,w2,e2,k1,k2,k3,⋯,k5⟩
   ·exact .inr k
theorem uE (h:Beat n A)(n2:n<=60){Q:Nat}(hQ:((A.length*Q:Nat):Int)=n)(hb:cas n A Q [0]<=2000):
  (dfs n A Q [0]=[]/\∃ w,Dv.firstGo kW 2002 (Dv.w0 (cY n A) [wy n A 0])=.row w)\/∃ B RR w,dfs n A Q [0]=B::RR/\Dv.firstGo kW 2002 (Dv.w0 (cY n A) [wy n A 0])=.full w (L B) true:=by
 have hp:=h.pos;have hQ1:1<=Q:=by
  cases Q with
  | zero=>simp at hQ;omega
  | succ q=>omega
 have hl:=h.len;have key:=vN h n2 hQ Q [0] (Dv.w0 (cY n A) [wy n A 0]) [] ⟨[wy n A 0],0,0⟩ (2002-cas n A Q [0]) (gY h) rfl rfl rfl (λ c hc=>by
  have:c=⟨[wy n A 0],0,0⟩:=by simpa[Dv.w0] using hc
  subst this;simp[Dv.w0]) (by simpa[Dv.w0] using hb) (by simp[Dv.w0]) (by simp;omega) (by
   have hA:=h.len1;have:Q*A.length=A.length*Q:=EM ..;simp;omega)
 rw[show 2002-cas n A Q [0]+cas n A Q [0]=2002 by omega] at key
 rcases key with ⟨e0,w',e,k1,_⟩|k
 ·refine .inl ⟨e0,w',?_⟩
  rw[e,show 2002-cas n A Q [0]=(2001-cas n A Q [0])+1 by omega];unfold Dv.firstGo;rw[k1];simp
 ·exact .inr k
def pB:List Nat:=[99,111,117,110,116]
def oS:List Nat:=[112,97,114,116,115]
theorem tI (h:Beat n A)(n2:n<=60)(hz:n%(A.length:Int)≠0):∃ f,F_Q15 [.int n,L A]=.ok (.tup [.str Dv.barC,.str pB]) f:=by
 simp only[F_Q15,b_Q15,b_Q15_t1,b_Q15_t2,Dv.fn,sCons,sIf,sRet,eNot,eVar,eStr,eTup,lNil,lCons,eCall,Dv.all,R.bind,RL.bind,Dv.R.bindL,Dv.RL.bindL,Out.bind,bf,ar,ag,ak,CN,CP,CQ,C4,List.replicate,CZ,C1,CM,CO,C2,Di,D4,Nat.reduceAdd,Nat.reduceSub,d7 h n2,decide_eq_false hz];exact⟨_,rfl⟩
theorem lJ (h:Beat n A)(n2:n<=60)(hz:n%(A.length:Int)=0)(hf:frB n A=false):∃ f,F_Q15 [.int n,L A]=.ok (.tup [.str Dv.barC,.str oS]) f:=by
 simp only[F_Q15,b_Q15,b_Q15_t1,b_Q15_t2,Dv.fn,sCons,sNil,sIf,sRet,eNot,eVar,eStr,eTup,lNil,lCons,eCall,Dv.all,R.bind,RL.bind,Dv.R.bindL,Dv.RL.bindL,Out.bind,bf,ar,ag,ak,CN,CP,CQ,C4,List.replicate,CZ,C1,CM,CO,C2,Di,Dx,D4,Nat.reduceAdd,Nat.reduceSub,d7 h n2,decide_eq_true hz,dM n2 h,hf];exact⟨_,rfl⟩
theorem jY (h:Beat n A)(n2:n<=60){Q:Nat}(hQ:((A.length*Q:Nat):Int)=n)(hb:cas n A Q [0]<=2000)(hf:frB n A=true):
  (dfs n A Q [0]=[]/\∃ w f,F_Q15 [.int n,L A]=.ok (.tup [.str Dv.barC,Dv.rowsD w]) f)\/∃ B RR f,dfs n A Q [0]=B::RR/\F_Q15 [.int n,L A]=.ok (.tup [.str Dv.staC,L B]) f:=by
 have hz:n%(A.length:Int)=0:=by
  rw[<- hQ,Ej];exact FB ..
 have pw:=Cb h n2
 rcases uE h n2 hQ hb with ⟨e0,w,e⟩|⟨B,RR,w,e0,e⟩
 ·refine .inl ⟨e0,w,false,?_⟩
  simp only[F_Q15,b_Q15,b_Q15_t1,b_Q15_t2,Dv.fn,sCons,sNil,sIf,eNot,eVar,lNil,lCons,eCall,Dv.all,R.bind,RL.bind,Dv.R.bindL,Dv.RL.bindL,Out.bind,bf,ar,ag,ak,CN,CP,CQ,C4,List.replicate,CZ,C1,CM,CO,C2,Di,Dx,if_true,Nat.reduceAdd,Nat.reduceSub,decide_true,d7 h n2,decide_eq_true hz,dM n2 h,hf,sSought,pw,e,decide_true,Nat.reduceLT]
 ·refine .inr ⟨B,RR,false,e0,?_⟩
  simp only[F_Q15,b_Q15,b_Q15_t1,b_Q15_t2,Dv.fn,sCons,sNil,sIf,eNot,eVar,lNil,lCons,eCall,Dv.all,R.bind,RL.bind,Dv.R.bindL,Dv.RL.bindL,Out.bind,bf,ar,ag,ak,CN,CP,CQ,C4,List.replicate,CZ,C1,CM,CO,C2,Di,Dx,if_true,Nat.reduceAdd,Nat.reduceSub,decide_true,d7 h n2,decide_eq_true hz,dM n2 h,hf,sSought,pw,e,decide_true,Nat.reduceLT,L]
end
theorem sr:b_Q0T_l1=b_Q0S_l1:=rfl
structure Dr (ds:List Int):Prop where
 len:ds.length=15
 rg:∀ d∈ds,0<=d/\d<1000000000000000000000000000000
theorem Dr.cell {ds:List Int}(h:Dr ds){k:Int}(h0:0<=k)(h1:k<15):F_Q0H [L ds,.int k]=.ok (.int (bh ds k)) true/\0<=bh ds k/\bh ds k<1000000000000000000000000000000:=
 ⟨c7 h0 (by have:=h.len;omega),h.rg _ (getD_mem (by have:=h.len;omega))⟩
section
variable {s:List Int}{k0 n t:Int}{a b:List Int}{sa sb z5 z6 z8:Sl}
theorem kG (ha:Hs sa a)(ht0:0<=t)(ht:t<=100)(hsb:True):∀ (ks found:List Int) (z:Sl),(∀ k∈ks,0<=k/\k<=1000)->found.length+ks.length*a.length<=100000 ->
  ∃ z',forGo 10 b_Q0R_l1 (ks.map .int) [.sh (L s),.sh (.int k0),.sh (.int n),sa,sb,z5,z6,.sh (.int t),z8,.ow (L found),z]=.nx [.sh (L s),.sh (.int k0),.sh (.int n),sa,sb,z5,z6,.sh (.int t),z8,.ow (L (ks.foldl (λ x k=>x++a.map (·*t+k)) found)),z']
 | [],found,z,_,_=>⟨z,rfl⟩
 | k::r,found,z,h,hl=>by
  rw[CQ,DK] at hl;have hk:=h k (CS ..);have hc:c_Q0R_1 [some (L s),some (.int k0),some (.int n),some (L a),sb.get,z5.get,z6.get,some (.int t),z8.get,some (L found),some (.int k)]=.ok (L (a.map (·*t+k))) true:=by
   unfold c_Q0R_1;exact cB (f:=false) rfl ⋯ λ x hx=>by simp only[eOp,eVar,Dv.pick,R.bind,RL.bind,Out.bind,ag,CN,CP,CM,CO,C5,bH,bN (cR (i:=x) (j:=t) ⋯ ⋯)]
  obtain⟨z',e⟩:=kG ha ht0 ht hsb r (found++a.map (·*t+k)) (.sh (.int k)) (λ x hx=>h x (CV _ hx)) (by rw[C9,CY];omega);refine⟨z',?_⟩;rw[CN,ba (st':=[.sh (L s),.sh (.int k0),.sh (.int n),sa,sb,z5,z6,.sh (.int t),z8,.ow (L (found++a.map (·*t+k))),.sh (.int k)]),e]
  ·rfl
  ·simp only[b_Q0R_l1,sSet,bB,eOp,eVar,Dv.all,R.bind,RL.bind,Out.bind,ar,aQ,ak,CN,CP,CM,CO,CT,CU,CY,ha.get,hc,gf (a:=found) (b:=a.map (·*t+k)) (by rw[CY];omega)]
end
theorem ou {P:Int->List Int->List Int->Prop}(hP:PairP P){s:List Int}{k0 n k:Int}{a b:List Int}{sa sb z6 z7 z8 z9 z10:Sl}(hk0:0<=k0)(hk1:k0<=1000)(hk:0<=k/\k<=5)(hsl:k0+9<=(s.length:Int))(h:P n a b)(hn:n<=12)(ha:Hs sa a)(hb:Hs sb b):
  ∃ n' a' b' sa' sb' y6 y7 y8 y9 y10,b_Q0R_l2 [.sh (L s),.sh (.int k0),.sh (.int n),sa,sb,.sh (.int k),z6,z7,z8,z9,z10]=.nx [.sh (L s),.sh (.int k0),.sh (.int n'),sa',sb',.sh (.int k),y6,y7,y8,y9,y10]/\P n' a' b'/\n'<=12/\Hs sa' a'/\Hs sb' b':=by
 have hA:=(hP.beat h).1;have hB:=(hP.beat h).2;have hnp:=hA.pos;have hz:=bu (n:=2147483647) (a:=bh s (k0+k)*48271) ⋯;generalize hnum:bh s (k0+k)*48271%2147483647=num at hz;have hm7:=bu (n:=7) (a:=num) ⋯;obtain⟨t,ht,ht2,ht7⟩:=v8 (num%7) hm7.1 hm7.2;have h6:sSet 6 (eOp .mod (eOp .mul (eCall F_Q0H (lCons (eVar 0) (lCons (eOp .add (eVar 1) (eVar 5)) lNil))) (eInt 48271)) (eInt 2147483647)) [.sh (L s),.sh (.int k0),.sh (.int n),sa,sb,.sh (.int k),z6,z7,z8,z9,z10]
   = .nx [.sh (L s),.sh (.int k0),.sh (.int n),sa,sb,.sh (.int k),.sh (.int num),z7,z8,z9,z10]:=by
  simp only[sSet,aI,eOp,eVar,eInt,lNil,lCons,eCall,Dv.all,R.bind,RL.bind,Dv.R.bindL,Dv.RL.bindL,Out.bind,ar,ag,ak,CN,CP,CM,CO,CT,CU,C2,bH,c7 (s:=s) (k:=k0+k) ⋯ ⋯,bN (cR (j:=48271) (by decide) (by decide)),aB (j:=2147483647) (by decide),hnum]
 have h78:∀ rest:SS,sCons (sSet 7 (eIx (eLst (lCons (eInt 2) (lCons (eInt 3) (lCons (eInt 2) (lCons (eInt 5) (lCons (eInt 2) (lCons (eInt 3) (lCons (eInt 7) lNil)))))))) (eOp .mod (eVar 6) (eInt 7)))) (sCons (sSet 8 (eOp .mod (eOp .fdiv (eVar 6) (eInt 7)) (eInt 4))) rest)
   [.sh (L s),.sh (.int k0),.sh (.int n),sa,sb,.sh (.int k),.sh (.int num),z7,z8,z9,z10]=rest [.sh (L s),.sh (.int k0),.sh (.int n),sa,sb,.sh (.int k),.sh (.int num),.sh (.int t),.sh (.int (num/7%4)),z9,z10]:=by
  intro rest;simp only[sCons,sSet,aI,eIx,Dv.ixD,eOp,eVar,eInt,eLst,lNil,lCons,Dv.all,R.bind,RL.bind,Dv.R.bindL,Dv.RL.bindL,Out.bind,ar,ag,CN,CP,CM,CO,CT,CU,Dn,C2,aB (j:=7) (by decide),ht,cC (j:=7) (by decide) (by decide),aB (j:=4) (by decide)]
 have hsw:∀ (n':Int) (a' b':List Int) (sa' sb' y9 y10:Sl),P n' a' b'->n'<=12->Hs sa' a'->Hs sb' b'->∃ a2 b2 sa2 sb2,sIf (eCm .eq (eOp .mod (eOp .fdiv (eVar 6) (eInt 28)) (eInt 2)) (eInt 1)) (sPar [3,4] 3 4 (eVar 4) (eVar 3)) sNil [.sh (L s),.sh (.int k0),.sh (.int n'),sa',sb',.sh (.int k),.sh (.int num),.sh (.int t),.sh (.int (num/7%4)),y9,y10]
   = .nx [.sh (L s),.sh (.int k0),.sh (.int n'),sa2,sb2,.sh (.int k),.sh (.int num),.sh (.int t),.sh (.int (num/7%4)),y9,y10]/\P n' a2 b2/\Hs sa2 a2/\Hs sb2 b2:=by
  intro n' a' b' sa' sb' y9 y10 h' hn' ha' hb';by_cases hq:num/28%2=1
  ·refine⟨b',a',.sh (L b'),.sh (L a'),?_,hP.swap h',.inl rfl,.inl rfl⟩
   rcases ha' with e|e <;>rcases hb' with e2|e2 <;>(subst e;subst e2;simp only[Dv.give,Dv.open_,aK,fA,aw,sIf,sPar,eCm,eOp,eVar,eInt,Dv.all,R.bind,RL.bind,Out.bind,ar,aQ,ag,ak,CN,CP,CM,CO,CT,CU,C7,C8,C5,bI,cC (j:=28) (by decide) (by decide),aB (j:=2) (by decide),decide_eq_true hq])
  ·refine⟨a',b',sa',sb',?_,h',ha',hb'⟩
   simp only[sNil,sIf,eCm,eOp,eVar,eInt,Dv.all,R.bind,RL.bind,Out.bind,ar,ag,CN,CP,CM,CO,bI,cC (j:=28) (by decide) (by decide),aB (j:=2) (by decide),decide_eq_false hq]
 have hla:=hA.len;have hlb:=hB.len;have hmul:opD .mul (.int n) (.int (t:Int))=.ok (.int (n*t)) true:=bN (eo ⋯ ⋯);unfold b_Q0R_l2;rw[b9 h6,h78];by_cases hle:n*t<=12
 ·by_cases hkd:num/7%4<2
  ·have hag:F_Q0B [.int n,L a,.int (t:Int)]=.ok (L (again n a t)) true:=by
    have:=uJ (n:=n) (t:=(t:Int)) (xs:=a) ⋯ ⋯ ⋯
    rwa [DG] at this
   obtain⟨a2,b2,sa2,sb2,e,p2,x1,x2⟩:=hsw (n*t) (again n a t) b (.ow (L (again n a t))) sb z9 z10 (hP.again ⋯ h) hle (.inr rfl) hb;refine⟨n*t,a2,b2,sa2,sb2,.sh (.int num),.sh (.int t),.sh (.int (num/7%4)),z9,z10,?_,p2,hle,x1,x2⟩;rw[b9 (st1:=[.sh (L s),.sh (.int k0),.sh (.int (n*t)),.ow (L (again n a t)),sb,.sh (.int k),.sh (.int num),.sh (.int t),.sh (.int (num/7%4)),z9,z10])]
   ·exact e
   ·simp only[sCons,sSet,aI,bB,sIf,eCm,eOp,eVar,eInt,lNil,lCons,eCall,Dv.all,R.bind,RL.bind,Dv.R.bindL,Dv.RL.bindL,Out.bind,ar,aQ,ag,ak,CN,CP,CM,CO,CT,CU,C2,Di,fL,qq,hmul,decide_eq_true hle,decide_eq_true hkd,ha.get,hag]
  ·obtain⟨z',em⟩:=kG (s:=s) (k0:=k0) (n:=n) (t:=(t:Int)) (a:=a) (sa:=sa) (sb:=sb) (z5:=.sh (.int k)) (z6:=.sh (.int num)) (z8:=.sh (.int (num/7%4))) ha ⋯ ⋯ trivial (upto t) [] z10 (λ x hx=>by have:=mem_upto.mp hx;omega) (by
    rw[upto_len];have:t*a.length<=7*12:=EY ht7 ⋯;simp;omega)
   rw[nL] at em;simp only[CP,L] at em;have hmx:(mix a t t).length<64:=by
    have h1:(((mix a t t).length:Nat):Int)<=n*t:=by
     have e1:=(mf hA (show 1<=t by omega)).len;rw[cW] at e1;exact e1
    omega
   have hc2:c_Q0R_2 [some (L s),some (.int k0),some (.int n),some (L (Dv.isort (mix a t t))),some (L b),some (.int k),some (.int num),some (.int t),some (.int (num/7%4)),some (L (mix a t t)),z'.get]=.ok (L (b.map (·*(t:Int)))) true:=by
    unfold c_Q0R_2;exact cB (f:=false) rfl ⋯ λ x hx=>by simp only[eOp,eVar,Dv.pick,R.bind,RL.bind,Out.bind,ag,CN,CP,CM,CO,C5,bN (cR (i:=x) (j:=(t:Int)) ⋯ ⋯)]
   obtain⟨a2,b2,sa2,sb2,e,p2,x1,x2⟩:=hsw (n*t) (Dv.isort (mix a t t)) (b.map (·*(t:Int))) (.ow (L (Dv.isort (mix a t t)))) (.ow (L (b.map (·*(t:Int))))) (.ow (L (mix a t t))) z' (hP.mix ⋯ h) hle (.inr rfl) (.inr rfl);refine⟨n*t,a2,b2,sa2,sb2,.sh (.int num),.sh (.int t),.sh (.int (num/7%4)),.ow (L (mix a t t)),z',?_,p2,hle,x1,x2⟩;rw[b9 (st1:=[.sh (L s),.sh (.int k0),.sh (.int (n*t)),.ow (L (Dv.isort (mix a t t))),.ow (L (b.map (·*(t:Int)))),.sh (.int k),.sh (.int num),.sh (.int t),.sh (.int (num/7%4)),.ow (L (mix a t t)),z'])]
   ·exact e
   ·have hso:=eB hmx false
    simp only[L] at hso hc2;simp only[sCons,sSet,aI,bB,keep_nil,Dv.give,Dv.open_,aw,aS,sIf,sFor,iRange,eB1,eCm,eOp,eVar,eInt,eLst,lNil,Dv.all,R.bind,RL.bind,Out.bind,ar,aQ,ag,ak,CN,CP,CM,CO,CT,CU,C8,if_true,fL,qq,hmul,decide_eq_true hle,decide_eq_false hkd,Dv.flatL,de (n:=(t:Int)) ⋯ ⋯,DG,bA,em,hso,hb.get,hc2]
 ·obtain⟨a2,b2,sa2,sb2,e,p2,x1,x2⟩:=hsw n a b sa sb z9 z10 h hn ha hb
  refine⟨n,a2,b2,sa2,sb2,.sh (.int num),.sh (.int t),.sh (.int (num/7%4)),z9,z10,?_,p2,hn,x1,x2⟩;rw[b9 (st1:=[.sh (L s),.sh (.int k0),.sh (.int n),sa,sb,.sh (.int k),.sh (.int num),.sh (.int t),.sh (.int (num/7%4)),z9,z10])]
  ·exact e
  ·simp only[sNil,sIf,eCm,eOp,eVar,eInt,Dv.all,R.bind,RL.bind,Out.bind,ar,ag,CN,CP,CM,CO,qq,hmul,decide_eq_false hle]
theorem iZ {P:Int->List Int->List Int->Prop}(hP:PairP P){s:List Int}{k0:Int}(hk0:0<=k0)(hk1:k0<=1000)(hsl:k0+9<=(s.length:Int)):∀ (ks:List Int) (n:Int) (a b:List Int) (sa sb z5 z6 z7 z8 z9 z10:Sl),(∀ k∈ks,0<=k/\k<=5)->P n a b->n<=12->Hs sa a->Hs sb b ->
  ∃ n' a' b' sa' sb' y5 y6 y7 y8 y9 y10,forGo 5 b_Q0R_l2 (ks.map .int) [.sh (L s),.sh (.int k0),.sh (.int n),sa,sb,z5,z6,z7,z8,z9,z10]=.nx [.sh (L s),.sh (.int k0),.sh (.int n'),sa',sb',y5,y6,y7,y8,y9,y10]/\P n' a' b'/\n'<=12/\Hs sa' a'/\Hs sb' b'
 | [],n,a,b,sa,sb,z5,z6,z7,z8,z9,z10,_,h,hn,ha,hb=>⟨n,a,b,sa,sb,z5,z6,z7,z8,z9,z10,rfl,h,hn,ha,hb⟩
 | k::r,n,a,b,sa,sb,z5,z6,z7,z8,z9,z10,hk,h,hn,ha,hb=>by
  obtain⟨n1,a1,b1,sa1,sb1,y6,y7,y8,y9,y10,e1,p1,hn1,ha1,hb1⟩:=ou hP (s:=s) (z6:=z6) (z7:=z7) (z8:=z8) (z9:=z9) (z10:=z10) hk0 hk1 (hk k (CS ..)) hsl h hn ha hb;obtain⟨n2,a2,b2,sa2,sb2,x5,x6,x7,x8,x9,x10,e2,p2⟩:=iZ hP hk0 hk1 hsl r n1 a1 b1 sa1 sb1 (.sh (.int k)) y6 y7 y8 y9 y10 (λ x hx=>hk x (CV _ hx)) p1 hn1 ha1 hb1;refine⟨n2,a2,b2,sa2,sb2,x5,x6,x7,x8,x9,x10,?_,p2⟩;rw[CN,ba (st':=[.sh (L s),.sh (.int k0),.sh (.int n1),sa1,sb1,.sh (.int k),y6,y7,y8,y9,y10])]
  ·exact e2
  ·simp only[CU,CT];exact e1
theorem vF {P:Int->List Int->List Int->Prop}(hP:PairP P){s:List Int}{k0:Int}(hk0:0<=k0)(hk1:k0<=1000)(hsl:k0+9<=(s.length:Int)):∃ n a b f,F_Q0R [L s,.int k0]=.ok (.tup [.int n,L a,L b]) f/\P n a b/\n<=12:=by
 obtain⟨n,a,b,sa,sb,y5,y6,y7,y8,y9,y10,e,p,hn,ha,hb⟩:=iZ hP (s:=s) hk0 hk1 hsl (upto 6) 1 [0] [0] (.ow (L [0])) (.ow (L [0])) .no .no .no .no .no .no (λ x hx=>by have:=mem_upto.mp hx;omega) hP.one ⋯ (.inr rfl) (.inr rfl);have hA:=(hP.beat p).1;have hB:=(hP.beat p).2;have hnp:0<n:=by have:=hA.pos;omega
 have hla:=hA.len;have hlb:=hB.len;simp only[L,CN,CP] at e;have hr:rngOk 6=true:=by decide
 have h6:(6:Int).toNat=6:=rfl;refine⟨n,Dv.isort (a.map λ x=>(x+bh s (k0+6)%n)%n),Dv.isort (b.map λ x=>(x+bh s (k0+7)%n)%n),false,?_,hP.swap (hP.turn _ (hP.swap (hP.turn _ p))),hn⟩;have ht1:=j7 (by_:=bh s (k0+6)%n) (xs:=a) hnp ⋯;have ht2:=j7 (by_:=bh s (k0+7)%n) (xs:=b) hnp ⋯;simp only[F_Q0R,b_Q0R,b_Q0R_t5,b_Q0R_t4,b_Q0R_t3,b_Q0R_t2,b_Q0R_t1,Dv.fn,sCons,sSet,aI,bB,mw,Dv.give,sRet,sFor,iRange,eOp,eVar,eInt,eLst,eTup,lNil,lCons,eCall,Dv.all,R.bind,RL.bind,Dv.R.bindL,Dv.RL.bindL,Out.bind,ar,aQ,ag,ak,CN,CP,CQ,C4,List.replicate,CZ,C1,CM,CO,CT,CU,C8,C2,Di,if_true,Nat.reduceAdd,Nat.reduceSub,bH,Dv.flatL,hr,h6,bA,e,ha.get,hb.get,c7 (s:=s) (k:=k0+6) ⋯ ⋯,c7 (s:=s) (k:=k0+7) ⋯ ⋯,aB hnp,ht1,ht2]
def BL (bs:List Bool):D:=.lst (bs.map .bl)
def fS (c:List Bool)(p:Int):List Bool:=c.set p.toNat true
theorem i7 (c:List Bool)(p:Int):(fS c p).length=c.length:=by unfold fS;rw[Dk]
theorem hV:∀ (ps:List Int) (c:List Bool),(ps.foldl fS c).length=c.length
 | [],c=>rfl
 | p::r,c=>by rw[C7,hV r,i7]
theorem nI:∀ (ps:List Int) (c:List Bool) (i:Nat),(∀ x∈ps,0<=x)->i<c.length->(ps.foldl fS c)[i]?=if (i:Int)∈ps then some true else c[i]?
 | [],c,i,_,_=>by simp
 | p::r,c,i,h,hi=>by
  have hp:=h p (CS ..);rw[C7,nI r (fS c p) i (λ x hx=>h x (CV _ hx)) (by rw[i7];exact hi)];by_cases h1:(i:Int)∈r
  ·rw[if_pos h1,if_pos (CV _ h1)]
  ·rw[if_neg h1]
   unfold fS;by_cases h2:(i:Int)=p
   ·rw[if_pos (by rw[h2];exact CS ..)]
    have:p.toNat=i:=⋯
    rw[this,Dp hi]
   ·rw[if_neg (by rw[Dw];exact λ z=>z.elim h2 h1),DB ⋯]
section
variable {n:Int}{A:List Int}
theorem qm (hn:0<n)(a1 a2:D)(s:Int):∀ (beat:List Int) (c:List Bool) (z:Sl),c.length=n.toNat->∃ z',forGo 5 b_Q0K_l1 (beat.map .int) [.sh (.int n),.sh a1,.sh a2,.ow (BL c),.sh (.int s),z] =
  .nx [.sh (.int n),.sh a1,.sh a2,.ow (BL ((beat.map λ b=>(b+s)%n).foldl fS c)),.sh (.int s),z']
 | [],c,z,_=>⟨z,rfl⟩
 | b::r,c,z,hc=>by
  have hm:=bu (n:=n) (a:=s+b) hn;have hcm:(s+b)%n=(b+s)%n:=by rw[ER]
  have hk:(s+b)%n<((c.map D.bl).length:Int):=by rw[CY];omega
  obtain⟨z',e⟩:=qm hn a1 a2 s r (fS c ((b+s)%n)) (.sh (.int b)) (by rw[i7];exact hc);refine⟨z',?_⟩;have e2:(c.map D.bl).set ((s+b)%n).toNat (.bl true)=(fS c ((b+s)%n)).map D.bl:=by
   unfold fS;rw[E9,hcm]
  rw[CN,CN,C7,ba (st':=[.sh (.int n),.sh a1,.sh a2,.ow (BL (fS c ((b+s)%n))),.sh (.int s),.sh (.int b)])]
  ·exact e
  ·unfold BL
   rw[CY] at hk;simp only[b_Q0K_l1,sPut,eOp,eVar,eBl,Dv.all,R.bind,RL.bind,Out.bind,ar,aQ,ag,pS,CN,CP,CM,CO,CT,CU,C2,if_true,bH,CY,aB hn,decide_eq_true hm.1,decide_eq_true hk,e2]
theorem mS (hn:0<n)(a2:D):∀ (starts:List Int) (c:List Bool) (z y:Sl),c.length=n.toNat->∃ z' y',forGo 4 b_Q0K_l2 (starts.map .int) [.sh (.int n),.sh (L A),.sh a2,.ow (BL c),z,y] =
  .nx [.sh (.int n),.sh (L A),.sh a2,.ow (BL ((hits n A starts).foldl fS c)),z',y']
 | [],c,z,y,_=>⟨z,y,rfl⟩
 | s::r,c,z,y,hc=>by
  obtain⟨y1,e1⟩:=qm hn (L A) a2 s A c y hc;obtain⟨z',y',e⟩:=mS hn a2 r ((A.map λ b=>(b+s)%n).foldl fS c) (.sh (.int s)) y1 (by rw[hV];exact hc);refine⟨z',y',?_⟩;have e3:hits n A (s::r)=(A.map λ b=>(b+s)%n)++hits n A r:=by simp[hits]
  rw[e3,Ea,CN];rw[ba (st':=[.sh (.int n),.sh (L A),.sh a2,.ow (BL ((A.map λ b=>(b+s)%n).foldl fS c)),.sh (.int s),y1])]
  ·exact e
  ·simp only[b_Q0K_l2,Dv.give,Dv.open_,aK,aw,aS,sFor,iSeq,eVar,ak,CN,CP,CM,CO,CT,CU,C7,C8,C5,e1]
def cL (n:Int)(A S:List Int):List Bool:=(upto n.toNat).map λ p=>decide (p∈kz n A S)
theorem mem_hits {S:List Int}{p:Int}:p∈hits n A S ↔ p∈kz n A S:=by
 rw[mem_kz];unfold hits;rw[EC]
 constructor
 ·rintro ⟨s,hs,e⟩
  obtain⟨x,hx,e⟩:=List.mem_map.mp e;exact⟨s,hs,x,hx,e⟩
 ·rintro ⟨s,hs,x,hx,e⟩
  exact⟨s,hs,List.mem_map.mpr ⟨x,hx,e⟩⟩
theorem yq (hn:0<n)(S:List Int):(hits n A S).foldl fS (List.replicate n.toNat false)=cL n A S:=by
 refine El λ i=>?_
 by_cases hi:i<n.toNat
 ·rw[nI _ _ _ (λ x hx=>(ej ⋯ x hx).1) (by simpa using hi)]
  unfold cL;rw[Dc];have:(upto n.toNat)[i]?=some (i:Int):=by
   unfold upto;rw[Dc,D0 hi];rfl
  rw[this];by_cases h:(i:Int)∈hits n A S
  ·rw[if_pos h];simp[mem_hits.mp h]
  ·rw[if_neg h]
   have h2:(i:Int)∉kz n A S:=λ z=>h (mem_hits.mpr z)
   simp[h2,hi]
 ·rw[Dm (by rw[hV];simp;omega),Dm (by unfold cL;rw[CY,upto_len];omega)]
theorem n0:∀ bs:List Bool,Dv.flatL (bs.map .bl)=true
 | []=>rfl
 | b::r=>by rw[CN];unfold Dv.flatL;rw[n0 r];rfl
theorem CI {n:Int}(h:0<=n)(h2:n<=60):opD .mul (.lst [.bl false]) (.int n)=.ok (BL (List.replicate n.toNat false)) true:=by
 unfold opD BL;have h3:(decide (-100000<=n)&&decide (n<=(Dv.mx:Int))&&decide ([D.bl false].length*n.toNat<=Dv.mx))=true:=by
  simp only[C3,decide_eq_true_eq,CQ,C4];unfold Dv.mx;refine⟨⟨?_,?_⟩,?_⟩ <;>omega
 simp only;rw[if_pos h3];have:∀ m:Nat,(List.replicate m [D.bl false]).flatten=(List.replicate m false).map .bl:=λ m=>by
  induction m with
  | zero=>rfl
  | succ m ih=>rw[Du,DL,ih,Du];rfl
 rw[this];rfl
theorem keepB (bs:List Bool):keepD (BL bs) true=some (.ow (BL bs)):=by unfold BL keepD;simp[n0]
theorem oT (hn:0<n)(n2:n<=60)(S:List Int):F_Q0K [.int n,L A,L S]=.ok (BL (cL n A S)) true:=by
 obtain⟨z,y,e⟩:=mS (n:=n) (A:=A) hn (L S) S (List.replicate n.toNat false) .no .no (by simp);rw[yq hn] at e;have hr:=CI (n:=n) ⋯ n2;have hk:=keepB (List.replicate n.toNat false);unfold BL at e hr hk ⊢;simp only[F_Q0K,b_Q0K,b_Q0K_t1,b_Q0K_t2,Dv.fn,sCons,sSet,Dv.give,Dv.open_,aK,aE,aw,aS,sRetO,sFor,iSeq,eOp,eVar,eBl,eLst,lNil,lCons,Dv.all,R.bind,RL.bind,Dv.R.bindL,Dv.RL.bindL,Out.bind,bf,ar,ag,ak,CN,CP,CQ,C4,List.replicate,CZ,C1,CM,CO,CT,CU,C7,C8,C5,C2,Nat.reduceAdd,Nat.reduceSub,hr,hk,e,n0]
theorem yX:∀ bs:List Bool,Dv.eqsD (bs.map .bl) (.bl false)=some (bs.map λ b=>b == false)
 | []=>rfl
 | b::r=>by
  rw[CN];unfold Dv.eqsD;rw[yX r,yQ];rfl
theorem yZ:∀ bs:List Bool,Dv.depthL (bs.map .bl)=0
 | []=>by unfold Dv.depthL;rfl
 | b::r=>by rw[CN];unfold Dv.depthL;rw[yZ r,lA];rfl
theorem rK (hn:0<n)(n2:n<=60){S r:List Int}{m:Int}(hf:fre n (kz n A S)=m::r):Dv.indexD (BL (cL n A S)) (.bl false)=.ok (.int m) true:=by
 have hm:m∈fre n (kz n A S):=by rw[hf];exact CS ..
 obtain⟨hm1,hm2⟩:=mem_fre.mp hm;have hu:=wG (n:=n) (kz n A S);rw[hf] at hu;have hlow:∀ j:Int,0<=j->j<m->j∈kz n A S:=λ j h0 h1=>by
  by_cases z:j∈kz n A S
  ·exact z
  ·have:j∈fre n (kz n A S):=mem_fre.mpr ⟨⟨h0,⋯⟩,z⟩
   rw[hf] at this
   rcases List.mem_cons.mp this with rfl|this
   ·omega
   ·have:=(List.pairwise_cons.mp hu).1 j this
    omega
 have hg:∀ j:Nat,j<n.toNat->((cL n A S).map λ b=>b == false)[j]?=some (!decide ((j:Int)∈kz n A S)):=λ j hj=>by
  unfold cL;rw[Dc,Dc];have:(upto n.toNat)[j]?=some (j:Int):=by
   unfold upto;rw[Dc,D0 hj];rfl
  rw[this];cases q:decide ((j:Int)∈kz n A S) <;>simp[q]
 have hl:((cL n A S).map λ b=>b == false).length=n.toNat:=by unfold cL;rw[CY,CY,upto_len]
 have key:((cL n A S).map λ b=>b == false).findIdx? id=some m.toNat:=by
  rw[List.findIdx?_eq_some_iff_getElem];refine⟨by rw[hl];omega,?_,λ j hj=>?_⟩
  ·have h1:=hg m.toNat ⋯
   rw[Dg (by rw[hl];omega),Option.some.injEq] at h1;rw[h1,show ((m.toNat:Nat):Int)=m by omega];simp[hm2]
  ·have h1:=hg j ⋯
   rw[Dg (by rw[hl];omega),Option.some.injEq] at h1;rw[h1];simp[hlow (j:Int) ⋯ ⋯]
 unfold Dv.indexD BL;have z:(decide (Dv.depthL ((cL n A S).map .bl)<=8)&&decide (Dv.depthD (.bl false)<=8)&&decide (((cL n A S).map D.bl).length<=Dv.mx))=true:=by
  rw[yZ,lA,CY];have:(cL n A S).length<=Dv.mx:=by unfold cL;rw[CY,upto_len];unfold Dv.mx;omega
  rw[decide_eq_true this];rfl
 simp only[z,if_true,yX,key];rw[show ((m.toNat:Nat):Int)=m by omega]
theorem Co {S:List Int}{p:Int}(hp:0<=p/\p<n):Dv.at? ((cL n A S).map .bl) p=some (.bl (decide (p∈kz n A S))):=by
 unfold Dv.at? cL;rw[if_pos hp.1,Dc,Dc];have:(upto n.toNat)[p.toNat]?=some p:=by
  unfold upto;rw[Dc,D0 ⋯];simp;omega
 rw[this];rfl
def fo (X:List (List Int))(T:List Int):Bool:=X.all λ r=>!(T.all λ t=>decide (t∈r))
theorem j6 {a0:D}{T:List Int}(hT:T.length<=1000):∀ (X:List (List Int)) (z:Sl),∃ z',forGo 2 b_Q0P_l1 (X.map L) [.sh a0,.sh (L T),z]=if fo X T then .nx [.sh a0,.sh (L T),z'] else .ret (.bl false) true
 | [],z=>⟨z,rfl⟩
 | r::X,z=>by
  have hc:c_Q0P_1 [some a0,some (L T),some (L r)]=.ok (L (T.filter λ t=>!decide (t∈r))) true:=by
   have:=cG (elt:=eVar 0) (cond:=(eCm .notin (eVar 0) (eVar 1))) (is:=[2]) (it:=(iSeq (eVar 1))) (ρ:=[some a0,some (L T),some (L r)]) (c:=λ t=>!decide (t∈r)) (g:=λ t=>t) (xs:=T) (f:=false) rfl ⋯ (λ t _=>by simp only[eCm,eVar,Dv.pick,R.bind,RL.bind,Out.bind,ag,ak,CN,CP,CM,CO,C5,jN]) (λ t _ _=>by simp only[eVar,Dv.pick,ag,CN,CP,CM,CO,C5]);simp only[ES] at this;exact this
  rw[CN];by_cases q:(T.filter λ t=>!decide (t∈r))=[]
  ·have hq:(T.all λ t=>decide (t∈r))=true:=by
    rw[DP];intro t ht;have:t∉T.filter λ t=>!decide (t∈r):=by rw[q];simp
    rw[D7] at this;by_cases z:t∈r
    ·simpa using z
    ·exact absurd ⟨ht,by simpa using z⟩ this
   refine⟨z,?_⟩;have hn:fo (r::X) T=false:=by unfold fo;rw[E1,hq];rfl
   rw[hn,tS (v:=.bl false) (f:=true)]
   ·rfl
   ·simp only[b_Q0P_l1,sIf,sRet,eCm,eBl,eLst,lNil,Dv.all,R.bind,RL.bind,Out.bind,ar,CN,CP,CT,CU,f6,hc,decide_eq_true q]
  ·have hq:(T.all λ t=>decide (t∈r))=false:=by
    cases z:T.all λ t=>decide (t∈r) with
    | false=>rfl
    | true=>
     refine absurd (List.filter_eq_nil_iff.mpr λ t ht=>?_) q;have:=List.all_eq_true.mp z t ht;simpa using this
   obtain⟨z',e⟩:=j6 (a0:=a0) hT X (.sh (L r));refine⟨z',?_⟩;have hn:fo (r::X) T=fo X T:=by unfold fo;rw[E1,hq];rfl
   rw[hn,ba (st':=[.sh a0,.sh (L T),.sh (L r)]),e];simp only[b_Q0P_l1,sNil,sIf,eCm,eLst,lNil,Dv.all,R.bind,RL.bind,Out.bind,ar,CN,CP,CT,CU,f6,hc,decide_eq_false q]
theorem t9 (X:List (List Int)){T:List Int}(hT:T.length<=1000):F_Q0P [LL X,L T]=.ok (.bl (fo X T)) true:=by
 obtain⟨z,e⟩:=j6 (a0:=LL X) hT X .no;cases q:fo X T with
 | true=>
  rw[q,if_pos rfl] at e;unfold LL at e ⊢;simp only[F_Q0P,b_Q0P,b_Q0P_t1,Dv.fn,sCons,Dv.give,Dv.open_,aK,aE,aw,sRet,sFor,iSeq,eVar,eBl,R.bind,RL.bind,Out.bind,ak,CN,CP,CQ,C4,List.replicate,CZ,C1,CM,CT,C7,C8,C5,Nat.reduceAdd,Nat.reduceSub,e]
 | false=>
  rw[q,if_neg (by simp)] at e;unfold LL at e ⊢;simp only[F_Q0P,b_Q0P,b_Q0P_t1,Dv.fn,sCons,Dv.give,Dv.open_,aK,aE,aw,sFor,iSeq,eVar,R.bind,RL.bind,Out.bind,ak,CN,CP,CQ,C4,List.replicate,CZ,C1,CM,CT,C7,C8,C5,Nat.reduceAdd,Nat.reduceSub,e]
end
theorem sR {x:Nat}{body:SS}{d:D}{r:List D}{st st':St}(h:body (st.set x (.sh d))=.brk st'):forGo x body (d::r) st=.nx st':=by
 unfold forGo;rw[h]
section
variable {n:Int}{A:List Int}
theorem uy (hn:0<n){S:List Int}{st:Int}(hA:A.length<=1000){a2 a3 a4 a6 a7 a9:Option D}:
  c_Q0N_1 [some (.int n),some (L A),a2,a3,a4,some (BL (cL n A S)),a6,a7,some (.int st),a9]=.ok (L ((A.filter λ y=>decide ((st+y)%n∈kz n A S)).map λ _=>1)) true:=by
 unfold c_Q0N_1;refine cG (f:=false) (c:=λ y=>decide ((st+y)%n∈kz n A S)) (g:=λ _=>1) rfl ⋯ (λ y _=>?_) λ y _ _=>rfl
 have hr:=bu (n:=n) (a:=st+y) hn;unfold BL;simp only[eIx,Dv.ixD,eOp,eVar,Dv.pick,R.bind,RL.bind,Out.bind,ag,pS,ak,CN,CP,CM,CO,C5,Dn,bH,aB hn,Co hr]
theorem mX (hn:0<n)(hA:A.length<=1000){S B:List Int}{X:List (List Int)}{m:Int}(hS:S.length<=500):∀ (xs:List Int) (z7 z8 z9:Sl),(∃ x∈xs,(m-x)%n∈B) ->
  (∀ (pre:List Int) (x:Int) (post:List Int),xs=pre++x::post->(∀ y∈pre++[x],(m-y)%n∉B)->(A.filter λ y=>decide (((m-x)%n+y)%n∈kz n A S))=[]->fo X (S++[(m-x)%n])=true) ->
  ∃ x∈xs,(m-x)%n∈B/\∃ y7 y8 y9,forGo 7 b_Q0N_l1 (xs.map .int) [.sh (.int n),.sh (L A),.sh (L B),.sh (LL X),.ow (L S),.ow (BL (cL n A S)),.sh (.int m),z7,z8,z9] =
   .nx [.sh (.int n),.sh (L A),.sh (L B),.sh (LL X),.ow (L (S++[(m-x)%n])),.ow (BL (cL n A S)),.sh (.int m),y7,y8,y9]
 | [],_,_,_,h,_=>by obtain⟨x,hx,_⟩:=h;cases hx
 | x::r,z7,z8,z9,h,hno=>by
  rw[CN];have hb:decide (S.length<Dv.mx)=true:=decide_eq_true (by unfold Dv.mx;omega);by_cases hx:(m-x)%n∈B
  ·refine⟨x,CS ..,hx,.sh (.int x),.sh (.int ((m-x)%n)),z9,?_⟩
   refine sR ?_
   have e1:L (S++[(m-x)%n])=.lst (S.map .int++[.int ((m-x)%n)]):=by unfold L;rw[D6];rfl
   rw[e1];unfold L LL BL;have hci:cmD .isin (.int ((m-x)%n)) (.lst (B.map .int))=.ok (.bl (decide ((m-x)%n∈B))) true:=pK _ _;simp only[b_Q0N_l1,sCons,sSet,aI,sIf,sApp,eCm,eOp,eVar,Dv.all,R.bind,RL.bind,Out.bind,ar,aQ,ag,ak,CN,CP,CM,CO,CT,CU,C2,if_true,cu,CY,aB hn,hb,sBrk,hci,decide_eq_true hx]
  ·have h':∃ y∈r,(m-y)%n∈B:=by
    obtain⟨y,hy,h2⟩:=h
    rcases List.mem_cons.mp hy with rfl|hy
    ·exact absurd h2 hx
    ·exact⟨y,hy,h2⟩
   obtain⟨y,hy,h2,y7,y8,y9,e⟩:=mX hn hA (S:=S) (B:=B) (X:=X) (m:=m) hS r (.sh (.int x)) (.sh (.int ((m-x)%n))) (.ow (L ((A.filter λ y=>decide (((m-x)%n+y)%n∈kz n A S)).map λ _=>1))) h' λ pre z post ez hz=>hno (x::pre) z post (by rw[ez];rfl) (λ w hw=>by
    rcases List.mem_cons.mp hw with rfl|hw
    ·exact hx
    ·exact hz w hw)
   refine⟨y,CV _ hy,h2,y7,y8,y9,?_⟩;rw[ba (st':=[.sh (.int n),.sh (L A),.sh (L B),.sh (LL X),.ow (L S),.ow (BL (cL n A S)),.sh (.int m),.sh (.int x),.sh (.int ((m-x)%n)),.ow (L ((A.filter λ y=>decide (((m-x)%n+y)%n∈kz n A S)).map λ _=>1))]),e];have ht:=λ (a2 a3 a4 a6 a7 a9:Option D)=>uy (n:=n) (A:=A) hn (S:=S) (st:=(m-x)%n) hA (a2:=a2) (a3:=a3) (a4:=a4) (a6:=a6) (a7:=a7) (a9:=a9)
   by_cases hq:(A.filter λ y=>decide (((m-x)%n+y)%n∈kz n A S))=[]
   ·have hN:=hno [] x r rfl (λ w hw=>by rw[C1,DE] at hw;subst hw;exact hx) hq
    have hnone:=t9 X (T:=S++[(m-x)%n]) (by rw[C9,Ds];omega);rw[hN] at hnone;have hcat:=gf (a:=S) (b:=[(m-x)%n]) (by simp;omega);simp only[L,CN,CP] at hcat;rw[hq] at ht ⊢;simp only[CP,L] at ht;simp only[L] at hnone;simp only[L,CP];have hci:cmD .isin (.int ((m-x)%n)) (.lst (B.map .int))=.ok (.bl (decide ((m-x)%n∈B))) true:=pK _ _;have hce:cmD .eq (.lst []) (.lst [])=.ok (.bl true) true:=g9 [] [];simp only[b_Q0N_l1,sCons,sNil,sSet,aI,keep_nil,sIf,eAnd,eNot,eCm,eOp,eVar,eLst,lNil,lCons,eCall,Dv.all,R.bind,RL.bind,Dv.R.bindL,Dv.RL.bindL,Out.bind,ar,aQ,ag,ak,CN,CP,CM,CO,CT,CU,C2,Dx,cu,aB hn,ht,hci,decide_eq_false hx,hce,hcat,hnone]
   ·have hq2:¬ ((A.filter λ y=>decide (((m-x)%n+y)%n∈kz n A S)).map λ _=>(1:Int))=[]:=by simpa using hq
    simp only[L] at ht;have he:=f6 ((A.filter λ y=>decide (((m-x)%n+y)%n∈kz n A S)).map λ _=>(1:Int));have hk:=bB ((A.filter λ y=>decide (((m-x)%n+y)%n∈kz n A S)).map λ _=>(1:Int));rw[decide_eq_false hq2] at he;generalize ((A.filter λ y=>decide (((m-x)%n+y)%n∈kz n A S)).map λ _=>(1:Int))=tw at *;simp only[L] at he hk;simp only[L];have hci:cmD .isin (.int ((m-x)%n)) (.lst (B.map .int))=.ok (.bl (decide ((m-x)%n∈B))) true:=pK _ _;simp only[b_Q0N_l1,sCons,sNil,sSet,aI,sIf,eAnd,eCm,eOp,eVar,eLst,lNil,Dv.all,R.bind,RL.bind,Out.bind,ar,aQ,ag,ak,CN,CP,CM,CO,CT,CU,cu,aB hn,ht,hk,hci,decide_eq_false hx,he]
theorem ur (h:Beat n A){S B r:List Int}{RR:List (List Int)}{d:Nat}{m:Int}(g:Good n A S)(ne:S≠[])(hf:fre n (kz n A S)=m::r)(hd:dfs n A (d+1) S=B::RR){x:Int}(hx:x∈A)(hB:(m-x)%n∈B):
  ∃ R',dfs n A d (S++[(m-x)%n])=B::R':=by
 have hm:m∈fre n (kz n A S):=by rw[hf];exact CS ..
 have hm1:=(mem_fre.mp hm).1;have fB:Fill n A B:=(bV h (d+1) S g ne B (by rw[hd];exact CS ..)).1;unfold dfs at hd;rw[hf] at hd;simp only at hd;have key:∀ ks:List Int,(∀ s∈ks,s∈kids n A S m)->(ks.flatMap λ s=>dfs n A d (S++[s]))=B::RR->∃ R',dfs n A d (S++[(m-x)%n])=B::R':=by
  intro ks
  induction ks with
  | nil=>intro _ e;simp at e
  | cons s ks ih=>
   intro hk e;rw[DM] at e;cases q:dfs n A d (S++[s]) with
   | nil=>rw[q,C1] at e;exact ih (λ t ht=>hk t (CV _ ht)) e
   | cons B' R'=>
    rw[q,CZ] at e;obtain⟨e1,_⟩:=List.cons.inj e;subst e1;obtain⟨g1,y,hy,e2⟩:=g.kid h hm (hk s (CS ..));have hs:s∈B':=(bV h d (S++[s]) g1 (by simp) B' (by rw[q];exact CS ..)).2 s (by simp);have:y=x/\s=(m-x)%n:=fB.inj y hy x hx s hs ((m-x)%n) hB (by rw[e2,i4 hm1]);rw[<- this.2];exact⟨R',q⟩
 exact key _ (λ s hs=>hs) hd
theorem uw (h:Beat n A){S B r:List Int}{RR X:List (List Int)}{d:Nat}{m:Int}(g:Good n A S)(ne:S≠[])(hf:fre n (kz n A S)=m::r)(hd:dfs n A (d+1) S=B::RR)(hdl:B.length-S.length<d+1)
  (hX:∀ r∈X,Fill n A r) {xs ys:List Int} {x:Int} (hA:A=xs++x::ys) (hfst:∀ y∈xs++[x],(m-y)%n∉B) (hq:(A.filter λ y=>decide (((m-x)%n+y)%n∈kz n A S))=[]):fo X (S++[(m-x)%n])=true:=by
 have hm:m∈fre n (kz n A S):=by rw[hf];exact CS ..
 have hm1:=(mem_fre.mp hm).1;have fB:Fill n A B:=(bV h (d+1) S g ne B (by rw[hd];exact CS ..)).1;have hp:=h.pos;have hkid:(m-x)%n∈kids n A S m:=mem_kids.mpr ⟨⟨x,by rw[hA];simp,rfl⟩,λ y hy z=>by
  have:y∈A.filter λ y=>decide (((m-x)%n+y)%n∈kz n A S):=List.mem_filter.mpr ⟨hy,by rw[ER];simpa using z⟩
  rw[hq] at this;cases this⟩
 obtain⟨K1,K2,hK,hK1⟩:∃ K1 K2,kids n A S m=K1++(m-x)%n::K2/\∀ t∈K1,t∉B:=by
  have h1:=(List.mem_filter.mp (show (m-x)%n∈(A.map λ x=>(m-x)%n).filter λ s=>(Tf n A s).all λ p=>!decide (p∈kz n A S) from hkid)).2;refine⟨(xs.map λ x=>(m-x)%n).filter λ s=>(Tf n A s).all λ p=>!decide (p∈kz n A S),(ys.map λ x=>(m-x)%n).filter λ s=>(Tf n A s).all λ p=>!decide (p∈kz n A S),?_,λ t ht=>?_⟩
  ·unfold kids
   conv=>lhs;arg 2;rw[hA]
   rw[D6,List.filter_append,CN,D3,if_pos h1]
  ·obtain⟨y,hy,rfl⟩:=List.mem_map.mp (List.mem_filter.mp ht).1
   exact hfst y (DC _ hy)
 have hnil:dfs n A d (S++[(m-x)%n])=[]:=by
  unfold dfs at hd;rw[hf] at hd;simp only at hd;rw[hK] at hd;have hin:∀ t∈K1++[(m-x)%n],t∈kids n A S m:=λ t ht=>by rw[hK];simp at ht ⊢;rcases ht with ht|ht <;>simp[ht]
  have hout:∀ t∈K1++[(m-x)%n],t∉B:=λ t ht=>by
   rcases List.mem_append.mp ht with ht|ht
   ·exact hK1 t ht
   ·rw[DE] at ht;subst ht;exact hfst x (by simp)
  have step:∀ t∈K1++[(m-x)%n],∀ (C:List Int) (R1 R2:List (List Int)),dfs n A d (S++[t])=C::R1->C::R2≠B::RR:=by
   intro t ht C R1 R2 q e;obtain⟨rfl,_⟩:=List.cons.inj e;obtain⟨g1,_⟩:=g.kid h hm (hin t ht);exact hout t ht ((bV h d (S++[t]) g1 (by simp) C (by rw[q];exact CS ..)).2 t (by simp))
  clear hK hK1 hin hout
  induction K1 with
  | nil=>
   rw[C1,DM] at hd;cases q:dfs n A d (S++[(m-x)%n]) with
   | nil=>rfl
   | cons C R1=>
    rw[q,CZ] at hd;exact absurd hd (step _ (by simp) C R1 _ q)
  | cons t K1 ih=>
   rw[CZ,DM] at hd;cases q:dfs n A d (S++[t]) with
   | nil=>rw[q,C1] at hd;exact ih hd λ u hu=>step u (CV _ hu)
   | cons C R1=>
    rw[q,CZ] at hd;exact absurd hd (step _ (by simp) C R1 _ q)
 obtain⟨g1,_⟩:=g.kid h hm hkid;unfold fo;rw[DP];intro r hr;cases q:(S++[(m-x)%n]).all λ t=>decide (t∈r) with
 | false=>rfl
 | true=>
  exfalso;have fr:=hX r hr;have sub:∀ t∈S++[(m-x)%n],t∈r:=λ t ht=>by simpa using List.all_eq_true.mp q t ht
  have hlen:r.length=B.length:=by
   have h1:=fr.len;have h2:=fB.len;exact DR h.len1 ⋯
  have hS:=bX g1.nd sub;rw[C9,Ds] at hS;have:=lj fr d (S++[(m-x)%n]) g1.nd sub (by simp) (by rw[C9,Ds];omega);rw[hnil] at this;cases this
theorem ij (h:Beat n A)(n2:n<=60){B:List Int}{X:List (List Int)}(hX:∀ r∈X,Fill n A r)(fB:Fill n A B):∀ (N:Nat) (S:List Int) (d:Nat) (RR:List (List Int)) (z5 z6 z7 z8 z9:Sl),Good n A S->S≠[]->(∀ s∈S,s∈B)->dfs n A d S=B::RR->B.length-S.length<d->B.length-S.length<N ->
  ∃ S' y5 y6 y7 y8 y9,whileGo (eCm .lt (eB1 Dv.lenD (eVar 4)) (eB1 Dv.lenD (eVar 2))) b_Q0N_l2 N [.sh (.int n),.sh (L A),.sh (L B),.sh (LL X),.ow (L S),z5,z6,z7,z8,z9]=.nx [.sh (.int n),.sh (L A),.sh (L B),.sh (LL X),.ow (L S'),y5,y6,y7,y8,y9]/\S'.Perm B
 | 0,S,d,RR,z5,z6,z7,z8,z9,_,_,_,_,_,hN=>⋯
 | N+1,S,d,RR,z5,z6,z7,z8,z9,g,ne,sub,hd,hdl,hN=>by
  have hp:=h.pos;have hA:=h.len;have hBl:=fB.oth.len;have hSl:=bX g.nd sub;have hc:(eCm .lt (eB1 Dv.lenD (eVar 4)) (eB1 Dv.lenD (eVar 2))) (Dv.all [.sh (.int n),.sh (L A),.sh (L B),.sh (LL X),.ow (L S),z5,z6,z7,z8,z9])=.ok (.bl (decide ((S.length:Int)<(B.length:Int)))) true:=by
   simp only[eB1,Dv.lenD,eCm,eVar,Dv.all,R.bind,RL.bind,Out.bind,ar,aQ,ak,CN,CP,CM,CO,fL,CY,L]
  unfold whileGo;rw[hc];by_cases hlt:S.length<B.length
  ·rw[decide_eq_true (show (S.length:Int)<(B.length:Int) by omega)]
   simp only;cases hf:fre n (kz n A S) with
   | nil=>
    exfalso;have h1:=(fu (n:=n) ⋯ (iy (n:=n) (A:=A) S) (jn ⋯)).mp hf;rw[g.len h.nd] at h1;have h2:=fB.len;have:=DR h.len1 (show A.length*S.length=A.length*B.length by omega);omega
   | cons m r=>
    cases d with
    | zero=>omega
    | succ d=>
     have hm:m∈fre n (kz n A S):=by rw[hf];exact CS ..
     obtain⟨hm1,hm2⟩:=mem_fre.mp hm;have hcov:m∈hits n A B:=fB.perm.mem_iff.mpr (List.mem_map.mpr ⟨m.toNat,List.mem_range.mpr ⋯,⋯⟩);have hex:∃ x∈A,(m-x)%n∈B:=by
      unfold hits at hcov;obtain⟨b,hb,hcov⟩:=List.mem_flatMap.mp hcov;obtain⟨x,hx,hxm⟩:=List.mem_map.mp hcov;have hbr:=fB.oth.rg b hb;have:(m-x)%n=b:=by
       have:(m-x)%n=b%n:=by
        rw[<- hxm];refine mod_eq_iff.mpr ⟨-((x+b)/n),?_⟩;have:=ED (x+b) n;rw[FP];omega
       rw[this];exact Em hbr.1 hbr.2
      exact⟨x,hx,by rw[this];exact hb⟩
     obtain⟨x,hx,hxB,y7,y8,y9,e⟩:=mX (n:=n) (A:=A) ⋯ ⋯ (S:=S) (B:=B) (X:=X) (m:=m) ⋯ A z7 z8 z9 hex (λ pre x post ez hz hq=>uw h g ne hf hd hdl hX ez hz hq);obtain⟨R',hd'⟩:=ur h g ne hf hd hx hxB;have hkB:∀ t∈S++[(m-x)%n],t∈B:=λ t ht=>by
      rcases List.mem_append.mp ht with ht|ht
      ·exact sub t ht
      ·rw[DE] at ht;subst ht;exact hxB
     have hxm:=i4 (n:=n) (x:=x) hm1;have hnot:(m-x)%n∉S:=λ z=>hm2 (mem_kz.mpr ⟨_,z,x,hx,hxm⟩)
     have nd':(S++[(m-x)%n]).Nodup:=List.nodup_append.mpr ⟨g.nd,by simp,λ a ha c hc e=>by simp at hc;subst hc;subst e;exact hnot ha⟩;have g':Good n A (S++[(m-x)%n]):=(j5 fB).less nd' hkB;obtain⟨S',w5,w6,w7,w8,w9,e2,hS'⟩:=ij h n2 hX fB N (S++[(m-x)%n]) d R' (.ow (BL (cL n A S))) (.sh (.int m)) y7 y8 y9 g' (by simp) hkB hd' (by rw[C9,Ds];omega) (by rw[C9,Ds];omega);refine⟨S',w5,w6,w7,w8,w9,?_,hS'⟩;have hfil:=oT (n:=n) (A:=A) ⋯ n2 S;have hk:=keepB (cL n A S);have hix:=rK (n:=n) (A:=A) ⋯ n2 hf;have hbody:b_Q0N_l2 [.sh (.int n),.sh (L A),.sh (L B),.sh (LL X),.ow (L S),z5,z6,z7,z8,z9]=.nx [.sh (.int n),.sh (L A),.sh (L B),.sh (LL X),.ow (L (S++[(m-x)%n])),.ow (BL (cL n A S)),.sh (.int m),y7,y8,y9]:=by
      unfold b_Q0N_l2;rw[b9 (st1:=[.sh (.int n),.sh (L A),.sh (L B),.sh (LL X),.ow (L S),.ow (BL (cL n A S)),z6,z7,z8,z9]),b9 (st1:=[.sh (.int n),.sh (L A),.sh (L B),.sh (LL X),.ow (L S),.ow (BL (cL n A S)),.sh (.int m),z7,z8,z9])]
      ·simp only[Dv.give,Dv.open_,aK,aw,aS,sFor,iSeq,eVar,ak,CN,CP,CM,CO,CT,CU,C7,C8,C5]
       simp only[L] at e;simp only[L];exact e
      ·unfold BL at hix ⊢
       simp only[sSet,aI,eVar,eBl,Dv.all,R.bind,RL.bind,Out.bind,ar,aQ,ak,CN,CP,CM,CO,CT,CU,eIndex,hix]
      ·simp only[sSet,eVar,lNil,lCons,eCall,Dv.all,R.bind,RL.bind,Dv.R.bindL,Dv.RL.bindL,Out.bind,ar,aQ,ag,ak,CN,CP,CM,CO,CT,CU,C2,Di,hfil,hk]
     rw[hbody];exact e2
  ·rw[decide_eq_false (show ¬ (S.length:Int)<(B.length:Int) by omega)]
   refine⟨S,z5,z6,z7,z8,z9,rfl,?_⟩;exact(DN g.nd fB.oth.nd).mpr λ x=>⟨sub x,λ hx=>by
    by_cases z:x∈S
    ·exact z
    ·have:=bX (S:=x::S) (B:=B) (List.nodup_cons.mpr ⟨z,g.nd⟩) (λ s hs=>by
      rcases List.mem_cons.mp hs with rfl|hs
      ·exact hx
      ·exact sub s hs)
     rw[CQ] at this;omega⟩
theorem tu (h:Beat n A)(n2:n<=60){B:List Int}{X RR:List (List Int)}{d:Nat}(hX:∀ r∈X,Fill n A r)(fB:Fill n A B)(h0:(0:Int)∈B)(hd:dfs n A d [0]=B::RR)(hdl:B.length-1<d):F_Q0N [.int n,L A,L B,LL X]=.ok (.bl true) true:=by
 obtain⟨S',y5,y6,y7,y8,y9,e,hS⟩:=ij h n2 hX fB 100000 [0] d RR .no .no .no .no .no (gY h) (by simp) (λ s hs=>by simp at hs;subst hs;exact h0) hd (by simpa using hdl) (by have:=fB.oth.len;have:=h.pos;simp;omega);have hl:=hS.length_eq;have hBl:=fB.oth.len;have hs:=eB (xs:=S') ⋯ false;rw[fN hS,fB.oth.sorted] at hs;have e1:L [0]=.lst [.int 0]:=rfl;rw[e1] at e;unfold F_Q0N b_Q0N b_Q0N_t1 b_Q0N_t2 Dv.fn;simp only[CN,CP,CQ,C4,List.replicate,CZ,C1,Nat.reduceAdd,Nat.reduceSub];rw[b9 (st1:=[.sh (.int n),.sh (L A),.sh (L B),.sh (LL X),.ow (.lst [.int 0]),.no,.no,.no,.no,.no]),b9 (st1:=[.sh (.int n),.sh (L A),.sh (L B),.sh (LL X),.ow (L S'),y5,y6,y7,y8,y9])]
 ·simp only[sRet,eB1,eCm,eVar,Dv.all,R.bind,RL.bind,Out.bind,ar,aQ,ak,CN,CP,CM,CO,decide_true,g9,hs,decide_true]
 ·exact e
 ·simp only[sSet,mw,eInt,eLst,lNil,lCons,R.bind,RL.bind,Dv.R.bindL,Dv.RL.bindL,Out.bind,CT,CU,C2]
end
open Dv (D R)
def evq (A:List Int)(q:Nat):Bool:=(upto (q/lpf q)).all (eqB A (lpf q) (q/lpf q))
def frE (n:Int)(A:List Int):Bool:=decide (((jb (((ppI n).filter λ d=>evq A d.toNat).map λ d=>lpf d.toNat):Nat):Int)=(A.length:Int))
theorem Ag:((List.range 61).all λ q=>!lq q || (ie (lpf q)&&(List.range 6).any λ a=>decide (lpf q ^ (a+1)=q)&&decide (q/lpf q=lpf q ^ a)))=true:=by decide +kernel
theorem A5 {n:Int}{A:List Int}(n2:n<=60)(h:Beat n A){d:Int}(hd:d∈ppI n):hasB A d=evq A d.toNat:=by
 obtain⟨h1,h2,_,h3⟩:=nM h.pos hd;have t:=List.all_eq_true.mp Ag d.toNat (List.mem_range.mpr ⋯);rw[h3,Dx,DO,C3] at t;obtain⟨a,ha,e⟩:=List.any_eq_true.mp t.2;rw[C3,decide_eq_true_eq,decide_eq_true_eq] at e;have k:=Af (a:=a) t.1 (by rw[e.1];omega) (qx h);rw[e.1] at k;have ed:((d.toNat:Nat):Int)=d:=⋯
 rw[ed] at k;unfold evq;rw[e.2,DS,k,zI]
theorem zq {n:Int}{A:List Int}(n2:n<=60)(h:Beat n A):frB n A=frE n A:=by
 unfold frB frE;have:(ppI n).filter (λ d=>hasB A d)=(ppI n).filter λ d=>evq A d.toNat:=List.filter_congr λ d hd=>A5 n2 h hd
 rw[this]
def bm (n:Int)(A:List Int)(s:Int):Nat:=A.foldl (λ m x=>m ||| (1 <<< ((x+s)%n).toNat)) 0
theorem qP {n s:Int}{j:Nat}:∀ (A:List Int) (m:Nat),(A.foldl (λ m x=>m ||| (1 <<< ((x+s)%n).toNat)) m).testBit j=true ↔ m.testBit j=true\/∃ x∈A,((x+s)%n).toNat=j
 | [],m=>by simp
 | x::A,m=>by
  rw[C7,qP A,FW,DU,Nat.one_shiftLeft,Nat.testBit_two_pow,decide_eq_true_eq,or_assoc];simp
theorem tb_bm {n s:Int}{A:List Int}{j:Nat}:(bm n A s).testBit j=true ↔ ∃ x∈A,((x+s)%n).toNat=j:=by
 unfold bm;rw[qP];simp
def slv (n:Int)(A:List Int):Nat->Nat->Bool
 | 0,_=>true
 | f+1,m=>match (List.range n.toNat).find? λ j=>!m.testBit j with
  | none=>true
  | some p=>A.any λ x=>(m &&& bm n A (((p:Int)-x)%n) == 0)&&slv n A f (m ||| bm n A (((p:Int)-x)%n))
theorem qH {n:Int}{A B:List Int}(h:Fill n A B):∀ (f m:Nat) (S:List Int),(∀ s∈S,s∈B)->(∀ j:Nat,m.testBit j=true ↔ ∃ s∈S,∃ x∈A,((x+s)%n).toNat=j)->slv n A f m=true
 | 0,_,_,_,_=>rfl
 | f+1,m,S,hS,hm=>by
  have hp:=h.one.pos;unfold slv;cases hf:(List.range n.toNat).find? λ j=>!m.testBit j with
  | none=>rfl
  | some p=>
   simp only;have p1:=List.find?_some hf;have p2:=List.mem_range.mp (List.mem_of_find?_eq_some hf);have p3:m.testBit p=false:=by simpa using p1
   have pin:(p:Int)∈hits n A B:=h.perm.mem_iff.mpr (List.mem_map.mpr ⟨p,List.mem_range.mpr p2,rfl⟩);obtain⟨b,hb,x,hx,e⟩:∃ b∈B,∃ x∈A,(b+x)%n=(p:Int):=by
    unfold hits at pin;simp only[EC,Eo] at pin;obtain⟨b,hb,x,hx,e⟩:=pin;exact⟨b,hb,x,hx,by rw[ER];exact e⟩
   have rb:=h.oth.rg b hb;have eb:((p:Int)-x)%n=b:=by
    rw[<- e,Int.emod_sub_emod,Int.add_sub_cancel,Em rb.1 rb.2]
   refine List.any_eq_true.mpr ⟨x,hx,?_⟩;rw[eb,C3];have nb:b∉S:=λ z=>by
    have:m.testBit p=true:=(hm p).mpr ⟨b,z,x,hx,by rw[ER x b,e];omega⟩;rw[p3] at this;cases this
   refine⟨beq_iff_eq.mpr (Nat.eq_of_testBit_eq λ j=>?_),qH h f _ (S++[b]) (λ s hs=>?_) λ j=>?_⟩
   ·rw[Nat.testBit_and,Nat.zero_testBit]
    cases q1:m.testBit j with
    | false=>rfl
    | true=>
     cases q2:(bm n A b).testBit j with
     | false=>rfl
     | true=>
      obtain⟨s,hs,y,hy,e1⟩:=(hm j).mp q1;obtain⟨z,hz,e2⟩:=tb_bm.mp q2;have r1:=bu (n:=n) (a:=y+s) ⋯;have r2:=bu (n:=n) (a:=z+b) ⋯;have:=h.inj y hy z hz s (hS s hs) b hb ⋯;exact absurd (this.2▸hs) nb
   ·rcases List.mem_append.mp hs with hs|hs
    ·exact hS s hs
    ·rw[List.mem_singleton.mp hs];exact hb
   ·rw[FW,DU,hm j,tb_bm]
    constructor
    ·rintro (⟨s,hs,r⟩|r)
     ·exact⟨s,DC _ hs,r⟩
     ·exact⟨b,Dl _ (by simp),r⟩
    ·rintro ⟨s,hs,r⟩
     rcases List.mem_append.mp hs with hs|hs
     ·exact .inl ⟨s,hs,r⟩
     ·rw[List.mem_singleton.mp hs] at r;exact .inr r
theorem zu:((List.range 13).all λ n=>(List.range (n+1)).all λ a=>decide (a=0) || (decide (n%a≠0) || (G a n [] 0).all λ A=>frE (n:Int) A || !slv (n:Int) A 12 (bm (n:Int) A 0)))=true:=by decide +kernel
theorem tW {n:Int}{A B:List Int}(n2:n<=12)(h:Fill n A B)(h0:(0:Int)∈B):frB n A=true:=by
 have hp:=h.one.pos;have hl:=h.one.len1;have hlen:=h.len;have en:((n.toNat:Nat):Int)=n:=⋯
 have hal:A.length*B.length=n.toNat:=⋯
 have t:=List.all_eq_true.mp (List.all_eq_true.mp zu n.toNat (List.mem_range.mpr ⋯)) A.length (List.mem_range.mpr (by have:=h.one.len;omega));rw[decide_eq_false ⋯,DO,decide_eq_false (by rw[<- hal];simp),DO] at t;have t:=List.all_eq_true.mp t A ((kP _ _ _ _).mpr ⟨A,rfl,rfl,h.one.up,λ x hx=>by have:=h.one.rg x hx;omega⟩);rw[en] at t;rw[qH h 12 _ [0] (λ s hs=>by rw[List.mem_singleton.mp hs];exact h0) (λ j=>by rw[tb_bm];simp),Dx,Ei] at t;rw[zq ⋯ h.one];exact t
theorem t5 (b:List Int)(f:Bool):∃ f',Dv.sliceD (L b) f (some 1) none=.ok (L (b.drop 1)) f':=by
 refine⟨f || Dv.flatL (Dv.cutL (b.map .int) (some 1) none),?_⟩;unfold Dv.sliceD L;simp only;congr 2;unfold Dv.cutL Dv.cutI;simp only[CY];rw[if_neg ⋯];cases b with
 | nil=>rfl
 | cons x r=>
  simp only[CQ,CN,Fx,En,CN];have:min (1:Int).toNat (r.length+1)=1:=by show min 1 _=1;omega
  rw[this];simp only[FD,Fx,En];exact D2 (by simp)
theorem oB {n:Int}{b:List Int}(h:Beat n b){p:Int}(hp:0<=p/\p<n)(hn:p∉b):Beat n (Dv.isort (b.drop 1++[p])):=by
 refine fH (by simp) (List.nodup_append.mpr ⟨h.nd.sublist (List.drop_sublist _ _),by simp,λ x hx y hy e=>?_⟩) λ x hx=>?_
 ·simp at hy;subst hy;subst e;exact hn (Fs hx)
 ·rcases List.mem_append.mp hx with hx|hx
  ·exact h.rg x (Fs hx)
  ·simp at hx;subst hx;exact hp
theorem yA:((List.range 13).all λ a=>(List.range 13).all λ k=>decide (a*(k+1) > 12) || (decide (bnd a k<=2000)&&decide (a ^ k<64)))=true:=by decide +kernel
theorem zA {a k:Nat}(ha:1<=a)(h:a*(k+1)<=12):bnd a k<=2000/\a ^ k<64:=by
 have h1:a<13:=by have:=Nat.le_mul_of_pos_right a (show 0<k+1 by omega);omega
 have h2:k<13:=by have:=Fg (k+1) ha;omega
 have:=List.all_eq_true.mp (List.all_eq_true.mp yA a (List.mem_range.mpr h1)) k (List.mem_range.mpr h2);simp only[DU,C3,decide_eq_true_eq] at this
 rcases this with h' | h'
 ·omega
 ·exact h'
theorem v7 {ds:List Int}(hl:ds.length=11)(hg:∀ d∈ds,0<=d/\d<1000000000000000000000000000000){k n:Int}(hk:0<=k)(hk2:k<=9)(hn:1<=n)(hn2:n<=60):∃ xs,F_Q0T [L ds,.int k,.int n]=.ok (L xs) true/\Beat n xs:=by
 have c1:=c7 (s:=ds) (k:=k) hk ⋯;have ⟨c1a,c1b⟩:0<=bh ds k/\bh ds k<1000000000000000000000000000000:=hg _ (getD_mem ⋯);have c2:=c7 (s:=ds) (k:=k+1) ⋯ ⋯;obtain⟨y,z,e⟩:=kC (bits:=bh ds k*618970019642690137449562111%2305843009213693951) (share:=bh ds (k+1)%5) (L ds) (.int k) (.int n) (upto n.toNat) [] .no .no me (by rw[upto_len];simp;omega);rw[<- sr] at e;have hx:(0:Nat)<Dv.mx:=by decide
 have hmul:opD .mul (.int (bh ds k)) (.int 618970019642690137449562111)=.ok (.int (bh ds k*618970019642690137449562111)) true:=bN (xO (DJ (yv (k:=100) ⋯ ⋯ ⋯) ⋯) (by decide));by_cases hf:((upto n.toNat).filter λ p=>decide (dU (bh ds k*618970019642690137449562111%2305843009213693951) (bh ds (k+1)%5) p=1))=[]
 ·rw[hf] at e
  refine⟨[bh ds (k+1)/5%n],?_,by simp,by simp,λ x hx=>by rw[DE] at hx;subst hx;exact bu ⋯⟩;simp only[CP,L,DT] at e;have q:cmD .eq (.lst []) (.lst [])=.ok (.bl true) true:=g9 [] [];simp only[F_Q0T,b_Q0T,b_Q0T_t5,b_Q0T_t4,b_Q0T_t3,b_Q0T_t2,b_Q0T_t1,Dv.fn,sCons,sSet,aI,keep_nil,Dv.give,Dv.open_,aE,aw,aS,sIf,sRetO,sApp,sFor,iRange,eCm,eOp,eVar,eInt,eLst,lNil,lCons,eCall,Dv.all,R.bind,RL.bind,Dv.R.bindL,Dv.RL.bindL,Out.bind,bf,ar,aQ,ag,ak,CN,CP,CQ,C4,List.replicate,CZ,C1,CM,CO,CT,CU,C8,C2,if_true,Nat.reduceAdd,Nat.reduceSub,bH,c1,c2,hmul,aB (j:=2305843009213693951) (by decide),aB (j:=5) (by decide),de (n:=n) ⋯ ⋯,bA,Dv.flatL,e,cC (j:=5) (by decide) (by decide),aB (show (0:Int)<n by omega),decide_eq_true hx,q]
  all_goals rfl
 ·refine⟨_,?_,hf,(xu _).filter _,λ x hx=>by have:=mem_upto.mp (List.mem_filter.mp hx).1;omega⟩
  simp only[C1,CP,L] at e;have q:=f6 ((upto n.toNat).filter λ p=>decide (dU (bh ds k*618970019642690137449562111%2305843009213693951) (bh ds (k+1)%5) p=1));simp only[L] at q;simp only[F_Q0T,b_Q0T,b_Q0T_t5,b_Q0T_t4,b_Q0T_t3,b_Q0T_t2,b_Q0T_t1,Dv.fn,sCons,sNil,sSet,aI,keep_nil,Dv.give,Dv.open_,aE,aw,aS,sIf,sRetO,sFor,iRange,eCm,eOp,eVar,eInt,eLst,lNil,lCons,eCall,Dv.all,R.bind,RL.bind,Dv.R.bindL,Dv.RL.bindL,Out.bind,bf,ar,aQ,ag,ak,CN,CP,CQ,C4,List.replicate,CZ,C1,CM,CO,CT,CU,C8,C2,if_true,Nat.reduceAdd,Nat.reduceSub,bH,bq,c1,c2,hmul,aB (j:=2305843009213693951) (by decide),aB (j:=5) (by decide),de (n:=n) ⋯ ⋯,bA,Dv.flatL,e,q,decide_eq_false hf]
theorem vB {ds:List Int}(hl:ds.length=11)(hg:∀ d∈ds,0<=d/\d<1000000000000000000000000000000):∃ n b f,F_Q0F [L ds]=.ok (.lst [.int n,L b]) f/\Beat n b/\n<=12:=by
 have c0:=c7 (s:=ds) (k:=0) ⋯ ⋯;obtain⟨n,p,q,f,e,⟨hp,_⟩,n2⟩:=vF t4 (s:=ds) (k0:=1) ⋯ ⋯ ⋯;have hpos:=hp.pos;have r4:=bu (n:=4) (a:=bh ds 0) ⋯;generalize hq:bh ds 0%4=kind at *;by_cases h1:kind=1
 ·have hm:=bu (n:=10) (a:=bh ds 0/4) ⋯
  have n1:1<=1+bh ds 0/4%10:=⋯
  obtain⟨xs,so,sb⟩:=v7 hl hg (k:=9) (n:=1+bh ds 0/4%10) ⋯ ⋯ n1 ⋯;have h2:¬ kind=2:=⋯
  refine⟨1+bh ds 0/4%10,xs,false,?_,sb,⋯⟩;simp only[F_Q0F,b_Q0F,b_Q0F_t1,b_Q0F_t2,b_Q0F_t3,b_Q0F_t4,Dv.fn,sCons,sNil,sSet,aI,bB,Dv.give,Dv.open_,aK,aE,aw,sIf,sRet,sUnpack,Dv.setAll,eCm,eOp,eVar,eInt,eLst,lNil,lCons,eCall,Dv.all,R.bind,RL.bind,Dv.R.bindL,Dv.RL.bindL,Out.bind,bf,ar,aQ,ag,ak,CN,CP,CQ,C4,List.replicate,CZ,C1,CM,CO,CT,CU,C7,C8,C5,C2,Di,if_true,Nat.reduceAdd,Nat.reduceSub,bH,bI,e,c0,aB (j:=4) (by decide),hq,decide_eq_true h1,cC (j:=4) (by decide) (by decide),aB (j:=10) (by decide),so,decide_eq_false h2]
 ·by_cases h2:kind=2
  ·have hm:=bu (n:=n) (a:=bh ds 0/4) ⋯
   by_cases hin:bh ds 0/4%n∈p
   ·refine⟨n,p,false,?_,hp,n2⟩
    simp only[F_Q0F,b_Q0F,b_Q0F_t1,b_Q0F_t2,b_Q0F_t3,b_Q0F_t4,Dv.fn,sCons,sNil,sSet,aI,Dv.give,Dv.open_,aK,aE,aw,sIf,sRet,sUnpack,Dv.setAll,eCm,eOp,eVar,eInt,eLst,lNil,lCons,eCall,Dv.all,R.bind,RL.bind,Dv.R.bindL,Dv.RL.bindL,Out.bind,bf,ar,ag,ak,CN,CP,CQ,C4,List.replicate,CZ,C1,CM,CO,CT,CU,C7,C8,C5,C2,Di,Dx,if_true,Nat.reduceAdd,Nat.reduceSub,bI,jN,e,c0,aB (j:=4) (by decide),hq,decide_eq_false h1,decide_eq_true h2,cC (j:=4) (by decide) (by decide),aB (j:=n) ⋯,decide_eq_true hin]
   ·have hl:=hp.len
    obtain⟨f',ed⟩:=t5 p false;have ec:=gf (a:=p.drop 1) (b:=[bh ds 0/4%n]) (by simp;omega);have es:=eB (xs:=p.drop 1++[bh ds 0/4%n]) (by simp;omega) true;have e1:L [bh ds 0/4%n]=.lst [.int (bh ds 0/4%n)]:=rfl;rw[e1] at ec;refine⟨n,Dv.isort (p.drop 1++[bh ds 0/4%n]),false,?_,oB hp hm hin,n2⟩;simp only[F_Q0F,b_Q0F,b_Q0F_t1,b_Q0F_t2,b_Q0F_t3,b_Q0F_t4,Dv.fn,sCons,sNil,sSet,aI,bB,Dv.give,Dv.open_,aK,aE,aw,sIf,sRet,sUnpack,Dv.setAll,eB1,eCm,eOp,eVar,eInt,eLst,lNil,lCons,eCall,eSlice,ePart,Dv.all,R.bind,RL.bind,Dv.R.bindL,Dv.RL.bindL,Out.bind,bf,ar,aQ,ag,ak,CN,CP,CQ,C4,List.replicate,CZ,C1,CM,CO,CT,CU,C7,C8,C5,C2,Di,D4,if_true,Nat.reduceAdd,Nat.reduceSub,bI,jN,e,c0,aB (j:=4) (by decide),hq,decide_eq_false h1,decide_eq_true h2,cC (j:=4) (by decide) (by decide),aB (j:=n) ⋯,decide_eq_false hin,ed,ec,es]
  ·refine⟨n,p,false,?_,hp,n2⟩
   simp only[F_Q0F,b_Q0F,b_Q0F_t1,b_Q0F_t2,b_Q0F_t3,b_Q0F_t4,Dv.fn,sCons,sNil,sSet,aI,Dv.give,Dv.open_,aK,aE,aw,sIf,sRet,sUnpack,Dv.setAll,eCm,eOp,eVar,eInt,eLst,lNil,lCons,eCall,Dv.all,R.bind,RL.bind,Dv.R.bindL,Dv.RL.bindL,Out.bind,bf,ar,ag,ak,CN,CP,CQ,C4,List.replicate,CZ,C1,CM,CO,CT,CU,C7,C8,C5,C2,Di,if_true,Nat.reduceAdd,Nat.reduceSub,bI,e,c0,aB (j:=4) (by decide),hq,decide_eq_false h1,decide_eq_false h2]
theorem nQ (X:List (List Int)):Dv.depthL (X.map L)<=1:=by
 induction X with
 | nil=>unfold Dv.depthL;simp
 | cons r X ih=>rw[CN];unfold Dv.depthL;rw[hU];omega
theorem tZ (X:List (List Int)):cmD .eq (LL X) (.lst [])=.ok (.bl (decide (X=[]))) true:=by
 unfold LL;have h1:=nQ X;have h:(decide (Dv.depthD (.lst (X.map L))<=9)&&decide (Dv.depthD (.lst [])<=9))=true:=by
  rw[C3];refine⟨decide_eq_true ?_,decide_eq_true ?_⟩
  ·unfold Dv.depthD;omega
  ·unfold Dv.depthD Dv.depthL;omega
 cases X with
 | nil=>rfl
 | cons r X=>simp only[Dv.cmD_eq,Dv.cmD_ne,Dv.cmD_lt,Dv.cmD_le,Dv.cmD_gt,Dv.cmD_ge,Dv.cmD_in,Dv.cmD_ni,Dv.cmD_it,Dv.cmD_nt,h,if_true];simp[Dv.eqD,Dv.eqDL];rfl
theorem Aa (a:Dv.An):Dv.depthD a.d<=1:=by
 cases a <;>simp[Dv.An.d,Dv.depthD,Dv.depthL]
theorem yf (l:List Dv.An):Dv.depthL (l.map Dv.An.d)<=1:=by
 induction l with
 | nil=>unfold Dv.depthL;simp
 | cons a r ih=>rw[CN];unfold Dv.depthL;have:=Aa a;omega
theorem wB (w:Dv.Ws)(x:List Nat):Dv.eqSD (Dv.rowsD w) (.str x)=.ok (.bl false) true:=by
 unfold Dv.rowsD Dv.eqSD;simp only;rw[if_pos];rw[decide_eq_true_eq];have:∀ l:List (Int×Nat),Dv.depthL (l.map λ p=>D.tup [.int p.1,.lst (((w.sto[p.2]?).getD []).map Dv.An.d)])<=3:=λ l=>by
  induction l with
  | nil=>unfold Dv.depthL;simp
  | cons p r ih=>
   rw[CN];unfold Dv.depthL;have:=yf ((w.sto[p.2]?).getD []);have h2:Dv.depthD (D.tup [.int p.1,.lst (((w.sto[p.2]?).getD []).map Dv.An.d)])<=3:=by
    simp only[Dv.depthD,Dv.depthL];omega
   omega
 have:=this w.rows;omega
theorem ze (B:List Int):∀ X:List (List Int),Dv.eqsD (X.map L) (L B)=some (X.map λ r=>decide (r=B))
 | []=>rfl
 | r::X=>by
  rw[CN];unfold Dv.eqsD;rw[ze B X,AH];rfl
theorem zx {X:List (List Int)}{B:List Int}(hB:B∈X)(hl:X.length<=1000):Dv.inG true (L B) (LL X)=.ok (.bl false) true:=by
 unfold LL Dv.inG;have h1:=nQ X;have z:(decide (Dv.depthL (X.map L)<=8)&&decide (Dv.depthD (L B)<=8)&&decide ((X.map L).length<=Dv.mx))=true:=by
  rw[hU,CY,decide_eq_true (show Dv.depthL (X.map L)<=8 by omega),decide_eq_true (show X.length<=Dv.mx by unfold Dv.mx;omega)];rfl
 simp only[z,if_true,ze];have:((X.map λ r=>decide (r=B)).any id)=true:=by
  rw[List.any_eq_true];exact⟨true,List.mem_map.mpr ⟨B,hB,by simp⟩,rfl⟩
 rw[this];rfl
theorem vj {n:Int}{A:List Int}(h:Beat n A)(n2:n<=12):
  (n%(A.length:Int)≠0/\(∃ f,F_Q0C [.int n,L A]=.ok (LL []) f)/\∃ f,F_Q15 [.int n,L A]=.ok (.tup [.str Dv.barC,.str pB]) f) \/
  (n%(A.length:Int)=0/\(∃ f,F_Q0C [.int n,L A]=.ok (LL []) f)/\((∃ f,F_Q15 [.int n,L A]=.ok (.tup [.str Dv.barC,.str oS]) f)\/∃ w f,F_Q15 [.int n,L A]=.ok (.tup [.str Dv.barC,Dv.rowsD w]) f)) \/
  ∃ B X,B∈X/\X.length<=1000/\Fill n A B/\(∃ f,F_Q0C [.int n,L A]=.ok (LL X) f)/\(∃ f,F_Q15 [.int n,L A]=.ok (.tup [.str Dv.staC,L B]) f)/\F_Q0N [.int n,L A,L B,LL X]=.ok (.bl true) true:=by
 have hp:=h.pos;have hl:=h.len1;by_cases hz:n%(A.length:Int)=0
 ·refine .inr ?_
  obtain⟨k,hk⟩:∃ k:Nat,((A.length*(k+1):Nat):Int)=n:=by
   obtain⟨c,hc⟩:=Ed hz;have hc1:1<=c:=by
    by_cases z:1<=c
    ·exact z
    ·have:(A.length:Int)*c<=(A.length:Int)*0:=DV ⋯ ⋯
     omega
   refine⟨(c-1).toNat,?_⟩;rw[Ej,hc];congr 1;omega
  have ⟨b1,b2⟩:=zA hl (show A.length*(k+1)<=12 by omega);have c1:=vX h (k+1) [0];have c2:=qY h (k+1) [0];simp only[FD] at c1 c2;obtain⟨f,e2⟩:=oa h n2 hk;have el:=xH h hk;have ep:=(Dv.lsort_perm (dfs n A (k+1) [0]));rw[el] at ep;cases hd:dfs n A (k+1) [0] with
  | nil=>
   refine .inl ⟨hz,⟨f,?_⟩,?_⟩
   ·rw[e2]
    rw[hd] at ep;rw[ep.eq_nil]
   ·cases hf:frB n A with
    | false=>exact .inl (lJ h ⋯ hz hf)
    | true=>
     rcases jY h ⋯ hk ⋯ hf with ⟨_,w,f,e⟩|⟨B,RR,f,e0,_⟩
     ·exact .inr ⟨w,f,e⟩
     ·rw[hd] at e0;cases e0
  | cons B RR=>
   have hs:=λ r (hr:r∈dfs n A (k+1) [0])=>bV h (k+1) [0] (gY h) (by simp) r hr
   obtain⟨fB,h0⟩:=hs B (by rw[hd];exact CS ..);have hf:frB n A=true:=tW n2 fB (h0 0 (by simp))
   rcases jY h ⋯ hk ⋯ hf with ⟨e0,_⟩|⟨B',RR,f',e0,e⟩
   ·rw[hd] at e0;cases e0
   ·rw[hd] at e0
    obtain⟨rfl,_⟩:=List.cons.inj e0;have hBl:B.length=k+1:=by
     have:=fB.len;exact DR hl ⋯
    refine .inr ⟨B,nW n A k,ep.mem_iff.mpr (by rw[hd];exact CS ..),by rw[ep.length_eq];omega,fB,⟨f,e2⟩,⟨f',e⟩,?_⟩;exact tu h ⋯ (λ r hr=>(hs r (ep.mem_iff.mp hr)).1) fB (h0 0 (by simp)) hd ⋯
 ·exact .inl ⟨hz,⟨_,oy h hz⟩,tI h ⋯ hz⟩
theorem law42_ok {s:List Int}(hs:s.length<=63):F_Q0O [L s]=.ok (.bl true) true:=by
 obtain⟨ds,ed,hdl,hdg⟩:=ui hs (m:=11) ⋯ ⋯;obtain⟨n,A,f0,e0,h,n2⟩:=vB (ds:=ds) ⋯ hdg;have hp:=h.pos;have hl:=h.len1;have ls:Dv.listD (L A) false=.ok (L A) true:=by
  unfold Dv.listD L;simp[bq]
 have em:=aB (i:=n) (j:=(A.length:Int)) ⋯;have lenA:Dv.lenD (L A) false=.ok (.int (A.length:Int)) true:=by unfold L Dv.lenD;simp
 have i0:∀ (d e:D),Dv.ixD (.tup [d,e]) (.int 0) false=.ok d (false || Dv.scal d):=λ d e=>rfl
 have i1:∀ (d e:D),Dv.ixD (.tup [d,e]) (.int 1) false=.ok e (false || Dv.scal e):=λ d e=>rfl
 have two:decide (((2:Nat):Int)=2)=true:=by decide
 have a0:∀ (d e:D),Dv.at? [d,e] 0=some d:=λ d e=>rfl
 have a1:∀ (d e:D),Dv.at? [d,e] 1=some e:=λ d e=>rfl
 have t0:∀ (d e:D),Dv.isTupD (.tup [d,e]) false=.ok (.bl true) true:=λ d e=>rfl
 have bb:Dv.eqSD (.str Dv.barC) (.str [98,97,114,114,101,100])=.ok (.bl true) true:=rfl;have cc:Dv.eqSD (.str pB) (.str [99,111,117,110,116])=.ok (.bl true) true:=rfl;have pc:Dv.eqSD (.str oS) (.str [99,111,117,110,116])=.ok (.bl false) true:=rfl;have ss:cmD .ne (.str Dv.staC) (.str [115,116,97,114,116,115])=.ok (.bl false) true:=rfl;have hnn:cmD .eq (LL []) (.lst [])=.ok (.bl true) true:=rfl
 rcases vj h n2 with ⟨hz,⟨f1,e1⟩,f2,e2⟩|⟨hz,⟨f1,e1⟩,⟨f2,e2⟩|⟨w,f2,e2⟩⟩|⟨B,X,hB,hXl,fB,⟨f1,e1⟩,⟨f2,e2⟩,ef⟩
 ·simp only[F_Q0O,b_Q0O,b_Q0O_t1,b_Q0O_t2,b_Q0O_t3,b_Q0O_t4,b_Q0O_t5,b_Q0O_t6,b_Q0O_t7,sUnpackL,Dv.fn,sCons,sNil,sSet,sSetG,bB,Dv.give,Dv.open_,aK,fA,aE,aw,sIf,sRet,sUnpackL,Dv.setAll,eB1,eB2,Dv.lenD,Dv.listD,eIx,Dv.ixD,eOr,eAnd,eNot,eCm,eOp,eVar,eInt,eStr,eLst,lNil,lCons,eCall,Dv.all,R.bind,RL.bind,Dv.R.bindL,Dv.RL.bindL,Out.bind,bf,ar,Dv.isTupD,ag,ak,gs,CN,CP,CQ,C4,List.replicate,CZ,C1,CM,CO,CT,CU,C7,C8,C5,Dn,C2,Di,Dx,D4,if_true,Nat.reduceAdd,Nat.reduceSub,decide_true,da,oA,l8,gJ,bq,CY,ed,e0,e1,e2,ls,hnn,eB2,bb,lenA,em,two,a0,a1,decide_true,beq_self_eq_true,cc,decide_eq_false hz]
 ·simp only[F_Q0O,b_Q0O,b_Q0O_t1,b_Q0O_t2,b_Q0O_t3,b_Q0O_t4,b_Q0O_t5,b_Q0O_t6,b_Q0O_t7,sUnpackL,Dv.fn,sCons,sNil,sSet,sSetG,bB,Dv.give,Dv.open_,aK,fA,aE,aw,sIf,sRet,sUnpackL,Dv.setAll,eB1,eB2,Dv.lenD,Dv.listD,eIx,Dv.ixD,eOr,eAnd,eNot,eCm,eOp,eVar,eInt,eStr,eLst,lNil,lCons,eCall,Dv.all,R.bind,RL.bind,Dv.R.bindL,Dv.RL.bindL,Out.bind,bf,ar,Dv.isTupD,ag,ak,gs,CN,CP,CQ,C4,List.replicate,CZ,C1,CM,CO,CT,CU,C7,C8,C5,Dn,C2,Di,Dx,if_true,Nat.reduceAdd,Nat.reduceSub,decide_true,da,oA,l8,gJ,bq,CY,ed,e0,e1,e2,ls,hnn,eB2,bb,lenA,em,two,a0,a1,decide_true,beq_self_eq_true,pc,decide_eq_true hz]
 ·simp only[F_Q0O,b_Q0O,b_Q0O_t1,b_Q0O_t2,b_Q0O_t3,b_Q0O_t4,b_Q0O_t5,b_Q0O_t6,b_Q0O_t7,sUnpackL,Dv.fn,sCons,sNil,sSet,sSetG,bB,Dv.give,Dv.open_,aK,fA,aE,aw,sIf,sRet,sUnpackL,Dv.setAll,eB1,eB2,Dv.lenD,Dv.listD,eIx,Dv.ixD,eOr,eAnd,eNot,eCm,eOp,eVar,eInt,eStr,eLst,lNil,lCons,eCall,Dv.all,R.bind,RL.bind,Dv.R.bindL,Dv.RL.bindL,Out.bind,bf,ar,Dv.isTupD,ag,ak,gs,CN,CP,CQ,C4,List.replicate,CZ,C1,CM,CO,CT,CU,C7,C8,C5,Dn,C2,DO,Di,Dx,if_true,Nat.reduceAdd,Nat.reduceSub,decide_true,da,oA,l8,gJ,bq,CY,ed,e0,e1,e2,ls,hnn,eB2,bb,lenA,em,two,a0,a1,decide_true,beq_self_eq_true,wB,decide_eq_true hz]
 ·have hXn:¬ X=[]:=λ z=>by rw[z] at hB;cases hB
  have hx:=tZ X;rw[decide_eq_false hXn] at hx;have hBl:=fB.oth.len;have hso:=eB (xs:=B) ⋯ false;rw[fB.oth.sorted] at hso;have hbi:=pq B B;rw[decide_eq_true rfl] at hbi;have hin:=zx hB hXl;simp only[F_Q0O,b_Q0O,b_Q0O_t1,b_Q0O_t2,b_Q0O_t3,b_Q0O_t4,b_Q0O_t5,b_Q0O_t6,b_Q0O_t7,sUnpackL,Dv.fn,sCons,sNil,sSet,sSetG,bB,Dv.give,Dv.open_,aK,fA,aE,aw,sIf,sRet,sUnpackL,Dv.setAll,eB1,eB2,Dv.lenD,Dv.listD,eIx,Dv.ixD,eOr,eNot,eCm,eVar,eInt,eStr,eLst,lNil,lCons,eCall,Dv.all,R.bind,RL.bind,Dv.R.bindL,Dv.RL.bindL,Out.bind,bf,ar,Dv.isTupD,ag,ak,gs,CN,CP,CQ,C4,List.replicate,CZ,C1,CM,CO,CT,CU,C7,C8,C5,Dn,C2,Ei,Di,EW,Dx,if_true,Nat.reduceAdd,Nat.reduceSub,decide_true,da,l8,gJ,bq,ed,e0,e1,e2,ls,eB2,bb,lenA,em,two,a0,a1,decide_true,beq_self_eq_true,hx,ss,hin,hso,hbi,ef]
end Cw
noncomputable def PySem.W.Fast.tw1003530989145996667:PySem.Program:=PySem.Challenge.pw_canonwheel_k42_whole_sought
theorem PySem.W.Fast.te1003530989145996667:PySem.Challenge.pw_canonwheel_k42_whole_sought=PySem.W.Fast.tw1003530989145996667:=rfl
def PySem.W.Fast.tw1414176059629497805 : Unit := ()
def PySem.W.Fast.tw18055793152377295982 : Unit := ()
def PySem.W.Fast.tw15318020314352295775 : Unit := ()
def PySem.W.Fast.tw17181615927874983863 : Unit := ()
def PySem.W.Fast.tw8519713496109606675 : Unit := ()
def PySem.W.Fast.tw15024690082683229011 : Unit := ()
def PySem.W.Fast.tw5622802238385470972 : Unit := ()
def PySem.W.Fast.tw14051282066978719437 : Unit := ()
def PySem.W.Fast.tw9925736043478549090 : Unit := ()
def PySem.W.Fast.tw12187147089909261033 : Unit := ()
def PySem.W.Fast.tw14046830823694340730 : Unit := ()
def PySem.W.Fast.tw10178169902851769466 : Unit := ()
def PySem.W.Fast.tw4509735628901618715 : Unit := ()
def PySem.W.Fast.tw2553818517289415655 : Unit := ()
def PySem.W.Fast.tw7023036931796141906 : Unit := ()
open PySem PySem.W PyProof.Rows
set_option maxRecDepth 100000 in
set_option maxHeartbeats 0 in
theorem PySem.Challenge.cw_canonwheel_k42_whole_sought_holds : PySem.Challenge.rw_canonwheel_k42_whole_sought.Holds := by
 w_on; o_law; k_head; (case hw => w_witness2)
 k_fill
 refine Sd.walkD (l := PySem.Challenge.rw_canonwheel_k42_whole_sought) (k := 8) (x := "_law_script") (CX := fun w => Sd.CXe PySem.Challenge.rw_canonwheel_k42_whole_sought.prog w) (Fl := Cw.F_Q0O) rfl rfl ⟨rfl,by decide,by decide⟩ (fun w h Y => PySem.W.kIn_of Y) (fun w => Sd.cxe_ok) ?F ?S
 case F =>
  intro w mg fa h KX G hmg
  refine' Lk42.all_mk KX G hmg ?D_check_wheel ?D_check_rising ?D_check_beat ?D_made_beat ?D_beat_sum ?D_without_last_noughts ?D_sum_divided ?D_divisors ?D_parts_of_divisors ?D_leaves_nought ?D_parts_had ?D_prime_of ?D_has_one_prime ?D_prime_powers ?D_powers_had ?D_first_rule ?a_Q17 ?l_Q17 ?c_Q17 ?k_Q17 ?t_turned ?D_places_filled ?D_ways_of ?D_count_divides ?D_law_draws ?D_law_cell ?D_law_whole ?D_law_beat_is ?D_law_some ?D_law_turned ?D_law_again ?D_law_pair ?D_law_fills ?D_law_all ?D_law_case ?D_law_filled ?D_law_none ?D_law_first ?D_first_that_fills ?D_partner_walk ?D_sought_partner ?a_Q0A ?l_Q0A ?c_Q0A ?k_Q0A ?z_len ?z_sorted ?z_list ?z_range ?z_enumerate ?z_all ?z_int ?z_isinstance ?z_bool ?z_zip ?z_max ?z_min ?z_tuple ?n_LONGEST ?n_LAST_PART ?n_MOST_CASES ?a_Walk ?pg_Walk ?hd_Walk ?po_Walk ?sa_Walk ?mk_Walk ?kc_Walk ?na_Walk_ways ?na_Walk_waiting ?na_Walk_rows ?na_Walk_gone ?a_Case ?pg_Case ?hd_Case ?po_Case ?sa_Case ?mk_Case ?kc_Case ?na_Case_laid ?na_Case_answers ?na_Case_at ?a_Case_init ?i_Case_init ?l_Case_init ?c_Case_init ?k_Case_init ?a_Walk_init ?i_Walk_init ?l_Walk_init ?c_Walk_init ?k_Walk_init ?a_Q1A ?i_write_row ?l_Q1A ?c_Q1A ?k_Q1A ?a_Q08 ?i_go_on ?l_Q08 ?c_Q08 ?k_Q08 ?a_4 ?x_4 ?g1_4 ?g2_4 ?g3_4 ?v_4 ?y_4 ?a_2 ?x_2 ?g1_2 ?g2_2 ?g3_2 ?v_2 ?y_2 ?a_0 ?x_0 ?g1_0 ?g2_0 ?g3_0 ?v_0 ?y_0 ?a_1 ?x_1 ?g1_1 ?g2_1 ?g3_1 ?v_1 ?y_1 ?a_3 ?x_3 ?g1_3 ?g2_3 ?g3_3 ?v_3 ?y_3 ?s_44 ?s_42 ?s_40 ?s_41 ?s_43 ?s_24 ?s_22 ?s_20 ?s_21 ?s_23 ?s_04 ?s_02 ?s_00 ?s_01 ?s_03 ?s_14 ?s_12 ?s_10 ?s_11 ?s_13 ?s_34 ?s_32 ?s_30 ?s_31 ?s_33
  (case D_check_wheel => exact ⟨_,_,_,_,_,_,_,_,_,_,by k_is,by k_is,by k_is,by k_is⟩)
  (case D_check_rising => exact ⟨_,_,_,_,_,_,_,_,_,_,by k_is,by k_is,by k_is,by k_is⟩)
  (case D_check_beat => exact ⟨_,_,_,_,_,_,_,_,_,_,by k_is,by k_is,by k_is,by k_is⟩)
  (case D_made_beat => exact ⟨_,_,_,_,_,_,_,_,_,_,by k_is,by k_is,by k_is,by k_is⟩)
  (case D_beat_sum => exact ⟨_,_,_,_,_,_,_,_,_,_,by k_is,by k_is,by k_is,by k_is⟩)
  (case D_without_last_noughts => exact ⟨_,_,_,_,_,_,_,_,_,_,by k_is,by k_is,by k_is,by k_is⟩)
  (case D_sum_divided => exact ⟨_,_,_,_,_,_,_,_,_,_,by k_is,by k_is,by k_is,by k_is⟩)
  (case D_divisors => exact ⟨_,_,_,_,_,_,_,_,_,_,by k_is,by k_is,by k_is,by k_is⟩)
  (case D_parts_of_divisors => exact ⟨_,_,_,_,_,_,_,_,_,_,by k_is,by k_is,by k_is,by k_is⟩)
  (case D_leaves_nought => exact ⟨_,_,_,_,_,_,_,_,_,_,by k_is,by k_is,by k_is,by k_is⟩)
  (case D_parts_had => exact ⟨_,_,_,_,_,_,_,_,_,_,by k_is,by k_is,by k_is,by k_is⟩)
  (case D_prime_of => exact ⟨_,_,_,_,_,_,_,_,_,_,by k_is,by k_is,by k_is,by k_is⟩)
  (case D_has_one_prime => exact ⟨_,_,_,_,_,_,_,_,_,_,by k_is,by k_is,by k_is,by k_is⟩)
  (case D_prime_powers => exact ⟨_,_,_,_,_,_,_,_,_,_,by k_is,by k_is,by k_is,by k_is⟩)
  (case D_powers_had => exact ⟨_,_,_,_,_,_,_,_,_,_,by k_is,by k_is,by k_is,by k_is⟩)
  (case D_first_rule => exact ⟨_,_,_,_,_,_,_,_,_,_,by k_is,by k_is,by k_is,by k_is⟩)
  (case a_Q17 | l_Q17 | c_Q17 | k_Q17 | t_turned => show _ = _; k_is)
  (case D_places_filled => exact ⟨_,_,_,_,_,_,_,_,_,_,by k_is,by k_is,by k_is,by k_is⟩)
  (case D_ways_of => exact ⟨_,_,_,_,_,_,_,_,_,_,by k_is,by k_is,by k_is,by k_is⟩)
  (case D_count_divides => exact ⟨_,_,_,_,_,_,_,_,_,_,by k_is,by k_is,by k_is,by k_is⟩)
  (case D_law_draws => exact ⟨_,_,_,_,_,_,_,_,_,_,by k_is,by k_is,by k_is,by k_is⟩)
  (case D_law_cell => exact ⟨_,_,_,_,_,_,_,_,_,_,by k_is,by k_is,by k_is,by k_is⟩)
  (case D_law_whole => exact ⟨_,_,_,_,_,_,_,_,_,_,by k_is,by k_is,by k_is,by k_is⟩)
  (case D_law_beat_is => exact ⟨_,_,_,_,_,_,_,_,_,_,by k_is,by k_is,by k_is,by k_is⟩)
  (case D_law_some => exact ⟨_,_,_,_,_,_,_,_,_,_,by k_is,by k_is,by k_is,by k_is⟩)
  (case D_law_turned => exact ⟨_,_,_,_,_,_,_,_,_,_,by k_is,by k_is,by k_is,by k_is⟩)
  (case D_law_again => exact ⟨_,_,_,_,_,_,_,_,_,_,by k_is,by k_is,by k_is,by k_is⟩)
  (case D_law_pair => exact ⟨_,_,_,_,_,_,_,_,_,_,by k_is,by k_is,by k_is,by k_is⟩)
  (case D_law_fills => exact ⟨_,_,_,_,_,_,_,_,_,_,by k_is,by k_is,by k_is,by k_is⟩)
  (case D_law_all => exact ⟨_,_,_,_,_,_,_,_,_,_,by k_is,by k_is,by k_is,by k_is⟩)
  (case D_law_case => exact ⟨_,_,_,_,_,_,_,_,_,_,by k_is,by k_is,by k_is,by k_is⟩)
  (case D_law_filled => exact ⟨_,_,_,_,_,_,_,_,_,_,by k_is,by k_is,by k_is,by k_is⟩)
  (case D_law_none => exact ⟨_,_,_,_,_,_,_,_,_,_,by k_is,by k_is,by k_is,by k_is⟩)
  (case D_law_first => exact ⟨_,_,_,_,_,_,_,_,_,_,by k_is,by k_is,by k_is,by k_is⟩)
  (case D_first_that_fills => exact ⟨_,_,_,_,_,_,_,_,_,_,by k_is,by k_is,by k_is,by k_is⟩)
  (case D_partner_walk => exact ⟨_,_,_,_,_,_,_,_,_,_,by k_is,by k_is,by k_is,by k_is⟩)
  (case D_sought_partner => exact ⟨_,_,_,_,_,_,_,_,_,_,by k_is,by k_is,by k_is,by k_is⟩)
  (case a_Q0A | l_Q0A | c_Q0A | k_Q0A | z_len | z_sorted | z_list | z_range | z_enumerate | z_all | z_int | z_isinstance | z_bool | z_zip | z_max | z_min | z_tuple | n_LONGEST | n_LAST_PART | n_MOST_CASES | a_Walk | pg_Walk | hd_Walk | po_Walk | sa_Walk | mk_Walk | kc_Walk | na_Walk_ways | na_Walk_waiting | na_Walk_rows | na_Walk_gone | a_Case | pg_Case | hd_Case | po_Case | sa_Case | mk_Case | kc_Case | na_Case_laid | na_Case_answers | na_Case_at | a_Case_init | i_Case_init | l_Case_init | c_Case_init | k_Case_init | a_Walk_init | i_Walk_init | l_Walk_init | c_Walk_init | k_Walk_init | a_Q1A | i_write_row | l_Q1A | c_Q1A | k_Q1A | a_Q08 | i_go_on | l_Q08 | c_Q08 | k_Q08 | a_4 => show _ = _; k_is)
  (case x_4 => k_exc)
  (case g1_4 | g2_4 | g3_4 => show _ = _; k_is)
  (case v_4 => show _ = _; kit_is)
  (case y_4 | a_2 => show _ = _; k_is)
  (case x_2 => k_exc)
  (case g1_2 | g2_2 | g3_2 => show _ = _; k_is)
  (case v_2 => show _ = _; kit_is)
  (case y_2 | a_0 => show _ = _; k_is)
  (case x_0 => k_exc)
  (case g1_0 | g2_0 | g3_0 => show _ = _; k_is)
  (case v_0 => show _ = _; kit_is)
  (case y_0 | a_1 => show _ = _; k_is)
  (case x_1 => k_exc)
  (case g1_1 | g2_1 | g3_1 => show _ = _; k_is)
  (case v_1 => show _ = _; kit_is)
  (case y_1 | a_3 => show _ = _; k_is)
  (case x_3 => k_exc)
  (case g1_3 | g2_3 | g3_3 => show _ = _; k_is)
  (case v_3 => show _ = _; kit_is)
  (case y_3 => show _ = _; k_is)
  (case s_44 | s_42 | s_40 | s_41 | s_43 | s_24 | s_22 | s_20 | s_21 | s_23 | s_04 | s_02 | s_00 | s_01 | s_03 | s_14 | s_12 | s_10 | s_11 | s_13 | s_34 | s_32 | s_30 | s_31 | s_33 => show _ = _; kit_is)
 case S => exact fun ns hl _ => Cw.law42_ok hl
